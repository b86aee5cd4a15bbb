import PyProof.Rows.All
import Wide.All
import OpenK.AllK
import Wide.FinOn
import PyProof.EqAt
import KE.KSortTup
import PyProof.EqKinds
import PyProof.TupleCall
import Lean
import PySem.Challenge.RW_ovalfield_k61_five_points_as_built
set_option Elab.async false
set_option linter.all false
set_option maxRecDepth 100000
set_option maxHeartbeats 4000000
open Option renaming some→Aa,none→Af,bind_eq_some_iff→AS,map_some→Dv,getD_none→RF,isSome_iff_exists→RG
open _root_ renaming List→Ab,Int→Ae,Nat→Ag,Bool→An,Option→Ap,if_pos→AH,if_neg→AO,decide_eq_true→AR,decide_eq_true_eq→AV,False→A6,Array→Bf,beq_iff_eq→Bi,of_decide_eq_true→Bv,or_false→BR,decide_eq_false→Ck,beq_eq_false_iff_ne→CH,not_or→C4,String→Dj,beq_self_eq_true→DP,Decidable→Ez,not_false_eq_true→Fw,if_true→Gp,True→Gv,if_false→GI,and_true→Ho,bne_iff_ne→HC,decide_eq_decide→fK,decide_eq_false_iff_not→fL
open Bool renaming true→Ac,false→Ad,and_eq_true→Al,false_ne_true→Au,not_eq_true'→Bu,toNat_true→B7,eq_iff_iff→Cy,or_eq_true→CU,and_false→Gh,and_true→QW,false_eq_true→QX
open PySem renaming Value→Ah,Addr→Ai,Str→Aj,Shared→Ak,wpAny_bind→Am,Expr→Ao,starEach→Ax,wpAny→AB,wpAny_pure→AE,Heap→AF,Obj→AJ,Program→AM,Pos→AN,mainGlobals→AT,World→AU,Around→A3,Stmt→Bq,binaryOp→BE,Env→BJ,assignEach→BL,cLine→BP,Scope→BS,wpAny_field→BU,FuncData→BV,wpAny_mono→BW,compareOp→B0,wpAny_truthy_bool→B1,mem_of_lookup→B2,foldedSetIterable→Ch,backTo→Cn,bootBuiltins→Co,cellsFrom→Cu,Tok→CA,wpAny_newObj_type→CD,wpAny_holding→CF,wpAny_callSpecial?_slot→CG,wpAny_seqItems→CJ,wpAny_setField_rec→CP,swappedStores→CZ,wpAny_pyIter_list→C3,NameKind→Dh,swapsWith→Dx,CmpOp→DB,IsPair→DE,wpAny_call_entry→DH,sizeLine_eq→DR,sliceBounds→DS,wpAny_passesOwn→D6,wpAny_pyIter_tuple→D9,swapsWithSole→El,wpAny_onRaise→Em,PassesOwn→EC,IsZip→EK,letOwnedTupleGo→EO,wpAny_updateSeq_pair→EQ,codeAny→E0,pushCells→Fe,rawInt→Ff,wpAny_Call_Name_kw→Fh,Sem→Fk,behindInMarks→Fl,wpAny_standAt→Fm,BindsTo→FA,Keyword→FB,callerA→FC,standAt→FD,IsPart→FN,Operator→FO,Paired→FP,pushCells_keeps→F3,isTrue→Gk,newFunctionEnv→Gm,notedBy→Gn,pyNext→Go,bindC→Gq,bindL→Gr,builtinsNs→Gs,numAt→Gu,codeAny_mono→GP,concat_meets→GQ,lastMarks→GR,preSum→GS,seqIndex_neg→GU,getItem→G3,setItem→G4,seqIndex_of→G9,wpAny_letGo→Ha,Model→Ht,Result→Hu,call→Hy,sysModules→Hz,wpAny_Name→HA,wpAny_rule→HB,seqIndex?→Ix,GenState→Iz,IntMulOk→IA,Params→IB,bindArgs→IC,intItems→ID,pyIter→IE,call_sum_walkG→SF,firstArgMember→SG,noFill_tuple_add→SH,recursionLimit→SJ,slot_list_getitem→SK,wpAny_assign_Name→SL,wpAny_comprehension_free→SM,wpAny_execs_nil→SN,wpAny_pyIter_enum→SQ,wpAny_pyIter_zip→SR,wpAny_pyNext_list_end→SU,wpAny_pyNext_list_item→SV,wpAny_setField→SX
open PySem.Heap renaming get?_push_of_some→Ar,lt_size→Aw,get?_push_size→AC,size_push→By,SameBut→D8,ExtBut→F5,FlyingW→R4,MadeExcOf→R5,get?_none_of_le→R8,get?_push_cases→R9,get?_update_other→Sa,get?_update_self→Sb
open List renaming mem_cons_of_mem→As,mem_cons→At,size_toArray→Az,mem_cons_self→AA,getElem?_eq_some_iff→AK,not_mem_nil→AW,length_set→A4,mem_append_right→Ba,mem_filter→Bc,length_append→Bp,getElem?_eq_getElem→Bz,length_cons→BA,length_map→BF,mem_singleton→BG,nodup_cons→BH,lookup_cons→BM,append_nil→B8,map_cons→Cb,range→Cc,getElem?_set_self→Cm,mem_map→CO,getD_eq_getElem?_getD→CV,isEmpty_eq_false_iff→C7,mem_range→Db,all_eq_true→Dc,filter_cons→Dd,zipWith→De,mem_append→Du,getElem?_map→DA,nodup_nil→DD,drop_eq_getElem_cons→DZ,getElem?_append_left→D0,length_nil→D3,map_append→D4,getElem?_set_self'→Ed,range_succ_eq_map→Ei,length_filter_le→EA,getElem?_set_ne→EE,mem_append_left→EF,toArray→EG,filterMap_cons→EU,getElem_of_mem→EV,map_congr_left→EW,forIn_nil→EX,all_cons→Fj,filter_congr→Ft,getElem?_set→Fu,getElem_mem→FI,isEmpty_iff→FJ,length_take→FK,map_map→FL,forIn_cons→F0,of_mem_zip→F1,map_nil→GN,map→Hb,all_map→Q5,any_cons→Q6,any_eq_true→Q7,contains_eq_mem→Q9,drop_eq_nil_of_le→Ra,eq_nil_of_length_eq_zero→Rb,ext_getElem?→Rc,filter_append→Re,filter_eq_nil_iff→Rg,getElem?_append_right→Rh,getElem?_cons_succ→Ri,getElem?_cons_zero→Rj,getElem?_replicate→Rk,length→Rl,length_drop→Rm,length_replicate→Rn,length_singleton→Ro,lookup→Rr,map_reverse→Rs,mem_filterMap→Rt,mem_of_getElem?→Ru,nodup_append→Rv,replicate→Rw,reverse_cons→Rx,reverse_perm→Ry,set_set→Rz,zipIdx_cons→RA,zipIdx_nil→RB
open Nat renaming lt_of_lt_of_le→AD,le_refl→AQ,ne_of_lt→A2,lt_irrefl→Be,le_trans→B9,lt_succ_of_lt→CC,ble→Ds,ne_of_gt→D7,lt_succ_self→En,le_of_ble_eq_true→EB,le_of_lt→EH,pow_le_pow_right→EI,lt_of_le_of_lt→Fc,not_lt_zero→F2,zero_le→F4,le_succ→G7,ble_eq→RC,min_self→RD,not_lt→RE
open Int renaming emod_eq_of_lt→AI,zero_emod→A1,emod_emod_of_dvd→A7,mul_emod→A9,emod_lt_of_pos→Bb,emod_nonneg→Bg,mul_comm→Bk,dvd_refl→BQ,mul_zero→BY,one_mul→Cw,zero_mul→Cz,mul_one→CN,toNat_natCast→Ee,zero_add→ED,mul_assoc→Fi,le_trans→GL,sub_zero→GM,le_refl→G5,mul_pos→G6,add_emod→Q0,mul_nonneg→Q1,sub_emod→Q2,zero_sub→Q3
open PySem.W renaming mg_none_of→Bj,nsIn→BK,keepIn→CI,fnOf→Di,hideAll_get→Do,OpenLaw→Ek,hideAll→EM,hideAll_none→EN,codeIn→EZ,of_hideAll→Fd,methodObj→Fv,findIn→Gj,mg_of→GJ,WalkO→Sr,cellsFrom_some→Su,funFrames_hide→Sv,kIn_of→Sw,kitOne→Sy,subIn→Sz
open Option.some renaming inj→Bl,injEq→BO
open PySem.Builtin.SmallTypes renaming nextOf→Bm,ownedTupleIsFree→Cd,ownedTupleHandOut→RP
open PySem.NameKind renaming cell→Bs,free→CY
open Prod renaming ext→Bw
open PyProof.Rows renaming callWith_type1→BB,envOfC→DQ,AllBare→Ec,boot_list→Ej,IntsAre→Gi,Call_→Hq,IsTup→Hr,boot_range→Hs,boot_tuple→RI,slicePart_none→RJ,slot_tuple_getitem→RK,subscriptTail_builtinR→RM
open Classical renaming byContradiction→Cv,choose_spec→DC,choose→QY
open PySem.F renaming slot_tuple_iterator_next→CW,slot_zip_next→EJ,args_tuple_add_2→RU,args_tuple_iterator_next_1→RW,args_zip_next_1→RX,entry_tuple_add→RY,entry_tuple_iterator_next→RZ,entry_zip_next→R0,slot_tuple_add→R1
open False renaming elim→C5
open PySem.Builtin.Slice renaming slicePlaces→C8,sliceAdjust→D5,sliceApplied→RO
open PySem.Builtin.Tuple renaming tupleExact→Dg
open ForInStep renaming yield→Dt
open PySem.Str renaming ofString→DF
open Array renaming length_toList→DT,toList→GK,getElem?_eq_getElem→QV
open PySem.SeqAt renaming EqAt→EL,RcNeAt→GO,RcAt→Hv
open Ne renaming symm→EY
open PySem.Obj renaming mapSeq→Fx,data_mapFields→Sd
open Sum renaming inl→FE,inr→FH
open PySem.Shared renaming heap→G8
open PySem.Value renaming none→Hw,bool→Sh,int→Si,ref→Sj,str→Sk,type→Sn
open PySem.Walks renaming list→Hx,tuple→SD
open NeZero renaming ne→Ir
open PyProof.Rows.IsTup renaming new→Iu
open PySem.Data renaming cell→Iw,seq→Iy
open Function renaming comp_def→QZ
open List.Perm renaming refl→Q4
open List.cons renaming injEq→Q8
open Prod.mk renaming injEq→RH
open PySem.Builtin.Int renaming intBits→RN
open PySem.Calls renaming Name_function_global→RQ,spliced_cons→RS,spliced_nil→RT
open PySem.Heap.SameBut renaming refl→R6,update→R7
open PySem.IsRange renaming new→Sc
open PySem.Paired renaming length→Se
open PySem.SeqAt.EqAt renaming of_refs→Sf,same→Sg
open PySem.W.WData renaming int→So
open PySem.W.WShape renaming has→Sq
abbrev Fg:=PySem.W.Frag
set_option genSizeOfSpec false
-- CHANGE: your row's module here, as the last of these rows
namespace L2
open PySem PySem.Spec PyProof.Rows
noncomputable abbrev Key := Sum Ae Aj
noncomputable def PR : Key -> Ah -> An
 |.inl k, v => Value.isInt k v
 |.inr x, v => Value.isStrOf x v
noncomputable def eJ(w : AU) : Key -> Ae
 |.inl k => hashInt k
 |.inr x => hashStr w x
theorem Gw : ∀{k : Key}{v : Ah}, PR k v = Ac -> (∃ i t, k = FE i /\ v = Si i t) \/ (∃ x t, k = FH x /\ v = Sk x t)
 |.inl i, v, h => by
  obtain⟨t, e⟩ := Value.isInt_shape (k := i) (v := v) h;exact .inl ⟨i, t, rfl, e⟩
 |.inr x, v, h => by
  obtain⟨t, e⟩ := Value.isStrOf_shape (x := x) (v := v) h;exact .inr ⟨x, t, rfl, e⟩
theorem Yy(a b : Ae) : decide ((FE a : Key) = FE b) = (a==b) := by
 by_cases e : a = b
 ·subst e;simp
 ·have h : ¬ (FE a : Key) = FE b := fun q => e (Sum.inl.inj q)
  rw[Ck h];exact(CH.mpr e).symm
theorem Yv(a b : Aj) : decide ((FH a : Key) = FH b) = decide (a = b) := by
 by_cases e : a = b
 ·subst e;simp
 ·have h : ¬ (FH a : Key) = FH b := fun q => e (Sum.inr.inj q)
  rw[Ck h, Ck e]
theorem Yx(a : Ae)(b : Aj) : decide ((FE a : Key) = FH b) = Ad := Ck (fun q => nomatch q)
theorem Yw(a : Aj)(b : Ae) : decide ((FH a : Key) = FE b) = Ad := Ck (fun q => nomatch q)
noncomputable def LD(prog : AM)(w : AU) : PySem.KeyKind prog w Key where
 is := PR
 hash := eJ w
 inj := fun v a b ha hb => by
  rcases Gw ha with ⟨i, t, rfl, rfl⟩|⟨x, t, rfl, rfl⟩
  ·rcases Gw hb with ⟨j, u, rfl, e⟩|⟨y, u, rfl, e⟩
   ·injection e with e1 _;rw[e1]
   ·exact nomatch e
  ·rcases Gw hb with ⟨j, u, rfl, e⟩|⟨y, u, rfl, e⟩
   ·exact nomatch e
   ·injection e with e1 _;rw[e1]
 byValue := fun k v h => by
  rcases Gw h with ⟨i, t, rfl, rfl⟩|⟨x, t, rfl, rfl⟩ <;> rfl
 pyHash := fun hv h => by
  rcases Gw hv with ⟨i, t, rfl, rfl⟩|⟨x, t, rfl, rfl⟩
  ·exact wpAny_pyHash_int h
  ·exact wpAny_pyHash_str h
 eqBool := fun hu hv h => by
  rcases Gw hu with ⟨i, t, rfl, rfl⟩|⟨x, t, rfl, rfl⟩
  ·rcases Gw hv with ⟨j, u, rfl, rfl⟩|⟨y, u, rfl, rfl⟩
   ·rw[Yy]at h;exact wpAny_eqBool_int h
   ·rw[Yx]at h;exact SeqAt.EqAt.int_str i t y u _ _ _ _ h
  ·rcases Gw hv with ⟨j, u, rfl, rfl⟩|⟨y, u, rfl, rfl⟩
   ·rw[Yw]at h;exact SeqAt.EqAt.str_int x t j u _ _ _ _ h
   ·rw[Yv]at h;exact wpAny_eqBool_str h
 «strs» := fun k x t v h => by
  rcases Gw h with ⟨i, u, rfl, e⟩|⟨y, u, rfl, e⟩
  ·exact nomatch e
  ·injection e with e1 _
   subst e1;cases v <;> rfl
end L2
namespace L2
open PySem PySem.Spec PyProof.Rows
variable{us:Ab Ah}{a b it:Ai}{P:AM}{h:AF}{o:AJ}{g':Bf Iz}{t' i k n:Ag}{d':Drawn}{ch fp:Ab Ai}{x qual:Aj}{M:Ht}{u:Ah}{Q:Unit -> Ak -> Prop}{e tg:Ao}{s:Ak}{pos:AN}{pI:Ab (Ai × AJ)}{es:Ab Ao}{body:Ab Bq}{f:Ah -> Ah -> Fk Ah}{g:Ae -> Ae -> Ae}{op op':DB}{fd:BV}{ps:Ab Aj}{scope:BS}
inductive V where
 |non|bl (b : An)|int (i : Ae)|str (x : Aj)|byt (b : Bf UInt8)|flt (b : UInt64)|ref (a : Ai)|ty (n : Dj)
 deriving DecidableEq
variable{xs vs:Ab V}{v y:V}
def Bo : V -> Ah -> Prop
 |.non, u => u = Hw
 |.bl b, u => u = Sh b
 |.int i, u => ∃ t, u = Si i t
 |.str x, u => ∃ t, u = Sk x t
 |.byt b, u => ∃ t, u = Value.bytes b t
 |.flt b, u => ∃ t, u = Value.float b t
 |.ref a, u => u = Sj a
 |.ty n, u => u = Sn n
noncomputable abbrev AZ : Ab V -> Ab Ah -> Prop := FP Bo
theorem AZ.length(r : AZ xs us) : xs.length = us.length := Se r
theorem AZ.get : ∀{xs : Ab V}{us : Ab Ah}{i : Ag}{x : V}, AZ xs us -> xs[i]? = Aa x -> ∃ u, us[i]? = Aa u /\ Bo x u
 |_, _, _, _, .nil, e => by simp at e
 |_, _, 0, _, .cons r _, e => by simp at e;subst e;exact⟨_, rfl, r⟩
 |_, _, i+1, x, .cons _ t, e => by
  obtain⟨u, h1, h2⟩ := AZ.get (i := i) (x := x) t (by simpa using e)
  exact⟨u, by simpa using h1, h2⟩
theorem AZ.set{x : V}{u : Ah}(r : Bo x u) : ∀{xs : Ab V}{us : Ab Ah}(i : Ag), AZ xs us -> AZ (xs.set i x) (us.set i u)
 |_, _, _, .nil => .nil
 |_, _, 0, .cons _ t => .cons r t
 |_, _, i+1, .cons q t => .cons q (AZ.set r i t)
theorem AZ.append : ∀{xs ys : Ab V}{us ws : Ab Ah}, AZ xs us -> AZ ys ws -> AZ (xs++ys) (us++ws)
 |_, _, _, _, .nil, s => s
 |_, _, _, _, .cons r t, s => .cons r (AZ.append t s)
theorem AZ.take : ∀{xs : Ab V}{us : Ab Ah}(n : Ag), AZ xs us -> AZ (xs.take n) (us.take n)
 |_, _, 0, _ => .nil
 |_, _, _+1, .nil => .nil
 |_, _, n+1, .cons r t => .cons r (AZ.take n t)
theorem AZ.drop : ∀{xs : Ab V}{us : Ab Ah}(n : Ag), AZ xs us -> AZ (xs.drop n) (us.drop n)
 |_, _, 0, r => r
 |_, _, _+1, .nil => .nil
 |_, _, n+1, .cons _ t => AZ.drop n t
def QR : Ap V -> Ap Ah -> Prop
 |some v, Aa u => Bo v u
 |none, Af => Gv
 |_, _ => A6
noncomputable def KV{κ : Type} : Ab (κ × V) -> Ab (κ × Ah) -> Prop := FP fun(p : κ × V)(q : κ × Ah) => p.1 = q.1 /\ Bo p.2 q.2
noncomputable def kV : Key -> V
 |.inl i => .int i
 |.inr x => .str x
inductive HO where
 /-- a list -/
 |lst (xs : Ab V)
 /-- a tuple (never changes) -/
 |tup (xs : Ab V)
 /-- a dict whose keys are ints and texts;one whose keys are tuples of ints and texts (the empty one is both) -/
 |dK (kvs : Ab (Key × V))|dT (kvs : Ab (Ab Key × V))
 /-- a set of ints: its members, its size -/
 |set (S : Ae -> An) (n : Ag)
 /-- an instance of the class at C, its dict at dx, its attributes -/
 |ins (C dx : Ai) (fs : Ab (Aj × V))
 /-- the dict of the instance at x -/
 |own (x : Ai)
 /-- the dict of an exception -/
 |xd (fs : Ab (Aj × V))
 /-- a bound method, f of x -/
 |met (f x : Ai)
 /-- a range object lo, lo+1, .. below hi -/
 |rng (lo hi : Ae)
 /-- a thing that is known to the object (the script;a dict while a loop walks it): read, never written while it is so -/
 |frz (o : AJ) (u : HO)
 /-- a code object's table -/
 |tbl (ps : Bf Ah)
 /-- any other thing, by what is Ac of its one object (a def of one's own: SetO a S n := HO.ext fun h => ..) -/
 |ext (φ : AF -> Prop)
noncomputable abbrev Hp := Ai -> Ap HO
variable{H:Hp}
noncomputable def upd(H : Hp)(a : Ai)(o : HO) : Hp := fun b => if b = a then Aa o else H b
theorem FQ{o:HO} : upd H a o a = Aa o := by unfold upd;rw[AH rfl]
theorem Cf{o:HO}(h : b ≠ a) : upd H a o b = H b := by unfold upd;rw[AO h]
theorem Ep{o:HO}(h : H a = Aa o)(h' : H b = Af) : a ≠ b := by
 intro e;subst e;rw[h]at h';cases h'
section
variable(P : AM)(w : AU)
def ObjOk(H : Hp)(h : AF)(a : Ai) : HO -> Prop
  |.lst xs => xs.length <= sizeLine /\ ∃(its : Ab Ah)(n : Ag), AZ xs its /\ h.get? a = Aa { cls := .type "list", data := .seq its.toArray n }
  |.tup xs => xs.length <= sizeLine /\ ∃ its : Ab Ah, AZ xs its /\ Hr h a its.toArray
  |.dK kvs => kvs.length <= sizeLine /\ (a==Hz) = Ad /\ ∃ vs, KV kvs vs /\ h.DictOf (LD P w) a vs
  |.dT kvs => kvs.length <= sizeLine /\ (a==Hz) = Ad /\ ∃ xs : Ab (Ab Key × Ai × Ah),
      FP (fun(p : Ab Key × V)(q : Ab Key × Ai × Ah) => p.1 = q.1 /\ H q.2.1 = Aa (.tup (p.1.map kV)) /\ Bo p.2 q.2.2) kvs xs /\
      ∃ o es ep, h.get? a = Aa o /\ o.ExactDict /\ o.data = .dict es ep /\ es.toList = xs.map (entryOfKey (tupleKind (LD P w))) /\ (xs.map (·.1)).Nodup
  |.set S n => h.SetOf (intKind P w) a S n
  |.ins C dx fs => H dx = Aa (.own a) /\ fs.length <= 1000 /\ dx ≠ a /\ h.get? a = Aa (PySem.W.instObj C dx) /\
      ∃ mA, h.Ns1 dx mA /\ (∀ f, QR (fs.lookup f) (mA f)) /\ PySem.Within mA (fs.map (·.1))
  |.own _ => ∃ o, h.get? a = Aa o
  |.xd fs => ∃ mA, h.Ns1 a mA /\ ∀ f, QR (fs.lookup f) (mA f)
  |.rng lo hi => ∃ t u v, h.get? a = Aa { cls := .type "range", data := .fields #[.int lo t, .int hi u, .int 1 v] }
  |.frz o u => h.get? a = Aa o /\ ObjOk H h a u
  |.tbl ps => h.get? a = Aa {cls := .none, data := .fields ps}
  |.met f x => h.get? a = Aa (Fv (.ref f) (.ref x))
  |.ext φ => φ h /\ (∃ o, h.get? a = Aa o) /\ ∀ h1 h2 : AF, φ h1 -> (∀ o, h1.get? a = Aa o -> h2.get? a = Aa o) -> φ h2
noncomputable def HOk(H : Hp)(h : AF) : Prop := ∀ a o, H a = Aa o -> ObjOk P w H h a o
end
section
variable{P : AM}{w : AU}{H H' : Hp}{h h' : AF}{a : Ai}{o : HO}
theorem ObjOk.lt(x : ObjOk P w H h a o) : a<h.objs.size := by
 cases o with
 |lst xs => obtain⟨_, _, _, _, e⟩ := x;exact Aw e
 |tup xs => obtain⟨_, _, _, p⟩ := x;exact p.lt
 |dK kvs => obtain⟨_, _, _, _, o, _, _, e, _⟩ := x;exact Aw e
 |dT kvs => obtain⟨_, _, _, _, o, _, _, e, _⟩ := x;exact Aw e
 |set S n => obtain⟨o, _, _, _, e, _⟩ := x;exact Aw e
 |ins C dx fs => obtain⟨_, _, _, e, _⟩ := x;exact Aw e
 |own y => obtain⟨_, e⟩ := x;exact Aw e
 |xd fs => obtain⟨_, ⟨_, _, _, e, _⟩, _⟩ := x;exact Aw e
 |rng lo hi => obtain⟨_, _, _, e⟩ := x;exact Aw e
 |frz ob u => obtain⟨e, _⟩ := x;exact Aw e
 |tbl ps => exact Aw (show h.get? a = Aa _ from x)
 |met f y => exact Aw (show h.get? a = Aa _ from x)
 |ext φ => obtain⟨_, ⟨_, e⟩, _⟩ := x;exact Aw e
theorem FP.mapP{α β : Type}{F G : α -> β -> Prop} : ∀{l₁ : Ab α}{l₂ : Ab β}, FP F l₁ l₂ -> (∀ a b, F a b -> G a b) -> FP G l₁ l₂
 |_, _, .nil, _ => .nil
 |_, _, .cons r t, f => .cons (f _ _ r) (FP.mapP t f)
theorem ObjOk.stay(x : ObjOk P w H h a o)(k : ∀ b u, (b = a \/ H b = Aa (.own a)) -> h.get? b = Aa u -> h'.get? b = Aa u)(ho : ∀ b, H b = Aa (.own a) -> H' b = Aa (.own a))(ht : ∀ b xs, H b = Aa (.tup xs) -> H' b = Aa (.tup xs)) : ObjOk P w H' h' a o := by
 induction o with
 |lst xs => obtain⟨z, its, n, r, e⟩ := x;exact⟨z, its, n, r, k _ _ (.inl rfl) e⟩
 |tup xs => obtain⟨z, its, r, ob, e, c⟩ := x;exact⟨z, its, r, ob, k _ _ (.inl rfl) e, c⟩
 |dK kvs => obtain⟨z, y, vs, r, ob, es, ep, e, c⟩ := x;exact⟨z, y, vs, r, ob, es, ep, k _ _ (.inl rfl) e, c⟩
 |dT kvs=>
  obtain⟨z, y, xs, r, ob, es, ep, e, c⟩ := x;exact⟨z, y, xs, FP.mapP r fun p q z => ⟨z.1, ht _ _ z.2.1, z.2.2⟩, ob, es, ep, k _ _ (.inl rfl) e, c⟩
 |set S n => obtain⟨ob, es, ep, t, e, c⟩ := x;exact⟨ob, es, ep, t, k _ _ (.inl rfl) e, c⟩
 |ins C dx fs=>
  obtain⟨d, z, ne, e, mA, ⟨od, es, ep, e2, c⟩, r⟩ := x;exact⟨ho _ d, z, ne, k _ _ (.inl rfl) e, mA, ⟨od, es, ep, k _ _ (.inr d) e2, c⟩, r⟩
 |own y => obtain⟨ob, e⟩ := x;exact⟨ob, k _ _ (.inl rfl) e⟩
 |xd fs => obtain⟨mA, ⟨od, es, ep, e, c⟩, r⟩ := x;exact⟨mA, ⟨od, es, ep, k _ _ (.inl rfl) e, c⟩, r⟩
 |rng lo hi => obtain⟨t, u, v, e⟩ := x;exact⟨t, u, v, k _ _ (.inl rfl) e⟩
 |frz ob u ih => obtain⟨e, q⟩ := x;exact⟨k _ _ (.inl rfl) e, ih q⟩
 |tbl ps=>
  have e : h.get? a = Aa {cls := .none, data := .fields ps} := x;show h'.get? a = Aa {cls := .none, data := .fields ps};exact k a _ (.inl rfl) e
 |met f y=>
  have e : h.get? a = Aa (Fv (.ref f) (.ref y)) := x;show h'.get? a = Aa (Fv (.ref f) (.ref y));exact k a _ (.inl rfl) e
 |ext φ => obtain⟨p, ⟨o, e⟩, st⟩ := x;exact⟨st _ _ p fun o q => k _ _ (.inl rfl) q, ⟨o, k _ _ (.inl rfl) e⟩, st⟩
theorem HOk.lt(x : HOk P w H h)(e : H a = Aa o) : a<h.objs.size := (x a o e).lt
theorem HOk.fresh(x : HOk P w H h)(e : h.objs.size <= a) : H a = Af := by
 cases q : H a with
 |none => rfl
 |some u => exact absurd (AD (x.lt q) e) (Be _)
theorem HOk.kept(x : HOk P w H h)(k : ∀ b u, h.get? b = Aa u -> h'.get? b = Aa u) : HOk P w H h' := fun a o e=>
 (x a o e).stay (fun b u _ q => k b u q) (fun _ q => q) fun _ _ q => q
theorem HOk.laid(x : HOk P w H h)(k : ∀ b u, h.get? b = Aa u -> h'.get? b = Aa u)(hp : h.objs.size <= a)(new : ObjOk P w (upd H a o) h' a o) : HOk P w (upd H a o) h' := fun b u e => by
 have hn := x.fresh hp;by_cases hb : b = a
 ·subst hb;rw[FQ]at e;cases e;exact new
 ·rw[Cf hb]at e;exact(x b u e).stay (fun c v _ q => k c v q) (fun c q => by rw[Cf (Ep q hn)];exact q) fun c xs q => by rw[Cf (Ep q hn)];exact q
end
noncomputable def Rd(H : Hp)(a : Ai)(u : HO) : Prop := H a = Aa u \/ ∃ o, H a = Aa (.frz o u)
theorem Rd.ok{w : AU}{u:HO}(r : Rd H a u)(x : HOk P w H h) : ObjOk P w H h a u := by
 rcases r with r|⟨o, r⟩
 ·exact x a u r
 ·obtain⟨_, q⟩ := x a _ r;exact q
def Mut : Ap HO -> Prop
 |some (.lst _) => Gv
 |some (.dK _) => Gv
 |some (.dT _) => Gv
 |some (.set _ _) => Gv
 |some (.ins _ _ _) => Gv
 |some (.ext _) => Gv
 |_ => A6
section
variable{P : AM}{w : AU}{H : Hp}{h h' : AF}{x e : Ai}{o' : HO}
theorem HOk.write(ok : HOk P w H h)(mu : Mut (H x))(he : e = x \/ H e = Aa (.own x))(k : ∀ b u, b ≠ e -> h.get? b = Aa u -> h'.get? b = Aa u)(heo : ∃ u, h'.get? e = Aa u)(new : ObjOk P w (upd H x o') h' x o') : HOk P w (upd H x o') h' := fun b u q => by
 have nown : ∀ c y, H c = Aa (.own y) -> c ≠ x := fun c y r z => by subst z;rw[r]at mu;exact mu
 have ntup : ∀ c xs, H c = Aa (.tup xs) -> c ≠ x := fun c xs r z => by subst z;rw[r]at mu;exact mu
 by_cases hb : b = x
 ·subst hb;rw[FQ]at q;cases q;exact new
 ·rw[Cf hb]at q;by_cases hbe : b = e
  ·have q' : H b = Aa (.own x) := by
    rcases he with z|z
    ·exact absurd (hbe.trans z) hb
    ·rw[hbe];exact z
   rw[q]at q';cases q';obtain⟨v, hv⟩ := heo;exact⟨v, by rw[hbe];exact hv⟩
  ·refine(ok b u q).stay (fun c v hc r => k c v ?_ r) (fun c r => by rw[Cf (nown c b r)];exact r) fun c xs r => by rw[Cf (ntup c xs r)];exact r
   rcases hc with rfl|hc
   ·exact hbe
   ·rintro rfl;rcases he with z|z
    ·exact nown c b hc z
    ·rw[hc]at z;cases z;exact hb rfl
end
structure Un (fs ex : Ab Ai) (H H' : Hp) (h h' : AF) : Prop where
 keep : ∀ b o, h.get? b = Aa o -> H b = Af -> b ∉ fs -> b ∉ ex -> h'.get? b = Aa o
 slot : ∀ b o, h.get? b = Aa o -> H b = Af -> b ∈ fs -> b ∉ ex -> ∃ sl, h'.get? b = Aa {o with slots := sl}
 free : ∀ b o, h.get? b = Aa o -> H b = Af -> b ∉ ex -> H' b = Af
 there : ∀ b o, h.get? b = Aa o -> b ∉ ex -> ∃ o', h'.get? b = Aa o'
 tups : ∀ b xs, H b = Aa (.tup xs) -> H' b = Aa (.tup xs)
 frzs : ∀ b o u, H b = Aa (.frz o u) -> H' b = Aa (.frz o u)
 tbls : ∀ b ps, H b = Aa (.tbl ps) -> ∃ more, H' b = Aa (.tbl (ps++more))
section
variable{fs fs' ex ex' : Ab Ai}{H H1 H2 : Hp}{h h1 h2 h' : AF}{a x e : Ai}{o : HO}
theorem Un.any(u : Un fs ex H H1 h h1){ob:AJ}(q : h.get? b = Aa ob)(n : H b = Af)(hx : b ∉ ex) : ∃ sl, h1.get? b = Aa {ob with slots := sl} := by
 by_cases hb : b ∈ fs
 ·exact u.slot b ob q n hb hx
 ·exact⟨ob.slots, u.keep b ob q n hb hx⟩
theorem Un.kept(k : ∀ b u, h.get? b = Aa u -> h'.get? b = Aa u) : Un fs ex H H h h':=
 ⟨fun b ob q _ _ _ => k b ob q, fun b ob q _ _ _ => ⟨ob.slots, k b ob q⟩, fun _ _ _ n _ => n, fun b ob q _ => ⟨ob, k b ob q⟩, fun _ _ q => q, fun _ _ _ q => q, fun _ ps q => ⟨#[], by rw[q];simp⟩⟩
theorem Un.refl : Un fs ex H H h h := Un.kept fun _ _ q => q
theorem Un.laid(k : ∀ b u, h.get? b = Aa u -> h'.get? b = Aa u)(hp : h.objs.size <= a)(hn : H a = Af) : Un fs ex H (upd H a o) h h' where
 keep := fun b u q _ _ _ => k b u q
 slot := fun b u q _ _ _ => ⟨u.slots, k b u q⟩
 free := fun b u q n _ => by rw[Cf (A2 (AD (Aw q) hp))];exact n
 there := fun b u q _ => ⟨u, k b u q⟩
 tups := fun b xs q => by rw[Cf (Ep q hn)];exact q
 frzs := fun b u xs q => by rw[Cf (Ep q hn)];exact q
 tbls := fun b ps q => ⟨#[], by rw[Cf (Ep q hn), q];simp⟩
theorem Un.write(mu : Mut (H x))(he : e = x \/ H e = Aa (.own x))(k : ∀ b u, b ≠ e -> h.get? b = Aa u -> h'.get? b = Aa u)(heo : ∃ u, h'.get? e = Aa u) : Un fs ex H (upd H x o) h h' := by
 have hx : ∀ b, H b = Af -> b ≠ x := fun b n z => by subst z;rw[n]at mu;exact mu
 have hb : ∀ b, H b = Af -> b ≠ e := fun b n z => by
  subst z;rcases he with r|r
  ·exact hx b n r
  ·rw[n]at r;cases r
 have hm : ∀ b u, H b = Aa u -> ¬ Mut (Aa u) -> b ≠ x := fun b u q nm z => by subst z;rw[q]at mu;exact nm mu
 refine⟨fun b u q n _ _ => k b u (hb b n) q, fun b u q n _ _ => ⟨u.slots, k b u (hb b n) q⟩, fun b u q n _ => by rw[Cf (hx b n)];exact n, fun b u q _ => ?_,
  fun b xs q => by rw[Cf (hm b _ q fun z => z)];exact q, fun b u xs q => by rw[Cf (hm b _ q fun z => z)];exact q, fun b ps q => ⟨#[], by rw[Cf (hm b _ q fun z => z), q];simp⟩⟩
 by_cases hbe : b = e
 ·subst hbe;exact heo
 ·exact⟨u, k b u hbe q⟩
end
noncomputable def trk(h : AF)(H : Hp) : Ab Ai := (Cc h.objs.size).filter fun a => (H a).isSome
noncomputable def GE(h : AF)(H : Hp) : AF := EM h (trk h H)
theorem TV(h : AF)(H : Hp) : (GE h H).objs.size = h.objs.size := PySem.W.hideAll_size _ _
theorem UV(e : h.get? b = Aa o)(n : H b = Af) : (GE h H).get? b = Aa o:=
 Do _ e fun hm => by
  have q : (H b).isSome = Ac := (Bc.mp hm).2;rw[n]at q;simp at q
theorem WI(e : (GE h H).get? b = Aa o) : h.get? b = Aa o /\ H b = Af := by
 have e' : h.get? b = Aa o := Fd (trk h H) e;refine⟨e', ?_⟩;cases q : H b with
 |none => rfl
 |some x=>
  have hm : b ∈ trk h H := Bc.mpr ⟨Db.mpr (Aw e'), by simp[q]⟩
  have z : (GE h H).get? b = Af := EN (trk h H) hm;rw[z]at e;cases e
noncomputable def Xj(g h : AF)(L : Ai) : Ab (Ai × AJ) := (Cc h.objs.size).filterMap fun a => if a = L \/ (g.get? a).isSome = Ac then Af else (h.get? a).map fun o => (a, o)
noncomputable def rest(g h : AF)(L d : Ai) : Ab (Ai × AJ) := (Xj g h L).filter fun p => decide (p.1 ≠ d)
structure Mod (K : Fg) (mg : Aj -> Ap Ah) (base : AF) : Prop where
 kin : K.In base
 glob : base.Ns AT mg
 blt : ∃ mb, base.Ns Gs mb /\ ∀ x : Aj, x ≠ "__name__" -> mb x = Co x
 nolimit : base.NoLimit
structure Cx where
 prog : AM
 w : AU
 K : Fg
 mg : Aj -> Ap Ah
 base : AF
 A : A3
 N : Ab Aj
 s₀ : Ak
 H₀ : Hp
 env : BJ
 outer : Ab BJ
 stack : Ab BJ
 ex : Ab Ai
 fn : Aj -> An
 calm : An
 pn : Ab (Ai × AJ)
 xe : Ah -> Ak -> Prop
variable{X:Cx}
noncomputable def frs(l : Ab BJ) : Ab Ai := l.filterMap (·.frame)
noncomputable abbrev Cx.fs(X : Cx) : Ab Ai := frs X.outer
noncomputable def Vis(sc : BS)(x : Aj) : Prop := sc.names.lookup x = Aa .local \/ sc.names.lookup x = Aa .cell \/ sc.names.lookup x = Aa .free
noncomputable def Loc(sc : BS)(x : Aj) : Prop := sc.names.lookup x = Aa .local \/ sc.names.lookup x = Aa .cell
noncomputable def fF(env : BJ)(h : AF)(m : Aj -> Ap Ah)(x : Aj)(u : Ah) : Prop:=
 (env.kindOf x = Aa .local /\ m x = Aa u) \/ ((env.kindOf x = Aa .cell \/ env.kindOf x = Aa .free) /\ ∃ c, env.cells.lookup x = Aa c /\ h.IsCell c (Aa u))
structure Cx.Ok (X : Cx) : Prop where
 mod : Mod X.K X.mg X.base
 kind : X.env.scope.kind = .function
 glob : X.env.globals = AT
 blt : X.env.builtins = Gs
 above : X.s₀.heap.objs.size <= X.env.locals
 inj : ∀ x y c, X.env.cells.lookup x = Aa c -> X.env.cells.lookup y = Aa c -> x = y
 has : ∀ x, (X.env.kindOf x = Aa .cell \/ X.env.kindOf x = Aa .free) -> ∃ c, X.env.cells.lookup x = Aa c
 cab : ∀ x c, X.fn x = Ac -> X.env.cells.lookup x = Aa c -> X.s₀.heap.objs.size <= c
 hd : X.calm = Ac -> X.A.handled = Af
 frames : X.A.frames = Aa X.stack
 stk : X.stack = X.outer \/ (X.stack = X.env::X.outer /\ X.env.frame = Aa X.env.locals)
 exf : ∀ b ∈ X.ex, b ≠ X.env.locals /\ ∀ x c, X.env.cells.lookup x = Aa c -> c ≠ b
 bs : ∀ b o, X.base.get? b = Aa o -> X.s₀.heap.get? b = Aa o /\ X.H₀ b = Af
 bsz : X.base.objs.size <= X.s₀.heap.objs.size
 noex : ∀ b o, X.base.get? b = Aa o -> b ∉ X.ex
 exfs : ∀ b ∈ X.ex, b ∉ X.fs
 funs : X.s₀.heap.FunFrames X.base X.outer
 frf : ∀ b ∈ X.fs, X.H₀ b = Af
structure Inv (X : Cx) (pI : Ab (Ai × AJ)) (σ : Ab (Ap V)) (H : Hp) (s : Ak) : Prop where
 ok : X.Ok
 os : s.os = X.s₀.os
 bare : Ec s.gens
 base : Un X.fs X.ex X.H₀ H X.s₀.heap s.heap
 loc : ∃ m, s.heap.Ns X.env.locals m /\ ∀(i : Ag)(x : Aj)(v : V), X.N[i]? = Aa x -> σ[i]? = Aa (Aa v) -> Vis X.env.scope x -> ∃ u, Bo v u /\ fF X.env s.heap m x u
 cell : ∀ x c, X.env.cells.lookup x = Aa c -> ∃ v, s.heap.IsCell c v
 free : H X.env.locals = Af
 freeC : ∀ x c, X.env.cells.lookup x = Aa c -> H c = Af
 pin : ∀ p ∈ X.pn++pI, s.heap.get? p.1 = Aa p.2 /\ H p.1 = Af /\ p.1 ≠ X.env.locals /\ p.1 ∉ X.fs /\ ∀ v, p.2.data ≠ .cell v
 hok : HOk X.prog X.w H s.heap
 len : σ.length = X.N.length
section
variable{X : Cx}{pI : Ab (Ai × AJ)}{σ : Ab (Ap V)}{H H' : Hp}{s : Ak}{h' : AF}
theorem Cx.Ok.nofr(ok : X.Ok)(e : X.base.get? b = Aa o) : b ∉ X.fs := fun hb => by
 have := (ok.funs.mem hb).1;rw[e]at this;cases this
theorem Inv.bs(I : Inv X pI σ H s) : ∀ b o, X.base.get? b = Aa o -> s.heap.get? b = Aa o /\ H b = Af := fun b o e=>
 ⟨I.base.keep b o (I.ok.bs b o e).1 (I.ok.bs b o e).2 (I.ok.nofr e) (I.ok.noex b o e), I.base.free b o (I.ok.bs b o e).1 (I.ok.bs b o e).2 (I.ok.noex b o e)⟩
theorem Inv.bk(I : Inv X pI σ H s) : ∀ b o, X.base.get? b = Aa o -> s.heap.get? b = Aa o := fun b o e => (I.bs b o e).1
theorem Inv.mod(I : Inv X pI σ H s) : Mod X.K X.mg X.base := I.ok.mod
theorem Inv.kIn(I : Inv X pI σ H s) : X.K.In s.heap := I.ok.mod.kin.keeps I.bk
theorem Inv.lt(I : Inv X pI σ H s) : X.env.locals<s.heap.objs.size := let ⟨_, hn, _⟩ := I.loc;hn.lt
theorem Inv.sz(I : Inv X pI σ H s) : X.s₀.heap.objs.size <= s.heap.objs.size := B9 I.ok.above (EH I.lt)
theorem Inv.nofs(I : Inv X pI σ H s)(h : s.heap.objs.size <= a) : a ∉ X.fs := fun hb => by
 obtain⟨_, o, ho, _⟩ := I.ok.funs.mem hb;exact absurd (AD (Aw ho) (B9 I.sz h)) (Be _)
theorem Inv.cne(I : Inv X pI σ H s) : ∀ x c, X.env.cells.lookup x = Aa c -> c ≠ X.env.locals := fun x c e z => by
 obtain⟨v, o, ho, hd⟩ := I.cell x c e;obtain⟨m, ⟨o', es, ep, ho', hd', _⟩, _⟩ := I.loc;rw[z, ho']at ho;cases ho;rw[hd']at hd;cases hd
theorem Inv.funs(I : Inv X pI σ H s) : s.heap.FunFrames X.base X.outer := by
 have all : ∀(l : Ab BJ), (∀ b ∈ frs l, b ∈ X.fs) -> X.s₀.heap.FunFrames X.base l -> s.heap.FunFrames X.base l := by
  intro l
  induction l with
  |nil => intro _ _;trivial
  |cons env r ih=>
   intro hs hl;obtain⟨hk, ⟨L, o, hf, hn, ho, hd⟩, hr⟩ := hl;have hL : L ∈ X.fs := hs L (by unfold frs;rw[EU, hf];exact AA)
   obtain⟨sl, e⟩ := I.base.slot L o ho (I.ok.frf L hL) hL fun z => I.ok.exfs L z hL
   exact⟨hk, ⟨L, _, hf, hn, e, hd⟩, ih (fun b hb => hs b (by unfold frs;rw[EU, hf];exact As _ hb)) hr⟩
 exact all X.outer (fun _ hb => hb) I.ok.funs
theorem Inv.stack(I : Inv X pI σ H s) : s.heap.FunFrames X.base X.stack := by
 rcases I.ok.stk with e|⟨e, hf⟩
 ·rw[e];exact I.funs
 ·rw[e];obtain⟨m, hn, _⟩ := I.loc;refine .cons (by rw[I.ok.kind];decide) hf hn ?_ I.funs
  exact R8 (B9 I.ok.bsz I.ok.above)
theorem Inv.stkSub(I : Inv X pI σ H s) : ∀ b ∈ frs X.stack, b ∈ X.env.locals::X.fs := fun b hb => by
 rcases I.ok.stk with e|⟨e, hf⟩
 ·rw[e]at hb;exact As _ hb
 ·rw[e]at hb;unfold frs at hb;rw[EU, hf]at hb;exact hb
theorem Inv.stkFree(I : Inv X pI σ H s) : ∀ b ∈ frs X.stack, H b = Af := fun b hb => by
 rcases At.mp (I.stkSub b hb) with e|hb
 ·rw[e];exact I.free
 ·obtain⟨_, o, ho, _⟩ := I.ok.funs.mem hb;exact I.base.free b o ho (I.ok.frf b hb) fun z => I.ok.exfs b z hb
theorem Inv.step(I : Inv X pI σ H s)(hch : ∀ b ∈ ch, (b ∈ X.ex \/ X.s₀.heap.objs.size <= b) /\ b ≠ X.env.locals /\ (∀ x c, X.env.cells.lookup x = Aa c -> c ≠ b) /\ ∀ p ∈ X.pn++pI, p.1 ≠ b)(keep : ∀ b o, b ≠ X.env.locals -> b ∉ X.fs -> b ∉ ch -> s.heap.get? b = Aa o -> H b = Af -> h'.get? b = Aa o)(slot : ∀ b o, b ≠ X.env.locals -> b ∈ X.fs -> b ∉ ch -> s.heap.get? b = Aa o -> H b = Af -> ∃ sl, h'.get? b = Aa {o with slots := sl})(free : ∀ b o, b ∉ ch -> s.heap.get? b = Aa o -> H b = Af -> H' b = Af)(there : ∀ b o, b ∉ ch -> s.heap.get? b = Aa o -> ∃ o', h'.get? b = Aa o')(tups : ∀ b xs, H b = Aa (.tup xs) -> H' b = Aa (.tup xs))(frzs : ∀ b o u, H b = Aa (.frz o u) -> H' b = Aa (.frz o u))(tbls : ∀ b ps, H b = Aa (.tbl ps) -> ∃ more, H' b = Aa (.tbl (ps++more)))(ns : ∀ m, s.heap.Ns X.env.locals m -> h'.Ns X.env.locals m)(hok : HOk X.prog X.w H' h')(hg : Ec g'):Inv X pI σ H' {s with heap := h',gens := g',drawn := d',toks := t'} := by
 have neL : ∀ b o, X.s₀.heap.get? b = Aa o -> b ≠ X.env.locals := fun b o e => A2 (AD (Aw e) I.ok.above)
 have neC : ∀ b o, X.s₀.heap.get? b = Aa o -> b ∉ X.ex -> b ∉ ch := fun b o e hx hb => by
  rcases (hch b hb).1 with z|z
  ·exact hx z
  ·exact absurd (AD (Aw e) z) (Be _)
 have cellK : ∀ x c, X.env.cells.lookup x = Aa c -> ∀ v, s.heap.IsCell c v -> h'.IsCell c v := fun x c e v ⟨o, ho, hd⟩ => by
  have nch : c ∉ ch := fun z => (hch c z).2.2.1 x c e rfl
  by_cases hc : c ∈ X.fs
  ·obtain⟨sl, q⟩ := slot c o (I.cne x c e) hc nch ho (I.freeC x c e);exact⟨_, q, hd⟩
  ·exact⟨o, keep c o (I.cne x c e) hc nch ho (I.freeC x c e), hd⟩
 refine⟨I.ok, I.os, hg, ⟨fun b o e n hb hx => ?_, fun b o e n hb hx => ?_, fun b o e n hx => ?_, fun b o e hx => ?_, fun b xs e => tups b xs (I.base.tups b xs e), fun b o xs e => frzs b o xs (I.base.frzs b o xs e), fun b ps e => ?_⟩, ?_, fun x c e => ?_, ?_, fun x c e => ?_, fun p hp => ?_, hok, I.len⟩
 ·exact keep b o (neL b o e) hb (neC b o e hx) (I.base.keep b o e n hb hx) (I.base.free b o e n hx)
 ·obtain⟨sl, e1⟩ := I.base.slot b o e n hb hx;obtain⟨sl', e2⟩ := slot b _ (neL b o e) hb (neC b o e hx) e1 (I.base.free b o e n hx);exact⟨sl', e2⟩
 ·obtain⟨o', e1⟩ := I.base.there b o e hx;exact free b o' (neC b o e hx) e1 (I.base.free b o e n hx)
 ·obtain⟨o', e1⟩ := I.base.there b o e hx;exact there b o' (neC b o e hx) e1
 ·obtain⟨m1, e1⟩ := I.base.tbls b ps e;obtain⟨m2, e2⟩ := tbls b _ e1;exact⟨m1++m2, by rw[e2, Array.append_assoc]⟩
 ·obtain⟨m, hn, hl⟩ := I.loc;refine⟨m, ns m hn, fun i x v e1 e2 e3 => ?_⟩
  obtain⟨u, r, l⟩ := hl i x v e1 e2 e3;refine⟨u, r, ?_⟩;rcases l with l|⟨k, c, e, z⟩
  ·exact .inl l
  ·exact .inr ⟨k, c, e, cellK x c e _ z⟩
 ·obtain⟨v, z⟩ := I.cell x c e;exact⟨v, cellK x c e v z⟩
 ·obtain⟨m, ⟨o, _, _, ho, _⟩, _⟩ := I.loc;exact free _ o (fun z => (hch _ z).2.1 rfl) ho I.free
 ·obtain⟨v, o, ho, hd⟩ := I.cell x c e;exact free c o (fun z => (hch c z).2.2.1 x c e rfl) ho (I.freeC x c e)
 ·obtain⟨e, n, ne, nf, d⟩ := I.pin p hp;have nch : p.1 ∉ ch := fun z => (hch p.1 z).2.2.2 p hp rfl
  exact⟨keep p.1 p.2 ne nf nch e n, free p.1 p.2 nch e n, ne, nf, d⟩
theorem Inv.un(I : Inv X pI σ H s)(u : Un X.fs [] H H' s.heap h')(hok : HOk X.prog X.w H' h') : Inv X pI σ H' {s with heap := h', toks := t'} := by
 obtain⟨m, ⟨o, es, ep, ho, r⟩, _⟩ := id I.loc;obtain⟨sl, hL⟩ := u.any ho I.free (by simp)
 exact I.step (g' := s.gens) (d' := s.drawn) (ch := []) (fun _ z => nomatch z) (fun b o _ hb _ e n => u.keep b o e n hb (by simp)) (fun b o _ hb _ e n => u.slot b o e n hb (by simp)) (fun b o _ e n => u.free b o e n (by simp)) (fun b o _ e => u.there b o e (by simp)) u.tups u.frzs u.tbls (fun m' hm => by
  obtain⟨o', es', ep', ho', r'⟩ := hm;rw[ho]at ho';cases ho';exact⟨_, es', ep', hL, r'⟩) hok I.bare
theorem Inv.call(I : Inv X pI σ H s)(u : Un (frs X.stack) ch H H' s.heap h')(hok : HOk X.prog X.w H' h')(hg : Ec g')(hch : ∀ b ∈ ch, (b ∈ X.ex \/ X.s₀.heap.objs.size <= b) /\ b ≠ X.env.locals /\ (∀ x c, X.env.cells.lookup x = Aa c -> c ≠ b) /\ ∀ p ∈ X.pn++pI, p.1 ≠ b):Inv X pI σ H' {s with heap := h',gens := g',drawn := d',toks := t'} := by
 obtain⟨m, ⟨o, es, ep, ho, r⟩, _⟩ := id I.loc;obtain⟨sl, hL⟩ := u.any ho I.free fun z => (hch _ z).2.1 rfl
 exact I.step (ch := ch) hch (fun b o hL hb hc e n => u.keep b o e n (fun z => (At.mp (I.stkSub b z)).elim hL hb) hc) (fun b o _ _ hc e n => u.any e n hc) (fun b o hc e n => u.free b o e n hc) (fun b o hc e => u.there b o e hc) u.tups u.frzs u.tbls (fun m' hm => by
  obtain⟨o', es', ep', ho', r'⟩ := hm;rw[ho]at ho';cases ho';exact⟨_, es', ep', hL, r'⟩) hok hg
theorem Inv.turned(I : Inv X pI σ H s)(k : ∀ b o, b ≠ it -> s.heap.get? b = Aa o -> h'.get? b = Aa o)(hn : H it = Af)(hL : it ≠ X.env.locals)(h1 : it ∈ X.ex \/ X.s₀.heap.objs.size <= it)(h2 : ∀ x c, X.env.cells.lookup x = Aa c -> c ≠ it)(h3 : ∀ p ∈ X.pn++pI, p.1 ≠ it) : Inv X pI σ H {s with heap := h', toks := t'} := by
 have nit : ∀ b u, H b = Aa u -> b ≠ it := fun b u e z => by rw[z, hn]at e;cases e
 refine I.step (g' := s.gens) (d' := s.drawn) (ch := [it]) (fun b hb => ?_) (fun b o _ _ hc e _ => k b o (fun z => hc (by simp[z])) e) (fun b o _ _ hc e _ => ⟨o.slots, k b o (fun z => hc (by simp[z])) e⟩) (fun _ _ _ _ n => n)
  (fun b o hc e => ⟨o, k b o (fun z => hc (by simp[z])) e⟩) (fun _ _ e => e) (fun _ _ _ e => e) (fun b ps e => ⟨#[], by rw[e];simp⟩) (fun m hm => ?_) (fun b u e => ?_) I.bare
 ·have e : b = it := by simpa using hb
  subst e;exact⟨h1, hL, h2, h3⟩
 ·obtain⟨o, es, ep, ho, r⟩ := hm;exact⟨o, es, ep, k _ o (EY hL) ho, r⟩
 ·refine(I.hok b u e).stay (fun c v hc q => k c v ?_ q) (fun _ q => q) fun _ _ q => q
  rcases hc with z|z
  ·rw[z];exact nit b u e
  ·exact nit c _ z
theorem Inv.tok(I : Inv X pI σ H s)(t : Ag) : Inv X pI σ H {s with toks := t} := I.un (h' := s.heap) (t' := t) Un.refl I.hok
theorem Inv.kept{t' : Ag}(I : Inv X pI σ H s)(k : ∀ b u, s.heap.get? b = Aa u -> h'.get? b = Aa u) : Inv X pI σ H {s with heap := h', toks := t'} := I.un (Un.kept k) (I.hok.kept k)
theorem Inv.laid{a : Ai}{o : HO}{t' : Ag}(I : Inv X pI σ H s)(k : ∀ b u, s.heap.get? b = Aa u -> h'.get? b = Aa u)(hp : s.heap.objs.size <= a)(new : ObjOk X.prog X.w (upd H a o) h' a o):Inv X pI σ (upd H a o) {s with heap := h',toks := t'} := I.un (Un.laid k hp (I.hok.fresh hp)) (I.hok.laid k hp new)
theorem Inv.write{x e : Ai}{o : HO}{t' : Ag}(I : Inv X pI σ H s)(mu : Mut (H x))(he : e = x \/ H e = Aa (.own x))(k : ∀ b u, b ≠ e -> s.heap.get? b = Aa u -> h'.get? b = Aa u)(heo : ∃ u, h'.get? e = Aa u)(new : ObjOk X.prog X.w (upd H x o) h' x o) : Inv X pI σ (upd H x o) {s with heap := h', toks := t'} := I.un (Un.write mu he k heo) (I.hok.write mu he k heo new)
theorem Inv.pins_of{pins':Ab (Ai × AJ)}(I : Inv X pI σ H s)(h : ∀ p ∈ pins', s.heap.get? p.1 = Aa p.2 /\ H p.1 = Af /\ p.1 ≠ X.env.locals /\ p.1 ∉ X.fs /\ ∀ v, p.2.data ≠ .cell v) : Inv X pins' σ H s:=
 ⟨I.ok, I.os, I.bare, I.base, I.loc, I.cell, I.free, I.freeC, fun p hp => (Du.mp hp).elim (fun z => I.pin p (EF _ z)) (h p), I.hok, I.len⟩
theorem NI{N : Ab Aj}(hN : N.Nodup){j:Ag}(a : N[i]? = Aa x)(b : N[j]? = Aa x) : i = j := by
 obtain⟨h1, e1⟩ := AK.mp a;obtain⟨h2, e2⟩ := AK.mp b;exact(List.getElem_inj hN).mp (e1.trans e2.symm)
theorem Nn{A : A3}{E : Ah -> Ak -> Prop}(I : Inv X pI σ H s)(hN : X.N.Nodup)(hi : X.N[i]? = Aa x)(hx : Loc X.env.scope x)(r : Bo v u)(h : ∀ s', Inv X pI (σ.set i (Aa v)) H s' -> (∃ a, D8 a s.heap s'.heap /\ (a = X.env.locals \/ X.env.cells.lookup x = Aa a)) -> Q () s')(hf : X.fn x = Ac \/ X.env.scope.names.lookup x = Aa .local := by first|exact .inl rfl|exact .inr rfl|assumption) : AB M A (storeName X.env x u) Q E s := by
 obtain⟨m, hn, hl⟩ := id I.loc;have hcls : (X.env.scope.kind==.class||(X.env.scope.kind==.module&&X.env.locals != X.env.globals)) = Ad := by rw[I.ok.kind];rfl
 have hiσ : i<σ.length := by rw[I.len];exact(AK.mp hi).1
 have cne := I.cne;have tracked : ∀{a : Ai}{h' : AF}, (∃ o, s.heap.get? a = Aa o /\ H a = Af) -> D8 a s.heap h' -> HOk X.prog X.w H h' := fun {a h'} ha hs b ob e => by
  obtain⟨_, _, hfree⟩ := ha;refine(I.hok b ob e).stay (fun c w' hc q => (hs.2 c ?_).trans q) (fun _ q => q) fun _ _ q => q
  rintro rfl;rcases hc with rfl|hc
  ·rw[hfree]at e;cases e
  ·rw[hfree]at hc;cases hc
 rcases hx with hk|hk
 ·refine wpAny_storeName_local hk hn (fun h' hn' hs => ?_) hcls
  obtain⟨oL, _, _, hoL, _⟩ := id hn;refine h _ ⟨I.ok, I.os, I.bare, ⟨fun b o e n hb hx => ?_, fun b o e n hb hx => ?_, I.base.free, fun b o e hx => ?_, I.base.tups, I.base.frzs, I.base.tbls⟩, ⟨_, hn', fun j y v' e1 e2 e3 => ?_⟩, fun y c e => ?_, I.free, I.freeC, fun p hp => ?_, tracked ⟨oL, hoL, I.free⟩ hs, by simpa using I.len⟩ ⟨_, hs, .inl rfl⟩
  ·exact(hs.2 b (A2 (AD (Aw e) I.ok.above))).trans (I.base.keep b o e n hb hx)
  ·obtain⟨sl, e1⟩ := I.base.slot b o e n hb hx;exact⟨sl, (hs.2 b (A2 (AD (Aw e) I.ok.above))).trans e1⟩
  ·obtain⟨o', e1⟩ := I.base.there b o e hx;exact⟨o', (hs.2 b (A2 (AD (Aw e) I.ok.above))).trans e1⟩
  ·by_cases hj : j = i
   ·subst hj;rw[hi]at e1;cases e1;rw[Cm hiσ]at e2;cases e2;exact⟨u, r, .inl ⟨hk, by simp⟩⟩
   ·rw[EE (EY hj)]at e2;obtain⟨u', r', q⟩ := hl j y v' e1 e2 e3;refine⟨u', r', ?_⟩;rcases q with ⟨k, e⟩|⟨k, c, e, z⟩
    ·refine .inl ⟨k, ?_⟩;have : y ≠ x := fun e => hj (NI hN e1 (e ▸ hi))
     simp[this, e]
    ·exact .inr ⟨k, c, e, z.sameBut hs (cne y c e)⟩
  ·obtain⟨w', z⟩ := I.cell y c e;exact⟨w', z.sameBut hs (cne y c e)⟩
  ·obtain⟨e, n, ne, nf, d⟩ := I.pin p hp;exact⟨(hs.2 p.1 ne).trans e, n, ne, nf, d⟩
 ·have hfn : X.fn x = Ac := by
   rcases hf with z|z
   ·exact z
   ·rw[z]at hk;cases hk
  obtain⟨c, hc⟩ := I.ok.has x (.inl hk);obtain⟨w', z⟩ := I.cell x c hc;refine wpAny_storeName_cell I.ok.kind hk hc z (fun h' hc' hs => ?_)
  obtain⟨oc, hoc, hocd⟩ := id z;refine h {s with heap := h'} ⟨I.ok, I.os, I.bare, ⟨fun b o e n hb hx => ?_, fun b o e n hb hx => ?_, I.base.free, fun b o e hx => ?_, I.base.tups, I.base.frzs, I.base.tbls⟩, ⟨m, hn.sameBut hs (EY (cne x c hc)), fun j y v' e1 e2 e3 => ?_⟩, fun y c' e => ?_, I.free, I.freeC, fun p hp => ?_, tracked ⟨oc, hoc, I.freeC x c hc⟩ hs, by simpa using I.len⟩ ⟨c, hs, .inr hc⟩
  ·exact(hs.2 b (A2 (AD (Aw e) (I.ok.cab x c hfn hc)))).trans (I.base.keep b o e n hb hx)
  ·obtain⟨sl, e1⟩ := I.base.slot b o e n hb hx;exact⟨sl, (hs.2 b (A2 (AD (Aw e) (I.ok.cab x c hfn hc)))).trans e1⟩
  ·obtain⟨o', e1⟩ := I.base.there b o e hx;exact⟨o', (hs.2 b (A2 (AD (Aw e) (I.ok.cab x c hfn hc)))).trans e1⟩
  ·by_cases hj : j = i
   ·subst hj;rw[hi]at e1;cases e1;rw[Cm hiσ]at e2;cases e2;exact⟨u, r, .inr ⟨.inl hk, c, hc, hc'⟩⟩
   ·rw[EE (EY hj)]at e2;obtain⟨u', r', q⟩ := hl j y v' e1 e2 e3;refine⟨u', r', ?_⟩;rcases q with q|⟨k, c', e, z'⟩
    ·exact .inl q
    ·refine .inr ⟨k, c', e, z'.sameBut hs ?_⟩;rintro rfl;exact hj (NI hN e1 (I.ok.inj _ _ _ e hc ▸ hi))
  ·by_cases hcc : c' = c
   ·subst hcc;exact⟨_, hc'⟩
   ·obtain⟨w2, z2⟩ := I.cell y c' e;exact⟨w2, z2.sameBut hs hcc⟩
  ·obtain⟨e, n, ne, nf, d⟩ := I.pin p hp;refine⟨(hs.2 p.1 ?_).trans e, n, ne, nf, d⟩;intro q;rw[q, hoc]at e;have q' : oc = p.2 := Bl e;exact d w' (by rw[<-q'];exact hocd)
theorem NT{A : A3}{E : Ah -> Ak -> Prop}(I : Inv X pI σ H s)(hN : X.N.Nodup)(hi : X.N[i]? = Aa x)(hx : Loc X.env.scope x)(r : Bo v u)(h : ∀ s', Inv X pI (σ.set i (Aa v)) H s' -> Q () s')(hf : X.fn x = Ac \/ X.env.scope.names.lookup x = Aa .local := by first|exact .inl rfl|exact .inr rfl|assumption) : AB M A (storeName X.env x u) Q E s:=
 Nn I hN hi hx r (fun s' I' _ => h s' I') hf
theorem Inv.call'{s':Ak}(I : Inv X pI σ H s)(ho : s'.os = s.os)(u : Un (frs X.stack) ch H H' s.heap s'.heap)(hok : HOk X.prog X.w H' s'.heap)(hg : Ec s'.gens)(hch : ∀ b ∈ ch, (b ∈ X.ex \/ X.s₀.heap.objs.size <= b) /\ b ≠ X.env.locals /\ (∀ x c, X.env.cells.lookup x = Aa c -> c ≠ b) /\ ∀ p ∈ X.pn++pI, p.1 ≠ b) : Inv X pI σ H' s' := by
 obtain⟨h', g', d', t', o'⟩ := s';have e : o' = s.os := ho;subst e;exact I.call (g' := g') (t' := t') (d' := d') u hok hg hch
end
noncomputable abbrev XK := Ah -> Ap Ai -> Hp -> Prop
noncomputable abbrev St := Ab (Ap V)
variable{σ:St}
noncomputable abbrev VK := V -> Hp -> Prop
noncomputable abbrev TE := St -> Hp -> VK -> Prop
variable{te:TE}
noncomputable abbrev TT := St -> Hp -> (An -> Hp -> Prop) -> Prop
noncomputable abbrev TA := St -> Hp -> (Ab V -> Hp -> Prop) -> Prop
variable{ta:TA}
structure Ends where
 nx : St -> Hp -> Prop
 rt : VK
 bk : St -> Hp -> Prop := fun _ _ => A6
 ct : St -> Hp -> Prop := fun _ _ => A6
noncomputable abbrev TS := Ends -> St -> Hp -> Prop
noncomputable def EP(X : Cx)(pI : Ab (Ai × AJ))(σ : St)(Q : VK)(u : Ah)(s' : Ak) : Prop := ∃ v H', Inv X pI σ H' s' /\ Bo v u /\ Q v H'
noncomputable def TP(X : Cx)(pI : Ab (Ai × AJ))(σ : St)(Q : An -> Hp -> Prop)(b : An)(s' : Ak) : Prop := ∃ H', Inv X pI σ H' s' /\ Q b H'
noncomputable def AP(X : Cx)(pI : Ab (Ai × AJ))(σ : St)(Q : Ab V -> Hp -> Prop)(us : Ab Ah)(s' : Ak) : Prop := ∃ vs H', Inv X pI σ H' s' /\ AZ vs us /\ Q vs H'
noncomputable def SP(X : Cx)(pI : Ab (Ai × AJ))(D : Ends)(f : Flow)(s' : Ak) : Prop:=
  match f with
  |.next => ∃ σ' H', Inv X pI σ' H' s' /\ D.nx σ' H'
  |.brk => ∃ σ' H', Inv X pI σ' H' s' /\ D.bk σ' H'
  |.cont => ∃ σ' H', Inv X pI σ' H' s' /\ D.ct σ' H'
  |.ret u => ∃ v σ' H', Inv X pI σ' H' s' /\ Bo v u /\ D.rt v H'
noncomputable def PE(X : Cx)(e : Ao)(t : TE) : Prop:=
 ∀(pI : Ab (Ai × AJ))(s : Ak)(σ : St)(H : Hp)(Q : VK), Inv X pI σ H s -> t σ H Q -> AB (model X.prog X.w) X.A (eval e X.env) (EP X pI σ Q) X.xe s
noncomputable def PT(X : Cx)(e : Ao)(t : TT) : Prop:=
 ∀(pI : Ab (Ai × AJ))(s : Ak)(σ : St)(H : Hp)(Q : An -> Hp -> Prop), Inv X pI σ H s -> t σ H Q -> AB (model X.prog X.w) X.A (Gk e X.env (eval e X.env)) (TP X pI σ Q) X.xe s
noncomputable def PW(X : Cx)(e : Ao)(t : TT) : Prop:=
 ∀(whole : Fk Ah)(pI : Ab (Ai × AJ))(s : Ak)(σ : St)(H : Hp)(Q : An -> Hp -> Prop), Inv X pI σ H s -> t σ H Q -> AB (model X.prog X.w) X.A (Gk e X.env whole) (TP X pI σ Q) X.xe s
theorem PW.pt{t:TT}(h : PW X e t) : PT X e t := h _
noncomputable def PA(X : Cx)(es : Ab Ao)(t : TA) : Prop:=
 ∀(pos : AN)(pI : Ab (Ai × AJ))(s : Ak)(σ : St)(H : Hp)(Q : Ab V -> Hp -> Prop), Inv X pI σ H s -> t σ H Q -> AB (model X.prog X.w) X.A (spliced (Cn pos (Ax es X.env))) (AP X pI σ Q) X.xe s
noncomputable def PS(X : Cx)(st : Bq)(t : TS) : Prop:=
 ∀(pI : Ab (Ai × AJ))(s : Ak)(σ : St)(H : Hp)(D : Ends), Inv X pI σ H s -> t D σ H -> AB (model X.prog X.w) X.A (exec st X.env) (SP X pI D) X.xe s
noncomputable def PSs(X : Cx)(st : Ab Bq)(t : TS) : Prop:=
 ∀(pI : Ab (Ai × AJ))(s : Ak)(σ : St)(H : Hp)(D : Ends), Inv X pI σ H s -> t D σ H -> AB (model X.prog X.w) X.A (execs st X.env) (SP X pI D) X.xe s
theorem thn{α:Type}{t : Fk α}{Q Q' : α -> Ak -> Prop}{A : A3}{E : Ah -> Ak -> Prop}(h : AB M A t Q E s)(hQ : ∀ a s, Q a s -> Q' a s) : AB M A t Q' E s := BW h hQ fun _ _ x => x
section
variable{X : Cx}
noncomputable def FX(i : Ag) : TE := fun σ H Q => ∃ v, σ[i]? = Aa (Aa v) /\ Q v H
noncomputable def tC(v : V) : TE := fun _ H Q => Q v H
theorem Xr(hN : X.N[i]? = Aa x)(hv : Vis X.env.scope x)(hd : (x==("__debug__" : Aj)) = Ad := by decide)(hcd : (x==("__classdict__" : Aj)) = Ad := by decide) : PE X (.Name x pos) (FX i) := by
 intro pI s σ H Q I h;obtain⟨v, e, h⟩ := h;obtain⟨m, hn, hl⟩ := I.loc;obtain⟨u, r, l⟩ := hl i x v hN e hv;have fin : EP X pI σ Q u s := ⟨v, H, I, r, h⟩;rcases l with ⟨hk, hm⟩|⟨hk, c, hc, hcell⟩
 ·exact HA (wpAny_loadName_local I.ok.kind hk hn hm fin) hd
 ·rcases hk with hk|hk
  ·exact HA (wpAny_loadName_cell I.ok.kind hk hc hcell fin) hd
  ·exact HA (wpAny_loadName_free I.ok.kind hk hc hcell fin hcd) hd
theorem YO{i j pos} : PE X (.Constant (.int i) j pos) (tC (.int i)) := fun _ _ _ H _ I h => wpAny_Constant_int ⟨.int i, H, I.tok _, ⟨_, rfl⟩, h⟩
theorem bY{b j pos} : PE X (.Constant (.bool b) j pos) (tC (.bl b)) := fun _ _ _ H _ I h => Constant_bool ⟨.bl b, H, I, rfl, h⟩
theorem YL{j pos} : PE X (.Constant .none j pos) (tC .non) := fun _ _ _ H _ I h => Constant_none ⟨.non, H, I, rfl, h⟩
theorem Xu{x j pos} : PE X (.Constant (.str x) j pos) (tC (.str x)) := fun _ _ _ H _ I h => Calls.Constant_str ⟨.str x, H, I.tok _, ⟨_, rfl⟩, h⟩
noncomputable def Gl(X : Cx)(x : Aj) : Prop := X.env.kindOf x = Aa .globalImplicit
theorem WP{E : Ah -> Ak -> Prop}{Q:Ah -> Ak -> Prop}(I : Inv X pI σ H s)(hg : Gl X x)(hm : X.mg x = Aa u)(h : Q u s)(hd : (x==("__debug__" : Aj)) = Ad := by decide) : AB (model X.prog X.w) X.A (eval (.Name x pos) X.env) Q E s:=
 RQ I.ok.kind hg (Calls.loadGlobal_global (by rw[I.ok.glob];exact I.mod.glob.keeps I.bk) hm h) hd
theorem GB{E : Ah -> Ak -> Prop}{Q:Ah -> Ak -> Prop}(I : Inv X pI σ H s)(hg : Gl X x)(hm : X.mg x = Af)(hv : Co x = Aa u)(h : Q u s)(hn : x ≠ "__name__" := by decide)(hd : (x==("__debug__" : Aj)) = Ad := by decide) : AB (model X.prog X.w) X.A (eval (.Name x pos) X.env) Q E s := by
 obtain⟨mb, h1, h2⟩ := I.mod.blt;exact RQ I.ok.kind hg (Calls.loadGlobal_builtin (by rw[I.ok.glob];exact I.mod.glob.keeps I.bk) hm (by rw[I.ok.blt];exact h1.keeps I.bk) ((h2 x hn).trans hv) h) hd
theorem Vh(hg : Gl X x)(hm : X.mg x = Af)(hv : Co x = Aa u)(r : Bo v u)(hn : x ≠ "__name__" := by decide)(hd : (x==("__debug__" : Aj)) = Ad := by decide) : PE X (.Name x pos) (tC v):=
 fun _ _ _ H _ I h => GB I hg hm hv ⟨v, H, I, r, h⟩ hn hd
variable{a b : Ao}{ta tb : TE}{pos : AN}
variable{tA tB' : TT}{rest : Ab Ao}
noncomputable def eB(t u : TT) : TT := fun σ H Q => t σ H fun c H1 => if c = Ac then u σ H1 Q else Q Ad H1
noncomputable def tOr(t u : TT) : TT := fun σ H Q => t σ H fun c H1 => if c = Ac then Q Ac H1 else u σ H1 Q
noncomputable def eW(t : TT) : TT := fun σ H Q => t σ H fun c H1 => Q (!c) H1
theorem VB(ha : PT X a tA) : PW X (.BoolOp .And [a] pos) tA := by
 intro wh pI s σ H Q I h;refine isTrue_and (thn (ha pI s σ H Q I h) fun c s1 e => ?_)
 cases c with
 |true => exact isTrue_and_nil e
 |false => exact e
theorem XR(ha : PT X a tA) : PW X (.BoolOp .Or [a] pos) tA := by
 intro wh pI s σ H Q I h;refine isTrue_or (thn (ha pI s σ H Q I h) fun c s1 e => ?_)
 cases c with
 |false => exact isTrue_or_nil e
 |true => exact e
theorem XS(ha : PT X a tA)(hb : PW X (.BoolOp .And (b::rest) pos) tB') : PW X (.BoolOp .And (a::b::rest) pos) (eB tA tB') := by
 intro wh pI s σ H Q I h;refine isTrue_and (thn (ha pI s σ H _ I h) fun c s1 ⟨H1, I1, q1⟩ => ?_)
 cases c with
 |true => exact hb wh pI s1 σ H1 Q I1 q1
 |false => exact⟨H1, I1, q1⟩
theorem ZS(ha : PT X a tA)(hb : PW X (.BoolOp .Or (b::rest) pos) tB') : PW X (.BoolOp .Or (a::b::rest) pos) (tOr tA tB') := by
 intro wh pI s σ H Q I h;refine isTrue_or (thn (ha pI s σ H _ I h) fun c s1 ⟨H1, I1, q1⟩ => ?_)
 cases c with
 |true => exact⟨H1, I1, q1⟩
 |false => exact hb wh pI s1 σ H1 Q I1 q1
theorem XU(ha : PT X a tA) : PT X (.UnaryOp .Not a pos) (eW tA) := by
 intro pI s σ H Q I h;exact isTrue_not (ha pI s σ H (fun c H1 => Q (!c) H1) I h)
noncomputable def ZD(ta tb : TE) : TE := fun σ H Q => ta σ H fun x H1 => ∃ c, x = .bl c /\ if c = Ac then tb σ H1 Q else Q (.bl Ad) H1
noncomputable def eV(ta tb : TE) : TE := fun σ H Q => ta σ H fun x H1 => ∃ c, x = .bl c /\ if c = Ac then Q (.bl Ac) H1 else tb σ H1 Q
noncomputable def Zy(ta : TE) : TE := fun σ H Q => ta σ H fun x H1 => ∃ c, x = .bl c /\ Q (.bl (!c)) H1
theorem YJ{op}{t:TE}(h : PE X a t) : PE X (.BoolOp op [a] pos) t := fun pI s σ H Q I hw => BoolOp_one (h pI s σ H Q I hw)
theorem YQ(ha : PE X a ta)(hb : PE X (.BoolOp .And (b::rest) pos) tb) : PE X (.BoolOp .And (a::b::rest) pos) (ZD ta tb) := by
 intro pI s σ H Q I h;refine BoolOp_and (thn (ha pI s σ H _ I h) fun v s1 ⟨x, H1, I1, r1, q1⟩ => ?_)
 obtain⟨c, rfl, q1⟩ := q1;cases r1;refine B1 ?_;cases c with
 |true => exact hb pI s1 σ H1 Q I1 q1
 |false => exact⟨.bl Ad, H1, I1, rfl, q1⟩
theorem ZW(ha : PE X a ta)(hb : PE X (.BoolOp .Or (b::rest) pos) tb) : PE X (.BoolOp .Or (a::b::rest) pos) (eV ta tb) := by
 intro pI s σ H Q I h;refine BoolOp_or (thn (ha pI s σ H _ I h) fun v s1 ⟨x, H1, I1, r1, q1⟩ => ?_)
 obtain⟨c, rfl, q1⟩ := q1;cases r1;refine B1 ?_;cases c with
 |false => exact hb pI s1 σ H1 Q I1 q1
 |true => exact⟨.bl Ac, H1, I1, rfl, q1⟩
theorem YK(ha : PE X a ta) : PE X (.UnaryOp .Not a pos) (Zy ta) := by
 intro pI s σ H Q I h;refine UnaryOp_ (thn (ha pI s σ H _ I h) fun v s1 ⟨x, H1, I1, r1, q1⟩ => ?_)
 obtain⟨c, rfl, q1⟩ := q1;cases r1;exact not_of (B1 ⟨.bl (!c), H1, I1, rfl, q1⟩)
end
noncomputable def SqL(K : Fg)(H : Hp)(a : Ai)(xs : Ab V) : Prop:=
 Rd H a (.lst xs) \/
  ∃(o : AJ)(its : Bf Ah)(n : Ag), K.lookup a = Aa o /\ o.cls = .type "list" /\ o.dict = Af /\ o.data = .seq its n /\ its.size <= sizeLine /\ AZ xs its.toList
noncomputable def SqT(K : Fg)(H : Hp)(a : Ai)(xs : Ab V) : Prop:=
 Rd H a (.tup xs) \/
  ∃(o : AJ)(its : Bf Ah)(n : Ag), K.lookup a = Aa o /\ o.cls = .type "tuple" /\ o.data = .seq its n /\ its.size <= sizeLine /\ AZ xs its.toList
noncomputable def fA : Ah -> Ap V
 |.none => Aa .non
 |.bool b => Aa (.bl b)
 |.int i _ => Aa (.int i)
 |.str x _ => Aa (.str x)
 |.bytes b _ => Aa (.byt b)
 |.float b _ => Aa (.flt b)
 |.ref a => Aa (.ref a)
 |.type n => Aa (.ty n)
 |_ => Af
theorem Bo.abs{x:V}(r : Bo x u) : fA u = Aa x := by
 cases x with
 |non => cases r;rfl
 |bl _ => cases r;rfl
 |int _ => obtain⟨t, rfl⟩ := r;rfl
 |str _ => obtain⟨t, rfl⟩ := r;rfl
 |byt _ => obtain⟨t, rfl⟩ := r;rfl
 |flt _ => obtain⟨t, rfl⟩ := r;rfl
 |ref _ => cases r;rfl
 |ty _ => cases r;rfl
theorem Bo.inj{x:V}(r : Bo x u)(q : Bo y u) : x = y := Bl (r.abs.symm.trans q.abs)
theorem AZ.inj : ∀{xs ys : Ab V}{us : Ab Ah}, AZ xs us -> AZ ys us -> xs = ys
 |_, _, _, .nil, .nil => rfl
 |_, _, _, .cons r t, .cons r' t' => by rw[r.inj r', AZ.inj t t']
section
variable{X : Cx}{pI : Ab (Ai × AJ)}{σ : St}{H : Hp}{s : Ak}{a : Ai}{xs ys : Ab V}
theorem SqL.of{K : Fg}(h : H a = Aa (.lst xs)) : SqL K H a xs := .inl (.inl h)
theorem SqT.of{K : Fg}(h : H a = Aa (.tup xs)) : SqT K H a xs := .inl (.inl h)
theorem Inv.list(I : Inv X pI σ H s)(h : SqL X.K H a xs) : ∃ its : Ab Ah, AZ xs its /\ PlainL s.heap a its.toArray /\ xs.length <= sizeLine := by
 rcases h with h|⟨o, its, n, hk, hc, hd, hs, hz, r⟩
 ·obtain⟨z, its, n, r, e⟩ := h.ok I.hok;exact⟨its, r, ⟨_, n, e, rfl, rfl, rfl⟩, z⟩
 ·refine⟨its.toList, r, ⟨o, n, I.kIn a o hk, hc, hd, by simpa using hs⟩, ?_⟩
  have e := r.length;simp only[DT]at e;omega
theorem Inv.tuple(I : Inv X pI σ H s)(h : SqT X.K H a xs) : ∃ its : Ab Ah, AZ xs its /\ Hr s.heap a its.toArray /\ xs.length <= sizeLine := by
 rcases h with h|⟨o, its, n, hk, hc, hs, hz, r⟩
 ·obtain⟨z, its, r, p⟩ := h.ok I.hok;exact⟨its, r, p, z⟩
 ·refine⟨its.toList, r, ⟨o, I.kIn a o hk, hc, n, by simpa using hs⟩, ?_⟩
  have e := r.length;simp only[DT]at e;omega
theorem Inv.list_inj(I : Inv X pI σ H s)(h : SqL X.K H a xs)(h' : SqL X.K H a ys) : xs = ys := by
 obtain⟨its, r, ⟨o, n, e, _, _, d⟩, _⟩ := I.list h;obtain⟨its', r', ⟨o', n', e', _, _, d'⟩, _⟩ := I.list h';rw[e]at e';cases e';rw[d]at d'
 injection d' with d1 _
 have : its = its' := by simpa using congrArg GK d1
 subst this;exact r.inj r'
theorem Inv.tuple_inj(I : Inv X pI σ H s)(h : SqT X.K H a xs)(h' : SqT X.K H a ys) : xs = ys := by
 obtain⟨its, r, ⟨o, e, _, n, d⟩, _⟩ := I.tuple h;obtain⟨its', r', ⟨o', e', _, n', d'⟩, _⟩ := I.tuple h';rw[e]at e';cases e';rw[d]at d'
 injection d' with d1 _
 have : its = its' := by simpa using congrArg GK d1
 subst this;exact r.inj r'
end
noncomputable abbrev Cx.wish(X : Cx)(E : Ah -> Ak -> Prop) : Cx := {X with xe := E}
noncomputable abbrev Cx.nox(X : Cx) : Cx := X.wish fun _ _ => A6
theorem Cx.Ok.wish(ok : X.Ok)(E : Ah -> Ak -> Prop) : (X.wish E).Ok:=
 ⟨ok.mod, ok.kind, ok.glob, ok.blt, ok.above, ok.inj, ok.has, ok.cab, ok.hd, ok.frames, ok.stk, ok.exf, ok.bs, ok.bsz, ok.noex, ok.exfs, ok.funs, ok.frf⟩
theorem Cx.Ok.unwish{E : Ah -> Ak -> Prop}(ok : (X.wish E).Ok) : X.Ok:=
 ⟨ok.mod, ok.kind, ok.glob, ok.blt, ok.above, ok.inj, ok.has, ok.cab, ok.hd, ok.frames, ok.stk, ok.exf, ok.bs, ok.bsz, ok.noex, ok.exfs, ok.funs, ok.frf⟩
section
variable{X : Cx}{pI : Ab (Ai × AJ)}{σ : St}{H : Hp}{s : Ak}{E : Ah -> Ak -> Prop}
theorem Inv.wish(I : Inv X pI σ H s)(E : Ah -> Ak -> Prop) : Inv (X.wish E) pI σ H s := ⟨I.ok.wish E, I.os, I.bare, I.base, I.loc, I.cell, I.free, I.freeC, I.pin, I.hok, I.len⟩
theorem Inv.unwish(I : Inv (X.wish E) pI σ H s) : Inv X pI σ H s := ⟨I.ok.unwish, I.os, I.bare, I.base, I.loc, I.cell, I.free, I.freeC, I.pin, I.hok, I.len⟩
theorem SP.unwish{D : Ends}{f : Flow}{s' : Ak}(h : SP (X.wish E) pI D f s') : SP X pI D f s' := by
 cases f with
 |next => obtain⟨σ', H', I, q⟩ := h;exact⟨σ', H', I.unwish, q⟩
 |brk => obtain⟨σ', H', I, q⟩ := h;exact⟨σ', H', I.unwish, q⟩
 |cont => obtain⟨σ', H', I, q⟩ := h;exact⟨σ', H', I.unwish, q⟩
 |ret u => obtain⟨v, σ', H', I, r, q⟩ := h;exact⟨v, σ', H', I.unwish, r, q⟩
theorem PSs.nox{st:Ab Bq}{t:TS}(h : PSs X.nox st t) : PSs X st t := fun pI s σ H D I hw=>
 BW (h pI s σ H D (I.wish _) hw) (fun _ _ q => q.unwish) fun _ _ z => C5 z
end
section
variable{X : Cx}{st : Bq}{rest : Ab Bq}{t u : TS}{e : Ao}{te : TE}{pos : AN}
noncomputable def Zz : TS := fun D σ H => D.nx σ H
noncomputable def eT(t u : TS) : TS := fun D σ H => t {D with nx := u D} σ H
theorem VH : PSs X [] Zz := fun _ _ σ H _ I h => SN ⟨σ, H, I, h⟩
theorem Ub(h1 : PS X st t)(h2 : PSs X rest u) : PSs X (st::rest) (eT t u) := by
 intro pI s σ H D I h;refine wpAny_execs_cons (thn (h1 pI s σ H {D with nx := u D} I h) fun f s1 q => ?_)
 cases f with
 |next=>
  obtain⟨σ', H', I', q⟩ := q;exact h2 pI s1 σ' H' D I' q
 |ret v => exact q
 |brk => exact q
 |cont => exact q
theorem Inv.quiet(I : Inv X pI σ H s) : interactive X.env = Ad := by simp[interactive, I.ok.kind]
noncomputable def ZA(te : TE) : TS := fun D σ H => te σ H fun _ H1 => D.nx σ H1
theorem OG(he : PE X e te)(hs : Dx e Af pos.line X.env = pure Ad := by rfl) : PS X (.Expr e pos) (ZA te) := by
 intro pI s σ H D I h;exact wpAny_Expr_any (thn (he pI s σ H _ I h) fun v s1 ⟨x, H1, I1, r1, q1⟩ => ⟨σ, H1, I1, q1⟩) I.quiet hs
noncomputable def eU(te : TE) : TS := fun D σ H => te σ H D.rt
theorem LZ(he : PE X e te) : PS X (.Return (Aa e) pos) (eU te) := by
 intro pI s σ H D I h;exact wpAny_Return_some (thn (he pI s σ H _ I h) fun v s1 ⟨x, H1, I1, r1, q1⟩ => ⟨x, σ, H1, I1, r1, q1⟩)
noncomputable def dZ(c : TT)(t u : TS) : TS := fun D σ H => c σ H fun b H1 => if b = Ac then t D σ H1 else u D σ H1
theorem ZU{c:Ao}{a b:Ab Bq}{tc:TT}(hc : PT X c tc)(ha : PSs X a t)(hb : PSs X b u) : PS X (.If c a b pos) (dZ tc t u) := by
 intro pI s σ H D I h;refine wpAny_If (thn (hc pI s σ H _ I h) fun d s1 ⟨H1, I1, q1⟩ => ?_)
 cases d with
 |true => exact ha pI s1 σ H1 D I1 q1
 |false => exact hb pI s1 σ H1 D I1 q1
end
noncomputable abbrev TG := V -> St -> Hp -> (St -> Hp -> Prop) -> Prop
noncomputable abbrev TGs := Ab V -> St -> Hp -> (St -> Hp -> Prop) -> Prop
noncomputable def PG(X : Cx)(target : Ao)(t : TG) : Prop:=
 ∀(pI : Ab (Ai × AJ))(s : Ak)(σ : St)(H : Hp)(v : V)(u : Ah)(Q : St -> Hp -> Prop), Inv X pI σ H s -> Bo v u -> t v σ H Q ->
  AB (model X.prog X.w) X.A (assign target X.env u) (fun _ s' => ∃ σ' H', Inv X pI σ' H' s' /\ Q σ' H') X.xe s
noncomputable def PGs(X : Cx)(ts : Ab Ao)(t : TGs) : Prop:=
 ∀(pI : Ab (Ai × AJ))(s : Ak)(σ : St)(H : Hp)(vs : Ab V)(us : Ab Ah)(Q : St -> Hp -> Prop), Inv X pI σ H s -> AZ vs us -> t vs σ H Q ->
  AB (model X.prog X.w) X.A (assignInOrder ((BL ts X.env).map (·.2)) us) (fun _ s' => ∃ σ' H', Inv X pI σ' H' s' /\ Q σ' H') X.xe s
noncomputable abbrev ME := V -> V -> V -> Hp -> (Hp -> Prop) -> Prop
noncomputable def QS(X : Cx)(t : ME) : Prop:=
 ∀(pI : Ab (Ai × AJ))(s : Ak)(σ : St)(H : Hp)(o i v : V)(ov iv u : Ah)(Q : Hp -> Prop), Inv X pI σ H s -> Bo o ov -> Bo i iv -> Bo v u -> t o i v H Q ->
  AB (model X.prog X.w) X.A (G4 ov iv u) (fun _ s' => ∃ H', Inv X pI σ H' s' /\ Q H') X.xe s
section
variable{X : Cx}{pos : AN}
noncomputable def DW(i : Ag) : TG := fun v σ H Q => Q (σ.set i (Aa v)) H
theorem IV(hN : X.N.Nodup)(hi : X.N[i]? = Aa x)(hx : Loc X.env.scope x)(hf : X.fn x = Ac \/ X.env.scope.names.lookup x = Aa .local := by first|exact .inl rfl|exact .inr rfl|assumption) : PG X (.Name x pos) (DW i) := by
 intro pI s σ H v u Q I r h;exact SL (NT I hN hi hx r (fun s' I' => ⟨_, H, I', h⟩) hf)
noncomputable def FY : TGs := fun vs σ H Q => vs = [] /\ Q σ H
noncomputable def FW(t : TG)(u : TGs) : TGs := fun vs σ H Q => ∃ v r, vs = v::r /\ t v σ H fun σ' H' => u r σ' H' Q
theorem Lw : PGs X [] FY := by
 intro pI s σ H vs us Q I r h;obtain⟨e, h⟩ := h;subst e;cases r;exact assignInOrder_nil ⟨σ, H, I, h⟩
theorem JJ{t:TG}{u:TGs}(h1 : PG X e t)(h2 : PGs X es u)(hs : (BL (e::es) X.env).map (·.2) = assign e X.env::(BL es X.env).map (·.2) := by rfl) : PGs X (e::es) (FW t u) := by
 intro pI s σ H vs us Q I r h;obtain⟨v, vr, e1, h⟩ := h;subst e1;cases r with
 |cons r rr=>
  rw[hs];refine assignInOrder_cons (thn (h1 pI s σ H _ _ _ I r h) fun _ s1 ⟨σ1, H1, I1, q1⟩ => ?_)
  exact h2 pI s1 σ1 H1 _ _ Q I1 rr q1
noncomputable def Iq(K : Fg)(n : Ag)(t : TGs) : TG := fun v σ H Q => ∃ a xs, v = .ref a /\ SqT K H a xs /\ xs.length = n /\ t xs σ H Q
theorem J2{t:TGs}(hc : X.calm = Ac)(h : PGs X es t)(hn : (BL es X.env).length = n := by rfl)(hst : (BL es X.env).findIdx? (·.1) = Af := by rfl) : PG X (.Tuple es k pos) (Iq X.K n t) := by
 intro pI s σ H v u Q I r hw;obtain⟨a, xs, e1, hq, hl, hw⟩ := hw;subst e1;cases r;obtain⟨its, rv, ht, hz⟩ := I.tuple hq;refine assign_Tuple_tuple (I.ok.hd hc) ht (by simp[hn, <-hl, rv.length]) hst fun h' hx => ?_
 have I1 : Inv X pI σ H {s with heap := h'} := I.kept (t' := s.toks) fun b o e => hx b o (A2 (Aw e)) e
 exact h pI _ σ H xs _ Q I1 (by simpa using rv) hw
noncomputable def dS(to ti : TE)(t : ME) : TG := fun v σ H Q => to σ H fun o H1 => ti σ H1 fun i H2 => t o i v H2 fun H3 => Q σ H3
theorem L6{o i:Ao}{to ti:TE}{t:ME}(ho : PE X o to)(hi : PE X i ti)(hs : QS X t)(ha : ∀ v, assign (.Subscript o i pos) X.env v = (do
   let ov <-holding [v] (eval o X.env)
   let iv <-holding [v, ov] (eval i X.env)
   FD pos
   holding [v, ov, iv] (G4 ov iv v)
   release [v, ov, iv] []) := by intro _;rfl) : PG X (.Subscript o i pos) (dS to ti t) := by
 intro pI s σ H v u Q I r h;rw[ha];refine Am (CF (thn (ho pI s σ H _ I h) fun ov s1 ⟨x, H1, I1, r1, q1⟩ => ?_))
 refine Am (CF (thn (hi pI s1 σ H1 _ I1 q1) fun iv s2 ⟨y, H2, I2, r2, q2⟩ => ?_))
 refine Am (Fm (Am (CF (thn (hs pI s2 σ H2 x y v ov iv u _ I2 r1 r2 r q2) fun _ s3 ⟨H3, I3, q3⟩ => ?_))))
 exact wpAny_release ⟨σ, H3, I3, q3⟩
noncomputable def J6(te : TE)(g : TG) : TS := fun D σ H => te σ H fun x H1 => g x σ H1 D.nx
theorem L0{g:TG}(he : PE X e te)(hg : PG X tg g)(hs : El [tg] e pos.line X.env = pure Ad := by rfl)(hw : CZ [tg] e X.env = pure Af := by rfl)(h1 : (BL [tg] X.env).map (·.2) = [assign tg X.env] := by rfl) : PS X (.Assign [tg] e pos) (J6 te g) := by
 intro pI s σ H D I h;refine wpAny_Assign_stores (thn (he pI s σ H _ I h) fun v s1 ⟨x, H1, I1, r1, q1⟩ => ?_) hs hw
 rw[h1];exact thn (hg pI s1 σ H1 x v _ I1 r1 q1) fun _ s2 q => q
theorem XV{pos':AN}(hN : X.N.Nodup)(hi : X.N[i]? = Aa x)(hx : Loc X.env.scope x)(he : PE X e te)(hs : Dx e (Aa (.Name x pos')) pos.line X.env = pure Ad := by rfl)(hf : X.fn x = Ac \/ X.env.scope.names.lookup x = Aa .local := by first|exact .inl rfl|exact .inr rfl|assumption):PS X (.Assign [.Name x pos'] e pos) (J6 te (DW i)) := by
 intro pI s σ H D I h;refine wpAny_Assign_Name (thn (he pI s σ H _ I h) fun v s1 ⟨y, H1, I1, r1, q1⟩ => ?_) hs
 exact NT I1 hN hi hx r1 (fun s2 I2 => ⟨_, H1, I2, q1⟩) hf
end
section
variable{X : Cx}{pos : AN}
end
structure It where
 go : Ag -> Hp -> Prop
 yld : Ag -> Hp -> V -> Hp -> Prop
 stop : Ag -> Hp -> Prop
noncomputable def E9(X : Cx)(pI : Ab (Ai × AJ))(H : Hp)(b : Ai) : Prop:=
 H b = Af /\ b ≠ X.env.locals /\ b ∉ X.fs /\ (b ∈ X.ex \/ X.s₀.heap.objs.size <= b) /\ (∀ x c, X.env.cells.lookup x = Aa c -> c ≠ b) /\ ∀ p ∈ X.pn++pI, p.1 ≠ b
theorem Inv.fpOk{H':Hp}(I : Inv X pI σ H s)(hb : s.heap.objs.size <= b)(hn : H' b = Af) : E9 X pI H' b := by
 refine⟨hn, D7 (AD I.lt hb), I.nofs hb, .inr (B9 I.sz hb), fun x c e z => ?_, fun p hp z => ?_⟩
 ·obtain⟨v, q⟩ := I.cell x c e;exact absurd (AD q.lt (by rw[z];exact hb)) (Be _)
 ·exact absurd (AD (Aw (I.pin p hp).1) (by rw[z];exact hb)) (Be _)
structure Turn (P : AM) (w : AU) (K : Fg) (tg : Ao) (J : It) (fp : Ab Ai) (it : Ai) (tn : Ag -> AF -> Prop) : Prop where
 mem : it ∈ fp
 obj : ∀ i h, tn i h -> ∀ b ∈ fp, ∃ o, h.get? b = Aa o /\ ∀ v, o.data ≠ .cell v
 keep : ∀ i h h', tn i h -> (∀ b ∈ fp, ∀ o, h.get? b = Aa o -> h'.get? b = Aa o) -> tn i h'
 item : ∀(X : Cx), X.prog = P -> X.w = w -> X.K = K -> X.calm = Ac -> ∀(i : Ag)(pI : Ab (Ai × AJ))(s : Ak)(σ : St)(H : Hp)(E : Ah -> Ak -> Prop), Inv X pI σ H s -> (∀ b ∈ fp, E9 X pI H b) -> tn i s.heap -> J.go i H ->
  AB (model P w) X.A (Go (.ref it)) (fun r s1 => ∃ u, r = Aa u /\
   AB (model P w) X.A (EO tg (.ref it) u) (fun _ s2 => ∃ x H', Inv X pI σ H' s2 /\ Bo x u /\ J.yld i H x H' /\ tn (i+1) s2.heap /\ ∀ b ∈ fp, H' b = Af) E s1) E s
 done : ∀(X : Cx), X.prog = P -> X.w = w -> X.K = K -> X.calm = Ac -> ∀(i : Ag)(pI : Ab (Ai × AJ))(s : Ak)(σ : St)(H : Hp)(E : Ah -> Ak -> Prop), Inv X pI σ H s -> (∀ b ∈ fp, E9 X pI H b) -> tn i s.heap -> J.stop i H ->
  AB (model P w) X.A (Go (.ref it)) (fun r s1 => r = Af /\ Inv X pI σ H s1) E s
 self : ∀(A : A3)(i : Ag)(s : Ak)(Q : Ah -> Ak -> Prop)(E : Ah -> Ak -> Prop), tn i s.heap -> Q (.ref it) s -> AB (model P w) A (IE (.ref it)) Q E s
noncomputable abbrev TI := St -> Hp -> (It -> Hp -> Prop) -> Prop
noncomputable def PIE(X : Cx)(pI : Ab (Ai × AJ))(σ : St)(tg : Ao)(R : It -> Hp -> Prop)(itv : Ah)(s2 : Ak) : Prop:=
 ∃(it : Ai)(fp : Ab Ai)(tn : Ag -> AF -> Prop)(J : It)(H' : Hp), itv = .ref it /\ Inv X pI σ H' s2 /\ Turn X.prog X.w X.K tg J fp it tn /\ tn 0 s2.heap /\ (∀ b ∈ fp, E9 X pI H' b) /\ R J H'
noncomputable def PI(X : Cx)(tg iter : Ao)(wi : TI) : Prop:=
 ∀(pI : Ab (Ai × AJ))(s : Ak)(σ : St)(H : Hp)(R : It -> Hp -> Prop), Inv X pI σ H s -> wi σ H R ->
  AB (model X.prog X.w) X.A (eval iter X.env) (fun v s1 => AB (model X.prog X.w) X.A (IE v) (PIE X pI σ tg R) X.xe s1) X.xe s
theorem Ml{A : A3}{E : Ah -> Ak -> Prop}{n:Dj}{vs:Bf Ah}(ho : s.heap.get? it = Aa o)(hc : o.cls = .type n)(hd : o.data = .fields vs)(hn : ["enumerate", "zip", "dict_itemiterator", "dict_reverseitemiterator", "odict_iterator", "itertools.zip_longest", "itertools.pairwise"].contains n = Ad)(hQ : Q () s) : AB M A (EO tg (.ref it) u) Q E s := by
  unfold EO;cases tg <;> first
    |exact AE hQ
    | (cases u <;> first
        |exact AE hQ
        | (refine Am (wpAny_load ho ?_)
           rw[hc, hd];show AB M A (if (["enumerate", "zip", "dict_itemiterator", "dict_reverseitemiterator", "odict_iterator", "itertools.zip_longest", "itertools.pairwise"].contains n&&vs[0]? == Aa (Ff _)) = Ac then _ else _) Q E s
           rw[AO (by intro h;rw[hn, Bool.false_and]at h;cases h)]
           exact AE hQ))
noncomputable def Itl(K : Fg)(a : Ai) : It:=
 ⟨fun i H => ∃ xs x, SqL K H a xs /\ xs[i]? = Aa x, fun i H x H' => H' = H /\ ∀ xs, SqL K H a xs -> xs[i]? = Aa x, fun i H => ∃ xs, SqL K H a xs /\ xs.length <= i⟩
noncomputable def Itt(K : Fg)(a : Ai) : It:=
 ⟨fun i H => ∃ xs x, SqT K H a xs /\ xs[i]? = Aa x, fun i H x H' => H' = H /\ ∀ xs, SqT K H a xs -> xs[i]? = Aa x, fun i H => ∃ xs, SqT K H a xs /\ xs.length <= i⟩
noncomputable def Itr(lo : Ae)(n : Ag) : It := ⟨fun i _ => i<n, fun i H x H' => H' = H /\ x = .int (lo+i), fun i _ => n <= i⟩
theorem Tq{w : AU}{K : Fg}(a it : Ai) : Turn P w K tg (Itl K a) [it] it (fun i h => h.IsListIter it a i) where
 mem := by simp
 obj := fun i h st b hb => by
  have e : b = it := by simpa using hb
  subst e;obtain⟨o, e, c, d⟩ := st;exact⟨o, e, fun v z => by rw[d]at z;cases z⟩
 keep := fun i h h' st k => st.at fun o e => k it (by simp) o e
 item := by
  intro X hP hw hK hc i pI s σ H E I hf st hg;subst hP hw hK;obtain⟨xs, x, hq, hx⟩ := hg;obtain⟨its, rv, p, hz⟩ := I.list hq;obtain⟨u, hu, ru⟩ := rv.get hx;obtain⟨f0, f1, f2, f3, f4, f5⟩ := hf it (by simp)
  refine SV st p.isList (x := u) (by simpa using hu) fun h' st' sb => ?_
  have I1 : Inv X pI σ H {s with heap := h'} := I.turned (t' := s.toks) (fun b o hb e => (sb.2 b hb).trans e) f0 f1 f3 f4 f5
  obtain⟨o, e, c, d⟩ := id st';exact⟨u, rfl, Ml (s := {s with heap := h'}) e c d (by decide) ⟨x, H, I1, ru, ⟨rfl, fun ys hy => by rw[I.list_inj hy hq];exact hx⟩, st', fun b hb => (hf b hb).1⟩⟩
 done := by
  intro X hP hw hK hc i pI s σ H E I hf st hg;subst hP hw hK;obtain⟨xs, hq, hx⟩ := hg;obtain⟨its, rv, p, hz⟩ := I.list hq;obtain⟨f0, f1, f2, f3, f4, f5⟩ := hf it (by simp)
  have hl := rv.length;exact SU (I.ok.hd hc) st p.isList (by simp;omega) fun h' eb => ⟨rfl, I.turned (t' := s.toks) (fun b o hb e => eb b o hb e) f0 f1 f3 f4 f5⟩
 self := fun _ _ _ _ _ st h => wpAny_pyIter_listiter st h
theorem Tu{w : AU}{K : Fg}(a it : Ai) : Turn P w K tg (Itt K a) [it] it (fun i h => h.IsTupleIter it a i) where
 mem := by simp
 obj := fun i h st b hb => by
  have e : b = it := by simpa using hb
  subst e;obtain⟨o, e, c, d⟩ := st;exact⟨o, e, fun v z => by rw[d]at z;cases z⟩
 keep := fun i h h' st k => st.at fun o e => k it (by simp) o e
 item := by
  intro X hP hw hK hc i pI s σ H E I hf st hg;subst hP hw hK;obtain⟨xs, x, hq, hx⟩ := hg;obtain⟨its, rv, p, hz⟩ := I.tuple hq;obtain⟨u, hu, ru⟩ := rv.get hx;obtain⟨f0, f1, f2, f3, f4, f5⟩ := hf it (by simp)
  refine wpAny_pyNext_tuple_item st (show s.heap.IsTuple a its.toArray from p) (x := u) (by simpa using hu) fun h' st' sb => ?_
  have I1 : Inv X pI σ H {s with heap := h'} := I.turned (t' := s.toks) (fun b o hb e => (sb.2 b hb).trans e) f0 f1 f3 f4 f5
  obtain⟨o, e, c, d⟩ := id st';exact⟨u, rfl, Ml (s := {s with heap := h'}) e c d (by decide) ⟨x, H, I1, ru, ⟨rfl, fun ys hy => by rw[I.tuple_inj hy hq];exact hx⟩, st', fun b hb => (hf b hb).1⟩⟩
 done := by
  intro X hP hw hK hc i pI s σ H E I hf st hg;subst hP hw hK;obtain⟨xs, hq, hx⟩ := hg;obtain⟨its, rv, p, hz⟩ := I.tuple hq;obtain⟨f0, f1, f2, f3, f4, f5⟩ := hf it (by simp)
  have hl := rv.length;exact wpAny_pyNext_tuple_end (I.ok.hd hc) st (show s.heap.IsTuple a its.toArray from p) (by simp;omega) fun h' eb => ⟨rfl, I.turned (t' := s.toks) (fun b o hb e => eb b o hb e) f0 f1 f3 f4 f5⟩
 self := fun _ _ _ _ _ st h => wpAny_pyIter_tupleiter st h
theorem Tv{w : AU}{K : Fg}(it : Ai)(lo : Ae)(n : Ag) : Turn P w K tg (Itr lo n) [it] it (fun i h => IsRangeIter h it (lo+(i : Ag)*1) ((n : Ae)-(i : Ag)) 1) where
 mem := by simp
 obj := fun i h st b hb => by
  have e : b = it := by simpa using hb
  subst e;exact⟨_, st, fun v z => by
   have z' : Data.fields _ = Iw v := z;cases z'⟩
 keep := fun i h h' st k => k it (by simp) _ st
 item := by
  intro X hP hw hK hc i pI s σ H E I hf st hg;subst hP hw hK;obtain⟨f0, f1, f2, f3, f4, f5⟩ := hf it (by simp)
  have W := Walks.range (prog := X.prog) (w := X.w) (I.ok.hd hc) it lo 1 n;refine W.item i s _ _ hg st fun v h' tk hv st' kk => ?_
  obtain⟨t, rfl⟩ := hv;have I1 : Inv X pI σ H {s with heap := h', toks := tk} := I.turned (fun b o hb e => kk b o (by simpa using hb) e) f0 f1 f3 f4 f5
  refine⟨_, rfl, Ml (s := {s with heap := h', toks := tk}) (n := "range_iterator") st' rfl rfl (by decide) ⟨.int (lo+i), H, I1, ⟨t, ?_⟩, ⟨rfl, rfl⟩, st', fun b hb => (hf b hb).1⟩⟩
  rw[CN]
 done := by
  intro X hP hw hK hc i pI s σ H E I hf st hg;subst hP hw hK;obtain⟨f0, f1, f2, f3, f4, f5⟩ := hf it (by simp)
  exact wpAny_pyNext_range_end (I.ok.hd hc) st (by have : n <= i := hg;omega) fun h' eb => ⟨rfl, I.turned (t' := s.toks) (fun b o hb e => eb b o hb e) f0 f1 f3 f4 f5⟩
 self := fun _ _ _ _ _ st h => wpAny_pyIter_rangeiter st h
section
variable{X : Cx}{tg : Ao}
theorem NW{R : It -> Hp -> Prop}{E : Ah -> Ak -> Prop}{lo hi:Ae}{t u v:CA}{tk:Ag}(I : Inv X pI σ H s)(h1 : -(2 ^ 62) <= lo)(h2 : lo<2 ^ 62)(h3 : -(2 ^ 62) <= hi)(h4 : hi<2 ^ 62)(q : R (Itr lo (hi-lo).toNat) H) : AB (model X.prog X.w) X.A (IE (.ref s.heap.objs.size)) (PIE X pI σ tg R) E { s with heap := s.heap.push { cls := .type "range", data := .fields #[.int lo t, .int hi u, .int 1 v] }, toks := tk } := by
 refine wpAny_pyIter_range (Sc ..) (small_one h1 h2 h3 h4) ?_;have I1 : Inv X pI σ H { s with heap := s.heap.push { cls := .type "range", data := .fields #[.int lo t, .int hi u, .int 1 v] }, toks := tk } := I.kept fun b o e => Ar _ e
 refine⟨(s.heap.push { cls := .type "range", data := .fields #[.int lo t, .int hi u, .int 1 v] }).objs.size, [(s.heap.push { cls := .type "range", data := .fields #[.int lo t, .int hi u, .int 1 v] }).objs.size], _, _, H, rfl,
  I1.kept (t' := tk) fun b o e => Ar _ e, Tv _ lo (hi-lo).toNat, ?_, fun b hb => ?_, q⟩
 ·have e1 : lo+((0 : Ag) : Ae)*1 = lo := by simp
  have e2 : (((hi-lo).toNat : Ag) : Ae)-((0 : Ag) : Ae) = Builtin.Range.rangeSize lo hi 1 := by rw[rangeSize_one];split <;> omega
  show IsRangeIter _ _ (lo+((0 : Ag) : Ae)*1) ((((hi-lo).toNat : Ag) : Ae)-((0 : Ag) : Ae)) 1;rw[e1, e2];exact AC _ rfl
 ·have e : b = (s.heap.push { cls := .type "range", data := .fields #[.int lo t, .int hi u, .int 1 v] }).objs.size := by simpa using hb
  subst e;exact I1.fpOk (AQ _) (I1.hok.fresh (AQ _))
noncomputable def bS(ta : TA) : TI := fun σ H R => ta σ H fun vs H1 => ∃ j : Ae, vs = [.int j] /\ -(2 ^ 62) <= j /\ j<2 ^ 62 /\ R (Itr 0 j.toNat) H1
noncomputable def bR(ta : TA) : TI := fun σ H R => ta σ H fun vs H1 => ∃ i j : Ae, vs = [.int i, .int j] /\ (-(2 ^ 62) <= i /\ i<2 ^ 62 /\ -(2 ^ 62) <= j /\ j<2 ^ 62) /\ R (Itr i (j-i).toNat) H1
theorem T7{a:Ao}{p:AN}(hg : Gl X "range")(hm : X.mg "range" = Af)(ha : PA X [a] ta)(hs : Ax [a] X.env = [(Ad, eval a X.env)] := by rfl) : PI X tg (.Call (.Name "range" p) [a] [] pos) (bS ta) := by
 intro pI s σ H R I h;refine Hq (GB I hg hm Hs (BB (thn (ha pos pI s σ H _ I h) fun us s1 ⟨vs, H1, I1, r1, q1⟩ => ?_) hs rfl))
 obtain⟨j, e, q1, q2, q⟩ := q1;subst e;cases r1 with
 |cons r rr=>
  cases rr;obtain⟨t, rfl⟩ := r;exact call_range_1 (NW I1 (by omega) (by omega) q1 q2 (by simpa using q))
theorem T6{a b:Ao}{p:AN}(hg : Gl X "range")(hm : X.mg "range" = Af)(ha : PA X [a, b] ta)(hs : Ax [a, b] X.env = [(Ad, eval a X.env), (Ad, eval b X.env)] := by rfl)(hs2 : Ax [b] X.env = [(Ad, eval b X.env)] := by rfl):
  PI X tg (.Call (.Name "range" p) [a, b] [] pos) (bR ta) := by
 intro pI s σ H R I h;refine Hq (GB I hg hm Hs (BB (thn (ha pos pI s σ H _ I h) fun us s1 ⟨vs, H1, I1, r1, q1⟩ => ?_) (by rw[hs, hs2]) (by rw[hs2];rfl)))
 obtain⟨i, j, e, ⟨q1, q2, q3, q4⟩, q⟩ := q1;subst e;cases r1 with
 |cons r rr=>
  cases rr with
  |cons r' rr=>
   cases rr;obtain⟨t, rfl⟩ := r;obtain⟨t', rfl⟩ := r';exact call_range_2 (NW I1 q1 q2 q3 q4 q)
noncomputable def eA(wi : TI)(g : TG)(tb : TS) : TS := fun D σ H => wi σ H fun J H1 => ∃ W : Ag -> Ag -> St -> Hp -> Prop, (∃ m, W 0 m σ H1) /\ ∀ i m σ H, W i m σ H ->
 (J.stop i H /\ D.nx σ H) \/ (J.go i H /\ ∃ N : St -> Hp -> Prop, (∀ σ' H', N σ' H' -> ∃ m', m'<m /\ W (i+1) m' σ' H') /\ ∀ x H', J.yld i H x H' -> g x σ H' fun σ2 H2 => tb {D with nx := N, ct := N, bk := D.nx} σ2 H2)
noncomputable def Hj(fp : Ab Ai)(h : AF) : Ab (Ai × AJ) := fp.filterMap fun b => (h.get? b).map fun o => (b, o)
theorem JF(hb : b ∈ fp)(e : h.get? b = Aa o) : (b, o) ∈ Hj fp h := Rt.mpr ⟨b, hb, by rw[e];rfl⟩
theorem Nq{p:Ai × AJ}(hp : p ∈ Hj fp h) : p.1 ∈ fp /\ h.get? p.1 = Aa p.2 := by
 obtain⟨b, hb, e⟩ := List.mem_filterMap.mp hp;cases q : h.get? b with
 |none => rw[q]at e;cases e
 |some o=>
  rw[q]at e;have e' : (b, o) = p := Bl e;subst e';exact⟨hb, q⟩
theorem Inv.pinned(I : Inv X pI σ H s)(hf : ∀ b ∈ fp, E9 X pI H b)(ho : ∀ b ∈ fp, ∃ o, s.heap.get? b = Aa o /\ ∀ v, o.data ≠ .cell v) : Inv X (pI++Hj fp s.heap) σ H s:=
 I.pins_of fun p hp => (Du.mp hp).elim (fun z => I.pin p (Ba _ z)) fun z => by
  obtain⟨hb, e⟩ := Nq z;obtain⟨f0, f1, f2, _⟩ := hf p.1 hb;obtain⟨o, e', d⟩ := ho p.1 hb;rw[e]at e';cases e';exact⟨e, f0, f1, f2, d⟩
theorem Inv.unpinned{pl:Ab (Ai × AJ)}(I : Inv X (pI++pl) σ H s) : Inv X pI σ H s := I.pins_of fun p hp => I.pin p (Ba _ (EF _ hp))
theorem XX{iter:Ao}{wi:TI}{g:TG}{tb:TS}(hp : EC (model X.prog X.w) X.A X.env X.xe)(hc : X.calm = Ac)(hi : PI X tg iter wi)(hg : PG X tg g)(hb : PSs X body tb)(hs : ∀ x, Ch iter X.env x = pure x := by intro _;rfl) : PS X (.For tg iter body [] pos) (eA wi g tb) := by
 intro pI s σ H D I h;refine wpAny_For (thn (hi pI s σ H _ I h) fun v s1 h1 => thn h1 fun itv s2 h2 => ?_) hs
 obtain⟨it, fp, tn, J, H2, e, I2, T, st2, f2, W, ⟨m0, w0⟩, turn⟩ := h2;subst e
 -- what stays Ac of the iterator's objects through the loop
 have stat : ∀{H' : Hp}, (∀ b ∈ fp, H' b = Af) -> ∀ b ∈ fp, E9 X pI H' b := fun hn b hb => ⟨hn b hb, (f2 b hb).2⟩
 refine codeAny_forLoop_any (fun n s' => ∃ i σ' H', Inv X pI σ' H' s' /\ tn i s'.heap /\ (∀ b ∈ fp, H' b = Af) /\ W i n σ' H') ?_ m0 ⟨0, σ, H2, I2, st2, fun b hb => (f2 b hb).1, w0⟩
 rintro n s3 ⟨i, σ3, H3, I3, st3, fr3, w3⟩;rcases turn i n σ3 H3 w3 with ⟨stop, qn⟩|⟨go, N, hN, step⟩
 ·refine D6 hp (thn (T.done X rfl rfl rfl hc i pI s3 σ3 H3 X.xe I3 (stat fr3) st3 stop) fun r s4 ⟨hr, I4⟩ => ?_)
  subst hr;exact SN ⟨σ3, H3, I4, qn⟩
 ·refine D6 hp (thn (T.item X rfl rfl rfl hc i pI s3 σ3 H3 X.xe I3 (stat fr3) st3 go) fun r s4 ⟨u, hr, h4⟩ => ?_)
  subst hr;refine D6 hp (thn h4 fun _ s5 ⟨x, H5, I5, r5, y5, st5, fr5⟩ => ?_)
  have I5' := I5.pinned (stat fr5) (T.obj _ _ st5);refine D6 hp (thn (hg _ s5 σ3 H5 x u _ I5' r5 (step x H5 y5)) fun _ s6 ⟨σ6, H6, I6, q6⟩ => ?_)
  refine D6 hp (thn (hb _ s6 σ6 H6 _ I6 q6) fun f s7 q7 => ?_)
  have again : ∀{σ7 : St}{H7 : Hp}, Inv X (pI++Hj fp s5.heap) σ7 H7 s7 -> N σ7 H7 -> ∃ m, m<n /\ ∃ i σ' H', Inv X pI σ' H' s7 /\ tn i s7.heap /\ (∀ b ∈ fp, H' b = Af) /\ W i m σ' H' := fun {σ7 H7} I7 n7 => by
   obtain⟨m', hm, w7⟩ := hN σ7 H7 n7;refine⟨m', hm, i+1, σ7, H7, I7.unpinned, T.keep _ _ _ st5 fun b hb o e => (I7.pin (b, o) (Ba _ (Ba _ (JF hb e)))).1, fun b hb => ?_, w7⟩
   obtain⟨o, e, d⟩ := T.obj _ _ st5 b hb;exact(I7.pin (b, o) (Ba _ (Ba _ (JF hb e)))).2.1
  cases f with
  |next => obtain⟨σ7, H7, I7, n7⟩ := q7;exact again I7 n7
  |cont => obtain⟨σ7, H7, I7, n7⟩ := q7;exact again I7 n7
  |brk => obtain⟨σ7, H7, I7, q7⟩ := q7;exact⟨σ7, H7, I7.unpinned, q7⟩
  |ret v => obtain⟨x7, σ7, H7, I7, r7, q7⟩ := q7;exact⟨x7, σ7, H7, I7.unpinned, r7, q7⟩
end
noncomputable abbrev R2 := V -> V -> Hp -> VK -> Prop
variable{r r':R2}
noncomputable def OpR(X : Cx)(f : Ah -> Ah -> Fk Ah)(r : R2) : Prop:=
 ∀(pI : Ab (Ai × AJ))(s : Ak)(σ : St)(H : Hp)(x y : V)(v u : Ah)(Q : VK), Inv X pI σ H s -> Bo x v -> Bo y u -> r x y H Q ->
  AB (model X.prog X.w) X.A (f v u) (EP X pI σ Q) X.xe s
noncomputable def UnR(X : Cx)(f : Ah -> Fk Ah)(r : V -> Hp -> VK -> Prop) : Prop:=
 ∀(pI : Ab (Ai × AJ))(s : Ak)(σ : St)(H : Hp)(x : V)(v : Ah)(Q : VK), Inv X pI σ H s -> Bo x v -> r x H Q ->
  AB (model X.prog X.w) X.A (f v) (EP X pI σ Q) X.xe s
noncomputable def Gd(X : Cx)(f : Ah)(r : Ab V -> Hp -> VK -> Prop) : Prop:=
 ∀(pI : Ab (Ai × AJ))(s : Ak)(σ : St)(H : Hp)(xs : Ab V)(us : Ab Ah)(Q : VK), Inv X pI σ H s -> AZ xs us -> r xs H Q ->
  AB (model X.prog X.w) X.A (call f us) (EP X pI σ Q) X.xe s
noncomputable def fB(X : Cx)(r : V -> Hp -> (An -> Hp -> Prop) -> Prop) : Prop:=
 ∀(pI : Ab (Ai × AJ))(s : Ak)(σ : St)(H : Hp)(x : V)(v : Ah)(Q : An -> Hp -> Prop), Inv X pI σ H s -> Bo x v -> r x H Q ->
  AB (model X.prog X.w) X.A (truthy v) (TP X pI σ Q) X.xe s
noncomputable def tOp(r : R2)(ta tb : TE) : TE := fun σ H Q => ta σ H fun x H1 => tb σ H1 fun y H2 => r x y H2 Q
noncomputable def tUn(r : V -> Hp -> VK -> Prop)(ta : TE) : TE := fun σ H Q => ta σ H fun x H1 => r x H1 Q
noncomputable def rI(C : Ae -> Ae -> Prop)(g : Ae -> Ae -> V) : R2 := fun x y H Q => ∃ i j, x = .int i /\ y = .int j /\ C i j /\ Q (g i j) H
noncomputable def rI0(g : Ae -> Ae -> V) : R2 := fun x y H Q => ∃ i j, x = .int i /\ y = .int j /\ Q (g i j) H
noncomputable def rU(g : Ae -> V) : V -> Hp -> VK -> Prop := fun x H Q => ∃ i, x = .int i /\ Q (g i) H
section
variable{X : Cx}{a b c : Ao}{ta tb tc : TE}{pos : AN}
theorem MD(ha : PE X a ta)(hb : PE X b tb){R : V -> V -> Hp -> Prop}(I : Inv X pI σ H s)(h : ta σ H fun x H1 => tb σ H1 fun y H2 => R x y H2){Q:Ah -> Ak -> Prop}(hf : ∀ v u s2 x y H2, Inv X pI σ H2 s2 -> Bo x v -> Bo y u -> R x y H2 -> AB (model X.prog X.w) X.A (f v u) Q X.xe s2):AB (model X.prog X.w) X.A (eval a X.env) (fun v s₁ =>AB (model X.prog X.w) X.A (eval b X.env) (fun u s₂ =>AB (model X.prog X.w) X.A (f v u) Q X.xe s₂) X.xe s₁) X.xe s := by
 refine thn (ha pI s σ H _ I h) fun v s1 ⟨x, H1, I1, r1, q1⟩ => ?_
 refine thn (hb pI s1 σ H1 _ I1 q1) fun u s2 ⟨y, H2, I2, r2, q2⟩ => ?_
 exact hf v u s2 x y H2 I2 r1 r2 q2
theorem PK{op:FO}(ho : OpR X (BE op) r)(ha : PE X a ta)(hb : PE X b tb) : PE X (.BinOp a op b pos) (tOp r ta tb) := by
 intro pI s σ H Q I h;exact wpAny_BinOp (MD ha hb I h fun v u s2 x y H2 I2 rx ry q => ho pI s2 σ H2 x y v u Q I2 rx ry q)
theorem ZwL{op:UnaryOp}{r:V -> Hp -> VK -> Prop}(ho : UnR X (unaryOp op) r)(ha : PE X a ta) : PE X (.UnaryOp op a pos) (tUn r ta) := by
 intro pI s σ H Q I h;exact UnaryOp_ (thn (ha pI s σ H _ I h) fun v s1 ⟨x, H1, I1, r1, q1⟩ => ho pI s1 σ H1 x v Q I1 r1 q1)
theorem opI{C:Ae -> Ae -> Prop}(rule : ∀(i j : Ae)(t u : CA)(s : Ak)(Q : Ah -> Ak -> Prop)(E : Ah -> Ak -> Prop), C i j -> Q (.int (g i j) s.toks) {s with toks := s.toks+1} -> AB (model X.prog X.w) X.A (f (.int i t) (.int j u)) Q E s):OpR X f (rI C fun i j =>.int (g i j)) := by
 intro pI s σ H x y v u Q I rx ry h;obtain⟨i, j, rfl, rfl, hc, q⟩ := h;obtain⟨t, rfl⟩ := rx;obtain⟨t', rfl⟩ := ry;exact rule i j t t' s _ _ hc ⟨.int (g i j), H, I.tok _, ⟨_, rfl⟩, q⟩
theorem Qv(rule : ∀(i j : Ae)(t u : CA)(s : Ak)(Q : Ah -> Ak -> Prop)(E : Ah -> Ak -> Prop), Q (.int (g i j) s.toks) {s with toks := s.toks+1} -> AB (model X.prog X.w) X.A (f (.int i t) (.int j u)) Q E s):OpR X f (rI0 fun i j =>.int (g i j)) := by
 intro pI s σ H x y v u Q I rx ry h;obtain⟨i, j, rfl, rfl, q⟩ := h;obtain⟨t, rfl⟩ := rx;obtain⟨t', rfl⟩ := ry;exact rule i j t t' s _ _ ⟨.int (g i j), H, I.tok _, ⟨_, rfl⟩, q⟩
theorem Ka{g:Ae -> Ae -> An}(rule : ∀(i j : Ae)(t u : CA)(s : Ak)(Q : Ah -> Ak -> Prop)(E : Ah -> Ak -> Prop), Q (.bool (g i j)) s -> AB (model X.prog X.w) X.A (f (.int i t) (.int j u)) Q E s):OpR X f (rI0 fun i j =>.bl (g i j)) := by
 intro pI s σ H x y v u Q I rx ry h;obtain⟨i, j, rfl, rfl, q⟩ := h;obtain⟨t, rfl⟩ := rx;obtain⟨t', rfl⟩ := ry;exact rule i j t t' s _ _ ⟨.bl (g i j), H, I, rfl, q⟩
noncomputable def fJ(i j : Ae) : Prop := 0<j /\ j<1073741824
noncomputable def fI(i j : Ae) : Prop := 0 <= j /\ j <= 1000000 /\ i.natAbs<2 ^ 64
noncomputable def Kc(i j : Ae) : Prop := (-(2 ^ 64)<i /\ i<2 ^ 64) \/ (-(2 ^ 64)<j /\ j<2 ^ 64)
theorem Kc.ok{i j:Ae}(h : Kc i j) : IA i j := by
 rcases h with ⟨h1, h2⟩|⟨h1, h2⟩
 ·exact .of_left (intBits_le_64 h1 h2)
 ·exact .of_right (intBits_le_64 h1 h2)
theorem YV : OpR X (BE .Add) (rI0 fun i j => .int (i+j)) := Qv fun _ _ _ _ _ _ _ q => add_int q
theorem YR : OpR X (BE .Sub) (rI0 fun i j => .int (i-j)) := Qv fun _ _ _ _ _ _ _ q => sub_int q
theorem WG : OpR X (BE .FloorDiv) (rI fJ fun i j => .int (i / j)) := opI fun i j _ _ _ _ _ hc q => by
 have h1 : (0 : Ae)<j := hc.1;have h2 : j<1073741824 := hc.2;exact floordiv_int (by omega) (by rw[Int.fdiv_eq_ediv_of_nonneg i (by omega)];exact q) (.inl (PyProof.noPylong_small (by omega)))
theorem YT : OpR X (BE .Mod) (rI (fun _ j => 0<j) fun i j => .int (i%j)) := opI fun i j _ _ _ _ _ hc q => by
 have h1 : (0 : Ae)<j := hc;exact mod_int' (by omega) (by rw[Int.fmod_eq_emod_of_nonneg i (by omega)];exact q)
theorem YS : OpR X (BE .Pow) (rI fI fun i j => .int (i ^ j.toNat)) := opI fun _ _ _ _ _ _ _ hc q => pow_int_small hc.1 hc.2.1 hc.2.2 q
theorem unI{f:Ah -> Fk Ah}{g:Ae -> Ae}(rule : ∀(i : Ae)(t : CA)(s : Ak)(Q : Ah -> Ak -> Prop)(E : Ah -> Ak -> Prop), Q (.int (g i) s.toks) {s with toks := s.toks+1} -> AB (model X.prog X.w) X.A (f (.int i t)) Q E s):UnR X f (rU fun i =>.int (g i)) := by
 intro pI s σ H x v Q I rx h;obtain⟨i, rfl, q⟩ := h;obtain⟨t, rfl⟩ := rx;exact rule i t s _ _ ⟨.int (g i), H, I.tok _, ⟨_, rfl⟩, q⟩
theorem Zu7 : UnR X (unaryOp .USub) (rU fun i => .int (-i)) := unI fun _ _ _ _ _ q => neg_int q
end
section
variable{X : Cx}{a b c : Ao}{ta tb tc : TE}{pos : AN}
theorem Ph{Q:VK}{k k':An}(I : Inv X pI σ H s)(q : Q (.bl k) H)(e : k = k') : EP X pI σ Q (.bool k') s := by
 subst e;exact⟨.bl k, H, I, rfl, q⟩
theorem cJ : OpR X (B0 .Lt) (rI0 fun i j => .bl (decide (i<j))) := Ka fun _ _ _ _ _ _ _ q => lt_int q
theorem cK : OpR X (B0 .LtE) (rI0 fun i j => .bl (decide (i <= j))) := Ka fun _ _ _ _ _ _ _ q => le_int q
theorem cN : OpR X (B0 .Gt) (rI0 fun i j => .bl (decide (j<i))) := Ka fun _ _ _ _ _ _ _ q => gt_int q
theorem cO : OpR X (B0 .GtE) (rI0 fun i j => .bl (decide (j <= i))) := Ka fun _ _ _ _ _ _ _ q => ge_int q
theorem YU : OpR X (B0 .Is) (fun x y H Q => y = .non /\ Q (.bl (decide (x = .non))) H) := by
 intro pI s σ H x y v u Q I rx ry h;obtain⟨rfl, q⟩ := h;cases ry;refine is_none_gen (Ph I q ?_);cases x <;> first
  |(cases rx;rfl)
  |(obtain⟨t, rfl⟩ := rx;rfl)
theorem WE : OpR X (B0 .IsNot) (fun x y H Q => y = .non /\ Q (.bl (!decide (x = .non))) H) := by
 intro pI s σ H x y v u Q I rx ry h;obtain⟨rfl, q⟩ := h;cases ry;refine isnot_none_gen (Ph I q ?_);cases x <;> first
  |(cases rx;rfl)
  |(obtain⟨t, rfl⟩ := rx;rfl)
theorem Vg(ho : OpR X (B0 op) r)(ha : PE X a ta)(hb : PE X b tb)(hm : Fl op b = Ad) : PE X (.Compare a [op] [b] pos) (tOp r ta tb) := by
 intro pI s σ H Q I h;exact wpAny_Compare1 (MD ha hb I h fun v u s2 x y H2 I2 rx ry q => ho pI s2 σ H2 x y v u Q I2 rx ry q) hm
noncomputable def PJ(t : TE) : TT := fun σ H Q => t σ H fun x H' => ∃ k, x = .bl k /\ Q k H'
theorem VG(ho : OpR X (B0 op) r)(ha : PE X a ta)(hb : PE X b tb)(hm : Fl op b = Ad) : PT X (.Compare a [op] [b] pos) (PJ (tOp r ta tb)) := by
 intro pI s σ H Q I h;refine wpAny_isTrue_Compare1 (thn (ha pI s σ H _ I h) fun v s1 ⟨x, H1, I1, r1, q1⟩ => thn (hb pI s1 σ H1 _ I1 q1) fun u s2 ⟨y, H2, I2, r2, q2⟩=>
  thn (ho pI s2 σ H2 x y v u _ I2 r1 r2 q2) fun c s3 ⟨z, H3, I3, r3, k, e, q3⟩ => ?_) hm
 subst e;cases r3;exact B1 ⟨H3, I3, q3⟩
noncomputable def O3(r r' : R2)(ta tb tc : TE) : TE := fun σ H Q => ta σ H fun x H1 => tb σ H1 fun y H2 => r x y H2 fun z H3 => ∃ k, z = .bl k /\
 (if k = Ac then tc σ H3 fun w' H4 => r' y w' H4 Q else Q (.bl Ad) H3)
theorem Ue(ho : OpR X (B0 op) r)(ho' : OpR X (B0 op') r')(ha : PE X a ta)(hb : PE X b tb)(hc : PE X c tc)(hm : GR [op, op'] [b, c] = Ad := by with_unfolding_all rfl) : PE X (.Compare a [op, op'] [b, c] pos) (O3 r r' ta tb tc) := by
 intro pI s σ H Q I h;refine Compare_chain (thn (ha pI s σ H _ I h) fun v s1 ⟨x, H1, I1, r1, q1⟩ => chain_link (thn (hb pI s1 σ H1 _ I1 q1) fun u s2 ⟨y, H2, I2, r2, q2⟩=>
  thn (ho pI s2 σ H2 x y v u _ I2 r1 r2 q2) fun d s3 ⟨z, H3, I3, r3, k, e, q3⟩ => ?_)) hm
 subst e;cases r3;refine B1 ?_;cases k with
 |false => exact ite_ff ⟨.bl Ad, H3, I3, rfl, q3⟩
 |true => exact ite_tt (chain_last (thn (hc pI s3 σ H3 _ I3 q3) fun w' s4 ⟨z', H4, I4, r4, q4⟩ => ho' pI s4 σ H4 y z' u w' Q I4 r2 r4 q4))
theorem Ua(ho : OpR X (B0 op) r)(ho' : OpR X (B0 op') r')(ha : PE X a ta)(hb : PE X b tb)(hc : PE X c tc)(hm : GR [op, op'] [b, c] = Ad := by with_unfolding_all rfl) : PT X (.Compare a [op, op'] [b, c] pos) (PJ (O3 r r' ta tb tc)) := by
 intro pI s σ H Q I h;refine isTrue_chain (thn (ha pI s σ H _ I h) fun v s1 ⟨x, H1, I1, r1, q1⟩ => test_link (thn (hb pI s1 σ H1 _ I1 q1) fun u s2 ⟨y, H2, I2, r2, q2⟩=>
  thn (ho pI s2 σ H2 x y v u _ I2 r1 r2 q2) fun d s3 ⟨z, H3, I3, r3, k, e, q3⟩ => ?_)) hm
 subst e;cases r3;refine B1 ?_;cases k with
 |false=>
  obtain⟨k', e', q'⟩ := q3;cases e';exact ite_ff ⟨H3, I3, q'⟩
 |true=>
  refine ite_tt (test_last (thn (hc pI s3 σ H3 _ I3 q3) fun w' s4 ⟨z', H4, I4, r4, q4⟩ => thn (ho' pI s4 σ H4 y z' u w' _ I4 r2 r4 q4) fun d' s5 ⟨z2, H5, I5, r5, k2, e2, q5⟩ => ?_))
  subst e2;cases r5;exact B1 ⟨H5, I5, q5⟩
noncomputable def QQ(K : Fg)(x : V)(H : Hp)(k : An) : Prop:=
  match x with
  |.non => k = Ad
  |.bl b => k = b
  |.int i => k = (i != 0)
  |.str y => y.length <= sizeLine /\ k = ((y.length : Ae) != 0)
  |.byt y => y.size <= sizeLine /\ k = ((y.size : Ae) != 0)
  |.ref p => (∃ xs, SqL K H p xs /\ k = !xs.isEmpty) \/ (∃ xs, SqT K H p xs /\ k = !xs.isEmpty) \/ ∃ kvs, H p = Aa (.dK kvs) /\ k = !kvs.isEmpty
  |_ => A6
theorem TF{κ:Type}{kvs : Ab (κ × V)}{vs : Ab (κ × Ah)}(r : KV kvs vs) : (!vs.isEmpty) = !kvs.isEmpty := by
 cases r <;> rfl
theorem MZ{its:Ab Ah}(r : AZ xs its) : (!its.toArray.isEmpty) = !xs.isEmpty := by
 cases r <;> simp
theorem HW : (sizeLine : Ag)<2 ^ 63 := by rw[DR];decide
theorem W9 : fB X (fun x H Q => ∃ k, QQ X.K x H k /\ Q k H) := by
 intro pI s σ H x v Q I rx h;obtain⟨k, e, q⟩ := h;have hl := HW;have hs : sizeLine = 16777216 := DR;cases x with
 |non=>
  cases rx;have e' : k = Ad := e;subst e';exact truthy_none ⟨H, I, q⟩
 |bl b=>
  cases rx;have e' : k = b := e;subst e';exact B1 ⟨H, I, q⟩
 |int i=>
  obtain⟨t, rfl⟩ := rx;have e' : k = (i != 0) := e;subst e';exact PySem.P.truthy_int ⟨H, I, q⟩
 |str y=>
  obtain⟨t, rfl⟩ := rx;obtain⟨hy, e'⟩ : y.length <= sizeLine /\ k = ((y.length : Ae) != 0) := e;subst e';exact PySem.P.truthy_str (by omega) ⟨H, I.tok _, q⟩
 |byt y=>
  obtain⟨t, rfl⟩ := rx;obtain⟨hy, e'⟩ : y.size <= sizeLine /\ k = ((y.size : Ae) != 0) := e;subst e';exact PySem.W.truthy_bytes (by omega) ⟨H, I.tok _, q⟩
 |ref p=>
  cases rx;have e' : (∃ xs, SqL X.K H p xs /\ k = !xs.isEmpty) \/ (∃ xs, SqT X.K H p xs /\ k = !xs.isEmpty) \/ ∃ kvs, H p = Aa (.dK kvs) /\ k = !kvs.isEmpty := e;rcases e' with ⟨xs, hx, e'⟩|⟨xs, hx, e'⟩|⟨kvs, hx, e'⟩
  ·subst e';obtain⟨its, r, pl, hz⟩ := I.list hx;have hlen := r.length;exact wpAny_truthy_list pl.isList (by simp only[Az];omega) ⟨H, I.tok _, by rw[MZ r];exact q⟩
  ·subst e';obtain⟨its, r, pl, hz⟩ := I.tuple hx;have hlen := r.length;exact truthy_tuple pl (by simp only[Az];omega) ⟨H, I.tok _, by rw[MZ r];exact q⟩
  ·subst e';obtain⟨hz, hS, vs, r, m⟩ : kvs.length <= sizeLine /\ (p==Hz) = Ad /\ ∃ vs, KV kvs vs /\ s.heap.DictOf (LD X.prog X.w) p vs := I.hok p _ hx;have hlen : kvs.length = vs.length := Se r;exact wpAny_truthy_dict hS m (by omega) ⟨H, I.tok _, by rw[TF r];exact q⟩
 |_ => exact(show A6 from e).elim
theorem UI(ha : PE X a ta)(he : ∀ whole, Gk a X.env whole = (do let v <-whole;FD a.pos;holding [v] (truthy v))):PT X a (fun σ H Q =>ta σ H fun x H' =>∃ k,QQ X.K x H' k/\Q k H') := by
 intro pI s σ H Q I h;exact isTrue_plain (thn (ha pI s σ H _ I h) fun v s1 ⟨x, H1, I1, r1, q1⟩ => W9 pI s1 σ H1 x v Q I1 r1 q1) (he _)
theorem TB : OpR X (BE .Add) (fun x y H Q => ∃ i j, x = .str i /\ y = .str j /\ i.length+j.length <= sizeLine /\ Q (.str (i++j)) H) := by
 intro pI s σ H x y v u Q I rx ry h;obtain⟨i, j, rfl, rfl, hz, q⟩ := h;obtain⟨t, rfl⟩ := rx;obtain⟨t', rfl⟩ := ry;exact add_str (fun t' tk => ⟨.str (i++j), H, I.tok _, ⟨_, rfl⟩, q⟩) hz
theorem Gb{x:V}(r : AZ [x] us) : ∃ u, us = [u] /\ Bo x u := by
 cases r with
 |cons r1 r2 => cases r2;exact⟨_, rfl, r1⟩
theorem PF{x:V}(r : AZ [x, y] us) : ∃ u w', us = [u, w'] /\ Bo x u /\ Bo y w' := by
 cases r with
 |cons r1 r2=>
  cases r2 with
  |cons r3 r4 => cases r4;exact⟨_, _, rfl, r1, r3⟩
theorem UK(hc : X.calm = Ac) : Gd X (.builtin "min") (fun xs H Q => ∃ i j, xs = [.int i, .int j] /\ Q (.int (if j<i then j else i)) H) := by
 intro pI s σ H xs us Q I r h;obtain⟨i, j, rfl, q⟩ := h;obtain⟨u, w', rfl, ⟨t, rfl⟩, ⟨t', rfl⟩⟩ := PF r;refine min_two_ints (I.ok.hd hc) fun h' tk k => ⟨_, H, I.kept k, ?_, q⟩
 by_cases hj : j<i
 ·rw[AH hj, AH hj];exact⟨_, rfl⟩
 ·rw[AO hj, AO hj];exact⟨_, rfl⟩
end
section
variable{prog : AM}{w : AU}{A : A3}{E : Ah -> Ak -> Prop}{s : Ak}{K : Fg}{x dx C f : Ai}{mA : Aj -> Ap Ah}{name : Aj}{v : Ah}
end
section
variable{P : AM}{w : AU}{H H' : Hp}{h h' : AF}{a C dx : Ai}{fs fs' : Ab (Aj × V)}
end
section
variable{X : Cx}{pI : Ab (Ai × AJ)}{σ : St}{H : Hp}{s : Ak}{a C dx : Ai}{fs : Ab (Aj × V)}{f : Aj}{v : V}{A : A3}{E : Ah -> Ak -> Prop}
end
section
variable{X : Cx}{o e value : Ao}{f : Aj}{pos pos' tpos : AN}{ta tv : TE}
end
section
variable{X : Cx}{pI : Ab (Ai × AJ)}{σ : St}{H : Hp}{s : Ak}{A : A3}{E : Ah -> Ak -> Prop}{Q : Ah -> Ak -> Prop}{c : Ah}{b : An}
end
structure Room (k : Ag) (A : A3) : Prop where
 hd : A.handled = Af
 dp : A.depth+3*k+5<SJ
 un : A.units+16*k+200<BP
theorem Room.deeper{A : A3}(r : Room (k+1) A)(env : BJ) : Room k (A.deeper env):=
 ⟨r.hd, by have := r.dp;show A.depth+1+3*k+5<_;omega, by have := r.un;show A.units+3+16*k+200<_;omega⟩
theorem Room.depth{A : A3}(r : Room k A) : A.depth<SJ := by have := r.dp;omega
theorem Room.units{A : A3}(r : Room k A) : A.units+64<BP := by have := r.un;omega
noncomputable def eX : TA := fun _ H Q => Q [] H
noncomputable def ZB(ta : TE)(tr : TA) : TA := fun σ H Q => ta σ H fun x H1 => tr σ H1 fun xs H2 => Q (x::xs) H2
section
variable{X : Cx}{e : Ao}{es : Ab Ao}{te : TE}{t : TA}{pos : AN}
theorem GA : PA X [] eX := fun _ _ _ _ H Q I h => RT ⟨[], H, I, .nil, h⟩
theorem E2(ha : PE X e te)(hr : PA X es t)(hs : Ax (e::es) X.env = (Ad, eval e X.env)::Ax es X.env := by rfl) : PA X (e::es) (ZB te t) := by
 intro pos pI s σ H Q I h;rw[hs];show AB _ _ (spliced ((Ad, eval e X.env)::Cn pos (Ax es X.env))) _ _ s;refine RS (thn (ha pI s σ H _ I h) fun u s1 ⟨x, H1, I1, r1, q1⟩ => ?_)
 exact thn (hr pos pI s1 σ H1 _ I1 q1) fun us s2 ⟨xs, H2, I2, r2, q2⟩ => ⟨x::xs, H2, I2, .cons r1 r2, q2⟩
noncomputable def eS(t : TA) : TE := fun σ H Q => t σ H fun xs H1 => xs.length <= sizeLine /\ ∀ p, H1 p = Af -> Q (.ref p) (upd H1 p (.tup xs))
noncomputable def eY(t : TA) : TE := fun σ H Q => t σ H fun xs H1 => xs.length <= sizeLine /\ ∀ p, H1 p = Af -> Q (.ref p) (upd H1 p (.lst xs))
theorem Xs{x1}(h : PA X es t) : PE X (.Tuple es x1 pos) (eS t) := by
 intro pI s σ H Q I hq;refine wpAny_Tuple_spliced (thn (h pos pI s σ H _ I hq) fun us s1 ⟨xs, H1, I1, r, z, q⟩ => ⟨by rw[<-r.length];exact z, ?_⟩)
 have hf : H1 s1.heap.objs.size = Af := I1.hok.fresh (AQ _);refine⟨.ref s1.heap.objs.size, upd H1 s1.heap.objs.size (.tup xs), I1.laid (t' := s1.toks) (fun b u e => Ar _ e) (AQ _) ?_, rfl, q _ hf⟩
 exact⟨z, us, r, ⟨_, AC _ rfl, rfl, _, rfl⟩⟩
theorem YM(h : PA X es t) : PE X (.List es pos) (eY t) := by
 intro pI s σ H Q I hq;refine wpAny_List_spliced (thn (h pos pI s σ H _ I hq) fun us s1 ⟨xs, H1, I1, r, z, q⟩ => ⟨by rw[<-r.length];exact z, ?_⟩)
 have hf : H1 s1.heap.objs.size = Af := I1.hok.fresh (AQ _);refine⟨.ref s1.heap.objs.size, upd H1 s1.heap.objs.size (.lst xs), I1.laid (t' := s1.toks) (fun b u e => Ar _ e) (AQ _) ?_, rfl, q _ hf⟩
 exact⟨z, us, 0, r, AC _ rfl⟩
end
noncomputable abbrev Sp := Ab V -> Hp -> VK -> XK -> Prop
variable{sp:Sp}
noncomputable abbrev CXT := Ab BJ -> Hp -> Ak -> XK -> Ah -> Ak -> Prop
variable{CX:CXT}
structure Env0 (P : AM) (w : AU) (K : Fg) (mg : Aj -> Ap Ah) (base : AF) (A : A3) (outer : Ab BJ) (s : Ak) (H : Hp) : Prop where
 frames : A.frames = Aa outer
 mod : Mod K mg base
 bs : ∀ b o, base.get? b = Aa o -> s.heap.get? b = Aa o /\ H b = Af
 bsz : base.objs.size <= s.heap.objs.size
 funs : s.heap.FunFrames base outer
 frf : ∀ b ∈ frs outer, H b = Af
 hok : HOk P w H s.heap
 bare : Ec s.gens
noncomputable def CE(outer : Ab BJ)(P : AM)(w : AU)(H : Hp)(s : Ak)(Q : VK)(u : Ah)(s' : Ak) : Prop:=
 ∃ v H', s'.os = s.os /\ Ec s'.gens /\ Un (frs outer) [] H H' s.heap s'.heap /\ HOk P w H' s'.heap /\ Bo v u /\ Q v H'
noncomputable def CR(CX : CXT)(outer : Ab BJ)(P : AM)(w : AU)(H : Hp)(s : Ak)(Q : VK)(E : XK)(r : Hu)(s' : Ak) : Prop:=
  match r with
  |.ok (.ret u) => CE outer P w H s Q u s'
  |.ok _ => A6
  |.error e => CX outer H s E e s'
structure FnOk (P : AM) (w : AU) (K : Fg) (mg : Aj -> Ap Ah) (base : AF) (CX : CXT) (k : Ag) (f : Ai) (fd : BV) (ps : Ab Aj) (sp : Sp) : Prop where
 len : ∀ vs H Q E, sp vs H Q E -> vs.length = ps.length
 run : ∀(A : A3)(outer : Ab BJ)(s : Ak)(H : Hp)(args : Args)(us : Ab Ah)(vs : Ab V)(Q : VK)(E : XK), Room k A -> Env0 P w K mg base A outer s H -> FA s fd args (ps.zip us) -> AZ vs us -> sp vs H Q E ->
  E0 (model P w) A (.call (.ref f) args) (CR CX outer P w H s Q E) s
theorem FnOk.imp{w : AU}{K : Fg}{mg : Aj -> Ap Ah}{base : AF}{f:Ai}{sp':Sp}(F : FnOk P w K mg base CX k f fd ps sp)(h : ∀ vs H Q E, sp' vs H Q E -> sp vs H Q E) : FnOk P w K mg base CX k f fd ps sp':=
 ⟨fun vs H Q E q => F.len vs H Q E (h _ _ _ _ q), fun A outer s H args us vs Q E hr he hb hv hs => F.run A outer s H args us vs Q E hr he hb hv (h _ _ _ _ hs)⟩
section
variable{X : Cx}{pI : Ab (Ai × AJ)}{σ : St}{H : Hp}{s s' : Ak}
theorem Inv.env0(I : Inv X pI σ H s) : Env0 X.prog X.w X.K X.mg X.base X.A X.stack s H:=
 ⟨I.ok.frames, I.ok.mod, I.bs, B9 I.ok.bsz I.sz, I.stack, I.stkFree, I.hok, I.bare⟩
theorem Inv.after{Q:VK}(I : Inv X pI σ H s)(h : CE X.stack X.prog X.w H s Q u s') : EP X pI σ Q u s' := by
 obtain⟨v, H', os, bare, un, hok, r, q⟩ := h;obtain⟨hh, g, d, t, os'⟩ := s';obtain rfl : os' = s.os := os;exact⟨v, H', I.call (h' := hh) (g' := g) (d' := d) (t' := t) (ch := []) un hok bare (fun b z => absurd z (by simp)), r, q⟩
end
noncomputable def ZC(sp : Sp)(dvs : Ab V)(E : XK)(t : TA) : TE := fun σ H Q => t σ H fun vs H1 => sp (vs++dvs) H1 Q E
noncomputable def Ga(K : Fg)(fd : BV)(ps : Ab Aj)(ds : Ab Ah) : Prop:=
 ∀(s : Ak)(us : Ab Ah), K.In s.heap -> (us++ds).length = ps.length -> FA s fd ⟨us, []⟩ (ps.zip (us++ds))
theorem Ga.all{K : Fg}(h : ∀ us : Ab Ah, us.length = ps.length -> IC fd ⟨us, []⟩ = pure (ps.zip us)) : Ga K fd ps [] := fun s us _ hl => by
 rw[B8]at hl ⊢;exact .of_eq (h us hl)
noncomputable def HY(CX : CXT)(X : Cx)(E : XK) : Prop := ∀(pI : Ab (Ai × AJ))(σ : St)(H : Hp)(s : Ak)(e : Ah)(s' : Ak), Inv X pI σ H s -> CX X.stack H s E e s' -> X.xe e s'
section
variable{X : Cx}{CX : CXT}{k : Ag}{f C : Ai}{fd : BV}{ps : Ab Aj}{sp : Sp}{dvs : Ab V}{ds : Ab Ah}{E : XK}{x m : Aj}{p pos apos : AN}{e o : Ao}{es : Ab Ao}{ta : TE}{t : TA}
theorem Xy{Q:VK}(F : FnOk X.prog X.w X.K X.mg X.base CX k f fd ps sp)(hr : Room k X.A)(hb : Ga X.K fd ps ds)(hd : AZ dvs ds)(hx : HY CX X E)(I : Inv X pI σ H s)(r : AZ vs us)(h : sp (vs++dvs) H Q E) : AB (model X.prog X.w) X.A (call (.ref f) us) (EP X pI σ Q) X.xe s := by
 have r2 : AZ (vs++dvs) (us++ds) := r.append hd;have hl : (us++ds).length = ps.length := by rw[<-r2.length];exact F.len _ _ _ _ h
 refine wpAny_call (GP (F.run X.A X.stack s H ⟨us, []⟩ (us++ds) (vs++dvs) Q E hr I.env0 (hb s us I.kIn hl) r2 h) fun r s' hq => ?_)
 cases r with
 |error e => exact hx pI σ H s e s' I hq
 |ok fl=>
  cases fl with
  |ret u => exact I.after hq
  |next => exact C5 hq
  |brk => exact C5 hq
  |cont => exact C5 hq
theorem OI(F : FnOk X.prog X.w X.K X.mg X.base CX k f fd ps sp)(hr : Room k X.A)(hg : Gl X x)(hm : X.mg x = Aa (.ref f))(hk : CI X.K (.ref f) = Ac)(hb : Ga X.K fd ps ds)(hd : AZ dvs ds)(hx : HY CX X E)(ha : PA X (e::es) t)(hdb : (x==("__debug__" : Aj)) = Ad := by decide)(he : Ax (e::es) X.env = (Ad, eval e X.env)::Ax es X.env := by rfl)(hpl : (Cn pos (Ax es X.env)).any (·.1) = Ad := by rfl):PE X (.Call (.Name x p) (e::es) [] pos) (ZC sp dvs E t) := by
 intro pI s σ H Q I h;refine Fh (WP I hg hm ?_ hdb);refine PySem.W.callWith_K (h₀ := X.base) I.ok.mod.kin hk (thn (ha pos pI s σ H _ I h) fun us s1 ⟨vs, H1, I1, r, q⟩ => ⟨I1.kIn, ?_⟩) he hpl
 exact Xy F hr hb hd hx I1 r q
end
section
variable{X : Cx}{CX : CXT}{k : Ag}{f C : Ai}{fd : BV}{ps ks : Ab Aj}{sp : Sp}{E : XK}{x m : Aj}{p pos apos kpos : AN}{e o : Ao}{es : Ab Ao}{kws : Ab FB}{te ta : TE}{t tk : TA}{nm : Ap Aj}
variable{g : Ab Ah -> Ab Ah -> Ab Ah}{gV : Ab V -> Ab V -> Ab V}
end
structure FnScope (N P : Ab Aj) (sc : BS) : Prop where
 kind : sc.kind = .function
 co : sc.isCoroutine = Ad
 gen : sc.isGenerator = Ad
 nd : N.Nodup
 pre : N.take P.length = P
 par : ∀ x ∈ P, sc.names.lookup x = Aa .local \/ sc.names.lookup x = Aa .cell
 nofree : ∀ y ∈ sc.names, y.2 ≠ .free
theorem Nk{kindOf : Aj -> Ap Dh}{x : Aj} : ∀{binds : Ab (Aj × Ah)}{m : Aj -> Ap Ah}, (∀ v, (x, v) ∉ binds) -> Gr kindOf binds m x = m x
 |[], _, _ => rfl
 |(n, v)::r, m, h => by
  unfold Gr;rw[Nk fun w hw => h w (As _ hw)]
  split
  ·have : x ≠ n := by rintro rfl;exact h v AA
   simp[this]
  ·rfl
theorem NY{kindOf : Aj -> Ap Dh}{x : Aj} : ∀{binds : Ab (Aj × Ah)}{m : Aj -> Ap Ah}, (∀ v, (x, v) ∉ binds) -> Gq kindOf binds m x = m x
 |[], _, _ => rfl
 |(n, v)::r, m, h => by
  unfold Gq;rw[NY fun w hw => h w (As _ hw)]
  split
  ·rfl
  ·have : x ≠ n := by rintro rfl;exact h v AA
   simp[this]
theorem Nl{kindOf : Aj -> Ap Dh}{x : Aj}{v : Ah} :∀{P :Ab Aj}{vs :Ab Ah}{i :Ag}{m :Aj->Ap Ah},P.Nodup->P[i]? = Aa x->vs[i]? = Aa v->kindOf x = Aa .local->Gr kindOf (P.zip vs) m x = Aa v
 |[], _, _, _, _, h, _, _ => by simp at h
 |_::_, [], _, _, _, _, h, _ => by simp at h
 |p::P, w::vs, 0, m, nd, h1, h2, hk => by
  simp at h1 h2;subst h1;subst h2;show Gr kindOf ((p, w)::P.zip vs) m p = _;unfold Gr;rw[Nk fun v hv => (BH.mp nd).1 (F1 hv).1, AH hk]
  simp
 |p::P, w::vs, i+1, m, nd, h1, h2, hk => by
  show Gr kindOf ((p, w)::P.zip vs) m x = _;unfold Gr;exact Nl (i := i) (BH.mp nd).2 (by simpa using h1) (by simpa using h2) hk
theorem NZ{kindOf : Aj -> Ap Dh}{x : Aj}{v : Ah} :∀{P :Ab Aj}{vs :Ab Ah}{i :Ag}{m :Aj->Ap Ah},P.Nodup->P[i]? = Aa x->vs[i]? = Aa v->kindOf x ≠ Aa .local->Gq kindOf (P.zip vs) m x = Aa v
 |[], _, _, _, _, h, _, _ => by simp at h
 |_::_, [], _, _, _, _, h, _ => by simp at h
 |p::P, w::vs, 0, m, nd, h1, h2, hk => by
  simp at h1 h2;subst h1;subst h2;show Gq kindOf ((p, w)::P.zip vs) m p = _;unfold Gq;rw[NY fun v hv => (BH.mp nd).1 (F1 hv).1, AO hk]
  simp
 |p::P, w::vs, i+1, m, nd, h1, h2, hk => by
  show Gq kindOf ((p, w)::P.zip vs) m x = _;unfold Gq;exact NZ (i := i) (BH.mp nd).2 (by simpa using h1) (by simpa using h2) hk
noncomputable def start(N : Ab Aj)(vs : Ab V) : St := vs.map Aa++Rw (N.length-vs.length) Af
noncomputable def E7(CX : CXT)(P : AM)(w : AU)(K : Fg)(mg : Aj -> Ap Ah)(base : AF)(N : Ab Aj)(qual : Aj)(scope : BS)(f : Ai)(cd : Ah)(A : A3)(outer : Ab BJ)(s : Ak)(H : Hp)(E : XK) : Cx where
 prog := P
 w := w
 K := K
 mg := mg
 base := base
 A := A.deeper (DQ qual scope s.heap.objs.size f cd)
 N := N
 s₀ := s
 H₀ := H
 env := DQ qual scope s.heap.objs.size f cd
 outer := outer
 stack := DQ qual scope s.heap.objs.size f cd::outer
 ex := []
 calm := Ac
 fn := fun _ => Ac
 pn := []
 xe := fun e s' => AB (model P w) (A.deeper (DQ qual scope s.heap.objs.size f cd)) (leaving (DQ qual scope s.heap.objs.size f cd) e) (fun _ s'' => CX outer H s E e s'') (fun e' s'' => CX outer H s E e' s'') s'
theorem Oi{sc:BS}(h : sc.names.lookup x = Aa .cell) : ∃ c, (Cu n sc.names []).lookup x = Aa c := by
 have q := Su sc.names n [] (.inl h);exact RG.mp q
theorem TU{w : AU}{K : Fg}{mg : Aj -> Ap Ah}{base : AF}{N ps : Ab Aj}{f:Ai}{cd:Ah}{A : A3}{outer : Ab BJ}{s1:Ak}{E : XK}(S : FnScope N ps scope)(hd : A.handled = Af)(e0 : Env0 P w K mg base A outer s H)(hl : vs.length = ps.length)(r : AZ vs us)(x : InCallC s s.heap.objs.size (Gr (DQ qual scope s.heap.objs.size f cd).kindOf (ps.zip us) fun _ => Af) (Cu (s.heap.objs.size+1) scope.names []) (Gq (DQ qual scope s.heap.objs.size f cd).kindOf (ps.zip us) fun _ => Af) s1):Inv (E7 CX P w K mg base N qual scope f cd A outer s H E) [] (start N vs) H s1 := by
 have hpl : ps.length <= N.length := by have := congrArg Rl S.pre;rw[FK]at this;omega
 obtain⟨h1, tk, rfl, hk⟩ := x.done;have noA : ∀ b : Ai, b ∉ (E7 CX P w K mg base N qual scope f cd A outer s H E).ex := fun b z => absurd (show b ∈ ([] : Ab Ai) from z) (by simp)
 refine⟨⟨e0.mod, S.kind, rfl, rfl, AQ _, fun y z c h1 h2 => ?_, fun y hy => ?_, fun y c _ h => ?_, fun _ => hd, Around.frames_deeper e0.frames, .inr ⟨rfl, rfl⟩, fun b z => absurd z (noA b), e0.bs, e0.bsz, fun b _ _ => noA b, fun b z => absurd z (noA b), e0.funs, e0.frf⟩,
  rfl, e0.bare, Un.kept hk, ⟨_, x.toInCall.ns, fun i y v h1 h2 h3 => ?_⟩, fun y c h => ⟨_, x.cell y c h⟩, e0.hok.fresh (AQ _), fun y c h => ?_, fun p hp => absurd (show p ∈ ([] : Ab (Ai × AJ)) from hp) (by simp), e0.hok.kept hk, ?_⟩
 ·exact name_of_addr x.apart (B2 h1) (B2 h2)
 ·have hy : scope.names.lookup y = Aa .cell \/ scope.names.lookup y = Aa .free := hy;rcases hy with hy|hy
  ·exact Oi hy
  ·exact absurd rfl (S.nofree _ (B2 hy))
 ·exact EH (x.above y c (B2 h))
 ·have hi : i<vs.length := by
   unfold start at h2;by_cases hi : i<vs.length
   ·exact hi
   ·rw[Rh (by simpa using hi)]at h2
    rw[Rk]at h2;split at h2 <;> cases h2
  have ha : vs[i]? = Aa v := by
   unfold start at h2;rw[D0 (by simpa using hi), DA]at h2
   cases e : vs[i]? with
   |none => rw[e]at h2;cases h2
   |some a => rw[e]at h2;cases h2;rfl
  obtain⟨u, hu, rv⟩ := r.get ha;have hp : ps[i]? = Aa y := by
   rw[<-S.pre, List.getElem?_take_of_lt (by omega)];exact h1
  have ndP : ps.Nodup := by rw[<-S.pre];exact S.nd.sublist (List.take_sublist _ _)
  refine⟨u, rv, ?_⟩;rcases S.par y (Ru hp) with k|k
  ·exact .inl ⟨k, Nl ndP hp hu k⟩
  ·obtain⟨c, e⟩ := Oi (n := s.heap.objs.size+1) k;refine .inr ⟨.inl k, c, e, ?_⟩;have q := x.cell y c e;rw[NZ ndP hp hu (by show scope.names.lookup y ≠ _;rw[k];decide)]at q
   exact q
 ·exact e0.hok.fresh (EH (x.above y c (B2 h)))
 ·unfold start;show _ = N.length;rw[Bp, BF, Rn];omega
theorem P5{w : AU}{K : Fg}{mg : Aj -> Ap Ah}{base : AF}{f:Ai}{name:Aj}{params:Arguments}{dV kV doc pm cdv ct oc : Ah}{an od:Ap Ai}{osl:Bf (Ap Ah)}{N ps : Ab Aj}(lk : K.lookup f = Aa ⟨oc, od, .func (Di name qual params body scope dV kV doc pm an cdv ct), osl⟩)(hcd : EZ K cdv qual = Ac)(S : FnScope N ps scope)(len : ∀ vs H Q E, sp vs H Q E -> vs.length = ps.length)(hbody : ∀(A : A3)(outer : Ab BJ)(s : Ak)(H : Hp)(vs : Ab V)(Q : VK)(E : XK), Room k (A.deeper (DQ qual scope s.heap.objs.size f cdv)) -> sp vs H Q E ->
   ∃ t, PSs (E7 CX P w K mg base N qual scope f cdv A outer s H E) body t /\ t {nx := fun _ H' => Q .non H', rt := Q} (start N vs) H):FnOk P w K mg base CX (k+1) f (Di name qual params body scope dV kV doc pm an cdv ct) ps sp := by
 refine⟨len, fun A outer s H args us vs Q E hr e0 hb r hsp => ?_⟩
 have hl := len _ _ _ _ hsp;have KX : K.In s.heap := e0.mod.kin.keeps fun b o e => (e0.bs b o e).1
 have lim : s.heap.NoLimit := e0.mod.nolimit.keeps fun b o e => (e0.bs b o e).1
 have hkind : ∀ y ∈ ps.zip us, scope.names.lookup y.1 = Aa .local \/ (scope.names.lookup y.1 = Aa .cell /\ ((Cu (s.heap.objs.size+1) scope.names []).lookup y.1).isSome = Ac) := fun ⟨n, v⟩ hy => by
  rcases S.par n (F1 hy).1 with q|q
  ·exact .inl q
  ·exact .inr ⟨q, Su _ _ _ (.inl q)⟩
 refine codeAny_call_function hr.depth (KX _ _ lk) rfl S.co S.gen rfl (PySem.W.codeRec_of KX hcd) (hb _ _ _ _ ?_);refine wpAny_newFunctionEnv_cells S.kind hkind fun env he s1 x => ?_
 subst he;refine⟨lim.keeps x.toInCall.keep, codeAny_func ?_⟩;obtain⟨t, ht, hq⟩ := hbody A outer s H vs Q E (hr.deeper _) hsp;have I : Inv (E7 CX P w K mg base N qual scope f cdv A outer s H E) [] (start N vs) H s1 := TU S hr.hd e0 hl r x;refine BW (ht [] s1 (start N vs) H _ I hq) (fun fl s' hs => ?_) fun e s' hs => hs
 have fin : ∀{σ' : St}{H' : Hp}{v : V}{u : Ah}, Inv (E7 CX P w K mg base N qual scope f cdv A outer s H E) [] σ' H' s' -> Bo v u -> Q v H' -> CE outer P w H s Q u s':=
  fun {σ' H' v u} J rv q => ⟨v, H', J.os, J.bare, J.base, J.hok, rv, q⟩
 cases fl with
 |ret u=>
  obtain⟨v, σ', H', J, rv, q⟩ := hs;exact fin J rv q
 |next=>
  obtain⟨σ', H', J, q⟩ := hs;exact fin (v := V.non) (u := Hw) J rfl q
 |brk=>
  obtain⟨_, _, _, q⟩ := hs;exact C5 q
 |cont=>
  obtain⟨_, _, _, q⟩ := hs;exact C5 q
section
variable{X : Cx}{x : Aj}{p pos : AN}{e : Ao}{es : Ab Ao}{t : TA}{id T : Dj}{r : Ab V -> Hp -> VK -> Prop}
noncomputable def tCB(r : Ab V -> Hp -> VK -> Prop)(t : TA) : TE := fun σ H Q => t σ H fun vs H1 => r vs H1 Q
theorem NX(hc : Gd X (.builtin id) r)(hg : Gl X x)(hm : X.mg x = Af)(hv : Co x = Aa (.builtin id))(ha : PA X (e::es) t)(hn : x ≠ "__name__" := by decide)(hdb : (x==("__debug__" : Aj)) = Ad := by decide)(he : Ax (e::es) X.env = (Ad, eval e X.env)::Ax es X.env := by rfl)(hpl : (Cn pos (Ax es X.env)).any (·.1) = Ad := by rfl) : PE X (.Call (.Name x p) (e::es) [] pos) (tCB r t) := by
 intro pI s σ H Q I h;refine Fh (GB I hg hm hv ?_ hn hdb);exact PyProof.Rows.callWith_builtin1 (thn (ha pos pI s σ H _ I h) fun us s1 ⟨vs, H1, I1, r1, q1⟩ => hc pI s1 σ H1 vs us Q I1 r1 q1) he hpl
theorem Np(hc : Gd X (.type T) r)(hg : Gl X x)(hm : X.mg x = Af)(hv : Co x = Aa (.type T))(ha : PA X (e::es) t)(hn : x ≠ "__name__" := by decide)(hdb : (x==("__debug__" : Aj)) = Ad := by decide)(he : Ax (e::es) X.env = (Ad, eval e X.env)::Ax es X.env := by rfl)(hpl : (Cn pos (Ax es X.env)).any (·.1) = Ad := by rfl) : PE X (.Call (.Name x p) (e::es) [] pos) (tCB r t) := by
 intro pI s σ H Q I h;refine Fh (GB I hg hm hv ?_ hn hdb);exact BB (thn (ha pos pI s σ H _ I h) fun us s1 ⟨vs, H1, I1, r1, q1⟩ => hc pI s1 σ H1 vs us Q I1 r1 q1) he hpl
end
end L2
namespace HT
open PySem PyProof.Rows
variable{t sl:Ai}{Q:Ah -> Ak -> Prop}{vl vu:Ah}{lo hi:Ap Ae}
section
open PySem.SeqAt
open PySem.AutoSeq1 (wpAny_loadPart')
open PySem.MeetsSeq PySem.MeetsSeq2 PySem.MeetsSeq3
end
section
variable{prog : AM}{w : AU}{A : A3}{E : Ah -> Ak -> Prop}{s : Ak}
theorem cat_tup{b:Ai}{vs ws:Ab Ah}(ht : Hr s.heap t vs.toArray)(hb : Hr s.heap b ws.toArray)(hv : vs ≠ [])(h1 : ws = [] -> Q (.ref t) s)(h2 : ws ≠ [] -> Q (.ref s.heap.objs.size) { s with heap := s.heap.push { cls := .type "tuple", data := .seq (vs++ws).toArray } })(hsz : vs.length+ws.length <= sizeLine) : AB (model prog w) A (BE .Add (.ref t) (.ref b)) Q E s := by
 obtain⟨⟨cls, dd, data, sl⟩, ho, hc, n, hd⟩ := id ht;obtain⟨⟨cls2, dd2, data2, sl2⟩, ho2, hc2, n2, hd2⟩ := id hb;simp only at hc hd hc2 hd2;subst hc hd hc2 hd2;have e : vs.toArray++ws.toArray = (vs++ws).toArray := by simp
 by_cases hw : ws = []
 ·exact GQ ⟨_, ho, rfl⟩ ⟨_, ho2, rfl⟩ SH seq_tuple_add R1 RY (RU _ _)
   (tuple_addW1 t b vs.toArray ws.toArray n n2 dd dd2 sl sl2 (by simpa using hv) (by simp[hw])) ⟨ho, ho2, h1 hw⟩
 ·refine GQ ⟨_, ho, rfl⟩ ⟨_, ho2, rfl⟩ SH seq_tuple_add R1 RY (RU _ _)
   (tuple_addW2 t b vs.toArray ws.toArray n n2 dd dd2 sl sl2 (by simpa using hv) (by simpa using hw) (by rw[Az, Az];exact hsz)) ⟨ho, ho2, ?_⟩
  rw[e];exact h2 hw
noncomputable def sIx(n d : Ag) : Ap Ae -> Ag
 |none => d
 |some v => if v<0 then (v+(n : Ae)).toNat else min v.toNat n
theorem Yl(n d : Ag)(hd : d <= n)(o : Ap Ae) : sIx n d o <= n := by
 cases o with
 |none => exact hd
 |some v=>
  show (if v<0 then (v+(n : Ae)).toNat else min v.toNat n) <= n
  by_cases hv : v<0
  ·rw[AH hv];omega
  ·rw[AO hv];exact Nat.min_le_right _ _
theorem OQ(v : Ae)(n d : Ag) : (if v<0 then max (v+(n : Ae)) 0 else min v (n : Ae)) = ((sIx n d (Aa v) : Ag) : Ae) := by
 show (if v<0 then max (v+(n : Ae)) 0 else min v (n : Ae)) = (((if v<0 then (v+(n : Ae)).toNat else min v.toNat n) : Ag) : Ae)
 by_cases hv : v<0
 ·simp only[AH hv];omega
 ·simp only[AO hv];omega
theorem Tn(lo hi : Ap Ae)(n : Ag) : D5 lo hi 1 (n : Ae) = (((sIx n 0 lo : Ag) : Ae), ((sIx n n hi : Ag) : Ae)) := by
 have h1 : ¬ ((1 : Ae)<0) := by omega
 unfold D5;simp only[h1, GI];refine Bw ?_ ?_
 ·cases lo with
  |none => rfl
  |some v => exact OQ v n 0
 ·cases hi with
  |none => rfl
  |some v => exact OQ v n n
theorem Tz(i j : Ag) : C8 (i : Ae) (j : Ae) 1 = j-i := by
 unfold C8;have h1 : (1 : Ae) > 0 := by omega
 simp only[h1, Gp, Int.ediv_one];split <;> omega
theorem MY{v:Ah}{o:Ap Ae}{Q:Ap Ae -> Ak -> Prop}(p : FN v o)(h : Q o s) : AB (model prog w) A (Builtin.Slice.slicePartIndex v) Q E s := by
 cases p with
 |none => exact RJ h
 |int i t => exact slicePart_int h
theorem S5{n:Ag}{Q:Ae × Ae × Ag -> Ak -> Prop}(hs : s.heap.IsSliceOf sl vl vu .none)(pl : FN vl lo)(pu : FN vu hi)(h : Q (((sIx n 0 lo : Ag) : Ae), 1, sIx n n hi-sIx n 0 lo) s) : AB (model prog w) A (RO (.ref sl) (pure (n : Ae))) Q E s := by
 obtain⟨os, hos, hcs, hds⟩ := id hs;unfold RO Builtin.Slice.sliceFields;refine Am (Am (BU hos hds (x := vl) rfl (Am (BU hos hds (x := vu) rfl (Am (BU hos hds (x := .none) rfl (AE ?_)))))));refine Am (RJ ?_);show AB _ _ (if ((1 : Ae)==0) = Ac then _ else _) _ _ s
 rw[AO (by decide)]
 refine Am (MY pl (Am (MY pu (Am (AE ?_)))));show AB _ _ (match D5 lo hi 1 (n : Ae) with|(lo, hi) => pure (lo, (1 : Ae), C8 lo hi 1)) _ _ s
 rw[Tn lo hi n];show AB _ _ (pure (((sIx n 0 lo : Ag) : Ae), (1 : Ae), C8 ((sIx n 0 lo : Ag) : Ae) ((sIx n n hi : Ag) : Ae) 1)) _ _ s;rw[Tz];exact AE h
theorem Uc(xs : Bf Ah)(i k : Ag) : ((Cc k).filterMap fun(m : Ag) => xs[((i : Ae)+(m : Ae)*1).toNat]?).toArray = ((xs.toList.drop i).take k).toArray := by
 have e : (fun(m : Ag) => xs[((i : Ae)+(m : Ae)*1).toNat]?) = fun m => xs[i+m]? := by
  funext m
  have : ((i : Ae)+(m : Ae)*1).toNat = i+m := by omega
  rw[this]
 rw[e];have := pick_run xs i k;rw[List.filterMap_map]at this;have e2 : ((fun x => xs[x]?) ∘ fun x => i+x) = fun m => xs[i+m]? := rfl
 rw[e2]at this;rw[this]
theorem getItem_tuple_cut{items:Bf Ah}(ht : Hr s.heap t items)(hs : s.heap.IsSliceOf sl vl vu .none)(pl : FN vl lo)(pu : FN vu hi)(hw : ¬ (sIx items.size 0 lo = 0 /\ sIx items.size items.size hi = items.size))(h : Q (.ref s.heap.objs.size) { s with heap := s.heap.push { cls := .type "tuple", data := .seq ((items.toList.drop (sIx items.size 0 lo)).take (sIx items.size items.size hi-sIx items.size 0 lo)).toArray } })(hsz : items.size <= sizeLine) : AB (model prog w) A (G3 (.ref t) (.ref sl)) Q E s := by
 have htake : sizeOk (.seq ((items.toList.drop (sIx items.size 0 lo)).take (sIx items.size items.size hi-sIx items.size 0 lo)).toArray) := by
  show ((items.toList.drop (sIx items.size 0 lo)).take (sIx items.size items.size hi-sIx items.size 0 lo)).toArray.size <= sizeLine;rw[Az, FK, Rm, DT];omega
 have hj : sIx items.size items.size hi <= items.size := Yl _ _ (AQ _) hi;obtain⟨os, hos, hcs, hds⟩ := id hs;have hTs : s.TypeIs (.ref sl) "slice" := ⟨os, hos, hcs⟩;unfold G3
 try with_reducible refine CF ?_
 first|refine Am (AE ?_)|skip
 refine Am (wpAny_sequenceKey ht.typeIs (by decide) ?_)
 refine Am (CG (name := DF "__getitem__") ht.typeIs RK
  (DH RK ht.typeIs entry_tuple_getitem ?_ (args_tuple_getitem _ _)))
 show AB _ _ (Builtin.Tuple.tupleItemsOf (.ref t) >>= _) _ _ s;refine Am (tupleItemsOf_ ht ?_);refine Am (wpAny_typeOf hTs ?_);rw[AH (by decide)]
 refine Am (S5 hs pl pu ?_);have hno : ¬ ((((sIx items.size 0 lo : Ag) : Ae)==0&&(1 : Ae)==1&&(sIx items.size items.size hi-sIx items.size 0 lo)==items.size) = Ac) := by
  intro q;rw[Al, Al]at q;have q1 : ((sIx items.size 0 lo : Ag) : Ae) = 0 := eq_of_beq q.1.1;have q2 : sIx items.size items.size hi-sIx items.size 0 lo = items.size := eq_of_beq q.2;exact hw ⟨by omega, by omega⟩
 show AB _ _ (if (((sIx items.size 0 lo : Ag) : Ae)==0&&(1 : Ae)==1&&(sIx items.size items.size hi-sIx items.size 0 lo)==items.size) = Ac then _ else _) _ _ s
 rw[AO hno, Uc]
 first
  |exact Am (m := Dg _) (CD (AE ⟨_, rfl, AE h⟩) htake)
  |exact Am (m := Dg _) (CD (Am (AE (AE ⟨_, rfl, AE h⟩))) htake)
  |exact Am (Am (m := Dg _) (CD (AE (AE ⟨_, rfl, AE h⟩)) htake))
  |exact Am (Am (m := Dg _) (CD (AE ⟨_, rfl, AE h⟩) htake))
end
end HT
namespace L2
open PySem PySem.Spec PyProof.Rows
variable{xs:Ab V}{us its its':Ab Ah}{n t':Ag}{i:Ae}{pI:Ab (Ai × AJ)}{σ:St}{H:Hp}{s:Ak}{p:Ai}
noncomputable abbrev TO := St -> Hp -> (Ap Ae -> Hp -> Prop) -> Prop
noncomputable def PO(X : Cx)(e : Ap Ao)(t : TO) : Prop:=
 ∀(pI : Ab (Ai × AJ))(s : Ak)(σ : St)(H : Hp)(Q : Ap Ae -> Hp -> Prop), Inv X pI σ H s -> t σ H Q ->
  AB (model X.prog X.w) X.A (evalPart e X.env) (fun u s' => ∃ o H', Inv X pI σ H' s' /\ FN u o /\ Q o H') X.xe s
noncomputable def VR : TO := fun _ H Q => Q Af H
noncomputable def Zx(t : TE) : TO := fun σ H Q => t σ H fun x H1 => ∃ i, x = .int i /\ Q (Aa i) H1
section
variable{X : Cx}{e : Ao}{te : TE}{lo hi : Ap Ao}{tl th : TO}{pos p2 : AN}
theorem Vd : PO X Af VR := by
 intro pI s σ H Q I h;rw[evalPart_none];exact AE ⟨Af, H, I, .none, h⟩
theorem Vc(h : PE X e te) : PO X (Aa e) (Zx te) := by
 intro pI s σ H Q I hw;rw[evalPart_some];refine thn (h pI s σ H _ I hw) fun u s1 ⟨x, H1, I1, r1, q1⟩ => ?_
 obtain⟨i, rfl, q⟩ := q1;obtain⟨t, rfl⟩ := r1;exact⟨Aa i, H1, I1, .int i t, q⟩
noncomputable def SlR(X : Cx)(r : V -> Ap Ae -> Ap Ae -> Hp -> VK -> Prop) : Prop:=
 ∀(pI : Ab (Ai × AJ))(s : Ak)(σ : St)(H : Hp)(x : V)(v vl vu : Ah)(lo hi : Ap Ae)(sl : Ai)(Q : VK), Inv X pI σ H s -> Bo x v -> s.heap.IsSliceOf sl vl vu .none -> FN vl lo -> FN vu hi -> r x lo hi H Q ->
  ∃ T id, typeLookup (.type T) "__getitem__" = pure (Aa (.builtin id)) /\ s.TypeIs v T /\ AB (model X.prog X.w) X.A (G3 v (.ref sl)) (EP X pI σ Q) X.xe s
noncomputable def tSl(r : V -> Ap Ae -> Ap Ae -> Hp -> VK -> Prop)(te : TE)(tl th : TO) : TE := fun σ H Q => te σ H fun x H1 => tl σ H1 fun l H2 => th σ H2 fun u H3 => r x l u H3 Q
theorem Ud{r:V -> Ap Ae -> Ap Ae -> Hp -> VK -> Prop}(hr : SlR X r)(he : PE X e te)(hl : PO X lo tl)(hu : PO X hi th) : PE X (.Subscript e (.Slice lo hi Af p2) pos) (tSl r te tl th) := by
 intro pI s σ H Q I h;refine Subscript_ (thn (he pI s σ H _ I h) fun v s1 ⟨x, H1, I1, r1, q1⟩ => ?_)
 refine wpAny_Slice (thn (hl pI s1 σ H1 _ I1 q1) fun vl s2 ⟨l, H2, I2, pl, q2⟩ => thn (hu pI s2 σ H2 _ I2 q2) fun vu s3 ⟨u, H3, I3, pu, q3⟩ => ?_)
 rw[evalPart_none];refine AE ?_;have I4 : Inv X pI σ H3 { s3 with heap := s3.heap.push { cls := .type "slice", data := .fields #[vl, vu, .none] } } := I3.kept (t' := s3.toks) fun b ob q => Ar _ q
 obtain⟨T, id, hT, ht, hg⟩ := hr pI { s3 with heap := s3.heap.push { cls := .type "slice", data := .fields #[vl, vu, .none] } } σ H3 x v vl vu l u s3.heap.objs.size Q I4 r1 (Heap.IsSliceOf.new ..) pl pu q3
 show AB (model X.prog X.w) X.A (subscriptTail e (.Slice lo hi Af p2) v (.ref s3.heap.objs.size)) (EP X pI σ Q) X.xe { s3 with heap := s3.heap.push { cls := .type "slice", data := .fields #[vl, vu, .none] } }
 exact tail_any (ops := [.ref s3.heap.objs.size, v]) ht hT hg (by with_unfolding_all rfl)
noncomputable def G2(xs : Ab V)(lo hi : Ap Ae) : Ab V := (xs.drop (HT.sIx xs.length 0 lo)).take (HT.sIx xs.length xs.length hi-HT.sIx xs.length 0 lo)
theorem M3(xs : Ab V)(lo hi : Ap Ae) : (G2 xs lo hi).length <= xs.length := by
 unfold G2;rw[FK, Rm];omega
noncomputable def QG(K : Fg) : V -> Ap Ae -> Ap Ae -> Hp -> VK -> Prop := fun x lo hi H Q => ∃ a xs, x = .ref a /\ SqT K H a xs /\
 ¬ (HT.sIx xs.length 0 lo = 0 /\ HT.sIx xs.length xs.length hi = xs.length) /\ ∀ p, H p = Af -> Q (.ref p) (upd H p (.tup (G2 xs lo hi)))
theorem X1 : SlR X (QG X.K) := by
 intro pI s σ H x v vl vu lo hi sl Q I rx hs pl pu h;obtain⟨a, xs, rfl, hx, hw, q⟩ := h;cases rx;obtain⟨its, r, ht, hz⟩ := I.tuple hx;have hlen : its.toArray.size = xs.length := by rw[Az];exact r.length.symm
 refine⟨"tuple", _, PyProof.Rows.slot_tuple_getitem.lookup, ht.typeIs, ?_⟩;refine HT.getItem_tuple_cut ht hs pl pu (by rw[hlen];exact hw) ?_ (by rw[hlen];exact hz)
 rw[hlen];refine⟨.ref s.heap.objs.size, _, I.laid (t' := s.toks) (o := .tup (G2 xs lo hi)) (fun b ob q => Ar _ q) (AQ _) ?_, rfl, q _ (I.hok.fresh (AQ _))⟩
 exact⟨B9 (M3 xs lo hi) hz, _, (r.drop (HT.sIx xs.length 0 lo)).take (HT.sIx xs.length xs.length hi-HT.sIx xs.length 0 lo), Iu _ _⟩
noncomputable def aO(K : Fg) : R2 := fun x y H Q => ∃ a b xs ys, x = .ref a /\ y = .ref b /\ SqT K H a xs /\ SqT K H b ys /\ xs ≠ [] /\ xs.length+ys.length <= sizeLine /\
 (ys = [] -> Q (.ref a) H) /\ (ys ≠ [] -> ∀ p, H p = Af -> Q (.ref p) (upd H p (.tup (xs++ys))))
theorem AZ.nil_iff(r : AZ xs us) : us = [] ↔ xs = [] := by
 cases r with
 |nil => simp
 |cons _ _ => simp
theorem WH : OpR X (BE .Add) (aO X.K) := by
 intro pI s σ H x y v u Q I rx ry h;obtain⟨a, b, xs, ys, rfl, rfl, ha, hb, hx, hz, q1, q2⟩ := h;cases rx;cases ry;obtain⟨its, r1, p1, _⟩ := I.tuple ha;obtain⟨its2, r2, p2, _⟩ := I.tuple hb;refine HT.cat_tup p1 p2 (fun z => hx (r1.nil_iff.mp z)) (fun z => ⟨.ref a, H, I, rfl, q1 (r2.nil_iff.mp z)⟩) (fun z => ?_) (by rw[<-r1.length, <-r2.length];exact hz)
 refine⟨.ref s.heap.objs.size, _, I.laid (t' := s.toks) (o := .tup (xs++ys)) (fun b ob q => Ar _ q) (AQ _) ?_, rfl, q2 (fun w => z (r2.nil_iff.mpr w)) _ (I.hok.fresh (AQ _))⟩
 exact⟨by rw[Bp];exact hz, _, r1.append r2, Iu _ _⟩
end
noncomputable def ixN(n : Ag)(i : Ae) : Ap Ag := if 0 <= i then (if i<n then Aa i.toNat else Af) else if -(n : Ae) <= i then Aa (i+n).toNat else Af
noncomputable def atI{α : Type}(xs : Ab α)(i : Ae) : Ap α := (ixN xs.length i).bind fun j => xs[j]?
theorem Ow{j:Ag}(h : ixN n i = Aa j) : Ix i n = Aa j /\ j<n /\ -(n : Ae) <= i /\ i<n := by
 unfold ixN at h;by_cases h0 : 0 <= i
 ·rw[AH h0]at h;by_cases h1 : i<n
  ·rw[AH h1]at h;have e : i.toNat = j := Bl h;exact⟨by rw[G9 h0 h1, e], by omega, by omega, h1⟩
  ·rw[AO h1]at h;cases h
 ·rw[AO h0]at h;by_cases h1 : -(n : Ae) <= i
  ·rw[AH h1]at h;have e : (i+n).toNat = j := Bl h;exact⟨by rw[GU (by omega) h1, e], by omega, h1, by omega⟩
  ·rw[AO h1]at h;cases h
theorem OU{α:Type}{xs : Ab α}{v : α}(h : atI xs i = Aa v) : ∃ j, Ix i xs.length = Aa j /\ xs[j]? = Aa v /\ j<xs.length /\ -(xs.length : Ae) <= i /\ i<xs.length := by
 unfold atI at h;cases e : ixN xs.length i with
 |none => rw[e]at h;cases h
 |some j=>
  rw[e]at h;obtain⟨h1, h2, h3, h4⟩ := Ow e;exact⟨j, h1, h, h2, h3, h4⟩
noncomputable def Ls(b : Ao) : Prop := ∀ o i, subscripted b Ad o i = operate [o, i] (G3 o i)
noncomputable def IxR(X : Cx)(r : R2) : Prop:=
 ∀(value slice : Ao)(pI : Ab (Ai × AJ))(s : Ak)(σ : St)(H : Hp)(x y : V)(v u : Ah)(Q : VK), Inv X pI σ H s -> Bo x v -> Bo y u -> r x y H Q ->
  subscripted slice Ad v u = operate [v, u] (G3 v u) -> AB (model X.prog X.w) X.A (subscriptTail value slice v u) (EP X pI σ Q) X.xe s
noncomputable def MtR(X : Cx)(id : Dj)(r : V -> Ab V -> Hp -> VK -> Prop) : Prop:=
 ∀(pI : Ab (Ai × AJ))(s : Ak)(σ : St)(H : Hp)(x : V)(xs : Ab V)(v : Ah)(us : Ab Ah)(Q : VK), Inv X pI σ H s -> Bo x v -> AZ xs us -> r x xs H Q ->
  AB (model X.prog X.w) X.A (call (.builtin id) (v::us)) (EP X pI σ Q) X.xe s
section
variable{X : Cx}{a b : Ao}{ta tb : TE}{pos : AN}
theorem IxR.or{r r':R2}(h : IxR X r)(h' : IxR X r') : IxR X (fun x y H Q => r x y H Q \/ r' x y H Q) := by
 intro value slice pI s σ H x y v u Q I rx ry q hs;rcases q with q|q
 ·exact h value slice pI s σ H x y v u Q I rx ry q hs
 ·exact h' value slice pI s σ H x y v u Q I rx ry q hs
theorem ZX{r:R2}(hr : IxR X r)(ha : PE X a ta)(hb : PE X b tb)(hs : Ls b) : PE X (.Subscript a b pos) (tOp r ta tb) := by
 intro pI s σ H Q I h;exact Subscript_ (MD ha hb I h fun v u s2 x y H2 I2 rx ry q => hr a b pI s2 σ H2 x y v u Q I2 rx ry q (hs _ _))
noncomputable def Qt(K : Fg) : R2 := fun x y H Q => ∃ p xs i v, x = .ref p /\ y = .int i /\ SqL K H p xs /\ atI xs i = Aa v /\ Q v H
noncomputable def Qs(K : Fg) : R2 := fun x y H Q => ∃ p xs i v, x = .ref p /\ y = .int i /\ SqT K H p xs /\ atI xs i = Aa v /\ Q v H
theorem WR : IxR X (Qt X.K) := by
 intro value slice pI s σ H x y v u Q I rx ry h hs;obtain⟨p, xs, i, z, rfl, rfl, hq, he, q⟩ := h;cases rx;obtain⟨t, rfl⟩ := ry;obtain⟨its, r, pl, hz⟩ := I.list hq;obtain⟨j, h1, h2, h3, h4, h5⟩ := OU he;obtain⟨w, ew, rw'⟩ := r.get h2;have hl := r.length;have hn := HW;have fin : EP X pI σ Q w s := ⟨z, H, I, rw', q⟩;by_cases h0 : 0 <= i
 ·have hj : i.toNat = j := by
   rw[G9 h0 h5]at h1;exact Bl h1
  exact item_listR pl.isList h0 (by omega) (by rw[hj];simpa using ew) fin hs
 ·have hj : (i+(its.toArray.size : Ae)).toNat = j := by
   rw[GU (by omega) h4]at h1
   rw[Az, <-hl];exact Bl h1
  exact RM (x := w) pl.isList.typeIs SK.lookup
   (wpAny_getItem_list_neg (Q := fun r s' => r = w /\ EP X pI σ Q r s') pl.isList (by omega) (by rw[Az] <;> omega) (by omega) (by rw[hj];simpa using ew) ⟨rfl, fin⟩) hs
theorem Yz : IxR X (Qs X.K) := by
 intro value slice pI s σ H x y v u Q I rx ry h hs;obtain⟨p, xs, i, z, rfl, rfl, hq, he, q⟩ := h;cases rx;obtain⟨t, rfl⟩ := ry;obtain⟨its, r, pl, hz⟩ := I.tuple hq;obtain⟨j, h1, h2, h3, h4, h5⟩ := OU he;obtain⟨w, ew, rw'⟩ := r.get h2;have hl := r.length;have hn := HW;have fin : EP X pI σ Q w s := ⟨z, H, I, rw', q⟩;exact RM (x := w) pl.typeIs slot_tuple_getitem.lookup
  (getItem_tuple (j := j) (Q := fun r s' => r = w /\ EP X pI σ Q r s') pl (by omega) (by omega) (by rw[Az, <-hl];exact h1) (by simpa using ew) ⟨rfl, fin⟩) hs
theorem TC(its : Ab Ah)(n j : Ag)(u : Ah) : Fx (·.setIfInBounds j u) { cls := .type "list", data := .seq its.toArray n } = { cls := .type "list", data := .seq (its.set j u).toArray n } := by
 simp[Fx]
theorem Inv.lst(I : Inv X pI σ H s)(h : H p = Aa (.lst xs)):
  ∃(its : Ab Ah)(n : Ag), AZ xs its /\ s.heap.get? p = Aa { cls := .type "list", data := .seq its.toArray n } /\ xs.length <= sizeLine := by
 obtain⟨z, its, n, r, e⟩ := I.hok p _ h;exact⟨its, n, r, e, z⟩
theorem Inv.lstUpd{ys:Ab V}{n':Ag}{f:AJ -> AJ}(I : Inv X pI σ H s)(h : H p = Aa (.lst xs))(ho : s.heap.get? p = Aa { cls := .type "list", data := .seq its.toArray n })(hf : f { cls := .type "list", data := .seq its.toArray n } = { cls := .type "list", data := .seq its'.toArray n' })(r : AZ ys its')(hz : ys.length <= sizeLine)(t : Ag):Inv X pI σ (upd H p (.lst ys)) {s with heap := s.heap.update p f,toks := t} := by
 have e : (s.heap.update p f).get? p = Aa { cls := .type "list", data := .seq its'.toArray n' } := by
  rw[Sb f ho (by rw[hf] <;> rfl), hf]
 refine I.write (x := p) (e := p) (by rw[h];trivial) (.inl rfl) (fun b u hb q => (Sa _ _ (EY hb)).trans q) ⟨_, e⟩ ?_
 exact⟨hz, its', n', r, e⟩
noncomputable def aN : V -> V -> V -> Hp -> (Hp -> Prop) -> Prop := fun o i v H Q => ∃ p xs k j, o = .ref p /\ i = .int k /\ H p = Aa (.lst xs) /\ ixN xs.length k = Aa j /\ Q (upd H p (.lst (xs.set j v)))
theorem Lg : QS X aN := by
 intro pI s σ H o i v ov iv u Q I ro ri rv h;obtain⟨p, xs, k, j, rfl, rfl, hp, hj, q⟩ := h;cases ro;obtain⟨t, rfl⟩ := ri;obtain⟨its, n, r, ho, hz⟩ := I.lst hp;obtain⟨h1, h2, h3, h4⟩ := Ow hj;have hl := r.length;have hn := HW;have I' : Inv X pI σ (upd H p (.lst (xs.set j v))) {s with heap := s.heap.update p (Fx (·.setIfInBounds j u))}:=
  I.lstUpd hp ho (TC its n j u) (r.set rv j) (by rw[A4];exact hz) s.toks
 by_cases h0 : 0 <= k
 ·have hk : k.toNat = j := by
   rw[G9 h0 h4]at h1;exact Bl h1
  exact PySem.W.ki_setAt ho h0 (by omega) (by rw[Az, <-hl];exact h4) (by rw[hk];exact⟨_, I', q⟩)
 ·have hk : (k+(its.toArray.size : Ae)).toNat = j := by
   rw[GU (by omega) h3]at h1
   rw[Az, <-hl];exact Bl h1
  exact PySem.W.ki_setBack ho (by omega) (by rw[Az, <-hl];exact h3) (by omega) (by rw[hk];exact⟨_, I', q⟩)
theorem S9(lo hi : Ap Ae)(n : Ag) : (DS lo hi Af n).1 = ((HT.sIx n 0 lo : Ag) : Ae) /\ (DS lo hi Af n).2.1 = ((HT.sIx n n hi : Ag) : Ae) /\ (DS lo hi Af n).2.2 = 1 := by
 refine⟨?_, ?_, rfl⟩
 ·cases lo with
  |none => simp[DS, HT.sIx]
  |some i=>
   simp only[DS, HT.sIx, RF, show (1 : Ae) > 0 by decide, Gp]
   by_cases h : i<0
   ·simp only[h, Gp] <;> omega
   ·simp only[h, GI] <;> omega
 ·cases hi with
  |none => simp[DS, HT.sIx]
  |some i=>
   simp only[DS, HT.sIx, RF, show (1 : Ae) > 0 by decide, Gp]
   by_cases h : i<0
   ·simp only[h, Gp] <;> omega
   ·simp only[h, GI] <;> omega
theorem Tb(its : Ab Ah)(lo hi : Ap Ae) : slicePick its.toArray lo hi Af = ((its.drop (HT.sIx its.length 0 lo)).take (HT.sIx its.length its.length hi-HT.sIx its.length 0 lo)).toArray := by
 obtain⟨h1, h2, h3⟩ := S9 lo hi its.toArray.size;unfold slicePick;rw[h1, h2, h3];simp only[sliceRange_one, pick_run, Az] <;> rfl
noncomputable def QH(K : Fg) : V -> Ap Ae -> Ap Ae -> Hp -> VK -> Prop := fun x lo hi H Q => ∃ a xs, x = .ref a /\ SqL K H a xs /\ ∀ p, H p = Af -> Q (.ref p) (upd H p (.lst (G2 xs lo hi)))
theorem V7 : SlR X (QH X.K) := by
 intro pI s σ H x v vl vu lo hi sl Q I rx hs pl pu h;obtain⟨a, xs, rfl, hx, q⟩ := h;cases rx;obtain⟨its, r, ht, hz⟩ := I.list hx;have hlen := r.length;refine⟨"list", _, SK.lookup, ht.isList.typeIs, ?_⟩;refine wpAny_getItem_list_slice ht.isList hs pl pu .none (by simp) ?_ (by rw[Az] <;> omega)
 rw[Tb, <-hlen];refine⟨.ref s.heap.objs.size, _, I.laid (t' := s.toks) (o := .lst (G2 xs lo hi)) (fun b ob q => Ar _ q) (AQ _) ?_, rfl, q _ (I.hok.fresh (AQ _))⟩
 exact⟨B9 (M3 xs lo hi) hz, _, 0, (r.drop (HT.sIx xs.length 0 lo)).take (HT.sIx xs.length xs.length hi-HT.sIx xs.length 0 lo), AC _ rfl⟩
theorem M8 : Gd X (.builtin "len") (fun xs H Q => ∃ p ys, xs = [.ref p] /\ (SqL X.K H p ys \/ SqT X.K H p ys) /\ Q (.int ys.length) H) := by
 intro pI s σ H xs us Q I r h;obtain⟨p, ys, rfl, hq, q⟩ := h;obtain⟨u, rfl, rx⟩ := Gb r;cases rx;have hn := HW;rcases hq with hq|hq
 ·obtain⟨its, r', pl, hz⟩ := I.list hq;have hlen := r'.length;exact Calls.call_len_list pl.isList (by simp only[Az] <;> omega) ⟨.int ys.length, H, I.tok _, ⟨s.toks+1, by rw[Az, hlen]⟩, q⟩
 ·obtain⟨its, r', pl, hz⟩ := I.tuple hq;have hlen := r'.length;exact len_tuple pl (by simp only[Az] <;> omega) ⟨.int ys.length, H, I.tok _, ⟨s.toks+1, by rw[Az, hlen]⟩, q⟩
theorem S7 : Gd X (.builtin "len") (fun xs H Q => ∃ z, xs = [.str z] /\ z.length <= sizeLine /\ Q (.int z.length) H) := by
 intro pI s σ H xs us Q I r h;obtain⟨z, rfl, hz, q⟩ := h;obtain⟨u, rfl, t, rfl⟩ := Gb r;have hn := HW;exact len_str (by omega) ⟨.int z.length, H, I.tok _, ⟨_, rfl⟩, q⟩
theorem MR : Gd X (.type "list") (fun xs H Q => ∃ p ys, xs = [.ref p] /\ (SqL X.K H p ys \/ SqT X.K H p ys) /\ ∀ l, H l = Af -> Q (.ref l) (upd H l (.lst ys))) := by
 intro pI s σ H xs us Q I r h;obtain⟨p, ys, rfl, hq, q⟩ := h;obtain⟨u, rfl, rx⟩ := Gb r;cases rx;have fin : ∀(its : Ab Ah), AZ ys its -> ys.length <= sizeLine -> ∀(h' : AF)(c' : Ag), (∀ b o', s.heap.get? b = Aa o' -> h'.get? b = Aa o') ->
   h'.get? s.heap.objs.size = Aa { cls := .type "list", dict := Af, data := .seq its.toArray c', slots := #[] } -> EP X pI σ Q (.ref s.heap.objs.size) {s with heap := h'} := fun its r' hz h' c' kp e=>
  ⟨.ref s.heap.objs.size, _, I.laid (t' := s.toks) kp (AQ _) (show ObjOk X.prog X.w _ h' _ (.lst ys) from ⟨hz, its, c', r', e⟩), rfl, q _ (I.hok.fresh (AQ _))⟩
 rcases hq with hq|hq
 ·obtain⟨its, r', pl, hz⟩ := I.list hq;have hlen := r'.length;obtain⟨o, ho, hc, n, hd⟩ := pl.isList;exact call_list_seq p (.inl rfl) ho hc hd (fun h' c' kp e => fin its r' hz h' c' kp e) (by simp only[Az] <;> omega)
 ·obtain⟨its, r', pl, hz⟩ := I.tuple hq;have hlen := r'.length;obtain⟨o, ho, hc, n, hd⟩ := pl;exact call_list_seq p (.inr rfl) ho hc hd (fun h' c' kp e => fin its r' hz h' c' kp e) (by simp only[Az] <;> omega)
theorem MS : Gd X (.type "tuple") (fun xs H Q => ∃ p ys, xs = [.ref p] /\ ((SqL X.K H p ys /\ ∀ l, H l = Af -> Q (.ref l) (upd H l (.tup ys))) \/ (SqT X.K H p ys /\ Q (.ref p) H))) := by
 intro pI s σ H xs us Q I r h;obtain⟨p, ys, rfl, h⟩ := h;obtain⟨u, rfl, rx⟩ := Gb r;cases rx;rcases h with ⟨hq, q⟩|⟨hq, q⟩
 ·obtain⟨its, r', pl, hz⟩ := I.list hq;have hlen := r'.length;refine call_tuple_list pl.isList (fun h' kp => ?_) (by simp only[Az] <;> omega)
  have I1 : Inv X pI σ H {s with heap := h'} := I.kept (t' := s.toks) kp
  have I2 : Inv X pI σ (upd H h'.objs.size (.tup ys)) { s with heap := h'.push { cls := .type "tuple", data := .seq its.toArray } }:=
   I1.laid (t' := s.toks) (fun b o e => Ar _ e) (AQ _) (show ObjOk X.prog X.w _ _ _ (.tup ys) from ⟨hz, its, r', Iu _ _⟩)
  exact⟨.ref h'.objs.size, _, I2, rfl, q _ (I1.hok.fresh (AQ _))⟩
 ·obtain⟨its, r', pl, hz⟩ := I.tuple hq;exact call_tuple_same pl ⟨.ref p, H, I, rfl, q⟩
noncomputable def tyV(K : Fg)(T : Dj)(x : V)(H : Hp) : Prop := match x with
  |.str _ => T = "str"
  |.int _ => T = "int"
  |.ref p => (T = "list" /\ ∃ xs, SqL K H p xs) \/ (T = "tuple" /\ ∃ o, K.lookup p = Aa o /\ o.cls = .type "tuple" /\ o.dict = Af) \/
      (T = "dict" /\ ((∃ kvs, H p = Aa (.dK kvs)) \/ ∃ kvs, H p = Aa (.dT kvs))) \/ (T = "set" /\ ∃ S n, H p = Aa (.set S n))
  |_ => A6
theorem W7{T:Dj}{x:V}{v:Ah}(I : Inv X pI σ H s)(r : Bo x v)(ty : tyV X.K T x H):s.TypeIs v T/\∀ a,v = .ref a->∃ ob,s.heap.get? a = Aa ob/\ob.dict = Af := by
 cases x with
 |str z=>
  obtain⟨t, rfl⟩ := r;cases (show T = "str" from ty)
  exact⟨typeIs_str s z t, fun _ e => nomatch e⟩
 |int i=>
  obtain⟨t, rfl⟩ := r;cases (show T = "int" from ty)
  exact⟨typeIs_int s i t, fun _ e => nomatch e⟩
 |ref p=>
  cases r;rcases ty with ⟨rfl, xs, hq⟩|⟨rfl, o, hk, hc, hd⟩|⟨rfl, hk⟩|⟨rfl, S, n, hk⟩
  ·obtain⟨its, _, pl, _⟩ := I.list hq;refine⟨pl.isList.typeIs, fun a e => ?_⟩
   cases e;obtain⟨o, n, e, c, hd, _⟩ := pl;exact⟨o, e, hd⟩
  ·refine⟨⟨o, I.kIn p o hk, hc⟩, fun a e => ?_⟩
   cases e;exact⟨o, I.kIn _ o hk, hd⟩
  ·have z : ∃ o, s.heap.get? p = Aa o /\ o.ExactDict := by
    rcases hk with ⟨kvs, hk⟩|⟨kvs, hk⟩
    ·obtain⟨_, _, _, _, o, _, _, e, ex, _⟩ := I.hok p _ hk;exact⟨o, e, ex⟩
    ·obtain⟨_, _, _, _, o, _, _, e, ex, _⟩ := I.hok p _ hk;exact⟨o, e, ex⟩
   obtain⟨o, e, ex⟩ := z;refine⟨⟨o, e, ex.1⟩, fun a e2 => ?_⟩
   cases e2;exact⟨o, e, ex.2.1⟩
  ·obtain⟨o, _, _, _, e, ex, _⟩ := I.hok p _ hk;refine⟨⟨o, e, ex.1⟩, fun a e2 => ?_⟩
   cases e2;exact⟨o, e, ex.2.1⟩
 |_ => exact C5 ty
noncomputable def tBM(K : Fg)(T : Dj)(r : V -> Ab V -> Hp -> VK -> Prop)(to : TE)(t : TA) : TE := fun σ H Q => to σ H fun x H1 => tyV K T x H1 /\ t σ H1 fun xs H2 => r x xs H2 Q
variable{o e : Ao}{es : Ab Ao}{to : TE}{t : TA}{name : Aj}{apos cpos : AN}{T id : Dj}{r : V -> Ab V -> Hp -> VK -> Prop}
theorem ZY(pa : PlainAttrs T)(slot : Slot T name id)(hty : typeOf (.builtin id) = pure (.type "method_descriptor"))(hm : MtR X id r)(ho : PE X o to)(ha : PA X (e::es) t)(hbase : attributeBase o name X.env (eval o X.env) = eval o X.env := by rfl)(hfew : ((Cn cpos (Ax (e::es) X.env)).all (fun x => !x.1)&&(backToKw cpos (keywordEach [] X.env)).all (fun x => x.1.isSome)
   && decide ((e::es).length+([] : Ab FB).length+(if ([] : Ab FB).isEmpty then 0 else 1)<30)) = Ac := by rfl)(hline : (apos.endLine==cpos.line) = Ac := by rfl)(hs : Ax (e::es) X.env = (Ad, eval e X.env)::Ax es X.env := by rfl)(hplain : (Cn cpos (Ax es X.env)).any (·.1) = Ad := by rfl):PE X (.Call (.Attribute o name apos) (e::es) [] cpos) (tBM X.K T r to t) := by
 intro pI s σ H Q I h;refine wpAny_Call_method_late hbase hfew hline rfl (thn (ho pI s σ H _ I h) fun v s1 ⟨x, H1, I1, r1, ty, q1⟩ => ?_)
 obtain⟨h1, h2⟩ := W7 I1 r1 ty;refine⟨T, id, pa, slot, hty, h1, h2, ?_⟩;have hA := ha cpos pI s1 σ H1 _ I1 q1;rw[hs]at hA ⊢;refine Calls.callWith_builtin (by show (Ad||(Cn cpos (Ax es X.env)).any (·.1)) = Ad;rw[hplain] <;> rfl) (Calls.evalArgs_plain ?_)
 exact thn hA fun us s2 ⟨vs, H2, I2, r2, q2⟩ => hm pI s2 σ H2 x vs v us Q I2 r1 r2 q2
/- xs.append(e), list.index on a module's tuple .. are MtR facts of 06m -/
end
noncomputable def MtM(X : Cx)(id : Dj)(r : V -> Ab V -> Hp -> VK -> Prop) : Prop:=
 ∀(pI : Ab (Ai × AJ))(s : Ak)(σ : St)(H : Hp)(x : V)(xs : Ab V)(v : Ah)(us : Ab Ah)(Q : VK), Inv X pI σ H s -> Bo x v -> AZ xs us -> r x xs H Q ->
  AB (model X.prog X.w) X.A (call (.builtin id) (v::us)) (EP X pI σ Q) X.xe s
theorem AZ.one : ∀{x : V}{us : Ab Ah}, AZ [x] us -> ∃ u, us = [u] /\ Bo x u
 |_, _, .cons r .nil => ⟨_, rfl, r⟩
theorem AZ.zero : ∀{us : Ab Ah}, AZ [] us -> us = []
 |_, .nil => rfl
theorem AZ.reverse(h : AZ xs us) : AZ xs.reverse us.reverse := by
 induction h with
 |nil => exact .nil
 |cons r t ih => rw[Rx, Rx];exact AZ.append ih (.cons r .nil)
section
variable{X : Cx}{pI : Ab (Ai × AJ)}{σ : St}{H : Hp}{s : Ak}{l b : Ai}{xs ys zs : Ab V}
theorem Inv.lset{f:Bf Ah -> Bf Ah}(I : Inv X pI σ H s)(hH : H l = Aa (.lst xs))(e : s.heap.get? l = Aa { cls := .type "list", data := .seq its.toArray n })(hf : f its.toArray = its'.toArray)(hv : AZ ys its')(hz : ys.length <= sizeLine):Inv X pI σ (upd H l (.lst ys)) {s with heap := s.heap.update l (Fx f),toks := t'} := by
 have q := PySem.IsL.update e f;rw[hf]at q;refine I.write (x := l) (e := l) (by rw[hH];exact trivial) (.inl rfl) (fun b' u hb hu => (Sa s.heap (Fx f) (EY hb)).trans hu) ⟨_, q⟩ ?_
 exact⟨hz, its', _, hv, q⟩
theorem Inv.lnew(I : Inv X pI σ H s)(hv : AZ ys its)(hz : ys.length <= sizeLine):
  Inv X pI σ (upd H s.heap.objs.size (.lst ys)) { s with heap := s.heap.push { cls := .type "list", data := .seq its.toArray }, toks := t' }:=
 I.laid (fun _ _ q => Ar _ q) (AQ _) ⟨hz, its, 0, hv, AC _ rfl⟩
theorem Inv.fresh(I : Inv X pI σ H s) : H s.heap.objs.size = Af := I.hok.fresh (AQ _)
theorem Inv.lstM(I : Inv X pI σ H s)(hH : H l = Aa (.lst xs)) : xs.length <= sizeLine /\ ∃(its : Ab Ah)(n : Ag), AZ xs its /\ xs.length = its.length /\ s.heap.get? l = Aa { cls := .type "list", data := .seq its.toArray n } := by
 obtain⟨z, its, n, r, e⟩ := I.hok l _ hH;exact⟨z, its, n, r, r.length, e⟩
end
section
variable{X : Cx}
noncomputable def VA : V -> Ab V -> Hp -> VK -> Prop := fun x vs H Q => ∃ l xs y, x = .ref l /\ vs = [y] /\ H l = Aa (.lst xs) /\ xs.length<sizeLine /\ Q .non (upd H l (.lst (xs++[y])))
theorem TM : MtM X "list.append" VA := by
 intro pI s σ H x vs v us Q I rx rv h;obtain⟨l, xs, y, rfl, rfl, hH, hz, q⟩ := h;cases rx;obtain⟨u, rfl, ru⟩ := rv.one;obtain⟨z, its, n, r, hl, e⟩ := I.lstM hH;refine call_meets F.slot_list_append ⟨_, e, rfl⟩ F.entry_list_append (F.args_list_append_2 _ _) (PySem.list_append l its.toArray n u (by rw[Az];omega)) ⟨e, ?_⟩
 refine⟨.non, _, I.lset (its' := its++[u]) hH e (by simp) (r.append (.cons ru .nil)) ?_, rfl, q⟩
 rw[Bp, Ro];omega
noncomputable def Zvz : V -> Ab V -> Hp -> VK -> Prop := fun x vs H Q => ∃ l xs i k y, x = .ref l /\ vs = [.int i] /\ H l = Aa (.lst xs) /\ -(2 ^ 63) <= i /\ i<2 ^ 63 /\ Ix i xs.length = Aa k /\ xs[k]? = Aa y /\ Q y (upd H l (.lst (xs.eraseIdx k)))
end
section
variable{prog : AM}{w : AU}{A : A3}{E : Ah -> Ak -> Prop}{s : Ak}
set_option maxRecDepth 100000 in
end
section
variable{X : Cx}
end
end L2
namespace Att
open PySem PySem.W PySem.Calls PyProof.Rows
variable{P:IB}{h:AF}{l:Ek}{n:Ag}
theorem S6 : ∀(ns : Ab Ae)(vs : Ab Ah), WellAll P h vs (ns.map So) -> Gi vs ns := by
 intro ns
 induction ns with
 |nil=>
  intro vs w;rw[GN]at w;cases w;exact .nil
 |cons n ns ih=>
  intro vs w;rw[Cb]at w;cases w with
  |cons a b=>
   cases a;exact .cons _ _ (ih _ b)
theorem Ti(hn : l.most = Aa n){args:Ab WData}{vals:Ab Ah}(hpre : l.row.toRowW.claim.pre args = Ac)(hwl : WellAll P h vals args):
  ∃ a vs ns, vals = [Sj a] /\ args = [WData.list (ns.map So)] /\ h.get? a = Aa { cls := .type "list", data := .seq vs.toArray } /\ Gi vs ns /\ ns.length <= n := by
 have hsh : WShape.hasAll [] args [.list .int] = Ac := (pre_splitW hpre).1;have hc : l.pre.holds [] {args := args} = Ac := (pre_splitW hpre).2;obtain⟨d, r, rfl, h1, h2⟩ := hasAllW_cons hsh;obtain rfl := hasAllW_nil h2;obtain⟨xs, rfl, h3⟩ := hasW_list h1;obtain⟨ns, rfl⟩ := items_int h3;have hlen : ns.length <= n := by
  unfold OpenLaw.pre at hc;have h4 : (WTm.not (.lt (.lit (.int (n : Ae))) (.len (.arg 0)))).holds [] {args := [.list (ns.map .int)]} = Ac := by
   have h4 := (holds_andW hc).1;rw[hn]at h4;exact h4
  have h5 := condW_of h4 (w_not (w_lt w_lit (w_len_list (w_arg rfl))));rw[BF]at h5;refine Nat.le_of_not_lt fun q => ?_
  have q' : (n : Ae)<((ns.length : Ag) : Ae) := by omega
  first
   |(rw[AR q']at h5;exact absurd h5 (by decide))
   |(simp at h5;omega)
 cases hwl with
 |cons w1 w2=>
  cases w2;cases w1 with
  |list ho hall => exact⟨_, _, ns, rfl, rfl, ho, S6 ns _ hall, hlen⟩
theorem T5(l : Ek)(args : Ab WData) : l.row.toRowW.claim.post args (.bool Ac) args = Ac:=
 postW_of (r := l.row.toRowW) (X := (Ac==Ac))
  (show Sq [] (.bool Ac) .bool = Ac by first|rfl|decide|simp[Sq, WShape.arms, WShape.armsAll])
  (show (WTm.eq .res (.lit (.bool Ac))).value [] {args := args, res := Aa (.bool Ac), after := args} = Aa (.bool (Ac==Ac)) from w_eq_bool (w_res rfl) w_lit) rfl
theorem attach_call{q:AM}{loose:Ab Aj}{XP:(Aj -> Ap Ah) -> AF -> Prop}{YP:AU -> AF -> Prop}{d:DefRec}(hn : l.most = Aa n)(hdf : d.params.defaults = [])(call : ∀(w : AU)(s₀ s₁ : Ak)(mg mb : Aj -> Ap Ah)(fa : Ai)(o : AJ)(pm cd doc : Ah)(a : Ai)(vs : Ab Ah)(ns : Ab Ae),
   Ground q loose [] XP w s₀ mg mb s₁.heap -> YP w s₁.heap ->
   s₁.heap.get? fa = Aa o -> o.data = .func (docDef d.name d.params d.body d.scope pm cd doc) -> s₁.heap.CodeRec cd d.name -> mg d.name = Aa (.ref fa) ->
   s₁.heap.get? a = Aa { cls := .type "list", data := .seq vs.toArray } -> Gi vs ns -> ns.length <= n -> s₁.gens = #[] ->
   E0 (model l.prog w) FC (.call (.ref fa) ⟨[.ref a], []⟩) (fun r s' => r = .ok (.ret (.bool Ac)) /\ OldK s₁.heap s'.heap /\ s'.os = s₁.os /\ Ec s'.gens) s₁):WalkO q loose XP YP l.row.toRowW d [] (fun f vs =>Hy f vs) := by
 intro w s₀ s₁ mg mb G Y fa o pm cd doc dV kV ho hd hcd hD hmg hg args vals as hpre hlay hrd hwl hlo;obtain rfl : dV = .none := Dflts.none hD hdf;obtain rfl : kV = .none := Dflts.noKw hD;obtain⟨a, vs, ns, rfl, rfl, hobj, hints, hlen⟩ := Ti hn hpre hwl;refine enter_call (GP (call w s₀ s₁ mg mb fa o pm cd doc a vs ns G Y ho (fd_plain hd) hcd hmg hobj hints hlen hg) fun r s' hq => ?_)
 obtain⟨rfl, h2, h3, h4⟩ := hq;exact⟨.inl ⟨.bool Ac, .bool Ac, [], rfl, fun _ => rfl, .bool Ac, T5 l _, fun _ => ⟨List.Pairwise.nil, fun _ hm => (nomatch hm)⟩⟩, h2, h3, h4⟩
section
variable{prog : AM}{w : AU}{A : A3}{E : Ah -> Ak -> Prop}{s : Ak}{K : Frag}
end
end Att
namespace L2
open PySem PySem.Spec PyProof.Rows
variable{k:Ag}{x:Aj}
theorem Nm : ∀{vs : Ab Ah}{ns : Ab Ae}, Gi vs ns -> AZ (ns.map V.int) vs
 |_, _, .nil => .nil
 |_, _, .cons n t h => .cons ⟨t, rfl⟩ (Nm h)
noncomputable def MA(H : Hp) : Prop := ∀ b, H b = Af \/ ∃ o xs, H b = Aa (.frz o (.lst xs))
theorem UU{P:AM}{w:AU}{K:Fg}{mg mb:Aj -> Ap Ah}{CX:CXT}{fa a:Ai}{fd:BV}{sp:Sp}{s₁:Ak}{vs:Ab Ah}{ns:Ab Ae}(KX : K.In s₁.heap)(hns : s₁.heap.Ns AT mg)(hb : s₁.heap.Ns Gs mb)(hbb : ∀ x : Aj, x ≠ "__name__" -> mb x = Co x)(hlim : s₁.heap.NoLimit)(hg : s₁.gens = #[])(ha : s₁.heap.get? a = Aa { cls := .type "list", data := .seq vs.toArray })(hi : Gi vs ns)(hl : ns.length <= sizeLine)(hr : Room k FC)(F : ∀ base : AF, K.In base -> base.Ns AT mg -> FnOk P w K mg base CX k fa fd [x] sp)(hbind : ∀(s : Ak)(u : Ah), FA s fd ⟨[u], []⟩ [(x, u)])(hsp : ∀ H : Hp, MA H -> SqL K H a (ns.map V.int) -> sp [.ref a] H (fun v _ => v = .bl Ac) fun _ _ _ => A6)(hCX : ∀ H e s', CX [] H s₁ (fun _ _ _ => A6) e s' -> A6):E0 (model P w) FC (.call (.ref fa) ⟨[.ref a],[]⟩) (fun r s' =>r = .ok (.ret (.bool Ac))/\OldK s₁.heap s'.heap/\s'.os = s₁.os/\Ec s'.gens) s₁ := by
 have rv := Nm hi;have lenV := hi.length
 -- from an abstract heap in which nothing but the script may be tracked
 have core : ∀ H : Hp, MA H -> SqL K H a (ns.map V.int) -> HOk P w H s₁.heap -> (∀ b, H b ≠ Af -> b = a) -> (H a ≠ Af -> K.lookup a = Af) ->
   E0 (model P w) FC (.call (.ref fa) ⟨[.ref a], []⟩) (fun r s' => r = .ok (.ret (.bool Ac)) /\ OldK s₁.heap s'.heap /\ s'.os = s₁.os /\ Ec s'.gens) s₁ := by
  intro H hO hS hok hA hK;have base_of : ∀{b : Ai}{o : AJ}, s₁.heap.get? b = Aa o -> H b = Af -> (GE s₁.heap H).get? b = Aa o := fun e n => UV e n
  have noA : ∀{b : Ai}{o : AJ}{es : Bf DictEntry}{ep : Ag}, s₁.heap.get? b = Aa o -> o.data = .dict es ep -> H b = Af := fun {b o es ep} e d => by
   cases q : H b with
   |none => rfl
   |some u=>
    have e' : b = a := hA b (by rw[q];simp)
    subst e';rw[ha]at e;cases e;have d' : Iy vs.toArray _ = Data.dict es ep := d;cases d'
  have nsK : ∀{b : Ai}{m : Aj -> Ap Ah}, s₁.heap.Ns b m -> (GE s₁.heap H).Ns b m := fun {b m} ⟨o, es, ep, e, d, r⟩ => ⟨o, es, ep, base_of e (noA e d), d, r⟩
  have hKb : K.In (GE s₁.heap H) := fun b o e => base_of (KX b o e) (by
   cases q : H b with
   |none => rfl
   |some u=>
    have e' : b = a := hA b (by rw[q];simp)
    subst e';rw[hK (by rw[q];simp)]at e;cases e)
  have hM : Mod K mg (GE s₁.heap H) := ⟨hKb, nsK hns, ⟨mb, nsK hb, hbb⟩, let ⟨mc, h1, h2⟩ := hlim;⟨mc, nsK h1, h2⟩⟩
  have e0 : Env0 P w K mg (GE s₁.heap H) FC [] s₁ H := ⟨rfl, hM, fun b o e => WI e, Nat.le_of_eq (TV _ _), trivial, fun b hb => absurd (show b ∈ ([] : Ab Ai) from hb) (by simp), hok, .of_eq hg⟩
  refine GP ((F _ hKb (nsK hns)).run FC [] s₁ H ⟨[.ref a], []⟩ [.ref a] [.ref a] _ _ hr e0 (hbind s₁ (.ref a)) (.cons rfl .nil) (hsp H hO hS)) fun r s' h => ?_
  cases r with
  |error e => exact(hCX H e s' h).elim
  |ok fl=>
   cases fl with
   |next => exact C5 h
   |brk => exact C5 h
   |cont => exact C5 h
   |ret u=>
    obtain⟨v, H', os, bare, un, hok', r', q⟩ := h;have q' : v = .bl Ac := q;subst q';obtain rfl : u = Sh Ac := r';refine⟨rfl, OldK.of_keep fun b o e => ?_, os, bare⟩
    cases q : H b with
    |none => exact un.keep b o e q (by intro z;exact absurd (show b ∈ ([] : Ab Ai) from z) (by simp)) (by simp)
    |some u=>
     rcases hO b with z|⟨ob, xs, z⟩
     ·rw[q]at z;cases z
     ·have z2 := un.frzs b ob _ z;obtain⟨e1, _⟩ := hok b _ z;obtain⟨e2, _⟩ := hok' b _ z2;rw[e]at e1;cases e1;exact e2
 cases hk : K.lookup a with
 |some o=>
  -- the script is one of the module's own objects
  have e := KX a o hk;rw[ha]at e;cases e;refine core (fun _ => Af) (fun _ => .inl rfl) (.inr ⟨_, vs.toArray, _, hk, rfl, rfl, rfl, by rw[Az, lenV];exact hl, by simpa using rv⟩) (fun b u z => by have z' : (Af : Ap HO) = Aa u := z;cases z') (fun b z => absurd rfl z) fun z => absurd rfl z
 |none=>
  refine core (fun b => if b = a then Aa (.frz { cls := .type "list", data := .seq vs.toArray } (.lst (ns.map V.int))) else Af) (fun b => ?_) (.inl (.inr ⟨{ cls := .type "list", data := .seq vs.toArray }, AH rfl⟩)) (fun b u z => ?_) (fun b z => ?_) fun _ => hk
  ·by_cases hb : b = a
   ·exact .inr ⟨_, _, AH hb⟩
   ·exact .inl (AO hb)
  ·by_cases hb : b = a
   ·have z' := (AH hb).symm.trans z;cases z';subst hb;exact⟨ha, by rw[BF];exact hl, vs, _, rv, ha⟩
   ·have z' := (AO hb).symm.trans z;cases z'
  ·by_cases hb : b = a
   ·exact hb
   ·exact absurd (AO hb) z
noncomputable abbrev KOf{K : Fg}{h : AF}(_ : K.In h) : Fg := K
theorem walk_of{l:Ek}{n:Ag}{q:AM}{loose:Ab Aj}{XP:(Aj -> Ap Ah) -> AF -> Prop}{YP:AU -> AF -> Prop}{d:DefRec}{K:IB -> Fg}{CX:AU -> CXT}{sp:AU -> Sp}(hn : l.most = Aa n)(hn2 : n <= sizeLine)(hdf : d.params.defaults = [])(hr : Room k FC)(hY : ∀(w : AU)(h : AF), YP w h -> (K w.params).In h)(F : ∀(w : AU)(mg : Aj -> Ap Ah)(fa : Ai)(h : AF), (K w.params).In h -> h.Ns AT mg -> mg d.name = Aa (.ref fa) ->
   ∃ fd : BV, (∀(s : Ak)(u : Ah), FA s fd ⟨[u], []⟩ [(x, u)]) /\
    ∀ base : AF, (K w.params).In base -> base.Ns AT mg -> FnOk l.prog w (K w.params) mg base (CX w) k fa fd [x] (sp w))(hsp : ∀(w : AU)(H : Hp)(a : Ai)(ns : Ab Ae), ns.length <= n -> MA H -> SqL (K w.params) H a (ns.map V.int) -> sp w [.ref a] H (fun v _ => v = .bl Ac) fun _ _ _ => A6)(hCX : ∀(w : AU)(H : Hp)(s : Ak)(e : Ah)(s' : Ak), CX w [] H s (fun _ _ _ => A6) e s' -> A6):Sr q loose XP YP l.row.toRowW d [] (fun f vs =>Hy f vs) := by
 refine Att.attach_call hn hdf fun w s₀ s₁ mg mb fa o pm cd doc a vs ns G Y ho hd hcd hmg hobj hints hlen hg => ?_
 have KX := hY w _ Y;obtain⟨fd, hb, hF⟩ := F w mg fa _ KX G.T.g hmg;exact UU KX G.T.g G.T.b G.T.builtins G.T.nolimit hg hobj hints (B9 hlen hn2) hr hF hb (fun H hO hS => hsp w H a ns hlen hO hS) fun H e s' => hCX w H s₁ e s'
end L2
/- THE LAST THEOREM (shape;LID, My.* are yours):
   My.Adr: a structure of the addresses that your layer names (classes, functions);My.Txt K t: a structure (Prop) of the equations over K;
   My.txt_mk : {K} {implicit addresses ..} (e1 : nsIn K AT "law" = Aa (Aa (.ref f))) (e2 : K.lookup f = Aa ⟨oc, od, .func (fnOf "law" "law" params body scope dV kV doc pm an cdv ct), sl⟩) (e3 : codeIn K cdv "law" = Ac) .. : ∃ t, My.Txt K t
set_option maxRecDepth 100000 in
set_option maxHeartbeats 0 in
theorem PySem.Challenge.cw_LID_holds : PySem.Challenge.rw_LID.Holds := by
 w_on;o_law;k_head;(case hw => w_witness2)
 k_fill
 refine L2.walk_of (l := PySem.Challenge.rw_LID) (n := 63) (k := 40) (x := "script") (CX := fun w => ..) (sp := fun _ => My.sp_law) rfl (by decide) rfl ⟨rfl, by decide, by decide⟩ (fun w h Y => Sw Y) ?F ?S ?C
 case F=>
  intro w mg fa h KX G hmg;have T : ∃ t, My.Txt (L2.KOf KX) t := by
   dsimp only[L2.KOf]                          -- K must stand as «<heap const> w.params» for k_is
   refine' My.txt_mk ?e1 ?e2 ?e3 ..
   (case e1 => PySem.W.k_is)                    -- in the order: a name -> its address -> its object -> its parts
   (case e2 => PySem.W.k_is)
   ..
  obtain⟨t, T⟩ := T;have e0 := hmg.symm.trans (GJ KX G T.law);cases e0                                       -- fa is the law's own address
  exact⟨_, fun s u => .of_eq rfl, fun base kb nb => My.law_fn T kb nb⟩     -- if «.of_eq rfl» comes too early: refine' ⟨_, ?b, fun base kb nb => My.law_fn T kb nb⟩;exact fun s u => .of_eq rfl
 case S => exact fun w H a ns hl hO hS => ..
 case C => exact ..
(the tactic k_is has no namespace: write k_is) -/
namespace L2
open PySem PySem.Spec PyProof.Rows
noncomputable def HP(s : Bq) : Arguments := match s with
  |.FunctionDef _ a _ _ _ _ _ _ _ _ => a
  |_ => {posonlyargs := [], args := [], vararg := Af, kwonlyargs := [], kw_defaults := [], kwarg := Af, defaults := []}
noncomputable def F7(s : Bq) : Ab Bq := match s with
  |.FunctionDef _ _ b _ _ _ _ _ _ _ => b
  |_ => []
noncomputable def E1(s : Bq) : BS := match s with
  |.FunctionDef _ _ _ _ _ _ sc _ _ _ => sc
  |_ => {kind := .function, names := [], isGenerator := Ad, isCoroutine := Ad}
noncomputable abbrev CX0 : CXT := fun _ _ _ _ _ _ => A6
structure Fun (K : Fg) (x qual : Aj) (st : Bq) (f : Ai) (fd : BV) : Prop where
 ex : ∃(oc : Ah)(od : Ap Ai)(kV doc pm : Ah)(an : Ap Ai)(cdv ct : Ah)(osl : Bf (Ap Ah)),
  fd = Di x qual (HP st) (F7 st) (E1 st) .none kV doc pm an cdv ct /\ K.lookup f = Aa ⟨oc, od, .func fd, osl⟩ /\ EZ K cdv qual = Ac
 kp : CI K (.ref f) = Ac
section
variable{P : AM}{w : AU}{K : Fg}{mg : Aj -> Ap Ah}{base : AF}
theorem Fun.ok{x qual : Aj}{st : Bq}{f : Ai}{fd : BV}{N ps : Ab Aj}{k : Ag}{sp : Sp}(F : Fun K x qual st f fd)(S : FnScope N ps (E1 st))(len : ∀ vs H Q E, sp vs H Q E -> vs.length = ps.length)(hbody : ∀(cdv : Ah)(A : A3)(outer : Ab BJ)(s : Ak)(H : Hp)(vs : Ab V)(Q : VK)(E : XK), Room k (A.deeper (DQ qual (E1 st) s.heap.objs.size f cdv)) -> sp vs H Q E ->
   ∃ t, PSs (E7 CX0 P w K mg base N qual (E1 st) f cdv A outer s H E).nox (F7 st) t /\ t {nx := fun _ H' => Q .non H', rt := Q} (start N vs) H) : FnOk P w K mg base CX0 (k+1) f fd ps sp := by
 obtain⟨oc, od, kV, doc, pm, an, cdv, ct, osl, rfl, lk, hcd⟩ := F.ex;refine P5 lk hcd S len fun A outer s H vs Q E hr hsp => ?_
 obtain⟨t, h, q⟩ := hbody cdv A outer s H vs Q E hr hsp;exact⟨t, h.nox, q⟩
theorem Fun.binds{x qual : Aj}{st : Bq}{f : Ai}{fd : BV}{ps : Ab Aj}(F : Fun K x qual st f fd)(h : ∀(kV doc pm : Ah)(an : Ap Ai)(cdv ct : Ah)(us : Ab Ah), us.length = ps.length -> IC (Di x qual (HP st) (F7 st) (E1 st) .none kV doc pm an cdv ct) ⟨us, []⟩ = pure (ps.zip us)) : Ga K fd ps [] := by
 obtain⟨oc, od, kV, doc, pm, an, cdv, ct, osl, rfl, lk, hcd⟩ := F.ex;exact .all (h kV doc pm an cdv ct)
theorem YG{x qual : Aj}{st : Bq}{f : Ai}{oc : Ah}{od an : Ap Ai}{osl : Bf (Ap Ah)}{kV doc pm cdv ct : Ah}(l : K.lookup f = Aa ⟨oc, od, .func (Di x qual (HP st) (F7 st) (E1 st) .none kV doc pm an cdv ct), osl⟩)(c : EZ K cdv qual = Ac)(k : CI K (.ref f) = Ac) : Fun K x qual st f (Di x qual (HP st) (F7 st) (E1 st) .none kV doc pm an cdv ct) := ⟨⟨oc, od, kV, doc, pm, an, cdv, ct, osl, rfl, l, c⟩, k⟩
end
section
variable{X : Cx}
end
noncomputable def Ay(H H' : Hp) : Prop := ∀ b o, H b = Aa o -> H' b = Aa o
theorem Ay.refl(H : Hp) : Ay H H := fun _ _ h => h
theorem Ay.trans{H H1 H2 : Hp}(a : Ay H H1)(b : Ay H1 H2) : Ay H H2 := fun c o h => b c o (a c o h)
theorem Ay.free{H H' : Hp}(e : Ay H H'){l : Ai}(h : H' l = Af) : H l = Af := by
 cases q : H l with
 |none => rfl
 |some o=>
  rw[e l o q]at h;cases h
end L2
section
namespace Ov
open PySem
variable{α β:Type}
inductive D where
 |non|bl (b : An)|int (i : Ae)|str (x : Aj)|tup (ds : Ab D)|lst (ds : Ab D)
 |obj (c : Ag) (fs : Ab (Aj × D))|exc (c : Ag) (fs : Ab (Aj × D))|dic (kvs : Ab (Ab Ae × D))
 deriving Inhabited
structure Ex where
 c : Ag
 fs : Ab (Aj × D)
 deriving Inhabited
inductive R (α : Type) where
 |ok (a : α)|exn (x : Ex)|bad
 deriving Inhabited
noncomputable def R.bind{α β : Type}(r : R α)(f : α -> R β) : R β := match r with
  |.ok a => f a
  |.exn x => .exn x
  |.bad => .bad
@[simp]theorem R.bind_ok(a : α)(f : α -> R β) : (R.ok a).bind f = f a := rfl
@[simp]theorem R.bind_exn(x : Ex)(f : α -> R β) : (R.exn x : R α).bind f = .exn x := rfl
@[simp]theorem R.bind_bad(f : α -> R β) : (R.bad : R α).bind f = .bad := rfl
theorem R.bind_assoc{γ:Type}(r : R α)(f : α -> R β)(g : β -> R γ) : (r.bind f).bind g = r.bind fun a => (f a).bind g := by cases r <;> rfl
noncomputable def Cs(n : Ag) : An := Ds n 1000000
noncomputable def C9(i j : Ae) : An := (decide (-(18446744073709551616 : Ae)<i)&&decide (i<18446744073709551616))||(decide (-(18446744073709551616 : Ae)<j)&&decide (j<18446744073709551616))
noncomputable def DX(i j : Ae) : An := decide (i.natAbs<2 ^ 2000)&&decide (j.natAbs<2 ^ 2000)
noncomputable def Cq : FO -> D -> D -> R D
 |.Add, .int i, .int j => .ok (.int (i+j))
 |.Sub, .int i, .int j => .ok (.int (i-j))
 |.Mult, .int i, .int j => if (C9 i j||DX i j) = Ac then .ok (.int (i*j)) else .bad
 |.FloorDiv, .int i, .int j => if 0<j /\ j<1073741824 then .ok (.int (i / j)) else .bad
 |.Mod, .int i, .int j => if 0<j then .ok (.int (i%j)) else .bad
 |.Pow, .int i, .int j => if (0 <= j /\ j <= 1000000) /\ (-(18446744073709551616 : Ae)<i /\ i<18446744073709551616) then .ok (.int (i ^ j.toNat)) else .bad
 |.Add, .str x, .str y => if Cs (x.length+y.length) = Ac then .ok (.str (x++y)) else .bad
 |.Add, .lst x, .lst y => if Cs (x.length+y.length) = Ac then .ok (.lst (x++y)) else .bad
 |.Add, .tup x, .tup y => if (!x.isEmpty&&Cs (x.length+y.length)) = Ac then .ok (.tup (x++y)) else .bad
 |_, _, _ => .bad
noncomputable def unD : UnaryOp -> D -> R D
 |.USub, .int i => .ok (.int (-i))
 |_, _ => .bad
noncomputable def b2i(b : An) : Ae := if b = Ac then 1 else 0
mutual
noncomputable def eqD : D -> D -> An
 |.non, .non => Ac
 |.bl a, .bl b => a==b
 |.bl a, .int j => b2i a==j
 |.int i, .bl b => i==b2i b
 |.int i, .int j => i==j
 |.str x, .str y => x==y
 |.tup xs, .tup ys => eqDs xs ys
 |.lst xs, .lst ys => eqDs xs ys
 |_, _ => Ad
noncomputable def eqDs : Ab D -> Ab D -> An
 |[], [] => Ac
 |x::xs, y::ys => eqD x y&&eqDs xs ys
 |_, _ => Ad
end
noncomputable def flD : Ag -> D -> An
 |_, .non => Ac
 |_, .bl _ => Ac
 |_, .int _ => Ac
 |_, .str _ => Ac
 |n+1, .tup xs => xs.all (flD n)
 |n+1, .lst xs => xs.all (flD n)
 |_, _ => Ad
noncomputable def Ip : D -> Ap (Ab Ae)
 |.tup ds => keyDs ds
 |_ => Af
where keyDs : Ab D -> Ap (Ab Ae)
 |[] => Aa []
 |.int i::r => (keyDs r).map (i :: ·)
 |_ => Af
noncomputable def ltD : Ag -> D -> D -> An
 |0, .int i, .int j => decide (i<j)
 |n+1, .tup xs, .tup ys => ltDs (ltD n) xs ys
 |_, _, _ => Ad
where ltDs (lt : D -> D -> An) : Ab D -> Ab D -> An
 |[], [] => Ad
 |[], _::_ => Ac
 |_::_, [] => Ad
 |x::xs, y::ys => if eqD x y = Ac then ltDs lt xs ys else lt x y
noncomputable def rkD : Ag -> D -> An
 |0, .int _ => Ac
 |n+1, .tup xs => xs.all (rkD n)
 |_, _ => Ad
noncomputable def Qz(lt : D -> D -> An)(x : D) : Ab D -> Ab D
 |[] => [x]
 |y::ys => if lt y x = Ac then y::Qz lt x ys else x::y::ys
noncomputable def Py(lt : D -> D -> An) : Ab D -> Ab D
 |[] => []
 |x::xs => Qz lt x (Py lt xs)
noncomputable def Qw : Ab D -> An
 |[] => Ac
 |x::xs => xs.all (fun y => !eqD x y)&&Qw xs
noncomputable def QO : Ab D -> An
 |[] => Ac
 |[_] => Ac
 |x::y::r => ltD 1 x y&&QO (y::r)
noncomputable def N5(xs : Ab D) : R (Ab D) := if (xs.all (fun d => rkD 1 d && !eqD d (.tup []))&&Qw xs&&(decide (xs.length<64)||(QO xs&&decide (xs.length <= 1000)))) = Ac then .ok (Py (ltD 1) xs) else .bad
noncomputable def BD : DB -> D -> D -> R D
  |.Eq, x, y => if (flD 5 x&&flD 5 y) = Ac then .ok (.bl (eqD x y)) else .bad
  |.NotEq, x, y => if (flD 5 x&&flD 5 y) = Ac then .ok (.bl (!eqD x y)) else .bad
  |.Lt, .int i, .int j => .ok (.bl (decide (i<j)))
  |.LtE, .int i, .int j => .ok (.bl (decide (i <= j)))
  |.Gt, .int i, .int j => .ok (.bl (decide (j<i)))
  |.GtE, .int i, .int j => .ok (.bl (decide (j <= i)))
  |.In, x, .lst ys => if (flD 5 x&&ys.all (flD 5)) = Ac then .ok (.bl (ys.any fun y => eqD y x)) else .bad
  |.In, x, .dic kvs => match Ip x with
    |some k => .ok (.bl (kvs.any fun p => p.1==k))
    |none => .bad
  |.In, x, .tup ys => if (flD 5 x&&ys.all (flD 5)) = Ac then .ok (.bl (ys.any fun y => eqD y x)) else .bad
  |.NotIn, x, .lst ys => if (flD 5 x&&ys.all (flD 5)) = Ac then .ok (.bl (!ys.any fun y => eqD y x)) else .bad
  |.NotIn, x, .tup ys => if (flD 5 x&&ys.all (flD 5)) = Ac then .ok (.bl (!ys.any fun y => eqD y x)) else .bad
  |.Is, .non, .non => .ok (.bl Ac)
  |.Is, .bl _, .non => .ok (.bl Ad)
  |.Is, .int _, .non => .ok (.bl Ad)
  |.Is, .str _, .non => .ok (.bl Ad)
  |.Is, .tup _, .non => .ok (.bl Ad)
  |.Is, .lst _, .non => .ok (.bl Ad)
  |.Is, .obj _ _, .non => .ok (.bl Ad)
  |.Is, .bl a, .bl b => .ok (.bl (a==b))
  |.IsNot, .bl a, .bl b => .ok (.bl (!(a==b)))
  |.IsNot, .non, .non => .ok (.bl Ad)
  |.IsNot, .bl _, .non => .ok (.bl Ac)
  |.IsNot, .int _, .non => .ok (.bl Ac)
  |.IsNot, .str _, .non => .ok (.bl Ac)
  |.IsNot, .tup _, .non => .ok (.bl Ac)
  |.IsNot, .lst _, .non => .ok (.bl Ac)
  |.IsNot, .obj _ _, .non => .ok (.bl Ac)
  |_, _, _ => .bad
noncomputable def BN : D -> R An
 |.non => .ok Ad
 |.bl b => .ok b
 |.int i => .ok (i != 0)
 |.str x => if Cs x.length = Ac then .ok (x.length != 0) else .bad
 |.tup xs => .ok (!xs.isEmpty)
 |.lst xs => .ok (!xs.isEmpty)
 |_ => .bad
noncomputable def plD(n : Ag)(i : Ae) : Ap Ag := if 0 <= i then (if i<n then Aa i.toNat else Af) else if -(n : Ae) <= i then Aa (i+n).toNat else Af
noncomputable def Dm(xs : Ab D)(i : Ae) : R D := match plD xs.length i with
  |some k => match xs[k]? with
    |some d => .ok d
    |none => .bad
  |none => .bad
noncomputable def Yq(kvs : Ab (Ab Ae × D))(k : Ab Ae) : Ap D := (kvs.find? fun p => p.1==k).map (·.2)
noncomputable def Pj(kvs : Ab (Ab Ae × D))(k : Ab Ae)(v : D) : Ab (Ab Ae × D) := if (kvs.any fun p => p.1==k) = Ac then kvs.map (fun p => if (p.1==k) = Ac then (k, v) else p) else kvs++[(k, v)]
noncomputable def Ci : D -> D -> R D
  |.lst xs, .int i => Dm xs i
  |.tup xs, .int i => Dm xs i
  |.dic kvs, k => match (Ip k).bind (Yq kvs) with
    |some d => .ok d
    |none => .bad
  |_, _ => .bad
noncomputable def Dp : D -> R Ae
 |.int i => .ok i
 |_ => .bad
noncomputable def C1 : D -> R An
 |.bl b => .ok b
 |_ => .bad
noncomputable def B5 : D -> R (Ab D)
 |.lst xs => .ok xs
 |.tup xs => .ok xs
 |_ => .bad
noncomputable def Mo : D -> R (Ab D)
 |.lst xs => .ok xs
 |_ => .bad
inductive BI where
 |len|abs|max|min|int|list|tuple|all|any|sum|sorted|str|count|stp|lset|tmin|tmax|tlt|rvs
 deriving DecidableEq, Inhabited
inductive Ki where
 |int|bool|str|list|tuple|verr|cls (c : Ag)
 deriving DecidableEq, Inhabited
mutual
inductive E where
 |non|bl (b : An)|int (i : Ae)|str (x : Aj)
 |var (i : Ag)|glob (g : Ag)
 |bin (op : FO) (a b : E)|un (op : UnaryOp) (a : E)|no (a : E)
 |and (es : Es)|or (es : Es)
 |cmp (op : DB) (a b : E)|cmp2 (op op' : DB) (a b c : E)
 |ite (c a b : E)
 |call (f : Ag) (as : Es)|bi (b : BI) (as : Es)
 |isi (a : E) (ks : Ab Ki)
 |idx (a i : E)|sl (a lo hi : E)
 |tup (es : Es)|lst (es : Es)
 |comp (elt : E) (t : Ag) (it : I) (c : E)|compT (elt : E) (ts : Ab Ag) (it : I) (c : E)|tupI (it : I)|dnew
 |fld (o : E) (f : Aj)
inductive Es where
 |nil|cons (e : E) (es : Es)
inductive I where
 |e (a : E)|rng (a : E)|rng2 (a b : E)|zip (a b : E)|zip3 (a b c : E)|enm (a : E)
end
noncomputable abbrev Sl := Ap (D × An)
noncomputable abbrev Rho := Ab Sl
structure Gam where
 F : Ag -> Ab D -> R D
 G : Ag -> D
 up : Ag -> Ab Ag
 /-- the defs whose answer is a new list -/
 fr : Ag -> An
 /-- what is raised: the class, what it is made of -/
 xn : Ag -> Ab D -> R Ex
noncomputable def Ca(lo : Ae)(n : Ag) : Ab D := (Cc n).map fun(k : Ag) => D.int (lo+(k : Ae))
noncomputable def CK(lo hi : Ae) : R (Ab D) := if (-(4611686018427387904 : Ae) <= lo /\ lo<4611686018427387904) /\ (-(4611686018427387904 : Ae) <= hi /\ hi<4611686018427387904) /\ hi-lo<1000000 then .ok (Ca lo (hi-lo).toNat) else .bad
noncomputable def kiD(up : Ag -> Ab Ag) : Ki -> D -> An
 |.int, .int _ => Ac
 |.int, .bl _ => Ac
 |.bool, .bl _ => Ac
 |.str, .str _ => Ac
 |.list, .lst _ => Ac
 |.tuple, .tup _ => Ac
 |.cls c, .obj k _ => (up k).contains c
 |.cls c, .exc k _ => (up k).contains c
 |.verr, .exc _ _ => Ac
 |_, _ => Ad
noncomputable def Eg : Ki -> An
 |.cls _ => Ac
 |.verr => Ac
 |_ => Ad
noncomputable def Fp(up : Ag -> Ab Ag)(ks : Ab Ki)(x : D) : R D := match x with
  |.obj _ _ => .bad
  |.exc _ _ => if ks.all Eg = Ac then .ok (.bl (ks.any fun k => kiD up k x)) else .bad
  |.dic _ => .bad
  |_ => if ks.any Eg = Ac then .bad else .ok (.bl (ks.any fun k => kiD up k x))
noncomputable def Dq : D -> R An
 |.non => .ok Ad
 |.bl b => .ok b
 |.int i => .ok (i != 0)
 |_ => .bad
noncomputable def ER : Ab D -> R An
 |[] => .ok Ac
 |x::r => (Dq x).bind fun b => (ER r).bind fun c => .ok (b&&c)
noncomputable def Ef : Ab D -> R An
 |[] => .ok Ad
 |x::r => (Dq x).bind fun b => (Ef r).bind fun c => .ok (b||c)
noncomputable def Fa : Ae -> Ab D -> R Ae
 |a, [] => .ok a
 |a, .int i::r => Fa (a+i) r
 |_, _ => .bad
noncomputable def CS : Ab D -> Ab D -> Ab D
 |x::xs, y::ys => .tup [x, y]::CS xs ys
 |_, _ => []
noncomputable def PC : Ab D -> Ab D -> Ab D -> Ab D
 |x::xs, y::ys, z::zs => .tup [x, y, z]::PC xs ys zs
 |_, _, _ => []
noncomputable def PB(x y z : D) : R (Ab D) := (B5 x).bind fun xs => (B5 y).bind fun ys => (B5 z).bind fun zs => if 0<xs.length /\ xs.length <= 1000 /\ ys.length = xs.length /\ zs.length = xs.length then .ok (PC xs ys zs) else .bad
noncomputable def Fq : Ae -> Ab D -> Ab D
 |_, [] => []
 |i, x::xs => .tup [.int i, x]::Fq (i+1) xs
noncomputable def nlD : Ag -> D -> An
 |_, .non => Ac
 |_, .bl _ => Ac
 |_, .int _ => Ac
 |_, .str _ => Ac
 |n+1, .tup xs => xs.all (nlD n)
 |_, _ => Ad
noncomputable def Ic(fr : An) : D -> An
 |.lst ds => fr&&ds.all (nlD 5)
 |d => nlD 5 d
noncomputable def GZ : Ab D -> Ap (Ab Ae)
 |[] => Aa []
 |.int i::r => (GZ r).map (i :: ·)
 |_ => Af
noncomputable def Gf(i : Ae) : Ab Ae -> Ae
 |[] => i
 |j::r => Gf (if j<i then j else i) r
noncomputable def pk2(k n : Ag) : Ab Ag := (Cc ((n-min k n+1) / 2)).map fun j => min k n+2*j
noncomputable def QE(k : Ag)(xs : Ab D) : Ab D := (pk2 k xs.length).filterMap fun i => xs[i]?
noncomputable def ddS(acc : Ab Ae)(x : Ae) : Ab Ae := if acc.any (· == x) = Ac then acc else acc++[x]
noncomputable def ddN(is : Ab Ae) : Ag := (is.foldl ddS []).length
noncomputable def Qd(xs : Ab D) : R D := match GZ xs with
  |some is => if Ds is.length 4000 = Ac then .ok (.int (ddN is)) else .bad
  |none => .bad
noncomputable def mmD(mx : An)(x y : D) : R D := if [x, y].all (fun d => rkD 1 d && !eqD d (.tup [])) = Ac then .ok (if (if mx = Ac then ltD 1 x y else ltD 1 y x) = Ac then y else x) else .bad
noncomputable def QA(x y : D) : R D := if [x, y].all (fun d => rkD 1 d && !eqD d (.tup [])) = Ac then .ok (.bl (ltD 1 x y)) else .bad
noncomputable def biD : BI -> Ab D -> R D
  |.len, [.lst xs] => .ok (.int xs.length)
  |.len, [.tup xs] => .ok (.int xs.length)
  |.len, [.str x] => if Cs x.length = Ac then .ok (.int x.length) else .bad
  |.abs, [.int i] => .ok (.int (if i<0 then -i else i))
  |.max, [.int i, .int j] => .ok (.int (if i<j then j else i))
  |.min, [.int i, .int j] => .ok (.int (if j<i then j else i))
  |.min, [.lst xs] => match GZ xs with
    |some (i::is) => .ok (.int (Gf i is))
    |_ => .bad
  |.int, [.int i] => .ok (.int i)
  |.int, [.bl b] => .ok (.int (b2i b))
  |.list, [.lst xs] => .ok (.lst xs)
  |.list, [.tup xs] => .ok (.lst xs)
  |.tuple, [.lst xs] => .ok (.tup xs)
  |.tuple, [.tup xs] => .ok (.tup xs)
  |.all, [.lst xs] => (ER xs).bind fun b => .ok (.bl b)
  |.any, [.lst xs] => (Ef xs).bind fun b => .ok (.bl b)
  |.any, [.tup xs] => (Ef xs).bind fun b => .ok (.bl b)
  |.sum, [.lst xs] => (Fa 0 xs).bind fun i => .ok (.int i)
  |.sum, [.tup xs] => (Fa 0 xs).bind fun i => .ok (.int i)
  |.sorted, [.lst xs] => (N5 xs).bind fun ys => .ok (.lst ys)
  |.count, [.lst xs, x] => if (flD 5 x&&xs.all (flD 5)) = Ac then .ok (.int ((xs.filter fun y => eqD y x).length : Ag)) else .bad
  |.len, [.dic kvs] => .ok (.int kvs.length)
  |.stp, [.lst xs, .int k] => .ok (.lst (QE k.toNat xs))
  |.lset, [.lst xs] => Qd xs
  |.tmin, [x, y] => mmD Ad x y
  |.tmax, [x, y] => mmD Ac x y
  |.tlt, [x, y] => QA x y
  |.rvs, [.lst xs] => .ok (.lst xs.reverse)
  |_, _ => .bad
noncomputable def slE(c : E)(d : D) : R (Ap Ae) := match c with
  |.non => .ok Af
  |_ => (Dp d).bind fun i => .ok (Aa i)
noncomputable def Ge(n d : Ag) : Ap Ae -> Ag
 |none => d
 |some i => if i<0 then (i+n).toNat else min i.toNat n
noncomputable def Hm(xs : Ab D)(lo hi : Ap Ae) : Ab D := (xs.drop (Ge xs.length 0 lo)).take (Ge xs.length xs.length hi-Ge xs.length 0 lo)
noncomputable def slD : D -> Ap Ae -> Ap Ae -> R D
 |.lst xs, l, h => .ok (.lst (Hm xs l h))
 |.tup xs, l, h => if (Ge xs.length 0 l==0&&Ge xs.length xs.length h==xs.length) = Ac then .bad else .ok (.tup (Hm xs l h))
 |_, _, _ => .bad
noncomputable def Qr : D -> Aj -> R D
  |.obj _ fs, f => match fs.lookup f with
    |some d => .ok d
    |none => .bad
  |.exc _ fs, f => match fs.lookup f with
    |some d => .ok d
    |none => .bad
  |_, _ => .bad
noncomputable def DO(ρ : Rho)(i : Ag) : R D := match ρ[i]? with
  |some (Aa (d, Ad)) => .ok d
  |_ => .bad
noncomputable def Eb(ρ : Rho)(i : Ag) : R D := match ρ[i]? with
  |some (Aa (d, _)) => .ok d
  |_ => .bad
noncomputable def shE(ρ : Rho) : E -> An
  | .var i => (match ρ[i]? with
    |some (Aa (_, Ac)) => Ad
    | _ => Ac)
  |_ => Ac
noncomputable def G1(ρ : Rho) : Es -> An
 |.nil => Ac
 |.cons e es => shE ρ e&&G1 ρ es
noncomputable def DI : Ab Ag -> Ab D -> Rho -> Ap Rho
 |[], [], ρ => Aa ρ
 |t::ts, d::ds, ρ => DI ts ds (ρ.set t (Aa (d, Ad)))
 |_, _, _ => Af
noncomputable def E5(ts : Ab Ag)(d : D)(ρ : Rho) : R Rho := match d with
  | .tup xs => (match DI ts xs ρ with
    |some ρ' => .ok ρ'
    | none => .bad)
  |_ => .bad
noncomputable def Gc(ts : Ab Ag)(d : D)(ρ : Rho) : R Rho := match d with
  | .lst xs => (match DI ts xs ρ with
    |some ρ' => .ok ρ'
    | none => .bad)
  |d => E5 ts d ρ
noncomputable def Bh(g : D -> R An)(f : D -> R D) : Ab D -> R (Ab D)
 |[] => .ok []
 |x::xs => (g x).bind fun b => if b = Ac then (f x).bind fun y => (Bh g f xs).bind fun ys => .ok (y::ys) else Bh g f xs
noncomputable def noX{α : Type} : R α -> R α
 |.ok a => .ok a
 |_ => .bad
noncomputable def top(ρ : Rho)(e : E)(r : R D) : R D := match e with
  |.var i => Eb ρ i
  |_ => r
mutual
noncomputable def evE(Γ : Gam)(ρ : Rho) : E -> R D
 |.non => .ok .non
 |.bl b => .ok (.bl b)
 |.int i => .ok (.int i)
 |.str x => .ok (.str x)
 |.var i => DO ρ i
 |.glob g => .ok (Γ.G g)
 |.bin op a b => (top ρ a (evE Γ ρ a)).bind fun x => (top ρ b (evE Γ ρ b)).bind fun y => Cq op x y
 |.un op a => (top ρ a (evE Γ ρ a)).bind fun x => unD op x
 |.no a => (top ρ a (evE Γ ρ a)).bind fun x => (C1 x).bind fun b => .ok (.bl (!b))
 |.and es => evN Γ ρ es
 |.or es => evO Γ ρ es
 |.cmp op a b => (top ρ a (evE Γ ρ a)).bind fun x => (top ρ b (evE Γ ρ b)).bind fun y => BD op x y
 |.cmp2 op op' a b c => (top ρ a (evE Γ ρ a)).bind fun x => (top ρ b (evE Γ ρ b)).bind fun y => (BD op x y).bind fun z => (C1 z).bind fun k => if k = Ac then (top ρ c (evE Γ ρ c)).bind fun u => BD op' y u else .ok (.bl Ad)
 |.ite c a b => (top ρ c (evE Γ ρ c)).bind fun x => (BN x).bind fun k => if k = Ac then evE Γ ρ a else evE Γ ρ b
 |.call f as => (evB Γ ρ as).bind fun xs => (Γ.F f xs).bind fun d => if G1 ρ as = Ac then .ok d else if Ic (Γ.fr f) d = Ac then .ok d else .bad
 |.bi b as => (evB Γ ρ as).bind fun xs => biD b xs
 |.isi a ks => (top ρ a (evE Γ ρ a)).bind fun x => Fp Γ.up ks x
 |.idx a i => (top ρ a (evE Γ ρ a)).bind fun x => (top ρ i (evE Γ ρ i)).bind fun y => Ci x y
 |.sl a lo hi => (top ρ a (evE Γ ρ a)).bind fun x => (top ρ lo (evE Γ ρ lo)).bind fun l => (slE lo l).bind fun l' => (top ρ hi (evE Γ ρ hi)).bind fun h => (slE hi h).bind fun h' => slD x l' h'
 |.tup es => (evA Γ ρ es).bind fun xs => .ok (.tup xs)
 |.lst es => (evA Γ ρ es).bind fun xs => .ok (.lst xs)
 |.comp elt t it c => (evI Γ ρ it).bind fun xs => (noX (Bh (fun x => (top (ρ.set t (Aa (x, Ad))) c (evE Γ (ρ.set t (Aa (x, Ad))) c)).bind BN) (fun x => evE Γ (ρ.set t (Aa (x, Ad))) elt) xs)).bind fun ys => .ok (.lst ys)
 |.compT elt ts it c => (evI Γ ρ it).bind fun xs => (noX (Bh (fun x => (E5 ts x ρ).bind fun ρ' => (top ρ' c (evE Γ ρ' c)).bind BN) (fun x => (E5 ts x ρ).bind fun ρ' => evE Γ ρ' elt) xs)).bind fun ys => .ok (.lst ys)
 |.tupI it => (evI Γ ρ it).bind fun xs => .ok (.tup xs)
 |.dnew => .ok (.dic [])
 |.fld o f => (top ρ o (evE Γ ρ o)).bind fun x => Qr x f
noncomputable def evN(Γ : Gam)(ρ : Rho) : Es -> R D
 |.nil => .bad
 |.cons e .nil => evE Γ ρ e
 |.cons e (.cons e' es) => (evE Γ ρ e).bind fun x => (C1 x).bind fun c => if c = Ac then evN Γ ρ (.cons e' es) else .ok (.bl Ad)
noncomputable def evO(Γ : Gam)(ρ : Rho) : Es -> R D
 |.nil => .bad
 |.cons e .nil => evE Γ ρ e
 |.cons e (.cons e' es) => (evE Γ ρ e).bind fun x => (C1 x).bind fun c => if c = Ac then .ok (.bl Ac) else evO Γ ρ (.cons e' es)
noncomputable def evA(Γ : Gam)(ρ : Rho) : Es -> R (Ab D)
 |.nil => .ok []
 |.cons e es => (evE Γ ρ e).bind fun x => (evA Γ ρ es).bind fun xs => .ok (x::xs)
noncomputable def evB(Γ : Gam)(ρ : Rho) : Es -> R (Ab D)
 |.nil => .ok []
 |.cons e es => (top ρ e (evE Γ ρ e)).bind fun x => (evB Γ ρ es).bind fun xs => .ok (x::xs)
noncomputable def evI(Γ : Gam)(ρ : Rho) : I -> R (Ab D)
 |.e a => (evE Γ ρ a).bind B5
 |.rng a => (top ρ a (evE Γ ρ a)).bind fun x => (Dp x).bind fun j => CK 0 j
 |.rng2 a b => (top ρ a (evE Γ ρ a)).bind fun x => (top ρ b (evE Γ ρ b)).bind fun y => (Dp x).bind fun i => (Dp y).bind fun j => CK i j
 |.zip a b => (evE Γ ρ a).bind fun x => (evE Γ ρ b).bind fun y => (B5 x).bind fun xs => (B5 y).bind fun ys => .ok (CS xs ys)
 |.zip3 a b c => (evE Γ ρ a).bind fun x => (evE Γ ρ b).bind fun y => (evE Γ ρ c).bind fun z => PB x y z
 |.enm a => (evE Γ ρ a).bind fun x => (B5 x).bind fun xs => .ok (Fq 0 xs)
end
noncomputable def DY(Γ : Gam) : E -> An
 |.lst _ => Ac
 |.comp _ _ _ _ => Ac
 |.compT _ _ _ _ => Ac
 |.dnew => Ac
 |.bin .Add _ _ => Ac
 |.bi .list _ => Ac
 |.bi .sorted _ => Ac
 |.sl _ _ _ => Ac
 |.call f _ => Γ.fr f
 |_ => Ad
mutual
inductive S where
 |pass
 /-- x = e;fresh: x alone holds the new list -/
 |asg (i : Ag) (fresh : An) (e : E)
 /-- a, b, .. = e -/
 |asgT (ts : Ab Ag) (e : E)
 |expr (e : E)
 |ret (e : E)|retN
 |ife (c : E) (a b : Ss)
 |fors (t : Ag) (it : I) (body : Ss)
 |forT (ts : Ab Ag) (it : I) (body : Ss)
 |whl (c : E) (body : Ss)
 /-- raise C(e, ..) -/
 |rais (c : Ag) (as : Es)
 /-- try: body except C as x: h -/
 |tryx (body : Ss) (c : Ag) (x : Ag) (h : Ss)
 /-- x.append(e), x.extend(e), x.insert(k, e), x.reverse(), x.clear() -/
 |app (i : Ag) (e : E)|ext (i : Ag) (e : E)|ins (i : Ag) (k e : E)|rev (i : Ag)|clr (i : Ag)
 /-- d[k] = e, d.setdefault(k, e) -/
 |dput (i : Ag) (k e : E)|dsd (i : Ag) (k e : E)
 /-- x[k] = e -/
 |put (i : Ag) (k e : E)
 /-- x[k], x[l] = x[l], x[k] -/
 |swp (i k l : Ag)
 /-- x.append(y.pop(e)) -/
 |apop (j i : Ag) (e : E)
 |brk|cont
 /-- nothing: from here on x is no longer changed -/
 |rel (i : Ag)
inductive Ss where
 |nil|cons (s : S) (ss : Ss)
end
inductive O where
 |next (ρ : Rho)|ret (d : D) (fr : An)|brk (ρ : Rho)|cont (ρ : Rho)|exn (x : Ex) (ρ : Rho)|bad
 deriving Inhabited
noncomputable def O.of{α : Type}(ρ : Rho)(r : R α)(f : α -> O) : O := match r with
  |.ok a => f a
  |.exn x => .exn x ρ
  |.bad => .bad
@[simp]theorem O.of_ok(ρ : Rho)(a : α)(f : α -> O) : O.of ρ (.ok a) f = f a := rfl
@[simp]theorem O.of_exn(ρ : Rho)(x : Ex)(f : α -> O) : O.of ρ (.exn x : R α) f = .exn x ρ := rfl
@[simp]theorem O.of_bad(ρ : Rho)(f : α -> O) : O.of ρ (.bad : R α) f = .bad := rfl
noncomputable def Gg(Γ : Gam)(ρ : Rho)(i : I) : R (Ab D) := evI Γ ρ i
noncomputable def Cp(ρ : Rho)(i : Ag) : R (Ab D) := match ρ[i]? with
  |some (Aa (.lst xs, Ac)) => .ok xs
  |_ => .bad
noncomputable def Qu(ρ : Rho)(i : Ag) : R (Ab (Ab Ae × D)) := match ρ[i]? with
  |some (Aa (.dic xs, Ac)) => .ok xs
  |_ => .bad
noncomputable def Qh(d : D) : R (Ab Ae) := match Ip d with
  |some k => .ok k
  |none => .bad
noncomputable def PV : Ag := 4096
noncomputable def O.seq(o : O)(f : Rho -> O) : O := match o with
  |.next ρ => f ρ
  |.ret d b => .ret d b
  |.brk ρ => .brk ρ
  |.cont ρ => .cont ρ
  |.exn x ρ => .exn x ρ
  |.bad => .bad
noncomputable def O.turn(o : O)(f : Rho -> O) : O := match o with
  |.next ρ => f ρ
  |.cont ρ => f ρ
  |.brk ρ => .next ρ
  |.ret d b => .ret d b
  |.exn x ρ => .exn x ρ
  |.bad => .bad
noncomputable def CT(body : D -> Rho -> O) : Ab D -> Rho -> O
 |[], ρ => .next ρ
 |x::xs, ρ => (body x ρ).turn (CT body xs)
noncomputable def Mt(c : Rho -> R An)(body : Rho -> O) : Ag -> Rho -> O
 |0, _ => .bad
 |n+1, ρ => O.of ρ (c ρ) fun b => if b = Ac then (body ρ).turn (Mt c body n) else .next ρ
noncomputable def FV(ρ : Rho)(k : Ag) : R Ae := (DO ρ k).bind Dp
noncomputable def J7(ρ : Rho)(d : D)(i k l : Ag) : O := match d with
  |.tup [x, y] => O.of ρ (Cp ρ i) fun xs => O.of ρ (FV ρ k) fun a => O.of ρ (FV ρ l) fun b => match plD xs.length a, plD xs.length b with
    |some m, Aa n => .next (ρ.set i (Aa (.lst ((xs.set m x).set n y), Ac)))
    |_, _ => .bad
  |_ => .bad
noncomputable def apD(ρ : Rho)(j i : Ag)(ys xs : Ab D)(n : Ae) : O := match plD xs.length n with
  | some m => (match xs[m]? with
    |some d => if (j != i&&(Cs xs.length&&Cs (ys.length+1))) = Ac then .next ((ρ.set i (Aa (.lst (xs.eraseIdx m), Ac))).set j (Aa (.lst (ys++[d]), Ac))) else .bad
    | none => .bad)
  |none => .bad
mutual
noncomputable def evS(Γ : Gam)(ρ : Rho) : S -> O
  |.pass => .next ρ
  | .asg i fresh e => O.of ρ (evE Γ ρ e) fun d => if fresh = Ac then (if DY Γ e = Ac then (match d with
      |.lst xs => .next (ρ.set i (Aa (.lst xs, Ac)))
      |.dic xs => .next (ρ.set i (Aa (.dic xs, Ac)))
      | _ => .bad) else .bad) else .next (ρ.set i (Aa (d, Ad)))
  |.asgT ts e => O.of ρ (evE Γ ρ e) fun d => O.of ρ (Gc ts d ρ) fun ρ' => .next ρ'
  |.expr e => O.of ρ (evE Γ ρ e) fun _ => .next ρ
  |.ret e => O.of ρ (top ρ e (evE Γ ρ e)) fun d => .ret d (DY Γ e||(match e with | .var i => (match ρ[i]? with|some (Aa (_, o)) => o|_ => Ad)|_ => Ad))
  |.retN => .ret .non Ad
  |.ife c a b => O.of ρ ((top ρ c (evE Γ ρ c)).bind BN) fun k => if k = Ac then evSs Γ ρ a else evSs Γ ρ b
  |.fors t it body => O.of ρ (Gg Γ ρ it) fun xs => CT (fun x ρ' => evSs Γ (ρ'.set t (Aa (x, Ad))) body) xs ρ
  |.forT ts it body => O.of ρ (Gg Γ ρ it) fun xs => CT (fun x ρ' => O.of ρ' (E5 ts x ρ') fun ρ'' => evSs Γ ρ'' body) xs ρ
  |.whl c body => Mt (fun ρ' => (top ρ' c (evE Γ ρ' c)).bind BN) (fun ρ' => evSs Γ ρ' body) PV ρ
  |.rais c as => O.of ρ (noX (evA Γ ρ as)) fun xs => O.of ρ (Γ.xn c xs) fun x => .exn x ρ
  |.tryx body c x h => match evSs Γ ρ body with
      | .exn y ρ' => if (Γ.up y.c).contains c = Ac then (match evSs Γ (ρ'.set x (Aa (.exc y.c y.fs, Ad))) h with
          |.next ρ'' => .next (ρ''.set x Af)
          |.ret d f => .ret d f
          | _ => .bad) else .bad
      |o => o
  |.app i e => O.of ρ (Cp ρ i) fun xs => O.of ρ (evE Γ ρ e) fun d => if Cs (xs.length+1) = Ac then .next (ρ.set i (Aa (.lst (xs++[d]), Ac))) else .bad
  |.ext i e => O.of ρ (Cp ρ i) fun xs => O.of ρ (evE Γ ρ e) fun d => O.of ρ (Mo d) fun ys => if Cs (xs.length+ys.length) = Ac then .next (ρ.set i (Aa (.lst (xs++ys), Ac))) else .bad
  |.ins i k e => O.of ρ (Cp ρ i) fun xs => O.of ρ ((top ρ k (evE Γ ρ k)).bind Dp) fun j => O.of ρ (evE Γ ρ e) fun d => if (Cs (xs.length+1)&&decide (0 <= j)&&decide (j <= xs.length)) = Ac then .next (ρ.set i (Aa (.lst (xs.take j.toNat++d::xs.drop j.toNat), Ac))) else .bad
  |.rev i => O.of ρ (Cp ρ i) fun xs => .next (ρ.set i (Aa (.lst xs.reverse, Ac)))
  |.clr i => O.of ρ (Cp ρ i) fun _ => .next (ρ.set i (Aa (.lst [], Ac)))
  |.dput i k e => O.of ρ (evE Γ ρ e) fun d => O.of ρ (Qu ρ i) fun xs => O.of ρ ((evE Γ ρ k).bind Qh) fun j => if Cs (xs.length+1) = Ac then .next (ρ.set i (Aa (.dic (Pj xs j d), Ac))) else .bad
  |.dsd i k e => O.of ρ (Qu ρ i) fun xs => O.of ρ ((evE Γ ρ k).bind Qh) fun j => O.of ρ (evE Γ ρ e) fun d => if Cs (xs.length+1) = Ac then .next (ρ.set i (Aa (.dic (if (xs.any fun p => p.1==j) = Ac then xs else Pj xs j d), Ac))) else .bad
  |.put i k e => O.of ρ (evE Γ ρ e) fun d => O.of ρ (Cp ρ i) fun xs => O.of ρ ((top ρ k (evE Γ ρ k)).bind Dp) fun j => match plD xs.length j with
      |some n => .next (ρ.set i (Aa (.lst (xs.set n d), Ac)))
      |none => .bad
  |.swp i k l => O.of ρ (evE Γ ρ (.tup (.cons (.idx (.var i) (.var l)) (.cons (.idx (.var i) (.var k)) .nil)))) fun d => J7 ρ d i k l
  |.apop j i e => O.of ρ (Cp ρ j) fun ys => O.of ρ (Cp ρ i) fun xs => O.of ρ (evE Γ ρ e) fun d => O.of ρ (Dp d) fun n => apD ρ j i ys xs n
  |.brk => .brk ρ
  |.cont => .cont ρ
  |.rel i => match ρ[i]? with
      |some (Aa (d, Ac)) => .next (ρ.set i (Aa (d, Ad)))
      |_ => .next ρ
noncomputable def evSs(Γ : Gam)(ρ : Rho) : Ss -> O
 |.nil => .next ρ
 |.cons s ss => (evS Γ ρ s).seq fun ρ' => evSs Γ ρ' ss
end
structure Df where
 n : Ag
 fr : An
 body : Ss
noncomputable def Bt(n : Ag)(ds : Ab D) : Rho := ds.map (fun d => Aa (d, Ad))++Rw (n-ds.length) Af
noncomputable def isL : D -> An
 |.lst _ => Ac
 |.dic _ => Ac
 |_ => Ad
noncomputable def O.ans(fr : An)(o : O) : R D := match o with
  |.ret d b => if (fr&&(!b&&isL d)) = Ac then .bad else .ok d
  |.next _ => if fr = Ac then .bad else .ok .non
  |.exn x _ => .exn x
  |_ => .bad
noncomputable def Df.run(Γ : Gam)(f : Df)(ds : Ab D) : R D := (evSs Γ (Bt f.n ds) f.body).ans f.fr
structure Prg where
 xs : An
 defs : Ag -> Df
 G : Ag -> D
 up : Ag -> Ab Ag
 xn : Ag -> Ab D -> R Ex
noncomputable def Ey(xs : An)(r : R D) : R D := match xs with
  | true => (match r with
    |.exn x => if x.fs.isEmpty = Ac then .exn x else .bad
    | r => r)
  |false => noX r
noncomputable def gam(P : Prg) : Ag -> Gam
 |0 => ⟨fun _ _ => .bad, P.G, P.up, fun i => (P.defs i).fr, P.xn⟩
 |n+1 => ⟨fun i ds => Ey P.xs ((P.defs i).run (gam P n) ds), P.G, P.up, fun i => (P.defs i).fr, P.xn⟩
end Ov
end
section
namespace Ov
open PySem
variable{α β:Type}
section
variable(Γ : Gam)(ρ : Rho)
@[simp]theorem Zui : evE Γ ρ .non = .ok .non := rfl
@[simp]theorem Zv8(b) : evE Γ ρ (.bl b) = .ok (.bl b) := rfl
@[simp]theorem Zum(b) : evE Γ ρ (.int b) = .ok (.int b) := rfl
@[simp]theorem Zuh(b) : evE Γ ρ (.str b) = .ok (.str b) := rfl
@[simp]theorem Zuf(i) : evE Γ ρ (.var i) = DO ρ i := rfl
@[simp]theorem ZqZ(i) : evE Γ ρ (.glob i) = .ok (Γ.G i) := rfl
@[simp]theorem Zuq(op a b) : evE Γ ρ (.bin op a b) = (top ρ a (evE Γ ρ a)).bind fun x => (top ρ b (evE Γ ρ b)).bind fun y => Cq op x y := rfl
@[simp]theorem Zv4(op a) : evE Γ ρ (.un op a) = (top ρ a (evE Γ ρ a)).bind fun x => unD op x := rfl
@[simp]theorem Zv7(a) : evE Γ ρ (.no a) = (top ρ a (evE Γ ρ a)).bind fun x => (C1 x).bind fun b => .ok (.bl (!b)) := rfl
@[simp]theorem Zur(es) : evE Γ ρ (.and es) = evN Γ ρ es := rfl
@[simp]theorem Zv6(es) : evE Γ ρ (.or es) = evO Γ ρ es := rfl
@[simp]theorem Zub(e) : evN Γ ρ (.cons e .nil) = evE Γ ρ e := rfl
@[simp]theorem ZqU(e e' es) : evN Γ ρ (.cons e (.cons e' es)) = (evE Γ ρ e).bind fun x => (C1 x).bind fun c => if c = Ac then evN Γ ρ (.cons e' es) else .ok (.bl Ad) := rfl
@[simp]theorem Zua(e) : evO Γ ρ (.cons e .nil) = evE Γ ρ e := rfl
@[simp]theorem ZqT(e e' es) : evO Γ ρ (.cons e (.cons e' es)) = (evE Γ ρ e).bind fun x => (C1 x).bind fun c => if c = Ac then .ok (.bl Ac) else evO Γ ρ (.cons e' es) := rfl
@[simp]theorem Zup(op a b) : evE Γ ρ (.cmp op a b) = (top ρ a (evE Γ ρ a)).bind fun x => (top ρ b (evE Γ ρ b)).bind fun y => BD op x y := rfl
@[simp]theorem Zq2(op op' a b c) : evE Γ ρ (.cmp2 op op' a b c) = (top ρ a (evE Γ ρ a)).bind fun x => (top ρ b (evE Γ ρ b)).bind fun y => (BD op x y).bind fun z => (C1 z).bind fun k => if k = Ac then (top ρ c (evE Γ ρ c)).bind fun u => BD op' y u else .ok (.bl Ad) := rfl
@[simp]theorem Zuk(c a b) : evE Γ ρ (.ite c a b) = (top ρ c (evE Γ ρ c)).bind fun x => (BN x).bind fun k => if k = Ac then evE Γ ρ a else evE Γ ρ b := rfl
@[simp]theorem Zq3(f as) : evE Γ ρ (.call f as) = (evB Γ ρ as).bind fun xs => (Γ.F f xs).bind fun d => if G1 ρ as = Ac then .ok d else if Ic (Γ.fr f) d = Ac then .ok d else .bad := rfl
@[simp]theorem LW(f as) : evE Γ ρ (.bi f as) = (evB Γ ρ as).bind fun xs => biD f xs := rfl
@[simp]theorem Zul(a ks) : evE Γ ρ (.isi a ks) = (top ρ a (evE Γ ρ a)).bind fun x => Fp Γ.up ks x := rfl
@[simp]theorem Zun(a i) : evE Γ ρ (.idx a i) = (top ρ a (evE Γ ρ a)).bind fun x => (top ρ i (evE Γ ρ i)).bind fun y => Ci x y := rfl
@[simp]theorem Zv5(a lo hi) : evE Γ ρ (.sl a lo hi) = (top ρ a (evE Γ ρ a)).bind fun x => (top ρ lo (evE Γ ρ lo)).bind fun l => (slE lo l).bind fun l' => (top ρ hi (evE Γ ρ hi)).bind fun h => (slE hi h).bind fun h' => slD x l' h' := rfl
@[simp]theorem Zug(es) : evE Γ ρ (.tup es) = (evA Γ ρ es).bind fun xs => .ok (.tup xs) := rfl
@[simp]theorem Zuj(es) : evE Γ ρ (.lst es) = (evA Γ ρ es).bind fun xs => .ok (.lst xs) := rfl
noncomputable def cG(Γ : Gam)(ρ : Rho)(t : Ag)(c : E) : D -> R An := fun x => (top (ρ.set t (Aa (x, Ad))) c (evE Γ (ρ.set t (Aa (x, Ad))) c)).bind BN
noncomputable def cF(Γ : Gam)(ρ : Rho)(t : Ag)(elt : E) : D -> R D := fun x => evE Γ (ρ.set t (Aa (x, Ad))) elt
noncomputable def mkL(r : R (Ab D)) : R D := (noX r).bind fun ys => .ok (.lst ys)
@[simp]theorem ZvG(ys) : mkL (.ok ys) = .ok (.lst ys) := rfl
@[simp]theorem Zq1(elt t it c) : evE Γ ρ (.comp elt t it c) = (evI Γ ρ it).bind fun xs => mkL (Bh (cG Γ ρ t c) (cF Γ ρ t elt) xs) := rfl
noncomputable def cGT(Γ : Gam)(ρ : Rho)(ts : Ab Ag)(c : E) : D -> R An := fun x => (E5 ts x ρ).bind fun ρ' => (top ρ' c (evE Γ ρ' c)).bind BN
noncomputable def cFT(Γ : Gam)(ρ : Rho)(ts : Ab Ag)(elt : E) : D -> R D := fun x => (E5 ts x ρ).bind fun ρ' => evE Γ ρ' elt
@[simp]theorem Zo5(elt ts it c) : evE Γ ρ (.compT elt ts it c) = (evI Γ ρ it).bind fun xs => mkL (Bh (cGT Γ ρ ts c) (cFT Γ ρ ts elt) xs) := rfl
@[simp]theorem U2(it) : evE Γ ρ (.tupI it) = (evI Γ ρ it).bind fun xs => .ok (.tup xs) := rfl
@[simp]theorem Zq0 : evE Γ ρ .dnew = .ok (.dic []) := rfl
@[simp]theorem Zuo(o f) : evE Γ ρ (.fld o f) = (top ρ o (evE Γ ρ o)).bind fun x => Qr x f := rfl
@[simp]theorem Zut : evA Γ ρ .nil = .ok [] := rfl
@[simp]theorem Oe(e es) : evA Γ ρ (.cons e es) = (evE Γ ρ e).bind fun x => (evA Γ ρ es).bind fun xs => .ok (x::xs) := rfl
@[simp]theorem Zus : evB Γ ρ .nil = .ok [] := rfl
@[simp]theorem Od(e es) : evB Γ ρ (.cons e es) = (top ρ e (evE Γ ρ e)).bind fun x => (evB Γ ρ es).bind fun xs => .ok (x::xs) := rfl
@[simp]theorem Zw4(a) : evI Γ ρ (.e a) = (evE Γ ρ a).bind B5 := rfl
@[simp]theorem Zud(a) : evI Γ ρ (.rng a) = (top ρ a (evE Γ ρ a)).bind fun x => (Dp x).bind fun j => CK 0 j := rfl
@[simp]theorem U1(a b) : evI Γ ρ (.rng2 a b) = (top ρ a (evE Γ ρ a)).bind fun x => (top ρ b (evE Γ ρ b)).bind fun y => (Dp x).bind fun i => (Dp y).bind fun j => CK i j := rfl
@[simp]theorem Zuc(a b) : evI Γ ρ (.zip a b) = (evE Γ ρ a).bind fun x => (evE Γ ρ b).bind fun y => (B5 x).bind fun xs => (B5 y).bind fun ys => .ok (CS xs ys) := rfl
@[simp]theorem ZqY(a b c) : evI Γ ρ (.zip3 a b c) = (evE Γ ρ a).bind fun x => (evE Γ ρ b).bind fun y => (evE Γ ρ c).bind fun z => PB x y z := rfl
@[simp]theorem Zue(a) : evI Γ ρ (.enm a) = (evE Γ ρ a).bind fun x => (B5 x).bind fun xs => .ok (Fq 0 xs) := rfl
@[simp]theorem ZqV(a b) : Gg Γ ρ (.zip a b) = evI Γ ρ (.zip a b) := rfl
@[simp]theorem Zo3(a b c) : Gg Γ ρ (.zip3 a b c) = evI Γ ρ (.zip3 a b c) := rfl
@[simp]theorem ZqX(a) : Gg Γ ρ (.enm a) = evI Γ ρ (.enm a) := rfl
@[simp]theorem Zv3(a) : Gg Γ ρ (.e a) = (evE Γ ρ a).bind B5 := rfl
@[simp]theorem ZqW(a) : Gg Γ ρ (.rng a) = evI Γ ρ (.rng a) := rfl
@[simp]theorem Zo4(a b) : Gg Γ ρ (.rng2 a b) = evI Γ ρ (.rng2 a b) := rfl
variable(r : R D)
@[simp]theorem Zrn(i) : top ρ (.var i) r = Eb ρ i := rfl
@[simp]theorem Zrq : top ρ .non r = r := rfl
@[simp]theorem Zvc(b) : top ρ (.bl b) r = r := rfl
@[simp]theorem Zru(b) : top ρ (.int b) r = r := rfl
@[simp]theorem Zrp(b) : top ρ (.str b) r = r := rfl
@[simp]theorem Zqd(b) : top ρ (.glob b) r = r := rfl
@[simp]theorem Zry(op a b) : top ρ (.bin op a b) r = r := rfl
@[simp]theorem Zu8(op a) : top ρ (.un op a) r = r := rfl
@[simp]theorem Zvb(a) : top ρ (.no a) r = r := rfl
@[simp]theorem Zrz(a) : top ρ (.and a) r = r := rfl
@[simp]theorem Zva(a) : top ρ (.or a) r = r := rfl
@[simp]theorem Zrx(op a b) : top ρ (.cmp op a b) r = r := rfl
@[simp]theorem Zqg(op op' a b c) : top ρ (.cmp2 op op' a b c) r = r := rfl
@[simp]theorem Zrs(a b c) : top ρ (.ite a b c) r = r := rfl
@[simp]theorem Zqh(a b) : top ρ (.call a b) r = r := rfl
@[simp]theorem Zvd(a b) : top ρ (.bi a b) r = r := rfl
@[simp]theorem Zrt(a b) : top ρ (.isi a b) r = r := rfl
@[simp]theorem Zrv(a b) : top ρ (.idx a b) r = r := rfl
@[simp]theorem Zu9(a b c) : top ρ (.sl a b c) r = r := rfl
@[simp]theorem Zro(a) : top ρ (.tup a) r = r := rfl
@[simp]theorem Zrr(a) : top ρ (.lst a) r = r := rfl
@[simp]theorem Zqf(a b c d) : top ρ (.comp a b c d) r = r := rfl
@[simp]theorem Zrw(a b) : top ρ (.fld a b) r = r := rfl
@[simp]theorem ZmR(a b c d) : top ρ (.compT a b c d) r = r := rfl
@[simp]theorem Ur(a) : top ρ (.tupI a) r = r := rfl
@[simp]theorem Zqe : top ρ .dnew r = r := rfl
end
@[simp]theorem ZmG(x : D × An)(ρ : Rho) : Eb (Aa x::ρ) 0 = .ok x.1 := rfl
@[simp]theorem ZmH(x : D)(ρ : Rho) : DO (Aa (x, Ad)::ρ) 0 = .ok x := rfl
@[simp]theorem Zmh(x : Sl)(ρ : Rho)(i : Ag)[NeZero i] : Eb (x::ρ) i = Eb ρ (i-1) := by
 obtain⟨j, rfl⟩ : ∃ j, i = j+1 := ⟨i-1, by have := Ir i;omega⟩
 rfl
@[simp]theorem Zmi(x : Sl)(ρ : Rho)(i : Ag)[NeZero i] : DO (x::ρ) i = DO ρ (i-1) := by
 obtain⟨j, rfl⟩ : ∃ j, i = j+1 := ⟨i-1, by have := Ir i;omega⟩
 rfl
noncomputable def shV(ρ : Rho)(i : Ag) : An := match ρ[i]? with
    |some (Aa (_, Ac)) => Ad
    |_ => Ac
@[simp]theorem Zql(x : D)(b : An)(ρ : Rho) : shV (Aa (x, b)::ρ) 0 = !b := by cases b <;> rfl
@[simp]theorem Zne(ρ : Rho) : shV (Af::ρ) 0 = Ac := rfl
@[simp]theorem Znf(x : Sl)(ρ : Rho)(i : Ag)[NeZero i] : shV (x::ρ) i = shV ρ (i-1) := by
 obtain⟨j, rfl⟩ : ∃ j, i = j+1 := ⟨i-1, by have := Ir i;omega⟩
 rfl
section
variable(ρ : Rho)
@[simp]theorem ZrZ(i) : shE ρ (.var i) = shV ρ i := rfl
@[simp]theorem Zr2 : shE ρ .non = Ac := rfl
@[simp]theorem Zvs(b) : shE ρ (.bl b) = Ac := rfl
@[simp]theorem Zr6(b) : shE ρ (.int b) = Ac := rfl
@[simp]theorem Zr1(b) : shE ρ (.str b) = Ac := rfl
@[simp]theorem Zqo(b) : shE ρ (.glob b) = Ac := rfl
@[simp]theorem Zsa(op a b) : shE ρ (.bin op a b) = Ac := rfl
@[simp]theorem Zvo(op a) : shE ρ (.un op a) = Ac := rfl
@[simp]theorem Zvr(a) : shE ρ (.no a) = Ac := rfl
@[simp]theorem Zsb(a) : shE ρ (.and a) = Ac := rfl
@[simp]theorem Zvq(a) : shE ρ (.or a) = Ac := rfl
@[simp]theorem Zr9(op a b) : shE ρ (.cmp op a b) = Ac := rfl
@[simp]theorem Zqr(op op' a b c) : shE ρ (.cmp2 op op' a b c) = Ac := rfl
@[simp]theorem Zr4(a b c) : shE ρ (.ite a b c) = Ac := rfl
@[simp]theorem Zqs(a b) : shE ρ (.call a b) = Ac := rfl
@[simp]theorem Zvt(a b) : shE ρ (.bi a b) = Ac := rfl
@[simp]theorem Zr5(a b) : shE ρ (.isi a b) = Ac := rfl
@[simp]theorem Zr7(a b) : shE ρ (.idx a b) = Ac := rfl
@[simp]theorem Zvp(a b c) : shE ρ (.sl a b c) = Ac := rfl
@[simp]theorem Zr0(a) : shE ρ (.tup a) = Ac := rfl
@[simp]theorem Zr3(a) : shE ρ (.lst a) = Ac := rfl
@[simp]theorem Zqq(a b c d) : shE ρ (.comp a b c d) = Ac := rfl
@[simp]theorem Zng(a b c d) : shE ρ (.compT a b c d) = Ac := rfl
@[simp]theorem Zqn(a) : shE ρ (.tupI a) = Ac := rfl
@[simp]theorem Zqp : shE ρ .dnew = Ac := rfl
@[simp]theorem Zr8(a b) : shE ρ (.fld a b) = Ac := rfl
@[simp]theorem Zqm : G1 ρ .nil = Ac := rfl
@[simp]theorem Th(e es) : G1 ρ (.cons e es) = (shE ρ e&&G1 ρ es) := rfl
end
@[simp]theorem Zmo(ρ : Rho) : DI [] [] ρ = Aa ρ := rfl
@[simp]theorem Zkz(t ts d ds)(ρ : Rho) : DI (t::ts) (d::ds) ρ = DI ts ds (ρ.set t (Aa (d, Ad))) := rfl
@[simp]theorem UM(ts ds)(ρ : Rho) : Gc ts (.lst ds) ρ = match DI ts ds ρ with
  |some ρ' => .ok ρ'
  |none => .bad := rfl
@[simp]theorem ZpD(ts ds)(ρ : Rho) : Gc ts (.tup ds) ρ = E5 ts (.tup ds) ρ := rfl
@[simp]theorem NB(ts ds)(ρ : Rho) : E5 ts (.tup ds) ρ = match DI ts ds ρ with
  |some ρ' => .ok ρ'
  |none => .bad := rfl
@[simp]theorem Zrb(c : Prop)[Ez c](a b : R α)(f : α -> R β) : (if c then a else b).bind f = if c then a.bind f else b.bind f := by split <;> rfl
@[simp]theorem ZvE(ρ : Rho)(c : Prop)[Ez c](a b : R α)(f : α -> O) : O.of ρ (if c then a else b) f = if c then O.of ρ a f else O.of ρ b f := by split <;> rfl
@[simp]theorem Ztk(ρ : Rho)(a : R α)(g : α -> R β)(f : β -> O) : O.of ρ (a.bind g) f = O.of ρ a fun x => O.of ρ (g x) f := by cases a <;> rfl
@[simp]theorem Zsd(c : Prop)[Ez c](a b : O)(f : Rho -> O) : O.seq (if c then a else b) f = if c then a.seq f else b.seq f := by split <;> rfl
@[simp]theorem Zp3(c : Prop)[Ez c](a b : O)(f : Rho -> O) : O.turn (if c then a else b) f = if c then a.turn f else b.turn f := by split <;> rfl
@[simp]theorem ZuQ(fr : An)(c : Prop)[Ez c](a b : O) : O.ans fr (if c then a else b) = if c then a.ans fr else b.ans fr := by split <;> rfl
@[simp]theorem Zqt(ρ f) : O.seq (.next ρ) f = f ρ := rfl
@[simp]theorem Zsc(d b f) : O.seq (.ret d b) f = .ret d b := rfl
@[simp]theorem Zsf(ρ f) : O.seq (.brk ρ) f = .brk ρ := rfl
@[simp]theorem Zqu(ρ f) : O.seq (.cont ρ) f = .cont ρ := rfl
@[simp]theorem Zse(x ρ f) : O.seq (.exn x ρ) f = .exn x ρ := rfl
@[simp]theorem Zsg(f) : O.seq .bad f = .bad := rfl
@[simp]theorem ZmN(ρ f) : O.turn (.next ρ) f = f ρ := rfl
@[simp]theorem Zp2(d b f) : O.turn (.ret d b) f = .ret d b := rfl
@[simp]theorem Zp5(ρ f) : O.turn (.brk ρ) f = .next ρ := rfl
@[simp]theorem ZmO(ρ f) : O.turn (.cont ρ) f = f ρ := rfl
@[simp]theorem Zp4(x ρ f) : O.turn (.exn x ρ) f = .exn x ρ := rfl
@[simp]theorem Zp6(f) : O.turn .bad f = .bad := rfl
@[simp]theorem Zrd(ρ) : O.ans Ad (.next ρ) = .ok .non := rfl
@[simp]theorem ZuP(d b) : O.ans Ad (.ret d b) = .ok d := rfl
@[simp]theorem Zrc(d b) : O.ans Ac (.ret d b) = if (!b&&isL d) = Ac then .bad else .ok d := rfl
@[simp]theorem ZtJ(d) : isL (.lst d) = Ac := rfl
@[simp]theorem ZtI(d) : isL (.tup d) = Ad := rfl
@[simp]theorem ZtK(d) : isL (.int d) = Ad := rfl
@[simp]theorem ZuR(fr x ρ) : O.ans fr (.exn x ρ) = .exn x := rfl
@[simp]theorem ZuS(fr) : O.ans fr .bad = .bad := rfl
@[simp]theorem Zwi(i j : Ae) : Cq .Add (.int i) (.int j) = .ok (.int (i+j)) := rfl
@[simp]theorem Zvj(i j : Ae) : Cq .Sub (.int i) (.int j) = .ok (.int (i-j)) := rfl
@[simp]theorem YY(i j : Ae) : Cq .Mult (.int i) (.int j) = if (C9 i j||DX i j) = Ac then .ok (.int (i*j)) else .bad := rfl
@[simp]theorem Wj(i j : Ae) : Cq .FloorDiv (.int i) (.int j) = if 0<j /\ j<1073741824 then .ok (.int (i / j)) else .bad := rfl
@[simp]theorem YZ(i j : Ae) : Cq .Mod (.int i) (.int j) = if 0<j then .ok (.int (i%j)) else .bad := rfl
@[simp]theorem Xn(i j : Ae) : Cq .Pow (.int i) (.int j) = if (0 <= j /\ j <= 1000000) /\ (-(18446744073709551616 : Ae)<i /\ i<18446744073709551616) then .ok (.int (i ^ j.toNat)) else .bad := rfl
@[simp]theorem Y5(x y : Aj) : Cq .Add (.str x) (.str y) = if Cs (x.length+y.length) = Ac then .ok (.str (x++y)) else .bad := rfl
@[simp]theorem Mc(x y : Ab D) : Cq .Add (.lst x) (.lst y) = if Cs (x.length+y.length) = Ac then .ok (.lst (x++y)) else .bad := rfl
@[simp]theorem Y4(x y : Ab D) : Cq .Add (.tup x) (.tup y) = if (!x.isEmpty&&Cs (x.length+y.length)) = Ac then .ok (.tup (x++y)) else .bad := rfl
@[simp]theorem ZwN(i : Ae) : unD .USub (.int i) = .ok (.int (-i)) := rfl
@[simp]theorem dQ(x y : D) : BD .Eq x y = if (flD 5 x&&flD 5 y) = Ac then .ok (.bl (eqD x y)) else .bad := rfl
@[simp]theorem cS(x y : D) : BD .NotEq x y = if (flD 5 x&&flD 5 y) = Ac then .ok (.bl (!eqD x y)) else .bad := rfl
@[simp]theorem ZwO(i j : Ae) : BD .Lt (.int i) (.int j) = .ok (.bl (decide (i<j))) := rfl
@[simp]theorem ZwR(i j : Ae) : BD .LtE (.int i) (.int j) = .ok (.bl (decide (i <= j))) := rfl
@[simp]theorem Zw1(i j : Ae) : BD .Gt (.int i) (.int j) = .ok (.bl (decide (j<i))) := rfl
@[simp]theorem Zw2(i j : Ae) : BD .GtE (.int i) (.int j) = .ok (.bl (decide (j <= i))) := rfl
@[simp]theorem eN(x : D)(ys : Ab D) : BD .In x (.lst ys) = if (flD 5 x&&ys.all (flD 5)) = Ac then .ok (.bl (ys.any fun y => eqD y x)) else .bad := rfl
@[simp]theorem eK(x : D)(ys : Ab D) : BD .In x (.tup ys) = if (flD 5 x&&ys.all (flD 5)) = Ac then .ok (.bl (ys.any fun y => eqD y x)) else .bad := rfl
@[simp]theorem cQ(x : D)(ys : Ab D) : BD .NotIn x (.lst ys) = if (flD 5 x&&ys.all (flD 5)) = Ac then .ok (.bl (!ys.any fun y => eqD y x)) else .bad := rfl
@[simp]theorem cP(x : D)(ys : Ab D) : BD .NotIn x (.tup ys) = if (flD 5 x&&ys.all (flD 5)) = Ac then .ok (.bl (!ys.any fun y => eqD y x)) else .bad := rfl
@[simp]theorem ZvQ : BD .Is .non .non = .ok (.bl Ac) := rfl
@[simp]theorem ZvS(i) : BD .Is (.int i) .non = .ok (.bl Ad) := rfl
@[simp]theorem ZvP(i) : BD .Is (.tup i) .non = .ok (.bl Ad) := rfl
@[simp]theorem ZvR(i) : BD .Is (.lst i) .non = .ok (.bl Ad) := rfl
@[simp]theorem ZwU(a b) : BD .Is (.bl a) (.bl b) = .ok (.bl (a==b)) := rfl
@[simp]theorem ZvN(a b) : BD .IsNot (.bl a) (.bl b) = .ok (.bl (!(a==b))) := rfl
@[simp]theorem Zty : BD .IsNot .non .non = .ok (.bl Ad) := rfl
@[simp]theorem ZtA(i) : BD .IsNot (.int i) .non = .ok (.bl Ac) := rfl
@[simp]theorem Ztx(i) : BD .IsNot (.tup i) .non = .ok (.bl Ac) := rfl
@[simp]theorem Ztz(i) : BD .IsNot (.lst i) .non = .ok (.bl Ac) := rfl
@[simp]theorem Zuz(i j : Ae) : eqD (.int i) (.int j) = (i==j) := rfl
@[simp]theorem Zv9(i j : An) : eqD (.bl i) (.bl j) = (i==j) := rfl
@[simp]theorem Zuw(i j : Aj) : eqD (.str i) (.str j) = (i==j) := rfl
@[simp]theorem Zuv(i j : Ab D) : eqD (.tup i) (.tup j) = eqDs i j := rfl
@[simp]theorem Zuy(i j : Ab D) : eqD (.lst i) (.lst j) = eqDs i j := rfl
@[simp]theorem Zux : eqD .non .non = Ac := rfl
@[simp]theorem ZlF(i) : eqD .non (.int i) = Ad := rfl
@[simp]theorem ZlG(i) : eqD (.int i) .non = Ad := rfl
@[simp]theorem Zq4 : eqDs [] [] = Ac := rfl
@[simp]theorem KU(x y : D)(xs ys : Ab D) : eqDs (x::xs) (y::ys) = (eqD x y&&eqDs xs ys) := rfl
@[simp]theorem Zt0(n)(i : Ae) : flD n (.int i) = Ac := by cases n <;> rfl
@[simp]theorem Zv2(n)(i : An) : flD n (.bl i) = Ac := by cases n <;> rfl
@[simp]theorem ZtY(n)(i : Aj) : flD n (.str i) = Ac := by cases n <;> rfl
@[simp]theorem ZtZ(n) : flD n .non = Ac := by cases n <;> rfl
@[simp]theorem Zqz(i) : flD 5 (.tup i) = i.all (flD 4) := rfl
@[simp]theorem ZqE(i) : flD 5 (.lst i) = i.all (flD 4) := rfl
@[simp]theorem ZqA(i) : flD 4 (.tup i) = i.all (flD 3) := rfl
@[simp]theorem ZqF(i) : flD 4 (.lst i) = i.all (flD 3) := rfl
@[simp]theorem ZqB(i) : flD 3 (.tup i) = i.all (flD 2) := rfl
@[simp]theorem ZqG(i) : flD 3 (.lst i) = i.all (flD 2) := rfl
@[simp]theorem ZqC(i) : flD 2 (.tup i) = i.all (flD 1) := rfl
@[simp]theorem ZqH(i) : flD 2 (.lst i) = i.all (flD 1) := rfl
@[simp]theorem ZqD(i) : flD 1 (.tup i) = i.all (flD 0) := rfl
@[simp]theorem ZqI(i) : flD 1 (.lst i) = i.all (flD 0) := rfl
@[simp]theorem Zrl(b) : BN (.bl b) = .ok b := rfl
@[simp]theorem Zqa(i) : BN (.int i) = .ok (i != 0) := rfl
@[simp]theorem Zp9(i) : BN (.lst i) = .ok (!i.isEmpty) := rfl
@[simp]theorem Zp7(i) : BN (.tup i) = .ok (!i.isEmpty) := rfl
@[simp]theorem Zp8 : BN .non = .ok Ad := rfl
@[simp]theorem Zrm(b) : Dq (.bl b) = .ok b := rfl
@[simp]theorem Zqc(i) : Dq (.int i) = .ok (i != 0) := rfl
@[simp]theorem Zqb : Dq .non = .ok Ad := rfl
@[simp]theorem ZpP : ER [] = .ok Ac := rfl
@[simp]theorem NE(x r) : ER (x::r) = (Dq x).bind fun b => (ER r).bind fun c => .ok (b&&c) := rfl
@[simp]theorem ZpO : Ef [] = .ok Ad := rfl
@[simp]theorem ND(x r) : Ef (x::r) = (Dq x).bind fun b => (Ef r).bind fun c => .ok (b||c) := rfl
@[simp]theorem ZuH(b)(d) : Ey b (.ok d) = .ok d := by cases b <;> rfl
@[simp]theorem Zq6(b) : Ey b .bad = .bad := by cases b <;> rfl
@[simp]theorem Zq5(c) : Ey Ac (.exn ⟨c, []⟩) = .exn ⟨c, []⟩ := rfl
@[simp]theorem Zmy(r) : Ey Ad r = noX r := rfl
@[simp]theorem Ztl(a : α) : noX (.ok a) = .ok a := rfl
@[simp]theorem Ztn : noX (.bad : R α) = .bad := rfl
@[simp]theorem Ztm(x) : noX (.exn x : R α) = .bad := rfl
@[simp]theorem ZuN(b) : C1 (.bl b) = .ok b := rfl
@[simp]theorem UN(b) : Dp (.int b) = .ok b := rfl
@[simp]theorem ZpI(b) : Mo (.lst b) = .ok b := rfl
@[simp]theorem ZpG(b) : B5 (.lst b) = .ok b := rfl
@[simp]theorem ZpF(b) : B5 (.tup b) = .ok b := rfl
@[simp]theorem bQ(xs i) : Ci (.lst xs) (.int i) = Dm xs i := rfl
@[simp]theorem bP(xs i) : Ci (.tup xs) (.int i) = Dm xs i := rfl
@[simp]theorem ZwQ(xs) : biD .len [.lst xs] = .ok (.int xs.length) := rfl
@[simp]theorem ZwP(xs) : biD .len [.tup xs] = .ok (.int xs.length) := rfl
@[simp]theorem Zxb(i) : biD .abs [.int i] = .ok (.int (if i<0 then -i else i)) := rfl
@[simp]theorem ZvI(i j) : biD .max [.int i, .int j] = .ok (.int (if i<j then j else i)) := rfl
@[simp]theorem ZvH(i j) : biD .min [.int i, .int j] = .ok (.int (if j<i then j else i)) := rfl
@[simp]theorem ZwV(i) : biD .int [.int i] = .ok (.int i) := rfl
@[simp]theorem ZwW(i) : biD .int [.bl i] = .ok (.int (b2i i)) := rfl
@[simp]theorem ZvM(i) : biD .list [.lst i] = .ok (.lst i) := rfl
@[simp]theorem Ys(i) : biD .list [.tup i] = .ok (.lst i) := rfl
@[simp]theorem Zrk(i) : biD .tuple [.lst i] = .ok (.tup i) := rfl
@[simp]theorem Zrj(i) : biD .tuple [.tup i] = .ok (.tup i) := rfl
@[simp]theorem dL(i) : biD .all [.lst i] = (ER i).bind fun b => .ok (.bl b) := rfl
@[simp]theorem Zxa(i) : biD .any [.lst i] = (Ef i).bind fun b => .ok (.bl b) := rfl
@[simp]theorem Zw9(i) : biD .any [.tup i] = (Ef i).bind fun b => .ok (.bl b) := rfl
@[simp]theorem ZwE(i) : biD .sum [.lst i] = (Fa 0 i).bind fun b => .ok (.int b) := rfl
@[simp]theorem ZwD(i) : biD .sum [.tup i] = (Fa 0 i).bind fun b => .ok (.int b) := rfl
@[simp]theorem Zqk(i) : biD .sorted [.lst i] = (N5 i).bind fun b => .ok (.lst b) := rfl
@[simp]theorem ZwF(xs k) : biD .stp [.lst xs, .int k] = .ok (.lst (QE k.toNat xs)) := rfl
@[simp]theorem ZwI(xs) : biD .rvs [.lst xs] = .ok (.lst xs.reverse) := rfl
@[simp]theorem ZvK(xs) : biD .lset [.lst xs] = Qd xs := rfl
@[simp]theorem Zve(x y) : biD .tmin [x, y] = mmD Ad x y := rfl
@[simp]theorem Zwr(x y) : biD .tlt [x, y] = QA x y := rfl
@[simp]theorem Zvf(x y) : biD .tmax [x, y] = mmD Ac x y := rfl
@[simp]theorem ZuI(xs x) : biD .count [.lst xs, x] = if (flD 5 x&&xs.all (flD 5)) = Ac then .ok (.int ((xs.filter fun y => eqD y x).length : Ag)) else .bad := rfl
@[simp]theorem eC(xs lo hi) : slD (.tup xs) lo hi = if (Ge xs.length 0 lo==0&&Ge xs.length xs.length hi==xs.length) = Ac then .bad else .ok (.tup (Hm xs lo hi)) := rfl
@[simp]theorem Zxm(xs lo hi) : slD (.lst xs) lo hi = .ok (.lst (Hm xs lo hi)) := rfl
@[simp]theorem ZrW(d) : slE .non d = .ok Af := rfl
@[simp]theorem ZrX(k i) : slE (.int k) (.int i) = .ok (Aa i) := rfl
@[simp]theorem ZrV(k i) : slE (.var k) (.int i) = .ok (Aa i) := rfl
@[simp]theorem ZrY(op a b i) : slE (.bin op a b) (.int i) = .ok (Aa i) := rfl
@[simp]theorem Zvm(op a i) : slE (.un op a) (.int i) = .ok (Aa i) := rfl
@[simp]theorem Zvn(b as i) : slE (.bi b as) (.int i) = .ok (Aa i) := rfl
@[simp]theorem ZtD(up ks) : Fp up ks .non = if ks.any Eg = Ac then .bad else .ok (.bl (ks.any fun k => kiD up k .non)) := rfl
@[simp]theorem ZvO(up ks b) : Fp up ks (.bl b) = if ks.any Eg = Ac then .bad else .ok (.bl (ks.any fun k => kiD up k (.bl b))) := rfl
@[simp]theorem ZtF(up ks b) : Fp up ks (.int b) = if ks.any Eg = Ac then .bad else .ok (.bl (ks.any fun k => kiD up k (.int b))) := rfl
@[simp]theorem ZtC(up ks b) : Fp up ks (.str b) = if ks.any Eg = Ac then .bad else .ok (.bl (ks.any fun k => kiD up k (.str b))) := rfl
@[simp]theorem ZtB(up ks b) : Fp up ks (.tup b) = if ks.any Eg = Ac then .bad else .ok (.bl (ks.any fun k => kiD up k (.tup b))) := rfl
@[simp]theorem ZtE(up ks b) : Fp up ks (.lst b) = if ks.any Eg = Ac then .bad else .ok (.bl (ks.any fun k => kiD up k (.lst b))) := rfl
@[simp]theorem ZtG(up ks c f) : Fp up ks (.exc c f) = if ks.all Eg = Ac then .ok (.bl (ks.any fun k => kiD up k (.exc c f))) else .bad := rfl
@[simp]theorem Zq9(c) : Eg (.cls c) = Ac := rfl
@[simp]theorem Zpg : Eg .verr = Ac := rfl
@[simp]theorem Zq8 : Eg .int = Ad := rfl
@[simp]theorem Zpi : Eg .bool = Ad := rfl
@[simp]theorem Zq7 : Eg .str = Ad := rfl
@[simp]theorem Zph : Eg .list = Ad := rfl
@[simp]theorem Zmz : Eg .tuple = Ad := rfl
@[simp]theorem Zmt(up i) : kiD up .int (.int i) = Ac := rfl
@[simp]theorem Zms(up) : kiD up .int .non = Ad := rfl
@[simp]theorem Zlu(up i) : kiD up .bool (.int i) = Ad := rfl
@[simp]theorem Zmr(up i) : kiD up .int (.tup i) = Ad := rfl
@[simp]theorem Zmv(up i) : kiD up .bool (.bl i) = Ac := rfl
@[simp]theorem Zlt(up) : kiD up .bool .non = Ad := rfl
@[simp]theorem Zls(up i) : kiD up .list (.lst i) = Ac := rfl
@[simp]theorem ZjK(up i) : kiD up .tuple (.tup i) = Ac := rfl
@[simp]theorem ZjL(up) : kiD up .tuple .non = Ad := rfl
@[simp]theorem Zmu(up c k f) : kiD up (.cls c) (.exc k f) = (up k).contains c := rfl
@[simp]theorem Zlr(up k f) : kiD up .verr (.exc k f) = Ac := rfl
theorem Ll{xs:Ab D}{i:Ae}{d:D}(h0 : 0 <= i)(h : xs[i.toNat]? = Aa d) : Dm xs i = .ok d := by
 unfold Dm plD;obtain⟨h1, _⟩ := AK.mp h;rw[AH h0, AH (by omega)]
 dsimp only;rw[h]
section
variable(Γ : Gam)(ρ : Rho)
@[simp]theorem ZqJ : evSs Γ ρ .nil = .next ρ := rfl
noncomputable def Ew(Γ : Gam)(ss : Ss)(o : O) : O := o.seq fun ρ' => evSs Γ ρ' ss
@[simp]theorem Zo1(s ss) : evSs Γ ρ (.cons s ss) = Ew Γ ss (evS Γ ρ s) := rfl
@[simp]theorem ZtR(ss) : Ew Γ ss (.next ρ) = evSs Γ ρ ss := rfl
@[simp]theorem ZvU(ss d b) : Ew Γ ss (.ret d b) = .ret d b := rfl
@[simp]theorem ZvY(ss) : Ew Γ ss (.brk ρ) = .brk ρ := rfl
@[simp]theorem ZtS(ss) : Ew Γ ss (.cont ρ) = .cont ρ := rfl
@[simp]theorem ZvX(ss x) : Ew Γ ss (.exn x ρ) = .exn x ρ := rfl
@[simp]theorem ZvZ(ss) : Ew Γ ss .bad = .bad := rfl
@[simp]theorem ZvW(ss)(c : Prop)[Ez c](a b : O) : Ew Γ ss (if c then a else b) = if c then Ew Γ ss a else Ew Γ ss b := by split <;> rfl
@[simp]theorem ZvV(o : O) : Ew Γ .nil o = o := by cases o <;> rfl
noncomputable def CB(Γ : Gam)(t : Ag)(body : Ss) : D -> Rho -> O := fun x ρ' => evSs Γ (ρ'.set t (Aa (x, Ad))) body
noncomputable def whC(Γ : Gam)(c : E) : Rho -> R An := fun ρ' => (top ρ' c (evE Γ ρ' c)).bind BN
noncomputable def whB(Γ : Gam)(body : Ss) : Rho -> O := fun ρ' => evSs Γ ρ' body
noncomputable def Qq(Γ : Gam)(t : Ag)(body : Ss)(ρ : Rho)(r : R (Ab D)) : O := O.of ρ r fun xs => CT (CB Γ t body) xs ρ
@[simp]theorem ZtU(t body xs) : Qq Γ t body ρ (.ok xs) = CT (CB Γ t body) xs ρ := rfl
@[simp]theorem ZqN : evS Γ ρ .pass = .next ρ := rfl
@[simp]theorem Zt8(i e) : evS Γ ρ (.asg i Ad e) = O.of ρ (evE Γ ρ e) fun d => .next (ρ.set i (Aa (d, Ad))) := rfl
@[simp]theorem ZqQ(e) : evS Γ ρ (.expr e) = O.of ρ (evE Γ ρ e) fun _ => .next ρ := rfl
@[simp]theorem Zt3(e) : evS Γ ρ (.ret e) = O.of ρ (top ρ e (evE Γ ρ e)) fun d => .ret d (DY Γ e||(match e with | .var i => (match ρ[i]? with|some (Aa (_, o)) => o|_ => Ad)|_ => Ad)) := rfl
@[simp]theorem ZqL : evS Γ ρ .retN = .ret .non Ad := rfl
@[simp]theorem Zt4(c a b) : evS Γ ρ (.ife c a b) = O.of ρ ((top ρ c (evE Γ ρ c)).bind BN) fun k => if k = Ac then evSs Γ ρ a else evSs Γ ρ b := rfl
@[simp]theorem ZqO(t it body) : evS Γ ρ (.fors t it body) = Qq Γ t body ρ (Gg Γ ρ it) := rfl
noncomputable def J5(Γ : Gam)(ts : Ab Ag)(body : Ss) : D -> Rho -> O := fun x ρ' => O.of ρ' (E5 ts x ρ') fun ρ'' => evSs Γ ρ'' body
noncomputable def PY(Γ : Gam)(ts : Ab Ag)(body : Ss)(ρ : Rho)(r : R (Ab D)) : O := O.of ρ r fun xs => CT (J5 Γ ts body) xs ρ
@[simp]theorem Zqy(t body xs) : PY Γ t body ρ (.ok xs) = CT (J5 Γ t body) xs ρ := rfl
@[simp]theorem ZqP(t it body) : evS Γ ρ (.forT t it body) = PY Γ t body ρ (Gg Γ ρ it) := rfl
@[simp]theorem ZqS(ts e) : evS Γ ρ (.asgT ts e) = O.of ρ (evE Γ ρ e) fun d => O.of ρ (Gc ts d ρ) fun ρ' => .next ρ' := rfl
theorem UZ(i e) : evS Γ ρ (.asg i Ac e) = O.of ρ (evE Γ ρ e) fun d => if DY Γ e = Ac then (match d with
      |.lst xs => .next (ρ.set i (Aa (.lst xs, Ac)))
      |.dic xs => .next (ρ.set i (Aa (.dic xs, Ac)))
      | _ => .bad) else .bad := rfl
noncomputable def setF(ρ : Rho)(i : Ag) : D -> O
 |.lst xs => .next (ρ.set i (Aa (.lst xs, Ac)))
 |.dic xs => .next (ρ.set i (Aa (.dic xs, Ac)))
 |_ => .bad
@[simp]theorem Zvu(i xs) : setF ρ i (.lst xs) = .next (ρ.set i (Aa (.lst xs, Ac))) := rfl
@[simp]theorem Zvv(i xs) : setF ρ i (.dic xs) = .next (ρ.set i (Aa (.dic xs, Ac))) := rfl
@[simp]theorem Zo2(i e) : evS Γ ρ (.asg i Ac e) = O.of ρ (evE Γ ρ e) fun d => if DY Γ e = Ac then setF ρ i d else .bad := by
 rw[UZ]
 congr 1
@[simp]theorem Zt9(i e) : evS Γ ρ (.app i e) = O.of ρ (Cp ρ i) fun xs => O.of ρ (evE Γ ρ e) fun d => if Cs (xs.length+1) = Ac then .next (ρ.set i (Aa (.lst (xs++[d]), Ac))) else .bad := rfl
@[simp]theorem Zt5(i e) : evS Γ ρ (.ext i e) = O.of ρ (Cp ρ i) fun xs => O.of ρ (evE Γ ρ e) fun d => O.of ρ (Mo d) fun ys => if Cs (xs.length+ys.length) = Ac then .next (ρ.set i (Aa (.lst (xs++ys), Ac))) else .bad := rfl
@[simp]theorem Zt2(i) : evS Γ ρ (.rev i) = O.of ρ (Cp ρ i) fun xs => .next (ρ.set i (Aa (.lst xs.reverse, Ac))) := rfl
@[simp]theorem Zt6(i) : evS Γ ρ (.clr i) = O.of ρ (Cp ρ i) fun _ => .next (ρ.set i (Aa (.lst [], Ac))) := rfl
theorem OC(i k e) : evS Γ ρ (.put i k e) = O.of ρ (evE Γ ρ e) fun d => O.of ρ (Cp ρ i) fun xs => O.of ρ ((top ρ k (evE Γ ρ k)).bind Dp) fun j => match plD xs.length j with
      |some n => .next (ρ.set i (Aa (.lst (xs.set n d), Ac)))
      |none => .bad := rfl
theorem Wk(i k l) : evS Γ ρ (.swp i k l) = O.of ρ (evE Γ ρ (.tup (.cons (.idx (.var i) (.var l)) (.cons (.idx (.var i) (.var k)) .nil)))) fun d => J7 ρ d i k l := rfl
theorem U0(j i e) : evS Γ ρ (.apop j i e) = O.of ρ (Cp ρ j) fun ys => O.of ρ (Cp ρ i) fun xs => O.of ρ (evE Γ ρ e) fun d => O.of ρ (Dp d) fun n => apD ρ j i ys xs n := rfl
@[simp]theorem ZqK(body c x h) : evS Γ ρ (.tryx body c x h) = match evSs Γ ρ body with
      | .exn y ρ' => if (Γ.up y.c).contains c = Ac then (match evSs Γ (ρ'.set x (Aa (.exc y.c y.fs, Ad))) h with
          |.next ρ'' => .next (ρ''.set x Af)
          |.ret d f => .ret d f
          | _ => .bad) else .bad
      |o => o := rfl
@[simp]theorem Zt1(c body) : evS Γ ρ (.whl c body) = Mt (whC Γ c) (whB Γ body) PV ρ := rfl
@[simp]theorem ZqM(c as) : evS Γ ρ (.rais c as) = O.of ρ (noX (evA Γ ρ as)) fun xs => O.of ρ (Γ.xn c xs) fun x => .exn x ρ := rfl
@[simp]theorem Zt7 : evS Γ ρ .brk = .brk ρ := rfl
@[simp]theorem ZqR : evS Γ ρ .cont = .cont ρ := rfl
end
end Ov
namespace Ov
open PySem
theorem Ob{body : D -> Rho -> O}(P : Rho -> Prop) : ∀(xs : Ab D)(ρ : Rho), P ρ -> (∀ x ∈ xs, ∀ ρ, P ρ -> ∃ ρ', body x ρ = .next ρ' /\ P ρ') -> ∃ ρ', CT body xs ρ = .next ρ' /\ P ρ'
 |[], ρ, h, _ => ⟨ρ, rfl, h⟩
 |x::xs, ρ, h, k => by
  obtain⟨ρ1, e1, h1⟩ := k x AA ρ h;obtain⟨ρ2, e2, h2⟩ := Ob P xs ρ1 h1 fun y hy => k y (As _ hy)
  exact⟨ρ2, by show (body x ρ).turn _ = _;rw[e1];exact e2, h2⟩
theorem HF(lo : Ae)(n : Ag) : (Ca lo n).length = n := by simp[Ca]
theorem NO{lo:Ae}{n i:Ag}{x:D}(h : (Ca lo n)[i]? = Aa x) : i<n /\ x = .int (lo+(i : Ae)) := by
 have hl := (AK.mp h).1;rw[HF]at hl;unfold Ca at h;rw[DA, List.getElem?_range hl]at h;cases h;exact⟨hl, rfl⟩
noncomputable def Ss.take : Ag -> Ss -> Ss
 |0, _ => .nil
 |_, .nil => .nil
 |n+1, .cons s ss => .cons s (ss.take n)
noncomputable def Ss.drop : Ag -> Ss -> Ss
 |0, ss => ss
 |_, .nil => .nil
 |n+1, .cons _ ss => ss.drop n
theorem Oc(Γ : Gam) : ∀(n : Ag)(ss : Ss)(ρ : Rho), evSs Γ ρ ss = Ew Γ (ss.drop n) (evSs Γ ρ (ss.take n))
 |0, _, _ => rfl
 |_+1, .nil, _ => rfl
 |n+1, .cons s ss, ρ => by
  show (evS Γ ρ s).seq (fun ρ' => evSs Γ ρ' ss) = Ew Γ (ss.drop n) ((evS Γ ρ s).seq fun ρ' => evSs Γ ρ' (ss.take n))
  cases evS Γ ρ s with
  |next ρ' => exact Oc Γ n ss ρ'
  |_ => rfl
end Ov
end
section
namespace OvC
open PySem Ov PyProof.Rows
variable{j i:Ae}
noncomputable abbrev scr(ns : Ab Ae) : D := .lst (ns.map .int)
noncomputable abbrev sh(d : D) : Sl := Aa (d, Ad)
noncomputable abbrev si(i : Ae) : Sl := Aa (.int i, Ad)
theorem four{P:Ag -> Prop}(h0 : P 0)(h1 : P 1)(h2 : P 2)(h3 : P 3) : P (j%4).toNat := by
 have : (j%4).toNat = 0 \/ (j%4).toNat = 1 \/ (j%4).toNat = 2 \/ (j%4).toNat = 3 := by omega
 rcases this with e|e|e|e <;> rw[e] <;> assumption
noncomputable def P4(p : Ae) : Prop := p = 3 \/ p = 5 \/ p = 7 \/ p = 11
noncomputable def pr4(j : Ae) : Ae := [3, 5, 7, 11].getD (j%4).toNat 0
theorem Xm(j) : P4 (pr4 j) := by
 unfold pr4;exact four (P := fun j => P4 ([3, 5, 7, 11].getD j 0)) (.inl rfl) (.inr (.inl rfl)) (.inr (.inr (.inl rfl))) (.inr (.inr (.inr rfl)))
theorem P4.pos{p}(h : P4 p) : 0<p := by rcases h with rfl|rfl|rfl|rfl <;> decide
theorem P4.lo{p}(h : P4 p) : 3 <= p := by rcases h with rfl|rfl|rfl|rfl <;> decide
theorem P4.hi{p}(h : P4 p) : p <= 11 := by rcases h with rfl|rfl|rfl|rfl <;> decide
theorem UW(j : Ae) : Dm [.int 3, .int 5, .int 7, .int 11] (j%4) = .ok (.int (pr4 j)) := by
 have h := four (P := fun j => [D.int 3, D.int 5, D.int 7, D.int 11][j]? = Aa (D.int ([3, 5, 7, 11].getD j 0))) (j := j) rfl rfl rfl rfl
 exact Ll (by omega) h
theorem GV(h0 : -18446744073709551616<i)(h1 : i<18446744073709551616) : C9 i j = Ac := by simp[C9];left;exact⟨h0, h1⟩
theorem JQ(h0 : -18446744073709551616<j)(h1 : j<18446744073709551616) : C9 i j = Ac := by simp[C9];right;exact⟨h0, h1⟩
noncomputable def L7 : Df := ⟨2, Ad, (.cons (.ret (.bin .Mod (.var 1) (.var 0))) .nil)⟩
noncomputable def Hi(Γ : Gam) : Prop := ∀ p n : Ae, 0<p -> Γ.F 1 [.int p, .int n] = .ok (.int (n%p))
theorem XD(Γ : Gam)(p n : Ae)(h : 0<p) : L7.run Γ [.int p, .int n] = .ok (.int (n%p)) := by simp[L7, Df.run, Bt, h]
end OvC
end
namespace Ov
open PySem PySem.Spec PyProof.Rows L2
variable{A B:Ai -> Prop}{H H' H1 H0:Hp}{a b l q:Ai}{xs ys vs:Ab V}{v:V}{d:D}{Rp Rq:Hp -> V -> D -> Prop}{r:R D}{X:Cx}{e c tg iter elt:Ao}{t' tt:TT}{ρ:Rho}{i n j k:Ag}{x:Ex}{σ:L2.St}{g:D -> D -> R D}{op op':DB}{K:Fg}{pI:Ab (Ai × AJ)}{s:Ak}{items2 its items:Bf Ah}{h h' h2:AF}{u:Ah}{its2:Ab Ah}{es ifs:Ab Ao}{fs fi:Rho -> R (Ab D)}{Q':Ap Ae -> Hp -> Prop}{p p2 pos pos' pos2 tpos:AN}{T:Dj}{f fc:Rho -> R An}{α:Type}{Fz:Ai -> HO -> Prop}{D':Ends}{lo hi:Ae}{as:D -> Rho -> R Rho}{up:Ag -> Ab Ag}{Q:Ah -> Ak -> Prop}{prog P:AM}{w:AU}{scope:BS}{env:BJ}{cl:Ab (Aj × Ai)}{N':Ab Aj}{ts:Ab Ag}{fp:Ab Ai}{te:TE}{J:It}{wi:TI}{P1 P2:Ag -> Ah -> Prop}{S1 S2:Ag -> AF -> Prop}{t:An}{ta:TA}
noncomputable abbrev ClA := Ag -> Ap Ai
variable{CL:ClA}
noncomputable def KL(K : Fg)(a : Ai)(xs : Ab V) : Prop := ∃(o : AJ)(its : Bf Ah)(n : Ag), K.lookup a = Aa o /\ o.cls = .type "list" /\ o.dict = Af /\ o.data = .seq its n /\ its.size <= sizeLine /\ AZ xs its.toList
noncomputable def KT(K : Fg)(a : Ai)(xs : Ab V) : Prop := ∃(o : AJ)(its : Bf Ah)(n : Ag), K.lookup a = Aa o /\ o.cls = .type "tuple" /\ o.data = .seq its n /\ its.size <= sizeLine /\ AZ xs its.toList
section
variable(K : Fg)(CL : ClA)(H : Hp)(A : Ai -> Prop)
mutual
def Rep : V -> D -> Prop
 |v, .non => v = .non
 |v, .bl b => v = .bl b
 |v, .int i => v = .int i
 |v, .str x => v = .str x
 |v, .tup ds => ∃ a xs, v = .ref a /\ (¬ A a \/ KT K a xs) /\ SqT K H a xs /\ Reps xs ds
 |v, .lst ds => ∃ a xs, v = .ref a /\ (¬ A a \/ KL K a xs) /\ SqL K H a xs /\ Reps xs ds
 |v, .obj c fs => ∃ a C dx vs, v = .ref a /\ ¬ A a /\ CL c = Aa C /\ H a = Aa (.ins C dx vs) /\ Repf vs fs
 |_, .dic _ => A6
 |v, .exc c fs => ∃ a C φ, v = .ref a /\ ¬ A a /\ CL c = Aa C /\ H a = Aa (.ext φ) /\ (∀ h, φ h -> ∃ o, h.get? a = Aa o /\ o.cls = .ref C) /\ (fs = [] \/ ∃ dx vs, ¬ A dx /\ H dx = Aa (.xd vs) /\ Repf vs fs /\ ∀ h, φ h -> ∃ o, h.get? a = Aa o /\ o.dict = Aa dx)
def Reps : Ab V -> Ab D -> Prop
 |[], [] => Gv
 |v::vs, d::ds => Rep v d /\ Reps vs ds
 |_, _ => A6
def Repf : Ab (Aj × V) -> Ab (Aj × D) -> Prop
 |[], [] => Gv
 |v::vs, d::ds => Repp v d /\ Repf vs ds
 |_, _ => A6
def Repp : Aj × V -> Aj × D -> Prop
 |v, (n, d) => v.1 = n /\ Rep v.2 d
end
noncomputable def Cj(v : V)(d : D) : Prop := Rep K CL H A v d \/ ∃ a xs ds, v = .ref a /\ d = .lst ds /\ H a = Aa (.lst xs) /\ Reps K CL H A xs ds
end
noncomputable def Kp(A : Ai -> Prop)(H H' : Hp) : Prop := ∀ b o, H b = Aa o -> ¬ A b -> H' b = Aa o
noncomputable def AOk(H : Hp)(A : Ai -> Prop) : Prop := ∀ a, A a -> ∃ xs, H a = Aa (.lst xs)
theorem Kp.of(h : Ay H H') : Kp A H H' := fun b o e _ => h b o e
theorem AOk.same(h : AOk H A)(s : Ay H H') : AOk H' A := fun a ha => let ⟨xs, e⟩ := h a ha;⟨xs, s _ _ e⟩
theorem AOk.new{p:Ai}(h : AOk H A)(e : H p = Af) : ¬ A p := fun ha => by
 obtain⟨xs, q⟩ := h p ha;rw[e]at q;cases q
section
variable{K : Fg}{CL : ClA}{H H' : Hp}{A B : Ai -> Prop}
theorem PL{u:HO}(k : Kp A H H')(na : ¬ A a)(h : Rd H a u) : Rd H' a u := by
 rcases h with h|⟨o, h⟩
 ·exact .inl (k _ _ h na)
 ·exact .inr ⟨o, k _ _ h na⟩
theorem JV(k : Kp A H H')(na : ¬ A a \/ KL K a xs)(h : SqL K H a xs) : SqL K H' a xs := na.elim (fun na => h.imp (PL k na) id) .inr
theorem JU(k : Kp A H H')(na : ¬ A a \/ KT K a xs)(h : SqT K H a xs) : SqT K H' a xs := na.elim (fun na => h.imp (PL k na) id) .inr
mutual
theorem Rep.kp(k : Kp A H H') : ∀{v : V}(d : D), Rep K CL H A v d -> Rep K CL H' A v d
 |_, .non, h => h
 |_, .bl _, h => h
 |_, .int _, h => h
 |_, .str _, h => h
 |_, .dic _, h => h.elim
 |_, .tup ds, h => by
  obtain⟨a, xs, e, na, s, r⟩ := h;exact⟨a, xs, e, na, by first|exact JU k na s|exact JV k na s, Reps.kp k ds r⟩
 |_, .lst ds, h => by
  obtain⟨a, xs, e, na, s, r⟩ := h;exact⟨a, xs, e, na, by first|exact JU k na s|exact JV k na s, Reps.kp k ds r⟩
 |_, .obj c fs, h => by
  obtain⟨a, C, dx, vs, e, na, c, s, r⟩ := h;exact⟨a, C, dx, vs, e, na, c, k _ _ s na, Repf.kp k fs r⟩
 |_, .exc c fs, h => by
  obtain⟨a, C, φ, e, na, c, s, p, q⟩ := h;refine⟨a, C, φ, e, na, c, k _ _ s na, p, q.imp id ?_⟩;rintro⟨dx, vs, nx, s2, r, z⟩;exact⟨dx, vs, nx, k _ _ s2 nx, Repf.kp k fs r, z⟩
theorem Reps.kp(k : Kp A H H') : ∀{vs : Ab V}(ds : Ab D), Reps K CL H A vs ds -> Reps K CL H' A vs ds
 |[], [], h => h
 |_::_, d::ds, h => ⟨Rep.kp k d h.1, Reps.kp k ds h.2⟩
 |[], _::_, h => h.elim
 |_::_, [], h => h.elim
theorem Repf.kp(k : Kp A H H') : ∀{vs : Ab (Aj × V)}(ds : Ab (Aj × D)), Repf K CL H A vs ds -> Repf K CL H' A vs ds
 |[], [], h => h
 |_::_, d::ds, h => ⟨Repp.kp k d h.1, Repf.kp k ds h.2⟩
 |[], _::_, h => h.elim
 |_::_, [], h => h.elim
theorem Repp.kp(k : Kp A H H') : ∀{v : Aj × V}(d : Aj × D), Repp K CL H A v d -> Repp K CL H' A v d
 |_, (_, d), h => ⟨h.1, Rep.kp k d h.2⟩
end
mutual
theorem Rep.sub(k : ∀ a, B a -> A a) : ∀{v : V}(d : D), Rep K CL H A v d -> Rep K CL H B v d
 |_, .non, h => h
 |_, .bl _, h => h
 |_, .int _, h => h
 |_, .str _, h => h
 |_, .dic _, h => h.elim
 |_, .tup ds, h => by
  obtain⟨a, xs, e, na, s, r⟩ := h;exact⟨a, xs, e, na.imp (fun na z => na (k _ z)) id, s, Reps.sub k ds r⟩
 |_, .lst ds, h => by
  obtain⟨a, xs, e, na, s, r⟩ := h;exact⟨a, xs, e, na.imp (fun na z => na (k _ z)) id, s, Reps.sub k ds r⟩
 |_, .obj c fs, h => by
  obtain⟨a, C, dx, vs, e, na, c, s, r⟩ := h;exact⟨a, C, dx, vs, e, fun z => na (k _ z), c, s, Repf.sub k fs r⟩
 |_, .exc c fs, h => by
  obtain⟨a, C, φ, e, na, c, s, p, q⟩ := h;refine⟨a, C, φ, e, fun z => na (k _ z), c, s, p, q.imp id ?_⟩
  rintro⟨dx, vs, nx, s2, r, z⟩;exact⟨dx, vs, fun z => nx (k _ z), s2, Repf.sub k fs r, z⟩
theorem Reps.sub(k : ∀ a, B a -> A a) : ∀{vs : Ab V}(ds : Ab D), Reps K CL H A vs ds -> Reps K CL H B vs ds
 |[], [], h => h
 |_::_, d::ds, h => ⟨Rep.sub k d h.1, Reps.sub k ds h.2⟩
 |[], _::_, h => h.elim
 |_::_, [], h => h.elim
theorem Repf.sub(k : ∀ a, B a -> A a) : ∀{vs : Ab (Aj × V)}(ds : Ab (Aj × D)), Repf K CL H A vs ds -> Repf K CL H B vs ds
 |[], [], h => h
 |_::_, d::ds, h => ⟨Repp.sub k d h.1, Repf.sub k ds h.2⟩
 |[], _::_, h => h.elim
 |_::_, [], h => h.elim
theorem Repp.sub(k : ∀ a, B a -> A a) : ∀{v : Aj × V}(d : Aj × D), Repp K CL H A v d -> Repp K CL H B v d
 |_, (_, d), h => ⟨h.1, Rep.sub k d h.2⟩
end
mutual
theorem Rep.wide(hp : ∀ a, B a -> A a \/ H a = Af) : ∀{v : V}(d : D), Rep K CL H A v d -> Rep K CL H B v d
 |_, .non, h => h
 |_, .bl _, h => h
 |_, .int _, h => h
 |_, .str _, h => h
 |_, .dic _, h => h.elim
 |_, .tup ds, h => by
  obtain⟨a, xs, e, na, s, r⟩ := h;refine⟨a, xs, e, ?_, s, Reps.wide hp ds r⟩;rcases s with s|s
  ·refine na.imp (fun na z => (hp _ z).elim na fun e => ?_) id
   rcases s with s|⟨o, s⟩ <;> rw[e]at s <;> cases s
  ·exact .inr s
 |_, .lst ds, h => by
  obtain⟨a, xs, e, na, s, r⟩ := h;refine⟨a, xs, e, ?_, s, Reps.wide hp ds r⟩;rcases s with s|s
  ·refine na.imp (fun na z => (hp _ z).elim na fun e => ?_) id
   rcases s with s|⟨o, s⟩ <;> rw[e]at s <;> cases s
  ·exact .inr s
 |_, .obj c fs, h => by
  obtain⟨a, C, dx, vs, e, na, c, s, r⟩ := h;exact⟨a, C, dx, vs, e, (fun z => (hp _ z).elim na fun e => by rw[e]at s;cases s), c, s, Repf.wide hp fs r⟩
 |_, .exc c fs, h => by
  obtain⟨a, C, φ, e, na, c, s, p, q⟩ := h;refine⟨a, C, φ, e, (fun z => (hp _ z).elim na fun e => by rw[e]at s;cases s), c, s, p, q.imp id ?_⟩
  rintro⟨dx, vs, nx, s2, r, z⟩;exact⟨dx, vs, (fun z => (hp _ z).elim nx fun e => by rw[e]at s2;cases s2), s2, Repf.wide hp fs r, z⟩
theorem Reps.wide(hp : ∀ a, B a -> A a \/ H a = Af) : ∀{vs : Ab V}(ds : Ab D), Reps K CL H A vs ds -> Reps K CL H B vs ds
 |[], [], h => h
 |_::_, d::ds, h => ⟨Rep.wide hp d h.1, Reps.wide hp ds h.2⟩
 |[], _::_, h => h.elim
 |_::_, [], h => h.elim
theorem Repf.wide(hp : ∀ a, B a -> A a \/ H a = Af) : ∀{vs : Ab (Aj × V)}(ds : Ab (Aj × D)), Repf K CL H A vs ds -> Repf K CL H B vs ds
 |[], [], h => h
 |_::_, d::ds, h => ⟨Repp.wide hp d h.1, Repf.wide hp ds h.2⟩
 |[], _::_, h => h.elim
 |_::_, [], h => h.elim
theorem Repp.wide(hp : ∀ a, B a -> A a \/ H a = Af) : ∀{v : Aj × V}(d : Aj × D), Repp K CL H A v d -> Repp K CL H B v d
 |_, (_, d), h => ⟨h.1, Rep.wide hp d h.2⟩
end
theorem Rep.same(s : Ay H H')(h : Rep K CL H A v d) : Rep K CL H' A v d := Rep.kp (Kp.of s) d h
theorem Reps.same{v:Ab V}{d:Ab D}(s : Ay H H')(h : Reps K CL H A v d) : Reps K CL H' A v d := Reps.kp (Kp.of s) d h
theorem Cj.same{v : V}{d : D}(s : Ay H H')(h : Cj K CL H A v d) : Cj K CL H' A v d := by
 rcases h with h|⟨a, xs, ds, e, e2, q, r⟩
 ·exact .inl (h.same s)
 ·exact .inr ⟨a, xs, ds, e, e2, s _ _ q, r.same s⟩
theorem Reps.length : ∀{vs : Ab V}{ds : Ab D}, Reps K CL H A vs ds -> vs.length = ds.length
 |[], [], _ => rfl
 |_::_, _::_, h => congrArg (· + 1) (Reps.length h.2)
 |[], _::_, h => h.elim
 |_::_, [], h => h.elim
theorem Reps.append : ∀{vs ws : Ab V}{ds es : Ab D}, Reps K CL H A vs ds -> Reps K CL H A ws es -> Reps K CL H A (vs++ws) (ds++es)
 |[], _, [], _, _, h => h
 |_::_, _, _::_, _, h, g => ⟨h.1, Reps.append h.2 g⟩
 |[], _, _::_, _, h, _ => h.elim
 |_::_, _, [], _, h, _ => h.elim
theorem Reps.get : ∀{vs : Ab V}{ds : Ab D}{i : Ag}{d : D}, Reps K CL H A vs ds -> ds[i]? = Aa d -> ∃ v, vs[i]? = Aa v /\ Rep K CL H A v d
 |[], [], _, _, _, e => by simp at e
 |v::_, _::_, 0, _, h, e => by simp at e;subst e;exact⟨v, rfl, h.1⟩
 |_::_, _::_, i+1, _, h, e => by
  obtain⟨v, q, r⟩ := Reps.get (i := i) h.2 (by simpa using e)
  exact⟨v, by simpa using q, r⟩
 |[], _::_, _, _, h, _ => h.elim
 |_::_, [], _, _, h, _ => h.elim
theorem Reps.take : ∀{vs : Ab V}{ds : Ab D}(n : Ag), Reps K CL H A vs ds -> Reps K CL H A (vs.take n) (ds.take n)
 |_, _, 0, _ => trivial
 |[], [], _+1, _ => trivial
 |_::_, _::_, n+1, h => ⟨h.1, Reps.take n h.2⟩
 |[], _::_, _+1, h => h.elim
 |_::_, [], _+1, h => h.elim
theorem Reps.drop : ∀{vs : Ab V}{ds : Ab D}(n : Ag), Reps K CL H A vs ds -> Reps K CL H A (vs.drop n) (ds.drop n)
 |_, _, 0, h => h
 |[], [], _+1, _ => trivial
 |_::_, _::_, n+1, h => Reps.drop n h.2
 |[], _::_, _+1, h => h.elim
 |_::_, [], _+1, h => h.elim
theorem Reps.set{x : V}{e : D}(r : Rep K CL H A x e) : ∀{vs : Ab V}{ds : Ab D}(n : Ag), Reps K CL H A vs ds -> Reps K CL H A (vs.set n x) (ds.set n e)
 |[], [], _, _ => trivial
 |_::_, _::_, 0, h => ⟨r, h.2⟩
 |_::_, _::_, n+1, h => ⟨h.1, Reps.set r n h.2⟩
 |[], _::_, _, h => h.elim
 |_::_, [], _, h => h.elim
end
structure Good (K : Fg) (CL : ClA) (A : Ai -> Prop) (ρ : Rho) (σ : L2.St) (H : Hp) : Prop where
 sh : ∀(i : Ag)(d : D), ρ[i]? = Aa (Aa (d, Ad)) -> ∃ v, σ[i]? = Aa (Aa v) /\ Rep K CL H A v d
 ow : ∀(i : Ag)(d : D), ρ[i]? = Aa (Aa (d, Ac)) -> ∃ a xs ds, σ[i]? = Aa (Aa (.ref a)) /\ d = .lst ds /\ A a /\ H a = Aa (.lst xs) /\ Reps K CL H A xs ds
 len : ρ.length = σ.length
theorem Good.same{K : Fg}{CL : ClA}{A : Ai -> Prop}{ρ : Rho}{σ : L2.St}{H H' : Hp}(g : Good K CL A ρ σ H)(s : Ay H H') : Good K CL A ρ σ H':=
 ⟨fun i d e => let ⟨v, q, r⟩ := g.sh i d e;⟨v, q, r.same s⟩, fun i d e => let ⟨a, xs, ds, q, z, na, h, r⟩ := g.ow i d e;⟨a, xs, ds, q, z, na, s _ _ h, r.same s⟩, g.len⟩
noncomputable abbrev XW := Ex -> Hp -> Prop
variable{W:XW}
noncomputable def A5(Rp : Hp -> V -> D -> Prop)(W : XW)(H : Hp)(r : R D)(Q : VK) : Prop := match r with
  |.ok d => ∀ v H', Ay H H' -> Rp H' v d -> Q v H'
  |.exn x => ∀ H', Ay H H' -> W x H'
  |.bad => A6
noncomputable def FU(Rp : Hp -> Ab V -> Ab D -> Prop)(W : XW)(H : Hp)(r : R (Ab D))(Q : Ab V -> Hp -> Prop) : Prop := match r with
  |.ok d => ∀ v H', Ay H H' -> Rp H' v d -> Q v H'
  |.exn x => ∀ H', Ay H H' -> W x H'
  |.bad => A6
noncomputable def Cr(W : XW)(H : Hp)(r : R An)(Q : An -> Hp -> Prop) : Prop := match r with
  |.ok b => ∀ H', Ay H H' -> Q b H'
  |.exn x => ∀ H', Ay H H' -> W x H'
  |.bad => A6
theorem A5.same{Q:VK}(s : Ay H H')(h : A5 Rp W H r Q) : A5 Rp W H' r Q := by
 cases r with
 |ok d => exact fun v H2 s2 q => h v H2 (s.trans s2) q
 |exn x => exact fun H2 s2 => h H2 (s.trans s2)
 |bad => exact h
theorem Cr.same{r:R An}{Q:An -> Hp -> Prop}(s : Ay H H')(h : Cr W H r Q) : Cr W H' r Q := by
 cases r with
 |ok d => exact fun H2 s2 => h H2 (s.trans s2)
 |exn x => exact fun H2 s2 => h H2 (s.trans s2)
 |bad => exact h
theorem A5.bind{f:D -> R D}{Q Q':VK}(h : A5 Rq W H (r.bind f) Q)(k : ∀ d v H', r = .ok d -> Ay H H' -> Rp H' v d -> A5 Rq W H' (f d) Q -> Q' v H') : A5 Rp W H r Q' := by
 cases r with
 |ok d => exact fun v H2 s2 q => k d v H2 rfl s2 q (A5.same s2 h)
 |exn x => exact h
 |bad => exact h
section
variable(X : Cx)(CL : ClA)(W : XW)
noncomputable def SE(e : Ao)(f : Rho -> R D) : Prop := ∀ A, PE X e (fun σ H Q => AOk H A /\ ∃ ρ, Good X.K CL A ρ σ H /\ A5 (fun H => Rep X.K CL H A) W H (f ρ) Q)
noncomputable def ST(e : Ao)(f : Rho -> R D) : Prop := ∀ A, PE X e (fun σ H Q => AOk H A /\ ∃ ρ, Good X.K CL A ρ σ H /\ A5 (fun H => Cj X.K CL H A) W H (f ρ) Q)
noncomputable def SB(e : Ao)(f : Rho -> R An) : Prop := ∀ A, PT X e (fun σ H Q => AOk H A /\ ∃ ρ, Good X.K CL A ρ σ H /\ Cr W H (f ρ) Q)
noncomputable def SA(es : Ab Ao)(f : Rho -> R (Ab D)) : Prop := ∀ A, PA X es (fun σ H Q => AOk H A /\ ∃ ρ, Good X.K CL A ρ σ H /\ FU (fun H => Reps X.K CL H A) W H (f ρ) Q)
end
theorem PE.weak{t t':TE}(h : PE X e t)(k : ∀ σ H Q, t' σ H Q -> t σ H Q) : PE X e t' := fun pI s σ H Q I q => h pI s σ H Q I (k _ _ _ q)
theorem PT.weak{t:TT}(h : PT X e t)(k : ∀ σ H Q, t' σ H Q -> t σ H Q) : PT X e t' := fun pI s σ H Q I q => h pI s σ H Q I (k _ _ _ q)
theorem PA.weak{e:Ab Ao}{t t':TA}(h : PA X e t)(k : ∀ σ H Q, t' σ H Q -> t σ H Q) : PA X e t' := fun pos pI s σ H Q I q => h pos pI s σ H Q I (k _ _ _ q)
noncomputable def OpD(X : Cx)(CL : ClA)(W : XW)(f : Ah -> Ah -> Fk Ah)(g : D -> D -> R D) : Prop:=
 ∀ A, OpR X f (fun x y H Q => AOk H A /\ ∃ dx dy, Cj X.K CL H A x dx /\ Cj X.K CL H A y dy /\ A5 (fun H => Rep X.K CL H A) W H (g dx dy) Q)
section
variable{X : Cx}{CL : ClA}{W : XW}{a b c : Ao}{fa fb fc : Rho -> R D}{pos : AN}
theorem SE.st(h : SE X CL W a fa) : ST X CL W a fa := fun A => PE.weak (h A) fun σ H Q ⟨hA, ρ, g, p⟩ => ⟨hA, ρ, g, by
 cases e : fa ρ with
 |ok d => rw[e]at p;exact fun v H' s r => p v H' s (.inl r)
 |exn x => rw[e]at p;exact p
 | bad => rw[e]at p;exact p⟩
theorem SE.congr{f g:Rho -> R D}(h : SE X CL W a f)(e : ∀ ρ, g ρ = f ρ) : SE X CL W a g := fun A => PE.weak (h A) fun σ H Q ⟨hA, ρ, q, p⟩ => ⟨hA, ρ, q, by rw[<-e];exact p⟩
theorem J4(h : PE X a (tC v))(r : ∀ H A, AOk H A -> Rep X.K CL H A v d) : SE X CL W a (fun _ => .ok d) := fun A => PE.weak h fun σ H Q ⟨hA, ρ, g, p⟩ => p v H (Ay.refl H) (r H A hA)
theorem Yb{i j} : SE X CL W (.Constant (.int i) j pos) (fun _ => .ok (.int i)) := J4 YO fun _ _ _ => rfl
theorem aR{b j} : SE X CL W (.Constant (.bool b) j pos) (fun _ => .ok (.bl b)) := J4 bY fun _ _ _ => rfl
theorem X8{j} : SE X CL W (.Constant .none j pos) (fun _ => .ok .non) := J4 YL fun _ _ _ => rfl
theorem X6{x j} : SE X CL W (.Constant (.str x) j pos) (fun _ => .ok (.str x)) := J4 Xu fun _ _ _ => rfl
theorem US(h : DO ρ i = .ok d) : ρ[i]? = Aa (Aa (d, Ad)) := by
 unfold DO at h;split at h
 ·rename_i e;cases h;exact e
 ·cases h
theorem N7(h : Eb ρ i = .ok d) : ∃ o, ρ[i]? = Aa (Aa (d, o)) := by
 unfold Eb at h;split at h
 ·rename_i e;cases h;exact⟨_, e⟩
 ·cases h
theorem Uo(h : DO ρ i = .exn x) : A6 := by
 unfold DO at h;split at h <;> cases h
theorem NR(h : Eb ρ i = .exn x) : A6 := by
 unfold Eb at h;split at h <;> cases h
theorem X4(h : PE X a (FX i)) : SE X CL W a (fun ρ => DO ρ i) := fun A => PE.weak h fun σ H Q ⟨hA, ρ, g, p⟩ => by
 dsimp only at p;cases e : DO ρ i with
 |ok d=>
  rw[e]at p;obtain⟨v, q, r⟩ := g.sh i d (US e);exact⟨v, q, p v H (Ay.refl H) r⟩
 |exn x => exact(Uo e).elim
 |bad => rw[e]at p;exact p.elim
theorem WW(h : PE X a (FX i)) : ST X CL W a (fun ρ => Eb ρ i) := fun A => PE.weak h fun σ H Q ⟨hA, ρ, g, p⟩ => by
 dsimp only at p;cases e : Eb ρ i with
 |ok d=>
  rw[e]at p;obtain⟨o, e⟩ := N7 e;cases o with
  |false=>
   obtain⟨v, q, r⟩ := g.sh i d e;exact⟨v, q, p v H (Ay.refl H) (.inl r)⟩
  |true=>
   obtain⟨x, xs, ds, q, rfl, ha, hh, r⟩ := g.ow i d e;exact⟨_, q, p _ H (Ay.refl H) (.inr ⟨x, xs, ds, rfl, rfl, hh, r⟩)⟩
 |exn x => exact(NR e).elim
 |bad => rw[e]at p;exact p.elim
theorem op2{Q:VK}(h : AOk H A /\ ∃ ρ, Good X.K CL A ρ σ H /\ A5 Rq W H ((fa ρ).bind fun x => (fb ρ).bind fun y => g x y) Q):AOk H A/\∃ ρ,Good X.K CL A ρ σ H/\A5 (fun H =>Cj X.K CL H A) W H (fa ρ) (fun x H1 =>AOk H1 A/\∃ ρ,Good X.K CL A ρ σ H1/\A5 (fun H =>Cj X.K CL H A) W H1 (fb ρ) (fun y H2=>AOk H2 A/\∃ dx dy,Cj X.K CL H2 A x dx/\Cj X.K CL H2 A y dy/\A5 Rq W H2 (g dx dy) Q)) := by
 obtain⟨hA, ρ, gd, p⟩ := h;refine⟨hA, ρ, gd, A5.bind p fun dx x H1 _ s1 r1 p1 => ⟨hA.same s1, ρ, gd.same s1, A5.bind p1 fun dy y H2 _ s2 r2 p2 => ⟨(hA.same s1).same s2, dx, dy, r1.same s2, r2, p2⟩⟩⟩
theorem O7{op:FO}(ho : OpD X CL W (BE op) g)(ha : ST X CL W a fa)(hb : ST X CL W b fb) : SE X CL W (.BinOp a op b pos) (fun ρ => (fa ρ).bind fun x => (fb ρ).bind fun y => g x y):=
 fun A => PE.weak (PK (ho A) (ha A) (hb A)) fun σ H Q h => op2 h
theorem Yd(ho : OpD X CL W (B0 op) g)(ha : ST X CL W a fa)(hb : ST X CL W b fb)(hm : Fl op b = Ad) : SE X CL W (.Compare a [op] [b] pos) (fun ρ => (fa ρ).bind fun x => (fb ρ).bind fun y => g x y):=
 fun A => PE.weak (Vg (ho A) (ha A) (hb A) hm) fun σ H Q h => op2 h
theorem Cj.int_of{i:Ae}(h : Cj K CL H A v (.int i)) : v = .int i := by
 rcases h with h|⟨_, _, _, _, e, _⟩
 ·exact h
 ·cases e
theorem Cj.str_of{i:Aj}(h : Cj K CL H A v (.str i)) : v = .str i := by
 rcases h with h|⟨_, _, _, _, e, _⟩
 ·exact h
 ·cases e
theorem Cj.bl_of{i:An}(h : Cj K CL H A v (.bl i)) : v = .bl i := by
 rcases h with h|⟨_, _, _, _, e, _⟩
 ·exact h
 ·cases e
theorem Cj.non_of(h : Cj K CL H A v .non) : v = .non := by
 rcases h with h|⟨_, _, _, _, e, _⟩
 ·exact h
 ·cases e
theorem Cj.lst_of{ds : Ab D}(h : Cj K CL H A v (.lst ds)) : ∃ a xs, v = .ref a /\ SqL K H a xs /\ Reps K CL H A xs ds := by
 rcases h with ⟨a, xs, e, _, s, r⟩|⟨a, xs, es, rfl, e, s, r⟩
 ·exact⟨a, xs, e, s, r⟩
 ·cases e;exact⟨a, xs, rfl, SqL.of s, r⟩
theorem Cj.tup_of{ds : Ab D}(h : Cj K CL H A v (.tup ds)) : ∃ a xs, v = .ref a /\ (¬ A a \/ KT K a xs) /\ SqT K H a xs /\ Reps K CL H A xs ds := by
 rcases h with ⟨a, xs, e, n, s, r⟩|⟨_, _, _, _, e, _⟩
 ·exact⟨a, xs, e, n, s, r⟩
 ·cases e
theorem WK{i j:Ae}(h : C9 i j = Ac) : Kc i j := by
 unfold C9 at h;simp only[CU, Al, AV]at h;unfold Kc;omega
theorem OS{a : Ae}(h : a.natAbs<2 ^ 2000) : RN a <= 2 ^ 20 := by
 unfold RN;split
 ·omega
 ·rename_i hz;have h0 : a.natAbs ≠ 0 := by intro z;exact hz (by rw[Int.natAbs_eq_zero.mp z];rfl)
  have := (Nat.log2_lt h0).mpr h;omega
theorem WJ{i j:Ae}(h : (C9 i j||DX i j) = Ac) : IA i j := by
 rcases Bool.or_eq_true_iff.mp h with h|h
 ·exact(WK h).ok
 ·unfold DX at h;rw[Al, AV, AV]at h;exact .of_bits (OS h.1) (OS h.2)
theorem WF : OpR X (BE .Mult) (rI IA fun i j => .int (i*j)) := opI fun _ _ _ _ _ _ _ hc q => mul_int q hc
theorem Hg(h : Cs n = Ac) : n <= sizeLine := by
 unfold Cs at h;rw[DR];have := EB h;omega
theorem Ou{p:Ai}{ds : Ab D}(hA : AOk H A)(hp : H p = Af)(r : Reps K CL H A xs ds) : Rep K CL (upd H p (.lst xs)) A (.ref p) (.lst ds):=
 ⟨p, xs, rfl, .inl (hA.new hp), SqL.of FQ, r.same fun b o e => by rw[Cf (Ep e hp)];exact e⟩
theorem HN{p:Ai}{ds : Ab D}(hA : AOk H A)(hp : H p = Af)(r : Reps K CL H A xs ds) : Rep K CL (upd H p (.tup xs)) A (.ref p) (.tup ds):=
 ⟨p, xs, rfl, .inl (hA.new hp), SqT.of FQ, r.same fun b o e => by rw[Cf (Ep e hp)];exact e⟩
theorem Er{p:Ai}(h : H p = Af)(o : HO) : Ay H (upd H p o) := fun b u q => by rw[Cf (Ep q h)];exact q
noncomputable def aP(K : Fg) : R2 := fun x y H Q => ∃ l b xs zs, x = .ref l /\ y = .ref b /\ SqL K H l xs /\ SqL K H b zs /\ xs.length+zs.length <= sizeLine /\ ∀ p, H p = Af -> Q (.ref p) (upd H p (.lst (xs++zs)))
end
section
variable{X : Cx}{CL : ClA}{W : XW}
theorem OM : OpR X (BE .Add) (aP X.K) := by
 intro pI s σ H x y v u Q I rx ry h;obtain⟨l, b, xs, zs, rfl, rfl, hH, hB, hz, q⟩ := h;cases rx;cases ry;obtain⟨its, r, ⟨o, n, e, c, dd, dt⟩, z⟩ := I.list hH;obtain⟨its2, r2, ⟨o2, n2, e2, c2, dd2, dt2⟩, z2⟩ := I.list hB;have hl := r.length;have hl2 := r2.length;obtain⟨cls, dd0, data, sl⟩ := o;obtain⟨cls2, dd02, data2, sl2⟩ := o2;simp only at c dd dt c2 dd2 dt2;subst c dd dt c2 dd2 dt2;have ea : its.toArray++its2.toArray = (its++its2).toArray := by simp
 refine GQ ⟨_, e, rfl⟩ ⟨_, e2, rfl⟩ noFill_list_add seq_list_add PySem.F.slot_list_add PySem.F.entry_list_add (PySem.F.args_list_add_2 _ _) (list_addW l b its.toArray its2.toArray n n2 Af Af sl sl2 (by simp;omega)) ⟨e, e2, ?_⟩
 rw[ea];exact⟨.ref _, _, I.lnew (t' := s.toks) (r.append r2) (by rw[Bp];omega), rfl, q _ I.fresh⟩
theorem OK : OpD X CL W (BE .Add) (Cq .Add) := by
 intro A pI s σ H x y v u Q I rx ry ⟨hA, dx, dy, hx, hy, p⟩;cases dx with
 |int i=>
  cases dy with
  |int j=>
   have ex := hx.int_of;have ey := hy.int_of
   subst ex ey;exact YV pI s σ H _ _ v u Q I rx ry ⟨i, j, rfl, rfl, p _ H (Ay.refl H) rfl⟩
  |_ => exact p.elim
 |str i=>
  cases dy with
  |str j=>
   have ex := hx.str_of;have ey := hy.str_of
   subst ex ey;simp only[Y5]at p;split at p
   ·rename_i h;exact TB pI s σ H _ _ v u Q I rx ry ⟨i, j, rfl, rfl, Hg h, p _ H (Ay.refl H) rfl⟩
   ·exact p.elim
  |_ => exact p.elim
 |lst ds=>
  cases dy with
  |lst es=>
   obtain⟨a, xs, rfl, s1, r1⟩ := hx.lst_of;obtain⟨b, ys, rfl, s2, r2⟩ := hy.lst_of;simp only[Mc]at p;split at p
   ·rename_i h;refine OM pI s σ H _ _ v u Q I rx ry ⟨a, b, xs, ys, rfl, rfl, s1, s2, by rw[r1.length, r2.length];exact Hg h, fun q hq => ?_⟩
    exact p _ _ (Er hq _) (Ou hA hq (r1.append r2))
   ·exact p.elim
  |_ => exact p.elim
 |tup ds=>
  cases dy with
  |tup es=>
   obtain⟨a, xs, rfl, na1, s1, r1⟩ := hx.tup_of;obtain⟨b, ys, rfl, _, s2, r2⟩ := hy.tup_of;simp only[Y4]at p;split at p
   ·rename_i h;simp only[Al]at h;refine WH pI s σ H _ _ v u Q I rx ry ⟨a, b, xs, ys, rfl, rfl, s1, s2, ?_, by rw[r1.length, r2.length];exact Hg h.2, fun hy0 => ?_, fun _ q hq => ?_⟩
    ·rintro rfl;cases ds with
     |nil => cases h.1
     |cons _ _ => exact r1.elim
    ·subst hy0;cases es with
     |nil => rw[B8]at p;exact p _ H (Ay.refl H) ⟨a, xs, rfl, na1, s1, r1⟩
     |cons _ _ => exact r2.elim
    ·exact p _ _ (Er hq _) (HN hA hq (r1.append r2))
   ·exact p.elim
  |_ => exact p.elim
 |_ => exact p.elim
theorem JP{op:FO}{C:Ae -> Ae -> Prop}{g:Ae -> Ae -> Ae}(ho : OpR X (BE op) (rI C fun i j => .int (g i j)))(hg : ∀ dx dy, (∃ i j, dx = .int i /\ dy = .int j /\ ((C i j /\ Cq op dx dy = .ok (.int (g i j))) \/ Cq op dx dy = .bad)) \/ Cq op dx dy = .bad) : OpD X CL W (BE op) (Cq op) := by
 intro A pI s σ H x y v u Q I rx ry ⟨hA, dx, dy, hx, hy, p⟩;rcases hg dx dy with ⟨i, j, rfl, rfl, ⟨c, e⟩|e⟩|e
 ·have ex := hx.int_of;have ey := hy.int_of
  subst ex ey;rw[e]at p;exact ho pI s σ H _ _ v u Q I rx ry ⟨i, j, rfl, rfl, c, p _ H (Ay.refl H) rfl⟩
 ·rw[e]at p;exact p.elim
 ·rw[e]at p;exact p.elim
theorem Vj : OpD X CL W (BE .Sub) (Cq .Sub) := by
 intro A pI s σ H x y v u Q I rx ry ⟨hA, dx, dy, hx, hy, p⟩;cases dx with
 |int i=>
  cases dy with
  |int j=>
   have ex := hx.int_of;have ey := hy.int_of
   subst ex ey;exact YR pI s σ H _ _ v u Q I rx ry ⟨i, j, rfl, rfl, p _ H (Ay.refl H) rfl⟩
  |_ => exact p.elim
 |_ => exact p.elim
theorem Vl : OpD X CL W (BE .Mult) (Cq .Mult) := JP WF fun dx dy => by
 cases dx with
 |int i=>
  cases dy with
  |int j=>
   refine .inl ⟨i, j, rfl, rfl, ?_⟩;rw[YY];split
   ·rename_i h;exact .inl ⟨WJ h, rfl⟩
   ·exact .inr rfl
  |_ => exact .inr rfl
 |_ => exact .inr rfl
theorem Ug : OpD X CL W (BE .FloorDiv) (Cq .FloorDiv) := JP WG fun dx dy => by
 cases dx with
 |int i=>
  cases dy with
  |int j=>
   refine .inl ⟨i, j, rfl, rfl, ?_⟩;rw[Wj];split
   ·rename_i h;exact .inl ⟨h, rfl⟩
   ·exact .inr rfl
  |_ => exact .inr rfl
 |_ => exact .inr rfl
theorem WD : OpD X CL W (BE .Mod) (Cq .Mod) := JP YT fun dx dy => by
 cases dx with
 |int i=>
  cases dy with
  |int j=>
   refine .inl ⟨i, j, rfl, rfl, ?_⟩;rw[YZ];split
   ·rename_i h;exact .inl ⟨h, rfl⟩
   ·exact .inr rfl
  |_ => exact .inr rfl
 |_ => exact .inr rfl
theorem Vk : OpD X CL W (BE .Pow) (Cq .Pow) := JP YS fun dx dy => by
 cases dx with
 |int i=>
  cases dy with
  |int j=>
   refine .inl ⟨i, j, rfl, rfl, ?_⟩;rw[Xn];split
   ·rename_i h;exact .inl ⟨⟨h.1.1, h.1.2, by omega⟩, rfl⟩
   ·exact .inr rfl
  |_ => exact .inr rfl
 |_ => exact .inr rfl
theorem OJ(op : FO) : OpD X CL W (BE op) (Cq op) := by
 cases op with
 |Add => exact OK
 |Sub => exact Vj
 |Mult => exact Vl
 |FloorDiv => exact Ug
 |Mod => exact WD
 |Pow => exact Vk
 |_=>
  intro A pI s σ H x y v u Q I rx ry ⟨hA, dx, dy, hx, hy, p⟩;cases dx <;> cases dy <;> exact p.elim
noncomputable abbrev A0 : Ai -> Prop := fun _ => A6
theorem Cj.plain(h : Cj K CL H A v d) : Rep K CL H A0 v d := by
 rcases h with h|⟨a, xs, ds, rfl, rfl, e, r⟩
 ·exact Rep.sub (fun _ z => z.elim) d h
 ·exact⟨a, xs, rfl, .inl fun z => z.elim, SqL.of e, Reps.sub (fun _ z => z.elim) ds r⟩
mutual
theorem U3 : ∀(n : Ag)(d : D), flD n d = Ac -> eqD d d = Ac
 |_, .non, _ => rfl
 |_, .bl b, _ => by simp
 |_, .int i, _ => by simp
 |_, .str x, _ => by simp
 |n+1, .tup ds, h => by
  show eqDs ds ds = Ac;exact eqDs_refl n ds h
 |n+1, .lst ds, h => by
  show eqDs ds ds = Ac;exact eqDs_refl n ds h
 |0, .tup ds, h => by cases h
 |0, .lst ds, h => by cases h
 |n, .obj _ _, h => by cases n <;> cases h
 |n, .exc _ _, h => by cases n <;> cases h
 |n, .dic _, h => by cases n <;> cases h
theorem eqDs_refl : ∀(n : Ag)(ds : Ab D), ds.all (flD n) = Ac -> eqDs ds ds = Ac
 |_, [], _ => rfl
 |n, d::ds, h => by
  simp only[Fj, Al]at h;simp only[KU, Al];exact⟨U3 n d h.1, eqDs_refl n ds h.2⟩
end
theorem NG(I : Inv X pI σ H s)(h : SqL X.K H a xs)(h' : SqT X.K H a ys) : A6 := by
 obtain⟨its, r, ⟨o, n, e, c, _, _⟩, _⟩ := I.list h;obtain⟨its', r', ⟨o', e', c', _⟩, _⟩ := I.tuple h';rw[e]at e';cases e';rw[c]at c'
 injection c' with z
 exact absurd z (by decide)
mutual
theorem JO{pI : Ab (Ai × AJ)}{σ : L2.St}{H : Hp}{s : Ak}(I : Inv X pI σ H s) : ∀(n : Ag)(d e : D){v : V}, flD n d = Ac -> flD n e = Ac -> Rep X.K CL H A0 v d -> Rep X.K CL H A0 v e -> d = e
 |n, .tup ds, e, v, hd, he, r, q => by
  obtain⟨a, xs, rfl, _, s1, r1⟩ := r;cases e with
  |tup es=>
   obtain⟨b, ys, e, _, s2, r2⟩ := q;cases e;have z := I.tuple_inj s1 s2;subst z;cases n with
   |zero => cases hd
   |succ n => rw[reps_inj I n ds es hd he r1 r2]
  |lst es=>
   obtain⟨b, ys, e, _, s2, r2⟩ := q;cases e;exact(NG I s2 s1).elim
  |obj => cases n <;> cases he
  |exc => cases n <;> cases he
  |dic => cases n <;> cases he
  |_ => cases q
 |n, .lst ds, e, v, hd, he, r, q => by
  obtain⟨a, xs, rfl, _, s1, r1⟩ := r;cases e with
  |lst es=>
   obtain⟨b, ys, e, _, s2, r2⟩ := q;cases e;have z := I.list_inj s1 s2;subst z;cases n with
   |zero => cases hd
   |succ n => rw[reps_inj I n ds es hd he r1 r2]
  |tup es=>
   obtain⟨b, ys, e, _, s2, r2⟩ := q;cases e;exact(NG I s1 s2).elim
  |obj => cases n <;> cases he
  |exc => cases n <;> cases he
  |dic => cases n <;> cases he
  |_ => cases q
 |n, .obj _ _, e, v, hd, he, r, q => by cases n <;> cases hd
 |n, .exc _ _, e, v, hd, he, r, q => by cases n <;> cases hd
 |n, .dic _, e, v, hd, he, r, q => by cases n <;> cases hd
 |n, .non, e, v, hd, he, r, q => by
  cases r;cases e with
  |tup => obtain⟨_, _, z, _⟩ := q;cases z
  |lst => obtain⟨_, _, z, _⟩ := q;cases z
  |obj => cases n <;> cases he
  |exc => cases n <;> cases he
  |dic => cases n <;> cases he
  |_ => cases q <;> rfl
 |n, .bl b, e, v, hd, he, r, q => by
  cases r;cases e with
  |tup => obtain⟨_, _, z, _⟩ := q;cases z
  |lst => obtain⟨_, _, z, _⟩ := q;cases z
  |obj => cases n <;> cases he
  |exc => cases n <;> cases he
  |dic => cases n <;> cases he
  |_ => cases q <;> rfl
 |n, .int b, e, v, hd, he, r, q => by
  cases r;cases e with
  |tup => obtain⟨_, _, z, _⟩ := q;cases z
  |lst => obtain⟨_, _, z, _⟩ := q;cases z
  |obj => cases n <;> cases he
  |exc => cases n <;> cases he
  |dic => cases n <;> cases he
  |_ => cases q <;> rfl
 |n, .str b, e, v, hd, he, r, q => by
  cases r;cases e with
  |tup => obtain⟨_, _, z, _⟩ := q;cases z
  |lst => obtain⟨_, _, z, _⟩ := q;cases z
  |obj => cases n <;> cases he
  |exc => cases n <;> cases he
  |dic => cases n <;> cases he
  |_ => cases q <;> rfl
theorem reps_inj{pI : Ab (Ai × AJ)}{σ : L2.St}{H : Hp}{s : Ak}(I : Inv X pI σ H s) : ∀(n : Ag)(ds es : Ab D){xs : Ab V}, ds.all (flD n) = Ac -> es.all (flD n) = Ac -> Reps X.K CL H A0 xs ds -> Reps X.K CL H A0 xs es -> ds = es
 |_, [], [], _, _, _, _, _ => rfl
 |n, d::ds, e::es, x::xs, hd, he, r, q => by
  simp only[Fj, Al]at hd he;rw[JO I n d e hd.1 he.1 r.1 q.1, reps_inj I n ds es hd.2 he.2 r.2 q.2]
 |_, [], _::_, [], _, _, _, q => q.elim
 |_, [], _::_, _::_, _, _, r, _ => r.elim
 |_, _::_, [], [], _, _, r, _ => r.elim
 |_, _::_, [], _::_, _, _, _, q => q.elim
 |_, _::_, _::_, [], _, _, r, _ => r.elim
end
theorem IN : ∀{ds es : Ab D}, ds.length ≠ es.length -> eqDs ds es = Ad
 |[], [], h => absurd rfl h
 |[], _::_, _ => rfl
 |_::_, [], _ => rfl
 |d::ds, e::es, h => by
  simp only[KU, IN (ds := ds) (es := es) (by simpa using h), Gh]
theorem MX(n : Ag)(f : Ag -> An) : (Cc (n+1)).all f = (f 0&&(Cc n).all fun j => f (j+1)) := by
 rw[Ei, Fj, Q5];rfl
theorem IP : ∀{ds es : Ab D}, ds.length = es.length -> eqDs ds es = (Cc ds.length).all fun j => eqD (ds.getD j .non) (es.getD j .non)
 |[], [], _ => rfl
 |d::ds, e::es, h => by
  rw[KU, IP (ds := ds) (es := es) (by simpa using h), BA, MX]
  rfl
 |[], _::_, h => by cases h
 |_::_, [], h => by cases h
theorem Hh{ds : Ab D}{its:Ab Ah}(r : Reps K CL H A0 xs ds)(rv : AZ xs its)(h : j<its.length):∃ x,Rep K CL H A0 x (ds.getD j .non)/\Bo x its[j] := by
 have e1 := rv.length;have e2 := r.length;have hd : ds[j]? = Aa (ds.getD j .non) := by
  rw[CV, Bz (by omega)];rfl
 obtain⟨x, hx, q⟩ := r.get hd;obtain⟨u, hu, ru⟩ := rv.get hx;refine⟨x, q, ?_⟩;rw[Bz h]at hu;cases hu;exact ru
theorem Hf{ds : Ab D}(h : ds.all (flD n) = Ac)(j : Ag) : flD n (ds.getD j .non) = Ac := by
 rw[CV];cases e : ds[j]? with
 |none => cases n <;> rfl
 |some d => exact List.all_eq_true.mp h d (Ru e)
noncomputable def B6(B : A3)(s : Ak)(u t : Ah)(k : An) : Prop := Hv B s u t k /\ EL B s u t k /\ GO B s u t (!k)
section
variable{B : A3}{s : Ak}
open SeqAt
theorem bG : B6 B s .none .none Ac := ⟨RcAt.none_none, EqAt.same _, RcNeAt.none_none⟩
theorem aH(a b : An) : B6 B s (.bool a) (.bool b) (a==b) := ⟨RcAt.bool_bool _ _, EqAt.bool_bool _ _, RcNeAt.bool_bool _ _⟩
theorem bK(b : An) : B6 B s .none (.bool b) Ad := ⟨RcAt.none_bool _, EqAt.none_bool _, RcNeAt.none_bool _⟩
theorem aE(b : An) : B6 B s (.bool b) .none Ad := ⟨RcAt.bool_none _, EqAt.bool_none _, RcNeAt.bool_none _⟩
theorem Z9(a : Ae)(t : CA)(b : Ae)(u : CA) : B6 B s (.int a t) (.int b u) (a==b) := ⟨RcAt.int_int _ _ _ _, EqAt.int_int _ _ _ _, RcNeAt.int_int _ _ _ _⟩
theorem aY(a : Aj)(t : CA)(b : Aj)(u : CA) : B6 B s (.str a t) (.str b u) (a==b) := ⟨RcAt.str_str _ _ _ _, EqAt.str_str _ _ _ _, RcNeAt.str_str _ _ _ _⟩
theorem Z6(a : Ae)(t : CA)(b : Aj)(u : CA) : B6 B s (.int a t) (.str b u) Ad := ⟨RcAt.int_str _ _ _ _, EqAt.int_str _ _ _ _, RcNeAt.int_str _ _ _ _⟩
theorem bB(a : Aj)(t : CA)(b : Ae)(u : CA) : B6 B s (.str a t) (.int b u) Ad := ⟨RcAt.str_int _ _ _ _, EqAt.str_int _ _ _ _, RcNeAt.str_int _ _ _ _⟩
theorem bJ(b : Ae)(u : CA) : B6 B s .none (.int b u) Ad := ⟨RcAt.none_int _ _, EqAt.none_int _ _, RcNeAt.none_int _ _⟩
theorem Z7(b : Ae)(u : CA) : B6 B s (.int b u) .none Ad := ⟨RcAt.int_none _ _, EqAt.int_none _ _, RcNeAt.int_none _ _⟩
theorem bF(b : Aj)(u : CA) : B6 B s .none (.str b u) Ad := ⟨RcAt.none_str _ _, EqAt.none_str _ _, RcNeAt.none_str _ _⟩
theorem aZ(b : Aj)(u : CA) : B6 B s (.str b u) .none Ad := ⟨RcAt.str_none _ _, EqAt.str_none _ _, RcNeAt.str_none _ _⟩
theorem aG(a : An)(b : Ae)(u : CA) : B6 B s (.bool a) (.int b u) (b2i a==b) := ⟨RcAt.bool_int _ _ _, EqAt.bool_int _ _ _, RcNeAt.bool_int _ _ _⟩
theorem aA(a : An)(b : Ae)(u : CA) : B6 B s (.int b u) (.bool a) (b==b2i a) := ⟨RcAt.int_bool _ _ _, EqAt.int_bool _ _ _, RcNeAt.int_bool _ _ _⟩
theorem aD(a : An)(b : Aj)(u : CA) : B6 B s (.bool a) (.str b u) Ad := ⟨RcAt.bool_str _ _ _, EqAt.bool_str _ _ _, RcNeAt.bool_str _ _ _⟩
theorem bD(a : An)(b : Aj)(u : CA) : B6 B s (.str b u) (.bool a) Ad := ⟨RcAt.str_bool _ _ _, EqAt.str_bool _ _ _, RcNeAt.str_bool _ _ _⟩
variable{l : Ai}{items : Bf Ah}
theorem Z1(h : s.heap.IsList l items)(hu : B.units<BP) : B6 B s (.ref l) .none Ad := ⟨RcAt.list_none h hu, EqAt.list_none h hu, RcNeAt.list_none h hu⟩
theorem bH(h : s.heap.IsList l items)(hu : B.units<BP) : B6 B s .none (.ref l) Ad := ⟨RcAt.none_list h hu, EqAt.none_list h hu, RcNeAt.none_list h hu⟩
theorem Z4(b : An)(h : s.heap.IsList l items)(hu : B.units<BP) : B6 B s (.ref l) (.bool b) Ad := ⟨RcAt.list_bool b h hu, EqAt.list_bool b h hu, RcNeAt.list_bool b h hu⟩
theorem aF(b : An)(h : s.heap.IsList l items)(hu : B.units<BP) : B6 B s (.bool b) (.ref l) Ad := ⟨RcAt.bool_list b h hu, EqAt.bool_list b h hu, RcNeAt.bool_list b h hu⟩
theorem Z2(b : Ae)(u : CA)(h : s.heap.IsList l items)(hu : B.units<BP) : B6 B s (.ref l) (.int b u) Ad := ⟨RcAt.list_int b u h hu, EqAt.list_int b u h hu, RcNeAt.list_int b u h hu⟩
theorem Z8(b : Ae)(u : CA)(h : s.heap.IsList l items)(hu : B.units<BP) : B6 B s (.int b u) (.ref l) Ad := ⟨RcAt.int_list b u h hu, EqAt.int_list b u h hu, RcNeAt.int_list b u h hu⟩
theorem Z0(b : Aj)(u : CA)(h : s.heap.IsList l items)(hu : B.units<BP) : B6 B s (.ref l) (.str b u) Ad := ⟨RcAt.list_str b u h hu, EqAt.list_str b u h hu, RcNeAt.list_str b u h hu⟩
theorem bA(b : Aj)(u : CA)(h : s.heap.IsList l items)(hu : B.units<BP) : B6 B s (.str b u) (.ref l) Ad := ⟨RcAt.str_list b u h hu, EqAt.str_list b u h hu, RcNeAt.str_list b u h hu⟩
theorem aT(h : s.heap.IsTuple l items)(hu : B.units<BP) : B6 B s (.ref l) .none Ad := ⟨RcAt.tuple_none h hu, EqAt.tuple_none h hu, RcNeAt.tuple_none h hu⟩
theorem bE(h : s.heap.IsTuple l items)(hu : B.units<BP) : B6 B s .none (.ref l) Ad := ⟨RcAt.none_tuple h hu, EqAt.none_tuple h hu, RcNeAt.none_tuple h hu⟩
theorem aW(b : An)(h : s.heap.IsTuple l items)(hu : B.units<BP) : B6 B s (.ref l) (.bool b) Ad := ⟨RcAt.tuple_bool b h hu, EqAt.tuple_bool b h hu, RcNeAt.tuple_bool b h hu⟩
theorem aC(b : An)(h : s.heap.IsTuple l items)(hu : B.units<BP) : B6 B s (.bool b) (.ref l) Ad := ⟨RcAt.bool_tuple b h hu, EqAt.bool_tuple b h hu, RcNeAt.bool_tuple b h hu⟩
theorem aV(b : Ae)(u : CA)(h : s.heap.IsTuple l items)(hu : B.units<BP) : B6 B s (.ref l) (.int b u) Ad := ⟨RcAt.tuple_int b u h hu, EqAt.tuple_int b u h hu, RcNeAt.tuple_int b u h hu⟩
theorem Z5(b : Ae)(u : CA)(h : s.heap.IsTuple l items)(hu : B.units<BP) : B6 B s (.int b u) (.ref l) Ad := ⟨RcAt.int_tuple b u h hu, EqAt.int_tuple b u h hu, RcNeAt.int_tuple b u h hu⟩
theorem aS(b : Aj)(u : CA)(h : s.heap.IsTuple l items)(hu : B.units<BP) : B6 B s (.ref l) (.str b u) Ad := ⟨RcAt.tuple_str b u h hu, EqAt.tuple_str b u h hu, RcNeAt.tuple_str b u h hu⟩
theorem aX(b : Aj)(u : CA)(h : s.heap.IsTuple l items)(hu : B.units<BP) : B6 B s (.str b u) (.ref l) Ad := ⟨RcAt.str_tuple b u h hu, EqAt.str_tuple b u h hu, RcNeAt.str_tuple b u h hu⟩
theorem ZZ(h : s.heap.IsList l items)(h2 : s.heap.IsTuple b items2)(hu : B.units<BP) : B6 B s (.ref l) (.ref b) Ad := ⟨RcAt.list_tuple h h2 hu, EqAt.list_tuple h h2 hu, RcNeAt.list_tuple h h2 hu⟩
theorem aU(h : s.heap.IsTuple l items)(h2 : s.heap.IsList b items2)(hu : B.units<BP) : B6 B s (.ref l) (.ref b) Ad := ⟨RcAt.tuple_list h h2 hu, EqAt.tuple_list h h2 hu, RcNeAt.tuple_list h h2 hu⟩
end
end
section
variable{X : Cx}{CL : ClA}{W : XW}
theorem F8(x : PlainL h a its) : h.IsList a its := let ⟨o, n, e, c, _, d⟩ := x;⟨o, e, c, n, d⟩
noncomputable def fC(X : Cx)(CL : ClA)(H : Hp)(s : Ak)(d : D)(u : Ah) : Prop := match d with
  |.non => u = .none
  |.bl b => u = .bool b
  |.int i => ∃ t, u = .int i t
  |.str x => ∃ t, u = .str x t
  |.tup ds => ∃ a xs its, u = .ref a /\ Reps X.K CL H A0 xs ds /\ AZ xs its /\ s.heap.IsTuple a its.toArray
  |.lst ds => ∃ a xs its, u = .ref a /\ Reps X.K CL H A0 xs ds /\ AZ xs its /\ s.heap.IsList a its.toArray
  |_ => A6
theorem N6(I : Inv X pI σ H s)(hd : flD n d = Ac)(r : Rep X.K CL H A0 v d)(q : Bo v u) : fC X CL H s d u := by
 cases d with
 |non => cases r;exact q
 |bl b => cases r;exact q
 |int b => cases r;exact q
 |str b => cases r;exact q
 |tup ds=>
  obtain⟨a, xs, rfl, _, sq, r⟩ := r;obtain⟨its, rv, p, _⟩ := I.tuple sq;cases q;exact⟨a, xs, its, rfl, r, rv, p⟩
 |lst ds=>
  obtain⟨a, xs, rfl, _, sq, r⟩ := r;obtain⟨its, rv, p, _⟩ := I.list sq;cases q;exact⟨a, xs, its, rfl, r, rv, F8 p⟩
 |obj => cases n <;> cases hd
 |exc => cases n <;> cases hd
 |dic => cases n <;> cases hd
theorem Vs{B:A3}{its:Ab Ah}{ds es : Ab D}(hl : s.heap.IsList l its.toArray)(hb : s.heap.IsList b its2.toArray)(e1 : its.length = ds.length)(e2 : its2.length = es.length)(hu : B.units<BP)(hs : l = b -> eqDs ds es = Ac)(he : ∀ j (h1 : j<its.length) (h2 : j<its2.length), EL B.in1 s its[j] its2[j] (eqD (ds.getD j .non) (es.getD j .non))) : B6 B s (.ref l) (.ref b) (eqDs ds es) := by
 have rc : Hv B s (.ref l) (.ref b) (eqDs ds es) := by
  by_cases hz : its.length = its2.length
  ·have q := SeqAt.RcAt.lists (e := fun j => eqD (ds.getD j .non) (es.getD j .non)) hl hb (by simpa using hz) hu (fun j h1 h2 => by simpa using he j (by simpa using h1) (by simpa using h2))
   rw[IP (by omega)]
   have e : its.toArray.size = ds.length := by simpa using e1
   rw[e]at q;exact q
  ·rw[IN (by omega)]
   exact SeqAt.RcAt.lists_lengths hl hb (by simpa using hz) hu
 have ne : GO B s (.ref l) (.ref b) (!eqDs ds es) := by
  by_cases hz : its.length = its2.length
  ·have q := SeqAt.RcNeAt.lists (e := fun j => eqD (ds.getD j .non) (es.getD j .non)) hl hb (by simpa using hz) hu (fun j h1 h2 => by simpa using he j (by simpa using h1) (by simpa using h2))
   rw[IP (by omega)]
   have e : its.toArray.size = ds.length := by simpa using e1
   rw[e]at q;exact q
  ·rw[IN (by omega)]
   exact SeqAt.RcNeAt.lists_lengths hl hb (by simpa using hz) hu
 refine⟨rc, ?_, ne⟩;by_cases hlb : l = b
 ·rw[hs hlb, hlb];exact Sg _
 ·exact Sf hlb rc
theorem Vr{B:A3}{its:Ab Ah}{ds es : Ab D}(hl : s.heap.IsTuple l its.toArray)(hb : s.heap.IsTuple b its2.toArray)(e1 : its.length = ds.length)(e2 : its2.length = es.length)(hu : B.units<BP)(hs : l = b -> eqDs ds es = Ac)(he : ∀ j (h1 : j<its.length) (h2 : j<its2.length), EL B.in1 s its[j] its2[j] (eqD (ds.getD j .non) (es.getD j .non))) : B6 B s (.ref l) (.ref b) (eqDs ds es) := by
 have rc : Hv B s (.ref l) (.ref b) (eqDs ds es) := by
  have q := SeqAt.RcAt.tuples (e := fun j => eqD (ds.getD j .non) (es.getD j .non)) hl hb hu (fun j h1 h2 => by simpa using he j (by simpa using h1) (by simpa using h2))
  have e : its.toArray.size = ds.length := by simpa using e1
  have e' : its2.toArray.size = es.length := by simpa using e2
  rw[e, e']at q;by_cases hz : ds.length = es.length
  ·rw[IP hz];rw[hz, RD, DP, QW]at q;rw[hz];exact q
  ·rw[IN hz];rw[CH.mpr hz, Gh]at q;exact q
 have ne : GO B s (.ref l) (.ref b) (!eqDs ds es) := by
  have q := SeqAt.RcNeAt.tuples (e := fun j => eqD (ds.getD j .non) (es.getD j .non)) hl hb hu (fun j h1 h2 => by simpa using he j (by simpa using h1) (by simpa using h2))
  have e : its.toArray.size = ds.length := by simpa using e1
  have e' : its2.toArray.size = es.length := by simpa using e2
  rw[e, e']at q;by_cases hz : ds.length = es.length
  ·rw[IP hz];rw[hz, RD, DP, QW]at q;rw[hz];exact q
  ·rw[IN hz];rw[CH.mpr hz, Gh]at q;exact q
 refine⟨rc, ?_, ne⟩;by_cases hlb : l = b
 ·rw[hs hlb, hlb];exact Sg _
 ·exact Sf hlb rc
theorem IW{pI : Ab (Ai × AJ)}{σ : L2.St}{H : Hp}{s : Ak}(I : Inv X pI σ H s) :∀(n :Ag)(d e :D)(v w' :V)(u t :Ah)(B :A3),flD n d = Ac->flD n e = Ac->Rep X.K CL H A0 v d->Rep X.K CL H A0 w' e->Bo v u->Bo w' t->B.units+n<BP->B6 B s u t (eqD d e)
  |n, d, e, v, w', u, t, B, hd, he, r, q, rv, rw', hu => by
    have hu0 : B.units<BP := by omega
    have sd := N6 I hd r rv;have se := N6 I he q rw'
    match d, e, sd, se with
    |.non, .non, s1, s2 => cases s1;cases s2;exact bG
    |.non, .bl b, s1, s2 => cases s1;cases s2;exact bK b
    |.non, .int b, s1, s2 => cases s1;obtain⟨_, rfl⟩ := s2;exact bJ b _
    |.non, .str b, s1, s2 => cases s1;obtain⟨_, rfl⟩ := s2;exact bF b _
    |.non, .tup es, s1, s2 => cases s1;obtain⟨_, _, _, rfl, _, _, p⟩ := s2;exact bE p hu0
    |.non, .lst es, s1, s2 => cases s1;obtain⟨_, _, _, rfl, _, _, p⟩ := s2;exact bH p hu0
    |.bl a, .non, s1, s2 => cases s1;cases s2;exact aE a
    |.bl a, .bl b, s1, s2 => cases s1;cases s2;exact aH a b
    |.bl a, .int b, s1, s2 => cases s1;obtain⟨_, rfl⟩ := s2;exact aG a b _
    |.bl a, .str b, s1, s2 => cases s1;obtain⟨_, rfl⟩ := s2;exact aD a b _
    |.bl a, .tup es, s1, s2 => cases s1;obtain⟨_, _, _, rfl, _, _, p⟩ := s2;exact aC a p hu0
    |.bl a, .lst es, s1, s2 => cases s1;obtain⟨_, _, _, rfl, _, _, p⟩ := s2;exact aF a p hu0
    |.int a, .non, s1, s2 => obtain⟨_, rfl⟩ := s1;cases s2;exact Z7 a _
    |.int a, .bl b, s1, s2 => obtain⟨_, rfl⟩ := s1;cases s2;exact aA b a _
    |.int a, .int b, s1, s2 => obtain⟨_, rfl⟩ := s1;obtain⟨_, rfl⟩ := s2;exact Z9 a _ b _
    |.int a, .str b, s1, s2 => obtain⟨_, rfl⟩ := s1;obtain⟨_, rfl⟩ := s2;exact Z6 a _ b _
    |.int a, .tup es, s1, s2 => obtain⟨_, rfl⟩ := s1;obtain⟨_, _, _, rfl, _, _, p⟩ := s2;exact Z5 a _ p hu0
    |.int a, .lst es, s1, s2 => obtain⟨_, rfl⟩ := s1;obtain⟨_, _, _, rfl, _, _, p⟩ := s2;exact Z8 a _ p hu0
    |.str a, .non, s1, s2 => obtain⟨_, rfl⟩ := s1;cases s2;exact aZ a _
    |.str a, .bl b, s1, s2 => obtain⟨_, rfl⟩ := s1;cases s2;exact bD b a _
    |.str a, .int b, s1, s2 => obtain⟨_, rfl⟩ := s1;obtain⟨_, rfl⟩ := s2;exact bB a _ b _
    |.str a, .str b, s1, s2 => obtain⟨_, rfl⟩ := s1;obtain⟨_, rfl⟩ := s2;exact aY a _ b _
    |.str a, .tup es, s1, s2 => obtain⟨_, rfl⟩ := s1;obtain⟨_, _, _, rfl, _, _, p⟩ := s2;exact aX a _ p hu0
    |.str a, .lst es, s1, s2 => obtain⟨_, rfl⟩ := s1;obtain⟨_, _, _, rfl, _, _, p⟩ := s2;exact bA a _ p hu0
    |.tup ds, .non, s1, s2 => cases s2;obtain⟨_, _, _, rfl, _, _, p⟩ := s1;exact aT p hu0
    |.tup ds, .bl b, s1, s2 => cases s2;obtain⟨_, _, _, rfl, _, _, p⟩ := s1;exact aW b p hu0
    |.tup ds, .int b, s1, s2 => obtain⟨_, rfl⟩ := s2;obtain⟨_, _, _, rfl, _, _, p⟩ := s1;exact aV b _ p hu0
    |.tup ds, .str b, s1, s2 => obtain⟨_, rfl⟩ := s2;obtain⟨_, _, _, rfl, _, _, p⟩ := s1;exact aS b _ p hu0
    |.tup ds, .lst es, s1, s2 => obtain⟨_, _, _, rfl, _, _, p⟩ := s1;obtain⟨_, _, _, rfl, _, _, p2⟩ := s2;exact aU p p2 hu0
    |.lst ds, .non, s1, s2 => cases s2;obtain⟨_, _, _, rfl, _, _, p⟩ := s1;exact Z1 p hu0
    |.lst ds, .bl b, s1, s2 => cases s2;obtain⟨_, _, _, rfl, _, _, p⟩ := s1;exact Z4 b p hu0
    |.lst ds, .int b, s1, s2 => obtain⟨_, rfl⟩ := s2;obtain⟨_, _, _, rfl, _, _, p⟩ := s1;exact Z2 b _ p hu0
    |.lst ds, .str b, s1, s2 => obtain⟨_, rfl⟩ := s2;obtain⟨_, _, _, rfl, _, _, p⟩ := s1;exact Z0 b _ p hu0
    |.lst ds, .tup es, s1, s2 => obtain⟨_, _, _, rfl, _, _, p⟩ := s1;obtain⟨_, _, _, rfl, _, _, p2⟩ := s2;exact ZZ p p2 hu0
    |.tup ds, .tup es, s1, s2=>
      match n, hd, he, hu with
      |n+1, hd, he, hu=>
        obtain⟨a, xs, its, rfl, r1, v1, p1⟩ := s1;obtain⟨b, ys, its2, rfl, r2, v2, p2⟩ := s2;have l1 := v1.length;have l2 := r1.length;have l3 := v2.length;have l4 := r2.length
        refine Vr p1 p2 (by omega) (by omega) hu0 (fun hab => ?_) fun j h1 h2 => ?_
        · have e1 : v = .ref a := Bo.inj rv rfl;have e2 : w' = .ref b := Bo.inj rw' rfl;subst e1 e2 hab;have z := JO I (n+1) _ _ hd he r q
          injection z with z
          rw[z];exact eqDs_refl n es he
        · obtain⟨x, rx, qx⟩ := Hh r1 v1 h1;obtain⟨y, ry, qy⟩ := Hh r2 v2 h2;exact(IW I n _ _ x y _ _ B.in1 (Hf hd j) (Hf he j) rx ry qx qy (by show B.units+1+n<BP;omega)).2.1
    |.lst ds, .lst es, s1, s2=>
      match n, hd, he, hu with
      |n+1, hd, he, hu=>
        obtain⟨a, xs, its, rfl, r1, v1, p1⟩ := s1;obtain⟨b, ys, its2, rfl, r2, v2, p2⟩ := s2;have l1 := v1.length;have l2 := r1.length;have l3 := v2.length;have l4 := r2.length
        refine Vs p1 p2 (by omega) (by omega) hu0 (fun hab => ?_) fun j h1 h2 => ?_
        · have e1 : v = .ref a := Bo.inj rv rfl;have e2 : w' = .ref b := Bo.inj rw' rfl;subst e1 e2 hab;have z := JO I (n+1) _ _ hd he r q
          injection z with z
          rw[z];exact eqDs_refl n es he
        · obtain⟨x, rx, qx⟩ := Hh r1 v1 h1;obtain⟨y, ry, qy⟩ := Hh r2 v2 h2;exact(IW I n _ _ x y _ _ B.in1 (Hf hd j) (Hf he j) rx ry qx qy (by show B.units+1+n<BP;omega)).2.1
    |.obj _ _, _, s1, _ => exact s1.elim
    |.exc _ _, _, s1, _ => exact s1.elim
    |.dic _, _, s1, _ => exact s1.elim
    |_, .obj _ _, _, s2 => exact s2.elim
    |_, .exc _ _, _, s2 => exact s2.elim
    |_, .dic _, _, s2 => exact s2.elim
end
section
variable{X : Cx}{CL : ClA}{W : XW}
theorem JT(I : Inv X pI σ H s){ds : Ab D}{its:Ab Ah}(B : A3)(hd : flD n d = Ac)(hs : ds.all (flD n) = Ac)(r : Reps X.K CL H A0 xs ds)(rv : AZ xs its)(q : Rep X.K CL H A0 v d)(qv : Bo v u)(hu : B.units+n<BP):∃ e :Ah->An,(∀ y,y ∈ its.toArray->EL B s y u (e y))/\its.toArray.any e = ds.any fun y =>eqD y d := by
 have l1 := rv.length;have l2 := r.length
 have key : ∀ y, y ∈ its -> ∃ k : An, EL B s y u k /\ ∀ j (h : j<its.length), its[j] = y -> eqD (ds.getD j .non) d = k := fun y hy => by
  obtain⟨j, hj, rfl⟩ := EV hy;obtain⟨x, rx, qx⟩ := Hh r rv hj;refine⟨eqD (ds.getD j .non) d, (IW I n _ _ x v _ _ B (Hf hs j) hd rx q qx qv hu).2.1, fun j' hj' e => ?_⟩
  obtain⟨x', rx', qx'⟩ := Hh r rv hj';rw[e]at qx';have z := Bo.inj qx qx';subst z;rw[JO I n _ _ (Hf hs j') (Hf hs j) rx' rx]
 have key2 : ∀ y, ∃ k : An, y ∈ its -> EL B s y u k /\ ∀ j (h : j<its.length), its[j] = y -> eqD (ds.getD j .non) d = k := fun y => by
  by_cases hy : y ∈ its
  ·obtain⟨k, hk⟩ := key y hy;exact⟨k, fun _ => hk⟩
  ·exact⟨Ac, fun h => absurd h hy⟩
 refine⟨fun y => QY (key2 y), fun y hy => (DC (key2 y) (by simpa using hy)).1, ?_⟩
 rw[Cy];simp only[List.any_toArray, Q7];constructor
 ·rintro⟨y, hy, hk⟩;obtain⟨j, hj, rfl⟩ := EV hy;have z := (DC (key2 its[j]) hy).2 j hj rfl;rw[hk]at z;refine⟨ds.getD j .non, ?_, z⟩;rw[CV, Bz (by omega)]
  exact FI _
 ·rintro⟨y, hy, hk⟩;obtain⟨j, hj, rfl⟩ := EV hy;have hj' : j<its.length := by omega
  refine⟨its[j], FI _, ?_⟩;have z := (DC (key2 its[j]) (FI _)).2 j hj' rfl;rw[<-z, CV, Bz hj];exact hk
theorem JK{g:Ae -> Ae -> An}(ho : OpR X (B0 op) (rI0 fun i j => .bl (g i j)))(hg : ∀ dx dy, (∃ i j, dx = .int i /\ dy = .int j /\ BD op dx dy = .ok (.bl (g i j))) \/ BD op dx dy = .bad) : OpD X CL W (B0 op) (BD op) := by
 intro A pI s σ H x y v u Q I rx ry ⟨hA, dx, dy, hx, hy, p⟩;rcases hg dx dy with ⟨i, j, rfl, rfl, e⟩|e
 ·have ex := hx.int_of;have ey := hy.int_of
  subst ex ey;rw[e]at p;exact ho pI s σ H _ _ v u Q I rx ry ⟨i, j, rfl, rfl, p _ H (Ay.refl H) rfl⟩
 ·rw[e]at p;exact p.elim
theorem Pc{x:V}(h : Cj X.K CL H A x d)(hd : d ≠ .non) : x ≠ .non := by
 rintro rfl;have h := h.plain;cases d with
 |non => exact hd rfl
 |tup => obtain⟨_, _, e, _⟩ := h;cases e
 |lst => obtain⟨_, _, e, _⟩ := h;cases e
 |obj => obtain⟨_, _, _, _, e, _⟩ := h;cases e
 |exc => obtain⟨_, _, _, e, _⟩ := h;cases e
 |dic => exact h.elim
 |_ => cases h
theorem HM(hu : X.A.units+64<BP)(op : DB) : OpD X CL W (B0 op) (BD op) := by
 cases op with
 |Eq=>
  intro A pI s σ H x y v u Q I rx ry ⟨hA, dx, dy, hx, hy, p⟩;rw[dQ]at p;split at p
  ·rename_i h;simp only[Al]at h;exact(IW I 5 dx dy x y v u X.A h.1 h.2 hx.plain hy.plain rx ry (by omega)).1 X.prog X.w X.xe _ ⟨.bl _, H, I, rfl, p _ H (Ay.refl H) rfl⟩
  ·exact p.elim
 |NotEq=>
  intro A pI s σ H x y v u Q I rx ry ⟨hA, dx, dy, hx, hy, p⟩;rw[cS]at p;split at p
  ·rename_i h;simp only[Al]at h;exact(IW I 5 dx dy x y v u X.A h.1 h.2 hx.plain hy.plain rx ry (by omega)).2.2 X.prog X.w X.xe _ ⟨.bl _, H, I, rfl, p _ H (Ay.refl H) rfl⟩
  ·exact p.elim
 |Lt => exact JK cJ fun dx dy => by cases dx <;> cases dy <;> first|exact .inl ⟨_, _, rfl, rfl, rfl⟩|exact .inr rfl
 |LtE => exact JK cK fun dx dy => by cases dx <;> cases dy <;> first|exact .inl ⟨_, _, rfl, rfl, rfl⟩|exact .inr rfl
 |Gt => exact JK cN fun dx dy => by cases dx <;> cases dy <;> first|exact .inl ⟨_, _, rfl, rfl, rfl⟩|exact .inr rfl
 |GtE => exact JK cO fun dx dy => by cases dx <;> cases dy <;> first|exact .inl ⟨_, _, rfl, rfl, rfl⟩|exact .inr rfl
 |In=>
  intro A pI s σ H x y v u Q I rx ry ⟨hA, dx, dy, hx, hy, p⟩;cases dy with
  |lst es=>
   rw[eN]at p;split at p
   ·rename_i h;simp only[Al]at h;obtain⟨a, xs, e, _, sq, r⟩ := hy.plain;subst e;cases ry;obtain⟨its, rv, pl, _⟩ := I.list sq;obtain⟨e, he, ha⟩ := JT I (n := 5) X.A.in1 h.1 h.2 r rv hx.plain rx (by show X.A.units+1+5<BP;omega)
    refine SeqAt.in_listAt e (F8 pl) he ?_;rw[ha];exact⟨.bl _, H, I, rfl, p _ H (Ay.refl H) rfl⟩
   ·exact p.elim
  |tup es=>
   rw[eK]at p;split at p
   ·rename_i h;simp only[Al]at h;obtain⟨a, xs, e, _, sq, r⟩ := hy.plain;subst e;cases ry;obtain⟨its, rv, pl, _⟩ := I.tuple sq;obtain⟨e, he, ha⟩ := JT I (n := 5) X.A.in1 h.1 h.2 r rv hx.plain rx (by show X.A.units+1+5<BP;omega)
    refine SeqAt.in_tupleAt e pl he ?_;rw[ha];exact⟨.bl _, H, I, rfl, p _ H (Ay.refl H) rfl⟩
   ·exact p.elim
  |dic kvs => exact hy.plain.elim
  |_ => cases dx <;> exact p.elim
 |NotIn=>
  intro A pI s σ H x y v u Q I rx ry ⟨hA, dx, dy, hx, hy, p⟩;cases dy with
  |lst es=>
   rw[cQ]at p;split at p
   ·rename_i h;simp only[Al]at h;obtain⟨a, xs, e, _, sq, r⟩ := hy.plain;subst e;cases ry;obtain⟨its, rv, pl, _⟩ := I.list sq;obtain⟨e, he, ha⟩ := JT I (n := 5) X.A.in1 h.1 h.2 r rv hx.plain rx (by show X.A.units+1+5<BP;omega)
    refine SeqAt.notIn_listAt e (F8 pl) he ?_;rw[ha];exact⟨.bl _, H, I, rfl, p _ H (Ay.refl H) rfl⟩
   ·exact p.elim
  |tup es=>
   rw[cP]at p;split at p
   ·rename_i h;simp only[Al]at h;obtain⟨a, xs, e, _, sq, r⟩ := hy.plain;subst e;cases ry;obtain⟨its, rv, pl, _⟩ := I.tuple sq;obtain⟨e, he, ha⟩ := JT I (n := 5) X.A.in1 h.1 h.2 r rv hx.plain rx (by show X.A.units+1+5<BP;omega)
    refine SeqAt.notIn_tupleAt e pl he ?_;rw[ha];exact⟨.bl _, H, I, rfl, p _ H (Ay.refl H) rfl⟩
   ·exact p.elim
  |_ => cases dx <;> exact p.elim
 |Is=>
  intro A pI s σ H x y v u Q I rx ry ⟨hA, dx, dy, hx, hy, p⟩;cases dy with
  |non=>
   have ey := hy.non_of;subst ey;refine YU pI s σ H _ _ v u Q I rx ry ⟨rfl, ?_⟩;cases dx with
   |non=>
    have ex := hx.non_of;subst ex;exact p _ H (Ay.refl H) rfl
   |exc => exact p.elim
   |dic => exact p.elim
   |_ => rw[Ck (Pc hx (by simp))];exact p _ H (Ay.refl H) rfl
  |bl b=>
   cases dx with
   |bl a=>
    have ey := hy.bl_of;have ex := hx.bl_of;subst ex ey;cases rx;cases ry;refine wpAny_is_plain rfl ⟨.bl (a==b), H, I, ?_, p _ H (Ay.refl H) rfl⟩;cases a <;> cases b <;> rfl
   |_ => exact p.elim
  |_ => cases dx <;> exact p.elim
 |IsNot=>
  intro A pI s σ H x y v u Q I rx ry ⟨hA, dx, dy, hx, hy, p⟩;cases dy with
  |non=>
   have ey := hy.non_of;subst ey;refine WE pI s σ H _ _ v u Q I rx ry ⟨rfl, ?_⟩;cases dx with
   |non=>
    have ex := hx.non_of;subst ex;exact p _ H (Ay.refl H) rfl
   |exc => exact p.elim
   |dic => exact p.elim
   |_ => rw[Ck (Pc hx (by simp))];exact p _ H (Ay.refl H) rfl
  |bl b=>
   cases dx with
   |bl a=>
    have ey := hy.bl_of;have ex := hx.bl_of;subst ex ey;cases rx;cases ry;refine wpAny_isNot_plain rfl ⟨.bl (!(a==b)), H, I, ?_, p _ H (Ay.refl H) rfl⟩;cases a <;> cases b <;> rfl
   |_ => exact p.elim
  |_ => cases dx <;> exact p.elim
end
section
variable{X : Cx}{CL : ClA}{W : XW}{a b c : Ao}{fa fb fc : Rho -> R D}{pos : AN}
theorem Cr.bind{f:D -> R An}{Q:An -> Hp -> Prop}{Q':VK}(h : Cr W H (r.bind f) Q)(k : ∀ d v H', r = .ok d -> Ay H H' -> Rp H' v d -> Cr W H' (f d) Q -> Q' v H') : A5 Rp W H r Q' := by
 cases r with
 |ok d => exact fun v H2 s2 q => k d v H2 rfl s2 q (Cr.same s2 h)
 |exn x => exact h
 |bad => exact h
theorem Cr.bindB{r:R An}{f:An -> R An}{Q:An -> Hp -> Prop}{Q':An -> Hp -> Prop}(h : Cr W H (r.bind f) Q)(k : ∀ b H', r = .ok b -> Ay H H' -> Cr W H' (f b) Q -> Q' b H') : Cr W H r Q' := by
 cases r with
 |ok d => exact fun H2 s2 => k d H2 rfl s2 (Cr.same s2 h)
 |exn x => exact h
 |bad => exact h
theorem FU.bind{Rp:Hp -> Ab V -> Ab D -> Prop}{r:R (Ab D)}{f:Ab D -> R D}{Q:VK}{Q':Ab V -> Hp -> Prop}(h : A5 Rq W H (r.bind f) Q)(k : ∀ d v H', r = .ok d -> Ay H H' -> Rp H' v d -> A5 Rq W H' (f d) Q -> Q' v H') : FU Rp W H r Q' := by
 cases r with
 |ok d => exact fun v H2 s2 q => k d v H2 rfl s2 q (A5.same s2 h)
 |exn x => exact h
 |bad => exact h
theorem JD{f:An -> R D}{Q:VK}(h : A5 Rq W H ((C1 d).bind f) Q) : ∃ c, d = .bl c /\ A5 Rq W H (f c) Q := by
 cases d with
 |bl c => exact⟨c, rfl, h⟩
 |_ => exact h.elim
theorem X7(ha : ST X CL W a fa) : SE X CL W (.UnaryOp .Not a pos) (fun ρ => (fa ρ).bind fun x => (C1 x).bind fun b => .ok (.bl (!b))) := fun A => PE.weak (YK (ha A)) fun σ H Q ⟨hA, ρ, g, p⟩ => ⟨hA, ρ, g, A5.bind p fun d v H1 _ s1 r1 p1 => by
 obtain⟨c, rfl, p2⟩ := JD p1;exact⟨c, r1.bl_of, p2 _ H1 (Ay.refl H1) rfl⟩⟩
theorem O6{op}(ha : SE X CL W a fa) : SE X CL W (.BoolOp op [a] pos) fa := fun A => YJ (ha A)
theorem Yg{rest : Ab Ao}(ha : SE X CL W a fa)(hb : SE X CL W (.BoolOp .And (b::rest) pos) fb) : SE X CL W (.BoolOp .And (a::b::rest) pos) (fun ρ => (fa ρ).bind fun x => (C1 x).bind fun c => if c = Ac then fb ρ else .ok (.bl Ad)):=
 fun A => PE.weak (YQ (ha A) (hb A)) fun σ H Q ⟨hA, ρ, g, p⟩ => ⟨hA, ρ, g, A5.bind p fun d v H1 _ s1 r1 p1 => by
  obtain⟨c, rfl, p2⟩ := JD p1;refine⟨c, r1, ?_⟩;cases c with
  |true => exact⟨hA.same s1, ρ, g.same s1, p2⟩
  | false => exact p2 _ H1 (Ay.refl H1) rfl⟩
theorem aQ{rest : Ab Ao}(ha : SE X CL W a fa)(hb : SE X CL W (.BoolOp .Or (b::rest) pos) fb) : SE X CL W (.BoolOp .Or (a::b::rest) pos) (fun ρ => (fa ρ).bind fun x => (C1 x).bind fun c => if c = Ac then .ok (.bl Ac) else fb ρ):=
 fun A => PE.weak (ZW (ha A) (hb A)) fun σ H Q ⟨hA, ρ, g, p⟩ => ⟨hA, ρ, g, A5.bind p fun d v H1 _ s1 r1 p1 => by
  obtain⟨c, rfl, p2⟩ := JD p1;refine⟨c, r1, ?_⟩;cases c with
  |false => exact⟨hA.same s1, ρ, g.same s1, p2⟩
  | true => exact p2 _ H1 (Ay.refl H1) rfl⟩
theorem Uz(hu : X.A.units+64<BP)(ha : ST X CL W a fa)(hb : ST X CL W b fb)(hc : ST X CL W c fc)(hm : GR [op, op'] [b, c] = Ad):SE X CL W (.Compare a [op,op'] [b,c] pos) (fun ρ =>(fa ρ).bind fun x =>(fb ρ).bind fun y =>(BD op x y).bind fun z =>(C1 z).bind fun k =>if k = Ac then (fc ρ).bind fun u =>BD op' y u else .ok (.bl Ad)):=
 fun A => PE.weak (Ue (HM hu op A) (HM hu op' A) (ha A) (hb A) (hc A) hm) fun σ H Q ⟨hA, ρ, g, p⟩ => ⟨hA, ρ, g, A5.bind p fun dx x H1 _ s1 r1 p1 => ⟨hA.same s1, ρ, g.same s1, A5.bind p1 fun dy y H2 _ s2 r2 p2=>
  ⟨(hA.same s1).same s2, dx, dy, r1.same s2, r2, A5.bind p2 fun dz z H3 _ s3 r3 p3 => by
   obtain⟨k, rfl, p4⟩ := JD p3;refine⟨k, r3, ?_⟩;cases k with
   |false => exact p4 _ H3 (Ay.refl H3) rfl
   | true => exact⟨((hA.same s1).same s2).same s3, ρ, ((g.same s1).same s2).same s3, A5.bind p4 fun du u H4 _ s4 r4 p5 => ⟨(((hA.same s1).same s2).same s3).same s4, dy, du, (r2.same s3).same s4, r4, p5⟩⟩⟩⟩⟩
theorem Wh{xs:Ab D}{i:Ae}(h : Dm xs i = .ok d) : ∃ k, plD xs.length i = Aa k /\ xs[k]? = Aa d := by
 unfold Dm at h;split at h
 ·rename_i k e;split at h
  ·rename_i d' e';cases h;exact⟨k, e, e'⟩
  ·cases h
 ·cases h
theorem Oa{xs:Ab D}{i:Ae}(h : Dm xs i = .exn x) : A6 := by
 unfold Dm at h;split at h
 ·split at h <;> cases h
 ·cases h
theorem OT{ds : Ab D}{i:Ae}(r : Reps K CL H A xs ds)(h : Dm ds i = .ok d) : ∃ v, atI xs i = Aa v /\ Rep K CL H A v d := by
 obtain⟨k, e, q⟩ := Wh h;obtain⟨v, hv, rv⟩ := r.get q;refine⟨v, ?_, rv⟩;unfold atI;have : ixN xs.length i = Aa k := by rw[r.length];exact e
 rw[this];exact hv
theorem Yc(hs : Ls b)(ha : ST X CL W a fa)(hb : ST X CL W b fb) : SE X CL W (.Subscript a b pos) (fun ρ => (fa ρ).bind fun x => (fb ρ).bind fun y => Ci x y):=
 fun A => PE.weak (ZX (r := fun x y H Q => Qt X.K x y H Q \/ Qs X.K x y H Q) (WR.or Yz) (ha A) (hb A) hs) fun σ H Q h => by
  obtain⟨hA, ρ, g, h⟩ := op2 h;refine⟨hA, ρ, g, ?_⟩;cases e : fa ρ with
  |bad => rw[e]at h;exact h
  |exn x => rw[e]at h;exact h
  |ok dx0=>
   rw[e]at h;intro x H1 s1 r1;obtain⟨hA1, ρ1, g1, h1⟩ := h x H1 s1 r1;refine⟨hA1, ρ1, g1, ?_⟩;cases e1 : fb ρ1 with
   |bad => rw[e1]at h1;exact h1
   |exn x => rw[e1]at h1;exact h1
   |ok dy0=>
    rw[e1]at h1;intro y H2 s2 r2;obtain⟨hA2, dx, dy, rx, ry, p⟩ := h1 y H2 s2 r2;cases dy with
    |int i=>
     have ey := ry.int_of;subst ey;cases dx with
     |lst ds=>
      obtain⟨q, xs, rfl, sq, r⟩ := rx.lst_of;rw[bQ]at p;cases e2 : Dm ds i with
      |ok d=>
       rw[e2]at p;obtain⟨v, hv, rv⟩ := OT r e2;exact .inl ⟨q, xs, i, v, rfl, rfl, sq, hv, p v H2 (Ay.refl H2) rv⟩
      |exn x => exact(Oa e2).elim
      |bad => rw[e2]at p;exact p.elim
     |tup ds=>
      obtain⟨q, xs, rfl, _, sq, r⟩ := rx.tup_of;rw[bP]at p;cases e2 : Dm ds i with
      |ok d=>
       rw[e2]at p;obtain⟨v, hv, rv⟩ := OT r e2;exact .inr ⟨q, xs, i, v, rfl, rfl, sq, hv, p v H2 (Ay.refl H2) rv⟩
      |exn x => exact(Oa e2).elim
      |bad => rw[e2]at p;exact p.elim
     |dic => exact rx.plain.elim
     |_ => exact p.elim
    |_ => cases dx <;> first|exact p.elim|exact rx.plain.elim
theorem Yk : SA X CL W [] (fun _ => .ok []) := fun A => PA.weak GA fun σ H Q ⟨hA, ρ, g, p⟩ => p [] H (Ay.refl H) trivial
theorem Vp(ha : SE X CL W a fa)(hs : SA X CL W es fs)(hst : Ax (a::es) X.env = (Ad, eval a X.env)::Ax es X.env) : SA X CL W (a::es) (fun ρ => (fa ρ).bind fun x => (fs ρ).bind fun xs => .ok (x::xs)):=
 fun A => PA.weak (E2 (ha A) (hs A) hst) fun σ H Q ⟨hA, ρ, g, p⟩ => by
  dsimp only at p;refine⟨hA, ρ, g, ?_⟩;cases e : fa ρ with
  |bad => rw[e]at p;exact p
  |exn x => rw[e]at p;exact p
  |ok d=>
   rw[e]at p;intro v H1 s1 r1;refine⟨hA.same s1, ρ, g.same s1, ?_⟩;cases e1 : fs ρ with
   |bad => rw[R.bind_ok, e1]at p;exact p
   |exn x => rw[R.bind_ok, e1]at p;exact fun H2 s2 => p H2 (s1.trans s2)
   |ok ds=>
    rw[R.bind_ok, e1]at p;exact fun vs H2 s2 r2 => p (v::vs) H2 (s1.trans s2) ⟨r1.same s2, r2⟩
theorem X5(hs : SA X CL W es fs)(hz : ∀ ρ ds, fs ρ = .ok ds -> ds.length <= 100000) : SE X CL W (.Tuple es k pos) (fun ρ => (fs ρ).bind fun xs => .ok (.tup xs)):=
 fun A => PE.weak (Xs (hs A)) fun σ H Q ⟨hA, ρ, g, p⟩ => ⟨hA, ρ, g, FU.bind p fun ds vs H1 e s1 r1 p1 => ⟨by
  rw[r1.length, DR];have := hz ρ ds e;omega, fun q hq => p1 _ _ (Er hq _) (HN (hA.same s1) hq r1)⟩⟩
noncomputable def Hk(W : XW)(H : Hp)(r : R (Ap Ae))(Q : Ap Ae -> Hp -> Prop) : Prop := match r with
  |.ok o => ∀ H', Ay H H' -> Q o H'
  |.exn x => ∀ H', Ay H H' -> W x H'
  |.bad => A6
theorem Hk.bind{r:R (Ap Ae)}{f:Ap Ae -> R D}{Q:VK}(h : A5 Rq W H (r.bind f) Q)(k : ∀ o H', r = .ok o -> Ay H H' -> A5 Rq W H' (f o) Q -> Q' o H') : Hk W H r Q' := by
 cases r with
 |ok d => exact fun H2 s2 => k d H2 rfl s2 (A5.same s2 h)
 |exn x => exact h
 |bad => exact h
noncomputable def SO(X : Cx)(CL : ClA)(W : XW)(e : Ap Ao)(f : Rho -> R (Ap Ae)) : Prop := ∀ A, PO X e (fun σ H Q => AOk H A /\ ∃ ρ, Good X.K CL A ρ σ H /\ Hk W H (f ρ) Q)
theorem PO.weak{e:Ap Ao}{t t':TO}(h : PO X e t)(k : ∀ σ H Q, t' σ H Q -> t σ H Q) : PO X e t' := fun pI s σ H Q I q => h pI s σ H Q I (k _ _ _ q)
theorem V6 : SO X CL W Af (fun _ => .ok Af) := fun A => PO.weak Vd fun σ H Q ⟨hA, ρ, g, p⟩ => p H (Ay.refl H)
theorem V5(ha : ST X CL W a fa) : SO X CL W (Aa a) (fun ρ => (fa ρ).bind fun d => (Dp d).bind fun i => .ok (Aa i)) := fun A => PO.weak (Vc (ha A)) fun σ H Q ⟨hA, ρ, g, p⟩ => by
 dsimp only at p;refine⟨hA, ρ, g, ?_⟩;cases e : fa ρ with
 |bad => rw[e]at p;exact p
 |exn x => rw[e]at p;exact p
 |ok d=>
  rw[e]at p;intro v H1 s1 r1;cases d with
  |int i => exact⟨i, r1.int_of, p H1 s1⟩
  |_ => exact p.elim
theorem Oq{ds : Ab D}(lo hi : Ap Ae)(r : Reps K CL H A xs ds) : Reps K CL H A (G2 xs lo hi) (Hm ds lo hi) := by
 unfold G2 Hm;have e : ∀ d o, HT.sIx xs.length d o = Ge ds.length d o := fun d o => by rw[r.length];cases o <;> rfl
 rw[e, e, r.length];exact(r.drop _).take _
end
section
variable{X : Cx}{CL : ClA}{W : XW}{a b c : Ao}{fa fb fc : Rho -> R D}{pos : AN}
def Et(K : Fg)(CL : ClA)(H : Hp)(A : Ai -> Prop) : Ab V -> Ab D -> Prop
 |[], [] => Gv
 |v::vs, d::ds => Cj K CL H A v d /\ Et K CL H A vs ds
 |_, _ => A6
theorem Et.same{K : Fg}{H H' : Hp}{A : Ai -> Prop}(s : Ay H H') : ∀{vs : Ab V}{ds : Ab D}, Et K CL H A vs ds -> Et K CL H' A vs ds
 |[], [], h => h
 |_::_, _::_, h => ⟨h.1.same s, Et.same s h.2⟩
 |[], _::_, h => h.elim
 |_::_, [], h => h.elim
theorem Et.one(h : Et K CL H A vs [d]) : ∃ v, vs = [v] /\ Cj K CL H A v d := by
 cases vs with
 |nil => exact h.elim
 |cons v vs=>
  cases vs with
  |nil => exact⟨v, rfl, h.1⟩
  |cons => exact h.2.elim
theorem Et.two{e:D}(h : Et K CL H A vs [d, e]) : ∃ v w', vs = [v, w'] /\ Cj K CL H A v d /\ Cj K CL H A w' e := by
 cases vs with
 |nil => exact h.elim
 |cons v vs=>
  cases vs with
  |nil => exact h.2.elim
  |cons w' vs=>
   cases vs with
   |nil => exact⟨v, w', rfl, h.1, h.2.1⟩
   |cons => exact h.2.2.elim
noncomputable def SAT(X : Cx)(CL : ClA)(W : XW)(es : Ab Ao)(f : Rho -> R (Ab D)) : Prop := ∀ A, PA X es (fun σ H Q => AOk H A /\ ∃ ρ, Good X.K CL A ρ σ H /\ FU (fun H => Et X.K CL H A) W H (f ρ) Q)
theorem Vo : SAT X CL W [] (fun _ => .ok []) := fun A => PA.weak GA fun σ H Q ⟨hA, ρ, g, p⟩ => p [] H (Ay.refl H) trivial
theorem UB(ha : ST X CL W a fa)(hs : SAT X CL W es fs)(hst : Ax (a::es) X.env = (Ad, eval a X.env)::Ax es X.env) : SAT X CL W (a::es) (fun ρ => (fa ρ).bind fun x => (fs ρ).bind fun xs => .ok (x::xs)):=
 fun A => PA.weak (E2 (ha A) (hs A) hst) fun σ H Q ⟨hA, ρ, g, p⟩ => by
  dsimp only at p;refine⟨hA, ρ, g, ?_⟩;cases e : fa ρ with
  |bad => rw[e]at p;exact p
  |exn x => rw[e]at p;exact p
  |ok d=>
   rw[e]at p;intro v H1 s1 r1;refine⟨hA.same s1, ρ, g.same s1, ?_⟩;cases e1 : fs ρ with
   |bad => rw[R.bind_ok, e1]at p;exact p
   |exn x => rw[R.bind_ok, e1]at p;exact fun H2 s2 => p H2 (s1.trans s2)
   |ok ds=>
    rw[R.bind_ok, e1]at p;exact fun vs H2 s2 r2 => p (v::vs) H2 (s1.trans s2) ⟨r1.same s2, r2⟩
noncomputable def G0(X : Cx)(CL : ClA)(W : XW)(f : Ah)(g : Ab D -> R D) : Prop := ∀ A, Gd X f (fun xs H Q => AOk H A /\ ∃ ds, Et X.K CL H A xs ds /\ A5 (fun H => Rep X.K CL H A) W H (g ds) Q)
theorem IY{x:Aj}{id:Dj}{g:Ab D -> R D}(hc : G0 X CL W (.builtin id) g)(hg : Gl X x)(hm : X.mg x = Af)(hv : Co x = Aa (.builtin id))(ha : SAT X CL W (e::es) fs)(hn : x ≠ "__name__")(hdb : (x==("__debug__" : Aj)) = Ad)(he : Ax (e::es) X.env = (Ad, eval e X.env)::Ax es X.env)(hpl : ∀ pos, (Cn pos (Ax es X.env)).any (·.1) = Ad):SE X CL W (.Call (.Name x p) (e::es) [] pos) (fun ρ =>(fs ρ).bind g) := fun A => PE.weak (NX (hc A) hg hm hv (ha A) hn hdb he (hpl _)) fun σ H Q ⟨hA, ρ, gd, q⟩ => ⟨hA, ρ, gd, FU.bind q fun ds vs H1 _ s1 r1 p1 => ⟨hA.same s1, ds, r1, p1⟩⟩
theorem Ye{x:Aj}{g:Ab D -> R D}(hc : G0 X CL W (.type T) g)(hg : Gl X x)(hm : X.mg x = Af)(hv : Co x = Aa (.type T))(ha : SAT X CL W (e::es) fs)(hn : x ≠ "__name__")(hdb : (x==("__debug__" : Aj)) = Ad)(he : Ax (e::es) X.env = (Ad, eval e X.env)::Ax es X.env)(hpl : ∀ pos, (Cn pos (Ax es X.env)).any (·.1) = Ad):SE X CL W (.Call (.Name x p) (e::es) [] pos) (fun ρ =>(fs ρ).bind g) := fun A => PE.weak (Np (hc A) hg hm hv (ha A) hn hdb he (hpl _)) fun σ H Q ⟨hA, ρ, gd, q⟩ => ⟨hA, ρ, gd, FU.bind q fun ds vs H1 _ s1 r1 p1 => ⟨hA.same s1, ds, r1, p1⟩⟩
theorem Zu : G0 X CL W (.builtin "len") (biD .len) := by
  intro A pI s σ H xs us Q I r ⟨hA, ds, rs, p⟩
  match ds, rs, p with
  |[.lst es], rs, p=>
    obtain⟨v, rfl, rv⟩ := rs.one;obtain⟨q, ys, rfl, sq, ry⟩ := rv.lst_of;exact M8 pI s σ H _ us Q I r ⟨q, ys, rfl, .inl sq, p _ H (Ay.refl H) (by rw[ry.length];rfl)⟩
  |[.tup es], rs, p=>
    obtain⟨v, rfl, rv⟩ := rs.one;obtain⟨q, ys, rfl, _, sq, ry⟩ := rv.tup_of;exact M8 pI s σ H _ us Q I r ⟨q, ys, rfl, .inr sq, p _ H (Ay.refl H) (by rw[ry.length];rfl)⟩
  |[.str x], rs, p=>
    obtain⟨v, rfl, rv⟩ := rs.one;have e := rv.str_of;subst e;have p' : A5 (fun H => Rep X.K CL H A) W H (if Cs x.length = Ac then .ok (.int x.length) else .bad) Q := p
    split at p'
    · rename_i h;exact S7 pI s σ H _ us Q I r ⟨x, rfl, Hg h, p' _ H (Ay.refl H) rfl⟩
    · exact p'.elim
  |[], _, p => exact p.elim
  |[.non], _, p => exact p.elim
  |[.bl _], _, p => exact p.elim
  |[.int _], _, p => exact p.elim
  |[.obj _ _], _, p => exact p.elim
  |[.exc _ _], _, p => exact p.elim
  |[.dic _], rs, p => first|exact p.elim|(obtain⟨v, rfl, rv⟩ := rs.one;exact rv.plain.elim)
  |x::_::_, _, p => cases x <;> exact p.elim
theorem Nr : ∀(is : Ab Ae)(i : Ae), Gf i is ∈ i::is /\ ∀ a ∈ i::is, Gf i is <= a
 |[], i => ⟨AA, fun a h => by rw[BG]at h;rw[h];exact G5 _⟩
 |j::r, i => by
  obtain⟨h1, h2⟩ := Nr r (if j<i then j else i)
  refine⟨?_, fun a h => ?_⟩
  ·show Gf (if j<i then j else i) r ∈ _
   rcases At.mp h1 with e|e
   ·rw[e];split
    ·exact As _ AA
    ·exact AA
   ·exact As _ (As _ e)
  ·show Gf (if j<i then j else i) r <= a
   have h0 := h2 _ AA;rcases At.mp h with e|e
   ·subst e;refine GL h0 ?_;split <;> omega
   ·rcases At.mp e with e|e
    ·subst e;refine GL h0 ?_;split <;> omega
    ·exact h2 a (As _ e)
theorem M0 : ∀{is : Ab Ae}{its : Ab Ah}, AZ (is.map V.int) its -> ∃ xs : Bf (Ae × CA), its.toArray = ID xs /\ xs.toList.map (·.1) = is
 |[], _, h => by cases h;exact⟨#[], by simp[ID], rfl⟩
 |i::is, _, h => by
  cases h with
  |cons h1 h2=>
   obtain⟨t, rfl⟩ := h1;obtain⟨xs, e1, e2⟩ := M0 h2;refine⟨((i, t)::xs.toList).toArray, ?_, ?_⟩
   ·apply Array.toList_inj.mp
    have e1' := congrArg GK e1;simp[ID]at e1' ⊢;exact e1'
   ·simp[e2]
theorem UJ(hc : X.calm = Ac) : Gd X (.builtin "min") (fun xs H Q => ∃ a i is, xs = [.ref a] /\ SqL X.K H a ((i::is).map V.int) /\ Q (.int (Gf i is)) H) := by
 intro pI s σ H xs us Q I r h;obtain⟨a, i, is, rfl, sq, q⟩ := h;obtain⟨u, rfl, ru⟩ := Gb r;cases ru;obtain⟨its, rv, pl, hz⟩ := I.list sq;obtain⟨ys, e1, e2⟩ := M0 rv;have hsz : 0<ys.size := by
  have := congrArg Rl e2;simp at this;omega
 have hl := pl.isList;rw[e1]at hl;refine min_intList (I.ok.hd hc) hl hsz fun v h' tk hv hk => ?_
 obtain⟨t, rfl⟩ := intItems_at hv;obtain⟨h1, h2⟩ := argBest_lt (Gu ys) (ys.size-1);have nm : ∀ j, j<ys.size -> Gu ys j ∈ i::is := fun j hj => by
  rw[<-e2];unfold Gu;rw[QV hj];simp only[Dv, Option.getD_some];exact CO.mpr ⟨ys[j], by simp, rfl⟩
 have nx : ∀ x ∈ i::is, ∃ j, j<ys.size /\ Gu ys j = x := fun x hx => by
  rw[<-e2]at hx;obtain⟨y, hy, rfl⟩ := CO.mp hx;obtain⟨j, hj, ej⟩ := Array.mem_iff_getElem.mp (Array.mem_toList_iff.mp hy);refine⟨j, hj, ?_⟩;unfold Gu;rw[QV hj, ej];rfl
 obtain⟨m1, m2⟩ := Nr is i;have em : Gu ys (argBest (fun i j => decide (Gu ys i<Gu ys j)) (ys.size-1)) = Gf i is := by
  refine Int.le_antisymm ?_ (m2 _ (nm _ (by omega)))
  obtain⟨j, hj, ej⟩ := nx _ m1;rw[<-ej];exact h2 j (by omega)
 rw[em];exact⟨.int (Gf i is), H, I.kept hk, ⟨_, rfl⟩, q⟩
theorem M1{K : Fg}{CL : ClA}{H : Hp}{A : Ai -> Prop} : ∀{es : Ab D}{is : Ab Ae}{ys : Ab V}, GZ es = Aa is -> Reps K CL H A ys es -> ys = is.map V.int
 |[], _, [], h, _ => by cases h;rfl
 |[], _, _::_, _, r => r.elim
 |_::_, _, [], _, r => r.elim
 |e::es, is, y::ys, h, r => by
  cases e with
  |int i=>
   have h' : (GZ es).map (i :: ·) = Aa is := h;cases e2 : GZ es with
   |none => rw[e2]at h';cases h'
   |some js=>
    rw[e2]at h';cases h';have ih := M1 e2 r.2;have e1 : y = .int i := r.1;rw[ih, e1];rfl
  |_ => cases h
theorem TN(ds : Ab D)(hl : ∀ es, ds ≠ [.lst es]) : (∃ i j, ds = [.int i, .int j]) \/ biD .min ds = .bad := by
  match ds with
  |[.int i, .int j] => exact .inl ⟨i, j, rfl⟩
  |[] => exact .inr rfl
  |[x] => cases x <;> first|exact .inr rfl|exact absurd rfl (hl _)
  |x::y::z::r => cases x <;> cases y <;> exact .inr rfl
  |[x, .non] => cases x <;> exact .inr rfl
  |[x, .bl _] => cases x <;> exact .inr rfl
  |[x, .str _] => cases x <;> exact .inr rfl
  |[x, .tup _] => cases x <;> exact .inr rfl
  |[x, .lst _] => cases x <;> exact .inr rfl
  |[x, .obj _ _] => cases x <;> exact .inr rfl
  |[x, .exc _ _] => cases x <;> exact .inr rfl
  |[x, .dic _] => cases x <;> exact .inr rfl
  |[.non, .int _] => exact .inr rfl
  |[.bl _, .int _] => exact .inr rfl
  |[.str _, .int _] => exact .inr rfl
  |[.tup _, .int _] => exact .inr rfl
  |[.lst _, .int _] => exact .inr rfl
  |[.obj _ _, .int _] => exact .inr rfl
  |[.exc _ _, .int _] => exact .inr rfl
  |[.dic _, .int _] => exact .inr rfl
theorem Zt(hc : X.calm = Ac) : G0 X CL W (.builtin "min") (biD .min) := by
  intro A pI s σ H xs us Q I r ⟨hA, ds, rs, p⟩;by_cases hls : ∃ es, ds = [.lst es]
  · obtain⟨es, rfl⟩ := hls;obtain⟨v, rfl, rv⟩ := rs.one;obtain⟨a, ys, rfl, sq, ry⟩ := rv.lst_of;have p' : A5 (Rep X.K CL · A) W H (match GZ es with
      |some (i::is) => R.ok (.int (Gf i is))
      | _ => .bad) Q := p
    cases e1 : GZ es with
    |none => rw[e1]at p';exact p'.elim
    |some is=>
      cases is with
      |nil => rw[e1]at p';exact p'.elim
      |cons i is=>
        rw[e1]at p';have ey := M1 e1 ry;subst ey;exact UJ hc pI s σ H _ us Q I r ⟨a, i, is, rfl, sq, p' _ H (Ay.refl H) rfl⟩
  rcases TN ds (fun es z => hls ⟨es, z⟩) with ⟨i, j, rfl⟩|e
  · obtain⟨v, w', rfl, rv, rw'⟩ := rs.two;have e1 := rv.int_of;have e2 := rw'.int_of
    subst e1 e2;exact UK hc pI s σ H _ us Q I r ⟨i, j, rfl, p _ H (Ay.refl H) rfl⟩
  · rw[e]at p;exact p.elim
theorem U7 : G0 X CL W (.type "tuple") (biD .tuple) := by
  intro A pI s σ H xs us Q I r ⟨hA, ds, rs, p⟩
  match ds, rs, p with
  |[.lst es], rs, p=>
    obtain⟨v, rfl, rv⟩ := rs.one;obtain⟨q, ys, rfl, sq, ry⟩ := rv.lst_of;exact MS pI s σ H _ us Q I r ⟨q, ys, rfl, .inl ⟨sq, fun l hl => p _ _ (Er hl _) (HN hA hl ry)⟩⟩
  |[.tup es], rs, p=>
    obtain⟨v, rfl, rv⟩ := rs.one;obtain⟨q, ys, rfl, na, sq, ry⟩ := rv.tup_of;exact MS pI s σ H _ us Q I r ⟨q, ys, rfl, .inr ⟨sq, p _ H (Ay.refl H) ⟨q, ys, rfl, na, sq, ry⟩⟩⟩
  |[], _, p => exact p.elim
  |[.non], _, p => exact p.elim
  |[.bl _], _, p => exact p.elim
  |[.int _], _, p => exact p.elim
  |[.str _], _, p => exact p.elim
  |[.obj _ _], _, p => exact p.elim
  |[.exc _ _], _, p => exact p.elim
  |[.dic _], rs, p => first|exact p.elim|(obtain⟨v, rfl, rv⟩ := rs.one;exact rv.plain.elim)
  |x::_::_, _, p => cases x <;> exact p.elim
end
section
variable{X : Cx}{CL : ClA}{W : XW}{a b c : Ao}{fa fb fc : Rho -> R D}{pos : AN}
theorem SB.congr{g:Rho -> R An}(h : SB X CL W a f)(e : ∀ ρ, g ρ = f ρ) : SB X CL W a g := fun A => PT.weak (h A) fun σ H Q ⟨hA, ρ, q, p⟩ => ⟨hA, ρ, q, by rw[<-e];exact p⟩
theorem Yi(ha : SB X CL W a f) : SB X CL W (.UnaryOp .Not a pos) (fun ρ => (f ρ).bind fun b => .ok (!b)) := fun A => PT.weak (XU (ha A)) fun σ H Q ⟨hA, ρ, g, p⟩ => ⟨hA, ρ, g, Cr.bindB p fun b H1 _ s1 p1 => p1 H1 (Ay.refl H1)⟩
noncomputable def SW(X : Cx)(CL : ClA)(W : XW)(e : Ao)(f : Rho -> R An) : Prop := ∀ A, PW X e (fun σ H Q => AOk H A /\ ∃ ρ, Good X.K CL A ρ σ H /\ Cr W H (f ρ) Q)
theorem PW.weak{t:TT}(h : PW X e t)(k : ∀ σ H Q, t' σ H Q -> t σ H Q) : PW X e t' := fun wh pI s σ H Q I q => h wh pI s σ H Q I (k _ _ _ q)
theorem SW.sb(h : SW X CL W a f) : SB X CL W a f := fun A => PW.pt (h A)
theorem SW.congr{g:Rho -> R An}(h : SW X CL W a f)(e : ∀ ρ, g ρ = f ρ) : SW X CL W a g := fun A => PW.weak (h A) fun σ H Q ⟨hA, ρ, q, p⟩ => ⟨hA, ρ, q, by rw[<-e];exact p⟩
theorem VT(ha : SB X CL W a f) : SW X CL W (.BoolOp .And [a] pos) f := fun A => VB (ha A)
theorem Xc(ha : SB X CL W a f) : SW X CL W (.BoolOp .Or [a] pos) f := fun A => XR (ha A)
theorem Xd{g:Rho -> R An}{rest : Ab Ao}(ha : SB X CL W a f)(hb : SW X CL W (.BoolOp .And (b::rest) pos) g) : SW X CL W (.BoolOp .And (a::b::rest) pos) (fun ρ => (f ρ).bind fun c => if c = Ac then g ρ else .ok Ad):=
 fun A => PW.weak (XS (ha A) (hb A)) fun σ H Q ⟨hA, ρ, gd, p⟩ => ⟨hA, ρ, gd, Cr.bindB p fun c H1 _ s1 p1 => by
  cases c with
  |true => exact⟨hA.same s1, ρ, gd.same s1, p1⟩
  | false => exact p1 H1 (Ay.refl H1)⟩
theorem ZE{g:Rho -> R An}{rest : Ab Ao}(ha : SB X CL W a f)(hb : SW X CL W (.BoolOp .Or (b::rest) pos) g) : SW X CL W (.BoolOp .Or (a::b::rest) pos) (fun ρ => (f ρ).bind fun c => if c = Ac then .ok Ac else g ρ):=
 fun A => PW.weak (ZS (ha A) (hb A)) fun σ H Q ⟨hA, ρ, gd, p⟩ => ⟨hA, ρ, gd, Cr.bindB p fun c H1 _ s1 p1 => by
  cases c with
  |false => exact⟨hA.same s1, ρ, gd.same s1, p1⟩
  | true => exact p1 H1 (Ay.refl H1)⟩
theorem Yj(ho : OpD X CL W (B0 op) g)(ha : ST X CL W a fa)(hb : ST X CL W b fb)(hm : Fl op b = Ad) : SB X CL W (.Compare a [op] [b] pos) (fun ρ => (fa ρ).bind fun x => (fb ρ).bind fun y => (g x y).bind C1):=
 fun A => PT.weak (VG (ho A) (ha A) (hb A) hm) fun σ H Q ⟨hA, ρ, gd, p⟩ => ⟨hA, ρ, gd, Cr.bind p fun dx x H1 _ s1 r1 p1 => ⟨hA.same s1, ρ, gd.same s1, Cr.bind p1 fun dy y H2 _ s2 r2 p2=>
  ⟨(hA.same s1).same s2, dx, dy, r1.same s2, r2, Cr.bind p2 fun dz z H3 _ s3 r3 p3 => by
   cases dz with
   |bl k => exact⟨k, r3, p3 H3 (Ay.refl H3)⟩
   | _ => exact p3.elim⟩⟩⟩
theorem UA(hu : X.A.units+64<BP)(ha : ST X CL W a fa)(hb : ST X CL W b fb)(hc : ST X CL W c fc)(hm : GR [op, op'] [b, c] = Ad):SB X CL W (.Compare a [op,op'] [b,c] pos) (fun ρ =>(fa ρ).bind fun x =>(fb ρ).bind fun y =>(BD op x y).bind fun z =>(C1 z).bind fun k =>if k = Ac then (fc ρ).bind fun u =>(BD op' y u).bind C1 else .ok Ad):=
  fun A => PT.weak (Ua (HM hu op A) (HM hu op' A) (ha A) (hb A) (hc A) hm) fun σ H Q ⟨hA, ρ, g, p⟩ => ⟨hA, ρ, g, Cr.bind p fun dx x H1 _ s1 r1 p1 => ⟨hA.same s1, ρ, g.same s1, Cr.bind p1 fun dy y H2 _ s2 r2 p2=>
    ⟨(hA.same s1).same s2, dx, dy, r1.same s2, r2, Cr.bind p2 fun dz z H3 _ s3 r3 p3 => by
      cases dz with
      |bl k=>
        refine⟨k, r3, ?_⟩;cases k with
        |false => exact⟨Ad, rfl, p3 H3 (Ay.refl H3)⟩
        | true => exact⟨((hA.same s1).same s2).same s3, ρ, ((g.same s1).same s2).same s3, Cr.bind p3 fun du u H4 _ s4 r4 p5 => ⟨(((hA.same s1).same s2).same s3).same s4, dy, du, (r2.same s3).same s4, r4, Cr.bind p5 fun dv v H5 _ s5 r5 p6 => by
            cases dv with
            |bl k' => exact⟨k', r5, p6 H5 (Ay.refl H5)⟩
            | _ => exact p6.elim⟩⟩
      | _ => exact p3.elim⟩⟩⟩
theorem Yh(ha : ST X CL W a fa)(he : ∀ whole, Gk a X.env whole = (do let v <-whole;FD a.pos;holding [v] (truthy v))) : SB X CL W a (fun ρ => (fa ρ).bind BN):=
 fun A => PT.weak (UI (ha A) he) fun σ H Q ⟨hA, ρ, g, p⟩ => ⟨hA, ρ, g, Cr.bind p fun d v H1 _ s1 r1 p1 => by
  cases d with
  |non=>
   have e := r1.non_of;subst e;exact⟨Ad, rfl, p1 H1 (Ay.refl H1)⟩
  |bl b=>
   have e := r1.bl_of;subst e;exact⟨b, rfl, p1 H1 (Ay.refl H1)⟩
  |int i=>
   have e := r1.int_of;subst e;exact⟨_, rfl, p1 H1 (Ay.refl H1)⟩
  |str x=>
   have e := r1.str_of;subst e;have p2 : Cr W H1 (if Cs x.length = Ac then .ok (x.length != 0) else .bad) Q := p1
   split at p2
   ·rename_i h;refine⟨_, ⟨Hg h, rfl⟩, ?_⟩;have e : ((x.length : Ae) != 0) = (x.length != 0) := by
     rw[Cy];simp
    rw[e];exact p2 H1 (Ay.refl H1)
   ·exact p2.elim
  |tup ds=>
   obtain⟨q, xs, rfl, _, sq, r⟩ := r1.tup_of;refine⟨_, .inr (.inl ⟨xs, sq, rfl⟩), ?_⟩;have e : xs.isEmpty = ds.isEmpty := by
    have := r.length;cases xs <;> cases ds <;> first|rfl|cases this
   rw[e];exact p1 H1 (Ay.refl H1)
  |lst ds=>
   obtain⟨q, xs, rfl, sq, r⟩ := r1.lst_of;refine⟨_, .inl ⟨xs, sq, rfl⟩, ?_⟩;have e : xs.isEmpty = ds.isEmpty := by
    have := r.length;cases xs <;> cases ds <;> first|rfl|cases this
   rw[e];exact p1 H1 (Ay.refl H1)
  | _ => exact p1.elim⟩
noncomputable def Jo(K : Fg)(CL : ClA)(H : Hp)(A : Ai -> Prop)(cls : Ah)(dx : Ap Ai)(x : Ex) : Prop:=
 ∃ C, CL x.c = Aa C /\ cls = .ref C /\ (x.fs = [] \/ ∃ d vs, dx = Aa d /\ ¬ A d /\ H d = Aa (.xd vs) /\ Repf K CL H A vs x.fs)
end
noncomputable def BZ(B : Ai -> Prop)(ρ : Rho)(σ : L2.St) : Ai -> Prop := fun a => B a \/ ∃(j : Ag)(d : D), ρ[j]? = Aa (Aa (d, Ac)) /\ σ[j]? = Aa (Aa (.ref a))
structure Sx (K : Fg) (CL : ClA) (Fz : Ai -> HO -> Prop) (B : Ai -> Prop) (ρ : Rho) (σ : L2.St) (H : Hp) : Prop where
 good : Good K CL (BZ B ρ σ) ρ σ H
 aok : AOk H (BZ B ρ σ)
 new : ∀(j : Ag)(d : D)(a : Ai), ρ[j]? = Aa (Aa (d, Ac)) -> σ[j]? = Aa (Aa (.ref a)) -> (∀ o, ¬ Fz a o) /\ ¬ B a
 dis : ∀(i j : Ag)(d e : D)(a : Ai), ρ[i]? = Aa (Aa (d, Ac)) -> ρ[j]? = Aa (Aa (e, Ac)) -> σ[i]? = Aa (Aa (.ref a)) -> σ[j]? = Aa (Aa (.ref a)) -> i = j
 same : ∀ b o, Fz b o -> H b = Aa o
 len : ρ.length = σ.length
noncomputable def BX(K : Fg)(CL : ClA)(Fz : Ai -> HO -> Prop)(B : Ai -> Prop)(W : XW)(o : O)(D : Ends) : Prop := match o with
  |.next ρ => ∀ σ H, Sx K CL Fz B ρ σ H -> D.nx σ H
  |.brk ρ => ∀ σ H, Sx K CL Fz B ρ σ H -> D.bk σ H
  |.cont ρ => ∀ σ H, Sx K CL Fz B ρ σ H -> D.ct σ H
  |.ret d fr => ∀ v H, (∀ b o, Fz b o -> H b = Aa o) -> Rep K CL H B v d -> (fr = Ac -> ∀ ds, d = .lst ds -> ∃ a xs, v = .ref a /\ (∀ o, ¬ Fz a o) /\ H a = Aa (.lst xs) /\ Reps K CL H (fun b => B b \/ b = a) xs ds) -> D.rt v H
  |.exn x _ => ∀ H, (∀ b o, Fz b o -> H b = Aa o) -> W x H
  |.bad => A6
section
variable{K : Fg}{CL : ClA}{Fz Fy : Ai -> HO -> Prop}{B : Ai -> Prop}{ρ : Rho}{σ : L2.St}{H H' : Hp}
theorem Sx.mono(k : ∀ b o, Fz b o -> Fy b o)(x : Sx K CL Fy B ρ σ H) : Sx K CL Fz B ρ σ H := ⟨x.good, x.aok, fun j d a h1 h2 => ⟨fun o z => (x.new j d a h1 h2).1 o (k _ _ z), (x.new j d a h1 h2).2⟩, x.dis, fun b o z => x.same b o (k _ _ z), x.len⟩
theorem Sx.grow(x : Sx K CL Fz B ρ σ H)(s : Ay H H') : Sx K CL Fz B ρ σ H' := ⟨x.good.same s, x.aok.same s, x.new, x.dis, fun b o z => s _ _ (x.same b o z), x.len⟩
theorem Ce{l : Ab α}{v : α}(h : i ≠ j) : (l.set i v)[j]? = l[j]? := by rw[EE h]
theorem FS{l : Ab α}{v w' : α}(h : (l.set i v)[i]? = Aa w') : w' = v := by
 rw[Ed]at h;cases e : l[i]? with
 |none => rw[e]at h;cases h
 |some x => rw[e]at h;cases h;rfl
theorem Sx.set(x : Sx K CL Fz B ρ σ H){v : V}{d : D}(i : Ag)(r : Rep K CL H (BZ B ρ σ) v d) : Sx K CL Fz B (ρ.set i (Aa (d, Ad))) (σ.set i (Aa v)) H := by
 have own : ∀(j : Ag)(e : D), (ρ.set i (Aa (d, Ad)))[j]? = Aa (Aa (e, Ac)) -> i ≠ j /\ ρ[j]? = Aa (Aa (e, Ac)) := fun j e h => by
  by_cases hj : i = j
  ·subst hj;have := FS h;cases this
  ·exact⟨hj, by rw[Ce hj]at h;exact h⟩
 have sub : ∀ a, BZ B (ρ.set i (Aa (d, Ad))) (σ.set i (Aa v)) a -> BZ B ρ σ a := fun a h => by
  rcases h with h|⟨j, e, h1, h2⟩
  ·exact .inl h
  ·obtain⟨hj, h1⟩ := own j e h1;rw[Ce hj]at h2;exact .inr ⟨j, e, h1, h2⟩
 refine⟨⟨fun j e h => ?_, fun j e h => ?_, by rw[A4, A4];exact x.len⟩, fun a h => x.aok a (sub a h), fun j e a h1 h2 => ?_, fun j k e f a h1 h2 h3 h4 => ?_, x.same, by rw[A4, A4];exact x.len⟩
 ·by_cases hj : i = j
  ·subst hj;have e1 := FS h;cases e1;refine⟨v, ?_, Rep.sub sub _ r⟩;have hl : i<σ.length := by
    rw[<-x.len];have := (AK.mp h).1;simpa using this
   rw[Cm hl]
  ·rw[Ce hj]at h;obtain⟨w', q, rw'⟩ := x.good.sh j e h;exact⟨w', by rw[Ce hj];exact q, Rep.sub sub _ rw'⟩
 ·obtain⟨hj, h1⟩ := own j e h;obtain⟨a, xs, ds, q, z, ha, hh, rr⟩ := x.good.ow j e h1;exact⟨a, xs, ds, by rw[Ce hj];exact q, z, .inr ⟨j, e, h, by rw[Ce hj];exact q⟩, hh, Reps.sub sub _ rr⟩
 ·obtain⟨hj, h1⟩ := own j e h1;rw[Ce hj]at h2;exact x.new j e a h1 h2
 ·obtain⟨hj, h1⟩ := own j e h1;obtain⟨hk, h2⟩ := own k f h2;rw[Ce hj]at h3;rw[Ce hk]at h4;exact x.dis j k e f a h1 h2 h3 h4
end
section
variable{X : Cx}{CL : ClA}{W : XW}{pos : AN}{e : Ao}{fe : Rho -> R D}
noncomputable def SS(X : Cx)(CL : ClA)(W : XW)(st : Bq)(f : Rho -> O) : Prop := ∀ Fz B, PS X st (fun D σ H => ∃ ρ, Sx X.K CL Fz B ρ σ H /\ BX X.K CL Fz B W (f ρ) D)
noncomputable def SSs(X : Cx)(CL : ClA)(W : XW)(st : Ab Bq)(f : Rho -> O) : Prop := ∀ Fz B, PSs X st (fun D σ H => ∃ ρ, Sx X.K CL Fz B ρ σ H /\ BX X.K CL Fz B W (f ρ) D)
theorem PS.weak{e : Bq}{t t':TS}(h : PS X e t)(k : ∀ D σ H, t' D σ H -> t D σ H) : PS X e t' := fun pI s σ H D I q => h pI s σ H D I (k _ _ _ q)
theorem PSs.weak{e : Ab Bq}{t t':TS}(h : PSs X e t)(k : ∀ D σ H, t' D σ H -> t D σ H) : PSs X e t' := fun pI s σ H D I q => h pI s σ H D I (k _ _ _ q)
theorem BX.ex{f:D -> O}{Q:VK}(x : Sx X.K CL Fz B ρ σ H)(h : BX X.K CL Fz B W (O.of ρ r f) D')(k : ∀ d v H', r = .ok d -> Ay H H' -> Rp H' v d -> Sx X.K CL Fz B ρ σ H' -> BX X.K CL Fz B W (f d) D' -> Q v H') : A5 Rp W H r Q := by
 cases r with
 |ok d => exact fun v H' s r => k d v H' rfl s r (x.grow s) h
 |exn y => exact fun H' s => h H' fun b o z => s _ _ (x.same b o z)
 |bad => exact h
theorem BX.exB{r:R An}{f:An -> O}{Q:An -> Hp -> Prop}(x : Sx X.K CL Fz B ρ σ H)(h : BX X.K CL Fz B W (O.of ρ r f) D')(k : ∀ b H', r = .ok b -> Ay H H' -> Sx X.K CL Fz B ρ σ H' -> BX X.K CL Fz B W (f b) D' -> Q b H') : Cr W H r Q := by
 cases r with
 |ok d => exact fun H' s => k d H' rfl s (x.grow s) h
 |exn y => exact fun H' s => h H' fun b o z => s _ _ (x.same b o z)
 |bad => exact h
theorem V2(he : SE X CL W e fe)(hs : Dx e Af pos.line X.env = pure Ad) : SS X CL W (.Expr e pos) (fun ρ => O.of ρ (fe ρ) fun _ => .next ρ) := fun Fz B pI s σ H D I ⟨ρ, x, p⟩=>
 OG (he (BZ B ρ σ)) hs pI s σ H D I ⟨x.aok, ρ, x.good, BX.ex x p fun d v H' _ s r x' q => q σ H' x'⟩
theorem V0(he : SE X CL W e fe) : SS X CL W (.Return (Aa e) pos) (fun ρ => O.of ρ (fe ρ) fun d => .ret d Ad) := fun Fz B pI s σ H D I ⟨ρ, x, p⟩=>
 LZ (he (BZ B ρ σ)) pI s σ H D I ⟨x.aok, ρ, x.good, BX.ex x p fun d v H' _ s r x' q => q v H' x'.same (Rep.sub (fun a h => .inl h) _ r) fun z => nomatch z⟩
theorem ZL{a b:Ab Bq}{fa fb:Rho -> O}(hc : SB X CL W c fc)(ha : SSs X CL W a fa)(hb : SSs X CL W b fb) : SS X CL W (.If c a b pos) (fun ρ => O.of ρ (fc ρ) fun k => if k = Ac then fa ρ else fb ρ) := fun Fz B pI s σ H D I ⟨ρ, x, p⟩=>
 ZU (hc (BZ B ρ σ)) (ha Fz B) (hb Fz B) pI s σ H D I ⟨x.aok, ρ, x.good, BX.exB x p fun k H' _ s x' q => by
  cases k with
  |true => exact⟨ρ, x', q⟩
  | false => exact⟨ρ, x', q⟩⟩
theorem VY : SSs X CL W [] (fun ρ => .next ρ) := fun Fz B => PSs.weak VH fun D σ H ⟨ρ, x, p⟩ => p σ H x
theorem Uw{st : Bq}{rest : Ab Bq}{f g:Rho -> O}(h1 : SS X CL W st f)(h2 : SSs X CL W rest g) : SSs X CL W (st::rest) (fun ρ => (f ρ).seq g) := fun Fz B => PSs.weak (Ub (h1 Fz B) (h2 Fz B)) fun D σ H ⟨ρ, x, p⟩ => ⟨ρ, x, by
 dsimp only at p;cases e : f ρ with
 |next ρ' => rw[e]at p;exact fun σ' H' x' => ⟨ρ', x', p⟩
 |ret d b => rw[e]at p;exact p
 |brk ρ' => rw[e]at p;exact p
 |cont ρ' => rw[e]at p;exact p
 |exn y ρ' => rw[e]at p;exact p
 | bad => rw[e]at p;exact p⟩
end
noncomputable def GH(K : Fg)(CL : ClA)(A : Ai -> Prop)(ds : Ab D)(J : It)(H1 : Hp) : Prop := ∀ H, Kp A H1 H -> ∀ i : Ag, (ds.length <= i -> J.stop i H) /\ ∀ d, ds[i]? = Aa d -> J.go i H /\ ∀ x H', J.yld i H x H' -> Ay H H' /\ ∀ B, (∀ a, B a -> A a \/ H1 a = Af) -> AOk H B -> Rep K CL H' B x d
noncomputable def DK(K : Fg)(CL : ClA)(A : Ai -> Prop)(W : XW)(H : Hp)(r : R (Ab D))(Q : It -> Hp -> Prop) : Prop := match r with
  |.ok ds => ∀ J H', Ay H H' -> GH K CL A ds J H' -> ds.length <= sizeLine -> Q J H'
  |.exn x => ∀ H', Ay H H' -> W x H'
  |.bad => A6
noncomputable def SI(X : Cx)(CL : ClA)(W : XW)(tg iter : Ao)(f : Rho -> R (Ab D)) : Prop := ∀ A, PI X tg iter (fun σ H R => AOk H A /\ ∃ ρ, Good X.K CL A ρ σ H /\ DK X.K CL A W H (f ρ) R)
theorem PI.weak{t t':TI}(h : PI X tg e t)(k : ∀ σ H Q, t' σ H Q -> t σ H Q) : PI X tg e t' := fun pI s σ H Q I q => h pI s σ H Q I (k _ _ _ q)
section
variable{X : Cx}{CL : ClA}{W : XW}{pos p : AN}{tg e a b : Ao}{fe fa fb : Rho -> R D}
theorem DK.ex{f:D -> R (Ab D)}{Q:It -> Hp -> Prop}{Q':VK}(h : DK X.K CL A W H (r.bind f) Q)(k : ∀ d v H', r = .ok d -> Ay H H' -> Rp H' v d -> DK X.K CL A W H' (f d) Q -> Q' v H') : A5 Rp W H r Q' := by
  cases r with
  | ok d => exact fun v H' s q => k d v H' rfl s q (by
      have h' : DK X.K CL A W H (f d) Q := h;cases e : f d with
      |ok ds => rw[e]at h';exact fun J H2 s2 y z => h' J H2 (s.trans s2) y z
      |exn y => rw[e]at h';exact fun H2 s2 => h' H2 (s.trans s2)
      | bad => rw[e]at h';exact h')
  |exn y => exact h
  |bad => exact h
theorem II{x:V}(r : Rep K CL H1 A x d)(k : Kp A H1 H)(hB : ∀ a, B a -> A a \/ H1 a = Af) : Rep K CL H B x d := by
 have r1 : Rep K CL H1 (fun a => A a \/ B a) x d := Rep.wide (fun a ha => ha.elim .inl (hB a)) _ r
 have r2 : Rep K CL H (fun a => A a \/ B a) x d := Rep.kp (fun b o e na => k b o e fun z => na (.inl z)) _ r1
 exact Rep.sub (fun a ha => .inr ha) _ r2
theorem Tt{ds : Ab D}(na : ¬ A q \/ KL K q xs)(s : SqL K H q xs)(r : Reps K CL H A xs ds) : GH K CL A ds (Itl K q) H := fun H' k i => by
 have s' := JV k na s;refine⟨fun h => ⟨xs, s', by rw[r.length];exact h⟩, fun d hd => ?_⟩
 obtain⟨v, hv, rv⟩ := r.get hd;exact⟨⟨xs, v, s', hv⟩, fun x H2 ⟨e, y⟩ => by
  subst e;have := y xs s';rw[hv]at this;cases this;exact⟨Ay.refl _, fun B hB _ => II rv k hB⟩⟩
theorem Um{ds : Ab D}(na : ¬ A q \/ KT K q xs)(s : SqT K H q xs)(r : Reps K CL H A xs ds) : GH K CL A ds (Itt K q) H := fun H' k i => by
 have s' := JU k na s;refine⟨fun h => ⟨xs, s', by rw[r.length];exact h⟩, fun d hd => ?_⟩
 obtain⟨v, hv, rv⟩ := r.get hd;exact⟨⟨xs, v, s', hv⟩, fun x H2 ⟨e, y⟩ => by
  subst e;have := y xs s';rw[hv]at this;cases this;exact⟨Ay.refl _, fun B hB _ => II rv k hB⟩⟩
theorem NQ(lo : Ae)(n : Ag) : GH K CL A (Ca lo n) (Itr lo n) H := fun H' k i => by
 refine⟨fun h => by rw[HF]at h;exact h, fun d hd => ?_⟩
 obtain⟨h1, rfl⟩ := NO hd;exact⟨h1, fun x H2 ⟨e, y⟩ => by
  subst e y;exact⟨Ay.refl _, fun _ _ _ => rfl⟩⟩
theorem Xq{l:Ao}{tl:TE}(hl : PE X l tl) : PI X tg l (fun σ H R => tl σ H fun x H1 => (∃ a, x = .ref a /\ (∃ xs, SqL X.K H1 a xs /\ (xs.length <= sizeLine -> R (Itl X.K a) H1))) \/ ∃ a, x = .ref a /\ (∃ xs, SqT X.K H1 a xs /\ (xs.length <= sizeLine -> R (Itt X.K a) H1))) := by
 intro pI s σ H R I h;refine thn (hl pI s σ H _ I h) fun v s1 ⟨x, H1, I1, r1, q1⟩ => ?_
 rcases q1 with ⟨a, e, xs, hq, q⟩|⟨a, e, xs, hq, q⟩
 ·subst e;cases r1;obtain⟨its, rv, p, hz⟩ := I1.list hq;refine C3 p.isList ?_;refine⟨s1.heap.objs.size, [s1.heap.objs.size], _, _, H1, rfl, I1.kept (t' := s1.toks) fun b o e => Ar _ e, Tq a _, ⟨_, AC _ rfl, rfl, rfl⟩, fun b hb => ?_, q hz⟩
  have e : b = s1.heap.objs.size := by simpa using hb
  subst e;exact I1.fpOk (AQ _) (I1.hok.fresh (AQ _))
 ·subst e;cases r1;obtain⟨its, rv, p, hz⟩ := I1.tuple hq;refine D9 (show s1.heap.IsTuple a its.toArray from p) ?_
  refine⟨s1.heap.objs.size, [s1.heap.objs.size], _, _, H1, rfl, I1.kept (t' := s1.toks) fun b o e => Ar _ e, Tu a _, ⟨_, AC _ rfl, rfl, rfl⟩, fun b hb => ?_, q hz⟩
  have e : b = s1.heap.objs.size := by simpa using hb
  subst e;exact I1.fpOk (AQ _) (I1.hok.fresh (AQ _))
theorem eE(he : SE X CL W e fe) : SI X CL W tg e (fun ρ => (fe ρ).bind B5) := fun A => PI.weak (Xq (he A)) fun σ H R ⟨hA, ρ, g, p⟩ => ⟨hA, ρ, g, DK.ex p fun d v H1 _ s1 r1 p1 => by
 cases d with
 |lst ds=>
  obtain⟨q, xs, rfl, na, sq, r⟩ := r1;exact .inl ⟨q, rfl, xs, sq, fun hz => p1 _ H1 (Ay.refl H1) (Tt na sq r) (by rw[<-r.length];exact hz)⟩
 |tup ds=>
  obtain⟨q, xs, rfl, na, sq, r⟩ := r1;exact .inr ⟨q, rfl, xs, sq, fun hz => p1 _ H1 (Ay.refl H1) (Um na sq r) (by rw[<-r.length];exact hz)⟩
 | _ => exact p1.elim⟩
theorem K6{ds : Ab D}(h : CK lo hi = .ok ds) : (-(2 ^ 62) <= lo /\ lo<2 ^ 62) /\ (-(2 ^ 62) <= hi /\ hi<2 ^ 62) /\ ds = Ca lo (hi-lo).toNat /\ (Ca lo (hi-lo).toNat).length <= sizeLine := by
 unfold CK at h;split at h
 ·rename_i q;cases h;exact⟨by omega, by omega, rfl, by rw[HF, DR];omega⟩
 ·cases h
theorem KI(h : CK lo hi = .exn x) : A6 := by
 unfold CK at h;split at h <;> cases h
theorem X3(ha : ST X CL W a fa)(hg : Gl X "range")(hm : X.mg "range" = Af)(hs : Ax [a] X.env = [(Ad, eval a X.env)]) : SI X CL W tg (.Call (.Name "range" p) [a] [] pos) (fun ρ => (fa ρ).bind fun x => (Dp x).bind fun j => CK 0 j):=
 fun A => PI.weak (T7 hg hm (E2 (ha A) GA hs) hs) fun σ H R ⟨hA, ρ, g, q⟩ => ⟨hA, ρ, g, DK.ex q fun d v H1 _ s1 r1 p1 => by
  cases d with
  |int j=>
   have e := r1.int_of;subst e;have p2 : DK X.K CL A W H1 (CK 0 j) R := p1;cases e2 : CK 0 j with
   |ok ds=>
    rw[e2]at p2;obtain⟨_, h2, rfl, hz⟩ := K6 e2;exact⟨j, rfl, h2.1, h2.2, p2 _ H1 (Ay.refl H1) (by rw[GM];exact NQ 0 j.toNat) hz⟩
   |exn y => exact(KI e2).elim
   |bad => rw[e2]at p2;exact p2.elim
  | _ => exact p1.elim⟩
theorem V8(ha : ST X CL W a fa)(hb : ST X CL W b fb)(hg : Gl X "range")(hm : X.mg "range" = Af)(hs : Ax [a, b] X.env = [(Ad, eval a X.env), (Ad, eval b X.env)])(hs2 : Ax [b] X.env = [(Ad, eval b X.env)]):
  SI X CL W tg (.Call (.Name "range" p) [a, b] [] pos) (fun ρ => (fa ρ).bind fun x => (fb ρ).bind fun y => (Dp x).bind fun i => (Dp y).bind fun j => CK i j):=
 fun A => PI.weak (T6 hg hm (E2 (ha A) (E2 (hb A) GA hs2) (by rw[hs, hs2])) hs hs2) fun σ H R ⟨hA, ρ, g, q⟩ => ⟨hA, ρ, g, DK.ex q fun d v H1 _ s1 r1 p1 => ⟨hA.same s1, ρ, g.same s1, DK.ex p1 fun d2 v2 H2 _ s2 r2 p2 => by
  cases d with
  |int i=>
   cases d2 with
   |int j=>
    have e := r1.int_of;have e' := r2.int_of
    subst e e';have p3 : DK X.K CL A W H2 (CK i j) R := p2;cases e2 : CK i j with
    |ok ds=>
     rw[e2]at p3;obtain⟨h1, h2, rfl, hz⟩ := K6 e2;exact⟨i, j, rfl, ⟨h1.1, h1.2, h2.1, h2.2⟩, p3 _ H2 (Ay.refl H2) (NQ _ _) hz⟩
    |exn y => exact(KI e2).elim
    |bad => rw[e2]at p3;exact p3.elim
   |_ => exact p2.elim
  | _ => exact p2.elim⟩⟩
theorem BX.exI{r:R (Ab D)}{f:Ab D -> O}{Q:It -> Hp -> Prop}(x : Sx X.K CL Fz B ρ σ H)(h : BX X.K CL Fz B W (O.of ρ r f) D')(k : ∀ ds J H', r = .ok ds -> Ay H H' -> GH X.K CL A ds J H' -> ds.length <= sizeLine -> Sx X.K CL Fz B ρ σ H' -> BX X.K CL Fz B W (f ds) D' -> Q J H') : DK X.K CL A W H r Q := by
 cases r with
 |ok d => exact fun J H' s y z => k d J H' rfl s y z (x.grow s) h
 |exn y => exact fun H' s => h H' fun b o z => s _ _ (x.same b o z)
 |bad => exact h
theorem BX.turn{Fy:Ai -> HO -> Prop}{o:O}{g:Rho -> O}{N:L2.St -> Hp -> Prop}(hf : ∀ b q, Fz b q -> Fy b q)(h : BX K CL Fz B W (o.turn g) D')(k : ∀ ρ' σ' H', Sx K CL Fy B ρ' σ' H' -> BX K CL Fz B W (g ρ') D' -> N σ' H'):BX K CL Fy B W o {D' with nx := N,ct := N,bk := D'.nx} := by
 cases o with
 |next ρ' => exact fun σ' H' x => k ρ' σ' H' x h
 |cont ρ' => exact fun σ' H' x => k ρ' σ' H' x h
 |brk ρ' => exact fun σ' H' x => h σ' H' (x.mono hf)
 |ret d b => exact fun v H' s r n => h v H' (fun b o z => s b o (hf b o z)) r fun z ds e => let ⟨a, xs, h1, h2, h3⟩ := n z ds e;⟨a, xs, h1, fun o q => h2 o (hf a o q), h3⟩
 |exn y ρ' => exact fun H' s => h H' (fun b o z => s b o (hf b o z))
 |bad => exact h
noncomputable def Ea(ts : Ab Ag)(ρ : Rho) : Rho := ts.foldl (fun ρ t => ρ.set t Af) ρ
noncomputable def GT(K : Fg)(CL : ClA)(as : D -> Rho -> R Rho)(g : TG) : Prop := ∀ Fz B ρ σ H v d ρ' Q, Sx K CL Fz B ρ σ H -> Rep K CL H (BZ B ρ σ) v d -> as d ρ = .ok ρ' -> (∀ σ', Sx K CL Fz B ρ' σ' H -> Q σ' H) -> g v σ H Q
theorem WU(i : Ag) : GT K CL (fun d ρ => .ok (ρ.set i (Aa (d, Ad)))) (DW i) := fun Fz B ρ σ H v d ρ' Q x r e k => by
 cases e;exact k _ (x.set i r)
theorem LV{K : Fg}{Fz : Ai -> HO -> Prop}{B : Ai -> Prop}{H : Hp} : ∀(ts : Ab Ag)(ds : Ab D)(vs : Ab V)(ρ ρ' : Rho)(σ : L2.St)(Q : L2.St -> Hp -> Prop), Sx K CL Fz B ρ σ H -> Reps K CL H (BZ B ρ σ) vs ds -> DI ts ds ρ = Aa ρ' -> (∀ σ', Sx K CL Fz B ρ' σ' H -> Q σ' H) -> (ts.foldr (fun t u => FW (DW t) u) FY) vs σ H Q
 |[], [], [], ρ, ρ', σ, Q, x, _, e, k => by
  cases e;exact⟨rfl, k σ x⟩
 |t::ts, d::ds, v::vs, ρ, ρ', σ, Q, x, r, e, k => by
  refine⟨v, vs, rfl, LV ts ds vs _ ρ' _ Q (x.set t r.1) (Reps.sub (fun a ha => ?_) ds r.2) e k⟩
  rcases ha with ha|⟨j, c, h1, h2⟩
  ·exact .inl ha
  ·by_cases hj : t = j
   ·subst hj;have := FS h1;cases this
   ·rw[Ce hj]at h1 h2;exact .inr ⟨j, c, h1, h2⟩
 |[], _::_, _, _, _, _, _, _, _, e, _ => by cases e
 |_::_, [], _, _, _, _, _, _, _, e, _ => by cases e
 |[], [], _::_, _, _, _, _, _, r, _, _ => r.elim
 |_::_, _::_, [], _, _, _, _, _, r, _, _ => r.elim
theorem JE : ∀(ts : Ab Ag)(ds : Ab D)(ρ ρ' : Rho), DI ts ds ρ = Aa ρ' -> ds.length = ts.length
 |[], [], _, _, _ => rfl
 |_::ts, _::ds, _, _, e => congrArg (· + 1) (JE ts ds _ _ e)
 |[], _::_, _, _, e => by cases e
 |_::_, [], _, _, e => by cases e
theorem Pe(ts : Ab Ag) : GT K CL (E5 ts) (Iq K ts.length (ts.foldr (fun t u => FW (DW t) u) FY)) := fun Fz B ρ σ H v d ρ' Q x r e k => by
 cases d with
 |tup ds=>
  obtain⟨a, xs, rfl, na, sq, rs⟩ := r;rw[NB]at e;cases e2 : DI ts ds ρ with
  |none => rw[e2]at e;cases e
  |some ρ2=>
   rw[e2]at e;cases e;exact⟨a, xs, rfl, sq, by rw[rs.length];exact JE _ _ _ _ e2, LV ts ds xs ρ _ σ Q x rs e2 k⟩
 |_ => cases e
theorem O4{body:Ab Bq}{fbd:Rho -> O}{g:TG}(hp : EC (model X.prog X.w) X.A X.env X.xe)(hc : X.calm = Ac)(hGT : GT X.K CL as g)(hg : PG X tg g)(hit : SI X CL W tg iter fi)(hb : SSs X CL W body fbd)(hs : ∀ x, Ch iter X.env x = pure x)(hax : ∀ d ρ x, as d ρ ≠ .exn x):SS X CL W (.For tg iter body [] pos) (fun ρ =>O.of ρ (fi ρ) fun xs =>CT (fun x ρ' =>O.of ρ' (as x ρ') fbd) xs ρ) := fun Fz B pI s σ H D I ⟨ρ, x, p⟩ => by
 refine XX hp hc (hit (BZ B ρ σ)) hg (tb := fun D σ H => ∃ Fy, (fun D σ H => ∃ ρ, Sx X.K CL Fy B ρ σ H /\ BX X.K CL Fy B W (fbd ρ) D) D σ H) (fun pI s σ H D I ⟨Fy, q⟩ => hb Fy B pI s σ H D I q) hs pI s σ H D I ⟨x.aok, ρ, x.good, BX.exI x p fun ds J H1 _ s1 y _ x1 q => ?_⟩
 let Fy : Ai -> HO -> Prop := fun b o => H1 b = Aa o /\ ¬ ∃(j : Ag)(d : Ov.D), ρ[j]? = Aa (Aa (d, Ac)) /\ σ[j]? = Aa (Aa (.ref b))
 have hfy : ∀ b o, Fz b o -> Fy b o := fun b o z => ⟨x1.same b o z, fun ⟨j, d, h1, h2⟩ => (x1.new j d b h1 h2).1 o z⟩
 have xy : Sx X.K CL Fy B ρ σ H1 := ⟨x1.good, x1.aok, fun j d a h1 h2 => ⟨fun o z => z.2 ⟨j, d, h1, h2⟩, (x1.new j d a h1 h2).2⟩, x1.dis, fun b o z => z.1, x1.len⟩
 refine⟨fun k m σ' H' => m = ds.length-k /\ k <= ds.length /\ ∃ ρ', Sx X.K CL Fy B ρ' σ' H' /\ BX X.K CL Fz B W (CT (fun x ρ' => O.of ρ' (as x ρ') fbd) (ds.drop k) ρ') D, ⟨ds.length, by simp, F4 _, ρ, xy, q⟩, ?_⟩
 rintro k m σ' H' ⟨rfl, hk, ρ', x', q'⟩;have kp : Kp (BZ B ρ σ) H1 H' := fun b o e na => x'.same b o ⟨e, fun z => na (.inr z)⟩
 obtain⟨yst, ygo⟩ := y H' kp k;by_cases hlt : k<ds.length
 ·have hd : ds[k]? = Aa ds[k] := Bz hlt;obtain⟨hgo, hyl⟩ := ygo _ hd;refine .inr ⟨hgo, fun σ'' H'' => ∃ ρ'', Sx X.K CL Fy B ρ'' σ'' H'' /\ BX X.K CL Fz B W (CT (fun x ρ' => O.of ρ' (as x ρ') fbd) (ds.drop (k+1)) ρ'') D, fun σ'' H'' z => ⟨ds.length-(k+1), by omega, rfl, hlt, z⟩, fun v H2 hv => ?_⟩
  obtain⟨e2, rv⟩ := hyl v H2 hv;rw[DZ hlt]at q';have q2 : BX X.K CL Fz B W ((O.of ρ' (as ds[k] ρ') fbd).turn (CT (fun x ρ' => O.of ρ' (as x ρ') fbd) (ds.drop (k+1)))) D := q'
  have rv' : Rep X.K CL H2 (BZ B ρ' σ') v ds[k] := rv _ (fun a ha => by
    rcases ha with ha|⟨j, d, h1, h2⟩
    ·exact .inl (.inl ha)
    ·cases e : H1 a with
     |none => exact .inr rfl
     |some o=>
      by_cases ho : ∃(j : Ag)(d : Ov.D), ρ[j]? = Aa (Aa (d, Ac)) /\ σ[j]? = Aa (Aa (.ref a))
      ·exact .inl (.inr ho)
      ·exact absurd ⟨e, ho⟩ ((x'.new j d a h1 h2).1 o)) x'.aok
  cases ea : as ds[k] ρ' with
  |bad => rw[ea]at q2;exact q2.elim
  |exn z => exact absurd ea (hax _ _ z)
  |ok ρ2=>
   rw[ea, O.of_ok]at q2;exact hGT Fy B ρ' σ' H2 v ds[k] ρ2 _ (x'.grow e2) rv' ea fun σ3 x3 => ⟨Fy, ρ2, x3, BX.turn hfy q2 fun ρ3 σ3 H3 x3 q3 => ⟨ρ3, x3, q3⟩⟩
 ·have hk' : ds.length <= k := by omega
  rw[Ra hk']at q';exact .inl ⟨yst hk', q' σ' H' (x'.mono hfy)⟩
end
section
variable{X : Cx}{CL : ClA}{W : XW}{a b c : Ao}{fa fb fc : Rho -> R D}{pos : AN}
noncomputable def tyK : Ki -> Ap Dj
 |.int => Aa "int"
 |.bool => Aa "bool"
 |.str => Aa "str"
 |.list => Aa "list"
 |.tuple => Aa "tuple"
 |_ => Af
noncomputable def L5 : D -> An
 |.obj _ _ => Ad
 |.exc _ _ => Ad
 |.dic _ => Ad
 |_ => Ac
theorem YA{k:Ki}{E : Ah -> Ak -> Prop}(I : Inv X pI σ H s)(r : Cj X.K CL H A v d)(q : Bo v u)(hT : tyK k = Aa T)(hd : L5 d = Ac)(h : ∀ s', Inv X pI σ H s' -> Q (.bool (kiD up k d)) s'):
  AB (model X.prog X.w) X.A (call (.builtin "isinstance") [u, .type T]) Q E s := by
 have r' := r.plain;have it := fun t => h _ (I.tok t)
 cases d with
 |obj => cases hd
 |exc => cases hd
 |dic => cases hd
 |non=>
  cases r';cases q;cases k <;> simp only[tyK]at hT <;> cases hT
  ·exact IsiPair.NoneType_int (it _)
  ·exact IsiPair.NoneType_bool (it _)
  ·exact IsiPair.NoneType_str (it _)
  ·exact IsiPair.NoneType_list (it _)
  ·exact IsiPair.NoneType_tuple (it _)
 |bl b=>
  cases r';cases q;cases k <;> simp only[tyK]at hT <;> cases hT
  ·exact IsiPair.bool_int (h _ I)
  ·exact IsiPair.bool_bool (h _ I)
  ·exact IsiPair.bool_str (it _)
  ·exact IsiPair.bool_list (it _)
  ·exact IsiPair.bool_tuple (it _)
 |int i=>
  cases r';obtain⟨t, rfl⟩ := q;cases k <;> simp only[tyK]at hT <;> cases hT
  ·exact IsiPair.int_int (h _ I)
  ·exact IsiPair.int_bool (it _)
  ·exact IsiPair.int_str (it _)
  ·exact IsiPair.int_list (it _)
  ·exact IsiPair.int_tuple (it _)
 |str x=>
  cases r';obtain⟨t, rfl⟩ := q;cases k <;> simp only[tyK]at hT <;> cases hT
  ·exact IsiPair.str_int (it _)
  ·exact IsiPair.str_bool (it _)
  ·exact IsiPair.str_str (h _ I)
  ·exact IsiPair.str_list (it _)
  ·exact IsiPair.str_tuple (it _)
 |tup ds=>
  obtain⟨p, xs, rfl, _, sq, rr⟩ := r';obtain⟨its, rv, pt, _⟩ := I.tuple sq;cases q;have pt' : s.heap.IsTuple p its.toArray := pt;cases k <;> simp only[tyK]at hT <;> cases hT
  ·exact IsiPair.isTuple_int pt' (fun _ _ e => e) (it _)
  ·exact IsiPair.isTuple_bool pt' (fun _ _ e => e) (it _)
  ·exact IsiPair.isTuple_str pt' (fun _ _ e => e) (it _)
  ·exact IsiPair.isTuple_list pt' (fun _ _ e => e) (it _)
  ·exact IsiPair.isTuple_tuple pt' (fun _ _ e => e) (h _ I)
 |lst ds=>
  obtain⟨p, xs, rfl, _, sq, rr⟩ := r';obtain⟨its, rv, pl, _⟩ := I.list sq;cases q;have pt' : s.heap.IsList p its.toArray := F8 pl;cases k <;> simp only[tyK]at hT <;> cases hT
  ·exact IsiPair.isList_int pt' (fun _ _ e => e) (it _)
  ·exact IsiPair.isList_bool pt' (fun _ _ e => e) (it _)
  ·exact IsiPair.isList_str pt' (fun _ _ e => e) (it _)
  ·exact IsiPair.isList_list pt' (fun _ _ e => e) (h _ I)
  ·exact IsiPair.isList_tuple pt' (fun _ _ e => e) (it _)
theorem TR{k:Ki}{Q:VK}(hT : tyK k = Aa T)(p : A5 Rp W H (Fp up [k] d) Q) : L5 d = Ac /\ A5 Rp W H (.ok (.bl (kiD up k d))) Q := by
 cases k <;> simp only[tyK]at hT <;> cases hT <;> cases d <;> first|exact p.elim|exact⟨rfl, by simpa using p⟩
theorem X9{k:Ki}{x:Aj}(hT : tyK k = Aa T)(hg : Gl X "isinstance")(hm : X.mg "isinstance" = Af)(hg2 : Gl X x)(hm2 : X.mg x = Af)(hv : Co x = Aa (.type T))(hn : x ≠ "__name__")(hdb : (x==("__debug__" : Aj)) = Ad)(ha : ST X CL W a fa)(he : Ax [a, .Name x p2] X.env = (Ad, eval a X.env)::Ax [.Name x p2] X.env) : SE X CL W (.Call (.Name "isinstance" p) [a, .Name x p2] [] pos) (fun ρ => (fa ρ).bind fun x => Fp up [k] x) := fun A=>
 PE.weak (NX (r := fun xs H Q => ∃ y d, xs = [y, .ty T] /\ Cj X.K CL H A y d /\ L5 d = Ac /\ Q (.bl (kiD up k d)) H) (fun pI s σ H xs us Q I r ⟨y, d, e, ry, hd, q⟩ => by
   subst e;obtain⟨u, w', rfl, r1, r2⟩ := PF r;cases r2;exact YA I ry r1 hT hd fun s' I' => ⟨.bl _, H, I', rfl, q⟩)
  hg hm boot_isinstance (E2 (ha A) (E2 (Vh (v := .ty T) hg2 hm2 hv rfl hn hdb) GA rfl) he) (by decide) (by decide) he rfl) fun σ H Q ⟨hA, ρ, g, q⟩ => ⟨hA, ρ, g, A5.bind q fun d v H1 _ s1 r1 p1 => by
   obtain⟨hd, p2⟩ := TR hT p1;exact⟨v, d, rfl, r1, hd, p2 _ H1 (Ay.refl H1) rfl⟩⟩
theorem Lu{b : An}{A':A3}{E : Ah -> Ak -> Prop}{Q:An -> Ak -> Prop}(r : Rep X.K CL H A v d)(q : Bo v u)(h : Dq d = .ok b)(hq : Q b s) : AB (model prog w) A' (truthy u) Q E s := by
 cases d with
 |non=>
  cases r;cases q;cases h;exact truthy_none hq
 |bl k=>
  cases r;cases q;cases h;exact B1 hq
 |int i=>
  cases r;obtain⟨t, rfl⟩ := q;cases h;exact truthy_int hq
 |_ => cases h
theorem M7 : ∀{ds : Ab D}{b : An}, ER ds = .ok b -> (∀ j, j<ds.length -> ∃ c, Dq (ds.getD j .non) = .ok c) /\ b = (Cc ds.length).all fun j => match Dq (ds.getD j .non) with
  |.ok c => c
  |_ => Ad
 |[], b, h => by cases h;exact⟨fun j hj => absurd hj (F2 _), rfl⟩
 |d::ds, b, h => by
  rw[NE]at h;cases e : Dq d with
  |bad => rw[e]at h;cases h
  |exn x => rw[e]at h;cases h
  |ok c=>
   rw[e, R.bind_ok]at h;cases e2 : ER ds with
   |bad => rw[e2]at h;cases h
   |exn x => rw[e2]at h;cases h
   |ok c2=>
    rw[e2, R.bind_ok]at h;cases h;obtain⟨h1, h2⟩ := M7 e2;refine⟨fun j hj => ?_, ?_⟩
    ·cases j with
     |zero => exact⟨c, e⟩
     |succ j => exact h1 j (by simpa using hj)
    ·rw[BA, MX, h2];show (c&&_) = ((match Dq d with | .ok c => c|_ => Ad)&&_)
     rw[e];rfl
theorem M6 : ∀{ds : Ab D}{b : An}, Ef ds = .ok b -> (∀ j, j<ds.length -> ∃ c, Dq (ds.getD j .non) = .ok c) /\ b = (Cc ds.length).any fun j => match Dq (ds.getD j .non) with
  |.ok c => c
  |_ => Ad
 |[], b, h => by cases h;exact⟨fun j hj => absurd hj (F2 _), rfl⟩
 |d::ds, b, h => by
  rw[ND]at h;cases e : Dq d with
  |bad => rw[e]at h;cases h
  |exn x => rw[e]at h;cases h
  |ok c=>
   rw[e, R.bind_ok]at h;cases e2 : Ef ds with
   |bad => rw[e2]at h;cases h
   |exn x => rw[e2]at h;cases h
   |ok c2=>
    rw[e2, R.bind_ok]at h;cases h;obtain⟨h1, h2⟩ := M6 e2;refine⟨fun j hj => ?_, ?_⟩
    ·cases j with
     |zero => exact⟨c, e⟩
     |succ j => exact h1 j (by simpa using hj)
    ·rw[BA, Ei, Q6, List.any_map, h2];show (c||_) = ((match Dq d with | .ok c => c|_ => Ad)||_)
     rw[e];rfl
theorem NS : ∀(ds : Ab D)(a z : Ae), Fa a ds = .ok z -> (∀ j, j<ds.length -> ∃ i, ds.getD j .non = .int i) /\ z = a+GS (fun j => match ds.getD j .non with
  |.int i => i
  | _ => 0) ds.length
 |[], a, z, h => by cases h;exact⟨fun j hj => absurd hj (F2 _), by simp[GS]⟩
 |.int i::ds, a, z, h => by
  obtain⟨h1, h2⟩ := NS ds (a+i) z h;refine⟨fun j hj => ?_, ?_⟩
  ·cases j with
   |zero => exact⟨i, rfl⟩
   |succ j => exact h1 j (by simpa using hj)
  ·have key : ∀ n, GS (fun j => match (D.int i::ds).getD j .non with | .int i => i|_ => 0) (n+1) = i+GS (fun j => match ds.getD j .non with | .int i => i|_ => 0) n := by
    intro n
    induction n with
    |zero => show (0 : Ae)+i = i+0;omega
    |succ n ih=>
     show GS _ (n+1)+(match ds.getD n .non with | .int i => i|_ => 0) = i+(GS _ n+(match ds.getD n .non with | .int i => i|_ => 0))
     rw[ih];omega
   rw[h2, BA, key];omega
 |.non::_, _, _, h => by cases h
 |.bl _::_, _, _, h => by cases h
 |.str _::_, _, _, h => by cases h
 |.tup _::_, _, _, h => by cases h
 |.lst _::_, _, _, h => by cases h
 |.obj _ _::_, _, _, h => by cases h
 |.exc _ _::_, _, _, h => by cases h
 |.dic _::_, _, _, h => by cases h
theorem IU{ds : Ab D}{its:Ab Ah}(r : Reps X.K CL H A0 xs ds)(rv : AZ xs its){v:Ah}(h : its.toArray[j]? = Aa v) : j<ds.length /\ ∃ x, Rep X.K CL H A0 x (ds.getD j .non) /\ Bo x v := by
 have h' : its[j]? = Aa v := by simpa using h
 obtain⟨hj, e⟩ := AK.mp h';obtain⟨x, rx, q⟩ := Hh r rv hj;have l1 := rv.length;have l2 := r.length
 exact⟨by omega, x, rx, by rw[<-e];exact q⟩
theorem Jc{o:AJ}(k : ∀ b q, b ∉ [h.objs.size] -> (h.push o).get? b = Aa q -> h'.get? b = Aa q) : ∀ b q, h.get? b = Aa q -> h'.get? b = Aa q := fun b q e => k b q (by
 intro z;have := BG.mp z;rw[this]at e;exact absurd (Aw e) (Be _)) (Ar _ e)
theorem Zw(hc : X.calm = Ac) : G0 X CL W (.builtin "all") (biD .all) := by
  intro A pI s σ H xs us Q I r ⟨hA, ds, rs, p⟩
  match ds, rs, p with
  |[.lst es], rs, p=>
    obtain⟨v, rfl, rv⟩ := rs.one;obtain⟨q, ys, e, _, sq, ry⟩ := rv.plain;subst e;obtain⟨u, rfl, ru⟩ := Gb r;cases ru;rw[dL]at p;cases e1 : ER es with
    |bad => rw[e1]at p;exact p.elim
    |exn x=>
      exfalso
      have : ∀(es : Ab D) x, ER es ≠ .exn x := by
        intro es
        induction es with
        |nil => intro x h;cases h
        |cons d ds ih=>
          intro x h;rw[NE]at h;cases e : Dq d with
          |bad => rw[e]at h;cases h
          |exn y => cases d <;> cases e
          |ok c=>
            rw[e, R.bind_ok]at h;cases e2 : ER ds with
            |bad => rw[e2]at h;cases h
            |exn y => exact ih y e2
            |ok c2 => rw[e2]at h;cases h
      exact this es x e1
    |ok b=>
      rw[e1, R.bind_ok]at p;obtain⟨h1, h2⟩ := M7 e1;obtain⟨its, rvv, pl, _⟩ := I.list sq;have hlt : q<s.heap.objs.size := by obtain⟨o, n, e, _⟩ := pl;exact Aw e
      have hl : its.toArray.size = es.length := by rw[Az, <-rvv.length, ry.length]
      refine call_all_walk (C3 (F8 pl) ⟨s.heap.objs.size, _, _, _, _, _, (fun j => match Dq (es.getD j .non) with | .ok c => c|_ => Ad), rfl, Hx (A := X.A.in1) (I.ok.hd hc) s.heap.objs.size q (A2 hlt) its.toArray, ⟨⟨_, AC _ rfl, rfl, rfl⟩, (F8 pl).push _⟩, fun j v s' Q' E' hv hQ => ?_, fun h' tk k => ?_⟩)
      · obtain⟨hj, x, rx, qx⟩ := IU ry rvv hv;obtain⟨c, ec⟩ := h1 j hj;exact Lu rx qx ec (by dsimp only at hQ;rw[ec]at hQ;exact hQ)
      · rw[hl, <-h2];exact⟨.bl b, H, I.kept (Jc k), rfl, p _ H (Ay.refl H) rfl⟩
  |[], _, p => exact p.elim
  |[.non], _, p => exact p.elim
  |[.bl _], _, p => exact p.elim
  |[.int _], _, p => exact p.elim
  |[.str _], _, p => exact p.elim
  |[.tup _], _, p => exact p.elim
  |[.obj _ _], _, p => exact p.elim
  |[.exc _ _], _, p => exact p.elim
  |[.dic _], _, p => exact p.elim
  |x::_::_, _, p => cases x <;> exact p.elim
theorem OV(hc : X.calm = Ac){Q:VK}{es:Ab D}(I : Inv X pI σ H s)(sq : SqL X.K H q ys \/ SqT X.K H q ys)(ry : Reps X.K CL H A0 ys es)(p : A5 (fun H => Rep X.K CL H A) W H ((Ef es).bind fun b => .ok (.bl b)) Q) : AB (model X.prog X.w) X.A (call (.builtin "any") [.ref q]) (EP X pI σ Q) X.xe s := by
 cases e1 : Ef es with
 |bad => rw[e1]at p;exact p.elim
 |exn x=>
  exfalso
  clear p
  have : ∀(es : Ab D) x, Ef es ≠ .exn x := by
   intro es
   induction es with
   |nil => intro x h;cases h
   |cons d ds ih=>
    intro x h;rw[ND]at h;cases e : Dq d with
    |bad => rw[e]at h;cases h
    |exn y => cases d <;> cases e
    |ok c=>
     rw[e, R.bind_ok]at h;cases e2 : Ef ds with
     |bad => rw[e2]at h;cases h
     |exn y => exact ih y e2
     |ok c2 => rw[e2]at h;cases h
  exact this es x e1
 |ok b=>
  rw[e1, R.bind_ok]at p;obtain⟨h1, h2⟩ := M6 e1;rcases sq with sq|sq
  ·obtain⟨its, rvv, pl, _⟩ := I.list sq;have hlt : q<s.heap.objs.size := by obtain⟨o, n, e, _⟩ := pl;exact Aw e
   have hl : its.toArray.size = es.length := by rw[Az, <-rvv.length, ry.length]
   refine call_any_walk (C3 (F8 pl) ⟨s.heap.objs.size, _, _, _, _, _, (fun j => match Dq (es.getD j .non) with | .ok c => c|_ => Ad), rfl, Hx (A := X.A.in1) (I.ok.hd hc) s.heap.objs.size q (A2 hlt) its.toArray, ⟨⟨_, AC _ rfl, rfl, rfl⟩, (F8 pl).push _⟩, fun j v s' Q' E' hv hQ => ?_, fun h' tk k => ?_⟩)
   ·obtain⟨hj, x, rx, qx⟩ := IU ry rvv hv;obtain⟨c, ec⟩ := h1 j hj;exact Lu rx qx ec (by dsimp only at hQ;rw[ec]at hQ;exact hQ)
   ·rw[hl, <-h2];exact⟨.bl b, H, I.kept (Jc k), rfl, p _ H (Ay.refl H) rfl⟩
  ·obtain⟨its, rvv, pl, _⟩ := I.tuple sq;have pl' : s.heap.IsTuple q its.toArray := pl;have hlt : q<s.heap.objs.size := by obtain⟨o, e, _⟩ := pl';exact Aw e
   have hl : its.toArray.size = es.length := by rw[Az, <-rvv.length, ry.length]
   refine call_any_walk (D9 pl' ⟨s.heap.objs.size, _, _, _, _, _, (fun j => match Dq (es.getD j .non) with | .ok c => c|_ => Ad), rfl, SD (A := X.A.in1) (I.ok.hd hc) s.heap.objs.size q (A2 hlt) its.toArray, ⟨⟨_, AC _ rfl, rfl, rfl⟩, pl'.push _⟩, fun j v s' Q' E' hv hQ => ?_, fun h' tk k => ?_⟩)
   ·obtain⟨hj, x, rx, qx⟩ := IU ry rvv hv;obtain⟨c, ec⟩ := h1 j hj;exact Lu rx qx ec (by dsimp only at hQ;rw[ec]at hQ;exact hQ)
   ·rw[hl, <-h2];exact⟨.bl b, H, I.kept (Jc k), rfl, p _ H (Ay.refl H) rfl⟩
theorem Zv(hc : X.calm = Ac) : G0 X CL W (.builtin "any") (biD .any) := by
  intro A pI s σ H xs us Q I r ⟨hA, ds, rs, p⟩
  match ds, rs, p with
  |[.lst es], rs, p=>
    obtain⟨v, rfl, rv⟩ := rs.one;obtain⟨q, ys, e, _, sq, ry⟩ := rv.plain;subst e;obtain⟨u, rfl, ru⟩ := Gb r;cases ru;exact OV hc I (.inl sq) ry p
  |[.tup es], rs, p=>
    obtain⟨v, rfl, rv⟩ := rs.one;obtain⟨q, ys, e, _, sq, ry⟩ := rv.plain;subst e;obtain⟨u, rfl, ru⟩ := Gb r;cases ru;exact OV hc I (.inr sq) ry p
  |[], _, p => exact p.elim
  |[.non], _, p => exact p.elim
  |[.bl _], _, p => exact p.elim
  |[.int _], _, p => exact p.elim
  |[.str _], _, p => exact p.elim
  |[.obj _ _], _, p => exact p.elim
  |[.exc _ _], _, p => exact p.elim
  |[.dic _], _, p => exact p.elim
  |x::_::_, _, p => cases x <;> exact p.elim
theorem N3(hc : X.calm = Ac){Q:VK}{es:Ab D}(I : Inv X pI σ H s)(sq : SqL X.K H q ys \/ SqT X.K H q ys)(ry : Reps X.K CL H A0 ys es)(p : A5 (fun H => Rep X.K CL H A) W H ((Fa 0 es).bind fun b => .ok (.int b)) Q) : AB (model X.prog X.w) X.A (call (.builtin "sum") [.ref q]) (EP X pI σ Q) X.xe s := by
 cases e1 : Fa 0 es with
 |bad => rw[e1]at p;exact p.elim
 |exn x=>
  exfalso
  have : ∀(es : Ab D)(a : Ae) x, Fa a es ≠ .exn x := by
   intro es
   induction es with
   |nil => intro a x h;cases h
   |cons d ds ih=>
    intro a x h;cases d <;> first|exact ih _ _ h|cases h
  exact this es 0 x e1
 |ok z=>
  rw[e1, R.bind_ok]at p;obtain⟨h1, h2⟩ := NS es 0 z e1;rw[ED]at h2;rcases sq with sq|sq
  ·obtain⟨its, rvv, pl, _⟩ := I.list sq;have hlt : q<s.heap.objs.size := by obtain⟨o, n, e, _⟩ := pl;exact Aw e
   have hl : its.toArray.size = es.length := by rw[Az, <-rvv.length, ry.length]
   refine SF (C3 (F8 pl) ⟨s.heap.objs.size, _, _, _, _, _, (fun j => match es.getD j .non with | .int i => i|_ => 0), rfl, Hx (A := X.A.in1) (I.ok.hd hc) s.heap.objs.size q (A2 hlt) its.toArray, ⟨⟨_, AC _ rfl, rfl, rfl⟩, (F8 pl).push _⟩, fun b hb => ?_, fun j v hv => ?_, fun h' tk t' k => ?_⟩)
   ·show b<(s.heap.push _).objs.size;rw[By];rcases At.mp hb with rfl|hb
    ·exact En _
    ·rw[BG.mp hb];exact CC hlt
   ·obtain⟨hj, x, rx, qx⟩ := IU ry rvv hv;obtain⟨i, ei⟩ := h1 j hj;rw[ei]at rx;dsimp only;rw[ei];cases rx;exact qx
   ·rw[hl, <-h2];exact⟨.int z, H, I.kept (Jc k), ⟨_, rfl⟩, p _ H (Ay.refl H) rfl⟩
  ·obtain⟨its, rvv, pl, _⟩ := I.tuple sq;have pl' : s.heap.IsTuple q its.toArray := pl;have hlt : q<s.heap.objs.size := by obtain⟨o, e, _⟩ := pl';exact Aw e
   have hl : its.toArray.size = es.length := by rw[Az, <-rvv.length, ry.length]
   refine SF (D9 pl' ⟨s.heap.objs.size, _, _, _, _, _, (fun j => match es.getD j .non with | .int i => i|_ => 0), rfl, SD (A := X.A.in1) (I.ok.hd hc) s.heap.objs.size q (A2 hlt) its.toArray, ⟨⟨_, AC _ rfl, rfl, rfl⟩, pl'.push _⟩, fun b hb => ?_, fun j v hv => ?_, fun h' tk t' k => ?_⟩)
   ·show b<(s.heap.push _).objs.size;rw[By];rcases At.mp hb with rfl|hb
    ·exact En _
    ·rw[BG.mp hb];exact CC hlt
   ·obtain⟨hj, x, rx, qx⟩ := IU ry rvv hv;obtain⟨i, ei⟩ := h1 j hj;rw[ei]at rx;dsimp only;rw[ei];cases rx;exact qx
   ·rw[hl, <-h2];exact⟨.int z, H, I.kept (Jc k), ⟨_, rfl⟩, p _ H (Ay.refl H) rfl⟩
theorem Zs(hc : X.calm = Ac) : G0 X CL W (.builtin "sum") (biD .sum) := by
  intro A pI s σ H xs us Q I r ⟨hA, ds, rs, p⟩
  match ds, rs, p with
  |[.lst es], rs, p=>
    obtain⟨v, rfl, rv⟩ := rs.one;obtain⟨q, ys, e, _, sq, ry⟩ := rv.plain;subst e;obtain⟨u, rfl, ru⟩ := Gb r;cases ru;exact N3 hc I (.inl sq) ry p
  |[.tup es], rs, p=>
    obtain⟨v, rfl, rv⟩ := rs.one;obtain⟨q, ys, e, _, sq, ry⟩ := rv.plain;subst e;obtain⟨u, rfl, ru⟩ := Gb r;cases ru;exact N3 hc I (.inr sq) ry p
  |[], _, p => exact p.elim
  |[.non], _, p => exact p.elim
  |[.bl _], _, p => exact p.elim
  |[.int _], _, p => exact p.elim
  |[.str _], _, p => exact p.elim
  |[.obj _ _], _, p => exact p.elim
  |[.exc _ _], _, p => exact p.elim
  |[.dic _], _, p => exact p.elim
  |x::_::_, _, p => cases x <;> exact p.elim
end
section
variable(K : Fg)(CL : ClA)
noncomputable def cY(H0 : Hp)(A : Ai -> Prop)(H : Hp)(v : V)(d : D) : Prop := ∀ ds, d = .lst ds -> ∃ a xs, v = .ref a /\ H0 a = Af /\ H a = Aa (.lst xs) /\ Reps K CL H (fun b => A b \/ b = a) xs ds
noncomputable def Dl(fr : An)(H0 : Hp)(A : Ai -> Prop)(H : Hp)(v : V)(d : D) : Prop := Rep K CL H A v d /\ (fr = Ac -> cY K CL H0 A H v d)
end
section
variable{X : Cx}{CL : ClA}{W : XW}{a b c : Ao}{fa fb fc : Rho -> R D}{pos : AN}
noncomputable def SC(X : Cx)(CL : ClA)(W : XW)(fr : An)(e : Ao)(f : Rho -> R D) : Prop := ∀ A, PE X e (fun σ H Q => AOk H A /\ ∃ ρ, Good X.K CL A ρ σ H /\ A5 (Dl X.K CL fr H A) W H (f ρ) Q)
theorem SC.se{fr : An}(h : SC X CL W fr a fa) : SE X CL W a fa := fun A => PE.weak (h A) fun σ H Q ⟨hA, ρ, g, p⟩ => ⟨hA, ρ, g, by
 cases e : fa ρ with
 |ok d => rw[e]at p;exact fun v H' s r => p v H' s r.1
 |exn x => rw[e]at p;exact p
 | bad => rw[e]at p;exact p⟩
theorem SE.sc(h : SE X CL W a fa) : SC X CL W Ad a fa := fun A => PE.weak (h A) fun σ H Q ⟨hA, ρ, g, p⟩ => ⟨hA, ρ, g, by
 cases e : fa ρ with
 |ok d => rw[e]at p;exact fun v H' s r => p v H' s ⟨r, fun z => nomatch z⟩
 |exn x => rw[e]at p;exact p
 | bad => rw[e]at p;exact p⟩
theorem SC.congr{fr : An}{f g:Rho -> R D}(h : SC X CL W fr a f)(e : ∀ ρ, g ρ = f ρ) : SC X CL W fr a g := fun A => PE.weak (h A) fun σ H Q ⟨hA, ρ, q, p⟩ => ⟨hA, ρ, q, by rw[<-e];exact p⟩
theorem He{p:Ai}{ds : Ab D}(s : Ay H0 H)(hA : AOk H A)(hp : H p = Af)(r : Reps K CL H A xs ds) : Dl K CL Ac H0 A (upd H p (.lst xs)) (.ref p) (.lst ds):=
 ⟨Ou hA hp r, fun _ ds' e => by
  cases e;exact⟨p, xs, rfl, s.free hp, FQ, (Reps.wide (fun a ha => ha.imp id fun e => by rw[e];exact hp) _ r).same (Er hp _)⟩⟩
theorem OE{fr : An}(r : Rep K CL H A v d)(h : ∀ ds, d ≠ .lst ds) : Dl K CL fr H0 A H v d := ⟨r, fun _ ds e => absurd e (h ds)⟩
theorem W1(hs : SA X CL W es fs)(hz : ∀ ρ ds, fs ρ = .ok ds -> ds.length <= 100000) : SC X CL W Ac (.List es pos) (fun ρ => (fs ρ).bind fun xs => .ok (.lst xs)):=
 fun A => PE.weak (YM (hs A)) fun σ H Q ⟨hA, ρ, g, p⟩ => ⟨hA, ρ, g, FU.bind p fun ds vs H1 e s1 r1 p1 => ⟨by
  rw[r1.length, DR];have := hz ρ ds e;omega, fun q hq => p1 _ _ (Er hq _) (He s1 (hA.same s1) hq r1)⟩⟩
theorem A5.bindF{fr : An}{f:D -> R D}{Q Q':VK}(h : A5 (Dl K CL fr H A) W H (r.bind f) Q)(k : ∀ d v H', r = .ok d -> Ay H H' -> Rp H' v d -> A5 (Dl K CL fr H A) W H' (f d) Q -> Q' v H') : A5 Rp W H r Q' := by
 cases r with
 |ok d => exact fun v H2 s2 q => k d v H2 rfl s2 q (A5.same s2 h)
 |exn x => exact h
 |bad => exact h
theorem FU.bindF{Rp:Hp -> Ab V -> Ab D -> Prop}{r:R (Ab D)}{f:Ab D -> R D}{Q:VK}{Q':Ab V -> Hp -> Prop}(h : A5 Rq W H (r.bind f) Q)(k : ∀ d v H', r = .ok d -> Ay H H' -> Rp H' v d -> A5 Rq W H' (f d) Q -> Q' v H') : FU Rp W H r Q' := by
 cases r with
 |ok d => exact fun v H2 s2 q => k d v H2 rfl s2 q (A5.same s2 h)
 |exn x => exact h
 |bad => exact h
theorem Hk.bindF{r:R (Ap Ae)}{f:Ap Ae -> R D}{Q:VK}(h : A5 Rq W H (r.bind f) Q)(k : ∀ o H', r = .ok o -> Ay H H' -> A5 Rq W H' (f o) Q -> Q' o H') : Hk W H r Q' := by
 cases r with
 |ok d => exact fun H2 s2 => k d H2 rfl s2 (A5.same s2 h)
 |exn x => exact h
 |bad => exact h
theorem ZN{lo hi:Ap Ao}{fl fh:Rho -> R (Ap Ae)}(ha : ST X CL W a fa)(hl : SO X CL W lo fl)(hh : SO X CL W hi fh) : SC X CL W Ac (.Subscript a (.Slice lo hi Af p2) pos) (fun ρ => (fa ρ).bind fun x => (fl ρ).bind fun l => (fh ρ).bind fun h => slD x l h):=
 fun A => PE.weak (Ud (r := fun x l h H Q => QH X.K x l h H Q \/ QG X.K x l h H Q) (fun pI s σ H x v vl vu lo hi sl Q I rx hs pl pu h => h.elim (V7 pI s σ H x v vl vu lo hi sl Q I rx hs pl pu) (X1 pI s σ H x v vl vu lo hi sl Q I rx hs pl pu)) (ha A) (hl A) (hh A)) fun σ H Q ⟨hA, ρ, g, p⟩ => ⟨hA, ρ, g, A5.bindF p fun dx x H1 _ s1 r1 p1 => ⟨hA.same s1, ρ, g.same s1, Hk.bindF p1 fun l H2 _ s2 p2 => ⟨(hA.same s1).same s2, ρ, (g.same s1).same s2, Hk.bindF p2 fun h H3 _ s3 p3 => by
  cases dx with
  |lst ds=>
   obtain⟨q, xs, rfl, sq, r⟩ := ((r1.same s2).same s3).lst_of;exact .inl ⟨q, xs, rfl, sq, fun t ht => p3 _ _ (Er ht _) (He ((s1.trans s2).trans s3) (((hA.same s1).same s2).same s3) ht (Oq l h r))⟩
  |tup ds=>
   obtain⟨q, xs, rfl, _, sq, r⟩ := ((r1.same s2).same s3).tup_of;rw[eC]at p3;split at p3
   ·exact p3.elim
   ·rename_i hw;refine .inr ⟨q, xs, rfl, sq, ?_, fun t ht => p3 _ _ (Er ht _) (OE (HN (((hA.same s1).same s2).same s3) ht (Oq l h r)) (by intro _ z;cases z))⟩
    rintro⟨h1, h2⟩;refine hw ?_;have e : ∀ d o, HT.sIx xs.length d o = Ge ds.length d o := fun d o => by rw[r.length];cases o <;> rfl
    rw[e]at h1 h2;rw[r.length]at h2;simp[h1, h2]
  | _ => exact p3.elim⟩⟩⟩
noncomputable def OpN(X : Cx)(CL : ClA)(W : XW)(f : Ah -> Ah -> Fk Ah)(g : D -> D -> R D) : Prop:=
 ∀ A H0, OpR X f (fun x y H Q => Ay H0 H /\ AOk H A /\ ∃ dx dy, Cj X.K CL H A x dx /\ Cj X.K CL H A y dy /\ A5 (Dl X.K CL Ac H0 A) W H (g dx dy) Q)
theorem Vi : OpN X CL W (BE .Add) (Cq .Add) := by
 intro A H0 pI s σ H x y v u Q I rx ry ⟨s0, hA, dx, dy, hx, hy, p⟩;have key : (∀ ds, dx ≠ .lst ds) -> EP X pI σ Q = EP X pI σ Q -> AB (model X.prog X.w) X.A (BE .Add v u) (EP X pI σ Q) X.xe s := fun hd _ => by
  refine OK (W := W) A pI s σ H x y v u Q I rx ry ⟨hA, dx, dy, hx, hy, ?_⟩;cases e : Cq .Add dx dy with
  |bad => rw[e]at p;exact p
  |exn x => rw[e]at p;exact p
  |ok d=>
   rw[e]at p;refine fun v' H' s' r' => p v' H' s' (OE r' fun ds z => ?_)
   subst z;cases dx with
   |lst ds => exact hd _ rfl
   |_ => cases dy <;> first|(cases e;done)|(simp only[Cq]at e;split at e <;> cases e)
 cases dx with
 |lst ds=>
  cases dy with
  |lst es=>
   obtain⟨a, xs, rfl, s1, r1⟩ := hx.lst_of;obtain⟨b, ys, rfl, s2, r2⟩ := hy.lst_of;simp only[Mc]at p;split at p
   ·rename_i h;refine OM pI s σ H _ _ v u Q I rx ry ⟨a, b, xs, ys, rfl, rfl, s1, s2, by rw[r1.length, r2.length];exact Hg h, fun q hq => ?_⟩
    exact p _ _ (Er hq _) (He s0 hA hq (r1.append r2))
   ·exact p.elim
  |_ => exact p.elim
 |_ => exact key (by intro _ z;cases z) rfl
theorem X0(ha : ST X CL W a fa)(hb : ST X CL W b fb) : SC X CL W Ac (.BinOp a .Add b pos) (fun ρ => (fa ρ).bind fun x => (fb ρ).bind fun y => Cq .Add x y):=
 fun A pI s σ H Q I h => by
  obtain⟨hA, ρ, g, p⟩ := h;exact PK (Vi (W := W) A H) (ha A) (hb A) pI s σ H Q I ⟨hA, ρ, g, A5.bindF p fun dx x H1 _ s1 r1 p1 => ⟨hA.same s1, ρ, g.same s1, A5.bind (Rq := Dl X.K CL Ac H A) p1 fun dy y H2 _ s2 r2 p2 => ⟨s1.trans s2, (hA.same s1).same s2, dx, dy, r1.same s2, r2, p2⟩⟩⟩
noncomputable def Qe(X : Cx)(CL : ClA)(W : XW)(f : Ah)(g : Ab D -> R D) : Prop := ∀ A H0, Gd X f (fun xs H Q => Ay H0 H /\ AOk H A /\ ∃ ds, Et X.K CL H A xs ds /\ A5 (Dl X.K CL Ac H0 A) W H (g ds) Q)
theorem Wq : Qe X CL W (.type "list") (biD .list) := by
  intro A H0 pI s σ H xs us Q I r ⟨s0, hA, ds, rs, p⟩
  match ds, rs, p with
  |[.lst es], rs, p=>
    obtain⟨v, rfl, rv⟩ := rs.one;obtain⟨q, ys, rfl, sq, ry⟩ := rv.lst_of;exact MR pI s σ H _ us Q I r ⟨q, ys, rfl, .inl sq, fun l hl => p _ _ (Er hl _) (He s0 hA hl ry)⟩
  |[.tup es], rs, p=>
    obtain⟨v, rfl, rv⟩ := rs.one;obtain⟨q, ys, rfl, _, sq, ry⟩ := rv.tup_of;exact MR pI s σ H _ us Q I r ⟨q, ys, rfl, .inr sq, fun l hl => p _ _ (Er hl _) (He s0 hA hl ry)⟩
  |[], _, p => exact p.elim
  |[.non], _, p => exact p.elim
  |[.bl _], _, p => exact p.elim
  |[.int _], _, p => exact p.elim
  |[.str _], _, p => exact p.elim
  |[.obj _ _], _, p => exact p.elim
  |[.exc _ _], _, p => exact p.elim
  |[.dic _], _, p => exact p.elim
  |x::_::_, _, p => cases x <;> exact p.elim
theorem W3{x:Aj}{g:Ab D -> R D}(hc : Qe X CL W (.type T) g)(hg : Gl X x)(hm : X.mg x = Af)(hv : Co x = Aa (.type T))(ha : SAT X CL W (e::es) fs)(hn : x ≠ "__name__")(hdb : (x==("__debug__" : Aj)) = Ad)(he : Ax (e::es) X.env = (Ad, eval e X.env)::Ax es X.env)(hpl : ∀ pos, (Cn pos (Ax es X.env)).any (·.1) = Ad):SC X CL W Ac (.Call (.Name x p) (e::es) [] pos) (fun ρ =>(fs ρ).bind g) := fun A pI s σ H Q I ⟨hA, ρ, gd, q⟩=>
 Np (hc A H) hg hm hv (ha A) hn hdb he (hpl _) pI s σ H Q I ⟨hA, ρ, gd, FU.bindF q fun ds vs H1 _ s1 r1 p1 => ⟨s1, hA.same s1, ds, r1, p1⟩⟩
mutual
theorem Qa{K : Fg}{H : Hp}{A : Ai -> Prop}(hA : AOk H A) : ∀(n : Ag)(d : D){v : V}, nlD n d = Ac -> Rep K CL H A0 v d -> Rep K CL H A v d
 |_, .non, _, _, h => h
 |_, .bl _, _, _, h => h
 |_, .int _, _, _, h => h
 |_, .str _, _, _, h => h
 |0, .tup _, _, hn, _ => by cases hn
 |n+1, .tup ds, _, hn, h => by
  obtain⟨a, xs, e, _, s, r⟩ := h;refine⟨a, xs, e, ?_, s, nls_up hA n ds hn r⟩;rcases s with s|s
  ·refine .inl fun z => ?_
   obtain⟨ys, q⟩ := hA a z;rcases s with s|⟨o, s⟩ <;> rw[q]at s <;> cases s
  ·exact .inr s
 |n, .lst _, _, hn, _ => by cases n <;> cases hn
 |n, .obj _ _, _, hn, _ => by cases n <;> cases hn
 |n, .exc _ _, _, hn, _ => by cases n <;> cases hn
 |n, .dic _, _, hn, _ => by cases n <;> cases hn
theorem nls_up{K : Fg}{H : Hp}{A : Ai -> Prop}(hA : AOk H A) : ∀(n : Ag)(ds : Ab D){vs : Ab V}, ds.all (nlD n) = Ac -> Reps K CL H A0 vs ds -> Reps K CL H A vs ds
 |_, [], [], _, h => h
 |n, d::ds, _::_, hn, h => by
  simp only[Fj, Al]at hn;exact⟨Qa hA n d hn.1 h.1, nls_up hA n ds hn.2 h.2⟩
 |_, [], _::_, _, h => h.elim
 |_, _::_, [], _, h => h.elim
end
theorem Zh{fr : An}(hA0 : AOk H0 A)(s : Ay H0 H)(hc : Ic fr d = Ac)(r : Dl K CL fr H0 A0 H v d) : Dl K CL fr H0 A H v d := by
 have hA := hA0.same s;cases d with
 |lst ds=>
  have hc' : (fr&&ds.all (nlD 5)) = Ac := hc;rw[Al]at hc';obtain⟨a, xs, e, h0, h1, rs⟩ := r.2 hc'.1 ds rfl;have hA2 : AOk H (fun b => A b \/ b = a) := fun b hb => hb.elim (hA b) fun e => by rw[e];exact⟨xs, h1⟩
  have rs' := nls_up hA2 5 ds hc'.2 (Reps.sub (fun _ z => z.elim) _ rs)
  refine⟨⟨a, xs, e, .inl (hA0.new h0), SqL.of h1, Reps.sub (fun _ z => .inl z) _ rs'⟩, fun _ ds' e' => ?_⟩
  cases e';exact⟨a, xs, e, h0, h1, rs'⟩
 |_ => exact⟨Qa hA 5 _ hc r.1, fun _ _ z => nomatch z⟩
noncomputable def spD(K : Fg)(CL : ClA)(n : Ag)(fr : An)(F : Ab D -> R D) : Sp := fun vs H Q E => ∃(ds : Ab D)(A : Ai -> Prop), vs.length = n /\ AOk H A /\ Reps K CL H A vs ds /\ (match F ds with
  |.ok d => ∀ v H', Ay H H' -> Dl K CL fr H A H' v d -> Q v H'
  |.exn x => ∀ cls dx H', Ay H H' -> Jo K CL H' A cls dx x -> E cls dx H'
  | .bad => A6)
noncomputable def EKW(K : Fg)(CL : ClA)(A : Ai -> Prop)(W : XW) : XK := fun cls dx H' => ∃ x, Jo K CL H' A cls dx x /\ W x H'
theorem Et.plain{K : Fg}{H : Hp}{A : Ai -> Prop} : ∀{vs : Ab V}{ds : Ab D}, Et K CL H A vs ds -> Reps K CL H A0 vs ds
 |[], [], h => trivial
 |_::_, _::_, h => ⟨h.1.plain, Et.plain h.2⟩
 |[], _::_, h => h.elim
 |_::_, [], h => h.elim
theorem Vn{CX:CXT}{fr : An}{f:Ai}{fd:BV}{ps:Ab Aj}{F:Ab D -> R D}{x:Aj}{ft:Rho -> R (Ab D)}{sh : Rho -> An}(G : FnOk X.prog X.w X.K X.mg X.base CX k f fd ps (spD X.K CL n fr F))(hr : Room k X.A)(hg : Gl X x)(hm : X.mg x = Aa (.ref f))(hk : CI X.K (.ref f) = Ac)(hb : Ga X.K fd ps [])(hx : ∀ A, HY CX X (EKW X.K CL A W))(ha : SA X CL W (e::es) fs)(hat : SAT X CL W (e::es) ft)(hst : ∀ ρ, sh ρ = Ac -> ft ρ = fs ρ)(hn : ∀ ρ ds, ft ρ = .ok ds -> ds.length = n)(hdb : (x==("__debug__" : Aj)) = Ad)(he : Ax (e::es) X.env = (Ad, eval e X.env)::Ax es X.env)(hpl : ∀ pos, (Cn pos (Ax es X.env)).any (·.1) = Ad):SC X CL W fr (.Call (.Name x p) (e::es) [] pos) (fun ρ =>(ft ρ).bind fun ds =>(F ds).bind fun d =>if sh ρ = Ac then .ok d else if Ic fr d = Ac then .ok d else .bad) := fun A pI s σ H Q I ⟨hA, ρ, gd, q⟩ => by
 dsimp only at q;by_cases hs : sh ρ = Ac
 ·rw[hst ρ hs]at q;refine OI G hr hg hm hk hb .nil (hx A) (ha A) hdb he (hpl _) pI s σ H Q I ⟨hA, ρ, gd, ?_⟩;cases e1 : fs ρ with
  |bad => rw[e1]at q;exact q
  |exn y => rw[e1]at q;exact q
  |ok ds=>
   rw[e1]at q;intro vs H1 s1 r1;refine⟨ds, A, by rw[B8, r1.length];exact hn ρ ds (by rw[hst ρ hs];exact e1), hA.same s1, by rw[B8];exact r1, ?_⟩
   have q' : A5 (Dl X.K CL fr H A) W H ((F ds).bind fun d => if sh ρ = Ac then .ok d else if Ic fr d = Ac then .ok d else .bad) Q := q
   cases e2 : F ds with
   |ok d=>
    rw[e2, R.bind_ok, AH hs]at q';exact fun v H2 s2 r2 => q' v H2 (s1.trans s2) ⟨r2.1, fun z ds' e' => let ⟨a, xs, z1, z2, z3⟩ := r2.2 z ds' e';⟨a, xs, z1, s1.free z2, z3⟩⟩
   |exn y => rw[e2]at q';exact fun cls dx H2 s2 xr => ⟨y, xr, q' H2 (s1.trans s2)⟩
   |bad => rw[e2]at q';exact q'.elim
 ·refine OI G hr hg hm hk hb .nil (hx A0) (hat A) hdb he (hpl _) pI s σ H Q I ⟨hA, ρ, gd, ?_⟩;cases e1 : ft ρ with
  |bad => rw[e1]at q;exact q
  |exn y => rw[e1]at q;exact q
  |ok ds=>
   rw[e1]at q;intro vs H1 s1 r1;refine⟨ds, A0, by rw[B8, r1.plain.length];exact hn ρ ds e1, fun _ z => z.elim, by rw[B8];exact r1.plain, ?_⟩
   have q' : A5 (Dl X.K CL fr H A) W H ((F ds).bind fun d => if sh ρ = Ac then .ok d else if Ic fr d = Ac then .ok d else .bad) Q := q
   cases e2 : F ds with
   |ok d=>
    rw[e2, R.bind_ok, AO hs]at q';split at q'
    ·rename_i hc;exact fun v H2 s2 r2 => q' v H2 (s1.trans s2) (Zh hA (s1.trans s2) hc ⟨r2.1, fun z ds' e' => let ⟨a, xs, z1, z2, z3⟩ := r2.2 z ds' e';⟨a, xs, z1, s1.free z2, z3⟩⟩)
    ·exact q'.elim
   |exn y => rw[e2]at q';exact fun cls dx H2 s2 xr => ⟨y, xr, q' H2 (s1.trans s2)⟩
   |bad => rw[e2]at q';exact q'.elim
end
theorem KN(env : BJ) : ∀(ns : Ab (Aj × Dh))(acc : Ab (Aj × Ai)), (∀ x ∈ ns, x.2 = .free -> ∃ c, env.cells.lookup x.1 = Aa c) -> (∀ x c, acc.lookup x = Aa c -> env.cells.lookup x = Aa c) ->
  ∃ cl, (forIn ns acc fun(x : Aj × Dh)(cs : Ab (Aj × Ai)) => (if (x.2==.free) = Ac then do let c <-cellOf env x.1;pure (Dt ((x.1, c)::cs)) else pure (Dt cs) : Fk (ForInStep (Ab (Aj × Ai))))) = pure cl /\
   (∀ x c, cl.lookup x = Aa c -> env.cells.lookup x = Aa c) /\ (∀ x, ((x, CY) ∈ ns \/ ∃ c, acc.lookup x = Aa c) -> ∃ c, cl.lookup x = Aa c)
 |[], acc, _, h2 => ⟨acc, by rw[EX], h2, fun x hx => hx.elim (fun z => nomatch z) id⟩
 |(n, k)::r, acc, h1, h2 => by
  rw[F0];by_cases hk : k = .free
  ·subst hk;obtain⟨c, hc⟩ := h1 (n, .free) AA rfl;obtain⟨cl, e, p, q⟩ := KN env r ((n, c)::acc) (fun x hx => h1 x (As _ hx)) (fun x d hd => by
    rw[BM]at hd;split at hd
    ·rename_i hx;cases hd;rw[eq_of_beq hx];exact hc
    ·exact h2 x d hd)
   refine⟨cl, ?_, p, fun x hx => q x ?_⟩
   ·have e1 : cellOf env n = pure c := by unfold cellOf;dsimp only at hc;rw[hc]
    rw[AH (by rfl), e1]
    exact e
   ·rcases hx with hx|⟨d, hd⟩
    ·rcases At.mp hx with z|z
     ·cases z;exact .inr ⟨c, by simp[BM]⟩
     ·exact .inl z
    ·by_cases hxn : x = n
     ·exact .inr ⟨c, by subst hxn;simp[BM]⟩
     ·exact .inr ⟨d, by rw[BM];rw[CH.mpr hxn];exact hd⟩
  ·obtain⟨cl, e, p, q⟩ := KN env r acc (fun x hx => h1 x (As _ hx)) h2
   refine⟨cl, ?_, p, fun x hx => q x ?_⟩
   ·rw[AO (by simpa using hk)]
    exact e
   ·rcases hx with hx|hx
    ·rcases At.mp hx with z|z
     ·cases z;exact absurd rfl hk
     ·exact .inl z
    ·exact .inr hx
theorem Nz(h : ∀ x ∈ scope.names, x.2 = .free -> ∃ c, env.cells.lookup x.1 = Aa c):∃ cl,closureFor scope env = pure cl/\(∀ x c,cl.lookup x = Aa c->env.cells.lookup x = Aa c)/\∀ x,(x,CY) ∈ scope.names->∃ c,cl.lookup x = Aa c := by
 obtain⟨cl, e, p, q⟩ := KN env scope.names [] h (fun x c z => by simp at z)
 refine⟨cl, ?_, p, fun x hx => q x (.inl hx)⟩
 unfold closureFor
 first
  |exact e
  |(simp only[bind_pure];exact e)
  |(rw[show (forIn scope.names ([] : Ab (Aj × Ai)) _ : Fk _) = pure cl from e];rfl)
theorem KY :∀(names :Ab (Aj × Dh))(h :AF)(acc :Ab (Aj × Ai))(x :Aj)(c :Ai),(Cu h.objs.size names acc).lookup x = Aa c->acc.lookup x = Aa c\/((x,Bs) ∈ names/\h.objs.size <= c/\(Fe h names).IsCell c Af)
 |[], _, _, _, _, e => .inl e
 |(n, k)::r, h, acc, x, c, e => by
  unfold Cu at e;unfold Fe;by_cases hk : (k==Bs) = Ac
  ·rw[AH hk]at e ⊢;have hs : h.objs.size+1 = (h.push { cls := .type "cell", data := .cell Af }).objs.size := (By ..).symm;rw[hs]at e;rcases KY r _ _ x c e with q|⟨q1, q2, q3⟩
   ·rw[BM]at q;cases hx : x==n with
    |true=>
     rw[hx]at q;cases q;refine .inr ⟨?_, AQ _, ?_⟩
     ·rw[eq_of_beq hx, eq_of_beq hk];exact AA
     ·exact⟨_, F3 r _ _ _ (AC _ rfl), rfl⟩
    |false => rw[hx]at q;exact .inl q
   ·exact .inr ⟨As _ q1, by omega, q3⟩
  ·rw[AO hk]at e ⊢;rcases KY r h acc x c e with q|⟨q1, q2, q3⟩
   ·exact .inl q
   ·exact .inr ⟨As _ q1, q2, q3⟩
theorem KZ :∀(names :Ab (Aj × Dh))(h :AF)(acc :Ab (Aj × Ai)),(∀ x y c,acc.lookup x = Aa c->acc.lookup y = Aa c->x = y)->(∀ x c,acc.lookup x = Aa c->c<h.objs.size)->∀ x y c,(Cu h.objs.size names acc).lookup x = Aa c->(Cu h.objs.size names acc).lookup y = Aa c->x = y
 |[], _, _, i, _, x, y, c, e1, e2 => i x y c e1 e2
 |(n, k)::r, h, acc, i, b, x, y, c, e1, e2 => by
  unfold Cu at e1 e2;by_cases hk : (k==Bs) = Ac
  ·rw[AH hk]at e1 e2;have hs : h.objs.size+1 = (h.push { cls := .type "cell", data := .cell Af }).objs.size := (By ..).symm;rw[hs]at e1 e2;have look : ∀ z d, Rr z ((n, h.objs.size)::acc) = Aa d -> (z = n /\ d = h.objs.size) \/ (z ≠ n /\ acc.lookup z = Aa d) := fun z d q => by
    rw[BM]at q;cases hx : z==n with
    |true => rw[hx]at q;cases q;exact .inl ⟨eq_of_beq hx, rfl⟩
    |false => rw[hx]at q;exact .inr ⟨fun e => by rw[e]at hx;simp at hx, q⟩
   refine KZ r _ _ (fun z z' d q q' => ?_) (fun z d q => ?_) x y c e1 e2
   ·rcases look z d q with ⟨rfl, q1⟩|⟨_, q1⟩ <;> rcases look z' d q' with ⟨rfl, q2⟩|⟨_, q2⟩
    ·rfl
    ·exact absurd (b _ _ q2) (by rw[q1];exact Be _)
    ·exact absurd (b _ _ q1) (by rw[q2];exact Be _)
    ·exact i _ _ _ q1 q2
   ·rw[<-hs];rcases look z d q with ⟨_, q1⟩|⟨_, q1⟩
    ·rw[q1];exact En _
    ·exact CC (b _ _ q1)
  ·rw[AO hk]at e1 e2;exact KZ r h acc i b x y c e1 e2
theorem KP : ∀(names : Ab (Aj × Dh))(n : Ag)(acc : Ab (Aj × Ai))(x : Aj), (x, Bs) ∉ names -> (Cu n names acc).lookup x = acc.lookup x
 |[], _, _, _, _ => rfl
 |(m, k)::r, n, acc, x, hx => by
  unfold Cu;have hr : (x, Bs) ∉ r := fun z => hx (As _ z)
  by_cases hk : (k==Bs) = Ac
  ·rw[AH hk, KP r _ _ x hr, BM];cases q : x==m with
   |true => exact absurd (by rw[eq_of_beq q, eq_of_beq hk];exact AA) hx
   |false => rfl
  ·rw[AO hk];exact KP r n acc x hr
theorem K0(n0 : Ag) : ∀(names : Ab (Aj × Dh))(n : Ag)(acc : Ab (Aj × Ai))(x : Aj), n0 <= n -> ((x, Bs) ∈ names \/ ∃ c, acc.lookup x = Aa c /\ n0 <= c) -> ∃ c, (Cu n names acc).lookup x = Aa c /\ n0 <= c
 |[], _, _, _, _, h => h.elim (fun z => nomatch z) id
 |(m, k)::r, n, acc, x, hn, h => by
  unfold Cu;by_cases hk : (k==Bs) = Ac
  ·rw[AH hk];refine K0 n0 r _ _ x (by omega) ?_
   by_cases hx : (x==m) = Ac
   ·exact .inr ⟨n, by rw[BM, hx], hn⟩
   ·rcases h with h|⟨c, h, hc⟩
    ·rcases At.mp h with z|z
     ·cases z;simp at hx
     ·exact .inl z
    ·exact .inr ⟨c, by rw[BM];simp only[hx];exact h, hc⟩
  ·rw[AO hk];refine K0 n0 r _ _ x hn (h.imp (fun h => ?_) id)
   rcases At.mp h with z|z
   ·cases z;simp at hk
   ·exact z
theorem S3{M:Ht}{A:A3}{E : Ah -> Ak -> Prop}{globals:Ai}{qual:Aj}{Q:BJ -> Ak -> Prop}(hQ : Q (newEnv scope s.heap.objs.size globals (Cu (s.heap.objs.size+1) scope.names cl) qual Af .none (Aa env) Gs) { s with heap := Fe (s.heap.push { cls := .type "dict", data := .dict #[] }) scope.names }):AB M A (Gm scope globals cl [] qual Af .none (Aa env)) Q E s := by
 simp only[Gm, Option.isSome_some, Gp];refine Am (wpAny_alloc ?_);refine Am (wpAny_layCells _ (fun name kind cells => by cases hkc : kind==Bs <;> simp[hkc]) _ _ _ _ ?_)
 rw[show ({ s with heap := s.heap.push { cls := .type "dict", data := .dict #[] } } : Ak).heap.objs.size = s.heap.objs.size+1 from By ..]
 rw[EX];exact Am (AE (AE hQ))
noncomputable def cxC(X : Cx)(scope : BS)(cl : Ab (Aj × Ai))(C : Ai)(N' : Ab Aj)(s₀ : Ak)(H₀ : Hp)(fp : Ab Ai) : Cx where
 prog := X.prog
 w := X.w
 K := X.K
 mg := X.mg
 base := X.base
 A := X.A
 N := N'
 s₀ := s₀
 H₀ := H₀
 env := compEnvC scope cl C X.env
 outer := X.stack
 stack := X.stack
 ex := fp
 fn := fun x => scope.names.lookup x==Aa Bs
 calm := X.calm
 pn := []
 xe := fun _ _ => A6
theorem Js{env : BJ} :∀{names :Ab (Aj × Dh)}{x :Aj}{k :Dh},(names.map fun (n,k) =>if (k==CY&&env.scope.kind==.function&&env.kindOf n==Aa .cell) then (n,Bs) else (n,k)).lookup x = Aa k->names.lookup x = Aa k\/(k = .cell/\names.lookup x = Aa .free)
 |[], _, _, h => by simp at h
 |(n, j)::r, x, k, h => by
  have ih := @Js env r x k;have h' : Rr x ((if (j==CY&&env.scope.kind==.function&&env.kindOf n==Aa .cell) = Ac then (n, Bs) else (n, j))::(r.map fun (n, k) => if (k==CY&&env.scope.kind==.function&&env.kindOf n==Aa .cell) then (n, Bs) else (n, k))) = Aa k := h
  by_cases hc : (j==CY&&env.scope.kind==.function&&env.kindOf n==Aa .cell) = Ac
  ·rw[AH hc]at h';rw[BM]at h' ⊢;cases hx : x==n with
   |true=>
    rw[hx]at h';cases h';simp only[Al]at hc;exact .inr ⟨rfl, by rw[eq_of_beq hc.1.1]⟩
   |false => rw[hx]at h';exact ih h'
  ·rw[AO hc]at h';rw[BM]at h' ⊢;cases hx : x==n with
   |true => rw[hx]at h';exact .inl h'
   |false => rw[hx]at h';exact ih h'
structure BlockOk (X : Cx) (scope : BS) (N' : Ab Aj) (ts : Ab Ag) : Prop where
 kind : scope.kind = .function
 uniq : ∀ y ∈ scope.names, scope.names.lookup y.1 = Aa y.2
 names : ∀ y ∈ scope.names, y.2 = .local -> scope.names.lookup y.1 = Aa .local
 free : ∀ y ∈ scope.names, y.2 = .free -> X.env.scope.names.lookup y.1 = Aa .cell \/ X.env.scope.names.lookup y.1 = Aa .free
 len : N'.length = X.N.length
 same : ∀ i x, N'[i]? = Aa x -> scope.names.lookup x = Aa .free -> i ∉ ts -> X.N[i]? = Aa x
 loc : ∀ i x, N'[i]? = Aa x -> (scope.names.lookup x = Aa .local \/ scope.names.lookup x = Aa .cell) -> i ∈ ts
structure BCells (X : Cx) (scope : BS) (cl : Ab (Aj × Ai)) (C : Ai) (h : AF) : Prop where
 own : ∀ x c, cl.lookup x = Aa c -> X.env.cells.lookup x = Aa c \/ (scope.names.lookup x = Aa .cell /\ C<c /\ h.IsCell c Af)
 inj : ∀ x y c, cl.lookup x = Aa c -> cl.lookup y = Aa c -> x = y
 has : ∀ x, scope.names.lookup x = Aa .cell -> ∃ c, cl.lookup x = Aa c /\ C<c
 fr : ∀ x, (x, CY) ∈ scope.names -> ∃ c, cl.lookup x = Aa c /\ X.env.cells.lookup x = Aa c
section
variable{X : Cx}{pI : Ab (Ai × AJ)}{σ : L2.St}{H : Hp}{s : Ak}
noncomputable def hideT(ts : Ab Ag)(σ : L2.St) : L2.St := ts.foldl (fun σ t => σ.set t Af) σ
theorem Lb : ∀(ts : Ab Ag)(σ : L2.St), (hideT ts σ).length = σ.length
 |[], _ => rfl
 |t::ts, σ => by show (hideT ts (σ.set t Af)).length = _;rw[Lb ts, A4]
theorem Nw : ∀(ts : Ab Ag)(σ : L2.St){i : Ag}{v : V}, (hideT ts σ)[i]? = Aa (Aa v) -> σ[i]? = Aa (Aa v) /\ i ∉ ts
 |[], _, _, _, h => ⟨h, by simp⟩
 |t::ts, σ, i, v, h => by
  obtain⟨h1, h2⟩ := Nw ts (σ.set t Af) (i := i) (v := v) h;by_cases e : t = i
  ·subst e;have := FS h1;cases this
  ·rw[Ce e]at h1;exact⟨h1, by simp only[At, C4];exact⟨fun z => e z.symm, h2⟩⟩
theorem Te{tk:Ag}{C:Ai}{m:Aj -> Ap Ah}(I : Inv X pI σ H s)(B : BlockOk X scope N' ts)(hf : ∀ b ∈ fp, E9 X pI H b)(hfo : ∀ b ∈ fp, b<s.heap.objs.size)(hb : BCells X scope cl C h')(hk : ∀ b o, s.heap.get? b = Aa o -> h'.get? b = Aa o)(hC : s.heap.objs.size <= C)(hn : h'.Ns C m) : Inv (cxC X scope cl C N' s H fp) [] (hideT ts σ) H {s with heap := h', toks := tk} := by
 have stf : ∀ b ∈ fp, b ∉ frs X.stack := fun b hb z => by
  rcases At.mp (I.stkSub b z) with e|e
  ·exact(hf b hb).2.1 e
  ·exact(hf b hb).2.2.1 e
 have frOf : ∀ x, ((relabel scope X.env).names.lookup x = Aa .cell \/ (relabel scope X.env).names.lookup x = Aa .free) -> scope.names.lookup x = Aa .free \/ scope.names.lookup x = Aa .cell := fun x hx => by
  rcases hx with z|z
  ·rcases Js z with z|⟨_, z⟩
   ·exact .inr z
   ·exact .inl z
  ·rcases Js z with z|⟨z, _⟩
   ·exact .inl z
   ·cases z
 have gtC : ∀ c : Ai, C<c -> s.heap.objs.size <= c := fun c z => B9 hC (EH z)
 have cellK : ∀ c v, s.heap.IsCell c v -> h'.IsCell c v := fun c v ⟨o, ho, hd⟩ => ⟨o, hk _ _ ho, hd⟩
 refine⟨⟨I.ok.mod, B.kind, I.ok.glob, I.ok.blt, hC, hb.inj, fun x hx => ?_, fun x c h e => ?_, I.ok.hd, I.ok.frames, .inl rfl, fun b hbb => ⟨?_, fun x c e => ?_⟩, I.bs, B9 I.ok.bsz I.sz, fun b o e hbb => ?_, stf, I.stack, I.stkFree⟩, rfl, I.bare, Un.kept hk, ⟨m, hn, fun i x v h1 h2 h3 => ?_⟩, fun x c e => ?_, I.hok.fresh hC, fun x c e => (hb.own x c e).elim (I.freeC x c) (fun z => I.hok.fresh (gtC c z.2.1)), fun p hp => absurd (show p ∈ ([] : Ab (Ai × AJ)) from hp) (by simp), I.hok.kept hk, ?_⟩
 ·rcases frOf x hx with z|z
  ·obtain⟨c, q, _⟩ := hb.fr x (B2 z);exact⟨c, q⟩
  ·obtain⟨c, q, _⟩ := hb.has x z;exact⟨c, q⟩
 ·obtain⟨c', q, z⟩ := hb.has x (eq_of_beq h);have e' : cl.lookup x = Aa c := e;rw[q]at e';cases e';exact gtC _ z
 ·intro z;have z' : b = C := z;have := hfo b hbb;rw[z']at this;exact absurd (AD this hC) (Be _)
 ·rcases hb.own x c e with z|z
  ·exact(hf b hbb).2.2.2.2.1 x c z
  ·intro q;have := hfo b hbb;have := gtC c z.2.1;rw[q]at this;exact absurd ‹b<_› (RE.mpr this)
 ·rcases (hf b hbb).2.2.2.1 with z|z
  ·exact I.ok.noex b o e z
  ·exact absurd (AD (Aw e) (B9 I.ok.bsz z)) (Be _)
 ·obtain⟨h2, hts⟩ := Nw ts σ h2;have h3' : (relabel scope X.env).names.lookup x = Aa .local \/ (relabel scope X.env).names.lookup x = Aa .cell \/ (relabel scope X.env).names.lookup x = Aa .free := h3;have h1' : N'[i]? = Aa x := h1;rcases h3' with z|z
  ·rcases Js z with z|⟨z, _⟩
   ·exact absurd (B.loc i x h1' (.inl z)) hts
   ·cases z
  ·have fr := (frOf x z).resolve_right fun q => hts (B.loc i x h1' (.inr q))
   have hm := B2 fr;have hX := B.same i x h1' fr hts;obtain⟨m0, hn0, hl0⟩ := I.loc;obtain⟨u, ru, lk⟩ := hl0 i x v hX h2 (by
    rcases B.free _ hm rfl with q|q
    ·exact .inr (.inl q)
    ·exact .inr (.inr q))
   refine⟨u, ru, ?_⟩;obtain⟨c, hc, hcX⟩ := hb.fr x hm;rcases lk with ⟨q, _⟩|⟨_, c', hc', hcell⟩
   ·have q' : X.env.scope.names.lookup x = Aa .local := q;rcases B.free _ hm rfl with p|p
    ·rw[show X.env.scope.names.lookup x = _ from p]at q';cases q'
    ·rw[show X.env.scope.names.lookup x = _ from p]at q';cases q'
   ·have e := hcX;rw[hc']at e;cases e;exact .inr ⟨z, c, hc, cellK _ _ hcell⟩
 ·rcases hb.own x c e with z|z
  ·obtain⟨v, q⟩ := I.cell x c z;exact⟨v, cellK _ _ q⟩
  ·exact⟨_, z.2.2⟩
 ·show (hideT ts σ).length = N'.length;rw[Lb, I.len, B.len]
theorem Nj{C D : Ai}{s':Ak}{σ':L2.St}{pins':Ab (Ai × AJ)}{h'':AF}{ys:Ab Ah}(I : Inv X pI σ H s)(hf : ∀ b ∈ fp, E9 X pI H b)(I' : Inv (cxC X scope cl C N' s H fp) pins' σ' H' s')(hD : s.heap.objs.size <= D)(hDC : D ≠ C)(hC : s.heap.objs.size <= C)(hd : s'.heap.get? D = Aa { cls := .type "list", data := .seq ys.toArray n })(hDn : H' D = Af)(rv : AZ xs ys)(hz : xs.length <= sizeLine)(hs : D8 C s'.heap h'') : Inv X pI σ (upd H' D (.lst xs)) {s' with heap := h''} := by
 have u : Un (frs X.stack) fp H H' s.heap s'.heap := I'.base;have lt : ∀ b o, s.heap.get? b = Aa o -> b ≠ C /\ b ≠ D := fun b o e => ⟨fun z => absurd (AD (Aw e) (z ▸ hC)) (Be _), fun z => absurd (AD (Aw e) (z ▸ hD)) (Be _)⟩
 have HD : H D = Af := I.hok.fresh hD;have hCn : H' C = Af := I'.free;have kb : ∀ b o, b ≠ C -> s'.heap.get? b = Aa o -> h''.get? b = Aa o := fun b o hb e => (hs.2 b hb).trans e
 have u2 : Un (frs X.stack) fp H (upd H' D (.lst xs)) s.heap h'' := ⟨fun b o e q hb hx => kb b o (lt b o e).1 (u.keep b o e q hb hx), fun b o e q hb hx => by
   obtain⟨sl, e1⟩ := u.slot b o e q hb hx;exact⟨sl, kb b _ (lt b o e).1 e1⟩, fun b o e q hx => by rw[Cf (lt b o e).2];exact u.free b o e q hx, fun b o e hx => by
   obtain⟨o', e1⟩ := u.there b o e hx;exact⟨o', kb b _ (lt b o e).1 e1⟩, fun b zs q => by rw[Cf (Ep q HD)];exact u.tups b zs q, fun b o zs q => by rw[Cf (Ep q HD)];exact u.frzs b o zs q, fun b ps q => by rw[Cf (Ep q HD)];exact u.tbls b ps q⟩
 have hok : HOk X.prog X.w (upd H' D (.lst xs)) h'' := fun b o e => by
  by_cases hb : b = D
  ·subst hb;rw[FQ]at e;cases e;exact⟨hz, ys, n, rv, kb _ _ hDC hd⟩
  ·rw[Cf hb]at e;refine(I'.hok b o e).stay (fun c v hc q => kb c v ?_ q) (fun c q => by rw[Cf (Ep q hDn)];exact q) fun c zs q => by rw[Cf (Ep q hDn)];exact q
   rcases hc with rfl|hc
   ·exact Ep e hCn
   ·exact Ep hc hCn
 exact I.call' (s' := {s' with heap := h''}) (ch := fp) I'.os u2 hok I'.bare fun b hb => ⟨(hf b hb).2.2.2.1, (hf b hb).2.1, (hf b hb).2.2.2.2.1, (hf b hb).2.2.2.2.2⟩
end
noncomputable def PTs(X : Cx)(ifs : Ab Ao)(tt : TT) : Prop := ∀(pI : Ab (Ai × AJ))(s : Ak)(σ : L2.St)(H : Hp)(Q : An -> Hp -> Prop), Inv X pI σ H s -> tt σ H Q ->
 AB (model X.prog X.w) X.A (forIn ifs Ac fun c r => if r = Ac then do let ok <-Gk c X.env (eval c X.env);pure (Dt ok) else pure (Dt r)) (TP X pI σ Q) X.xe s
theorem VE : PTs X [] (fun σ H Q => Q Ac H) := fun pI s σ H Q I h => wpAny_tests_nil ⟨H, I, h⟩
theorem VC{t:TT}(h : PT X c t) : PTs X [c] t := fun pI s σ H Q I q => wpAny_tests_one (h pI s σ H Q I q)
theorem To{D : Ai}{ys:Ab Ah}{y:Ah}{E : Ah -> Ak -> Prop}(I : Inv X ((D, { cls := .type "list", data := .seq ys.toArray n })::pI) σ H s)(hD : X.s₀.heap.objs.size <= D)(hp : ∀ p ∈ X.pn++pI, p.1 ≠ D)(hc : ∀ x c, X.env.cells.lookup x = Aa c -> c ≠ D)(hz : ys.length <= sizeLine)(h : ∀ s', Inv X ((D, { cls := .type "list", data := .seq (ys++[y]).toArray (n+1) })::pI) σ H s' -> (∀ b o, b ≠ D -> s.heap.get? b = Aa o -> s'.heap.get? b = Aa o) -> Q .none s') : AB (model X.prog X.w) X.A (call (.builtin "list.append") [.ref D, y]) Q E s := by
 obtain⟨e, hn, hL, hfs, _⟩ := I.pin (D, { cls := .type "list", data := .seq ys.toArray n }) (Ba _ AA);refine append_at (hsz := by rw[Az];exact hz) e fun h' hs hd => ?_
 have hd' : h'.get? D = Aa { cls := .type "list", data := .seq (ys++[y]).toArray (n+1) } := by rw[hd];simp
 have kb : ∀ b o, b ≠ D -> s.heap.get? b = Aa o -> h'.get? b = Aa o := fun b o hb q => (hs.2 b hb).trans q
 have I0 : Inv X pI σ H s := I.pins_of fun p hp => I.pin p (Ba _ (As _ hp))
 have I1 : Inv X pI σ H {s with heap := h'} := I0.turned (t' := s.toks) kb hn hL (.inr hD) hc hp
 refine h _ (I1.pins_of fun p hp => ?_) kb
 rcases At.mp hp with rfl|hp
 ·exact⟨hd', hn, hL, hfs, fun v z => by
   have z' : Iy _ _ = Iw v := z;cases z'⟩
 ·exact I1.pin p (Ba _ hp)
section
variable{prog : AM}{w : AU}{A : A3}{R : Hu -> Ak -> Prop}{s : Ak}
theorem Td{target:Ao}{it acc:Ah}(I : Ag -> Ak -> Prop)(turn : ∀ n s, I n s -> AB (model prog w) A (Go it) (fun r s₁ => match r with
      |none => R (.ok .next) s₁
      | some v => AB (model prog w) A (EO target it v) (fun _ s₁' => AB (model prog w) A (assign target env v) (fun _ s₂=>
          AB (model prog w) A (forIn ifs Ac fun c r => if r = Ac then do let ok <-Gk c env (eval c env);pure (Dt ok) else pure (Dt r)) (fun ok s₃=>
            if ok = Ac then AB (model prog w) A (eval elt env) (fun x s₄=>
              AB (model prog w) A (call (.builtin "list.append") [acc, x]) (fun _ s₅ => ∃ m, m<n /\ I m s₅) (Gn (model prog w) A env fun e s' => R (.error e) s') s₄) (Gn (model prog w) A env fun e s' => R (.error e) s') s₃
            else ∃ m, m<n /\ I m s₃) (Gn (model prog w) A env fun e s' => R (.error e) s') s₂) (Gn (model prog w) A env fun e s' => R (.error e) s') s₁') (Gn (model prog w) A env fun e s' => R (.error e) s') s₁) (Gn (model prog w) A env fun e s' => R (.error e) s') s)(n : Ag)(h : I n s):E0 (model prog w) A (.compLoop (.ListComp elt [⟨target,iter,ifs,0⟩] scope pos) 0 it acc env) R s := by
  refine codeAny_loop rfl I (fun n s hI => ?_) n h
  show AB _ A ((compTurn (.ListComp elt [⟨target, iter, ifs, 0⟩] scope pos) 0 it acc env).onRaise (fun x => do noteFrame x env;theTreesLotGoes x)) _ _ s
  refine wpAny_noted ?_;rw[compTurn_list];refine Am (Fm (Am (BW (turn n s hI) (fun r s₁ h₁ => ?_) fun _ _ h' => h')))
  cases r with
  |none => exact AE h₁
  |some v=>
    refine Am (BW h₁ (fun _ s₁' h₁' => ?_) fun _ _ h' => h')
    refine Am (BW h₁' (fun _ s₂ h₂ => Am (BW h₂ (fun ok s₃ h₃ => ?_) fun _ _ h' => h')) fun _ _ h' => h')
    cases ok with
    |false => exact AE ⟨rfl, h₃⟩
    |true=>
      exact Am (Am (BW h₃ (fun x s₄ h₄ => Am (BW h₄ (fun _ s₅ h₅ => AE (AE ⟨rfl, h₅⟩)) fun _ _ h' => h')) fun _ _ h' => h'))
end
noncomputable def IQ(J : It)(ts : Ab Ag)(g : TG)(tt : TT)(te : TE)(σ : L2.St)(H : Hp)(Q : VK) : Prop := ∃ W : Ag -> Ag -> Ab V -> L2.St -> Hp -> Prop, (∃ m, W 0 m [] (hideT ts σ) H) /\ ∀ i m xs σ H, W i m xs σ H ->
 (J.stop i H /\ ∀ p, H p = Af -> Q (.ref p) (upd H p (.lst xs))) \/
 (J.go i H /\ xs.length<sizeLine /\ ∀ x H', J.yld i H x H' -> g x σ H' fun σ2 H2 => tt σ2 H2 fun b H3 => if b = Ac then te σ2 H3 fun y H4 => ∃ m', m'<m /\ W (i+1) m' (xs++[y]) σ2 H4 else ∃ m', m'<m /\ W (i+1) m' xs σ2 H3)
theorem Oh{g:TG}{it:Ai}{tn:Ag -> AF -> Prop}{Q:VK}{E : Ah -> Ak -> Prop}{RR:Ah -> Ai -> Hu -> Ak -> Prop}(hc : X.calm = Ac)(B : BlockOk X scope N' ts)(I : Inv X pI σ H s)(T : Turn X.prog X.w X.K tg J fp it tn)(st : tn 0 s.heap)(hf : ∀ b ∈ fp, E9 X pI H b)(hcl : ∀ x c, cl.lookup x = Aa c -> X.env.cells.lookup x = Aa c)(hcl2 : ∀ x, (x, CY) ∈ scope.names -> ∃ c, cl.lookup x = Aa c)(hg : ∀ cl C s H, PG (cxC X scope cl C N' s H fp) tg g)(ht : ∀ cl C s H, PTs (cxC X scope cl C N' s H fp) ifs tt)(he : ∀ cl C s H, PE (cxC X scope cl C N' s H fp) elt te)(h : IQ J ts g tt te σ H Q)(hRR : ∀ cl D C s' H' σ' pins' xs ys n m, Inv (cxC X scope cl C N' s H fp) pins' σ' H' s' -> s'.heap.get? D = Aa { cls := .type "list", data := .seq (EG ys) n } -> H' D = Af -> AZ xs ys -> xs.length <= sizeLine -> s.heap.objs.size <= D -> D ≠ C -> s.heap.objs.size <= C -> s'.heap.Ns C m -> Q (.ref D) (upd H' D (.lst xs)) -> RR (.ref D) C (.ok .next) s'):AB (model X.prog X.w) X.A (newList []) (fun acc s₃ =>AB (model X.prog X.w) X.A (Gm scope X.env.globals cl [] X.env.qual Af .none (Aa X.env)) (fun cenv s₄=>E0 (model X.prog X.w) X.A (.compStart (.ListComp elt [⟨tg,iter,ifs,0⟩] scope pos) 0 (.ref it) acc {cenv with scope := relabel scope X.env}) (RR acc cenv.locals) s₄) E s₃) E s := by
 refine CD (S3 ?_);dsimp only;generalize hH2 : s.heap.push { cls := .type "list", dict := Af, data := .seq ([] : Ab Ah).toArray } = H2;have hns₁ : (Fe (H2.push { cls := .type "dict", data := .dict #[] }) scope.names).Ns H2.objs.size (fun _ => Af) := (Heap.Ns.new H2 (.type "dict")).keeps (F3 _ _)
 have hkp₁ : ∀ b o, H2.get? b = Aa o -> (Fe (H2.push { cls := .type "dict", data := .dict #[] }) scope.names).get? b = Aa o := fun b o e => F3 _ _ b o (Ar _ e)
 have hown := KY scope.names (H2.push { cls := .type "dict", data := .dict #[] }) cl;have hinj := KZ scope.names (H2.push { cls := .type "dict", data := .dict #[] }) cl;rw[By]at hown hinj;generalize hcl' : Cu (H2.objs.size+1) scope.names cl = cl' at hown hinj;have hcf : ∀ x, (x, Bs) ∉ scope.names -> cl'.lookup x = cl.lookup x := fun x hx => by rw[<-hcl'];exact KP _ _ _ x hx
 have hch : ∀ x, (x, Bs) ∈ scope.names -> ∃ c, cl'.lookup x = Aa c /\ H2.objs.size+1 <= c := fun x hx => by rw[<-hcl'];exact K0 _ _ _ _ x (AQ _) (.inl hx)
 generalize hh₁ : Fe (H2.push { cls := .type "dict", data := .dict #[] }) scope.names = h₁ at hns₁ hkp₁ hown;have hC : H2.objs.size = s.heap.objs.size+1 := by rw[<-hH2, By]
 have hCle : s.heap.objs.size <= H2.objs.size := by rw[hC];exact G7 _
 have hDC : s.heap.objs.size ≠ H2.objs.size := by rw[hC];exact A2 (En _)
 have below : ∀ b, b<s.heap.objs.size -> b ≠ H2.objs.size := fun b hb => by rw[hC];exact A2 (CC hb)
 have old : ∀ b o, s.heap.get? b = Aa o -> h₁.get? b = Aa o := fun b o e => hkp₁ b o (hH2 ▸ Ar _ e)
 have hacc : h₁.get? s.heap.objs.size = Aa { cls := .type "list", data := .seq ([] : Ab Ah).toArray 0 } := hkp₁ _ _ (hH2 ▸ AC _ rfl);have clt : ∀ x c, cl.lookup x = Aa c -> c<s.heap.objs.size := fun x c e => by
  obtain⟨v, q⟩ := I.cell x c (hcl x c e);exact q.lt
 have bc : BCells X scope cl' H2.objs.size h₁ := by
  refine⟨fun x c e => ?_, hinj (fun x y c e1 e2 => I.ok.inj x y c (hcl x c e1) (hcl y c e2)) (fun x c e => CC (AD (clt x c e) hCle)), fun x hx => ?_, fun x hx => ?_⟩
  ·rcases hown x c e with q|⟨q1, q2, q3⟩
   ·exact .inl (hcl x c q)
   ·exact .inr ⟨B.uniq _ q1, q2, q3⟩
  ·have hm := B2 hx;obtain⟨c, e, hc⟩ := hch x hm;exact⟨c, e, hc⟩
  ·have hno : (x, Bs) ∉ scope.names := fun z => by
    have e1 := B.uniq _ hx;have e2 := B.uniq _ z;rw[show scope.names.lookup x = _ from e1]at e2
    cases e2
   obtain⟨c, e⟩ := hcl2 x hx;exact⟨c, by rw[hcf x hno];exact e, hcl x c e⟩
 have hfo : ∀ b ∈ fp, b<s.heap.objs.size := fun b hb => by
  obtain⟨o, e, _⟩ := T.obj 0 _ st b hb;exact Aw e
 generalize hD : s.heap.objs.size = D at *;generalize hC' : H2.objs.size = C at *;have I0 : Inv (cxC X scope cl' C N' s H fp) [] (hideT ts σ) H {s with heap := h₁, toks := s.toks+([] : Ab (Aj × Ah)).length} := Te (tk := s.toks+([] : Ab (Aj × Ah)).length) I B hf (fun b hb => by rw[hD];exact hfo b hb) bc old (by rw[hD];exact hCle) hns₁
 have nD : H D = Af := I.hok.fresh (by rw[hD];exact AQ _)
 have noD : ∀ b ∈ fp, b ≠ D := fun b hb => A2 (hfo b hb)
 have noC : ∀ b ∈ fp, b ≠ C := fun b hb => below b (hfo b hb)
 have stfs : D ∉ frs X.stack := fun z => by
  obtain⟨_, o, ho, _⟩ := I.stack.mem z;exact absurd (Aw ho) (by rw[hD];exact Be _)
 have cD : ∀ x c, cl'.lookup x = Aa c -> c ≠ D := fun x c e z => by
  rcases bc.own x c e with q|⟨_, q, _⟩
  ·obtain⟨v, q⟩ := I.cell x c q;exact absurd q.lt (by rw[z, hD];exact Be _)
  ·rw[z]at q;exact absurd (AD q hCle) (Be _)
 have I1 : Inv (cxC X scope cl' C N' s H fp) [(D, { cls := .type "list", data := .seq ([] : Ab Ah).toArray 0 })] (hideT ts σ) H {s with heap := h₁, toks := s.toks+([] : Ab (Aj × Ah)).length} := I0.pins_of fun p hp => by
  have e := BG.mp hp;subst e;exact⟨hacc, nD, hDC, stfs, fun v z => by
   have z' : Iy _ _ = Iw v := z;cases z'⟩
 have st1 : tn 0 h₁ := T.keep _ _ _ st fun b _ o e => old b o e
 obtain⟨W, ⟨m0, w0⟩, turn⟩ := h;have fpk : ∀{pl : Ab (Ai × AJ)}{H' : Hp}, (∀ p ∈ pl, p.1 = D) -> (∀ b ∈ fp, H' b = Af) -> ∀ b ∈ fp, E9 (cxC X scope cl' C N' s H fp) pl H' b := fun {pl H'} hp hn b hb=>
  ⟨hn b hb, noC b hb, fun z => by
   rcases At.mp (I.stkSub b z) with e|e
   ·exact(hf b hb).2.1 e
   ·exact(hf b hb).2.2.1 e, .inl hb, fun x c e => (bc.own x c e).elim ((hf b hb).2.2.2.2.1 x c) (fun z q => absurd (Fc hCle z.2.1) (RE.mpr (by rw[q];exact EH (hfo b hb)))), fun p hp' => by
   have hp2 : p ∈ pl := hp';rw[hp p hp2];exact(noD b hb).symm⟩
 have loop : ∀ s₃ : Ak, s₃ = {s with heap := h₁, toks := s.toks+([] : Ab (Aj × Ah)).length} ->
   E0 (model X.prog X.w) X.A (.compLoop (.ListComp elt [⟨tg, iter, ifs, 0⟩] scope pos) 0 (.ref it) (.ref D) (compEnvC scope cl' C X.env)) (RR (.ref D) C) s₃ := by
  rintro s₃ rfl;refine Td (fun k s' => ∃ i σ' H' xs ys n, Inv (cxC X scope cl' C N' s H fp) [(D, { cls := .type "list", data := .seq (EG ys) n })] σ' H' s' /\ tn i s'.heap /\ (∀ b ∈ fp, H' b = Af) /\ AZ xs ys /\ xs.length <= sizeLine /\ W i k xs σ' H') ?_ m0
   ⟨0, _, H, [], [], 0, I1, st1, fun b hb => (hf b hb).1, .nil, F4 _, w0⟩
  rintro k s' ⟨i, σ', H', xs, ys, n, I', st', fr', rv, hz, w'⟩;have one : ∀ p ∈ [((D, { cls := .type "list", data := .seq (EG ys) n }) : Ai × AJ)], p.1 = D := fun p hp => by rw[BG.mp hp]
  rcases turn i k xs σ' H' w' with ⟨stop, q⟩|⟨go, hlt, step⟩
  ·refine BW (T.done (cxC X scope cl' C N' s H fp) rfl rfl rfl hc i _ s' σ' H' (fun _ _ => A6) I' (fpk one fr') st' stop) (fun r s1 ⟨hr, J1⟩ => ?_) fun _ _ f => f.elim
   subst hr;obtain⟨e, hn, _⟩ := J1.pin _ (Ba _ AA);obtain⟨m, hm, _⟩ := J1.loc;exact hRR cl' D C s1 H' σ' _ xs ys n m J1 e hn rv hz (AQ _) hDC hCle hm (q D hn)
  ·refine BW (T.item (cxC X scope cl' C N' s H fp) rfl rfl rfl hc i _ s' σ' H' (fun _ _ => A6) I' (fpk one fr') st' go) (fun r s1 ⟨u, hr, h4⟩ => ?_) fun _ _ f => f.elim
   subst hr;refine BW h4 (fun _ s5 ⟨x, H5, I5, r5, y5, st5, fr5⟩ => ?_) fun _ _ f => f.elim
   have I5' := I5.pinned (fpk one fr5) (T.obj _ _ st5);refine BW (hg cl' C s H _ s5 σ' H5 x u _ I5' r5 (step x H5 y5)) (fun _ s6 ⟨σ6, H6, I6, q6⟩ => ?_) fun _ _ f => f.elim
   refine BW (ht cl' C s H _ s6 σ6 H6 _ I6 q6) (fun ok s7 ⟨H7, I7, q7⟩ => ?_) fun _ _ f => f.elim
   have again : ∀{s8 : Ak}{H8 : Hp}{ys' : Ab Ah}{n' : Ag}, Inv (cxC X scope cl' C N' s H fp) ((D, { cls := .type "list", data := .seq (EG ys') n' })::Hj fp s5.heap) σ6 H8 s8 -> Inv (cxC X scope cl' C N' s H fp) [(D, { cls := .type "list", data := .seq (EG ys') n' })] σ6 H8 s8 /\ tn (i+1) s8.heap /\ ∀ b ∈ fp, H8 b = Af := fun {s8 H8 ys' n'} I8=>
    ⟨I8.pins_of fun p hp => I8.pin p (Ba _ (by rw[BG.mp hp];exact AA)), T.keep _ _ _ st5 fun b hb o e => (I8.pin (b, o) (Ba _ (As _ (JF hb e)))).1, fun b hb => by
     obtain⟨o, e, d⟩ := T.obj _ _ st5 b hb;exact(I8.pin (b, o) (Ba _ (As _ (JF hb e)))).2.1⟩
   cases ok with
   |false=>
    rw[AO (by decide)]at q7
    obtain⟨m', hm, w7⟩ := q7;obtain⟨a1, a2, a3⟩ := again I7;rw[AO (by decide)]
    exact⟨m', hm, i+1, σ6, H7, xs, ys, n, a1, a2, a3, rv, hz, w7⟩
   |true=>
    rw[AH rfl]at q7;rw[AH rfl];refine BW (he cl' C s H _ s7 σ6 H7 _ I7 q7) (fun val s8 ⟨y, H8, I8, r8, m', hm, w8⟩ => ?_) fun _ _ f => f.elim
    have hl := rv.length;refine To (X := cxC X scope cl' C N' s H fp) (ys := ys) (n := n) (pI := Hj fp s5.heap) I8 (by show s.heap.objs.size <= D;rw[hD];exact AQ _) (fun p hp => ?_) cD (by omega) fun s9 I9 kb => ?_
    ·have hp2 : p ∈ Hj fp s5.heap := hp;exact noD _ (Nq hp2).1
    ·obtain⟨a1, a2, a3⟩ := again I9;exact⟨m', hm, i+1, σ6, H8, xs++[y], ys++[val], n+1, a1, a2, a3, rv.append (.cons r8 .nil), by rw[Bp];exact hlt, w8⟩
 exact codeAny_compStart_list (loop _ rfl) (T.self _ 0 _ _ _ st1 (loop _ rfl))
theorem Vf{g:TG}(hc : X.calm = Ac)(B : BlockOk X scope N' ts)(hi : PI X tg iter wi)(hg : ∀ cl C s H fp, PG (cxC X scope cl C N' s H fp) tg g)(ht : ∀ cl C s H fp, PTs (cxC X scope cl C N' s H fp) ifs tt)(he : ∀ cl C s H fp, PE (cxC X scope cl C N' s H fp) elt te)(hs : ∀ x, Ch iter X.env x = pure x):PE X (.ListComp elt [⟨tg,iter,ifs,0⟩] scope pos) (fun σ H Q =>wi σ H fun J H1 =>IQ J ts g tt te σ H1 Q) := by
 intro pI s σ H Q I h;obtain⟨cl, hclos, hcl, hcl2⟩ := Nz (scope := scope) (env := X.env) fun x hx hk => I.ok.has x.1 ((B.free x hx hk).imp id id)
 rw[eval_ListComp];refine SM (use := Af) rfl hs hclos B.kind B.names (thn (hi pI s σ H _ I h) fun v s1 h1 => thn h1 fun itv s2 h2 => ?_)
 obtain⟨it, fp, tn, J, H2, e, I2, T, st2, f2, h3⟩ := h2;subst e;refine Oh (RR := fun acc C => compPost (model X.prog X.w) X.A X.xe Af (EP X pI σ Q) acc C) hc B I2 T st2 f2 hcl hcl2 (fun cl C s H => hg cl C s H fp) (fun cl C s H => ht cl C s H fp) (fun cl C s H => he cl C s H fp) h3 fun cl' D C s' H' σ' pins' xs ys n m I' hd hDn rv hz hD hDC hC hm q => ?_
 exact⟨m, hm, fun h'' hs'' => ⟨.ref D, _, Nj I2 f2 I' hD hDC hC hd hDn rv hz hs'', rfl, q⟩⟩
theorem VI{n:Aj}{g:TG}(hc : X.calm = Ac)(B : BlockOk X scope N' ts)(hi : PI X tg iter wi)(hg : ∀ cl C s H fp, PG (cxC X scope cl C N' s H fp) tg g)(ht : ∀ cl C s H fp, PTs (cxC X scope cl C N' s H fp) ifs tt)(he : ∀ cl C s H fp, PE (cxC X scope cl C N' s H fp) elt te)(hs : ∀ x, Ch iter X.env x = pure x)(hN : X.N.Nodup)(hni : X.N[i]? = Aa n)(hx : X.env.scope.names.lookup n = Aa .local)(hsw : Dx (.ListComp elt [⟨tg, iter, ifs, 0⟩] scope pos) (Aa (.Name n pos')) pos2.line X.env = pure Ac):PS X (.Assign [.Name n pos'] (.ListComp elt [⟨tg,iter,ifs,0⟩] scope pos) pos2) (J6 (fun σ H Q =>wi σ H fun J H1 =>IQ J ts g tt te σ H1 Q) (DW i)) := by
 intro pI s σ H Dn I h;obtain⟨cl, hclos, hcl, hcl2⟩ := Nz (scope := scope) (env := X.env) fun x hx hk => I.ok.has x.1 ((B.free x hx hk).imp id id)
 rw[exec_Assign_Name_used _ _ _ _ hsw];refine Am (Fm (Am ?_));show AB _ X.A (do let _ <-comprehension (.ListComp elt [⟨tg, iter, ifs, 0⟩] scope pos) scope X.env _ (newList []) Ad (eval iter X.env) (Aa (assign (.Name n pos') X.env))) _ _ s
 refine Am (BW (SM (use := Aa (assign (.Name n pos') X.env)) (Q := fun _ s' => SP X pI Dn .next s') rfl hs hclos B.kind B.names
  (thn (hi pI s σ H _ I h) fun v s1 h1 => thn h1 fun itv s2 h2 => ?_)) (fun _ s' hq => AE (AE hq)) fun _ _ e => e)
 obtain⟨it, fp, tn, J, H2, e, I2, T, st2, f2, h3⟩ := h2;subst e;refine Oh (RR := fun acc C => compPost (model X.prog X.w) X.A X.xe (Aa (assign (.Name n pos') X.env)) (fun _ s' => SP X pI Dn .next s') acc C) hc B I2 T st2 f2 hcl hcl2 (fun cl C s H => hg cl C s H fp) (fun cl C s H => ht cl C s H fp) (fun cl C s H => he cl C s H fp) h3 fun cl' D C s' H' σ' pins' xs ys n' m I' hd hDn rv hz hD hDC hC hm q => ?_
 have J0 : Inv X pI σ (upd H' D (.lst xs)) s' := Nj I2 f2 I' hD hDC hC hd hDn rv hz (R6 ..);refine SL (Nn J0 hN hni (.inl hx) (show Bo (.ref D) (.ref D) from rfl) (fun s'' J1 ⟨a, sb, ha⟩ => ?_) (.inr hx))
 have hC0 : X.s₀.heap.objs.size <= C := B9 I2.sz hC;have hL : C ≠ X.env.locals := fun z => absurd (AD I2.lt (z ▸ hC)) (Be _)
 have hcC : ∀ x c, X.env.cells.lookup x = Aa c -> c ≠ C := fun x c e z => by
  obtain⟨v, q'⟩ := I2.cell x c e;exact absurd (AD q'.lt (by rw[z];exact hC)) (Be _)
 have hp : ∀ p ∈ X.pn++pI, p.1 ≠ C := fun p hp z => absurd (AD (Aw (I2.pin p hp).1) (by rw[z];exact hC)) (Be _)
 have hCn : upd H' D (.lst xs) C = Af := by rw[Cf hDC.symm];exact I'.free
 have hCa : C ≠ a := by
  rcases ha with rfl|ha
  ·exact hL
  ·exact fun z => hcC n a ha z.symm
 refine⟨m, hm.sameBut sb hCa, fun h'' hs'' => ⟨_, _, J1.turned (t' := s''.toks) (fun b o hb e => (hs''.2 b hb).trans e) hCn hL (.inr hC0) hcC hp, q⟩⟩
theorem HI : ∀(ts : Ab Ag)(ρ : Rho)(j : Ag), (Ea ts ρ)[j]? = if j ∈ ts then (ρ[j]?).map (fun _ => Af) else ρ[j]?
 |[], ρ, j => by simp[Ea]
 |t::ts, ρ, j => by
  show (Ea ts (ρ.set t Af))[j]? = _;rw[HI ts];by_cases h1 : j ∈ ts
  ·rw[AH h1, AH (As _ h1)];by_cases h2 : t = j
   ·subst h2;rw[Ed];cases ρ[t]? <;> rfl
   ·rw[Ce h2]
  ·rw[AO h1];by_cases h2 : t = j
   ·subst h2;rw[AH AA, Ed];cases ρ[t]? <;> rfl
   ·rw[Ce h2, AO (by simp only[At, C4];exact⟨fun z => h2 z.symm, h1⟩)]
theorem JA : ∀(ts : Ab Ag)(ρ : Rho), (Ea ts ρ).length = ρ.length
 |[], _ => rfl
 |t::ts, ρ => by show (Ea ts (ρ.set t Af)).length = _;rw[JA ts, A4]
theorem KM : ∀(ts : Ab Ag)(σ : L2.St){i : Ag}, i ∉ ts -> (hideT ts σ)[i]? = σ[i]?
 |[], _, _, _ => rfl
 |t::ts, σ, i, h => by
  simp only[At, C4]at h;show (hideT ts (σ.set t Af))[i]? = _;rw[KM ts _ h.2, Ce (fun z => h.1 z.symm)]
theorem MQ : ∀(ts : Ab Ag)(ds : Ab D)(ρ1 ρ2 : Rho), ρ1.length = ρ2.length -> (∀ j, j ∉ ts -> ρ1[j]? = ρ2[j]?) -> DI ts ds ρ1 = DI ts ds ρ2
 |[], [], ρ1, ρ2, hl, h => congrArg Aa (Rc fun j => h j (by simp))
 |[], _::_, _, _, _, _ => rfl
 |_::_, [], _, _, _, _ => rfl
 |t::ts, d::ds, ρ1, ρ2, hl, h => by
  refine MQ ts ds _ _ (by rw[A4, A4];exact hl) fun j hj => ?_
  by_cases e : t = j
  ·subst e;rw[Fu, Fu, AH rfl, AH rfl, hl]
  ·rw[Ce e, Ce e];exact h j (by simp only[At, C4];exact⟨fun z => e z.symm, hj⟩)
theorem Nc : ∀(ts us : Ab Ag)(ds : Ab D)(ρ ρ' : Rho), (∀ t ∈ ts, t ∈ us) -> DI ts ds ρ = Aa ρ' -> Ea us ρ' = Ea us ρ
 |[], us, [], ρ, ρ', _, e => by cases e;rfl
 |t::ts, us, d::ds, ρ, ρ', hs, e => by
  rw[Nc ts us ds _ ρ' (fun u hu => hs u (As _ hu)) e]
  refine Rc fun j => ?_
  rw[HI, HI];by_cases h : j ∈ us
  ·rw[AH h, AH h, Fu];split
   ·rename_i e2;subst e2;split
    ·rename_i h3;rw[Bz h3];rfl
    ·rename_i h3;rw[List.getElem?_eq_none (by omega)]
   ·rfl
  ·rw[AO h, AO h, Ce];rintro rfl;exact h (hs _ AA)
 |[], _, _::_, _, _, _, e => by cases e
 |_::_, _, [], _, _, _, e => by cases e
section
variable{K : Fg}{CL : ClA}{A : Ai -> Prop}{ρ ρ' : Rho}{σ : L2.St}{H : Hp}
theorem Good.less(g : Good K CL A ρ σ H)(hl : ρ'.length = ρ.length)(h : ∀(i : Ag)(d : D)(o : An), ρ'[i]? = Aa (Aa (d, o)) -> ρ[i]? = Aa (Aa (d, o))) : Good K CL A ρ' σ H := ⟨fun i d e => g.sh i d (h i d Ad e), fun i d e => g.ow i d (h i d Ac e), hl.trans g.len⟩
theorem Good.put(g : Good K CL A ρ σ H)(t : Ag)(r : Rep K CL H A v d) : Good K CL A (ρ.set t (Aa (d, Ad))) (σ.set t (Aa v)) H := by
 refine⟨fun j e h => ?_, fun j e h => ?_, by rw[A4, A4];exact g.len⟩
 ·by_cases hj : t = j
  ·subst hj;have e1 := FS h;cases e1;have hl : t<σ.length := by
    rw[<-g.len];have := (AK.mp h).1;simpa using this
   exact⟨v, by rw[Cm hl], r⟩
  ·rw[Ce hj]at h;obtain⟨w', q, rw'⟩ := g.sh j e h;exact⟨w', by rw[Ce hj];exact q, rw'⟩
 ·have hj : t ≠ j := by
   rintro rfl;have := FS h;cases this
  rw[Ce hj]at h;obtain⟨a, xs, ds, q, z⟩ := g.ow j e h;exact⟨a, xs, ds, by rw[Ce hj];exact q, z⟩
theorem Good.hide(g : Good K CL A ρ σ H)(ts : Ab Ag) : Good K CL A (Ea ts ρ) σ H := g.less (JA _ _) fun i d o e => by
 rw[HI]at e;split at e
 ·cases q : ρ[i]? with
  |none => rw[q]at e;cases e
  |some x => rw[q]at e;cases e
 ·exact e
theorem Good.hideT(g : Good K CL A ρ σ H)(ts : Ab Ag) : Good K CL A (Ea ts ρ) (hideT ts σ) H := by
 have key : ∀ i x, (Ea ts ρ)[i]? = Aa (Aa x) -> ρ[i]? = Aa (Aa x) /\ i ∉ ts := fun i x e => by
  rw[HI]at e;split at e
  ·cases q : ρ[i]? with
   |none => rw[q]at e;cases e
   |some x => rw[q]at e;cases e
  ·exact⟨e, by assumption⟩
 refine⟨fun i d e => ?_, fun i d e => ?_, by rw[JA, Lb];exact g.len⟩
 ·obtain⟨e1, e2⟩ := key i _ e;obtain⟨v, q, r⟩ := g.sh i d e1;exact⟨v, by rw[KM _ _ e2];exact q, r⟩
 ·obtain⟨e1, e2⟩ := key i _ e;obtain⟨a, xs, ds, q, r⟩ := g.ow i d e1;exact⟨a, xs, ds, by rw[KM _ _ e2];exact q, r⟩
end
noncomputable def GG(K : Fg)(CL : ClA)(ts : Ab Ag)(as : D -> Rho -> R Rho)(g : TG) : Prop := ∀ A ρ σ H v d ρ' Q, Good K CL A (Ea ts ρ) σ H -> Rep K CL H A v d -> as d ρ = .ok ρ' -> (∀ σ', Good K CL A ρ' σ' H -> Good K CL A (Ea ts ρ) σ' H -> Q σ' H) -> g v σ H Q
theorem Wg(i : Ag) : GG K CL [i] (fun d ρ => .ok (ρ.set i (Aa (d, Ad)))) (DW i) := fun A ρ σ H v d ρ' Q g r e k => by
 cases e;have g2 := g.put i r;have e1 : (Ea [i] ρ).set i (Aa (d, Ad)) = ρ.set i (Aa (d, Ad)) := by
  show (ρ.set i Af).set i (Aa (d, Ad)) = _;rw[Rz]
 rw[e1]at g2;refine k _ g2 ?_;have := g2.hide [i];have e2 : Ea [i] (ρ.set i (Aa (d, Ad))) = Ea [i] ρ := by
  show (ρ.set i _).set i Af = ρ.set i Af;rw[Rz]
 rw[e2]at this;exact this
theorem Ox{K : Fg}{CL : ClA}{A : Ai -> Prop}{H : Hp} : ∀(ts : Ab Ag)(ds : Ab D)(vs : Ab V)(ρ ρ' : Rho)(σ : L2.St)(Q : L2.St -> Hp -> Prop), Good K CL A ρ σ H -> Reps K CL H A vs ds -> DI ts ds ρ = Aa ρ' -> (∀ σ', Good K CL A ρ' σ' H -> Q σ' H) -> (ts.foldr (fun t u => FW (DW t) u) FY) vs σ H Q
 |[], [], [], ρ, ρ', σ, Q, x, _, e, k => by
  cases e;exact⟨rfl, k σ x⟩
 |t::ts, d::ds, v::vs, ρ, ρ', σ, Q, x, r, e, k => ⟨v, vs, rfl, Ox ts ds vs _ ρ' _ Q (x.put t r.1) r.2 e k⟩
 |[], _::_, _, _, _, _, _, _, _, e, _ => by cases e
 |_::_, [], _, _, _, _, _, _, _, e, _ => by cases e
 |[], [], _::_, _, _, _, _, _, r, _, _ => r.elim
 |_::_, _::_, [], _, _, _, _, _, r, _, _ => r.elim
theorem YC(ts : Ab Ag) : GG K CL ts (E5 ts) (Iq K ts.length (ts.foldr (fun t u => FW (DW t) u) FY)) := fun A ρ σ H v d ρ' Q g r e k => by
 cases d with
 |tup ds=>
  obtain⟨a, xs, rfl, na, sq, rs⟩ := r;rw[NB]at e;cases e2 : DI ts ds ρ with
  |none => rw[e2]at e;cases e
  |some ρ2=>
   rw[e2]at e;cases e;have e3 : DI ts ds (Ea ts ρ) = Aa ρ' := by
    rw[<-e2];exact MQ ts ds _ _ (JA _ _) fun j hj => by rw[HI, AO hj]
   refine⟨a, xs, rfl, sq, by rw[rs.length];exact JE _ _ _ _ e2, Ox ts ds xs _ ρ' σ Q g rs e3 fun σ' g' => k σ' g' ?_⟩
   have := g'.hide ts;rw[Nc ts ts ds ρ ρ' (fun _ h => h) e2]at this
   exact this
 |_ => cases e
noncomputable abbrev W0 : XW := fun _ _ => A6
noncomputable def STs(X : Cx)(CL : ClA)(ifs : Ab Ao)(f : Rho -> R An) : Prop := ∀ A, PTs X ifs (fun σ H Q => AOk H A /\ ∃ ρ, Good X.K CL A ρ σ H /\ Cr W0 H (f ρ) Q)
theorem VV : STs X CL [] (fun _ => .ok Ac) := fun A pI s σ H Q I ⟨hA, ρ, g, p⟩ => VE pI s σ H Q I (p H (Ay.refl H))
theorem VU(h : SB X CL W0 c f) : STs X CL [c] f := fun A pI s σ H Q I q => VC (h A) pI s σ H Q I q
section
variable{X : Cx}{CL : ClA}{W : XW}{tg iter elt : Ao}{ifs : Ab Ao}{scope : BS}{pos : AN}{N' : Ab Aj}{ts : Ab Ag}{fi : Rho -> R (Ab D)}{fc : Rho -> R An}{fe : Rho -> R D}{as : D -> Rho -> R Rho}{g : TG}
theorem S8{g : D -> R An}{f:D -> R D}{x:D}{xs ys:Ab D}(h : Bh g f (x::xs) = .ok ys) : (g x = .ok Ad /\ Bh g f xs = .ok ys) \/ ∃ y r, g x = .ok Ac /\ f x = .ok y /\ Bh g f xs = .ok r /\ ys = y::r := by
 unfold Bh at h;cases e : g x with
 |bad => rw[e]at h;cases h
 |exn z => rw[e]at h;cases h
 |ok b=>
  rw[e, R.bind_ok]at h;cases b with
  |false => exact .inl ⟨rfl, h⟩
  |true=>
   rw[AH rfl]at h;cases e2 : f x with
   |bad => rw[e2]at h;cases h
   |exn z => rw[e2]at h;cases h
   |ok y=>
    rw[e2, R.bind_ok]at h;cases e3 : Bh g f xs with
    |bad => rw[e3]at h;cases h
    |exn z => rw[e3]at h;cases h
    |ok r=>
     rw[e3, R.bind_ok]at h;cases h;exact .inr ⟨y, r, rfl, rfl, rfl, rfl⟩
theorem Hc{β:Type}{r : R α}{f : α -> R β}{b : β}(h : r.bind f = .ok b) : ∃ a, r = .ok a /\ f a = .ok b := by
 cases r with
 |ok a => exact⟨a, rfl, h⟩
 |exn x => cases h
 |bad => cases h
theorem TL{ds ys : Ab D}{Q:VK}(hGG : GG K CL ts as g)(hA : AOk H1 A)(gd : Good K CL A ρ σ H1)(yl : GH K CL A ds J H1)(hz : ds.length <= sizeLine)(hcp : Bh (fun x => (as x ρ).bind fc) (fun x => (as x ρ).bind fe) ds = .ok ys)(q : ∀ xs H2, Ay H1 H2 -> Reps K CL H2 A xs ys -> ∀ p, H2 p = Af -> Q (.ref p) (upd H2 p (.lst xs))):IQ J ts g (fun σ H Q =>AOk H A/\∃ ρ,Good K CL A ρ σ H/\Cr W0 H (fc ρ) Q) (fun σ H Q =>AOk H A/\∃ ρ,Good K CL A ρ σ H/\A5 (fun H =>Rep K CL H A) W0 H (fe ρ) Q) σ H1 Q := by
 refine⟨fun i m xs σ' H' => m = ds.length-i /\ i <= ds.length /\ xs.length <= i /\ Ay H1 H' /\ Good K CL A (Ea ts ρ) σ' H' /\ ∃ outs rest, Reps K CL H' A xs outs /\ Bh (fun x => (as x ρ).bind fc) (fun x => (as x ρ).bind fe) (ds.drop i) = .ok rest /\ ys = outs++rest,
  ⟨ds.length, by simp, F4 _, AQ _, Ay.refl _, gd.hideT ts, [], ys, trivial, hcp, rfl⟩, ?_⟩
 rintro i m xs σ' H' ⟨rfl, hi, hxl, sm, g', outs, rest, rs, hc, e⟩;obtain⟨yst, ygo⟩ := yl H' (Kp.of sm) i;by_cases hlt : i<ds.length
 ·have hd : ds[i]? = Aa ds[i] := Bz hlt;obtain⟨hgo, hyl⟩ := ygo _ hd;refine .inr ⟨hgo, by omega, fun x H2 hx => ?_⟩
  obtain⟨s2, rx⟩ := hyl x H2 hx;have rx' := rx A (fun a ha => .inl ha) (hA.same sm)
  rw[DZ hlt]at hc;have sm2 := sm.trans s2;rcases S8 hc with ⟨h1, h2⟩|⟨y, r, h1, h2, h3, h4⟩
  ·obtain⟨ρ', ea, ec⟩ := Hc h1;refine hGG A ρ σ' H2 x ds[i] ρ' _ (g'.same s2) rx' ea fun σ3 g3 g4 => ⟨hA.same sm2, ρ', g3, ?_⟩
   rw[ec];exact fun H3 s3 => by
    dsimp only;rw[AO (by decide)]
    exact⟨ds.length-(i+1), by omega, rfl, hlt, by omega, sm2.trans s3, g4.same s3, outs, rest, (rs.same s2).same s3, h2, e⟩
  ·obtain⟨ρ', ea, ec⟩ := Hc h1;obtain⟨ρ2, ea2, ee⟩ := Hc h2;rw[ea]at ea2;cases ea2;refine hGG A ρ σ' H2 x ds[i] ρ' _ (g'.same s2) rx' ea fun σ3 g3 g4 => ⟨hA.same sm2, ρ', g3, ?_⟩
   rw[ec];exact fun H3 s3 => by
    dsimp only;rw[AH rfl];refine⟨(hA.same sm2).same s3, ρ', g3.same s3, ?_⟩;rw[ee];exact fun v H4 s4 r4 => ⟨ds.length-(i+1), by omega, rfl, hlt, by rw[Bp, Ro];omega, (sm2.trans s3).trans s4, (g4.same s3).same s4, outs++[y], r, (((rs.same s2).same s3).same s4).append ⟨r4, trivial⟩, h3, by rw[e, h4];simp⟩
 ·have hk' : ds.length <= i := by omega
  rw[Ra hk']at hc;have hr : rest = [] := by cases hc;rfl
  subst hr;rw[B8]at e;subst e;exact .inl ⟨yst hk', fun p hp => q xs H' sm rs p hp⟩
theorem DK.ok_of{r:R (Ab D)}{f:Ab D -> R D}{Q:VK}{Q':It -> Hp -> Prop}(h : A5 Rq W H (r.bind f) Q)(k : ∀ ds J H', r = .ok ds -> Ay H H' -> GH K CL A ds J H' -> ds.length <= sizeLine -> A5 Rq W H' (f ds) Q -> Q' J H') : DK K CL A W H r Q' := by
 cases r with
 |ok d => exact fun J H2 s2 y z => k d J H2 rfl s2 y z (A5.same s2 h)
 |exn x => exact h
 |bad => exact h
theorem YX{r : R α}{a : α}(h : noX r = .ok a) : r = .ok a := by
 cases r with
 |ok b => exact h
 |exn x => cases h
 |bad => cases h
theorem Ni{Q:VK}(hGG : GG X.K CL ts as g)(hA : AOk H A)(gd : Good X.K CL A ρ σ H)(p : A5 (Dl X.K CL Ac H A) W H ((fi ρ).bind fun xs => (noX (Bh (fun x => (as x ρ).bind fc) (fun x => (as x ρ).bind fe) xs)).bind fun ys => .ok (.lst ys)) Q):DK X.K CL A W H (fi ρ) (fun J H1 =>IQ J ts g (fun σ H Q =>AOk H A/\∃ ρ,Good X.K CL A ρ σ H/\Cr W0 H (fc ρ) Q) (fun σ H Q =>AOk H A/\∃ ρ,Good X.K CL A ρ σ H/\A5 (fun H =>Rep X.K CL H A) W0 H (fe ρ) Q) σ H1 Q):=
 DK.ok_of p fun ds J H1 e1 s1 yl hz p1 => by
  cases e2 : noX (Bh (fun x => (as x ρ).bind fc) (fun x => (as x ρ).bind fe) ds) with
  |ok ys=>
   rw[e2]at p1;exact TL hGG (hA.same s1) (gd.same s1) yl hz (YX e2) fun xs H2 s2 rs q hq => p1 _ _ (s2.trans (Er hq _)) (He (s1.trans s2) ((hA.same s1).same s2) hq rs)
  |exn x => rw[e2]at p1;cases hq : Bh (fun x => (as x ρ).bind fc) (fun x => (as x ρ).bind fe) ds <;> rw[hq]at e2 <;> cases e2
  |bad => rw[e2]at p1;exact p1.elim
theorem Vm(hc : X.calm = Ac)(B : BlockOk X scope N' ts)(hi : SI X CL W tg iter fi)(hGG : GG X.K CL ts as g)(hg : ∀ cl C s H fp, PG (cxC X scope cl C N' s H fp) tg g)(ht : ∀ cl C s H fp, STs (cxC X scope cl C N' s H fp) CL ifs fc)(he : ∀ cl C s H fp, SE (cxC X scope cl C N' s H fp) CL W0 elt fe)(hs : ∀ x, Ch iter X.env x = pure x) : SC X CL W Ac (.ListComp elt [⟨tg, iter, ifs, 0⟩] scope pos) (fun ρ => (fi ρ).bind fun xs => (noX (Bh (fun x => (as x ρ).bind fc) (fun x => (as x ρ).bind fe) xs)).bind fun ys => .ok (.lst ys)) := fun A pI s σ H Q I ⟨hA, ρ, gd, p⟩=>
 Vf hc B (hi A) hg (fun cl C s H fp => ht cl C s H fp A) (fun cl C s H fp => he cl C s H fp A) hs pI s σ H Q I ⟨hA, ρ, gd, Ni hGG hA gd p⟩
end
section
variable{K : Fg}{CL : ClA}{Fz : Ai -> HO -> Prop}{B : Ai -> Prop}{ρ : Rho}{σ : L2.St}{H H' : Hp}
theorem Sx.setF(x : Sx K CL Fz B ρ σ H)(s : Ay H H'){ds : Ab D}(h0 : H a = Af)(h1 : H' a = Aa (.lst xs))(r : Reps K CL H' (fun b => BZ B ρ σ b \/ b = a) xs ds) : Sx K CL Fz B (ρ.set i (Aa (.lst ds, Ac))) (σ.set i (Aa (.ref a))) H' := by
 have nA : ¬ BZ B ρ σ a := x.aok.new h0;have own : ∀(j : Ag)(e : D), (ρ.set i (Aa (.lst ds, Ac)))[j]? = Aa (Aa (e, Ac)) -> (i = j /\ e = .lst ds) \/ (i ≠ j /\ ρ[j]? = Aa (Aa (e, Ac))) := fun j e h => by
  by_cases hj : i = j
  ·subst hj;have := FS h;cases this;exact .inl ⟨rfl, rfl⟩
  ·exact .inr ⟨hj, by rw[Ce hj]at h;exact h⟩
 have atI : ∀{j : Ag}{y : Sl}, (ρ.set i (Aa (.lst ds, Ac)))[j]? = Aa y -> i = j -> (σ.set i (Aa (.ref a)))[j]? = Aa (Aa (.ref a)) := fun {j y} h e => by
  subst e;have hl : i<σ.length := by
   rw[<-x.len];have := (AK.mp h).1;simpa using this
  rw[Cm hl]
 have sub : ∀ b, BZ B (ρ.set i (Aa (.lst ds, Ac))) (σ.set i (Aa (.ref a))) b -> BZ B ρ σ b \/ b = a := fun b h => by
  rcases h with h|⟨j, e, h1, h2⟩
  ·exact .inl (.inl h)
  ·rcases own j e h1 with ⟨hj, _⟩|⟨hj, h1'⟩
   ·rw[atI h1 hj]at h2;cases h2;exact .inr rfl
   ·rw[Ce hj]at h2;exact .inl (.inr ⟨j, e, h1', h2⟩)
 have wide : ∀{v : V}{d : D}, Rep K CL H (BZ B ρ σ) v d -> Rep K CL H' (BZ B (ρ.set i (Aa (.lst ds, Ac))) (σ.set i (Aa (.ref a)))) v d := fun r => (Rep.wide (fun b hb => (sub b hb).imp id fun e => by rw[e];exact h0) _ r).same s
 have wides : ∀{v : Ab V}{d : Ab D}, Reps K CL H (BZ B ρ σ) v d -> Reps K CL H' (BZ B (ρ.set i (Aa (.lst ds, Ac))) (σ.set i (Aa (.ref a)))) v d := fun r => (Reps.wide (fun b hb => (sub b hb).imp id fun e => by rw[e];exact h0) _ r).same s
 refine⟨⟨fun j e h => ?_, fun j e h => ?_, by rw[A4, A4];exact x.len⟩, fun b h => ?_, fun j e b g1 g2 => ?_, fun j k e f b g1 g2 g3 g4 => ?_, fun b o z => s _ _ (x.same b o z), by rw[A4, A4];exact x.len⟩
 ·have hj : i ≠ j := by
   rintro rfl;have := FS h;cases this
  rw[Ce hj]at h;obtain⟨w', q, rw'⟩ := x.good.sh j e h;exact⟨w', by rw[Ce hj];exact q, wide rw'⟩
 ·rcases own j e h with ⟨hj, rfl⟩|⟨hj, h'⟩
  ·have q := atI h hj;exact⟨a, xs, ds, q, rfl, .inr ⟨j, _, h, q⟩, h1, Reps.sub sub _ r⟩
  ·obtain⟨b, ys, es, q, z, ha, hh, rr⟩ := x.good.ow j e h';have q' : (σ.set i (Aa (.ref a)))[j]? = Aa (Aa (.ref b)) := by rw[Ce hj];exact q
   exact⟨b, ys, es, q', z, .inr ⟨j, e, h, q'⟩, s _ _ hh, wides rr⟩
 ·rcases sub b h with z|z
  ·obtain⟨ys, q⟩ := x.aok b z;exact⟨ys, s _ _ q⟩
  ·rw[z];exact⟨xs, h1⟩
 ·rcases own j e g1 with ⟨hj, _⟩|⟨hj, h'⟩
  ·rw[atI g1 hj]at g2;cases g2;refine⟨fun o z => ?_, fun z => nA (.inl z)⟩
   have := x.same a o z;rw[h0]at this;cases this
  ·rw[Ce hj]at g2;exact x.new j e b h' g2
 ·rcases own j e g1 with ⟨hj, _⟩|⟨hj, h'⟩
  ·rw[atI g1 hj]at g3;cases g3;rcases own k f g2 with ⟨hk, _⟩|⟨hk, h''⟩
   ·exact hj.symm.trans hk
   ·rw[Ce hk]at g4;exact absurd (.inr ⟨k, f, h'', g4⟩) nA
  ·rw[Ce hj]at g3;rcases own k f g2 with ⟨hk, _⟩|⟨hk, h''⟩
   ·rw[atI g2 hk]at g4;cases g4;exact absurd (.inr ⟨j, e, h', g3⟩) nA
   ·rw[Ce hk]at g4;exact x.dis j k e f b h' h'' g3 g4
theorem Sx.upd(x : Sx K CL Fz B ρ σ H){i : Ag}{d : D}{a : Ai}{xs : Ab V}{ds : Ab D}(hi : ρ[i]? = Aa (Aa (d, Ac)))(ha : σ[i]? = Aa (Aa (.ref a)))(r : Reps K CL H (BZ B ρ σ) xs ds) : Sx K CL Fz B (ρ.set i (Aa (.lst ds, Ac))) σ (L2.upd H a (.lst xs)) := by
 have oa : BZ B ρ σ a := .inr ⟨i, d, hi, ha⟩;have hil : i<ρ.length := (AK.mp hi).1;have get : ∀(j : Ag)(e : D), (ρ.set i (Aa (.lst ds, Ac)))[j]? = Aa (Aa (e, Ac)) ↔ (i = j /\ e = .lst ds) \/ (i ≠ j /\ ρ[j]? = Aa (Aa (e, Ac))) := fun j e => by
  by_cases hj : i = j
  ·subst hj;rw[Cm hil];simp;exact⟨fun z => z.symm, fun z => z.symm⟩
  ·rw[Ce hj];simp[hj]
 have same : ∀ b, BZ B (ρ.set i (Aa (.lst ds, Ac))) σ b ↔ BZ B ρ σ b := fun b => by
  constructor
  ·rintro (h|⟨j, e, h1, h2⟩)
   ·exact .inl h
   ·rcases (get j e).mp h1 with ⟨rfl, _⟩|⟨_, h1⟩
    ·exact .inr ⟨i, d, hi, h2⟩
    ·exact .inr ⟨j, e, h1, h2⟩
  ·rintro (h|⟨j, e, h1, h2⟩)
   ·exact .inl h
   ·by_cases hj : i = j
    ·subst hj;exact .inr ⟨i, .lst ds, (get i _).mpr (.inl ⟨rfl, rfl⟩), h2⟩
    ·exact .inr ⟨j, e, (get j e).mpr (.inr ⟨hj, h1⟩), h2⟩
 have kp : Kp (BZ B ρ σ) H (L2.upd H a (.lst xs)) := fun b o e na => by
  have hne : b ≠ a := by
   rintro rfl;exact na oa
  rw[Cf hne];exact e
 refine⟨⟨fun j e h => ?_, fun j e h => ?_, by rw[A4];exact x.len⟩, fun b h => ?_, fun j e b g1 g2 => ?_, fun j k e f b g1 g2 g3 g4 => ?_, fun b o z => ?_, by rw[A4];exact x.len⟩
 ·have hj : i ≠ j := by
   rintro rfl;have := FS h;cases this
  rw[Ce hj]at h;obtain⟨w', q, rw'⟩ := x.good.sh j e h;exact⟨w', q, Rep.sub (fun b hb => (same b).mp hb) _ (Rep.kp kp _ rw')⟩
 ·rcases (get j e).mp h with ⟨rfl, rfl⟩|⟨hj, h'⟩
  ·exact⟨a, xs, ds, ha, rfl, (same a).mpr oa, FQ, Reps.sub (fun b hb => (same b).mp hb) _ (Reps.kp kp _ r)⟩
  ·obtain⟨b, ys, es, q, z, hb, hh, rr⟩ := x.good.ow j e h';have hne : b ≠ a := fun z => hj (x.dis i j d e a hi h' ha (z ▸ q))
   exact⟨b, ys, es, q, z, (same b).mpr hb, by rw[Cf hne];exact hh, Reps.sub (fun b hb => (same b).mp hb) _ (Reps.kp kp _ rr)⟩
 ·obtain⟨ys, q⟩ := x.aok b ((same b).mp h);by_cases e : b = a
  ·rw[e];exact⟨xs, FQ⟩
  ·exact⟨ys, by rw[Cf e];exact q⟩
 ·rcases (get j e).mp g1 with ⟨rfl, _⟩|⟨_, h'⟩
  ·exact x.new i d b hi g2
  ·exact x.new j e b h' g2
 ·rcases (get j e).mp g1 with ⟨rfl, _⟩|⟨hj, h'⟩
  ·rcases (get k f).mp g2 with ⟨rfl, _⟩|⟨hk, h''⟩
   ·rfl
   ·exact x.dis i k d f b hi h'' g3 g4
  ·rcases (get k f).mp g2 with ⟨rfl, _⟩|⟨hk, h''⟩
   ·exact x.dis j i e d b h' hi g3 g4
   ·exact x.dis j k e f b h' h'' g3 g4
 ·have hne : b ≠ a := fun e => (x.new i d a hi ha).1 o (e ▸ z)
  rw[Cf hne];exact x.same b o z
theorem Sx.rel(x : Sx K CL Fz B ρ σ H)(hi : ρ[i]? = Aa (Aa (d, Ac))) : Sx K CL Fz B (ρ.set i (Aa (d, Ad))) σ H := by
 obtain⟨a, xs, ds, q, rfl, oa, hh, rr⟩ := x.good.ow i d hi;have own : ∀(j : Ag)(e : D), (ρ.set i (Aa (.lst ds, Ad)))[j]? = Aa (Aa (e, Ac)) -> i ≠ j /\ ρ[j]? = Aa (Aa (e, Ac)) := fun j e h => by
  by_cases hj : i = j
  ·subst hj;have := FS h;cases this
  ·exact⟨hj, by rw[Ce hj]at h;exact h⟩
 have sub : ∀ b, BZ B (ρ.set i (Aa (.lst ds, Ad))) σ b -> BZ B ρ σ b := fun b h => by
  rcases h with h|⟨j, e, h1, h2⟩
  ·exact .inl h
  ·exact .inr ⟨j, e, (own j e h1).2, h2⟩
 have na : ¬ BZ B (ρ.set i (Aa (.lst ds, Ad))) σ a := fun h => by
  rcases h with h|⟨j, e, h1, h2⟩
  ·exact(x.new i _ a hi q).2 h
  ·obtain⟨hj, h1⟩ := own j e h1;exact hj (x.dis i j _ e a hi h1 q h2)
 refine⟨⟨fun j e h => ?_, fun j e h => ?_, by rw[A4];exact x.len⟩, fun b h => x.aok b (sub b h), fun j e b g1 g2 => x.new j e b (own j e g1).2 g2, fun j k e f b g1 g2 g3 g4 => x.dis j k e f b (own j e g1).2 (own k f g2).2 g3 g4, x.same, by rw[A4];exact x.len⟩
 ·by_cases hj : i = j
  ·subst hj;have e1 := FS h;cases e1;exact⟨_, q, a, xs, rfl, .inl na, SqL.of hh, Reps.sub sub _ rr⟩
  ·rw[Ce hj]at h;obtain⟨w', q', rw'⟩ := x.good.sh j e h;exact⟨w', q', Rep.sub sub _ rw'⟩
 ·obtain⟨hj, h'⟩ := own j e h;obtain⟨b, ys, es, q', z, hb, hh', rr'⟩ := x.good.ow j e h';exact⟨b, ys, es, q', z, .inr ⟨j, e, h, q'⟩, hh', Reps.sub sub _ rr'⟩
end
section
variable{X : Cx}{CL : ClA}{W : XW}{pos : AN}{e : Ao}{fe : Rho -> R D}{fr : An}
theorem BX.exC{f:D -> O}{Q:VK}(x : Sx X.K CL Fz B ρ σ H)(h : BX X.K CL Fz B W (O.of ρ r f) D')(k : ∀ d v H', r = .ok d -> Ay H H' -> Dl X.K CL fr H A H' v d -> Sx X.K CL Fz B ρ σ H' -> BX X.K CL Fz B W (f d) D' -> Q v H') : A5 (Dl X.K CL fr H A) W H r Q := by
 cases r with
 |ok d => exact fun v H' s r => k d v H' rfl s r (x.grow s) h
 |exn y => exact fun H' s => h H' fun b o z => s _ _ (x.same b o z)
 |bad => exact h
noncomputable def SAs(X : Cx)(CL : ClA)(W : XW)(fr : An)(i : Ag)(st : Bq)(f : Rho -> R D) : Prop := ∀ A, PS X st (J6 (fun σ H Q => AOk H A /\ ∃ ρ, Good X.K CL A ρ σ H /\ A5 (Dl X.K CL fr H A) W H (f ρ) Q) (DW i))
theorem SC.sas{n:Aj}(hN : X.N.Nodup)(hi : X.N[i]? = Aa n)(hx : Loc X.env.scope n)(he : SC X CL W fr e fe)(hs : Dx e (Aa (.Name n pos')) pos.line X.env = pure Ad)(hf : X.fn n = Ac \/ X.env.scope.names.lookup n = Aa .local) : SAs X CL W fr i (.Assign [.Name n pos'] e pos) fe:=
 fun A => XV hN hi hx (he A) hs hf
theorem UC{n:Aj}{fe:Rho -> R D}{g:TG}(hc : X.calm = Ac)(B : BlockOk X scope N' ts)(hi : SI X CL W tg iter fi)(hGG : GG X.K CL ts as g)(hg : ∀ cl C s H fp, PG (cxC X scope cl C N' s H fp) tg g)(ht : ∀ cl C s H fp, STs (cxC X scope cl C N' s H fp) CL ifs fc)(he : ∀ cl C s H fp, SE (cxC X scope cl C N' s H fp) CL W0 elt fe)(hs : ∀ x, Ch iter X.env x = pure x)(hN : X.N.Nodup)(hni : X.N[i]? = Aa n)(hx : X.env.scope.names.lookup n = Aa .local)(hsw : Dx (.ListComp elt [⟨tg, iter, ifs, 0⟩] scope pos) (Aa (.Name n pos')) pos2.line X.env = pure Ac):SAs X CL W Ac i (.Assign [.Name n pos'] (.ListComp elt [⟨tg,iter,ifs,0⟩] scope pos) pos2) (fun ρ =>(fi ρ).bind fun xs =>(noX (Bh (fun x =>(as x ρ).bind fc) (fun x =>(as x ρ).bind fe) xs)).bind fun ys =>.ok (.lst ys)) := fun A pI s σ H Dn I ⟨hA, ρ, gd, p⟩=>
 VI hc B (hi A) hg (fun cl C s H fp => ht cl C s H fp A) (fun cl C s H fp => he cl C s H fp A) hs hN hni hx hsw pI s σ H Dn I ⟨hA, ρ, gd, Ni hGG hA gd p⟩
theorem O5{st : Bq}(h : SAs X CL W fr i st fe) : SS X CL W st (fun ρ => O.of ρ (fe ρ) fun d => .next (ρ.set i (Aa (d, Ad)))) := fun Fz B pI s σ H D I ⟨ρ, x, p⟩=>
 h (BZ B ρ σ) pI s σ H D I ⟨x.aok, ρ, x.good, BX.exC x p fun d v H' _ s r x' q => q _ H' (x'.set i r.1)⟩
theorem V4{st : Bq}(h : SAs X CL W Ac i st fe) : SS X CL W st (fun ρ => O.of ρ (fe ρ) fun d => setF ρ i d) := fun Fz B pI s σ H D I ⟨ρ, x, p⟩=>
 h (BZ B ρ σ) pI s σ H D I ⟨x.aok, ρ, x.good, BX.exC x p fun d v H' _ s r x' q => by
  cases d with
  |lst ds=>
   obtain⟨a, xs, rfl, h0, h1, rs⟩ := r.2 rfl ds rfl;exact q _ H' (x.setF s h0 h1 rs)
  |dic ds => exact r.1.elim
  | _ => exact q.elim⟩
theorem V1(he : SC X CL W Ac e fe) : SS X CL W (.Return (Aa e) pos) (fun ρ => O.of ρ (fe ρ) fun d => .ret d Ac) := fun Fz B pI s σ H D I ⟨ρ, x, p⟩=>
 LZ (he (BZ B ρ σ)) pI s σ H D I ⟨x.aok, ρ, x.good, BX.exC x p fun d v H' _ s r x' q => q v H' x'.same (Rep.sub (fun a h => .inl h) _ r.1) fun _ ds e => by
  obtain⟨a, xs, h0, h1, h2, h3⟩ := r.2 rfl ds e;refine⟨a, xs, h0, fun o z => ?_, h2, Reps.sub (fun b hb => hb.imp .inl id) _ h3⟩
  have := x.same a o z;rw[h1]at this;cases this⟩
noncomputable def Mx(ρ : Rho)(i : Ag) : An := match ρ[i]? with
  |some (Aa (_, o)) => o
  |_ => Ad
theorem VZ(he : PE X e (FX i)) : SS X CL W (.Return (Aa e) pos) (fun ρ => O.of ρ (Eb ρ i) fun d => .ret d (Mx ρ i)) := fun Fz B pI s σ H D I ⟨ρ, x, p⟩=>
 LZ he pI s σ H D I (by
  dsimp only at p;cases e : Eb ρ i with
  |bad => rw[e]at p;exact p.elim
  |exn z => exact(NR e).elim
  |ok d=>
   rw[e]at p;obtain⟨o, e⟩ := N7 e;have eo : Mx ρ i = o := by unfold Mx;rw[e]
   rw[O.of_ok, eo]at p;cases o with
   |false=>
    obtain⟨v, q, r⟩ := x.good.sh i d e;exact⟨v, q, p v H x.same (Rep.sub (fun a h => .inl h) _ r) fun z => nomatch z⟩
   |true=>
    obtain⟨a, xs, ds, q, rfl, ha, hh, r⟩ := x.good.ow i d e;obtain⟨n1, n2⟩ := x.new i _ a e q;refine⟨_, q, p _ H x.same ⟨a, xs, rfl, .inl n2, SqL.of hh, Reps.sub (fun a h => .inl h) _ r⟩ fun _ ds' e' => ?_⟩
    cases e';exact⟨a, xs, rfl, n1, hh, Reps.sub (fun b hb => hb.elim .inl fun z => z ▸ ha) _ r⟩)
theorem Lx{ds : Ab D}(h : Cp ρ i = .ok ds) : ρ[i]? = Aa (Aa (.lst ds, Ac)) := by
 unfold Cp at h;split at h
 ·rename_i e;cases h;exact e
 ·cases h
theorem Li(h : Cp ρ i = .exn x) : A6 := by
 unfold Cp at h;split at h <;> cases h
variable{o : Ao}{i : Ag}{apos cpos : AN}
theorem WZ(ho : PE X o (FX i))(he : SE X CL W e fe)(hbase : attributeBase o "append" X.env (eval o X.env) = eval o X.env)(hfew : ((Cn cpos (Ax [e] X.env)).all (fun x => !x.1)&&(backToKw cpos (keywordEach [] X.env)).all (fun x => x.1.isSome)&&decide ([e].length+([] : Ab FB).length+(if ([] : Ab FB).isEmpty then 0 else 1)<30)) = Ac)(hline : (apos.endLine==cpos.line) = Ac)(hs : Ax [e] X.env = [(Ad, eval e X.env)])(hsw : Dx (.Call (.Attribute o "append" apos) [e] [] cpos) Af pos.line X.env = pure Ad):
  SS X CL W (.Expr (.Call (.Attribute o "append" apos) [e] [] cpos) pos) (fun ρ => O.of ρ (Cp ρ i) fun xs => O.of ρ (fe ρ) fun d => if Cs (xs.length+1) = Ac then .next (ρ.set i (Aa (.lst (xs++[d]), Ac))) else .bad) := fun Fz B pI s σ H D I ⟨ρ, x, p⟩ => by
 refine OG (ZY PySem.F.plainAttrs_list PySem.F.slot_list_append PySem.F.type_list_append TM ho (E2 (he (BZ B ρ σ)) GA hs) hbase hfew hline hs rfl) hsw pI s σ H D I ?_;dsimp only at p;cases e1 : Cp ρ i with
 |bad => rw[e1]at p;exact p.elim
 |exn z => exact(Li e1).elim
 |ok ds=>
  rw[e1, O.of_ok]at p;have hi := Lx e1;obtain⟨a, xs, ds', q, e2, ha, hh, r⟩ := x.good.ow i _ hi;cases e2;refine⟨_, q, .inl ⟨rfl, xs, SqL.of hh⟩, x.aok, ρ, x.good, BX.ex x p fun d v H' _ s rv x' q' => ?_⟩
  split at q'
  ·rename_i hz;refine⟨a, xs, v, rfl, rfl, s _ _ hh, ?_, q' _ _ (x'.upd hi q ((r.same s).append ⟨rv, trivial⟩))⟩;have := Hg hz;rw[r.length];omega
  ·exact q'.elim
theorem WY{k:Ao}{fk:Rho -> R Ov.D}{spos:AN}(ho : PE X o (FX i))(hk : ST X CL W k fk)(he : SE X CL W e fe)(ha : ∀ v, assign (.Subscript o k spos) X.env v = (do
      let ov <-holding [v] (eval o X.env)
      let iv <-holding [v, ov] (eval k X.env)
      FD spos
      holding [v, ov, iv] (G4 ov iv v)
      release [v, ov, iv] []))(hs : El [.Subscript o k spos] e pos.line X.env = pure Ad)(hw : CZ [.Subscript o k spos] e X.env = pure Af)(h1 : (BL [.Subscript o k spos] X.env).map (·.2) = [assign (.Subscript o k spos) X.env]):
    SS X CL W (.Assign [.Subscript o k spos] e pos) (fun ρ => O.of ρ (fe ρ) fun d => O.of ρ (Cp ρ i) fun xs => O.of ρ ((fk ρ).bind Dp) fun j => match plD xs.length j with
      |some n => .next (ρ.set i (Aa (.lst (xs.set n d), Ac)))
      | none => .bad) := fun Fz B pI s σ H D I ⟨ρ, x, p⟩=>
  L0 (he (BZ B ρ σ)) (L6 ho (hk (BZ B ρ σ)) Lg ha) hs hw h1 pI s σ H D I ⟨x.aok, ρ, x.good, BX.ex x p fun d v H' _ s rv x' q' => by
    cases e1 : Cp ρ i with
    |bad => rw[e1]at q';exact q'.elim
    |exn z => exact(Li e1).elim
    |ok ds=>
      rw[e1, O.of_ok]at q';have hi := Lx e1;obtain⟨a, xs, ds', q, e2, ha, hh, r⟩ := x'.good.ow i _ hi;cases e2;refine⟨_, q, x'.aok, ρ, x'.good, ?_⟩;cases e3 : fk ρ with
      |bad => rw[e3]at q';exact q'.elim
      |exn z => rw[e3]at q';exact fun H2 s2 => q' H2 fun b o z => s2 _ _ (x'.same b o z)
      |ok dk=>
        rw[e3]at q';intro y H2 s2 ry;cases dk with
        |int j=>
          have ey := ry.int_of;subst ey;rw[R.bind_ok, UN, O.of_ok]at q';cases e4 : plD ds.length j with
          |none => rw[e4]at q';exact q'.elim
          |some n=>
            rw[e4]at q';refine⟨a, xs, j, n, rfl, rfl, s2 _ _ hh, ?_, q' _ _ ((x'.grow s2).upd hi q (Reps.set (rv.same s2) n (r.same s2)))⟩;rw[r.length];exact e4
        | _ => exact q'.elim⟩
theorem V3{as:Ov.D -> Rho -> R Rho}{g:TG}(hGT : GT X.K CL as g)(hg : PG X tg g)(he : SE X CL W e fe)(hs : El [tg] e pos.line X.env = pure Ad)(hw : CZ [tg] e X.env = pure Af)(h1 : (BL [tg] X.env).map (·.2) = [assign tg X.env])(hax : ∀ d ρ x, as d ρ ≠ .exn x):SS X CL W (.Assign [tg] e pos) (fun ρ =>O.of ρ (fe ρ) fun d =>O.of ρ (as d ρ) fun ρ' =>.next ρ') := fun Fz B pI s σ H D I ⟨ρ, x, p⟩=>
 L0 (he (BZ B ρ σ)) hg hs hw h1 pI s σ H D I ⟨x.aok, ρ, x.good, BX.ex x p fun d v H' _ s rv x' q' => by
  cases ea : as d ρ with
  |bad => rw[ea]at q';exact q'.elim
  |exn z => exact absurd ea (hax _ _ z)
  |ok ρ2=>
   rw[ea, O.of_ok]at q';exact hGT Fz B ρ σ H' v d ρ2 _ x' rv ea fun σ' x3 => q' σ' H' x3⟩
theorem VW{rest : Ab Bq}{f:Rho -> O}(i : Ag)(h : SSs X CL W rest f) : SSs X CL W rest (fun ρ => (match ρ[i]? with
   |some (Aa (d, Ac)) => O.next (ρ.set i (Aa (d, Ad)))
   | _ => O.next ρ).seq f) := fun Fz B => PSs.weak (h Fz B) fun D σ H ⟨ρ, x, p⟩ => by
 dsimp only at p;split at p
 ·rename_i d e;exact⟨_, x.rel e, p⟩
 ·exact⟨ρ, x, p⟩
end
section
variable{prog : AM}{w : AU}{A : A3}{E : Ah -> Ak -> Prop}{s : Ak}
theorem YW{j t:Ai}{x:Ah}(st : s.heap.IsTupleIter j t k)(sq : s.heap.IsTuple t its)(at_ : its[k]? = Aa x)(go : ∀ h2, h2.IsTupleIter j t (k+1) -> D8 j s.heap h2 -> Q x {s with heap := h2}) : AB (model prog w) A (Bm (.ref j)) Q E s := by
 obtain⟨oj, gj, cj, dj⟩ := id st;obtain⟨ot, gt, _, nt, dt⟩ := sq;show AB _ _ (callSpecial? _ _ >>= _) _ _ _;refine Am (CG st.typeIs CW (DH CW st.typeIs RZ ?_ (RW _)));show AB _ _ (field (.ref j) 0 >>= _) _ _ _;refine Am (BU gj dj (x := .ref t) rfl ?_);show AB _ _ (field (.ref j) 1 >>= _) _ _ _;refine Am (BU gj dj (x := .int k 0) rfl ?_);refine Am (CJ gt dt ?_);simp only[Ee, at_];exact Am (SX gj dj (by simp) (AE ⟨x, rfl, AE (go _ ⟨_, Sb _ gj (Obj.isFreed_of_fields (Sd dj _)), (Obj.cls_mapFields ..).trans cj, by rw[Sd dj];simp[Ff]⟩ (R7 ..))⟩))
theorem T9{j t:Ai}(calm : A.handled = Af)(st : s.heap.IsTupleIter j t k)(sq : s.heap.IsTuple t its)(at_ : its[k]? = Af)(up : ∀ h2 e, F5 j s.heap h2 -> (∃ o, h2.get? e = Aa o /\ o.cls = .type "StopIteration") -> E (.ref e) {s with heap := h2}) : AB (model prog w) A (Bm (.ref j)) Q E s := by
 obtain⟨oj, gj, cj, dj⟩ := id st;obtain⟨ot, gt, _, nt, dt⟩ := sq;show AB _ _ (callSpecial? _ _ >>= _) _ _ _;refine Am (CG st.typeIs CW (DH CW st.typeIs RZ ?_ (RW _)));show AB _ _ (field (.ref j) 0 >>= _) _ _ _;refine Am (BU gj dj (x := .ref t) rfl ?_);show AB _ _ (field (.ref j) 1 >>= _) _ _ _;refine Am (BU gj dj (x := .int k 0) rfl ?_);refine Am (CJ gt dt ?_);simp only[Ee, at_];refine Am (HB (Am (SX gj dj (by simp) ?_)))
 refine Am ?_;simp only[newExc, newTuple];refine Am (CD ?_ (by size_fits))
 refine Am (m := SG _ _) (wpAny_of_eq (a := .none) (by first|rfl|(simp only[SG];rfl)) (CD ?_ (by size_fits)))
 simp only[raiseNew];refine Am (wpAny_handled ?_)
 first|rw[show A.in1.handled = Af from calm]|rw[calm]
 exact Am (AE (wpAny_throw (up _ _ (((R7 ..).extBut.push _).push _) ⟨_, AC _ rfl, rfl⟩)))
end
structure Dw (prog : AM) (w : AU) (A : A3) (j : Ai) (fp : Ab Ai) (n : Ag) (P : Ag -> Ah -> Prop) (S : Ag -> AF -> Prop) : Prop where
 frame : ∀ i h h2, S i h -> (∀ c ∈ fp, ∀ o, h.get? c = Aa o -> h2.get? c = Aa o) -> S i h2
 item : ∀ i (s : Ak) (Q : Ah -> Ak -> Prop) (E : Ah -> Ak -> Prop), i<n -> S i s.heap -> (∀ x h2 tk, P i x -> S (i+1) h2 -> D8 j s.heap h2 -> Q x {s with heap := h2, toks := tk}) -> AB (model prog w) A (Bm (.ref j)) Q E s
 done : ∀ i (s : Ak) (Q : Ah -> Ak -> Prop) (E : Ah -> Ak -> Prop), n <= i -> S i s.heap -> (∀ h2 e, F5 j s.heap h2 -> (∃ o, h2.get? e = Aa o /\ o.cls = .type "StopIteration") -> E (.ref e) {s with heap := h2}) -> AB (model prog w) A (Bm (.ref j)) Q E s
noncomputable def Dz(t : An)(h : AF)(j l : Ai)(i : Ag) : Prop := match t with
  |true => h.IsTupleIter j l i
  |false => h.IsListIter j l i
noncomputable def Dr(t : An)(h : AF)(l : Ai)(its : Bf Ah) : Prop := match t with
  |true => h.IsTuple l its
  |false => h.IsList l its
theorem H9{A:A3}(calm : A.handled = Af)(t : An)(j l : Ai)(ne : l ≠ j)(its : Bf Ah) : Dw prog w A j [j, l] its.size (fun i v => its[i]? = Aa v) (fun i h => Dz t h j l i /\ Dr t h l its) := by
 cases t with
 |true => exact⟨fun _ _ _ z k => ⟨z.1.at fun o e => k j (by simp) o e, z.2.at fun o e => k l (by simp) o e⟩, fun i s Q E hi z q => YW z.1 z.2 (x := its[i]) (by simp[hi]) fun h2 z2 sb => q _ h2 s.toks (by simp[hi]) ⟨z2, z.2.extBut sb.extBut ne⟩ sb, fun i s Q E hi z q => T9 calm z.1 z.2 (by simp[hi]) q⟩
 |false => exact⟨fun _ _ _ z k => ⟨z.1.at fun o e => k j (by simp) o e, z.2.at fun o e => k l (by simp) o e⟩, fun i s Q E hi z q => wpAny_nextOf_list_item z.1 z.2 (x := its[i]) (by simp[hi]) fun h2 z2 sb => q _ h2 s.toks (by simp[hi]) ⟨z2, z.2.extBut sb.extBut ne⟩ sb, fun i s Q E hi z q => wpAny_nextOf_list_end calm z.1 z.2 (by simp[hi]) q⟩
theorem nb1{I l c : Ag}(b : l<I)(h : c ∈ [I, l])(j : Ag) : c ≠ I+(j+1) := by
 have h' : c = I \/ c = l := by simpa using h
 omega
theorem nb2{I l c : Ag}(b : l<I)(h : c ∈ [I+1, l]) : c ≠ I /\ c ≠ I+3 /\ c ≠ I+4 := by
 have h' : c = I+1 \/ c = l := by simpa using h
 omega
theorem nij{I i j : Ag}(h : i ≠ j) : I+i ≠ I+j := by omega
theorem ni0{I i : Ag}(h : i ≠ 0) : I+i ≠ I := by omega
section
variable{prog : AM}{w : AU}{A : A3}{E : Ah -> Ak -> Prop}{s : Ak}
theorem Uj{I l1 l2 n1 n2 k : Ag}{a b:Ah}(b1 : l1<I)(b2 : l2<I)(D1 : Dw prog w A I [I, l1] n1 P1 S1)(D2 : Dw prog w A (I+1) [I+1, l2] n2 P2 S2)(hz : EK s.heap (I+4) (I+2) (I+3) .none)(hI : DE s.heap (I+2) (.ref I) (.ref (I+1)))(hO : DE s.heap (I+3) a b)(g1 : S1 k s.heap)(g2 : S2 k s.heap)(k1 : k<n1)(k2 : k<n2)(go : ∀ x y h2 tk, P1 k x -> P2 k y -> EK h2 (I+4) (I+2) (I+3) (Ff s.heap.objs.size) -> DE h2 (I+3) x y -> S1 (k+1) h2 -> S2 (k+1) h2 -> DE h2 s.heap.objs.size x y ->
   (∀ c o, c ∉ [I, I+1, I+3, I+4] -> s.heap.get? c = Aa o -> h2.get? c = Aa o) -> Q (.ref s.heap.objs.size) {s with heap := h2, toks := tk}):AB (model prog w) A (Builtin.«zip.__next__» ⟨[.ref (I+4)],[]⟩) (fun fin s' =>∃ v,fin = .done (.ret v)/\Q v s') E s := by
 refine Am (m := field (.ref (I+4)) 2) (BU hz rfl (x := .bool Ad) rfl ?_);refine Am (m := field (.ref (I+4)) 3) (BU hz rfl (x := .ref (I+2)) rfl (Am (CJ hI rfl ?_)));refine Am (m := Cd (.ref (I+4))) ?_;simp only[Cd];refine Am (BU hz rfl (x := .none) rfl (AE ?_));rw[AH rfl];refine Am (HB (Am (BU hz rfl (x := .ref (I+3)) rfl (Am (CP hz (by simp) fun p1 z1 e1 => Am ?_)))))
 have z1' : EK p1 (I+4) (I+2) (I+3) .ellipsis := z1;simp only[RA, RB, F0, EX];refine Am (Am (Em (Am (m := Bm (.ref I)) (D1.item k _ _ _ k1 (D1.frame _ _ _ g1 fun c hc o q => e1.extBut c o (nb1 b1 hc 3) q) fun x p2 t2 px s2 e2 => AE ?_))))
 have o2 : DE p2 (I+3) a b := e2.extBut _ _ (ni0 (by decide)) (e1.extBut _ _ (nij (by decide)) hO)
 refine Am (CJ o2 rfl (Am (EQ o2 fun p3 o3 e3 => Am (Ha (AE ?_)))))
 have o3' : DE p3 (I+3) x b := o3;have g2' : S2 k p3 := D2.frame _ _ _ g2 fun c hc o q => e3.extBut c o (nb2 b2 hc).2.1 (e2.extBut c o (nb2 b2 hc).1 (e1.extBut c o (nb2 b2 hc).2.2 q))
 refine Am (Am (Em (Am (m := Bm (.ref (I+1))) (D2.item k _ _ _ k2 g2' fun y p4 t4 py s4 e4 => AE ?_))))
 have o4 : DE p4 (I+3) x b := e4.extBut _ _ (nij (by decide)) o3'
 refine Am (CJ o4 rfl (Am (EQ o4 fun p5 o5 e5 => Am (Ha (AE (AE ?_))))))
 have o5' : DE p5 (I+3) x y := o5;have sz : p5.objs.size = s.heap.objs.size := by rw[e5.1, e4.1, e3.1, e2.1, e1.1]
 have z5 : EK p5 (I+4) (I+2) (I+3) .ellipsis := e5.extBut _ _ (nij (by decide)) (e4.extBut _ _ (nij (by decide)) (e3.extBut _ _ (nij (by decide)) (e2.extBut _ _ (ni0 (by decide)) z1')))
 refine Am (CJ o5' rfl (Am (wpAny_newTuple ?_)));refine Am (m := RP (.ref (I+4)) (.ref p5.objs.size)) ?_;simp only[RP];have z6 : EK (p5.push { cls := .type "tuple", data := .seq #[x, y] }) (I+4) (I+2) (I+3) .ellipsis := Ar _ z5;refine Am (CP z6 (by simp) fun p7 z7 e7 => ?_)
 have z7' : EK p7 (I+4) (I+2) (I+3) (Ff p5.objs.size) := z7;refine CP z7' (by simp) fun p8 z8 e8 => AE ⟨_, rfl, ?_⟩
 have z8' : EK p8 (I+4) (I+2) (I+3) (Ff p5.objs.size) := z8;have lt5 : I+4<p5.objs.size := Aw z5;have up : ∀ c o, c ≠ I+4 -> p5.get? c = Aa o -> p8.get? c = Aa o := fun c o nc q => e8.extBut _ _ nc (e7.extBut _ _ nc (Ar _ q))
 have t8 : DE p8 p5.objs.size x y := e8.extBut _ _ (D7 lt5) (e7.extBut _ _ (D7 lt5) (AC _ rfl));have a1 : S1 (k+1) p8 := D1.frame _ _ _ s2 fun c hc o q => up c o (nb1 b1 hc 3) (e5.extBut c o (nb1 b1 hc 2) (e4.extBut c o (nb1 b1 hc 0) (e3.extBut c o (nb1 b1 hc 2) q)))
 have a2 : S2 (k+1) p8 := D2.frame _ _ _ s4 fun c hc o q => up c o (nb2 b2 hc).2.2 (e5.extBut c o (nb2 b2 hc).2.1 q)
 have kp : ∀ c o, c ∉ [I, I+1, I+3, I+4] -> s.heap.get? c = Aa o -> p8.get? c = Aa o := fun c o nc q => by
  simp only[At, AW, BR, C4]at nc;exact up c o nc.2.2.2 (e5.extBut c o nc.2.2.1 (e4.extBut c o nc.2.1 (e3.extBut c o nc.2.2.1 (e2.extBut c o nc.1 (e1.extBut c o nc.2.2.2 q)))))
 have q := go x y p8 t4 px py (by rw[<-sz];exact z8') (up _ _ (nij (by decide)) o5') a1 a2 (by rw[<-sz];exact t8) kp
 rw[<-sz]at q;exact q
theorem UP{I l1 l2 n1 n2 k : Ag}{a b:Ah}{Q:Fin -> Ak -> Prop}(b1 : l1<I)(b2 : l2<I)(D1 : Dw prog w A I [I, l1] n1 P1 S1)(D2 : Dw prog w A (I+1) [I+1, l2] n2 P2 S2)(hz : EK s.heap (I+4) (I+2) (I+3) .none)(hI : DE s.heap (I+2) (.ref I) (.ref (I+1)))(hO : DE s.heap (I+3) a b)(g1 : S1 k s.heap)(g2 : S2 k s.heap)(hk : n1 <= k \/ (k<n1 /\ n2 <= k))(up : ∀ h2 e tk, (∀ c o, c ∉ [I, I+1, I+3, I+4] -> s.heap.get? c = Aa o -> h2.get? c = Aa o) -> (∃ o, h2.get? e = Aa o /\ o.cls = .type "StopIteration") -> E (.ref e) {s with heap := h2, toks := tk}):AB (model prog w) A (Builtin.«zip.__next__» ⟨[.ref (I+4)],[]⟩) Q E s := by
 refine Am (m := field (.ref (I+4)) 2) (BU hz rfl (x := .bool Ad) rfl ?_);refine Am (m := field (.ref (I+4)) 3) (BU hz rfl (x := .ref (I+2)) rfl (Am (CJ hI rfl ?_)));refine Am (m := Cd (.ref (I+4))) ?_;simp only[Cd];refine Am (BU hz rfl (x := .none) rfl (AE ?_));rw[AH rfl];refine Am (HB (Am (BU hz rfl (x := .ref (I+3)) rfl (Am (CP hz (by simp) fun p1 z1 e1 => Am ?_)))))
 have z1' : EK p1 (I+4) (I+2) (I+3) .ellipsis := z1;simp only[RA, RB, F0, EX];have g1' : S1 k p1 := D1.frame _ _ _ g1 fun c hc o q => e1.extBut c o (nb1 b1 hc 3) q
 rcases hk with k1|⟨k1, k2⟩
 ·refine Am (Am (Em (Am (m := Bm (.ref I)) (D1.done _ _ _ _ k1 g1' fun p2 e e2 he => ?_))))
  obtain⟨oe, hoe, hce⟩ := he;have z2 : EK p2 (I+4) (I+2) (I+3) .ellipsis := e2 _ _ (ni0 (by decide)) z1'
  have ne : e ≠ I+4 := fun x => by subst x;rw[z2]at hoe;cases hoe;simp at hce
  refine CP z2 (by simp) fun p3 _ e3 => up p3 e s.toks (fun c o nc q => ?_) ⟨oe, e3.extBut _ _ ne hoe, hce⟩
  simp only[At, AW, BR, C4]at nc;exact e3.extBut c o nc.2.2.2 (e2 c o nc.1 (e1.extBut c o nc.2.2.2 q))
 ·refine Am (Am (Em (Am (m := Bm (.ref I)) (D1.item k _ _ _ k1 g1' fun x p2 t2 px s2 e2 => AE ?_))))
  have o2 : DE p2 (I+3) a b := e2.extBut _ _ (ni0 (by decide)) (e1.extBut _ _ (nij (by decide)) hO)
  refine Am (CJ o2 rfl (Am (EQ o2 fun p3 o3 e3 => Am (Ha (AE ?_)))))
  have g2' : S2 k p3 := D2.frame _ _ _ g2 fun c hc o q => e3.extBut c o (nb2 b2 hc).2.1 (e2.extBut c o (nb2 b2 hc).1 (e1.extBut c o (nb2 b2 hc).2.2 q))
  refine Am (Am (Em (Am (m := Bm (.ref (I+1))) (D2.done _ _ _ _ k2 g2' fun p4 e e4 he => ?_))))
  obtain⟨oe, hoe, hce⟩ := he;have z4 : EK p4 (I+4) (I+2) (I+3) .ellipsis := e4 _ _ (nij (by decide)) (e3.extBut _ _ (nij (by decide)) (e2.extBut _ _ (ni0 (by decide)) z1'))
  have ne : e ≠ I+4 := fun x => by subst x;rw[z4]at hoe;cases hoe;simp at hce
  refine CP z4 (by simp) fun p5 _ e5 => up p5 e t2 (fun c o nc q => ?_) ⟨oe, e5.extBut _ _ ne hoe, hce⟩
  simp only[At, AW, BR, C4]at nc;exact e5.extBut c o nc.2.2.2 (e4 c o nc.2.1 (e3.extBut c o nc.2.2.1 (e2.extBut c o nc.1 (e1.extBut c o nc.2.2.2 q))))
end
noncomputable def SqX(t : An)(K : Fg)(H : Hp)(a : Ai)(xs : Ab V) : Prop := match t with
  |true => SqT K H a xs
  |false => SqL K H a xs
theorem Gy(I : Inv X pI σ H s)(h : SqX t X.K H a xs) : ∃ its : Ab Ah, AZ xs its /\ Dr t s.heap a its.toArray /\ xs.length <= sizeLine := by
 cases t with
 |true=>
  obtain⟨its, rv, p, z⟩ := I.tuple h;exact⟨its, rv, p, z⟩
 |false=>
  obtain⟨its, rv, p, z⟩ := I.list h;exact⟨its, rv, p.isList, z⟩
theorem KJ(I : Inv X pI σ H s)(h : SqX t X.K H a xs)(h2 : SqX t X.K H a ys) : xs = ys := by
 cases t with
 |true => exact I.tuple_inj h h2
 |false => exact I.list_inj h h2
noncomputable def Itz(K : Fg)(t1 t2 : An)(a b : Ai) : It:=
  ⟨fun i H => ∃ xs ys x y, SqX t1 K H a xs /\ SqX t2 K H b ys /\ xs[i]? = Aa x /\ ys[i]? = Aa y,
   fun i H v H' => ∃ p x y, H p = Af /\ v = .ref p /\ (∀ xs, SqX t1 K H a xs -> xs[i]? = Aa x) /\ (∀ ys, SqX t2 K H b ys -> ys[i]? = Aa y) /\ H' = upd H p (.tup [x, y]),
   fun i H => ∃ xs ys, SqX t1 K H a xs /\ SqX t2 K H b ys /\ (xs.length <= i \/ (i<xs.length /\ ys.length <= i))⟩
theorem Inv.turnedL{t':Ag}(ch : Ab Ai)(I : Inv X pI σ H s)(k : ∀ b o, b ∉ ch -> s.heap.get? b = Aa o -> h'.get? b = Aa o)(hf : ∀ b ∈ ch, E9 X pI H b) : Inv X pI σ H {s with heap := h', toks := t'} := by
 have nit : ∀ b u, H b = Aa u -> b ∉ ch := fun b u e z => by rw[(hf b z).1]at e;cases e
 refine I.step (g' := s.gens) (d' := s.drawn) (ch := ch) (fun b hb => ⟨(hf b hb).2.2.2.1, (hf b hb).2.1, (hf b hb).2.2.2.2.1, (hf b hb).2.2.2.2.2⟩) (fun b o _ _ hc e _ => k b o hc e) (fun b o _ _ hc e _ => ⟨o.slots, k b o hc e⟩) (fun _ _ _ _ n => n)
  (fun b o hc e => ⟨o, k b o hc e⟩) (fun _ _ e => e) (fun _ _ _ e => e) (fun b ps e => ⟨#[], by rw[e];simp⟩) (fun m ⟨o, es, ep, ho, r⟩ => ⟨o, es, ep, k _ o (fun z => (hf _ z).2.1 rfl) ho, r⟩) (fun b u e => (I.hok b u e).stay (fun c v hc q => k c v ?_ q) (fun _ q => q) fun _ _ q => q) I.bare
 rcases hc with z|z
 ·rw[z];exact nit b u e
 ·exact nit c _ z
noncomputable def zTn(t1 t2 : An)(I l1 l2 : Ag)(i : Ag)(h : AF) : Prop := EK h (I+4) (I+2) (I+3) .none /\ DE h (I+2) (.ref I) (.ref (I+1)) /\ (∃ a b, DE h (I+3) a b) /\ Dz t1 h I l1 i /\ Dz t2 h (I+1) l2 i
noncomputable def zFp(I : Ag) : Ab Ai := [I, I+1, I+2, I+3, I+4]
theorem Dz.obj{j:Ai}(z : Dz t h j l i) : ∃ o, h.get? j = Aa o /\ ∀ v, o.data ≠ .cell v := by
 cases t with
 |true => obtain⟨o, e, c, d⟩ := z;exact⟨o, e, fun v z => by rw[d]at z;cases z⟩
 |false => obtain⟨o, e, c, d⟩ := z;exact⟨o, e, fun v z => by rw[d]at z;cases z⟩
theorem Dz.at'{j:Ai}(z : Dz t h j l i)(k : ∀ o, h.get? j = Aa o -> h2.get? j = Aa o) : Dz t h2 j l i := by
 cases t with
 |true => exact PySem.Heap.IsTupleIter.at z k
 |false => exact PySem.Heap.IsListIter.at z k
theorem Up(t1 t2 : An)(I l1 l2 : Ag)(b1 : l1<I)(b2 : l2<I) : Turn P w K (.Tuple es n pos) (Itz K t1 t2 l1 l2) (zFp I) (I+4) (zTn t1 t2 I l1 l2) where
 mem := by simp[zFp]
 obj := fun i h ⟨z1, z2, ⟨a, b, z3⟩, z4, z5⟩ c hc => by
  simp only[zFp, At, AW, BR]at hc;rcases hc with rfl|rfl|rfl|rfl|rfl
  ·exact z4.obj
  ·exact z5.obj
  ·exact⟨_, z2, fun v z => by cases z⟩
  ·exact⟨_, z3, fun v z => by cases z⟩
  ·exact⟨_, z1, fun v z => by cases z⟩
 keep := fun i h h2 ⟨z1, z2, ⟨a, b, z3⟩, z4, z5⟩ k => ⟨k _ (by simp[zFp]) _ z1, k _ (by simp[zFp]) _ z2, ⟨a, b, k _ (by simp[zFp]) _ z3⟩, z4.at' fun o e => k _ (by simp[zFp]) o e, z5.at' fun o e => k _ (by simp[zFp]) o e⟩
 item := by
  intro X hP hw hK hc i pI s σ H E Iv hf ⟨z1, z2, ⟨a, b, z3⟩, z4, z5⟩ ⟨xs, ys, x, y, q1, q2, hx, hy⟩;subst hP hw hK;obtain⟨us, rx, sx, _⟩ := Gy Iv q1;obtain⟨vs, ry, sy, _⟩ := Gy Iv q2;obtain⟨u, hu, ru⟩ := rx.get hx;obtain⟨v, hv, rv⟩ := ry.get hy;have hT : s.TypeIs (.ref (I+4)) "zip" := ⟨_, z1, rfl⟩;have calm : X.A.in1.handled = Af := Iv.ok.hd hc;show AB _ _ (Go _) _ _ _;simp only[Go];refine Am (wpAny_attempt (CG hT EJ (DH EJ hT R0 (Uj (k := i) b1 b2 (H9 calm t1 I l1 (A2 b1) us.toArray) (H9 calm t2 (I+1) l2 (A2 (CC b2)) vs.toArray) z1 z2 z3 ⟨z4, sx⟩ ⟨z5, sy⟩
   (by have := (AK.mp hu).1;simpa using this) (by have := (AK.mp hv).1;simpa using this) fun x' y' h2 tk px py c1 c2 c3 c4 c5 kp => AE ?_) (RX _))))
  have ex : x' = u := by
   have px' : us[i]? = Aa x' := by simpa using px
   rw[hu]at px';exact(Bl px').symm
  have ey : y' = v := by
   have py' : vs[i]? = Aa y' := by simpa using py
   rw[hv]at py';exact(Bl py').symm
  subst ex ey;refine⟨_, rfl, wpAny_letOwnedTupleGo_zip c1 fun h3 d1 sb => ?_⟩
  have lt4 : I+4<s.heap.objs.size := Aw z1;have kp3 : ∀ c o, c ∉ zFp I -> s.heap.get? c = Aa o -> h3.get? c = Aa o := fun c o nc q => by
   simp only[zFp, At, AW, BR, C4]at nc;exact sb.extBut c o nc.2.2.2.2 (kp c o (by simp only[At, AW, BR, C4];exact⟨nc.1, nc.2.1, nc.2.2.2.1, nc.2.2.2.2⟩) q)
  have nT : ∀ c ∈ zFp I, c ≠ s.heap.objs.size := fun c hc z => by
   have : c <= I+4 := by
    simp only[zFp, At, AW, BR]at hc;rcases hc with z|z|z|z|z <;> rw[z] <;> simp
   exact absurd (z ▸ Fc this lt4) (Be _)
  have I1 : Inv X pI σ (upd H s.heap.objs.size (.tup [x, y])) { s with heap := s.heap.push { cls := .type "tuple", data := .seq #[x', y'] }, toks := s.toks }:=
   Iv.laid (fun _ _ q => Ar _ q) (AQ _) ⟨(by decide : 2 <= sizeLine), [x', y'], .cons ru (.cons rv .nil), ⟨_, AC _ rfl, rfl, _, rfl⟩⟩
  have hf' : ∀ b ∈ zFp I, E9 X pI (upd H s.heap.objs.size (.tup [x, y])) b := fun b hb => ⟨by rw[Cf (nT b hb)];exact(hf b hb).1, (hf b hb).2⟩
  have I2 : Inv X pI σ (upd H s.heap.objs.size (.tup [x, y])) {s with heap := h3, toks := tk} := Inv.turnedL (s := { s with heap := s.heap.push { cls := .type "tuple", data := .seq #[x', y'] }, toks := s.toks }) (zFp I) I1 (fun c o nc q => by
   rcases R9 q with ⟨e1, e2⟩|e1
   ·subst e1 e2;exact sb.extBut _ _ (D7 lt4) c5
   ·exact kp3 c o nc e1) hf'
  refine⟨.ref s.heap.objs.size, _, I2, rfl, ⟨s.heap.objs.size, x, y, Iv.fresh, rfl, fun zs hz => by rw[KJ Iv hz q1];exact hx, fun zs hz => by rw[KJ Iv hz q2];exact hy, rfl⟩, ⟨d1, sb.extBut _ _ (nij (by decide)) (kp _ _ (by simp) z2), ⟨_, _, sb.extBut _ _ (nij (by decide)) c2⟩, c3.1.at' fun o q => sb.extBut _ o (EY (ni0 (by decide))) q, c4.1.at' fun o q => sb.extBut _ o (nij (by decide)) q⟩, fun b hb => (hf' b hb).1⟩
 done := by
  intro X hP hw hK hc i pI s σ H E Iv hf ⟨z1, z2, ⟨a, b, z3⟩, z4, z5⟩ ⟨xs, ys, q1, q2, hk⟩;subst hP hw hK;obtain⟨us, rx, sx, _⟩ := Gy Iv q1;obtain⟨vs, ry, sy, _⟩ := Gy Iv q2;have hT : s.TypeIs (.ref (I+4)) "zip" := ⟨_, z1, rfl⟩;have calm : X.A.in1.handled = Af := Iv.ok.hd hc;have e1 := rx.length;have e2 := ry.length;simp only[Go];refine Am (wpAny_attempt (CG hT EJ (DH EJ hT R0 (UP (k := i) b1 b2 (H9 calm t1 I l1 (A2 b1) us.toArray) (H9 calm t2 (I+1) l2 (A2 (CC b2)) vs.toArray) z1 z2 z3 ⟨z4, sx⟩ ⟨z5, sy⟩
   (by simp only[Az];omega) fun h2 e tk kp he => ?_) (RX _))))
  obtain⟨o, ho, hcl⟩ := he;refine Am (wpAny_isInstance (T := "StopIteration") (b := Ac) ⟨o, ho, hcl⟩ isSubtype_stop (AE ⟨rfl, Inv.turnedL [I, I+1, I+3, I+4] Iv (fun c o nc q => kp c o nc q) fun c hc => hf c ?_⟩))
  simp only[At, AW, BR]at hc;simp only[zFp, At, AW, BR];rcases hc with rfl|rfl|rfl|rfl <;> simp
 self := fun _ _ _ _ _ st h => SR st.1 h
section
variable{prog : AM}{w : AU}{A : A3}{E : Ah -> Ak -> Prop}{s : Ak}
noncomputable def itO(t : An)(l : Ai) : AJ := match t with
  |true => { cls := .type "tuple_iterator", data := .fields #[.ref l, .int 0 0] }
  |false => { cls := .type "list_iterator", data := .fields #[.ref l, .int 0 0] }
theorem Jd(h : Dr t s.heap l its)(q : Q (.ref s.heap.objs.size) {s with heap := s.heap.push (itO t l)}) : AB (model prog w) A (IE (.ref l)) Q E s := by
 cases t with
 |true => exact D9 h q
 |false => exact C3 h q
theorem Dr.push(z : Dr t h l its)(o : AJ) : Dr t (h.push o) l its := by
 cases t with
 |true => exact PySem.Heap.IsTuple.at z fun _ e => Ar _ e
 |false => exact PySem.Heap.IsList.at z fun _ e => Ar _ e
theorem LU{j:Ai}(e : h.get? j = Aa (itO t l)) : Dz t h j l 0 := by
 cases t with
 |true => exact⟨_, e, rfl, rfl⟩
 |false => exact⟨_, e, rfl, rfl⟩
theorem Lj(t : An)(l : Ai) : (itO t l).isFreed = Ad := by cases t <;> rfl
noncomputable abbrev zh2(t1 t2 : An)(h : AF)(l1 l2 : Ai) : AF := (h.push (itO t1 l1)).push (itO t2 l2)
noncomputable abbrev zh3(t1 t2 : An)(h : AF)(l1 l2 : Ai) : AF := (zh2 t1 t2 h l1 l2).push { cls := .type "tuple", data := .seq #[.ref h.objs.size, .ref (h.push (itO t1 l1)).objs.size] }
noncomputable abbrev zh4(t1 t2 : An)(h : AF)(l1 l2 : Ai) : AF := (zh3 t1 t2 h l1 l2).push { cls := .type "tuple", data := .seq #[.none, .none] }
noncomputable abbrev zh5(t1 t2 : An)(h : AF)(l1 l2 : Ai) : AF := (zh4 t1 t2 h l1 l2).push { cls := .type "zip", data := .fields #[.none, .bool Ad, .bool Ad, .ref (zh2 t1 t2 h l1 l2).objs.size, .ref (zh3 t1 t2 h l1 l2).objs.size] }
theorem UO(t1 t2 : An)(l1 l2 : Ai)(xs ys : Bf Ah) : Meets (Builtin.«zip.__new__» ⟨[.type "zip", .ref l1, .ref l2], []⟩) (fun _ R s => Dr t1 s.heap l1 xs /\ Dr t2 s.heap l2 ys /\ R (.ok (.ret (.ref (zh4 t1 t2 s.heap l1 l2).objs.size))) {s with heap := zh5 t1 t2 s.heap l1 l2}):=
 .of_wp fun prog w A R s h => by
  obtain⟨hp, g, d, tk, os⟩ := s;obtain⟨a1, a2, q⟩ := h;have hsub := sub_zip;have L1 : Dr t1 (G8 ⟨hp, g, d, tk, os⟩) l1 xs := a1;have L2 : Dr t2 (G8 ⟨hp.push (itO t1 l1), g, d, tk, os⟩) l2 ys := a2.push _
  wp_walk using Jd L1, Jd L2
  exact⟨_, rfl, q⟩
theorem Uk{t1 t2 : An}{l1 l2:Ai}{xs ys:Bf Ah}(a1 : Dr t1 s.heap l1 xs)(a2 : Dr t2 s.heap l2 ys)(q : ∀ h2, zTn t1 t2 s.heap.objs.size l1 l2 0 h2 -> (∀ c o, s.heap.get? c = Aa o -> h2.get? c = Aa o) -> Q (.ref (s.heap.objs.size+4)) {s with heap := h2}) : AB (model prog w) A (call (.type "zip") [.ref l1, .ref l2]) Q E s := by
 refine callType_new F.called_zip (by decide) (F.typeCall_zip_2 _ _) (F.newCall_zip_2 _ _) (fun obj => F.args_object_init_3 obj _ _) F.entry_zip_new (UO t1 t2 l1 l2 xs ys) ⟨a1, a2, ?_⟩
 have s1 : (s.heap.push (itO t1 l1)).objs.size = s.heap.objs.size+1 := By ..;have s2 : (zh2 t1 t2 s.heap l1 l2).objs.size = s.heap.objs.size+2 := by rw[By, s1]
 have s3 : (zh3 t1 t2 s.heap l1 l2).objs.size = s.heap.objs.size+3 := by rw[By, s2]
 have s4 : (zh4 t1 t2 s.heap l1 l2).objs.size = s.heap.objs.size+4 := by rw[By, s3]
 have u5 : ∀ {c o}, (zh4 t1 t2 s.heap l1 l2).get? c = Aa o -> (zh5 t1 t2 s.heap l1 l2).get? c = Aa o := fun e => Ar _ e
 have u4 : ∀ {c o}, (zh3 t1 t2 s.heap l1 l2).get? c = Aa o -> (zh5 t1 t2 s.heap l1 l2).get? c = Aa o := fun e => u5 (Ar _ e)
 have u3 : ∀ {c o}, (zh2 t1 t2 s.heap l1 l2).get? c = Aa o -> (zh5 t1 t2 s.heap l1 l2).get? c = Aa o := fun e => u4 (Ar _ e)
 have u2 : ∀ {c o}, (s.heap.push (itO t1 l1)).get? c = Aa o -> (zh5 t1 t2 s.heap l1 l2).get? c = Aa o := fun e => u3 (Ar _ e)
 have g5 : (zh5 t1 t2 s.heap l1 l2).get? (zh4 t1 t2 s.heap l1 l2).objs.size = Aa _ := AC _ rfl;have g4 : (zh5 t1 t2 s.heap l1 l2).get? (zh3 t1 t2 s.heap l1 l2).objs.size = Aa _ := u5 (AC _ rfl);have g3 : (zh5 t1 t2 s.heap l1 l2).get? (zh2 t1 t2 s.heap l1 l2).objs.size = Aa _ := u4 (AC _ rfl);have g2 : (zh5 t1 t2 s.heap l1 l2).get? (s.heap.push (itO t1 l1)).objs.size = Aa _ := u3 (AC _ (Lj _ _));have g1 : (zh5 t1 t2 s.heap l1 l2).get? s.heap.objs.size = Aa _ := u2 (AC _ (Lj _ _));show _ /\ _;rw[s2, s3, s4]at g5;rw[s3]at g4;rw[s1, s2]at g3;rw[s1]at g2;rw[s4];exact⟨⟨_, g5, rfl⟩, q _ ⟨g5, g3, ⟨_, _, g4⟩, LU g1, LU g2⟩ fun c o e => u2 (Ar _ e)⟩
end
noncomputable def eO(K : Fg)(ta : TA) : TI := fun σ H R => ta σ H fun vs H1 => ∃ t1 t2 a b xs ys, vs = [.ref a, .ref b] /\ SqX t1 K H1 a xs /\ SqX t2 K H1 b ys /\ (xs.length <= sizeLine -> R (Itz K t1 t2 a b) H1)
theorem Dr.lt(z : Dr t h a its) : a<h.objs.size := by
 cases t with
 |true => obtain⟨o, e, _⟩ := z;exact Aw e
 |false => obtain⟨o, e, _⟩ := z;exact Aw e
theorem Xp{a b:Ao}(hg : Gl X "zip")(hm : X.mg "zip" = Af)(ha : PA X [a, b] ta)(hs : Ax [a, b] X.env = [(Ad, eval a X.env), (Ad, eval b X.env)])(hs2 : Ax [b] X.env = [(Ad, eval b X.env)]):
  PI X (.Tuple es n tpos) (.Call (.Name "zip" p) [a, b] [] pos) (eO X.K ta) := by
 intro pI s σ H R I h;refine Hq (GB I hg hm PyProof.Rows.boot_zip (BB (thn (ha pos pI s σ H _ I h) fun us s1 ⟨vs, H1, I1, r1, q1⟩ => ?_) (by rw[hs, hs2]) (by rw[hs2];rfl)))
 obtain⟨t1, t2, c, d, xs, ys, e, sx, sy, q⟩ := q1;subst e;cases r1 with
 |cons r rr=>
  cases rr with
  |cons r' rr=>
   cases rr;cases r;cases r';obtain⟨us, ru, iu, zu⟩ := Gy I1 sx;obtain⟨vs, rv, iv, _⟩ := Gy I1 sy;refine Uk iu iv fun h2 z kp => SR z.1 ?_
   refine⟨s1.heap.objs.size+4, zFp s1.heap.objs.size, _, _, H1, rfl, I1.kept (t' := s1.toks) kp, Up t1 t2 s1.heap.objs.size c d iu.lt iv.lt, z, fun b hb => ?_, q zu⟩
   have hb' : s1.heap.objs.size <= b := by
    simp only[zFp, At, AW, BR]at hb;rcases hb with z|z|z|z|z <;> rw[z] <;> simp
   exact I1.fpOk hb' (I1.hok.fresh hb')
theorem Mf{ds : Ab D}(r : Rep K CL H A v d)(e : B5 d = .ok ds) : ∃ t a xs, v = .ref a /\ (∀ H2, Kp A H H2 -> SqX t K H2 a xs) /\ Reps K CL H A xs ds := by
 cases d with
 |lst es=>
  cases e;obtain⟨q, xs, rfl, na, sq, r⟩ := r;exact⟨Ad, q, xs, rfl, fun H2 k => JV k na sq, r⟩
 |tup es=>
  cases e;obtain⟨q, xs, rfl, na, sq, r⟩ := r;exact⟨Ac, q, xs, rfl, fun H2 k => JU k na sq, r⟩
 |_ => cases e
theorem Le : ∀(xs ys : Ab D), (CS xs ys).length = min xs.length ys.length
 |[], _ => by simp[CS]
 |_::_, [] => by simp[CS]
 |x::xs, y::ys => by
  rw[CS, BA, Le xs ys];simp only[BA];omega
theorem NP : ∀(xs ys : Ab D)(i : Ag)(d : D), (CS xs ys)[i]? = Aa d -> ∃ x y, xs[i]? = Aa x /\ ys[i]? = Aa y /\ d = .tup [x, y]
 |[], _, i, d, h => by simp[CS]at h
 |_::_, [], i, d, h => by simp[CS]at h
 |x::xs, y::ys, 0, d, h => by
  rw[CS]at h;simp only[Rj, BO]at h;exact⟨x, y, rfl, rfl, h.symm⟩
 |x::xs, y::ys, i+1, d, h => by
  rw[CS]at h;simp only[Ri]at h ⊢;exact NP xs ys i d h
theorem Ul{t1 t2 : An}{ds es : Ab D}(s1 : ∀ H2, Kp A H1 H2 -> SqX t1 K H2 a xs)(s2 : ∀ H2, Kp A H1 H2 -> SqX t2 K H2 b ys)(r1 : Reps K CL H1 A xs ds)(r2 : Reps K CL H1 A ys es) :GH K CL A (CS ds es) (Itz K t1 t2 a b) H1 := fun H k i => by
 refine⟨fun hi => ⟨xs, ys, s1 H k, s2 H k, ?_⟩, fun d hd => ?_⟩
 ·rw[Le]at hi;rw[r1.length, r2.length];omega
 ·obtain⟨x, y, hx, hy, rfl⟩ := NP _ _ _ _ hd;obtain⟨u, hu, ru⟩ := r1.get hx;obtain⟨v, hv, rv⟩ := r2.get hy;refine⟨⟨xs, ys, u, v, s1 H k, s2 H k, hu, hv⟩, ?_⟩;rintro w' H' ⟨p, x', y', hp, rfl, c1, c2, rfl⟩;have ex : x' = u := Bl ((c1 xs (s1 H k)).symm.trans hu);have ey : y' = v := Bl ((c2 ys (s2 H k)).symm.trans hv);subst ex ey;have sm := Er hp (.tup [x', y']);exact⟨sm, fun B hB aB => HN aB hp ⟨II ru k hB, II rv k hB, trivial⟩⟩
section
variable{X : Cx}{CL : ClA}{W : XW}{pos p : AN}{a b : Ao}{fa fb : Rho -> R D}
theorem X2(ha : SE X CL W a fa)(hb : SE X CL W b fb)(hg : Gl X "zip")(hm : X.mg "zip" = Af)(hs : Ax [a, b] X.env = [(Ad, eval a X.env), (Ad, eval b X.env)])(hs2 : Ax [b] X.env = [(Ad, eval b X.env)]):
  SI X CL W (.Tuple es n tpos) (.Call (.Name "zip" p) [a, b] [] pos) (fun ρ => (fa ρ).bind fun x => (fb ρ).bind fun y => (B5 x).bind fun xs => (B5 y).bind fun ys => .ok (CS xs ys)):=
 fun A => PI.weak (Xp hg hm (E2 (ha A) (E2 (hb A) GA hs2) (by rw[hs, hs2])) hs hs2) fun σ H R ⟨hA, ρ, g, q⟩ => ⟨hA, ρ, g, DK.ex q fun d v H1 _ s1 r1 p1 => ⟨hA.same s1, ρ, g.same s1, DK.ex p1 fun d2 v2 H2 _ s2 r2 p2 => by
  cases e1 : B5 d with
  |bad => rw[e1]at p2;exact p2.elim
  |exn z => exact absurd e1 (by cases d <;> simp[B5])
  |ok ds=>
   cases e2 : B5 d2 with
   |bad => rw[e1, e2]at p2;exact p2.elim
   |exn z => exact absurd e2 (by cases d2 <;> simp[B5])
   |ok es=>
    rw[e1, e2]at p2;obtain⟨t1, c1, xs, rfl, k1, rs1⟩ := Mf (r1.same s2) e1;obtain⟨t2, c2, ys, rfl, k2, rs2⟩ := Mf r2 e2;refine⟨t1, t2, c1, c2, xs, ys, rfl, k1 H2 (Kp.of (Ay.refl H2)), k2 H2 (Kp.of (Ay.refl H2)), fun hz => p2 _ H2 (Ay.refl H2) (Ul k1 k2 rs1 rs2) ?_⟩
    rw[Le, <-rs1.length];omega⟩⟩
end
theorem Dz.live{l:Ag}(z : Dz t h j l i) : ∃ o, h.get? j = Aa o /\ ∀ v, o.data ≠ .cell v := by
 cases t with
 |true => obtain⟨o, e, c, d⟩ := z;exact⟨o, e, fun v z => by rw[d]at z;cases z⟩
 |false => obtain⟨o, e, c, d⟩ := z;exact⟨o, e, fun v z => by rw[d]at z;cases z⟩
theorem Dz.keep{l:Ag}(z : Dz t h j l i)(k : ∀ o, h.get? j = Aa o -> h2.get? j = Aa o) : Dz t h2 j l i := by
 cases t with
 |true => exact PySem.Heap.IsTupleIter.at z k
 |false => exact PySem.Heap.IsListIter.at z k
theorem Yp{A:A3}(calm : A.handled = Af)(t : An)(j l : Ai)(ne : l ≠ j)(its : Bf Ah) : Draws prog w A j [j, l] its.size (fun i v => its[i]? = Aa v) (fun i h => Dz t h j l i /\ Dr t h l its):=
 have d := H9 (prog := prog) (w := w) calm t j l ne its
 ⟨fun i h z => let ⟨o, e, _⟩ := z.1.live;⟨o, e⟩, d.frame, d.item, fun s Q E h q => d.done _ s Q E (AQ _) h q⟩
theorem Wl{A:A3}(calm : A.handled = Af)(t : An)(j l : Ai)(ne : l ≠ j)(its : Bf Ah)(i : Ag)(hi : its.size <= i) : Draws prog w A j [j, l] i (fun _ _ => A6) (fun k h => k = i /\ Dz t h j l i /\ Dr t h l its):=
 have d := H9 (prog := prog) (w := w) calm t j l ne its
 ⟨fun _ h z => let ⟨o, e, _⟩ := z.2.1.live;⟨o, e⟩, fun k h h' z q => ⟨z.1, d.frame i h h' z.2 q⟩, fun k s Q E lt z => absurd z.1 (A2 lt), fun s Q E h q => d.done i s Q E hi h.2 q⟩
noncomputable def Ite(K : Fg)(t : An)(a : Ai) : It:=
 ⟨fun i H => ∃ xs x, SqX t K H a xs /\ xs[i]? = Aa x, fun i H v H' => ∃ p x, H p = Af /\ v = .ref p /\ (∀ xs, SqX t K H a xs -> xs[i]? = Aa x) /\ H' = upd H p (.tup [.int i, x]), fun i H => ∃ xs, SqX t K H a xs /\ xs.length <= i⟩
noncomputable def eTn(t : An)(I l : Ag)(i : Ag)(h : AF) : Prop := (∃ old, IsEnum h (I+1) I i old) /\ Dz t h I l i
theorem Tr(t : An)(I l : Ag)(b : l<I) : Turn P w K (.Tuple es n pos) (Ite K t l) [I, I+1] (I+1) (eTn t I l) where
 mem := by simp
 obj := fun i h ⟨⟨old, z1⟩, z2⟩ c hc => by
  simp only[At, AW, BR]at hc;rcases hc with rfl|rfl
  ·exact z2.live
  ·exact⟨_, z1, fun v z => by cases z⟩
 keep := fun i h h2 ⟨⟨old, z1⟩, z2⟩ k => ⟨⟨old, k _ (by simp) _ z1⟩, z2.keep fun o e => k _ (by simp) o e⟩
 item := by
  intro X hP hw hK hc i pI s σ H E Iv hf ⟨⟨old, z1⟩, z2⟩ ⟨xs, x, q1, hx⟩;subst hP hw hK;obtain⟨us, rx, px, _⟩ := Gy Iv q1;obtain⟨u, hu, ru⟩ := rx.get hx;have lu : i<us.toArray.size := by
   have := (AK.mp hu).1;simpa using this
  refine wpAny_pyNext_enum_itemD (Yp (A := X.A.in1) (Iv.ok.hd hc) t I l (A2 b) us.toArray) z1 ⟨z2, px⟩ lu (ni0 (by decide)) (by simp only[At, AW, BR, C4];exact⟨ni0 (by decide), D7 (AD b (Nat.le_add_right _ _))⟩) fun u' h2 tk hu' ho it2 hT sz kp => ⟨_, rfl, wpAny_letOwnedTupleGo_enum ho fun h3 d1 sb => ?_⟩
  have eu : u' = u := by
   rw[List.getElem?_toArray, hu]at hu';exact(Bl hu').symm
  subst eu;have lt : I+1<s.heap.objs.size := Aw z1;have kp3 : ∀ c o, c ∉ [I, I+1] -> s.heap.get? c = Aa o -> h3.get? c = Aa o := fun c o nc q => by
   simp only[At, AW, BR, C4]at nc;exact sb.extBut c o nc.2 (kp c o nc.2 nc.1 q)
  have nT : ∀ c ∈ [I, I+1], c ≠ s.heap.objs.size := fun c hc z => by
   have : c <= I+1 := by
    simp only[At, AW, BR]at hc;rcases hc with z|z <;> rw[z] <;> simp
   exact absurd (z ▸ Fc this lt) (Be _)
  have I1 : Inv X pI σ (upd H s.heap.objs.size (.tup [.int i, x])) { s with heap := s.heap.push { cls := .type "tuple", data := .seq #[.int i tk, u'] }, toks := s.toks }:=
   Iv.laid (fun _ _ q => Ar _ q) (AQ _) ⟨(by decide : 2 <= sizeLine), [.int i tk, u'], .cons ⟨_, rfl⟩ (.cons ru .nil), ⟨_, AC _ rfl, rfl, _, rfl⟩⟩
  have hf' : ∀ b ∈ [I, I+1], E9 X pI (upd H s.heap.objs.size (.tup [.int i, x])) b := fun b hb => ⟨by rw[Cf (nT b hb)];exact(hf b hb).1, (hf b hb).2⟩
  have I2 : Inv X pI σ (upd H s.heap.objs.size (.tup [.int i, x])) {s with heap := h3, toks := tk+1} := Inv.turnedL (s := { s with heap := s.heap.push { cls := .type "tuple", data := .seq #[.int i tk, u'] }, toks := s.toks }) [I, I+1] I1 (fun c o nc q => by
   rcases R9 q with ⟨e1, e2⟩|e1
   ·subst e1 e2;exact sb.extBut _ _ (D7 lt) hT
   ·exact kp3 c o nc e1) hf'
  exact⟨.ref s.heap.objs.size, _, I2, rfl, ⟨s.heap.objs.size, x, Iv.fresh, rfl, fun zs hz => by rw[KJ Iv hz q1];exact hx, rfl⟩, ⟨⟨u', by simpa using d1⟩, it2.1.keep fun o q => sb.extBut _ o (EY (ni0 (by decide))) q⟩, fun b hb => (hf' b hb).1⟩
 done := by
  intro X hP hw hK hc i pI s σ H E Iv hf ⟨⟨old, z1⟩, z2⟩ ⟨xs, q1, hk⟩;subst hP hw hK;obtain⟨us, rx, px, _⟩ := Gy Iv q1;have e1 := rx.length;have e2 : us.toArray.size <= i := by rw[Az, <-e1];exact hk
  refine wpAny_pyNext_enum_endD (Wl (A := X.A.in1) (Iv.ok.hd hc) t I l (A2 b) us.toArray i e2) z1 ⟨rfl, z2, px⟩ fun h2 eb => ⟨rfl, Inv.turnedL [I] Iv (t' := s.toks) (fun c o nc q => eb c o (fun z => nc (by simp[z])) q) fun c hc => hf c ?_⟩
  have : c = I := by simpa using hc
  subst this;simp
 self := fun _ _ _ _ _ st h => SQ st.1.choose_spec h
section
variable{prog : AM}{w : AU}{A : A3}{E : Ah -> Ak -> Prop}{s : Ak}
theorem U4(t : An)(l : Ai)(xs : Bf Ah) : Meets (Builtin.«enumerate.__new__» ⟨[.type "enumerate", .ref l], []⟩) (fun _ R s => Dr t s.heap l xs /\
   R (.ok (.ret (.ref (s.heap.push (itO t l)).objs.size))) { s with heap := (s.heap.push (itO t l)).push { cls := .type "enumerate", data := .fields #[.none, .bool Ad, .ref s.heap.objs.size, Ff 0, .none, .none] } }):=
 .of_wp fun prog w A R s h => by
  obtain⟨hp, g, d, tk, os⟩ := s;obtain⟨hl, h⟩ := h;have hsub := sub_enumerate;have hL : Dr t (G8 ⟨hp, g, d, tk, os⟩) l xs := hl
  wp_walk
  refine wpAny_stack_any fun st => AE ?_
  split
  ·rename_i c _ _ _ _ _;cases (c==Sn "enumerate")
   ·wp_walk using Jd hL
    exact⟨_, rfl, h⟩
   ·wp_walk using Jd hL
    exact⟨_, rfl, h⟩
  ·wp_walk using Jd hL
   exact⟨_, rfl, h⟩
theorem TJ{xs:Bf Ah}(hL : Dr t s.heap l xs)(h : ∀ h', IsEnum h' (s.heap.objs.size+1) s.heap.objs.size 0 .none -> Dz t h' s.heap.objs.size l 0 -> (∀ b o, s.heap.get? b = Aa o -> h'.get? b = Aa o) -> Q (.ref (s.heap.objs.size+1)) {s with heap := h'}):
  AB (model prog w) A (call (.type "enumerate") [.ref l]) Q E s := by
 refine callType_new F.called_enumerate (by decide) (F.typeCall_enumerate_1 _) (F.newCall_enumerate_1 _) (fun obj => F.args_object_init_2 obj _) F.entry_enumerate_new (U4 t l xs) ⟨hL, ?_⟩
 have hz : (s.heap.push (itO t l)).objs.size = s.heap.objs.size+1 := By ..;show _ /\ _;rw[hz];have he : IsEnum ((s.heap.push (itO t l)).push { cls := .type "enumerate", data := .fields #[.none, .bool Ad, .ref s.heap.objs.size, Ff 0, .none, .none] }) (s.heap.objs.size+1) s.heap.objs.size 0 .none := by
  have := AC (s.heap.push (itO t l)) (o := { cls := .type "enumerate", data := .fields #[.none, .bool Ad, .ref s.heap.objs.size, Ff 0, .none, .none] }) rfl;rw[hz]at this;exact this
 exact⟨⟨_, he, rfl⟩, h _ he (LU (Ar _ (AC _ (Lj _ _)))) fun b o x => Ar _ (Ar _ x)⟩
end
noncomputable def dR(K : Fg)(ta : TA) : TI := fun σ H R => ta σ H fun vs H1 => ∃ t a xs, vs = [.ref a] /\ SqX t K H1 a xs /\ (xs.length <= sizeLine -> R (Ite K t a) H1)
theorem Ve{a:Ao}(hg : Gl X "enumerate")(hm : X.mg "enumerate" = Af)(ha : PA X [a] ta)(hs : Ax [a] X.env = [(Ad, eval a X.env)]):
  PI X (.Tuple es n tpos) (.Call (.Name "enumerate" p) [a] [] pos) (dR X.K ta) := by
 intro pI s σ H R I h;refine Hq (GB I hg hm PyProof.Rows.boot_enumerate (BB (thn (ha pos pI s σ H _ I h) fun us s1 ⟨vs, H1, I1, r1, q1⟩ => ?_) hs rfl))
 obtain⟨t, c, xs, e, sx, q⟩ := q1;subst e;cases r1 with
 |cons r rr=>
  cases rr;cases r;obtain⟨us, ru, pu, zu⟩ := Gy I1 sx;refine TJ pu fun h2 z1 z2 kp => SQ z1 ?_
  refine⟨s1.heap.objs.size+1, [s1.heap.objs.size, s1.heap.objs.size+1], _, _, H1, rfl, I1.kept (t' := s1.toks) kp, Tr t s1.heap.objs.size c pu.lt, ⟨⟨_, z1⟩, z2⟩, fun b hb => ?_, q zu⟩
  have hb' : s1.heap.objs.size <= b := by
   simp only[At, AW, BR]at hb;rcases hb with z|z <;> rw[z] <;> simp
  exact I1.fpOk hb' (I1.hok.fresh hb')
theorem Lc : ∀(j : Ae)(xs : Ab D), (Fq j xs).length = xs.length
 |_, [] => rfl
 |j, x::xs => by rw[Fq, BA, Lc, BA]
theorem Of : ∀(xs : Ab D)(j : Ae)(i : Ag)(d : D), (Fq j xs)[i]? = Aa d -> ∃ x, xs[i]? = Aa x /\ d = .tup [.int (j+i), x]
 |[], j, i, d, h => by simp[Fq]at h
 |x::xs, j, 0, d, h => by
  rw[Fq]at h;simp only[Rj, BO]at h;exact⟨x, rfl, by rw[<-h];simp⟩
 |x::xs, j, i+1, d, h => by
  rw[Fq]at h;simp only[Ri]at h ⊢;obtain⟨y, h1, h2⟩ := Of xs (j+1) i d h;exact⟨y, h1, by rw[h2];congr 3;omega⟩
theorem Tp{ds : Ab D}(sq : ∀ H2, Kp A H1 H2 -> SqX t K H2 a xs)(r1 : Reps K CL H1 A xs ds) : GH K CL A (Fq 0 ds) (Ite K t a) H1 := fun H k i => by
 have s1 := sq H k;refine⟨fun hi => ⟨xs, s1, ?_⟩, fun d hd => ?_⟩
 ·rw[Lc]at hi;rw[r1.length];exact hi
 ·obtain⟨x, hx, rfl⟩ := Of _ _ _ _ hd;obtain⟨u, hu, ru⟩ := r1.get hx;refine⟨⟨xs, u, s1, hu⟩, ?_⟩;rintro w' H' ⟨p, x', hp, rfl, c1, rfl⟩;have ex : x' = u := Bl ((c1 xs s1).symm.trans hu);subst ex;rw[ED];exact⟨Er hp (.tup [.int i, x']), fun B hB aB => HN aB hp ⟨rfl, II ru k hB, trivial⟩⟩
section
variable{X : Cx}{CL : ClA}{W : XW}{pos p : AN}{a : Ao}{fa : Rho -> R D}
theorem V9(ha : SE X CL W a fa)(hg : Gl X "enumerate")(hm : X.mg "enumerate" = Af)(hs : Ax [a] X.env = [(Ad, eval a X.env)]):
  SI X CL W (.Tuple es n tpos) (.Call (.Name "enumerate" p) [a] [] pos) (fun ρ => (fa ρ).bind fun x => (B5 x).bind fun xs => .ok (Fq 0 xs)):=
 fun A => PI.weak (Ve hg hm (E2 (ha A) GA hs) hs) fun σ H R ⟨hA, ρ, g, q⟩ => ⟨hA, ρ, g, DK.ex q fun d v H1 _ s1 r1 p1 => by
  cases e1 : B5 d with
  |bad => rw[e1]at p1;exact p1.elim
  |exn z => exact absurd e1 (by cases d <;> simp[B5])
  |ok ds=>
   rw[e1]at p1;obtain⟨t, c, xs, rfl, k1, rs⟩ := Mf r1 e1;exact⟨t, c, xs, rfl, k1 H1 (Kp.of (Ay.refl H1)), fun hz => p1 _ H1 (Ay.refl H1) (Tp k1 rs) (by rw[Lc, <-rs.length];exact hz)⟩⟩
end
noncomputable abbrev QT(h : AF)(z TI TO : Ai)(f0 f1 : Ah) : Prop := h.get? z = Aa { cls := .type "zip", dict := Af, data := .fields #[f0, f1, .bool Ad, .ref TI, .ref TO], slots := #[] }
noncomputable abbrev QU(h : AF)(T : Ai)(a b c : Ah) : Prop := h.get? T = Aa { cls := .type "tuple", data := .seq #[a, b, c] }
section
variable{prog : AM}{w : AU}{A : A3}{E : Ah -> Ak -> Prop}{s : Ak}
noncomputable def Z3(t1 t2 t3 : An)(I l1 l2 l3 i : Ag)(h : AF) : Prop := QU h (I+3) (.ref (I+0)) (.ref (I+1)) (.ref (I+2)) /\ Dz t1 h (I+0) l1 i /\ Dz t2 h (I+1) l2 i /\ Dz t3 h (I+2) l3 i /\ (∃ a b c, QU h (I+4) a b c) /\
 (QT h (I+5) (I+3) (I+4) .none (.bool Ad) \/ ∃(T1 : Ag)(f1 : An), QT h (I+5) (I+3) (I+4) (Ff T1) (.bool f1))
end
section
variable{prog : AM}{w : AU}{A : A3}{R : Hu -> Ak -> Prop}
theorem Dr.at'(z : Dr t h l its)(k : ∀ o, h.get? l = Aa o -> h2.get? l = Aa o) : Dr t h2 l its := by
 cases t with
 |true => exact PySem.Heap.IsTuple.at z k
 |false => exact PySem.Heap.IsList.at z k
theorem Z3.at'{t1 t2 t3 : An}{I l1 l2 l3 i : Ag}{h h2 : AF}(z : Z3 t1 t2 t3 I l1 l2 l3 i h)(k : ∀ j, j <= 5 -> ∀ o, h.get? (I+j) = Aa o -> h2.get? (I+j) = Aa o) : Z3 t1 t2 t3 I l1 l2 l3 i h2 := by
 obtain⟨zI, i1, i2, i3, ⟨a, b, c, hO⟩, zz⟩ := z;exact⟨k 3 (by decide) _ zI, i1.at' fun o q => k 0 (by decide) o q, i2.at' fun o q => k 1 (by decide) o q, i3.at' fun o q => k 2 (by decide) o q, ⟨a, b, c, k 4 (by decide) _ hO⟩, zz.imp (k 5 (by decide) _) fun ⟨T1, f1, hz⟩ => ⟨T1, f1, k 5 (by decide) _ hz⟩⟩
end
section
variable{prog : AM}{w : AU}{A : A3}{E : Ah -> Ak -> Prop}{s : Ak}
end
theorem Z3.ty{t1 t2 t3 : An}{I l1 l2 l3 i : Ag}(z : Z3 t1 t2 t3 I l1 l2 l3 i s.heap) : s.TypeIs (.ref (I+5)) "zip" := by
 obtain⟨_, _, _, _, _, hz|⟨_, _, hz⟩⟩ := z
 ·exact⟨_, hz, rfl⟩
 ·exact⟨_, hz, rfl⟩
theorem Z3.lt{t1 t2 t3 : An}{I l1 l2 l3 i : Ag}(z : Z3 t1 t2 t3 I l1 l2 l3 i s.heap) : I+5<s.heap.objs.size := by
 obtain⟨o, h, _⟩ := z.ty;exact Aw h
section
variable{prog : AM}{w : AU}{A : A3}{E : Ah -> Ak -> Prop}{s : Ak}
end
section
variable{X : Cx}{CL : ClA}{W : XW}{pos p pos' p' : AN}{a b c : Ao}{fa fb fc : Rho -> R D}
end
section
variable{X : Cx}{CL : ClA}{W : XW}{pos p tpos : AN}{a b c : Ao}{fa fb fc : Rho -> R D}{x : Aj}
end
section
variable{X : Cx}{CL : ClA}{W : XW}{a : Ao}{fa : Rho -> R D}
end
section
variable{X : Cx}{CL : ClA}{W : XW}
end
noncomputable def HZ(lo : Ae)(n : Ag) : Ab V := (Cc n).map fun(k : Ag) => V.int (lo+(k : Ae))
theorem Ta(lo : Ae)(n : Ag) : (HZ lo n).length = n := by simp[HZ]
theorem Tj(lo : Ae)(n : Ag) : Reps K CL H A (HZ lo n) (Ca lo n) := by
 have key : ∀ L : Ab Ag, Reps K CL H A (L.map fun(k : Ag) => V.int (lo+(k : Ae))) (L.map fun(k : Ag) => D.int (lo+(k : Ae))) := fun L => by
  induction L with
  |nil => exact trivial
  |cons x L ih => exact⟨rfl, ih⟩
 exact key _
theorem TH{acc:Bf Ah}(h : ItemsOf (fun i v => ∃ t, v = .int (lo+i*1) t) acc n) : AZ (HZ lo n) acc.toList := by
 obtain⟨h1, h2⟩ := h;have key : ∀(L : Ab Ah)(m : Ag), (∀(j : Ag)(v : Ah), L[j]? = Aa v -> ∃ t, v = .int (lo+((m+j : Ag) : Ae)) t) -> AZ ((List.range' m L.length).map fun(k : Ag) => V.int (lo+(k : Ae))) L := fun L => by
  induction L with
  |nil => intro m _;exact .nil
  |cons v L ih=>
   intro m h;obtain⟨t, rfl⟩ := h 0 v rfl;refine .cons ⟨t, rfl⟩ (ih (m+1) fun j w hw => ?_)
   obtain⟨u, rfl⟩ := h (j+1) w hw;exact⟨u, by rw[show m+1+j = m+(j+1) by omega]⟩
 have k := key acc.toList 0 fun j v hv => by
  obtain⟨t, rfl⟩ := h2 j v (by rw[<-Array.getElem?_toList];exact hv)
  exact⟨t, by rw[CN, Nat.zero_add]⟩
 rw[DT, h1, <-List.range_eq_range']at k;exact k
section
variable{X : Cx}
noncomputable def eZ(ta : TA) : TE := fun σ H Q => ta σ H fun vs H1 => ∃ i j : Ae, vs = [.int i, .int j] /\ (-(2 ^ 62) <= i /\ i<2 ^ 62 /\ -(2 ^ 62) <= j /\ j<2 ^ 62) /\ (j-i).toNat <= 2 ^ 24 /\ (j-i).toNat <= sizeLine /\ ∀ l, H1 l = Af -> Q (.ref l) (upd H1 l (.lst (HZ i (j-i).toNat)))
theorem YN{a b:Ao}{p':AN}(hc : X.calm = Ac)(hg : Gl X "list")(hm : X.mg "list" = Af)(hg' : Gl X "range")(hm' : X.mg "range" = Af)(ha : PA X [a, b] ta)(hs : Ax [a, b] X.env = [(Ad, eval a X.env), (Ad, eval b X.env)])(hs2 : Ax [b] X.env = [(Ad, eval b X.env)]):
  PE X (.Call (.Name "list" p) [.Call (.Name "range" p') [a, b] [] pos'] [] pos) (eZ ta) := by
 intro pI s σ H Q I h;refine Hq (GB I hg hm Ej (BB ?_ rfl rfl));show AB _ _ (spliced ((Ad, eval (.Call (.Name "range" p') [a, b] [] pos') X.env)::Cn pos (Ax [] X.env))) _ _ s;refine RS ?_;refine Hq (GB I hg' hm' Hs (BB (thn (ha pos' pI s σ H _ I h) fun us s1 ⟨vs, H1, I1, r1, q1⟩ => ?_) (by rw[hs, hs2]) (by rw[hs2];rfl)))
 obtain⟨i, j, e, ⟨b1, b2, b3, b4⟩, hn, hz, q⟩ := q1;subst e;cases r1 with
 |cons r rr=>
  cases rr with
  |cons r' rr=>
   cases rr;obtain⟨t, rfl⟩ := r;obtain⟨t', rfl⟩ := r';refine call_range_2 (RT ?_);refine call_list_range (n := (j-i).toNat) (I1.ok.hd hc) (Sc ..) (small_one b1 b2 b3 b4) (by rw[rangeSize_one];split <;> omega) hn fun h' tk acc c' kp e it => ?_
   have e' := TH it;refine⟨.ref (s1.heap.push { cls := .type "range", data := .fields #[.int i t, .int j t', .int 1 s1.toks] }).objs.size, _, I1.laid (t' := tk) (fun b o e => kp b o (Ar _ e)) ?_ (show ObjOk X.prog X.w _ h' _ (.lst (HZ i (j-i).toNat)) from ⟨by rw[Ta];exact hz, acc.toList, c', e', by rw[Array.toArray_toList];exact e⟩), rfl, q _ (I1.hok.fresh ?_)⟩
   ·rw[By];exact G7 _
   ·rw[By];exact G7 _
noncomputable def Qy(x y : D) : R D := (Dp x).bind fun i => (Dp y).bind fun j => (CK i j).bind fun xs => .ok (.lst xs)
variable{CL : ClA}{W : XW}{pos p pos' p' : AN}{a b : Ao}{fa fb : Rho -> R D}
theorem W2(ha : ST X CL W a fa)(hb : ST X CL W b fb)(hc : X.calm = Ac)(hg : Gl X "list")(hm : X.mg "list" = Af)(hg' : Gl X "range")(hm' : X.mg "range" = Af)(hs : Ax [a, b] X.env = [(Ad, eval a X.env), (Ad, eval b X.env)])(hs2 : Ax [b] X.env = [(Ad, eval b X.env)]):
  SC X CL W Ac (.Call (.Name "list" p) [.Call (.Name "range" p') [a, b] [] pos'] [] pos) (fun ρ => (fa ρ).bind fun x => (fb ρ).bind fun y => Qy x y) := fun A pI s σ H Q I h => by
 obtain⟨hA, ρ, g, pp⟩ := h;refine YN hc hg hm hg' hm' (E2 (ha A) (E2 (hb A) GA hs2) (by rw[hs, hs2])) hs hs2 pI s σ H Q I ?_
 refine⟨hA, ρ, g, A5.bindF pp fun dx x H1 _ s1 r1 p1 => ⟨hA.same s1, ρ, g.same s1, A5.bind (Rq := Dl X.K CL Ac H A) p1 fun dy y H2 _ s2 r2 p2 => ?_⟩⟩
 cases dx with
 |int i=>
  cases dy with
  |int j=>
   have e := r1.int_of;have e' := r2.int_of;subst e e';have p3 : A5 (Dl X.K CL Ac H A) W H2 ((CK i j).bind fun xs => .ok (.lst xs)) Q := p2
   cases e2 : CK i j with
   |ok ds=>
    rw[e2]at p3;obtain⟨h1, h2, rfl, hz⟩ := K6 e2;rw[HF]at hz;refine⟨i, j, rfl, ⟨h1.1, h1.2, h2.1, h2.2⟩, by rw[DR]at hz;omega, hz, fun l hl => ?_⟩
    exact p3 _ _ (Er hl _) (He (s1.trans s2) ((hA.same s1).same s2) hl (Tj i _))
   |exn y => exact(KI e2).elim
   |bad => rw[e2]at p3;exact p3.elim
  |_ => exact p2.elim
 |_ => exact p2.elim
end
section
variable{X : Cx}{CL : ClA}{W : XW}{e o o' k l : Ao}{fe : Rho -> R Ov.D}{i ik il : Ag}{pos spos spos' tpos : AN}{kt : Ag}
theorem NN{k : Ag}{j:Ae}(h : FV ρ k = .ok j) : ρ[k]? = Aa (Aa (.int j, Ad)) := by
 unfold FV DO at h;split at h
 ·rename_i d hd;cases d <;> first|(cases h;exact hd)|cases h
 ·cases h
theorem Nv{k : Ag}{z:Ex}(h : FV ρ k = .exn z) : A6 := by
 unfold FV DO at h;split at h
 ·rename_i d hd;cases d <;> cases h
 ·cases h
theorem WX(hc : X.calm = Ac)(ho : PE X o (FX i))(ho' : PE X o' (FX i))(hk : PE X k (FX ik))(hl : PE X l (FX il))(he : SE X CL W e fe)(ha : ∀ v, assign (.Subscript o k spos) X.env v = (do
      let ov <-holding [v] (eval o X.env)
      let iv <-holding [v, ov] (eval k X.env)
      FD spos
      holding [v, ov, iv] (G4 ov iv v)
      release [v, ov, iv] []))(ha' : ∀ v, assign (.Subscript o' l spos') X.env v = (do
      let ov <-holding [v] (eval o' X.env)
      let iv <-holding [v, ov] (eval l X.env)
      FD spos'
      holding [v, ov, iv] (G4 ov iv v)
      release [v, ov, iv] []))(hs : El [.Tuple [.Subscript o k spos, .Subscript o' l spos'] kt tpos] e pos.line X.env = pure Ad)(hw : CZ [.Tuple [.Subscript o k spos, .Subscript o' l spos'] kt tpos] e X.env = pure Af):SS X CL W (.Assign [.Tuple [.Subscript o k spos,.Subscript o' l spos'] kt tpos] e pos) (fun ρ =>O.of ρ (fe ρ) fun d =>J7 ρ d i ik il) := fun Fz B pI s σ H D I ⟨ρ, x, p⟩=>
  L0 (he (BZ B ρ σ)) (J2 hc (JJ (L6 ho hk Lg ha) (JJ (L6 ho' hl Lg ha') Lw))) hs hw rfl pI s σ H D I ⟨x.aok, ρ, x.good, BX.ex x p fun d v H' _ s rv x' q' => by
    cases d with
    |tup es=>
     cases es with
     |nil => exact q'.elim
     |cons dx es=>
      cases es with
      |nil => exact q'.elim
      |cons dy es=>
       cases es with
       |cons _ _ => exact q'.elim
       |nil=>
        have q' : BX X.K CL Fz B W (O.of ρ (Cp ρ i) fun xs => O.of ρ (FV ρ ik) fun a => O.of ρ (FV ρ il) fun b => match plD xs.length a, plD xs.length b with
          |some m, Aa n => .next (ρ.set i (Aa (.lst ((xs.set m dx).set n dy), Ac)))
          | _, _ => .bad) D := q'
        obtain⟨t, vs, rfl, _, sq, r⟩ := rv;cases vs with
        |nil => exact r.elim
        |cons vx vs=>
         cases vs with
         |nil => exact r.2.elim
         |cons vy vs=>
          cases vs with
          |cons _ _ => exact r.2.2.elim
          |nil=>
            obtain⟨rx, ry, _⟩ := r;cases e1 : Cp ρ i with
            |bad => rw[e1]at q';exact q'.elim
            |exn z => exact(Li e1).elim
            |ok ds=>
              rw[e1, O.of_ok]at q';have hi := Lx e1;obtain⟨a, xs, ds', q, e2, ha, hh, rr⟩ := x'.good.ow i _ hi;cases e2;cases e3 : FV ρ ik with
              |bad => rw[e3]at q';exact q'.elim
              |exn z => exact(Nv e3).elim
              |ok j=>
                rw[e3, O.of_ok]at q';obtain⟨w1, qk, rk⟩ := x'.good.sh ik _ (NN e3);subst rk;cases e4 : FV ρ il with
                |bad => rw[e4]at q';exact q'.elim
                |exn z => exact(Nv e4).elim
                |ok j'=>
                  rw[e4, O.of_ok]at q';obtain⟨w2, ql, rl⟩ := x'.good.sh il _ (NN e4);subst rl;cases e5 : plD ds.length j with
                  |none => rw[e5]at q';exact q'.elim
                  |some m=>
                    cases e6 : plD ds.length j' with
                    |none => rw[e5, e6]at q';exact q'.elim
                    |some n=>
                      rw[e5, e6]at q';have lx := rr.length;refine⟨t, [vx, vy], rfl, sq, rfl, vx, [vy], rfl, _, q, _, qk, a, xs, j, m, rfl, rfl, hh, by rw[lx];exact e5, vy, [], rfl, _, q, _, ql, a, xs.set m vx, j', n, rfl, rfl, FQ, by rw[A4, lx];exact e6, rfl, ?_⟩
                      have uu : L2.upd (L2.upd H' a (.lst (xs.set m vx))) a (.lst ((xs.set m vx).set n vy)) = L2.upd H' a (.lst ((xs.set m vx).set n vy)) := by
                        funext b
                        by_cases hb : b = a
                        · subst hb;rw[FQ, FQ]
                        · rw[Cf hb, Cf hb, Cf hb]
                      rw[uu];exact q' _ _ (x'.upd hi q (Reps.set ry n (Reps.set rx m rr)))
    | _ => exact q'.elim⟩
end
section
variable{prog : AM}{w : AU}{A : A3}{E : Ah -> Ak -> Prop}{s : Ak}
theorem Nh{it t : Ai}{items : Bf Ah}(hne : t ≠ it) :∀(n i :Ag)(s :Ak)(Q :Ab Ah->Ak->Prop),s.heap.IsListIter it t i->s.heap.IsList t items->i+n <= items.size->(∀ h',h'.IsListIter it t (i+n)->D8 it s.heap h'->Q ((items.toList.drop i).take n) {s with heap := h'})->AB (model prog w) A (draw (.ref it) n) Q E s
 |0, i, s, Q, hit, _, _, hQ => by
  show AB _ _ (pure []) Q E s;exact AE (by simpa using hQ s.heap hit (R6 ..))
 |n+1, i, s, Q, hit, ht, hle, hQ => by
  have hlt : i<items.size := by omega
  show AB _ _ (Go (.ref it) >>= _) Q E s;refine Am (SV hit ht (x := items[i]) (by simp[hlt]) fun h₁ hit₁ hs₁ => ?_)
  refine Am (CF (Nh hne n (i+1) _ _ hit₁ (ht.extBut hs₁.extBut hne) (by omega) fun h₂ hit₂ hs₂ => AE ?_))
  have hd : items.toList.drop i = items[i]::items.toList.drop (i+1) := by simp[DZ, hlt]
  have := hQ h₂ (by rw[show i+(n+1) = i+1+n by omega];exact hit₂) (hs₁.trans hs₂)
  rw[hd, List.take_succ_cons]at this;exact this
theorem S4{t:Ai}{Q:Ab Ah -> Ak -> Prop}(hh : A.handled = Af)(ht : s.heap.IsList t items)(hQ : ∀ h', F5 s.heap.objs.size s.heap h' -> Q items.toList {s with heap := h'}) : AB (model prog w) A (unpackItems (.ref t) items.size Af) Q E s := by
 have hlt : t ≠ s.heap.objs.size := by obtain⟨o, ho, _⟩ := ht;exact A2 (Aw ho)
 have htp : (s.heap.push { cls := .type "list_iterator", data := .fields #[.ref t, .int 0 0] }).IsList t items := by
  obtain⟨o, ho, r⟩ := ht;exact⟨o, Ar _ ho, r⟩
 unfold unpackItems;refine Am ?_
 ·unfold notIterableAtAll;refine Am (wpAny_specialOf ht.typeIs slot_list_iter.lookup ?_);refine AE ?_;simp only[QX, GI];refine Am (CF (C3 ht ?_));refine Am (CF (Nh hlt items.size 0 _ _ ⟨_, AC _ rfl, rfl, rfl⟩ htp (by omega) fun h₁ hit₁ hs₁ => ?_))
  have hall : List.take items.size (List.drop 0 items.toList) = items.toList := by
   rw[List.drop_zero];exact List.take_of_length_le (by simp)
  rw[hall];rw[AO (by simp)]
  have ht₁ : h₁.IsList t items := htp.extBut hs₁.extBut hlt;refine Am (CF (SU hh hit₁ ht₁ (by simp) fun h₂ he₂ => ?_))
  simp only[Option.isSome_none, QX, GI];refine AE (hQ h₂ fun b o hb e => he₂ b o hb (hs₁.extBut b o hb (Ar _ e)))
theorem SZ{elts:Ab Ao}{x1}{t:Ai}{Q:Unit -> Ak -> Prop}(hh : A.handled = Af)(ht : s.heap.IsList t items) (hn :(BL elts env).length = items.size) (hstar :(BL elts env).findIdx? (·.1) = Af) (h :∀ h',F5 s.heap.objs.size s.heap h'->AB (model prog w) A (assignInOrder ((BL elts env).map (·.2)) items.toList) Q E {s with heap := h'}):AB (model prog w) A (assign (.Tuple elts x1 pos) env (.ref t)) Q E s := by
 rw[assign_Tuple];refine Am (Fm ?_);unfold unpack;rw[hn, hstar];exact Am (CF (S4 hh ht h))
end
section
variable{X : Cx}{pos : AN}{CL : ClA}
noncomputable def gSq(K : Fg)(n : Ag)(t : TGs) : TG := fun v σ H Q => Iq K n t v σ H Q \/ ∃ a xs, v = .ref a /\ SqL K H a xs /\ xs.length = n /\ t xs σ H Q
theorem ZV{t:TGs}(hc : X.calm = Ac)(h : PGs X es t)(hn : (BL es X.env).length = n)(hst : (BL es X.env).findIdx? (·.1) = Af) : PG X (.Tuple es k pos) (gSq X.K n t) := by
 intro pI s σ H v u Q I r hw;rcases hw with hw|hw
 ·exact J2 hc h hn hst pI s σ H v u Q I r hw
 ·obtain⟨a, xs, e1, hq, hl, hw⟩ := hw;subst e1;cases r;obtain⟨its, rv, ht, hz⟩ := I.list hq;refine SZ (I.ok.hd hc) ht.isList (by simp[hn, <-hl, rv.length]) hst fun h' hx => ?_
  have I1 : Inv X pI σ H {s with heap := h'} := I.kept (t' := s.toks) fun b o e => hx b o (A2 (Aw e)) e
  exact h pI _ σ H xs _ Q I1 (by simpa using rv) hw
theorem bT(ts : Ab Ag) : GT K CL (Gc ts) (gSq K ts.length (ts.foldr (fun t u => FW (DW t) u) FY)) := fun Fz B ρ σ H v d ρ' Q x r e k => by
 cases d with
 |lst ds=>
  obtain⟨a, xs, rfl, na, sq, rs⟩ := r;rw[UM]at e;cases e2 : DI ts ds ρ with
  |none => rw[e2]at e;cases e
  |some ρ2=>
   rw[e2]at e;cases e;exact .inr ⟨a, xs, rfl, sq, by rw[rs.length];exact JE _ _ _ _ e2, LV ts ds xs ρ _ σ Q x rs e2 k⟩
 |_ => exact .inl (Pe ts Fz B ρ σ H v _ ρ' Q x r e k)
end
section
variable{X : Cx}{CL : ClA}{W : XW}
end
end Ov
namespace Ov
open PySem PySem.W PyProof.Rows
variable{p:Bf Ag}{m:Ag}
def Kr{α : Type}(lt : Ag -> Ag -> An)(n : Ag) : KasT α -> (α -> Prop) -> Prop
 |.ret a, Q => Q a
 |.ask i j k, Q => i<n /\ j<n /\ Kr lt n (k (lt i j)) Q
theorem Kr.mono{α : Type}{lt : Ag -> Ag -> An}{n : Ag}{Q Q' : α -> Prop} : ∀{t : KasT α}, Kr lt n t Q -> (∀ a, Q a -> Q' a) -> Kr lt n t Q'
 |.ret _, h, k => k _ h
 |.ask i j f, h, k => ⟨h.1, h.2.1, Kr.mono (t := f (lt i j)) h.2.2 k⟩
theorem Kr.bind{α β : Type}{lt : Ag -> Ag -> An}{n : Ag}{f : α -> KasT β}{Q : β -> Prop} : ∀{t : KasT α}, Kr lt n t (fun a => Kr lt n (f a) Q) -> Kr lt n (t.bind f) Q
 |.ret _, h => h
 |.ask i j k, h => ⟨h.1, h.2.1, Kr.bind (t := k (lt i j)) h.2.2⟩
structure Sto (lt : Ag -> Ag -> An) (n : Ag) : Prop where
 tr : ∀ i j k, i<n -> j<n -> k<n -> lt i j = Ac -> lt j k = Ac -> lt i k = Ac
 tot : ∀ i j, i<n -> j<n -> i ≠ j -> lt i j = Ad -> lt j i = Ac
 asy : ∀ i j, i<n -> j<n -> lt i j = Ac -> lt j i = Ad
noncomputable def at0(p : Bf Ag)(x : Ag) : Ag := p.getD x 0
structure Pm (n : Ag) (p : Bf Ag) : Prop where
 sz : p.size = n
 lt : ∀ x, x<n -> at0 p x<n
 inj : ∀ x y, x<n -> y<n -> at0 p x = at0 p y -> x = y
section
variable{lt : Ag -> Ag -> An}{n : Ag}
noncomputable def MF(lt : Ag -> Ag -> An)(p : Bf Ag)(m : Ag) : Prop := ∀ x y, x<y -> y<m -> lt (at0 p x) (at0 p y) = Ac
noncomputable def MC(lt : Ag -> Ag -> An)(p : Bf Ag)(m : Ag) : Prop := ∀ x y, x<y -> y<m -> lt (at0 p y) (at0 p x) = Ac
theorem MF.succ(S : Sto lt n)(hp : Pm n p)(h1 : 1 <= m)(hm : m<n)(h : MF lt p m)(e : lt (at0 p (m-1)) (at0 p m) = Ac) : MF lt p (m+1) := fun x y hxy hy => by
 by_cases hym : y<m
 ·exact h x y hxy hym
 ·have : y = m := by omega
  subst this;by_cases hx : x = y-1
  ·rw[hx];exact e
  ·exact S.tr _ _ _ (hp.lt _ (by omega)) (hp.lt _ (by omega)) (hp.lt _ hm) (h x (y-1) (by omega) (by omega)) e
theorem MC.succ(S : Sto lt n)(hp : Pm n p)(h1 : 1 <= m)(hm : m<n)(h : MC lt p m)(e : lt (at0 p m) (at0 p (m-1)) = Ac) : MC lt p (m+1) := fun x y hxy hy => by
 by_cases hym : y<m
 ·exact h x y hxy hym
 ·have : y = m := by omega
  subst this;by_cases hx : x = y-1
  ·rw[hx];exact e
  ·exact S.tr _ _ _ (hp.lt _ hm) (hp.lt _ (by omega)) (hp.lt _ (by omega)) e (h x (y-1) (by omega) (by omega))
end
section
variable{prog : AM}{w : AU}{A : A3}{E : Ah -> Ak -> Prop}{κ : SortKind}{it : Bf Keyed}
end
section
variable{lt : Ag -> Ag -> An}{n : Ag}
end
noncomputable def Lp(h : AF)(v : Ah)(r : Ab Ae) : Prop := ∃ a its, v = .ref a /\ Hr h a its /\ Gi its.toList r /\ r ≠ []
theorem Lp.kept{h h':AF}{v:Ah}{r:Ab Ae}(t : Lp h v r)(k : ∀ b o, h.get? b = Aa o -> h'.get? b = Aa o) : Lp h' v r := by
 obtain⟨a, its, e, ⟨o, ho, q⟩, i, n⟩ := t;exact⟨a, its, e, ⟨o, k _ _ ho, q⟩, i, n⟩
section
variable{prog : AM}{w : AU}{A : A3}{E : Ah -> Ak -> Prop}{s : Ak}
end
end Ov
namespace Ov
open PySem PySem.Spec PyProof.Rows L2
variable{ex fs:Ab Ai}{h h':AF}{P:AM}{w:AU}{H:Hp}{a b:Ai}{l:Ab BJ}{oT:AJ}{ts:Bf Ah}{Q:Unit -> Ak -> Prop}{X:Cx}{pI:Ab (Ai × AJ)}{σ:L2.St}{s:Ak}
section
variable{X : Cx}{CL : ClA}{W : XW}
end
section
variable{X : Cx}
variable{CL : ClA}{W : XW}{pos p pos' p' : AN}{a : Ao}{fa : Rho -> R D}
end
section
end
section
variable{X : Cx}
variable{CL : ClA}{W : XW}{o e : Ao}{fe : Rho -> R D}{i : Ag}{apos cpos pos : AN}
end
section
open PySem.AutoSeq1 (wpAny_loadPart')
end
section
variable{prog : AM}{w : AU}{A : A3}{R : Hu -> Ak -> Prop}{I S T : Ai}{u v : Ah}{c : Ag}{P : Ag -> Ah -> Prop}{St : Ag -> AF -> Prop}{s : Ak}{r q : Ab Ae}
end
section
variable{X : Cx}{CL : ClA}{W : XW}
end
noncomputable def Fly(e T : Ai)(cls : Ah)(h : AF) : Prop := ∃ oe vs oT ts a0, h.get? e = Aa oe /\ oe.cls = cls /\ vs[0]? = Aa a0 /\ oe.data = .fields vs /\ vs[1]? = Aa (.ref T) /\ T ≠ e /\ h.get? T = Aa oT /\ oT.data = .fields ts /\ ts[3]? = Aa Hw
structure Shift (ex fs : Ab Ai) (h h' : AF) : Prop where
 keep : ∀ b o, h.get? b = Aa o -> b ∉ ex -> b ∉ fs -> h'.get? b = Aa o
 slot : ∀ b o, h.get? b = Aa o -> b ∈ fs -> ∃ sl, h'.get? b = Aa {o with slots := sl}
theorem Shift.trans{h1 h2:AF}(a : Shift ex fs h h1)(b : Shift ex fs h1 h2) : Shift ex fs h h2:=
 ⟨fun c o q n m => b.keep c o (a.keep c o q n m) n m, fun c o q m => by
  obtain⟨sl, e1⟩ := a.slot c o q m;obtain⟨sl', e2⟩ := b.slot c _ e1 m;exact⟨sl', e2⟩⟩
theorem ObjOk.isThere : ∀(o : HO), L2.ObjOk P w H h a o -> ∃ ob, h.get? a = Aa ob
 |.lst _, x => by obtain⟨_, _, _, _, e⟩ := x;exact⟨_, e⟩
 |.tup _, x => by obtain⟨_, _, _, p⟩ := x;obtain⟨o, e, _⟩ := p;exact⟨_, e⟩
 |.dK _, x => by obtain⟨_, _, _, _, o, _, _, e, _⟩ := x;exact⟨_, e⟩
 |.dT _, x => by obtain⟨_, _, _, _, o, _, _, e, _⟩ := x;exact⟨_, e⟩
 |.set _ _, x => by obtain⟨o, _, _, _, e, _⟩ := x;exact⟨_, e⟩
 |.ins _ _ _, x => by obtain⟨_, _, _, e, _⟩ := x;exact⟨_, e⟩
 |.own _, x => x
 |.xd _, x => by obtain⟨_, ⟨_, _, _, e, _⟩, _⟩ := x;exact⟨_, e⟩
 |.met _ _, x => ⟨_, x⟩
 |.rng _ _, x => by obtain⟨_, _, _, e⟩ := x;exact⟨_, e⟩
 |.frz _ _, x => ⟨_, x.1⟩
 |.tbl _, x => ⟨_, x⟩
 |.ext _, x => x.2.1
theorem Lk(x : HOk P w H h)(e : h.get? a = Af) : H a = Af := by
 cases q : H a with
 |none => rfl
 |some o=>
  obtain⟨ob, z⟩ := ObjOk.isThere o (x a o q);rw[e]at z;cases z
theorem HOk.shift(x : HOk P w H h)(sh : Shift ex fs h h')(h1 : ∀ b ∈ ex, H b = Af)(h2 : ∀ b ∈ fs, H b = Af) : HOk P w H h' := fun a o e=>
 (x a o e).stay (fun b u hb q => by
  have hs : ∃ v, H b = Aa v := by
   rcases hb with rfl|hb
   ·exact⟨_, e⟩
   ·exact⟨_, hb⟩
  obtain⟨v, hv⟩ := hs;exact sh.keep b u q (fun z => by rw[h1 b z]at hv;cases hv) (fun z => by rw[h2 b z]at hv;cases hv)) (fun _ q => q) fun _ _ q => q
theorem Un.shift{fs0 fs ex : Ab Ai}{H':Hp}{h0:AF}(u : Un fs0 [] H H' h0 h)(sh : Shift ex fs h h')(h1 : ∀ b ∈ ex, h0.get? b = Af)(h2 : ∀ b ∈ fs, b ∈ fs0 \/ h0.get? b = Af) : Un fs0 [] H H' h0 h' where
 keep := fun b o q n hb hx => sh.keep b o (u.keep b o q n hb hx) (fun z => by rw[h1 b z]at q;cases q) fun z => (h2 b z).elim hb fun e => by rw[e]at q;cases q
 slot := fun b o q n hb hx => by
  obtain⟨sl, e1⟩ := u.slot b o q n hb hx;by_cases hf : b ∈ fs
  ·obtain⟨sl', e2⟩ := sh.slot b _ e1 hf;exact⟨sl', e2⟩
  ·exact⟨sl, sh.keep b _ e1 (fun z => by rw[h1 b z]at q;cases q) hf⟩
 free := u.free
 there := fun b o q hx => by
  obtain⟨o', e1⟩ := u.there b o q hx;by_cases hf : b ∈ fs
  ·obtain⟨sl', e2⟩ := sh.slot b _ e1 hf;exact⟨_, e2⟩
  ·exact⟨o', sh.keep b _ e1 (fun z => by rw[h1 b z]at q;cases q) hf⟩
 tups := u.tups
 frzs := u.frzs
 tbls := u.tbls
section
variable{M : Ht}{A : A3}{E : Ah -> Ak -> Prop}{s : Ak}{env : BJ}{outer : Ab BJ}{L e T : Ai}{cls : Ah}{base h : AF}
theorem OA(l : Ab BJ) : ∀ env ∈ l, ∀ a, env.frame = Aa a -> a ∈ frs l := fun env he a hf => Rt.mpr ⟨env, he, hf⟩
theorem UY(ff : h.FunFrames base l)(fl : Fly e T cls h) : ∃ a0, R4 (EM h (e::T::frs l)) l e cls a0 h := by
 obtain⟨oe, vs, oT, ts, a0, he, hc, h0, hd, h1, hTe, hT, hdT, h3⟩ := fl;exact⟨a0, fun b o q => Fd _ q, EN _ AA, Sv ff fun env he a hf => As _ (As _ (OA l env he a hf)),
  oe, vs, T, oT, ts, he, ⟨hc, h0⟩, hd, h1, EN _ (As _ AA), hTe, hT, hdT, h3⟩
theorem N8(ff : h.FunFrames base l)(up : h.UpToSlots h'){o:AJ}(ho : h.get? b = Aa o)(hb : b ∈ frs l) : ∃ sl, h'.get? b = Aa {o with slots := sl} := by
 obtain⟨_, o', ho', hn⟩ := ff.mem hb;rw[ho]at ho';cases ho';exact up b o ho hn
theorem NJ(ff : h.FunFrames base l)(up : h.UpToSlots h')(hT : h'.get? T = Aa oT)(hd : oT.data = .fields ts) : T ∉ frs l := fun hb => by
 obtain⟨_, o', ho', hn⟩ := ff.mem hb;obtain⟨sl, e1⟩ := up T o' ho' hn;rw[hT]at e1;cases e1;exact hn ts hd
theorem Pf{B:AF}{a0:Ah}(x : R4 B l e cls a0 h') : ∃ T', Fly e T' cls h' /\ B.get? T' = Af /\ ∃ oT ts, h'.get? T' = Aa oT /\ oT.data = .fields ts := by
 obtain⟨_, _, _, oe, vs, T', oT, ts, he, ⟨hc, h0⟩, hd, h1, hn, hTe, hT, hdT, h3⟩ := x;exact⟨T', ⟨oe, vs, oT, ts, a0, he, hc, h0, hd, h1, hTe, hT, hdT, h3⟩, hn, oT, ts, hT, hdT⟩
theorem TW(ff : h.FunFrames base l)(st : (EM h (e::T::frs l)).StaysIn h')(up : h.UpToSlots h') : Shift [e, T] (frs l) h h':=
 ⟨fun b o q n1 n2 => st b o (Do _ q (by simp only[At, C4, AW, BR]at n1 ⊢;exact⟨n1.1, by first|exact n1.2|exact n1.2.1, n2⟩)), fun b o q hb => N8 ff up q hb⟩
theorem TK{T':Ai}(ff : h.FunFrames base l)(up : h.UpToSlots h')(hn : (EM h (e::T::frs l)).get? T' = Af)(hT : h'.get? T' = Aa oT)(hd : oT.data = .fields ts)(hne : T' ≠ e) : T' = T \/ h.get? T' = Af := by
 cases q : h.get? T' with
 |none => exact .inr rfl
 |some o=>
  refine .inl ?_;by_cases hm : T' ∈ e::T::frs l
  ·rcases At.mp hm with z|hm
   ·exact absurd z hne
   ·rcases At.mp hm with z|hm
    ·exact z
    ·exact absurd hm (NJ ff up hT hd)
  ·have := Do _ q hm;rw[hn]at this;cases this
theorem Fly.ne(x : Fly e T cls h) : T ≠ e := by obtain⟨_, _, _, _, _, _, _, _, _, _, z, _⟩ := x;exact z
theorem TX(hfr : A.frames = Aa (env::outer))(hf : env.frame = Aa L)(ff : s.heap.FunFrames base (env::outer))(fl : Fly e T cls s.heap)(hQ : ∀ h' T', Fly e T' cls h' -> Shift [e, T] (frs (env::outer)) s.heap h' -> (T' = T \/ s.heap.get? T' = Af) -> Q () {s with heap := h'}) : AB M A (leaving env (.ref e)) Q E s := by
 obtain⟨a0, fw⟩ := UY ff fl;refine wpAny_leaves_onW hfr hf fw fun h' fw' up => ?_
 obtain⟨T', fl', hn, oT, ts, hT, hd⟩ := Pf fw';exact hQ h' T' fl' (TW ff fw'.1 up) (TK ff up hn hT hd fl'.ne)
theorem TD{args:Ab Ah}(hfr : A.frames = Aa (env::outer))(hf : env.frame = Aa L)(ff : h.FunFrames base (env::outer))(hx : R5 h s.heap e cls args)(hQ : ∀ h' T', Fly e T' cls h' -> Shift [] (frs (env::outer)) h h' -> h.get? T' = Af -> Q () {s with heap := h'}) : AB M A (leaving env (.ref e)) Q E s := by
 have fh := Sv (as := frs (env::outer)) ff (OA _);refine wpAny_leaves_madeW hfr hf (fun b o q => Fd _ q) fh hx fun h' t fw _ _ up => ?_
 have up' : h.UpToSlots h' := (Heap.UpToSlots.of_keeps hx.keeps).trans up;obtain⟨T', fl', hn, oT, ts, hT, hd⟩ := Pf fw;refine hQ h' T' fl' ⟨fun b o q _ n2 => fw.1 b o (Do _ q n2), fun b o q hb => N8 ff up' q hb⟩ ?_
 cases q : h.get? T' with
 |none => rfl
 |some o=>
  have := Do _ q (NJ ff up' hT hd);rw[hn]at this;cases this
end
noncomputable def CXR(P : AM)(w : AU) : CXT := fun outer H s E ev s' => ∃ e T cls H', ev = .ref e /\ s'.os = s.os /\ Ec s'.gens /\ Un (frs outer) [] H H' s.heap s'.heap /\ HOk P w H' s'.heap /\ Fly e T cls s'.heap /\ H' e = Af /\ H' T = Af /\ s.heap.get? e = Af /\ s.heap.get? T = Af /\ E cls Af H'
noncomputable def Mz(X : Cx)(CL : ClA)(W : XW) : Prop := ∀ pI σ H s h' e C vs x, Inv X pI σ H s -> R5 s.heap h' e (.ref C) vs -> CL x.c = Aa C -> x.fs = [] -> W x H -> X.xe (.ref e) {s with heap := h'}
section
variable{P : AM}{w : AU}{K : Fg}{mg : Aj -> Ap Ah}{base : AF}{N : Ab Aj}{qual : Aj}{scope : BS}{f : Ai}{cd : Ah}{A : A3}{outer : Ab BJ}{s : Ak}{H : Hp}{E : XK}{CL : ClA}{W : XW}
theorem Oz(I : Inv X pI σ H s) : ∀ b ∈ frs X.stack, b ∈ X.fs \/ X.s₀.heap.get? b = Af := fun b hb => by
 rcases At.mp (I.stkSub b hb) with z|z
 ·exact .inr (by rw[z];exact R8 I.ok.above)
 ·exact .inl z
theorem IR(I : Inv X pI σ H s)(hx : X.ex = [])(h : s.heap.get? b = Af) : X.s₀.heap.get? b = Af := by
 cases q : X.s₀.heap.get? b with
 |none => rfl
 |some o=>
  obtain⟨o', z⟩ := I.base.there b o q (by rw[hx];simp)
  rw[h]at z;cases z
theorem cI(hE : ∀ x cls H', W x H' -> (∃ C, CL x.c = Aa C /\ cls = .ref C) -> E cls Af H') : ∀ A', HY (CXR P w) (E7 (CXR P w) P w K mg base N qual scope f cd A outer s H E) (EKW K CL A' W) := by
 intro A' pI σ H1 s1 ev s2 I h;obtain⟨e, T, cls, H', rfl, os, bare, un, hok, fl, he, hT, ne, nT, x, xr, wx⟩ := h;have I' := I.call' (s' := s2) (ch := []) os un hok bare (fun b z => absurd z (by simp))
 have hb0 : Un (frs outer) [] H H' s.heap s2.heap := I'.base;show AB (model P w) (A.deeper (DQ qual scope s.heap.objs.size f cd)) (leaving (DQ qual scope s.heap.objs.size f cd) (.ref e)) _ _ s2;refine TX (L := s.heap.objs.size) I'.ok.frames rfl I'.stack fl fun h' T' fl' sh hT' => ?_
 have e0 : s.heap.get? e = Af := IR I rfl ne;have T0 : s.heap.get? T = Af := IR I rfl nT;refine⟨e, T', cls, H', rfl, I'.os, bare, Un.shift hb0 sh ?_ (Oz I'), HOk.shift hok sh ?_ I'.stkFree, fl', he, ?_, e0, ?_, ?_⟩
 ·intro b hb;rcases At.mp hb with rfl|hb
  ·exact e0
  ·rw[BG.mp hb];exact T0
 ·intro b hb;rcases At.mp hb with rfl|hb
  ·exact he
  ·rw[BG.mp hb];exact hT
 ·rcases hT' with rfl|z
  ·exact hT
  ·exact Lk hok z
 ·rcases hT' with rfl|z
  ·exact T0
  ·exact IR I' rfl z
 ·obtain⟨C, c1, c2, _⟩ := xr;exact hE x cls H' wx ⟨C, c1, c2⟩
theorem rzR(hE : ∀ x cls H', W x H' -> (∃ C, CL x.c = Aa C /\ cls = .ref C) -> E cls Af H') : Mz (E7 (CXR P w) P w K mg base N qual scope f cd A outer s H E) CL W := by
 intro pI σ H1 s1 h2 e C vs x I hm hc hf hw;have hb0 : Un (frs outer) [] H H1 s.heap s1.heap := I.base;show AB (model P w) (A.deeper (DQ qual scope s.heap.objs.size f cd)) (leaving (DQ qual scope s.heap.objs.size f cd) (.ref e)) _ _ {s1 with heap := h2}
 refine TD (s := {s1 with heap := h2}) (h := s1.heap) (L := s.heap.objs.size) I.ok.frames rfl I.stack hm fun h' T' fl' sh hT' => ?_
 refine⟨e, T', .ref C, H1, rfl, I.os, I.bare, Un.shift hb0 sh (fun b hb => nomatch hb) (Oz I), HOk.shift I.hok sh (fun b hb => nomatch hb) I.stkFree, fl', Lk I.hok hm.new, Lk I.hok hT', IR I rfl hm.new, IR I rfl hT', hE x _ H1 hw ⟨C, hc, rfl⟩⟩
theorem ownR : EC (model P w) (E7 (CXR P w) P w K mg base N qual scope f cd A outer s H E).A (E7 (CXR P w) P w K mg base N qual scope f cd A outer s H E).env (E7 (CXR P w) P w K mg base N qual scope f cd A outer s H E).xe := PassesOwn.leaving
end
noncomputable def veB : Ab Ah := [.type "ValueError", .type "Exception", .type "BaseException", .type "object"]
structure XcOk (K : Fg) (C : Ai) : Prop where
 exc : PySem.W.excIn K C veB "ValueError.__new__" = Ac
 ga : Gj K (.ref C) "__getattribute__" = Aa (Aa (.builtin "BaseException.__getattribute__"))
 gt : Gj K (.ref C) "__getattr__" = Aa Af
 cl : Gj K (.ref C) "__class__" = Aa (Aa (.builtin "object.__class__"))
 ob : PySem.W.mroIn K C (.type "object") = Aa Ac
 be : Sz K (.ref C) (.type "BaseException") = Aa Ac
 cs : (PySem.W.clsIn K C).isSome = Ac
 ve : Sy K (.ref C) (.type "ValueError") = Aa Ac
section
variable{prog : AM}{w : AU}{A : A3}{E : Ah -> Ak -> Prop}{h : AF}{g : Bf Iz}{d : Drawn}{t : Ag}{os : OsState}{K : Fg}{e C : Ai}
end
noncomputable def Qf(X : Cx)(pI : Ab (Ai × AJ))(e : Ai) : Prop := e ≠ X.env.locals /\ (∀ x c, X.env.cells.lookup x = Aa c -> c ≠ e) /\ (∀ p ∈ X.pn++pI, p.1 ≠ e) /\ X.s₀.heap.get? e = Af
section
variable{X : Cx}{pI : Ab (Ai × AJ)}{σ : L2.St}{H : Hp}{s : Ak}{e : Ai}
end
noncomputable def Cx.hot(X : Cx)(e : Ai) : Cx := {X with A := X.A.mark (Aa (.ref e)), calm := Ad, xe := fun _ _ => A6}
section
variable{X : Cx}{pI : Ab (Ai × AJ)}{σ : L2.St}{H : Hp}{s : Ak}{e : Ai}
end
noncomputable def dM(X : Cx)(CL : ClA)(pI : Ab (Ai × AJ))(σ : L2.St)(H : Hp)(y : Ex)(Xw : Ah -> Ak -> Prop) : Prop:=
 ∀ s' H' e T C, Inv X pI σ H' s' -> Ay H H' -> Fly e T (.ref C) s'.heap -> H' e = Af -> H' T = Af -> Qf X pI e -> Qf X pI T -> CL y.c = Aa C -> y.fs = [] -> Xw (.ref e) s'
noncomputable def STB(X : Cx)(CL : ClA)(body : Ab Bq)(f : Rho -> O) : Prop := ∀ Fz B pI s σ H D ρ (Xw : Ah -> Ak -> Prop), EC (model X.prog X.w) X.A X.env Xw -> Inv X pI σ H s -> Sx X.K CL Fz B ρ σ H ->
  (match f ρ with
   |.exn y ρ' => ρ' = ρ -> dM X CL pI σ H y Xw
   | o => BX X.K CL Fz B (fun _ _ => A6) o D) -> (∀ y ρ', f ρ = .exn y ρ' -> ρ' = ρ) -> AB (model X.prog X.w) X.A (execs body X.env) (SP X pI D) Xw s
noncomputable def Cx.pw(X : Cx)(pI : Ab (Ai × AJ))(Xw : Ah -> Ak -> Prop) : Cx := {X with pn := X.pn++pI, xe := Xw}
section
variable{X : Cx}{pI pins' : Ab (Ai × AJ)}{σ : L2.St}{H : Hp}{s : Ak}{Xw : Ah -> Ak -> Prop}
end
section
variable{X : Cx}{CL : ClA}{k n : Ag}{fr : An}{f : Ai}{fd : BV}{ps : Ab Aj}{F : Ab D -> R D}{x : Aj}{p pos pos2 : AN}{e : Ao}{es : Ab Ao}{fs ft : Rho -> R (Ab D)}{sh : Rho -> An}
variable(hx0 : X.ex = [])(G : FnOk X.prog X.w X.K X.mg X.base (CXR X.prog X.w) k f fd ps (spD X.K CL n fr F))(hr : Room k X.A)(hg : Gl X x)(hm : X.mg x = Aa (.ref f))
    (hk : CI X.K (.ref f) = Ac) (hb : Ga X.K fd ps []) (hst : ∀ ρ, sh ρ = Ac -> ft ρ = fs ρ) (hn : ∀ ρ ds, ft ρ = .ok ds -> ds.length = n) (hnx : ∀ ρ y, ft ρ ≠ .exn y)
    (hdb : (x==("__debug__" : Aj)) = Ad) (he : Ax (e::es) X.env = (Ad, eval e X.env)::Ax es X.env) (hpl : ∀ pos, (Cn pos (Ax es X.env)).any (·.1) = Ad)
    (ha : ∀ pI Xw, EC (model X.prog X.w) X.A X.env Xw -> SA (Cx.pw X pI Xw) CL (fun _ _ => A6) (e::es) fs /\ SAT (Cx.pw X pI Xw) CL (fun _ _ => A6) (e::es) ft)
include hx0 G hr hg hm hk hb hst hn hnx hdb he hpl ha
end
section
variable{X : Cx}{CL : ClA}{W : XW}
noncomputable def Za(K : Fg)(CL : ClA)(up : Ag -> Ab Ag)(c' : Ag)(C' : Ai) : Prop := ∀ c C, CL c = Aa C -> Sy K (.ref C) (.ref C') = Aa ((up c).contains c')
variable{a : Ao}{fa : Rho -> R D}{up : Ag -> Ab Ag}{x : Aj}{p p2 pos : AN}
end
end Ov
section
namespace Ov
open PySem PySem.Spec PyProof.Rows L2
end Ov
end
namespace Ov
open PySem PySem.Spec PyProof.Rows L2
variable{α:Type}{g x qual n x0 x1:Aj}{y:Ao}{as:Es}{X:Cx}{CL:ClA}{fr:An}{pos p:AN}{xs ys:Ab Ao}{env:BJ}{l kk m id k:Ag}{scope:BS}{ts:Ab Ag}{H:Hp}{vs:Ab V}{f:Ai}{fd:BV}{CX:CXT}{ps:Ab Aj}{F:Ab D -> R D}{h:AF}
noncomputable abbrev fD : CXT := fun _ _ _ _ _ _ => A6
structure HotOk (P : AM) (w : AU) (K : Fg) (mg : Aj -> Ap Ah) (base : AF) (k : Ag) (f : Ai) (fd : BV) (ps : Ab Aj) (sp : Sp) : Prop where
 len : ∀ vs H Q E, sp vs H Q E -> vs.length = ps.length
 run : ∀(A : A3)(ev : Ai)(outer : Ab BJ)(s : Ak)(H : Hp)(args : Args)(us : Ab Ah)(vs : Ab V)(Q : VK)(E : XK), Room k A -> Env0 P w K mg base (A.mark (Aa (.ref ev))) outer s H -> FA s fd args (ps.zip us) -> AZ vs us -> sp vs H Q E ->
  E0 (model P w) (A.mark (Aa (.ref ev))) (.call (.ref f) args) (CR fD outer P w H s Q E) s
noncomputable def spH(K : Fg)(CL : ClA)(n : Ag)(fr : An)(F : Ab D -> R D) : Sp := fun vs H Q _ => ∃(ds : Ab D)(A : Ai -> Prop), vs.length = n /\ AOk H A /\ Reps K CL H A vs ds /\ (match F ds with
  |.ok d => ∀ v H', Ay H H' -> Dl K CL fr H A H' v d -> Q v H'
  |.exn _ => A6
  | .bad => A6)
section
variable{X : Cx}{CL : ClA}{ev : Ai}
end
structure Tc where
 sc : BS
 N : Ab Aj
 /-- a def's name, its number, how many parameters it has -/
 fns : Ab (Aj × Ag × Ag)
 /-- built-in names that the text does not hide -/
 bl : Ab Aj
 /-- exceptions' classes by their names: those that are raised, all that are asked for -/
 rzs : Ab (Aj × Ag)
 exs : Ab (Aj × Ag)
 /-- the text's constants -/
 gls : Ab (Aj × Ag)
noncomputable def Mu(T : Tc)(x : Aj) : An := match T.sc.names.lookup x with
  |some .local => Ac
  |some .cell => Ac
  |some .free => Ac
  |_ => Ad
noncomputable def Io(T : Tc)(x : Aj) : An := match T.sc.names.lookup x with
  |some .local => Ac
  |some .cell => Ac
  |_ => Ad
noncomputable def glB(T : Tc)(x : Aj) : An := T.sc.names.lookup x==Aa .globalImplicit
noncomputable def Jk(x : Aj) : An := !(x==("__debug__" : Aj)) && !(x==("__classdict__" : Aj)) && !(x==("__name__" : Aj))
noncomputable def isV(T : Tc)(x : Aj)(i : Ag) : An := T.N[i]? == Aa x&&Mu T x&&Jk x
noncomputable def isB(T : Tc)(x : Aj) : An := T.bl.contains x&&glB T x&&Jk x
noncomputable def Dy : Ao -> An
 |.Starred _ _ => Ad
 |_ => Ac
noncomputable def Ly : Ao -> An
 |.Slice _ _ _ _ => Ad
 |_ => Ac
noncomputable def Jg : Ao -> An
 |.Set _ _ _ => Ad
 |_ => Ac
noncomputable def HV : Ao -> An
 |.ListComp _ _ _ _ => Ad
 |.SetComp _ _ _ _ => Ad
 |.DictComp _ _ _ _ _ => Ad
 |_ => Ac
noncomputable def QC(tu : An) : Ao -> An
 |.Tuple .. => tu
 |.Name .. => !tu
 |_ => Ad
noncomputable def bN : Ao -> An
 |.Tuple _ _ _ => Ac
 |_ => Ad
noncomputable def P9 : Ao -> An
 |.Tuple _ _ _ => Ad
 |_ => Ac
noncomputable def K7 : Ao -> An
 |.UnaryOp _ _ _ => Ad
 |.BoolOp _ _ _ => Ad
 |.IfExp _ _ _ _ => Ad
 |.Compare _ _ _ _ => Ad
 |_ => Ac
noncomputable def Mj : Ki -> Ap Aj
 |.int => Aa "int"
 |.bool => Aa "bool"
 |.str => Aa "str"
 |.list => Aa "list"
 |.tuple => Aa "tuple"
 |_ => Af
noncomputable def Mk : BI -> Ap Aj
 |.len => Aa "len"
 |.abs => Af
 |.max => Af
 |.min => Aa "min"
 |.int => Af
 |.list => Aa "list"
 |.tuple => Aa "tuple"
 |.all => Aa "all"
 |.any => Aa "any"
 |.sum => Aa "sum"
 |.sorted => Af
 |.tmin => Af
 |.tmax => Af
 |_ => Af
noncomputable def Me(o scope : BS) : BS := {scope with names := scope.names.map fun (n, k) => if (k==.free&&o.kind==.function&&o.names.lookup n==Aa .cell) then (n, .cell) else (n, k)}
noncomputable def Ig : Ab Ag -> Ab Aj -> Ab Aj -> Ab Aj
 |t::ts, x::xs, N => Ig ts xs ((N.map fun y => if y==x then N.getD t x else y).set t x)
 |_, _, N => N
noncomputable def IZ : Ab Aj -> An
 |[] => Ac
 |x::xs => !xs.contains x&&IZ xs
noncomputable def Jm(T : Tc)(scope : BS)(ts : Ab Ag)(N' : Ab Aj) : An:=
  scope.kind==.function&&scope.names.all (fun y => scope.names.lookup y.1==Aa y.2) &&
  scope.names.all (fun y => y.2 != .free||T.sc.names.lookup y.1==Aa .cell||T.sc.names.lookup y.1==Aa .free) &&
  N'.length==T.N.length&&IZ N' &&
  (Cc N'.length).all fun i => ts.contains i||(match N'[i]? with
    |some x => (scope.names.lookup x != Aa .local&&scope.names.lookup x != Aa .cell)&&(scope.names.lookup x != Aa .free||T.N[i]? == Aa x)
    | none => Ac)
noncomputable def DU : Ab Ao -> Ap (Ab Aj)
 |[] => Aa []
 |.Name x _::r => (DU r).map (x :: ·)
 |_ => Af
noncomputable def tgN(ys : Ab Ao) : Ab Aj := (DU ys).getD []
noncomputable def tgB(T : Tc) : Ab Ag -> Ab Aj -> An
 |[], [] => Ac
 |t::ts, x::xs => T.N[t]? == Aa x&&T.sc.names.lookup x==Aa .local&&tgB T ts xs
 |_, _ => Ad
noncomputable def tgO(T : Tc)(scope : BS)(t : Ag)(x : Aj) : An := T.N[t]? == Aa x&&(T.sc.names.lookup x==Aa .local||(T.sc.names.lookup x==Aa .cell&&scope.names.lookup x==Aa .cell))
noncomputable def tgC(T : Tc) : Ab Ag -> Ab Aj -> An
 |[], [] => Ac
 |t::ts, x::xs => T.N[t]? == Aa x&&Io T x&&tgC T ts xs
 |_, _ => Ad
noncomputable def Tc.blk(T : Tc)(scope : BS)(ts : Ab Ag)(xs : Ab Aj) : Tc := {T with sc := Me T.sc scope, N := Ig ts xs T.N}
noncomputable def QP : Ao -> Ap (Ao × Ao × AN)
  | .Compare x ops ys p => (match ops with
    | [.Lt] => (match ys with
      |[y] => Aa (x, y, p)
      | _ => Af)
    | _ => Af)
  |_ => Af
noncomputable def Mh(_ : Es) : Ap (E × E) := Af
noncomputable def QB(_ : Tc)(_ : Tc -> Ao -> E -> An)(_ : Ao)(_ : Ab DB)(_ : Ab Ao)(_ : BI)(_ : Es) : An := Ad
noncomputable def QM(T : Tc)(e : Ao)(b : BI)(as : Es) : An := Ad
noncomputable def Ja : Ao -> Ap (Aj × AN)
 |.Name x p => Aa (x, p)
 |_ => Af
theorem JC{e : Ao}{t : Aj × AN}(q : Ja e = Aa t) : e = .Name t.1 t.2 := by
 cases e with
 |Name x p => cases q;rfl
 |_ => cases q
noncomputable def Mb : Ao -> Ap (Ao × Ab Ao × Ab FB × AN)
 |.Call f as ks p => Aa (f, as, ks, p)
 |_ => Af
theorem N2{e : Ao}{t : Ao × Ab Ao × Ab FB × AN}(q : Mb e = Aa t) : e = .Call t.1 t.2.1 t.2.2.1 t.2.2.2 := by
 cases e with
 |Call f as ks p => cases q;rfl
 |_ => cases q
noncomputable def Mi : Ao -> Ap (Ao × Ao × AN)
 |.Subscript v s p => Aa (v, s, p)
 |_ => Af
theorem Oj{e : Ao}{t : Ao × Ao × AN}(q : Mi e = Aa t) : e = .Subscript t.1 t.2.1 t.2.2 := by
 cases e with
 |Subscript v s p => cases q;rfl
 |_ => cases q
noncomputable def Qg : Ao -> Ap (Ab Ao × Ag × AN)
 |.Tuple es k p => Aa (es, k, p)
 |_ => Af
theorem U8{e : Ao}{t : Ab Ao × Ag × AN}(q : Qg e = Aa t) : e = .Tuple t.1 t.2.1 t.2.2 := by
 cases e with
 |Tuple es k p => cases q;rfl
 |_ => cases q
noncomputable def Qi : Bq -> Ap (Ab Ao × Ao × AN)
 |.Assign ts v p => Aa (ts, v, p)
 |_ => Af
theorem Va{s : Bq}{t : Ab Ao × Ao × AN}(q : Qi s = Aa t) : s = .Assign t.1 t.2.1 t.2.2 := by
 cases s with
 |Assign ts v p => cases q;rfl
 |_ => cases q
noncomputable def one{α : Type} : Ab α -> Ap α
 |[a] => Aa a
 |_ => Af
theorem O9{l : Ab α}{a : α}(q : one l = Aa a) : l = [a] := by
  match l, q with
  |[b], q => cases q;rfl
noncomputable def Kb(e : Ao) : Ap (Aj × Aj × Ab Ao) := (Mb e).bind fun c => (Ja c.1).bind fun g => (one c.2.1).bind fun a => (Mb a).bind fun d => (Ja d.1).bind fun h => if (c.2.2.1.isEmpty&&d.2.2.1.isEmpty) = Ac then Aa (g.1, h.1, d.2.1) else Af
theorem Wr{e : Ao}{h:Aj}{bs : Ab Ao}(q : Kb e = Aa (g, h, bs)) : ∃ p p' pos pos', e = .Call (.Name g p) [.Call (.Name h p') bs [] pos'] [] pos := by
 obtain⟨⟨f, as, ks, pos⟩, e1, q⟩ := AS.mp q;obtain⟨⟨g', p⟩, e2, q⟩ := AS.mp q;obtain⟨a, e3, q⟩ := AS.mp q;obtain⟨⟨f', bs', ks', pos'⟩, e4, q⟩ := AS.mp q;obtain⟨⟨h', p'⟩, e5, q⟩ := AS.mp q;by_cases hk : (ks.isEmpty&&ks'.isEmpty) = Ac
 ·rw[AH hk]at q;cases q;rw[Al, FJ, FJ]at hk;obtain⟨rfl, rfl⟩ := hk;have x1 := N2 e1;have x2 := JC e2;have x3 := O9 e3;have x4 := N2 e4;have x5 := JC e5;dsimp only at x1 x2 x3 x4 x5;subst x1 x2 x3 x4 x5;exact⟨_, _, _, _, rfl⟩
 ·rw[AO hk]at q;cases q
noncomputable def Jl(e : Ao) : Ap (Aj × Aj × Ao × Ao) := match Kb e with
  | some (g, h, bs) => (match bs with
    |[x, y] => Aa (g, h, x, y)
    | _ => Af)
  |none => Af
theorem WM{e : Ao}{h:Aj}{x:Ao}(q : Jl e = Aa (g, h, x, y)) : ∃ p p' pos pos', e = .Call (.Name g p) [.Call (.Name h p') [x, y] [] pos'] [] pos := by
  unfold Jl at q;cases c : Kb e with
  |none => rw[c]at q;cases q
  |some t=>
    obtain⟨g', h', bs⟩ := t;rw[c]at q
    match bs, q, c with
    |[a, b], q, c => cases q;exact Wr c
noncomputable def Jh : Es -> Ap (E × E)
 |.cons (.tupI (.rng2 a b)) .nil => Aa (a, b)
 |_ => Af
theorem U9{a b : E}(q : Jh as = Aa (a, b)) : as = .cons (.tupI (.rng2 a b)) .nil := by
 unfold Jh at q;split at q
 ·cases q;rfl
 ·cases q
noncomputable def Qx(e : Ao) : Ap (Aj × Aj × Ao) := match Kb e with
  | some (g, h, bs) => (match bs with
    |[x] => Aa (g, h, x)
    | _ => Af)
  |none => Af
noncomputable def Mn(_ : Es) : Ap E := Af
noncomputable def Mr(e : Ao) : Ap (Aj × Aj) := (Mi e).bind fun t => (Ja t.1).bind fun x => (Ja t.2.1).bind fun y => Aa (x.1, y.1)
theorem N4{e : Ao}{y:Aj}(q : Mr e = Aa (x, y)) : ∃ p1 p2 p3, e = .Subscript (.Name x p1) (.Name y p2) p3 := by
 obtain⟨⟨v, s, p⟩, e1, q⟩ := AS.mp q;obtain⟨⟨x', p1⟩, e2, q⟩ := AS.mp q;obtain⟨⟨y', p2⟩, e3, q⟩ := AS.mp q;cases q;have x1 := Oj e1;have x2 := JC e2;have x3 := JC e3;dsimp only at x1 x2 x3;subst x1 x2 x3;exact⟨_, _, _, rfl⟩
noncomputable def Je(e : Ao) : An := (Mi e).isSome
theorem NM{e : Ao}(q : Je e = Ac) : ∃ o a p, e = .Subscript o a p := by
 obtain⟨t, h⟩ := RG.mp q;exact⟨_, _, _, Oj h⟩
noncomputable def two(e : Ao) : Ap (Ao × Ao) := (Qg e).bind fun t => match t.1 with
  |[a, b] => Aa (a, b)
  |_ => Af
theorem Pv{e a b : Ao}(q : two e = Aa (a, b)) : ∃ k p, e = .Tuple [a, b] k p := by
  obtain⟨⟨es, k, p⟩, e1, q⟩ := AS.mp q;have x1 := U8 e1;dsimp only at x1;subst x1
  match es, q with
  |[a', b'], q => cases q;exact⟨_, _, rfl⟩
noncomputable def Jn : Es -> Ap E
  | .cons a r => (match r with
    |.nil => Aa a
    | _ => Af)
  |.nil => Af
theorem Xh{a:E}(q : Jn as = Aa a) : as = .cons a .nil := by
 unfold Jn at q;split at q
 ·split at q
  ·cases q;rfl
  ·cases q
 ·cases q
noncomputable def Ji : Ao -> Ap Ao
  | .Subscript x s _ => (match s with
    | .Slice l h st _ => (match l, h, st with
      | none, Af, Aa t => (match t with
        | .UnaryOp op u _ => (match op, u with
          |.USub, .Constant (.int 1) _ _ => Aa x
          | _, _ => Af)
        | _ => Af)
      | _, _, _ => Af)
    | _ => Af)
  |_ => Af
theorem Vq{e x : Ao}(q : Ji e = Aa x) : ∃ u1 p1 p2 p3 pos, e = .Subscript x (.Slice Af Af (Aa (.UnaryOp .USub (.Constant (.int 1) u1 p1) p2)) p3) pos := by
 unfold Ji at q
 repeat' split at q
 all_goals first|cases q;done|skip
 cases q;exact⟨_, _, _, _, _, rfl⟩
noncomputable def J9 : Ao -> Ap (Aj × Ao)
  | .Call f as ks cp => (match f, as, ks with
    | .Attribute o m ap, [v], [] => (match o with
      |.Name x _ => if (m==("pop" : Aj)&&ap.endLine==cp.line&&Dy v) = Ac then Aa (x, v) else Af
      | _ => Af)
    | _, _, _ => Af)
  |_ => Af
theorem VJ{e v : Ao}(q : J9 e = Aa (x, v)) : ∃ p ap cp, e = .Call (.Attribute (.Name x p) "pop" ap) [v] [] cp /\ ap.endLine = cp.line /\ Dy v = Ac := by
 unfold J9 at q
 repeat' split at q
 all_goals first|cases q;done|skip
 rename_i h;cases q;simp only[Al, Bi]at h;obtain⟨⟨rfl, h1⟩, h2⟩ := h;exact⟨_, _, _, rfl, h1, h2⟩
noncomputable def Mq(st : Bq) : Ap (Aj × Aj × Aj × Aj × Ao) := (Qi st).bind fun t => (one t.1).bind fun u => (two u).bind fun ab => (Mr ab.1).bind fun xy => (Mr ab.2).bind fun xz => (two t.2.1).bind fun cd => if (Je cd.1&&Je cd.2) = Ac then Aa (xy.1, xy.2, xz.1, xz.2, t.2.1) else Af
theorem VS{st : Bq}{y x' z:Aj}{v:Ao}(q : Mq st = Aa (x, y, x', z, v)) : ∃ p1 p2 p3 p4 p5 p6 kt tp o a p o' a' p' q0 q1 pos, v = .Tuple [.Subscript o a p, .Subscript o' a' p'] q0 q1 /\ st = .Assign [.Tuple [.Subscript (.Name x p1) (.Name y p2) p3, .Subscript (.Name x' p4) (.Name z p5) p6] kt tp] (.Tuple [.Subscript o a p, .Subscript o' a' p'] q0 q1) pos := by
 obtain⟨⟨ts, w, pos⟩, e5, q⟩ := AS.mp q;obtain⟨t, e6, q⟩ := AS.mp q;obtain⟨⟨a, b⟩, e1, q⟩ := AS.mp q;obtain⟨⟨y1, y2⟩, e2, q⟩ := AS.mp q;obtain⟨⟨z1, z2⟩, e3, q⟩ := AS.mp q;obtain⟨⟨c, d⟩, e4, q⟩ := AS.mp q;by_cases hs : (Je c&&Je d) = Ac
 ·rw[AH hs]at q;cases q;rw[Al]at hs;have x5 := Va e5;have x6 := O9 e6;dsimp only at x5 x6 e4;obtain⟨k1, t1, rfl⟩ := Pv e1;obtain⟨u1, u2, u3, rfl⟩ := N4 e2;obtain⟨u4, u5, u6, rfl⟩ := N4 e3;obtain⟨k2, t2, rfl⟩ := Pv e4;obtain⟨o, a, p, rfl⟩ := NM hs.1;obtain⟨o', a', p', rfl⟩ := NM hs.2;subst x6 x5;exact⟨_, _, _, _, _, _, _, _, _, _, _, _, _, _, _, _, _, rfl, rfl⟩
 ·rw[AO hs]at q;cases q
noncomputable def QD : Ao -> Ap (Ao × Ae)
  | .Subscript v s _ => (match s with
    | .Slice lo hi st _ => (match lo with
      | some (.Constant (.int k) _ _) => (match hi with
        | none => (match st with
          |some (.Constant (.int j) _ _) => if j = 2 then Aa (v, k) else Af
          | _ => Af)
        | some _ => Af)
      | _ => Af)
    | _ => Af)
  |_ => Af
noncomputable def Mm(_ : Es) : Ap (E × Ae) := Af
mutual
noncomputable def AY : Ag -> Tc -> Ao -> E -> An
  |0, _, _, _ => Ad
  |n+1, T, e, c => match c with
    |.non => (match e with | .Constant .none _ _ => Ac|_ => Ad)
    |.bl b => (match e with | .Constant (.bool b') _ _ => b' == b|_ => Ad)
    |.int i => (match e with | .Constant (.int j) _ _ => decide (j = i)|_ => Ad)
    |.str x => (match e with | .Constant (.str y) _ _ => decide (y = x)|_ => Ad)
    |.var i => (match e with | .Name x _ => isV T x i|_ => Ad)
    |.glob g => Ad
    |.bin op a b => (match e with | .BinOp x op' y _ => decide (op' = op)&&AY n T x a&&AY n T y b|_ => Ad)
    |.un op a => Ad
    |.no a => (match e with | .UnaryOp .Not x _ => AY n T x a|_ => Ad)
    |.and es => (match e with | .BoolOp .And xs _ => chkEs n T xs es && !xs.isEmpty|_ => Ad)
    |.or es => (match e with | .BoolOp .Or xs _ => chkEs n T xs es && !xs.isEmpty|_ => Ad)
    |.cmp op a b => (match e with | .Compare x [op'] [y] _ => decide (op' = op) && !behindInMarks op y&&AY n T x a&&AY n T y b|_ => Ad)
    |.cmp2 op1 op2 a b c => (match e with | .Compare x [o1, o2] [y, z] _ => decide (o1 = op1)&&decide (o2 = op2) && !lastMarks [op1, op2] [y, z]&&AY n T x a&&AY n T y b&&AY n T z c|_ => Ad)
    |.ite c a b => Ad
    |.call f as => (match e with | .Call (.Name g _) (x::xs) [] _ => (T.fns.any fun p => p.1==g&&p.2.1==f&&p.2.2==xs.length+1)&&decide (xs.length<900)&&glB T g&&Jk g&&chkEs n T (x::xs) as|_ => Ad)
    |.bi b as => (match e with | .Call (.Name g _) (x::xs) [] _ => Mk b==Aa g&&isB T g&&chkEs n T (x::xs) as|_ => Ad)||QM T e b as||(match Jh as with|some (a, c) => (match Jl e with|some (g, h, x, y) => decide (b = .list)&&g==("list" : Aj)&&h==("range" : Aj)&&isB T g&&isB T h&&Dy x&&Dy y&&AY n T x a&&AY n T y c|none => Ad)|none => Ad)||(match Mm as with|some (a, k) => (match QD e with|some (x, j) => decide (b = .stp)&&decide (j = k)&&decide (0 <= k)&&AY n T x a|none => Ad)|none => Ad)||(match Mn as with|some a => (match Qx e with|some (g, h, x) => decide (b = .lset)&&g==("len" : Aj)&&h==("set" : Aj)&&isB T g&&isB T h&&Dy x&&AY n T x a|none => Ad)|none => Ad)||(match Mh as with|some (a, c) => (match QP e with|some (x, y, _) => decide (b = .tlt) && !behindInMarks .Lt y&&AY n T x a&&AY n T y c|none => Ad)|none => Ad)||(match Jn as with|some a => (match Ji e with|some x => decide (b = .rvs)&&AY n T x a|none => Ad)|none => Ad)
    |.isi a ks => (match ks with | [k] => (match e with | .Call (.Name g _) [x, .Name t _] [] _ => g==("isinstance" : Aj)&&isB T g&&Mj k==Aa t&&isB T t&&Dy x&&AY n T x a|_ => Ad)|_ => Ad)
    |.idx a i => (match e with | .Subscript x y _ => Ly y&&AY n T x a&&AY n T y i|_ => Ad)
    |.sl a lo hi => (match e with | .Subscript x (.Slice l h Af _) _ => AY n T x a&&chkO n T l lo&&chkO n T h hi|_ => Ad)
    |.tup es => (match e with | .Tuple xs _ _ => chkEs n T xs es&&decide (xs.length <= 1000)|_ => Ad)
    |.lst es => (match e with | .List xs _ => chkEs n T xs es&&decide (xs.length <= 1000)|_ => Ad)
    |.comp elt t it c => (match e with | .ListComp x [⟨.Name y _, iter, ifs, 0⟩] scope _ => chkI n T Ad iter it&&Jg iter&&Jm T scope [t] (Ig [t] [y] T.N)&&tgO (T.blk scope [t] [y]) scope t y&&chkT n (T.blk scope [t] [y]) ifs c&&AY n (T.blk scope [t] [y]) x elt|_ => Ad)
    |.compT elt ts it c => (match e with | .ListComp x [⟨.Tuple ys _ _, iter, ifs, 0⟩] scope _ => (DU ys).isSome&&chkI n T Ac iter it&&Jg iter&&Jm T scope ts (Ig ts (tgN ys) T.N)&&tgB (T.blk scope ts (tgN ys)) ts (tgN ys)&&chkT n (T.blk scope ts (tgN ys)) ifs c&&AY n (T.blk scope ts (tgN ys)) x elt|_ => Ad)
    |.tupI _ => Ad
    |.dnew => Ad
    |.fld _ _ => Ad
noncomputable def Hl : Ag -> Tc -> Ao -> E -> An
  |0, _, _, _ => Ad
  |n+1, T, e, c => match e with
    |.UnaryOp .Not x _ => (match c with | .no a => Hl n T x a|_ => Ad)
    |.BoolOp .And xs _ => (match c with | .and es => chkBs n T xs es && !xs.isEmpty|_ => Ad)
    |.BoolOp .Or xs _ => (match c with | .or es => chkBs n T xs es && !xs.isEmpty|_ => Ad)
    | .Compare x ops ys _ => (match c with
      |.cmp op a b => (match ops, ys with | [op'], [y] => decide (op' = op) && !behindInMarks op y&&AY n T x a&&AY n T y b|_, _ => Ad)
      |.cmp2 op1 op2 a b c => (match ops, ys with | [o1, o2], [y, z] => decide (o1 = op1)&&decide (o2 = op2) && !lastMarks [op1, op2] [y, z]&&AY n T x a&&AY n T y b&&AY n T z c|_, _ => Ad)
      |.bi b as => QB T (AY n) x ops ys b as
      | _ => Ad)
    |e => K7 e&&AY n T e c
noncomputable def chkBs : Ag -> Tc -> Ab Ao -> Es -> An
  |0, _, _, _ => Ad
  |n+1, T, xs, es => match xs, es with
    |[], .nil => Ac
    |x::xs, .cons e es => Hl n T x e&&chkBs n T xs es
    |_, _ => Ad
noncomputable def chkEs : Ag -> Tc -> Ab Ao -> Es -> An
  |0, _, _, _ => Ad
  |n+1, T, xs, es => match xs, es with
    |[], .nil => Ac
    |x::xs, .cons e es => Dy x&&AY n T x e&&chkEs n T xs es
    |_, _ => Ad
noncomputable def chkO : Ag -> Tc -> Ap Ao -> E -> An
  |0, _, _, _ => Ad
  |n+1, T, x, e => match x with
    |none => (match e with | .non => Ac|_ => Ad)
    |some x => (match e with | .non => Ad|e => AY n T x e)
noncomputable def chkT : Ag -> Tc -> Ab Ao -> E -> An
  |0, _, _, _ => Ad
  |n+1, T, xs, e => match xs with
    |[] => (match e with | .bl Ac => Ac|_ => Ad)
    |[x] => Hl n T x e
    |_ => Ad
noncomputable def chkI : Ag -> Tc -> An -> Ao -> I -> An
  |0, _, _, _, _ => Ad
  |n+1, T, tu, e, i => match i with
    |.e a => AY n T e a
    |.rng a => (match e with | .Call (.Name g _) [x] [] _ => g==("range" : Aj)&&isB T g&&Dy x&&AY n T x a|_ => Ad)
    |.enm a => (match e with | .Call (.Name g _) [x] [] _ => tu&&g==("enumerate" : Aj)&&isB T g&&Dy x&&AY n T x a|_ => Ad)
    |.zip a b => (match e with | .Call (.Name g _) [x, y] [] _ => tu&&g==("zip" : Aj)&&isB T g&&Dy x&&Dy y&&AY n T x a&&AY n T y b|_ => Ad)
    |.rng2 a b => (match e with | .Call (.Name g _) [x, y] [] _ => g==("range" : Aj)&&isB T g&&Dy x&&Dy y&&AY n T x a&&AY n T y b|_ => Ad)
    |.zip3 a b c => Ad
end
noncomputable def Qn(_ : Ag)(_ : Tc)(_ : Ag)(_ : Ab Bq)(_ : Ss) : An := Ad
mutual
noncomputable def Eh : Ag -> Tc -> Bq -> S -> An
  |0, _, _, _ => Ad
  |n+1, T, st, s => match s with
    |.pass => Ad
    |.brk => Ad
    |.cont => Ad
    |.asg i _ e => (match st with | .Assign [.Name x _] v _ => T.N[i]? == Aa x&&Io T x&&AY n T v e|_ => Ad)
    |.asgT ts e => (match st with | .Assign [.Tuple ys _ _] v _ => (DU ys).isSome&&tgC T ts (tgN ys)&&(P9 v||Ds 4 ys.length)&&AY n T v e|_ => Ad)
    |.expr e => (match st with | .Expr v _ => HV v&&AY n T v e|_ => Ad)
    |.ret e => (match st with | .Return (Aa v) _ => AY n T v e|_ => Ad)
    |.retN => Ad
    |.ife c a b => (match st with | .If t xs ys _ => Hl n T t c&&chkSs n T xs a&&chkSs n T ys b|_ => Ad)
    |.fors t it body => (match st with | .For (.Name x _) iter xs [] _ => tgC T [t] [x]&&Jg iter&&chkI n T Ad iter it&&chkSs n T xs body|_ => Ad)
    |.forT ts it body => (match st with | .For (.Tuple ys _ _) iter xs [] _ => (DU ys).isSome&&tgC T ts (tgN ys)&&Jg iter&&chkI n T Ac iter it&&chkSs n T xs body|_ => Ad)
    |.whl c body => Ad
    |.rais c as => !(T.rzs.any fun p => p.2==c)
    |.tryx _ _ _ _ => Ad
    |.app i e => (match st with | .Expr (.Call (.Attribute (.Name x _) m ap) [v] [] cp) _ => m==("append" : Aj)&&isV T x i&&ap.endLine==cp.line&&Dy v&&AY n T v e|_ => Ad)
    |.ext i e => Ad
    |.rev i => Ad
    |.clr i => Ad
    |.put i k e => (match st with | .Assign [.Subscript (.Name x _) y _] v _ => isV T x i&&Ly y&&AY n T y k&&AY n T v e|_ => Ad)
    |.swp i k l => (match Mq st with|some (x, y, x', z, v) => isV T x i&&isV T x' i&&isV T y k&&isV T z l&&AY n T v (.tup (.cons (.idx (.var i) (.var l)) (.cons (.idx (.var i) (.var k)) .nil)))|none => Ad)
    |.apop j i e => (match st with | .Expr (.Call (.Attribute (.Name x _) m ap) [v] [] cp) _ => m==("append" : Aj)&&isV T x j&&ap.endLine==cp.line&&(match J9 v with|some (y, w) => isV T y i&&AY n T w e|none => Ad)|_ => Ad)
    |.ins _ _ _ => Ad
    |.dput _ _ _ => Ad
    |.dsd _ _ _ => Ad
    |.rel _ => Ad
noncomputable def chkSs : Ag -> Tc -> Ab Bq -> Ss -> An
  |0, _, _, _ => Ad
  |n+1, T, sts, ss => match ss with
    |.nil => sts.isEmpty
    |.cons (.rel i) ss => chkSs n T sts ss
    | .cons s ss => (match sts with
      |st::r => Eh n T st s&&chkSs n T r ss
      | [] => Ad)
end
noncomputable def FZ(fuel : Ag)(hot : An)(fns : Ab (Aj × Ag × Ag))(bl : Ab Aj)(rzs exs gls : Ab (Aj × Ag))(ps N : Ab Aj)(st : Bq)(df : Df) : An:=
  let sc := E1 st
  sc.kind==.function && !sc.isCoroutine && !sc.isGenerator&&IZ N&&N.take ps.length==ps&&ps.all (fun x => sc.names.lookup x==Aa .local||sc.names.lookup x==Aa .cell)&&sc.names.all (fun y => y.2 != .free)&&N.length==df.n &&
  (match hot with
  |true => Qn fuel ⟨sc, N, fns, bl, rzs, exs, gls⟩ 0 (F7 st) df.body
  | false => chkSs fuel ⟨sc, N, fns, bl, rzs, exs, gls⟩ (F7 st) df.body)
structure XT (up : Ag -> Ab Ag) (xn : Ag -> Ab D -> R Ex) (CL : ClA) (rzs exs : Ab (Aj × Ag)) (K : Fg) (mg : Aj -> Ap Ah) : Prop where
 xc : ∀ c C, CL c = Aa C -> XcOk K C
 rz : ∀ p ∈ rzs, ∃ C, CL p.2 = Aa C /\ mg p.1 = Aa (.ref C)
 ex : ∀ p ∈ exs, ∃ C, mg p.1 = Aa (.ref C) /\ Za K CL up p.2 C /\ ∀ c D, CL c = Aa D -> Sz K (.ref D) (.ref C) = Aa ((up c).contains p.2)
 made : ∀ c ds, xn c ds = .bad \/ xn c ds = .ok ⟨c, []⟩
 xb : ∀ c, (∀ p ∈ rzs, p.2 ≠ c) -> ∀ ds, xn c ds = .bad
noncomputable def MB(K : Fg)(mg : Aj -> Ap Ah)(CL : ClA)(x : Aj)(d : D) : Prop := ∃ u v, mg x = Aa u /\ Bo v u /\ ∀ H A, Rep K CL H A v d
structure VX (Γ : Gam) (CL : ClA) (k : Ag) (W : XW) (T : Tc) (X : Cx) : Prop where
 sc : X.env.scope = T.sc
 kd : T.sc.kind = .function
 N : X.N = T.N
 nd : T.N.Nodup
 calm : X.calm = Ac
 room : Room k X.A
 bl : ∀ x, x ∈ T.bl -> X.mg x = Af
 fn : ∀ p ∈ T.fns, ∃ f fd ps, X.mg p.1 = Aa (.ref f) /\ CI X.K (.ref f) = Ac /\ Ga X.K fd ps [] /\ ps.length = p.2.2%1000 /\ (p.2.2<1000 -> FnOk X.prog X.w X.K X.mg X.base (CXR X.prog X.w) k f fd ps (spD X.K CL (p.2.2%1000) (Γ.fr p.2.1) (Γ.F p.2.1))) /\ (1000 <= p.2.2 -> HotOk X.prog X.w X.K X.mg X.base k f fd ps (spH X.K CL (p.2.2%1000) (Γ.fr p.2.1) (Γ.F p.2.1)))
 own : EC (model X.prog X.w) X.A X.env X.xe
 px : ∀ A, HY (CXR X.prog X.w) X (EKW X.K CL A W)
 rz : Mz X CL W
 xt : XT Γ.up Γ.xn CL T.rzs T.exs X.K X.mg
 gl : ∀ p ∈ T.gls, MB X.K X.mg CL p.1 (Γ.G p.2)
theorem O8 : ∀ A, HY (CXR X.prog X.w) X (EKW X.K CL A W0) := fun A pI σ H s ev s' I h => by
 obtain⟨e, T, cls, H', _, _, _, _, _, _, _, _, _, _, x, _, w⟩ := h;exact w.elim
theorem QF : Mz X CL W0 := fun _ _ _ _ _ _ _ _ _ _ _ _ _ z => z.elim
noncomputable def Rf{α : Type}(g f : Rho -> R α) : Prop := ∀ ρ, g ρ = .bad \/ g ρ = f ρ
section
variable{X : Cx}{CL : ClA}{W : XW}{a : Ao}{f g : Rho -> R D}
theorem SE.ref(h : SE X CL W a f)(r : Rf g f) : SE X CL W a g := fun A => PE.weak (h A) fun σ H Q ⟨hA, ρ, q, p⟩ => ⟨hA, ρ, q, by
 rcases r ρ with e|e
 ·rw[e]at p;exact p.elim
 ·rw[e]at p;exact p⟩
theorem SB.ref{f g : Rho -> R An}(h : SB X CL W a f)(r : Rf g f) : SB X CL W a g := fun A => PT.weak (h A) fun σ H Q ⟨hA, ρ, q, p⟩ => ⟨hA, ρ, q, by
 rcases r ρ with e|e
 ·rw[e]at p;exact p.elim
 ·rw[e]at p;exact p⟩
theorem SW.ref{f g : Rho -> R An}(h : SW X CL W a f)(r : Rf g f) : SW X CL W a g := fun A => PW.weak (h A) fun σ H Q ⟨hA, ρ, q, p⟩ => ⟨hA, ρ, q, by
 rcases r ρ with e|e
 ·rw[e]at p;exact p.elim
 ·rw[e]at p;exact p⟩
theorem SC.ref(h : SC X CL W fr a f)(r : Rf g f) : SC X CL W fr a g := fun A => PE.weak (h A) fun σ H Q ⟨hA, ρ, q, p⟩ => ⟨hA, ρ, q, by
 rcases r ρ with e|e
 ·rw[e]at p;exact p.elim
 ·rw[e]at p;exact p⟩
theorem SS.ref{st : Bq}{f g : Rho -> O}(h : SS X CL W st f)(r : ∀ ρ, g ρ = .bad \/ g ρ = f ρ) : SS X CL W st g := fun Fz B => PS.weak (h Fz B) fun D σ H ⟨ρ, x, p⟩ => ⟨ρ, x, by
 rcases r ρ with e|e
 ·rw[e]at p;exact p.elim
 ·rw[e]at p;exact p⟩
end
theorem JI : ∀{l : Ab Aj}, IZ l = Ac -> l.Nodup
 |[], _ => DD
 |x::xs, h => by
  unfold IZ at h;simp only[Al, Bu, Q9, fL]at h;exact List.nodup_cons.mpr ⟨h.1, JI h.2⟩
section
variable{T : Tc}{X : Cx}{Γ : Gam}{CL : ClA}{k : Ag}{W : XW}
theorem UR(h : Mu T x = Ac) : Vis T.sc x := by
 unfold Mu at h;split at h
 ·exact .inl (by assumption)
 ·exact .inr (.inl (by assumption))
 ·exact .inr (.inr (by assumption))
 ·cases h
theorem LF(h : Io T x = Ac) : Loc T.sc x := by
 unfold Io at h;split at h
 ·exact .inl (by assumption)
 ·exact .inr (by assumption)
 ·cases h
theorem Lz(h : Jk x = Ac) : (x==("__debug__" : Aj)) = Ad /\ (x==("__classdict__" : Aj)) = Ad /\ x ≠ "__name__" := by
 unfold Jk at h;simp only[Al, Bu]at h;exact⟨h.1.1, h.1.2, fun e => by subst e;exact absurd h.2 (by simp)⟩
theorem FT{i : Ag}(v : VX Γ CL k W T X)(h : isV T x i = Ac) : PE X (.Name x pos) (FX i) := by
 unfold isV at h;simp only[Al, Bi]at h;obtain⟨h2, h3, _⟩ := Lz h.2;exact Xr (by rw[v.N];exact h.1.1) (by rw[v.sc];exact UR h.1.2) h2 h3
theorem GC(v : VX Γ CL k W T X)(h : isB T x = Ac) : Gl X x /\ X.mg x = Af /\ x ≠ "__name__" /\ (x==("__debug__" : Aj)) = Ad := by
 unfold isB glB at h;simp only[Al, Bi, Q9, AV]at h;obtain⟨h2, h3, h4⟩ := Lz h.2;exact⟨by show X.env.scope.names.lookup x = _;rw[v.sc];exact h.1.2, v.bl x h.1.1, h4, h2⟩
theorem CQ{x:Ao}(h : Dy x = Ac) : Ax (x::xs) env = (Ad, eval x env)::Ax xs env := by
 cases x <;> first|rfl|cases h
theorem Uy(h : Ly y = Ac) : Ls y := by
 intro o i;cases y <;> first|rfl|cases h
theorem JW{e : Ao}(h : Jg e = Ac) : ∀ x, Ch e env x = pure x := by
 intro x;cases e <;> first|rfl|cases h
theorem Os{e : Ao}{t : Ap Ao}(h : HV e = Ac) : Dx e t l env = pure Ad := by
 cases e <;> first|rfl|cases h
theorem VQ{e : Ao}(h : K7 e = Ac) : ∀ whole, Gk e env whole = (do let v <-whole;FD e.pos;holding [v] (truthy v)) := by
 intro whole;cases e <;> first|rfl|cases h
theorem Tx(v : VX Γ CL k W T X)(scope : BS) : relabel scope X.env = Me T.sc scope := by
 unfold relabel Me;have : ∀ n, X.env.kindOf n = T.sc.names.lookup n := fun n => by show X.env.scope.names.lookup n = _;rw[v.sc]
 simp only[this, v.sc]
theorem L9{N':Ab Aj}(v : VX Γ CL k W T X)(h : Jm T scope ts N' = Ac) : BlockOk X scope N' ts /\ N'.Nodup /\ scope.kind = .function := by
 unfold Jm at h;simp only[Al, Bi, Dc, CU, HC, ne_eq]at h;obtain⟨⟨⟨⟨⟨h1, h2⟩, h4⟩, h5⟩, h6⟩, h7⟩ := h;have at7 : ∀ i x, N'[i]? = Aa x -> i ∈ ts \/ ((scope.names.lookup x ≠ Aa .local /\ scope.names.lookup x ≠ Aa .cell) /\ (scope.names.lookup x ≠ Aa .free \/ T.N[i]? = Aa x)) := fun i x e => by
  have hi := (AK.mp e).1;have := h7 i (Db.mpr hi);rcases this with z|z
  ·exact .inl (by simpa using z)
  ·rw[e]at z;simp only[Al, HC, ne_eq, CU, Bi]at z;exact .inr z
 refine⟨⟨h1, h2, fun y hy hl => by rw[h2 y hy, hl], fun y hy hf => ?_, by rw[v.N];exact h5, fun i x e hf hn => ?_, fun i x e hl => ?_⟩, JI h6, h1⟩
 ·rw[v.sc];rcases h4 y hy with (z|z)|z
  ·exact absurd hf z
  ·exact .inl z
  ·exact .inr z
 ·rw[v.N];rcases at7 i x e with z|⟨_, z⟩
  ·exact absurd z hn
  ·exact z.resolve_left fun q => q hf
 ·rcases at7 i x e with z|⟨z, _⟩
  ·exact z
  ·exact hl.elim (fun q => absurd q z.1) (fun q => absurd q z.2)
theorem VX.blk{xs:Ab Aj}{cl:Ab (Aj × Ai)}{C:Ai}{s : Ak}{fp:Ab Ai}(v : VX Γ CL k W T X)(h : Jm T scope ts (Ig ts xs T.N) = Ac) : VX Γ CL k W0 (T.blk scope ts xs) (cxC X scope cl C (Ig ts xs T.N) s H fp) := by
 obtain⟨_, h2, h3⟩ := L9 v h;exact⟨Tx v scope, h3, rfl, h2, v.calm, v.room, v.bl, v.fn, PassesOwn.never, O8, QF, v.xt, v.gl⟩
theorem VL{t : Ag}(v : VX Γ CL k W T X)(hfn : scope.names.lookup x = Aa .cell -> X.fn x = Ac)(h : tgO T scope t x = Ac) : PG X (.Name x pos) (DW t) := by
 unfold tgO at h;simp only[Al, CU, Bi]at h;rcases h with ⟨h1, h2|h2⟩
 ·exact IV (by rw[v.N];exact v.nd) (by rw[v.N];exact h1) (by rw[v.sc];exact .inl h2) (.inr (by rw[v.sc];exact h2))
 ·exact IV (by rw[v.N];exact v.nd) (by rw[v.N];exact h1) (by rw[v.sc];exact .inr h2.1) (.inl (hfn h2.2))
theorem Ks{r:Ab Ao}{zs:Ab Aj}(h : DU (y::r) = Aa zs) : ∃ x p ws, y = .Name x p /\ DU r = Aa ws /\ zs = x::ws := by
 cases y with
 |Name x p=>
  have h' : (DU r).map (x :: ·) = Aa zs := h;cases e : DU r with
  |none => rw[e]at h';cases h'
  |some ws => rw[e]at h';cases h';exact⟨x, p, ws, rfl, rfl, rfl⟩
 |_ => cases h
theorem KW(x : Aj)(p : AN)(r : Ab Ao)(env : BJ) : BL (.Name x p::r) env = (Ad, assign (.Name x p) env)::BL r env := rfl
theorem Kq : ∀(ys : Ab Ao)(zs : Ab Aj), DU ys = Aa zs -> (BL ys env).length = ys.length /\ (BL ys env).findIdx? (·.1) = Af /\ (BL ys env).map (·.2) = ys.map fun y => assign y env := by
 intro ys
 induction ys with
 |nil => intro _ _;exact⟨rfl, rfl, rfl⟩
 |cons y r ih=>
  intro zs h;obtain⟨x, p, ws, rfl, e, rfl⟩ := Ks h;obtain⟨h1, h2, h3⟩ := ih ws e;rw[KW];refine⟨?_, ?_, ?_⟩
  ·rw[BA, BA, h1]
  ·rw[List.findIdx?_cons, h2];simp
  ·rw[Cb, Cb, h3]
theorem VP(v : VX Γ CL k W T X) : ∀(ys : Ab Ao)(ts : Ab Ag)(zs : Ab Aj), DU ys = Aa zs -> tgB T ts zs = Ac -> PGs X ys (ts.foldr (fun t u => FW (DW t) u) FY) /\ ts.length = ys.length := by
 intro ys
 induction ys with
 |nil=>
  intro ts zs e h;cases e;cases ts with
  |nil => exact⟨Lw, rfl⟩
  |cons t ts => cases h
 |cons y r ih=>
  intro ts zs e h;obtain⟨x, p, ws, rfl, e2, rfl⟩ := Ks e;cases ts with
  |nil => cases h
  |cons t ts=>
   have h' : (T.N[t]? == Aa x&&T.sc.names.lookup x==Aa .local&&tgB T ts ws) = Ac := h;simp only[Al, Bi]at h';obtain⟨h1, h2⟩ := ih ts ws e2 h'.2;exact⟨JJ (IV (by rw[v.N];exact v.nd) (by rw[v.N];exact h'.1.1) (by rw[v.sc];exact .inl h'.1.2) (.inr (by rw[v.sc];exact h'.1.2))) h1 (by rw[KW];rfl), congrArg (· + 1) h2⟩
theorem VO(v : VX Γ CL k W T X)(hn : (DU ys).isSome = Ac)(h : tgB T ts (tgN ys) = Ac) : PG X (.Tuple ys kk pos) (Iq X.K ts.length (ts.foldr (fun t u => FW (DW t) u) FY)) := by
 cases e : DU ys with
 |none => rw[e]at hn;cases hn
 |some zs=>
  have e2 : tgN ys = zs := by unfold tgN;rw[e];rfl
  rw[e2]at h;obtain⟨h1, h2⟩ := VP v ys ts zs e h;obtain⟨h3, h4, _⟩ := Kq (env := X.env) ys zs e;exact J2 v.calm h1 (by rw[h3, h2]) h4
end
noncomputable def Es.len : Es -> Ag
 |.nil => 0
 |.cons _ es => es.len+1
theorem LH(Γ : Gam)(ρ : Rho) : ∀(es : Es)(ds : Ab D), evA Γ ρ es = .ok ds -> ds.length = es.len
 |.nil, ds, h => by cases h;rfl
 |.cons e es, ds, h => by
  obtain⟨x, h1, h2⟩ := Hc (Oe Γ ρ e es ▸ h);obtain⟨xs, h3, h4⟩ := Hc h2;cases h4;exact congrArg (· + 1) (LH Γ ρ es xs h3)
theorem On(Γ : Gam)(ρ : Rho) : ∀(es : Es)(ds : Ab D), evB Γ ρ es = .ok ds -> ds.length = es.len
 |.nil, ds, h => by cases h;rfl
 |.cons e es, ds, h => by
  obtain⟨x, h1, h2⟩ := Hc (Od Γ ρ e es ▸ h);obtain⟨xs, h3, h4⟩ := Hc h2;cases h4;exact congrArg (· + 1) (On Γ ρ es xs h3)
theorem Pw(Γ : Gam)(ρ : Rho)(e : E)(h : shE ρ e = Ac) : top ρ e (evE Γ ρ e) = evE Γ ρ e := by
 cases e with
 |var i=>
  show Eb ρ i = DO ρ i;have h' : shV ρ i = Ac := h;unfold shV at h';unfold Eb DO;cases q : ρ[i]? with
  |none => rfl
  |some x=>
   cases x with
   |none => rfl
   |some y=>
    obtain⟨d, o⟩ := y;cases o with
    |true => rw[q]at h';cases h'
    |false => rfl
 |_ => rfl
theorem Pi(Γ : Gam)(ρ : Rho) : ∀(es : Es), G1 ρ es = Ac -> evB Γ ρ es = evA Γ ρ es
 |.nil, _ => rfl
 |.cons e es, h => by
  simp only[Th, Al]at h;rw[Oe, Od, Pw Γ ρ e h.1, Pi Γ ρ es h.2]
theorem LP(Γ : Gam)(c : E) : Rf (fun ρ => evE Γ ρ c) (fun ρ => top ρ c (evE Γ ρ c)) := fun ρ => by
 by_cases h : shE ρ c = Ac
 ·exact .inr (Pw Γ ρ c h).symm
 ·cases c with
  |var i=>
   refine .inl ?_;show DO ρ i = .bad;have h' : ¬ shV ρ i = Ac := h;unfold shV at h';unfold DO;cases q : ρ[i]? with
   |none => rfl
   |some x=>
    cases x with
    |none => rfl
    |some y=>
     obtain⟨d, o⟩ := y;cases o with
     |true => rfl
     |false => rw[q]at h';exact absurd rfl h'
  |_ => exact absurd rfl h
noncomputable def Pcs(X : Cx)(CL : ClA)(W : XW)(e : Ao)(f : Rho -> R D) : Prop := ∃ tg iter elt ifs scope pos N' ts fi fc fe as g, e = .ListComp elt [⟨tg, iter, ifs, 0⟩] scope pos /\ BlockOk X scope N' ts /\ SI X CL W tg iter fi /\ GG X.K CL ts as g /\
 (∀ cl C s H fp, PG (cxC X scope cl C N' s H fp) tg g) /\ (∀ cl C s H fp, STs (cxC X scope cl C N' s H fp) CL ifs fc) /\ (∀ cl C s H fp, SE (cxC X scope cl C N' s H fp) CL W0 elt fe) /\ (∀ x, Ch iter X.env x = pure x) /\
 ∀ ρ, f ρ = (fi ρ).bind fun xs => (noX (Bh (fun x => (as x ρ).bind fc) (fun x => (as x ρ).bind fe) xs)).bind fun ys => .ok (.lst ys)
theorem Pcs.sc{W:XW}{e : Ao}{f:Rho -> R D}(hc : X.calm = Ac)(h : Pcs X CL W e f) : SC X CL W Ac e f := by
 obtain⟨tg, iter, elt, ifs, scope, pos, N', ts, fi, fc, fe, as, g, rfl, B, hi, hGG, hg, ht, he, hs, ef⟩ := h;exact SC.congr (Vm hc B hi hGG hg ht he hs) ef
structure OkE (Γ : Gam) (CL : ClA) (W : XW) (X : Cx) (e : Ao) (c : E) : Prop where
 se : SE X CL W e (fun ρ => evE Γ ρ c)
 st : ST X CL W e (fun ρ => top ρ c (evE Γ ρ c))
 nw : DY Γ c = Ac -> SC X CL W Ac e (fun ρ => evE Γ ρ c)
 cp : HV e = Ad -> Pcs X CL W e (fun ρ => evE Γ ρ c)
section
variable{Γ : Gam}{CL : ClA}{W : XW}{X : Cx}{e : Ao}{c : E}
theorem DJ(h : SE X CL W e (fun ρ => evE Γ ρ c))(ht : ∀ ρ r, top ρ c r = r)(hn : DY Γ c = Ad)(hc : HV e = Ac) : OkE Γ CL W X e c:=
 ⟨h, by simp only[ht];exact h.st, fun z => absurd z (by rw[hn];decide), fun z => absurd z (by rw[hc];decide)⟩
theorem JS(h : SC X CL W Ac e (fun ρ => evE Γ ρ c))(ht : ∀ ρ r, top ρ c r = r)(hc : HV e = Ac) : OkE Γ CL W X e c:=
 ⟨h.se, by simp only[ht];exact h.se.st, fun _ => h, fun z => absurd z (by rw[hc];decide)⟩
theorem P8(hc : X.calm = Ac)(h : Pcs X CL W e (fun ρ => evE Γ ρ c))(ht : ∀ ρ r, top ρ c r = r) : OkE Γ CL W X e c:=
 ⟨(h.sc hc).se, by simp only[ht];exact(h.sc hc).se.st, fun _ => h.sc hc, fun _ => h⟩
end
theorem dH{k:Ki}(h : Mj k = Aa x) : ∃ T, tyK k = Aa T /\ Co x = Aa (.type T) := by
 cases k <;> simp only[Mj]at h <;> cases h
 ·exact⟨_, rfl, PyProof.Rows.boot_int⟩
 ·exact⟨_, rfl, PyProof.Rows.boot_bool⟩
 ·exact⟨_, rfl, PyProof.Rows.boot_str⟩
 ·exact⟨_, rfl, Ej⟩
 ·exact⟨_, rfl, RI⟩
structure Snd (Γ : Gam) (CL : ClA) (k : Ag) (n : Ag) : Prop where
 e : ∀(W : XW)(T : Tc)(X : Cx)(x : Ao)(c : E), VX Γ CL k W T X -> AY n T x c = Ac -> OkE Γ CL W X x c
 b : ∀(W : XW)(T : Tc)(X : Cx)(x : Ao)(c : E), VX Γ CL k W T X -> Hl n T x c = Ac -> SB X CL W x (fun ρ => (top ρ c (evE Γ ρ c)).bind BN)
 bs : ∀(W : XW)(T : Tc)(X : Cx)(xs : Ab Ao)(es : Es)(pos : AN), VX Γ CL k W T X -> chkBs n T xs es = Ac -> xs ≠ [] -> SW X CL W (.BoolOp .And xs pos) (fun ρ => (evN Γ ρ es).bind BN) /\ SW X CL W (.BoolOp .Or xs pos) (fun ρ => (evO Γ ρ es).bind BN)
 es : ∀(W : XW)(T : Tc)(X : Cx)(xs : Ab Ao)(es : Es), VX Γ CL k W T X -> chkEs n T xs es = Ac -> SA X CL W xs (fun ρ => evA Γ ρ es) /\ SAT X CL W xs (fun ρ => evB Γ ρ es) /\ xs.length = es.len /\ (∀ pos, xs ≠ [] -> SE X CL W (.BoolOp .And xs pos) (fun ρ => evN Γ ρ es) /\ SE X CL W (.BoolOp .Or xs pos) (fun ρ => evO Γ ρ es)) /\ (∀ pos, (Cn pos (Ax xs X.env)).any (·.1) = Ad)
 o : ∀(W : XW)(T : Tc)(X : Cx)(x : Ap Ao)(c : E), VX Γ CL k W T X -> chkO n T x c = Ac -> SO X CL W x (fun ρ => (top ρ c (evE Γ ρ c)).bind (slE c))
 t : ∀(T : Tc)(X : Cx)(xs : Ab Ao)(c : E), VX Γ CL k W0 T X -> chkT n T xs c = Ac -> STs X CL xs (fun ρ => (top ρ c (evE Γ ρ c)).bind BN)
 i : ∀(W : XW)(T : Tc)(X : Cx)(tu : An)(tg x : Ao)(i : I), VX Γ CL k W T X -> QC tu tg = Ac -> chkI n T tu x i = Ac -> SI X CL W tg x (fun ρ => evI Γ ρ i)
section
variable{Γ : Gam}{CL : ClA}{W : XW}{k n : Ag}{T : Tc}{X : Cx}
theorem Ux : Snd Γ CL k 0 := ⟨fun _ _ _ _ _ _ h => absurd (show Ad = Ac from h) Au, fun _ _ _ _ _ _ h => absurd (show Ad = Ac from h) Au, fun _ _ _ _ _ _ _ h => absurd (show Ad = Ac from h) Au, fun _ _ _ _ _ _ h => absurd (show Ad = Ac from h) Au, fun _ _ _ _ _ _ h => absurd (show Ad = Ac from h) Au, fun _ _ _ _ _ h => absurd (show Ad = Ac from h) Au, fun _ _ _ _ _ _ _ _ _ h => absurd (show Ad = Ac from h) Au⟩
theorem Nb{x:Ao}(h : Dy x = Ac)(hx : (Cn pos (Ax xs env)).any (·.1) = Ad) : (Cn pos (Ax (x::xs) env)).any (·.1) = Ad := by
 rw[CQ h];show (Ad||(Cn pos (Ax xs env)).any (·.1)) = Ad;rw[hx];rfl
theorem Xg(S : Snd Γ CL k n)(W : XW)(T : Tc)(X : Cx)(xs : Ab Ao)(es : Es)(v : VX Γ CL k W T X)(h : chkEs (n+1) T xs es = Ac) : SA X CL W xs (fun ρ => evA Γ ρ es) /\ SAT X CL W xs (fun ρ => evB Γ ρ es) /\ xs.length = es.len /\ (∀ pos, xs ≠ [] -> SE X CL W (.BoolOp .And xs pos) (fun ρ => evN Γ ρ es) /\ SE X CL W (.BoolOp .Or xs pos) (fun ρ => evO Γ ρ es)) /\ (∀ pos, (Cn pos (Ax xs X.env)).any (·.1) = Ad) := by
 cases xs with
 |nil=>
  cases es with
  |nil => exact⟨Yk, Vo, rfl, fun _ z => absurd rfl z, fun _ => rfl⟩
  |cons => simp[chkEs]at h
 |cons x xs=>
  cases es with
  |nil => simp[chkEs]at h
  |cons e es=>
   simp only[chkEs, Al]at h;obtain⟨⟨h0, h1⟩, h2⟩ := h;have he := S.e W T X x e v h1;obtain⟨a1, a2, a3, a4, a5⟩ := S.es W T X xs es v h2;refine⟨Vp he.se a1 (CQ h0), UB he.st a2 (CQ h0), congrArg (· + 1) a3, fun pos _ => ?_, fun pos => Nb h0 (a5 pos)⟩
   cases xs with
   |nil=>
    cases es with
    |nil => exact⟨O6 he.se, O6 he.se⟩
    |cons => cases a3
   |cons y ys=>
    cases es with
    |nil => cases a3
    |cons e' es'=>
     obtain⟨b1, b2⟩ := a4 pos (by simp)
     exact⟨Yg he.se b1, aQ he.se b2⟩
theorem ZH(S : Snd Γ CL k n)(W : XW)(T : Tc)(X : Cx)(x : Ap Ao)(c : E)(v : VX Γ CL k W T X)(h : chkO (n+1) T x c = Ac) : SO X CL W x (fun ρ => (top ρ c (evE Γ ρ c)).bind (slE c)) := by
 cases x with
 |none=>
  simp only[chkO]at h;split at h
  ·exact V6
  ·cases h
 |some x=>
  simp only[chkO]at h;split at h
  ·cases h
  ·rename_i hne;have q := V5 (S.e W T X x c v h).st;have e : slE c = fun d => (Dp d).bind fun i => .ok (Aa i) := by
    funext d
    cases c <;> first|rfl|exact absurd rfl hne
   rw[e];exact q
theorem ZF(S : Snd Γ CL k n)(T : Tc)(X : Cx)(xs : Ab Ao)(c : E)(v : VX Γ CL k W0 T X)(h : chkT (n+1) T xs c = Ac) : STs X CL xs (fun ρ => (top ρ c (evE Γ ρ c)).bind BN) := by
 cases xs with
 |nil=>
  simp only[chkT]at h;split at h
  ·exact VV
  ·cases h
 |cons x xs=>
  cases xs with
  |nil=>
   simp only[chkT]at h;exact VU (S.b W0 T X x c v h)
  |cons y ys => simp[chkT]at h
theorem ZI(S : Snd Γ CL k n)(W : XW)(T : Tc)(X : Cx)(tu : An)(tg x : Ao)(i : I)(v : VX Γ CL k W T X)(ht' : QC tu tg = Ac)(h : chkI (n+1) T tu x i = Ac) : SI X CL W tg x (fun ρ => evI Γ ρ i) := by
 have ht : tu = Ac -> bN tg = Ac := fun z => by
  subst z;cases tg <;> first|rfl|cases ht'
 cases i with
 |e a=>
  simp only[chkI]at h;exact eE (S.e W T X x a v h).se
 |rng a=>
  simp only[chkI]at h;split at h
  ·simp only[Al, Bi]at h;obtain⟨⟨⟨rfl, h1⟩, h2⟩, h3⟩ := h;obtain⟨g1, g2, _, _⟩ := GC v h1;exact X3 (S.e W T X _ a v h3).st g1 g2 (CQ h2)
  ·cases h
 |rng2 a b=>
  simp only[chkI]at h;split at h
  ·simp only[Al, Bi]at h;obtain⟨⟨⟨⟨⟨rfl, h1⟩, h2⟩, h3⟩, h4⟩, h5⟩ := h;obtain⟨g1, g2, _, _⟩ := GC v h1;exact V8 (S.e W T X _ a v h4).st (S.e W T X _ b v h5).st g1 g2 (by rw[CQ h2, CQ h3];rfl) (by rw[CQ h3];rfl)
  ·cases h
 |zip a b=>
  simp only[chkI]at h;split at h
  ·simp only[Al, Bi]at h;obtain⟨⟨⟨⟨⟨⟨h0, rfl⟩, h1⟩, h2⟩, h3⟩, h4⟩, h5⟩ := h;obtain⟨g1, g2, _, _⟩ := GC v h1;have hg := ht h0;cases tg with
   |Tuple es m tpos => exact X2 (S.e W T X _ a v h4).se (S.e W T X _ b v h5).se g1 g2 (by rw[CQ h2, CQ h3];rfl) (by rw[CQ h3];rfl)
   |_ => cases hg
  ·cases h
 |zip3 a b c => simp[chkI]at h
 |enm a=>
  simp only[chkI]at h;split at h
  ·simp only[Al, Bi]at h;obtain⟨⟨⟨⟨h0, rfl⟩, h1⟩, h2⟩, h3⟩ := h;obtain⟨g1, g2, _, _⟩ := GC v h1;have hg := ht h0;cases tg with
   |Tuple es m tpos => exact V9 (S.e W T X _ a v h3).se g1 g2 (CQ h2)
   |_ => cases hg
  ·cases h
theorem HS{c:Prop}[Ez c]{b : An} : (if c then R.ok (D.bl b) else .bad) = .bad \/ ∃ b', (if c then R.ok (D.bl b) else .bad) = .ok (.bl b') := by
 by_cases h : c
 ·rw[AH h];exact .inr ⟨_, rfl⟩
 ·rw[AO h];exact .inl rfl
theorem U6(op : DB)(d d' : D) : BD op d d' = .bad \/ ∃ b, BD op d d' = .ok (.bl b) := by
 cases op with
 |Eq => exact HS
 |NotEq => exact HS
 |In=>
  cases d' with
  |lst ys => exact HS
  |tup ys => exact HS
  |dic kvs=>
   show (match Ip d with|some k => R.ok (D.bl (kvs.any fun p => p.1==k))|none => .bad) = .bad \/ ∃ b, (match Ip d with|some k => R.ok (D.bl (kvs.any fun p => p.1==k))|none => .bad) = .ok (.bl b)
   cases Ip d with
   |some k => exact .inr ⟨_, rfl⟩
   |none => exact .inl rfl
  |_ => cases d <;> exact .inl rfl
 |NotIn=>
  cases d' with
  |lst ys => exact HS
  |tup ys => exact HS
  |_ => cases d <;> exact .inl rfl
 |Is=>
  cases d' with
  |non => cases d <;> first|exact .inr ⟨_, rfl⟩|exact .inl rfl
  |_ => cases d <;> first|exact .inl rfl|exact .inr ⟨_, rfl⟩
 |IsNot=>
  cases d' with
  |non => cases d <;> first|exact .inr ⟨_, rfl⟩|exact .inl rfl
  |_ => cases d <;> first|exact .inl rfl|exact .inr ⟨_, rfl⟩
 |_=>
  cases d with
  |int i => cases d' <;> first|exact .inr ⟨_, rfl⟩|exact .inl rfl
  |_ => exact .inl rfl
theorem OO(op : DB)(d d' : D) : (BD op d d').bind BN = .bad \/ (BD op d d').bind BN = (BD op d d').bind C1 := by
 rcases U6 op d d' with h|⟨b, h⟩
 ·rw[h];exact .inl rfl
 ·rw[h];exact .inr rfl
theorem Y2(e e' : E)(es : Es) : Rf (fun ρ => (evN Γ ρ (.cons e (.cons e' es))).bind BN) (fun ρ => ((top ρ e (evE Γ ρ e)).bind BN).bind fun c => if c = Ac then (evN Γ ρ (.cons e' es)).bind BN else .ok Ad) := fun ρ => by
 have e0 : evN Γ ρ (.cons e (.cons e' es)) = (evE Γ ρ e).bind fun x => (C1 x).bind fun c => if c = Ac then evN Γ ρ (.cons e' es) else .ok (.bl Ad) := rfl
 dsimp only;rw[e0];rcases LP Γ e ρ with z|z <;> dsimp only at z
 ·rw[z];exact .inl rfl
 ·rw[<-z];cases evE Γ ρ e with
  |bad => exact .inl rfl
  |exn x => exact .inr rfl
  |ok d=>
   cases d with
   |bl b => cases b <;> exact .inr rfl
   |_ => exact .inl rfl
theorem Y1(e e' : E)(es : Es) : Rf (fun ρ => (evO Γ ρ (.cons e (.cons e' es))).bind BN) (fun ρ => ((top ρ e (evE Γ ρ e)).bind BN).bind fun c => if c = Ac then .ok Ac else (evO Γ ρ (.cons e' es)).bind BN) := fun ρ => by
 have e0 : evO Γ ρ (.cons e (.cons e' es)) = (evE Γ ρ e).bind fun x => (C1 x).bind fun c => if c = Ac then .ok (.bl Ac) else evO Γ ρ (.cons e' es) := rfl
 dsimp only;rw[e0];rcases LP Γ e ρ with z|z <;> dsimp only at z
 ·rw[z];exact .inl rfl
 ·rw[<-z];cases evE Γ ρ e with
  |bad => exact .inl rfl
  |exn x => exact .inr rfl
  |ok d=>
   cases d with
   |bl b => cases b <;> exact .inr rfl
   |_ => exact .inl rfl
theorem Rf.tru(e : E) : Rf (fun ρ => (evE Γ ρ e).bind BN) (fun ρ => (top ρ e (evE Γ ρ e)).bind BN) := fun ρ => by
 rcases LP Γ e ρ with z|z <;> dsimp only at z ⊢
 ·rw[z];exact .inl rfl
 ·rw[<-z];exact .inr rfl
theorem WV(S : Snd Γ CL k n)(W : XW)(T : Tc)(X : Cx)(xs : Ab Ao)(es : Es)(pos : AN)(v : VX Γ CL k W T X)(h : chkBs (n+1) T xs es = Ac)(hne : xs ≠ []) : SW X CL W (.BoolOp .And xs pos) (fun ρ => (evN Γ ρ es).bind BN) /\ SW X CL W (.BoolOp .Or xs pos) (fun ρ => (evO Γ ρ es).bind BN) := by
 cases xs with
 |nil => exact absurd rfl hne
 |cons x xs=>
  cases es with
  |nil => simp[chkBs]at h
  |cons e es=>
   simp only[chkBs, Al]at h;obtain⟨h1, h2⟩ := h;have he := S.b W T X x e v h1;cases xs with
   |nil=>
    cases es with
    |nil => exact⟨SW.ref (VT he) (Rf.tru e), SW.ref (Xc he) (Rf.tru e)⟩
    |cons=>
     cases n with
     |zero => simp[chkBs]at h2
     |succ n => simp[chkBs]at h2
   |cons y ys=>
    cases es with
    |nil=>
     cases n with
     |zero => simp[chkBs]at h2
     |succ n => simp[chkBs]at h2
    |cons e' es'=>
     obtain⟨b1, b2⟩ := S.bs W T X (y::ys) (.cons e' es') pos v h2 (by simp)
     exact⟨SW.ref (Xd he b1) (Y2 e e' es'), SW.ref (ZE he b2) (Y1 e e' es')⟩
theorem UT(S : Snd Γ CL k n){x:Ao}{ops:Ab DB}{b : BI}(v : VX Γ CL k W T X)(h : QB T (AY n) x ops ys b as = Ac) : SB X CL W (.Compare x ops ys pos) (fun ρ => (top ρ (.bi b as) (evE Γ ρ (.bi b as))).bind BN) := by
 exact absurd (show Ad = Ac from h) Au
theorem ZK(S : Snd Γ CL k n)(W : XW)(T : Tc)(X : Cx)(x : Ao)(c : E)(v : VX Γ CL k W T X)(h : Hl (n+1) T x c = Ac) : SB X CL W x (fun ρ => (top ρ c (evE Γ ρ c)).bind BN) := by
 have plain : ∀ e, K7 e = Ac -> AY n T e c = Ac -> SB X CL W e (fun ρ => (top ρ c (evE Γ ρ c)).bind BN) := fun e h1 h2 => Yh (S.e W T X e c v h2).st (VQ h1)
 simp only[Hl]at h;split at h
 ·split at h
  ·rename_i a;refine SB.ref (Yi (S.b W T X _ a v h)) fun ρ => ?_
   show ((top ρ a (evE Γ ρ a)).bind fun x => (C1 x).bind fun b => .ok (.bl (!b))).bind BN = .bad \/ ((top ρ a (evE Γ ρ a)).bind fun x => (C1 x).bind fun b => .ok (.bl (!b))).bind BN = _
   cases top ρ a (evE Γ ρ a) with
   |bad => exact .inl rfl
   |exn x => exact .inr rfl
   |ok d => cases d <;> first|exact .inr rfl|exact .inl rfl
  ·cases h
 ·split at h
  ·simp only[Al, Bu, C7]at h;exact(S.bs W T X _ _ _ v h.1 h.2).1.sb
  ·cases h
 ·split at h
  ·simp only[Al, Bu, C7]at h;exact(S.bs W T X _ _ _ v h.1 h.2).2.sb
  ·cases h
 ·split at h
  ·split at h
   ·rename_i op a b _ _ op' y;simp only[Al, Bu, AV]at h;obtain⟨⟨⟨rfl, h1⟩, h2⟩, h3⟩ := h;refine SB.ref (Yj (HM v.room.units _) (S.e W T X _ a v h2).st (S.e W T X _ b v h3).st h1) fun ρ => ?_
    show ((top ρ a (evE Γ ρ a)).bind fun x => (top ρ b (evE Γ ρ b)).bind fun y => BD op' x y).bind BN = .bad \/ ((top ρ a (evE Γ ρ a)).bind fun x => (top ρ b (evE Γ ρ b)).bind fun y => BD op' x y).bind BN = _
    cases top ρ a (evE Γ ρ a) with
    |bad => exact .inl rfl
    |exn x => exact .inr rfl
    |ok d=>
     cases top ρ b (evE Γ ρ b) with
     |bad => exact .inl rfl
     |exn x => exact .inr rfl
     |ok d'=>
      dsimp only[R.bind];exact OO _ d d'
   ·cases h
  ·split at h
   ·rename_i op1 op2 a b c _ _ o1 o2 y z;simp only[Al, Bu, AV]at h;obtain⟨⟨⟨⟨⟨rfl, rfl⟩, h1⟩, h2⟩, h3⟩, h4⟩ := h;refine SB.ref (UA v.room.units (S.e W T X _ a v h2).st (S.e W T X _ b v h3).st (S.e W T X _ c v h4).st h1) fun ρ => ?_
    show ((top ρ a (evE Γ ρ a)).bind fun x => (top ρ b (evE Γ ρ b)).bind fun y => (BD o1 x y).bind fun z => (C1 z).bind fun k => if k = Ac then (top ρ c (evE Γ ρ c)).bind fun u => BD o2 y u else .ok (.bl Ad)).bind BN = .bad \/ ((top ρ a (evE Γ ρ a)).bind fun x => (top ρ b (evE Γ ρ b)).bind fun y => (BD o1 x y).bind fun z => (C1 z).bind fun k => if k = Ac then (top ρ c (evE Γ ρ c)).bind fun u => BD o2 y u else .ok (.bl Ad)).bind BN = _
    cases top ρ a (evE Γ ρ a) with
    |bad => exact .inl rfl
    |exn x => exact .inr rfl
    |ok d=>
     cases top ρ b (evE Γ ρ b) with
     |bad => exact .inl rfl
     |exn x => exact .inr rfl
     |ok d'=>
      dsimp only[R.bind];cases BD o1 d d' with
      |bad => exact .inl rfl
      |exn x => exact .inr rfl
      |ok d3=>
       cases d3 with
       |bl k=>
        cases k with
        |false => exact .inr rfl
        |true=>
         dsimp only[R.bind, C1];rw[AH rfl, AH rfl];cases top ρ c (evE Γ ρ c) with
         |bad => exact .inl rfl
         |exn x => exact .inr rfl
         |ok d4 => exact OO _ d' d4
       |_ => exact .inl rfl
   ·cases h
  ·exact UT S v h
  ·cases h
 ·simp only[Al]at h;exact plain _ h.1 h.2
end
section
variable{Γ : Gam}{CL : ClA}{W : XW}{k n : Ag}{T : Tc}{X : Cx}
theorem dI{b : BI}{x:Ao}(v : VX Γ CL k W T X)(hb : Mk b = Aa g)(hg : isB T g = Ac)(hs : SAT X CL W (x::xs) (fun ρ => evB Γ ρ as))(h0 : Dy x = Ac)(hpl : ∀ pos, (Cn pos (Ax xs X.env)).any (·.1) = Ad) : OkE Γ CL W X (.Call (.Name g p) (x::xs) [] pos) (.bi b as) := by
 obtain⟨g1, g2, g3, g4⟩ := GC v hg;cases b <;> simp only[Mk]at hb <;> cases hb
 ·exact DJ (IY Zu g1 g2 PySem.boot_len hs g3 g4 (CQ h0) hpl) (fun _ _ => rfl) rfl rfl
 ·exact DJ (IY (Zt v.calm) g1 g2 PyProof.Rows.boot_min hs g3 g4 (CQ h0) hpl) (fun _ _ => rfl) rfl rfl
 ·exact JS (W3 Wq g1 g2 Ej hs g3 g4 (CQ h0) hpl) (fun _ _ => rfl) rfl
 ·exact DJ (Ye U7 g1 g2 RI hs g3 g4 (CQ h0) hpl) (fun _ _ => rfl) rfl rfl
 ·exact DJ (IY (Zw v.calm) g1 g2 PyProof.Rows.boot_all hs g3 g4 (CQ h0) hpl) (fun _ _ => rfl) rfl rfl
 ·exact DJ (IY (Zv v.calm) g1 g2 PyProof.Rows.boot_any hs g3 g4 (CQ h0) hpl) (fun _ _ => rfl) rfl rfl
 ·exact DJ (IY (Zs v.calm) g1 g2 PyProof.Rows.boot_sum hs g3 g4 (CQ h0) hpl) (fun _ _ => rfl) rfl rfl
theorem KO{x:Ao}{es : Es}(h : chkEs n T (x::xs) es = Ac) : Dy x = Ac /\ ∃ e es', es = .cons e es' /\ ∃ m, n = m+1 /\ chkEs m T xs es' = Ac := by
 cases n with
 |zero => simp[chkEs]at h
 |succ m=>
  cases es with
  |nil => simp[chkEs]at h
  |cons e es=>
   simp only[chkEs, Al]at h;exact⟨h.1.1, e, es, rfl, m, rfl, h.2⟩
theorem NA : ∀(m : Ag)(xs : Ab Ao)(es : Es), chkEs m T xs es = Ac -> ∀ pos, (Cn pos (Ax xs X.env)).any (·.1) = Ad := by
 intro m
 induction m with
 |zero => intro xs es h;simp[chkEs]at h
 |succ m ih=>
  intro xs es h pos;cases xs with
  |nil => rfl
  |cons x xs=>
   obtain⟨h0, e, es', rfl, m', e1, h1⟩ := KO h;cases e1;exact Nb h0 (ih xs es' h1 pos)
theorem Xx(S : Snd Γ CL k n){x:Ao}{b : BI}(v : VX Γ CL k W T X)(h : (match Jn as with|some a => (match Ji x with|some y => decide (b = .rvs)&&AY n T y a|none => Ad)|none => Ad) = Ac) : OkE Γ CL W X x (.bi b as) := by
 cases q1 : Jn as with
 |none => rw[q1]at h;cases h
 |some a=>
  cases q2 : Ji x with
  |none => rw[q1, q2]at h;cases h
  |some y=>
   rw[q1, q2]at h;simp only[Al, AV]at h;obtain⟨rfl, h1⟩ := h;obtain⟨u1, p1, p2, p3, pos, rfl⟩ := Vq q2;rw[Xh q1];refine DJ (SE.congr (se_rvs (S.e W T X _ a v h1).st) fun ρ => ?_) (fun _ _ => rfl) rfl rfl
   simp only[LW, evB, R.bind_assoc, R.bind_ok]
theorem Xa(S : Snd Γ CL k n){x:Ao}{b : BI}(v : VX Γ CL k W T X)(h : (match Mh as with|some (a, c) => (match QP x with|some (y, z, _) => decide (b = .tlt) && !behindInMarks .Lt z&&AY n T y a&&AY n T z c|none => Ad)|none => Ad) = Ac) : OkE Γ CL W X x (.bi b as) := by
 simp[Mh]at h
theorem Zg{x:Ao}{b : BI}(v : VX Γ CL k W T X)(h : QM T x b as = Ac) : OkE Γ CL W X x (.bi b as) := by
 exact absurd h Au
theorem Xe(S : Snd Γ CL k n){x:Ao}{b : BI}(v : VX Γ CL k W T X)(h : (match Mm as with|some (a, k) => (match QD x with|some (y, j) => decide (b = .stp)&&decide (j = k)&&decide (0 <= k)&&AY n T y a|none => Ad)|none => Ad) = Ac) : OkE Γ CL W X x (.bi b as) := by
 simp[Mm]at h
theorem Y0(S : Snd Γ CL k n){x:Ao}{b : BI}(v : VX Γ CL k W T X)(h : (match Jh as with|some (a, c) => (match Jl x with|some (g, h, y, z) => decide (b = .list)&&g==("list" : Aj)&&h==("range" : Aj)&&isB T g&&isB T h&&Dy y&&Dy z&&AY n T y a&&AY n T z c|none => Ad)|none => Ad) = Ac) : OkE Γ CL W X x (.bi b as) := by
 cases q1 : Jh as with
 |none => rw[q1]at h;cases h
 |some t1=>
  obtain⟨a, c⟩ := t1;cases q2 : Jl x with
  |none => rw[q1, q2]at h;cases h
  |some t2=>
   obtain⟨g, f, y, z⟩ := t2;rw[q1, q2]at h;simp only[Al, Bi, AV]at h;obtain⟨⟨⟨⟨⟨⟨⟨⟨rfl, rfl⟩, rfl⟩, h1⟩, h2⟩, h3⟩, h4⟩, h5⟩, h6⟩ := h;obtain⟨p, p', pos, pos', rfl⟩ := WM q2;have e := U9 q1;subst e;obtain⟨g1, g2, _, _⟩ := GC v h1;obtain⟨g3, g4, _, _⟩ := GC v h2;refine JS (SC.congr (W2 (S.e W T X _ a v h5).st (S.e W T X _ c v h6).st v.calm g1 g2 g3 g4 (by rw[CQ h3, CQ h4];rfl) (by rw[CQ h4];rfl)) fun ρ => ?_) (fun _ _ => rfl) rfl
   simp only[LW, evB, U2, U1, Ur, R.bind_assoc, R.bind_ok, Qy, Ys]
theorem WL(S : Snd Γ CL k n){x:Ao}{b : BI}(v : VX Γ CL k W T X)(h : (match Mn as with|some a => (match Qx x with|some (g, h, y) => decide (b = .lset)&&g==("len" : Aj)&&h==("set" : Aj)&&isB T g&&isB T h&&Dy y&&AY n T y a|none => Ad)|none => Ad) = Ac) : OkE Γ CL W X x (.bi b as) := by
 simp[Mn]at h
theorem ZJ(S : Snd Γ CL k n)(W : XW)(T : Tc)(X : Cx)(x : Ao)(c : E)(v : VX Γ CL k W T X)(h : AY (n+1) T x c = Ac) : OkE Γ CL W X x c := by
 cases c with
 |non=>
  unfold AY at h;dsimp only at h;split at h
  ·exact DJ X8 (fun _ _ => rfl) rfl rfl
  ·cases h
 |bl b=>
  unfold AY at h;dsimp only at h;split at h
  ·have e := eq_of_beq h;subst e;exact DJ aR (fun _ _ => rfl) rfl rfl
  ·cases h
 |int i=>
  unfold AY at h;dsimp only at h;split at h
  ·have e := Bv h;subst e;exact DJ Yb (fun _ _ => rfl) rfl rfl
  ·cases h
 |str i=>
  unfold AY at h;dsimp only at h;split at h
  ·have e := Bv h;subst e;exact DJ X6 (fun _ _ => rfl) rfl rfl
  ·cases h
 |var i=>
  unfold AY at h;dsimp only at h;split at h
  ·exact⟨X4 (FT v h), WW (FT v h), fun z => (nomatch z), fun z => (nomatch z)⟩
  ·cases h
 |glob g => exact absurd (show Ad = Ac from h) Au
 |bin op a b=>
  unfold AY at h;dsimp only at h;split at h
  ·simp only[Al, AV]at h;obtain⟨⟨rfl, h1⟩, h2⟩ := h;have ha := (S.e W T X _ a v h1).st;have hb := (S.e W T X _ b v h2).st;refine⟨O7 (OJ _) ha hb, (O7 (OJ _) ha hb).st, fun z => ?_, fun z => nomatch z⟩
   rename_i op' _ _;cases op' <;> first|exact X0 ha hb|cases z
  ·cases h
 |un op a => exact absurd (show Ad = Ac from h) Au
 |no a=>
  unfold AY at h;dsimp only at h;split at h
  ·exact DJ (X7 (S.e W T X _ a v h).st) (fun _ _ => rfl) rfl rfl
  ·cases h
 |and es=>
  unfold AY at h;dsimp only at h;split at h
  ·simp only[Al, Bu, C7]at h;exact DJ ((S.es W T X _ es v h.1).2.2.2.1 _ h.2).1 (fun _ _ => rfl) rfl rfl
  ·cases h
 |or es=>
  unfold AY at h;dsimp only at h;split at h
  ·simp only[Al, Bu, C7]at h;exact DJ ((S.es W T X _ es v h.1).2.2.2.1 _ h.2).2 (fun _ _ => rfl) rfl rfl
  ·cases h
 |cmp op a b=>
  unfold AY at h;dsimp only at h;split at h
  ·simp only[Al, Bu, AV]at h;obtain⟨⟨⟨rfl, h1⟩, h2⟩, h3⟩ := h;exact DJ (Yd (HM v.room.units _) (S.e W T X _ a v h2).st (S.e W T X _ b v h3).st h1) (fun _ _ => rfl) rfl rfl
  ·cases h
 |cmp2 op1 op2 a b c=>
  unfold AY at h;dsimp only at h;split at h
  ·simp only[Al, Bu, AV]at h;obtain⟨⟨⟨⟨⟨rfl, rfl⟩, h1⟩, h2⟩, h3⟩, h4⟩ := h;exact DJ (Uz v.room.units (S.e W T X _ a v h2).st (S.e W T X _ b v h3).st (S.e W T X _ c v h4).st h1) (fun _ _ => rfl) rfl rfl
  ·cases h
 |ite c a b => exact absurd (show Ad = Ac from h) Au
 |call f as=>
  unfold AY at h;dsimp only at h;split at h
  ·rename_i g pp y ys qq;simp only[Al, Q7, Bi, AV]at h;obtain⟨⟨⟨⟨⟨p, hp, ⟨rfl, rfl⟩, hl⟩, h900⟩, h1⟩, h2⟩, h3⟩ := h;obtain⟨fa, fd, ps, m1, m2, m3, m4, m5, _⟩ := v.fn p hp;have hlt : p.2.2<1000 := by omega
   rw[Nat.mod_eq_of_lt hlt]at m4 m5;have m5 := m5 hlt;obtain⟨n2, n3, n4⟩ := Lz h2;obtain⟨a1, a2, a3, a4, a5⟩ := S.es W T X _ as v h3;obtain⟨s0, e, es', rfl, m, rfl, s1⟩ := KO h3;have q : SC X CL W (Γ.fr p.2.1) (.Call (.Name p.1 pp) (y::ys) [] qq) (fun ρ => evE Γ ρ (.call p.2.1 (.cons e es'))) := Vn (sh := fun ρ => G1 ρ (.cons e es')) m5 v.room (by unfold glB at h1;show X.env.scope.names.lookup p.1 = _;rw[v.sc];exact eq_of_beq h1) m1 m2 m3 v.px a1 a2 (fun ρ z => Pi Γ ρ _ z) (fun ρ ds z => by rw[On Γ ρ _ _ z, <-a3, hl];rfl) n2 (CQ s0) (NA m ys es' s1)
   exact⟨q.se, q.se.st, fun z => by
    have z' : Γ.fr p.2.1 = Ac := z;rw[z']at q;exact q, fun z => nomatch z⟩
  ·cases h
 |bi b as=>
  unfold AY at h;dsimp only at h;simp only[CU]at h;rcases h with (((((h|h)|h)|h)|h)|h)|h
  ·split at h
   ·simp only[Al, Bi]at h;obtain⟨⟨h1, h2⟩, h3⟩ := h;obtain⟨s0, e, es', rfl, m, rfl, s1⟩ := KO h3;exact dI v h1 h2 (S.es W T X _ _ v h3).2.1 s0 (NA m _ es' s1)
   ·cases h
  ·exact Zg v h
  ·exact Y0 S v h
  ·exact Xe S v h
  ·exact WL S v h
  ·exact Xa S v h
  ·exact Xx S v h
 |isi a ks=>
  cases ks with
  |nil => exact absurd (show Ad = Ac from h) Au
  |cons k' ks=>
   cases ks with
   |cons => exact absurd (show Ad = Ac from h) Au
   |nil=>
    unfold AY at h;dsimp only at h;split at h
    ·simp only[Al, Bi]at h;obtain⟨⟨⟨⟨⟨rfl, h1⟩, h2⟩, h3⟩, h4⟩, h5⟩ := h;obtain⟨g1, g2, _, _⟩ := GC v h1;obtain⟨b1, b2, b3, b4⟩ := GC v h3;obtain⟨ty, t1, t2⟩ := dH h2;exact DJ (X9 t1 g1 g2 b1 b2 t2 b3 b4 (S.e W T X _ a v h5).st (CQ h4)) (fun _ _ => rfl) rfl rfl
    ·cases h
 |idx a i=>
  unfold AY at h;dsimp only at h;split at h
  ·simp only[Al]at h;obtain⟨⟨h1, h2⟩, h3⟩ := h;exact DJ (Yc (Uy h1) (S.e W T X _ a v h2).st (S.e W T X _ i v h3).st) (fun _ _ => rfl) rfl rfl
  ·cases h
 |sl a lo hi=>
  unfold AY at h;dsimp only at h;split at h
  ·simp only[Al]at h;obtain⟨⟨h1, h2⟩, h3⟩ := h;refine JS (SC.congr (ZN (S.e W T X _ a v h1).st (S.o W T X _ lo v h2) (S.o W T X _ hi v h3)) fun ρ => ?_) (fun _ _ => rfl) rfl
   show ((top ρ a (evE Γ ρ a)).bind fun x => (top ρ lo (evE Γ ρ lo)).bind fun l => (slE lo l).bind fun l' => (top ρ hi (evE Γ ρ hi)).bind fun h => (slE hi h).bind fun h' => slD x l' h') = _
   simp only[R.bind_assoc]
  ·cases h
 |tup es=>
  unfold AY at h;dsimp only at h;split at h
  ·simp only[Al, AV]at h;have q := S.es W T X _ es v h.1;exact DJ (X5 q.1 fun ρ ds z => by rw[LH Γ ρ _ _ z, <-q.2.2.1];omega) (fun _ _ => rfl) rfl rfl
  ·cases h
 |lst es=>
  unfold AY at h;dsimp only at h;split at h
  ·simp only[Al, AV]at h;have q := S.es W T X _ es v h.1;exact JS (W1 q.1 fun ρ ds z => by rw[LH Γ ρ _ _ z, <-q.2.2.1];omega) (fun _ _ => rfl) rfl
  ·cases h
 |comp elt t it c=>
  unfold AY at h;dsimp only at h;split at h
  ·simp only[Al]at h;obtain⟨⟨⟨⟨⟨h1, h2⟩, h3⟩, h4⟩, h5⟩, h6⟩ := h;refine P8 v.calm ⟨_, _, _, _, _, _, _, _, _, _, _, _, _, rfl, (L9 v h3).1, S.i W T X Ad _ _ it v rfl h1, Wg t, fun cl C s H fp => VL (v.blk h3) (fun z => Bi.mpr z) h4, fun cl C s H fp => S.t _ _ _ c (v.blk h3) h5, fun cl C s H fp => (S.e W0 _ _ _ elt (v.blk h3) h6).se, JW h2, fun ρ => rfl⟩ (fun _ _ => rfl)
  ·cases h
 |compT elt ts it c=>
  unfold AY at h;dsimp only at h;split at h
  ·simp only[Al]at h;obtain⟨⟨⟨⟨⟨⟨h0, h1⟩, h2⟩, h3⟩, h4⟩, h5⟩, h6⟩ := h;refine P8 v.calm ⟨_, _, _, _, _, _, _, _, _, _, _, _, _, rfl, (L9 v h3).1, S.i W T X Ac _ _ it v rfl h1, YC ts, fun cl C s H fp => VO (v.blk h3) h0 h4, fun cl C s H fp => S.t _ _ _ c (v.blk h3) h5, fun cl C s H fp => (S.e W0 _ _ _ elt (v.blk h3) h6).se, JW h2, fun ρ => rfl⟩ (fun _ _ => rfl)
  ·cases h
 |tupI it => exact absurd (show Ad = Ac from h) Au
 |dnew => exact absurd (show Ad = Ac from h) Au
 |fld o f => exact absurd (show Ad = Ac from h) Au
theorem snd : ∀ n, Snd Γ CL k n
 |0 => Ux
 |n+1 => ⟨ZJ (snd n), ZK (snd n), WV (snd n), Xg (snd n), ZH (snd n), ZF (snd n), ZI (snd n)⟩
end
section
variable{Γ : Gam}{CL : ClA}{W : XW}{k n : Ag}{T : Tc}{X : Cx}
theorem VN{t : Ag}(v : VX Γ CL k W T X)(hf : ∀ x, X.fn x = Ac)(h : tgC T [t] [x] = Ac) : PG X (.Name x pos) (DW t) := by
 unfold tgC at h;simp only[Al, Bi]at h;exact IV (by rw[v.N];exact v.nd) (by rw[v.N];exact h.1.1) (by rw[v.sc];exact LF h.1.2) (.inl (hf x))
theorem N9(v : VX Γ CL k W T X)(hf : ∀ x, X.fn x = Ac) : ∀(ys : Ab Ao)(ts : Ab Ag)(zs : Ab Aj), DU ys = Aa zs -> tgC T ts zs = Ac -> PGs X ys (ts.foldr (fun t u => FW (DW t) u) FY) /\ ts.length = ys.length := by
 intro ys
 induction ys with
 |nil=>
  intro ts zs e h;cases e;cases ts with
  |nil => exact⟨Lw, rfl⟩
  |cons t ts => cases h
 |cons y r ih=>
  intro ts zs e h;obtain⟨x, p, ws, rfl, e2, rfl⟩ := Ks e;cases ts with
  |nil => cases h
  |cons t ts=>
   have h' : (T.N[t]? == Aa x&&Io T x&&tgC T ts ws) = Ac := h;simp only[Al, Bi]at h';obtain⟨h1, h2⟩ := ih ts ws e2 h'.2;exact⟨JJ (IV (by rw[v.N];exact v.nd) (by rw[v.N];exact h'.1.1) (by rw[v.sc];exact LF h'.1.2) (.inl (hf x))) h1 (by rw[KW];rfl), congrArg (· + 1) h2⟩
theorem VM(v : VX Γ CL k W T X)(hf : ∀ x, X.fn x = Ac)(hn : (DU ys).isSome = Ac)(h : tgC T ts (tgN ys) = Ac) : PG X (.Tuple ys kk pos) (Iq X.K ts.length (ts.foldr (fun t u => FW (DW t) u) FY)) := by
 cases e : DU ys with
 |none => rw[e]at hn;cases hn
 |some zs=>
  have e2 : tgN ys = zs := by unfold tgN;rw[e];rfl
  rw[e2]at h;obtain⟨h1, h2⟩ := N9 v hf ys ts zs e h;obtain⟨h3, h4, _⟩ := Kq (env := X.env) ys zs e;exact J2 v.calm h1 (by rw[h3, h2]) h4
theorem Xb(v : VX Γ CL k W T X)(hf : ∀ x, X.fn x = Ac)(hn : (DU ys).isSome = Ac)(h : tgC T ts (tgN ys) = Ac) : PG X (.Tuple ys kk pos) (gSq X.K ts.length (ts.foldr (fun t u => FW (DW t) u) FY)) := by
 cases e : DU ys with
 |none => rw[e]at hn;cases hn
 |some zs=>
  have e2 : tgN ys = zs := by unfold tgN;rw[e];rfl
  rw[e2]at h;obtain⟨h1, h2⟩ := N9 v hf ys ts zs e h;obtain⟨h3, h4, _⟩ := Kq (env := X.env) ys zs e;exact ZV v.calm h1 (by rw[h3, h2]) h4
theorem W8{e : Ao}(h : (P9 e||Ds 4 ys.length) = Ac) : CZ [.Tuple ys kk pos] e env = pure Af := by
 cases e with
 |Tuple vs a b=>
  have h4 := EB (show Ds 4 ys.length = Ac from h)
  have e2 : (ys.length==2) = Ad := by rw[CH];omega
  have e3 : (ys.length==3) = Ad := by rw[CH];omega
  unfold CZ;dsimp only;rw[e2, e3];rfl
 |_ => rfl
theorem NC(ts : Ab Ag) : ∀ d ρ x, E5 ts d ρ ≠ .exn x := fun d ρ x h => by
 unfold E5 at h;cases d with
 |tup xs=>
  dsimp only at h;cases e : DI ts xs ρ with
  |some r => rw[e]at h;cases h
  |none => rw[e]at h;cases h
 |_ => cases h
theorem UL(ts : Ab Ag) : ∀ d ρ x, Gc ts d ρ ≠ .exn x := fun d ρ x h => by
 unfold Gc at h;split at h
 ·split at h <;> cases h
 ·exact NC ts _ ρ x h
theorem Uv{elt:Ao}{gs:Ab Comprehension}{pos':AN} : ∃ b, Dx (.ListComp elt gs scope pos) (Aa (.Name x pos')) l env = pure b /\ (b = Ac -> env.scope.names.lookup x = Aa .local) := by
 refine⟨_, rfl, fun h => ?_⟩
 simp only[Al, Bi]at h;exact h.1.1.2
theorem LY{v0:Ao}{i : Ag}{e : E}(v : VX Γ CL k W T X)(hf : ∀ x, X.fn x = Ac)(hi : T.N[i]? = Aa x)(hl : Io T x = Ac)(o : OkE Γ CL W X v0 e)(hfr : fr = Ac -> DY Γ e = Ac) : SAs X CL W fr i (.Assign [.Name x p] v0 pos) (fun ρ => evE Γ ρ e) := by
 have hN : X.N.Nodup := by rw[v.N];exact v.nd
 have hi' : X.N[i]? = Aa x := by rw[v.N];exact hi
 have hx : Loc X.env.scope x := by rw[v.sc];exact LF hl
 have sc : SC X CL W fr v0 (fun ρ => evE Γ ρ e) := by
  cases fr with
  |false => exact o.se.sc
  |true => exact o.nw (hfr rfl)
 cases hc : HV v0 with
 |true => exact SC.sas hN hi' hx sc (Os hc) (.inl (hf x))
 |false=>
  obtain⟨tg, iter, elt, ifs, scope, pos2, N', ts, fi, fc, fe, as, g, rfl, B, h2, hGG, hg, ht, he, hs, ef⟩ := o.cp hc;obtain⟨b, hb, hb'⟩ := Uv (elt := elt) (gs := [⟨tg, iter, ifs, 0⟩]) (scope := scope) (pos := pos2) (pos' := p) (x := x) (l := pos.line) (env := X.env);cases b with
  |false => exact SC.sas hN hi' hx sc hb (.inl (hf x))
  |true=>
   have q := UC (pos2 := pos) v.calm B h2 hGG hg ht he hs hN hi' (hb' rfl) hb;have q' : SAs X CL W Ac i (.Assign [.Name x p] (.ListComp elt [⟨tg, iter, ifs, 0⟩] scope pos2) pos) (fun ρ => evE Γ ρ e) := by
    have : (fun ρ => evE Γ ρ e) = _ := funext ef
    rw[this];exact q
   cases fr with
   |true => exact q'
   | false => exact fun A => PS.weak (q' A) fun D σ H ⟨hA, ρ, gd, z⟩ => ⟨hA, ρ, gd, by
     dsimp only at z ⊢;cases e0 : evE Γ ρ e with
     |ok d=>
      rw[e0]at z;exact fun v' H' s' r' => z v' H' s' ⟨r'.1, fun _ => r'.2 rfl⟩
     |exn y => rw[e0]at z;exact z
     | bad => rw[e0]at z;exact z⟩
theorem Lv{e t : Ao}(h : ∀ x p, t ≠ .Name x p) : El [t] e l env = pure Ad := by
 show Dx e (Aa t) l env = pure Ad;cases e <;> first|rfl|(cases t <;> first|rfl|exact absurd rfl (h _ _))
theorem Tw{y x' z:Aj}{p1 p2 p3 p4 p5 p6 tp p' q1:AN}{kt q0:Ag}{o a o' a' : Ao} : CZ [.Tuple [.Subscript (.Name x p1) (.Name y p2) p3, .Subscript (.Name x' p4) (.Name z p5) p6] kt tp] (.Tuple [.Subscript o a p, .Subscript o' a' p'] q0 q1) env = pure Af := by
 unfold CZ;cases env.blockKind <;> rfl
theorem Nf(ρ : Rho)(e : E)(h : ∀ i, e ≠ .var i) : evS Γ ρ (.ret e) = O.of ρ (evE Γ ρ e) fun d => .ret d (DY Γ e) := by
 cases e <;> first|exact absurd rfl (h _)|(simp only[evS, top, Bool.or_false])
structure DefX (X : Cx) : Prop where
 fn : ∀ x, X.fn x = Ac
 ex : X.ex = []
 st : X.stack = X.env::X.outer
 fm : X.env.frame = Aa X.env.locals
structure SndS (Γ : Gam) (CL : ClA) (k : Ag) (n : Ag) : Prop where
 s : ∀(W : XW)(T : Tc)(X : Cx)(x : Bq)(c : S), VX Γ CL k W T X -> DefX X -> Eh n T x c = Ac -> SS X CL W x (fun ρ => evS Γ ρ c)
 ss : ∀(W : XW)(T : Tc)(X : Cx)(x : Ab Bq)(c : Ss), VX Γ CL k W T X -> DefX X -> chkSs n T x c = Ac -> SSs X CL W x (fun ρ => evSs Γ ρ c)
theorem VX.pw(v : VX Γ CL k W T X){pI:Ab (Ai × AJ)}{Xw:Ah -> Ak -> Prop}(own : EC (model X.prog X.w) X.A X.env Xw) : VX Γ CL k W0 T (Cx.pw X pI Xw) := ⟨v.sc, v.kd, v.N, v.nd, v.calm, v.room, v.bl, v.fn, own, O8, QF, v.xt, v.gl⟩
theorem STB.congr{st : Ab Bq}{f g:Rho -> O}(h : STB X CL st f)(e : ∀ ρ, g ρ = f ρ) : STB X CL st g := by
 have : g = f := funext e;rw[this];exact h
theorem ZG(Z : SndS Γ CL k n)(W : XW)(T : Tc)(X : Cx)(st : Bq)(c : S)(v : VX Γ CL k W T X)(hf : DefX X)(h : Eh (n+1) T st c = Ac) : SS X CL W st (fun ρ => evS Γ ρ c) := by
  have E := snd (Γ := Γ) (CL := CL) (k := k) n;cases c with
  |pass => exact absurd (show Ad = Ac from h) Au
  |brk => exact absurd (show Ad = Ac from h) Au
  |cont => exact absurd (show Ad = Ac from h) Au
  |asg i fresh e=>
    unfold Eh at h;dsimp only at h;split at h
    · simp only[Al, Bi]at h;obtain⟨⟨h1, h2⟩, h3⟩ := h;have o := E.e W T X _ e v h3;cases fresh with
      |false => exact O5 (LY (fr := Ad) v hf.fn h1 h2 o (fun z => nomatch z))
      |true=>
        cases hn : DY Γ e with
        |true=>
          refine SS.ref (V4 (LY (fr := Ac) v hf.fn h1 h2 o (fun _ => hn))) fun ρ => .inr ?_
          show O.of ρ (evE Γ ρ e) (fun d => if Ac = Ac then (if DY Γ e = Ac then (match d with
            |.lst xs => .next (ρ.set i (Aa (.lst xs, Ac)))
            |.dic xs => .next (ρ.set i (Aa (.dic xs, Ac)))
            | _ => .bad) else .bad) else .next (ρ.set i (Aa (d, Ad)))) = _
          rw[hn];rfl
        |false=>
          refine SS.ref (O5 (LY (fr := Ad) v hf.fn h1 h2 o (fun z => nomatch z))) fun ρ => ?_
          have e0 : evS Γ ρ (.asg i Ac e) = O.of ρ (evE Γ ρ e) (fun d => if Ac = Ac then (if DY Γ e = Ac then (match d with
            |.lst xs => .next (ρ.set i (Aa (.lst xs, Ac)))
            |.dic xs => .next (ρ.set i (Aa (.dic xs, Ac)))
            | _ => .bad) else .bad) else .next (ρ.set i (Aa (d, Ad)))) := rfl
          rw[e0, hn];cases evE Γ ρ e with
          |ok d => exact .inl rfl
          |exn y => exact .inr rfl
          |bad => exact .inl rfl
    · cases h
  |asgT ts e=>
    unfold Eh at h;dsimp only at h;split at h
    · simp only[Al]at h;obtain⟨⟨⟨h1, h2⟩, h3⟩, h5⟩ := h;exact V3 (bT ts) (Xb v hf.fn h1 h2) (E.e W T X _ e v h5).se (Lv (fun _ _ z => by cases z)) (W8 h3) rfl (UL ts)
    · cases h
  |expr e=>
    unfold Eh at h;dsimp only at h;split at h
    · simp only[Al]at h;exact V2 (E.e W T X _ e v h.2).se (Os h.1)
    · cases h
  |ret e=>
    unfold Eh at h;dsimp only at h;split at h
    · have o := E.e W T X _ e v h;cases hv : DY Γ e with
      |true=>
        refine SS.ref (V1 (o.nw hv)) fun ρ => .inr ?_
        rw[Nf ρ e (fun i z => by subst z;cases hv), hv]
      |false=>
        cases e with
        |var i=>
          cases n with
          |zero => exact absurd (show Ad = Ac from h) Au
          |succ n=>
            unfold AY at h;dsimp only at h;split at h
            · exact VZ (FT v h)
            · cases h
        |_=>
          refine SS.ref (V0 o.se) fun ρ => .inr ?_
          rw[Nf ρ _ (by intro i z;cases z), hv]
    · cases h
  |retN => exact absurd (show Ad = Ac from h) Au
  |ife c a b=>
    unfold Eh at h;dsimp only at h;split at h
    · simp only[Al]at h;exact ZL (E.b W T X _ c v h.1.1) (Z.ss W T X _ a v hf h.1.2) (Z.ss W T X _ b v hf h.2)
    · cases h
  |fors t it body=>
    unfold Eh at h;dsimp only at h;split at h
    · simp only[Al]at h;obtain⟨⟨⟨h1, h2⟩, h3⟩, h4⟩ := h;exact O4 v.own v.calm (WU t) (VN v hf.fn h1) (E.i W T X Ad _ _ it v rfl h3) (Z.ss W T X _ body v hf h4) (JW h2) (fun _ _ _ z => nomatch z)
    · cases h
  |forT ts it body=>
    unfold Eh at h;dsimp only at h;split at h
    · simp only[Al]at h;obtain⟨⟨⟨⟨h0, h1⟩, h2⟩, h3⟩, h4⟩ := h;exact O4 v.own v.calm (Pe ts) (VM v hf.fn h0 h1) (E.i W T X Ac _ _ it v rfl h3) (Z.ss W T X _ body v hf h4) (JW h2) (NC ts)
    · cases h
  |whl c body => exact absurd (show Ad = Ac from h) Au
  |rais c as=>
    unfold Eh at h;dsimp only at h;cases hc : T.rzs.any (fun p => p.2==c) with
    |false=>
      have hb : ∀ ds, Γ.xn c ds = .bad := v.xt.xb c fun p hp z => by
        have : T.rzs.any (fun p => p.2==c) = Ac := List.any_eq_true.mpr ⟨p, hp, Bi.mpr z⟩
        rw[hc]at this;cases this
      intro Fz B pI s σ H D I ⟨ρ, x, p⟩;have p' : BX X.K CL Fz B W (O.of ρ (noX (evA Γ ρ as)) fun xs => O.of ρ (Γ.xn c xs) fun x => .exn x ρ) D := p
      cases e1 : evA Γ ρ as with
      |bad => rw[e1]at p';exact p'.elim
      |exn y => rw[e1]at p';exact p'.elim
      |ok ds=>
        rw[e1]at p';have p2 : BX X.K CL Fz B W (O.of ρ (Γ.xn c ds) fun x => .exn x ρ) D := p'
        rw[hb ds]at p2;exact p2.elim
    |true => rw[hc]at h;cases h
  |app i e=>
    unfold Eh at h;dsimp only at h;split at h
    · simp only[Al, Bi]at h;obtain⟨⟨⟨⟨rfl, h1⟩, h2⟩, h3⟩, h4⟩ := h;exact WZ (FT v h1) (E.e W T X _ e v h4).se rfl (by rw[CQ h3];rfl) (by rw[h2];exact DP _) (CQ h3) rfl
    · cases h
  |ext i e => exact absurd (show Ad = Ac from h) Au
  |rev i => exact absurd (show Ad = Ac from h) Au
  |clr i => exact absurd (show Ad = Ac from h) Au
  |put i k e=>
    unfold Eh at h;dsimp only at h;split at h
    · simp only[Al]at h;obtain⟨⟨⟨h1, h2⟩, h4⟩, h5⟩ := h;rename_i x p y sp v0 pos;exact WY (FT v h1) (E.e W T X _ k v h4).st (E.e W T X _ e v h5).se (fun w => by cases y <;> first|rfl|cases h2) (Lv (fun _ _ z => by cases z)) rfl rfl
    · cases h
  |tryx body c x hh => exact absurd (show Ad = Ac from h) Au
  |swp i k l=>
    unfold Eh at h;dsimp only at h;cases q : Mq st with
    |none => rw[q]at h;cases h
    |some t=>
      obtain⟨x1, y1, x2, z1, v0⟩ := t;rw[q]at h;simp only[Al]at h;obtain⟨⟨⟨⟨h1, h2⟩, h3⟩, h4⟩, h5⟩ := h;obtain⟨p1, p2, p3, p4, p5, p6, kt, tp, o, a, p, o', a', p', q0, q1, pos, rfl, rfl⟩ := VS q;exact WX v.calm (FT v h1) (FT v h2) (FT v h3) (FT v h4) (E.e W T X _ _ v h5).se (fun _ => rfl) (fun _ => rfl) (Lv (fun _ _ z => by cases z)) Tw
  |apop j i e=>
    unfold Eh at h;dsimp only at h;split at h
    · rename_i x p m ap w cp pos;simp only[Al, Bi]at h;obtain⟨⟨⟨rfl, h1⟩, h2⟩, h3⟩ := h;cases q : J9 w with
      |none => rw[q]at h3;cases h3
      |some t=>
        obtain⟨y, u⟩ := t;rw[q]at h3;simp only[Al]at h3;obtain⟨h3, h4⟩ := h3;obtain⟨p', ap', cp', rfl, h5, h6⟩ := VJ q;exact ss_apop (FT v h1) (FT v h3) (E.e W T X _ e v h4).se rfl rfl (by rw[h2];exact DP _) (by rw[h5];exact DP _) (CQ h6)
    · cases h
  |ins => exact absurd (show Ad = Ac from h) Au
  |dput => exact absurd (show Ad = Ac from h) Au
  |dsd => exact absurd (show Ad = Ac from h) Au
  |rel => exact absurd (show Ad = Ac from h) Au
theorem Xf(Z : SndS Γ CL k n)(W : XW)(T : Tc)(X : Cx)(xs : Ab Bq)(c : Ss)(v : VX Γ CL k W T X)(hf : DefX X)(h : chkSs (n+1) T xs c = Ac) : SSs X CL W xs (fun ρ => evSs Γ ρ c) := by
 cases c with
 |nil=>
  simp only[chkSs, FJ]at h;subst h;exact VY
 |cons s ss=>
  by_cases hr : ∃ i, s = .rel i
  ·obtain⟨i, rfl⟩ := hr;simp only[chkSs]at h;exact VW i (Z.ss W T X xs ss v hf h)
  ·cases xs with
   |nil => cases s <;> first|(simp[chkSs]at h;done)|exact absurd ⟨_, rfl⟩ hr
   |cons st r=>
    have h' : Eh n T st s = Ac /\ chkSs n T r ss = Ac := by
     cases s <;> first|(simp only[chkSs, Al]at h;exact h)|exact absurd ⟨_, rfl⟩ hr
    exact Uw (Z.s W T X st s v hf h'.1) (Z.ss W T X r ss v hf h'.2)
theorem Ms : ∀ n, SndS Γ CL k n
 |0 => ⟨fun _ _ _ _ _ _ _ h => absurd (show Ad = Ac from h) Au, fun _ _ _ _ _ _ _ h => absurd (show Ad = Ac from h) Au⟩
 |n+1 => ⟨ZG (Ms n), Xf (Ms n)⟩
end
theorem IM{n:Ag}{ds : Ab D}{i : Ag}{d:D}{o : An}(h : (Bt n ds)[i]? = Aa (Aa (d, o))) : o = Ad /\ ds[i]? = Aa d := by
 unfold Bt at h;by_cases hi : i<ds.length
 ·rw[D0 (by simpa using hi), DA]at h
  cases e : ds[i]? with
  |none => rw[e]at h;cases h
  |some x => rw[e]at h;cases h;exact⟨rfl, rfl⟩
 ·rw[Rh (by simpa using Nat.le_of_not_lt hi), Rk]at h
  split at h <;> cases h
theorem Tf{N : Ab Aj}{i : Ag}{v:V}(h : vs[i]? = Aa v) : (L2.start N vs)[i]? = Aa (Aa v) := by
 unfold L2.start;have hi := (AK.mp h).1;rw[D0 (by simpa using hi), DA, h]
 rfl
theorem Uu{K:Fg}{A:Ai -> Prop}{N : Ab Aj}{n:Ag}{ds : Ab D}(hn : N.length = n)(hA : AOk H A)(r : Reps K CL H A vs ds) : Sx K CL (fun b o => H b = Aa o) A (Bt n ds) (L2.start N vs) H := by
 have own : ∀ a, BZ A (Bt n ds) (L2.start N vs) a -> A a := fun a h => by
  rcases h with h|⟨j, d, h, _⟩
  ·exact h
  ·exact absurd (IM h).1 (by decide)
 have hlen : (Bt n ds).length = (L2.start N vs).length := by
  unfold Bt L2.start;simp only[Bp, BF, Rn, r.length, hn]
 refine⟨⟨fun i d h => ?_, fun i d h => absurd (IM h).1 (by decide), hlen⟩, fun a h => hA a (own a h), fun j d a h _ => absurd (IM h).1 (by decide), fun i j d e a h _ _ _ => absurd (IM h).1 (by decide), fun b o h => h, hlen⟩
 obtain⟨v, h1, h2⟩ := r.get (IM h).2;exact⟨v, Tf h1, Rep.sub own _ h2⟩
noncomputable def Ie(K : Fg)(mg : Aj -> Ap Ah)(fns : Ab (Aj × Ag × Ag))(bl : Ab Aj)(rzs exs gls : Ab (Aj × Ag))(Pg : Prg)(fuel : Ag)(p : Aj × Ag × Ag) : Prop := ∃ f fd ps qual st N, mg p.1 = Aa (.ref f) /\ Fun K p.1 qual st f fd /\ Ga K fd ps [] /\ ps.length = p.2.2%1000 /\ FZ fuel (Ds 1000 p.2.2) fns bl rzs exs gls ps N st (Pg.defs p.2.1) = Ac
structure Tab (K : Fg) (mg : Aj -> Ap Ah) (CL : ClA) (fns : Ab (Aj × Ag × Ag)) (bl : Ab Aj) (rzs exs gls : Ab (Aj × Ag)) (Pg : Prg) (fuel : Ag) : Prop where
 xt : XT Pg.up Pg.xn CL rzs exs K mg
 bln : ∀ x, x ∈ bl -> mg x = Af
 gl : ∀ p ∈ gls, MB K mg CL p.1 (Pg.G p.2)
 fn : ∀ p ∈ fns, Ie K mg fns bl rzs exs gls Pg fuel p
theorem YF(Pg : Prg)(n i : Ag) : (gam Pg n).fr i = (Pg.defs i).fr := by cases n <;> rfl
theorem YE(Pg : Prg)(n : Ag) : (gam Pg n).up = Pg.up := by cases n <;> rfl
theorem bU(Pg : Prg)(n : Ag) : (gam Pg n).G = Pg.G := by cases n <;> rfl
theorem YD(Pg : Prg)(n : Ag) : (gam Pg n).xn = Pg.xn := by cases n <;> rfl
section
variable{P : AM}{w : AU}{K : Fg}{mg : Aj -> Ap Ah}{base : AF}{CL : ClA}{fns : Ab (Aj × Ag × Ag)}{bl : Ab Aj}{rzs exs gls : Ab (Aj × Ag)}{Pg : Prg}{fuel : Ag}
noncomputable def Lvl(P : AM)(w : AU)(K : Fg)(mg : Aj -> Ap Ah)(base : AF)(CL : ClA)(Pg : Prg)(n : Ag)(p : Aj × Ag × Ag) : Prop := ∃ f fd ps, mg p.1 = Aa (.ref f) /\ CI K (.ref f) = Ac /\ Ga K fd ps [] /\ ps.length = p.2.2%1000 /\ (p.2.2<1000 -> FnOk P w K mg base (CXR P w) n f fd ps (spD K CL (p.2.2%1000) ((gam Pg n).fr p.2.1) ((gam Pg n).F p.2.1))) /\ (1000 <= p.2.2 -> HotOk P w K mg base n f fd ps (spH K CL (p.2.2%1000) ((gam Pg n).fr p.2.1) ((gam Pg n).F p.2.1)))
theorem Pk(t : Tab K mg CL fns bl rzs exs gls Pg fuel){n:Ag}(hlv : ∀ q ∈ fns, Lvl P w K mg base CL Pg n q){st : Bq}{ps N : Ab Aj}(h2 : Fun K x qual st f fd)(h4 : ps.length = m)(h5 : FZ fuel Ad fns bl rzs exs gls ps N st (Pg.defs id) = Ac):FnOk P w K mg base (CXR P w) (n+1) f fd ps (spD K CL m ((gam Pg (n+1)).fr id) ((gam Pg (n+1)).F id)) := by
  unfold FZ at h5;simp only[Al, Bi, Bu, Dc, CU, HC, ne_eq]at h5;obtain⟨⟨⟨⟨⟨⟨⟨⟨c1, c2⟩, c3⟩, c4⟩, c5⟩, c6⟩, c7⟩, c8⟩, c9⟩ := h5;obtain⟨oc, od, kV, doc, pm, an, cdv, ct, osl, rfl, lk, hcd⟩ := h2.ex;refine P5 (N := N) lk hcd ⟨c1, c2, c3, JI c4, c5, c6, c7⟩ (fun vs H Q E ⟨ds, A, z, _⟩ => z.trans h4.symm) fun A outer s H vs Q E hr ⟨ds, B, hl, hA, hreps, hpost⟩ => ?_
  have xt : XT (gam Pg n).up (gam Pg n).xn CL rzs exs K mg := by rw[YE, YD];exact t.xt
  have gl : ∀ p ∈ gls, MB K mg CL p.1 ((gam Pg n).G p.2) := by rw[bU];exact t.gl
  have key : ∀ W : XW, (∀ x cls H', W x H' -> (∃ C, CL x.c = Aa C /\ cls = .ref C) -> E cls Af H') -> BX K CL (fun b o => H b = Aa o) B W (evSs (gam Pg n) (Bt (Pg.defs id).n ds) (Pg.defs id).body) {nx := fun _ H' => Q .non H', rt := Q} ->
      ∃ t, PSs (E7 (CXR P w) P w K mg base N qual (E1 st) f cdv A outer s H E) (F7 st) t /\ t {nx := fun _ H' => Q .non H', rt := Q} (start N vs) H := fun W hW hp => by
    have v : VX (gam Pg n) CL n W ⟨E1 st, N, fns, bl, rzs, exs, gls⟩ (E7 (CXR P w) P w K mg base N qual (E1 st) f cdv A outer s H E) := ⟨rfl, c1, rfl, JI c4, rfl, hr, t.bln, hlv, ownR, cI hW, rzR hW, xt, gl⟩;exact⟨_, (Ms fuel).ss W _ _ _ (Pg.defs id).body v ⟨fun _ => rfl, rfl, rfl, rfl⟩ c9 (fun b o => H b = Aa o) B, _, Uu c8 hA hreps, hp⟩
  have no : ∀ x cls H', W0 x H' -> (∃ C, CL x.c = Aa C /\ cls = .ref C) -> E cls Af H' := fun _ _ _ z => z.elim
  have e : (gam Pg (n+1)).F id ds = Ey Pg.xs ((evSs (gam Pg n) (Bt (Pg.defs id).n ds) (Pg.defs id).body).ans (Pg.defs id).fr) := rfl;rw[e, YF]at hpost;have cutO : ∀ r : R D, (∀ x, r ≠ .exn x) -> Ey Pg.xs r = r := fun r hr => by
    cases Pg.xs <;> cases r <;> first|rfl|exact absurd rfl (hr _)
  cases eo : evSs (gam Pg n) (Bt (Pg.defs id).n ds) (Pg.defs id).body with
  |next ρ'=>
    refine key W0 no ?_;rw[eo]at hpost ⊢;cases ef : (Pg.defs id).fr with
    |true => rw[ef]at hpost;rw[cutO _ (by intro x z;cases z)]at hpost;exact hpost.elim
    |false=>
      rw[ef]at hpost;rw[cutO _ (by intro x z;cases z)]at hpost
      exact fun σ' H' x' => hpost .non H' (fun b o z => x'.same b o z) ⟨rfl, fun z => nomatch z⟩
  |ret d b=>
    refine key W0 no ?_;rw[eo]at hpost ⊢;intro v H' sm rp fr;have hp2 : (match Ey Pg.xs (if ((Pg.defs id).fr&&(!b&&isL d)) = Ac then R.bad else R.ok d) with
      |.ok d => ∀ v H', Ay H H' -> Dl K CL (Pg.defs id).fr H B H' v d -> Q v H'
      |.exn x => ∀ cls dx H', Ay H H' -> Jo K CL H' B cls dx x -> E cls dx H'
      | .bad => A6) := hpost
    cases ec : ((Pg.defs id).fr&&(!b&&isL d)) with
    |true => rw[ec, AH rfl, cutO _ (by intro x z;cases z)]at hp2;exact hp2.elim
    |false=>
      rw[ec, AO (by decide), cutO _ (by intro x z;cases z)]at hp2
      refine hp2 v H' sm ⟨rp, fun efr es hd => ?_⟩
      subst hd;have eb : b = Ac := by
        cases b with
        |true => rfl
        |false => rw[efr]at ec;cases ec
      obtain⟨a, xs, h1, h2, h3, h4⟩ := fr eb es rfl;refine⟨a, xs, h1, ?_, h3, h4⟩;cases ha : H a with
      |none => rfl
      |some o => exact absurd ha (h2 o)
  |brk ρ' => rw[eo]at hpost;have hp2 : (match Ey Pg.xs (R.bad : R D) with | .ok _ => _ | .exn _ => _ | .bad => A6) := hpost;rw[cutO _ (by intro x z;cases z)]at hp2;exact hp2.elim
  |cont ρ' => rw[eo]at hpost;have hp2 : (match Ey Pg.xs (R.bad : R D) with | .ok _ => _ | .exn _ => _ | .bad => A6) := hpost;rw[cutO _ (by intro x z;cases z)]at hp2;exact hp2.elim
  |bad => rw[eo]at hpost;have hp2 : (match Ey Pg.xs (R.bad : R D) with | .ok _ => _ | .exn _ => _ | .bad => A6) := hpost;rw[cutO _ (by intro x z;cases z)]at hp2;exact hp2.elim
  |exn x ρ'=>
    rw[eo]at hpost;have hp2 : (match Ey Pg.xs (R.exn x : R D) with
      |.ok d => ∀ v H', Ay H H' -> Dl K CL (Pg.defs id).fr H B H' v d -> Q v H'
      |.exn x => ∀ cls dx H', Ay H H' -> Jo K CL H' B cls dx x -> E cls dx H'
      | .bad => A6) := hpost
    cases ex : Pg.xs with
    |false => rw[ex]at hp2;exact hp2.elim
    |true=>
      rw[ex]at hp2;have hp3 : (match (if x.fs.isEmpty = Ac then (R.exn x : R D) else .bad) with
        |.ok d => ∀ v H', Ay H H' -> Dl K CL (Pg.defs id).fr H B H' v d -> Q v H'
        |.exn x => ∀ cls dx H', Ay H H' -> Jo K CL H' B cls dx x -> E cls dx H'
        | .bad => A6) := hp2
      by_cases hfs : x.fs.isEmpty = Ac
      · rw[AH hfs]at hp3;refine key (fun y H' => y = x /\ Ay H H') (fun y cls H' ⟨e1, sm⟩ ⟨C, d1, d2⟩ => ?_) ?_
        · subst e1;exact hp3 cls Af H' sm ⟨C, d1, d2, .inl (List.isEmpty_iff.mp hfs)⟩
        · rw[eo];exact fun H' sm => ⟨rfl, sm⟩
      · rw[AO hfs]at hp3;exact hp3.elim
theorem YB(t : Tab K mg CL fns bl rzs exs gls Pg fuel){n:Ag}(hlv : ∀ q ∈ fns, Lvl P w K mg base CL Pg n q){st : Bq}{ps N : Ab Aj}(h2 : Fun K x qual st f fd)(h4 : ps.length = m)(h5 : FZ fuel Ac fns bl rzs exs gls ps N st (Pg.defs id) = Ac):HotOk P w K mg base (n+1) f fd ps (spH K CL m ((gam Pg (n+1)).fr id) ((gam Pg (n+1)).F id)) := by
 exfalso
 unfold FZ at h5;simp[Qn]at h5
theorem LQ(t : Tab K mg CL fns bl rzs exs gls Pg fuel) : ∀ n, ∀ p ∈ fns, Lvl P w K mg base CL Pg n p
 |0, p, hp => by
  obtain⟨f, fd, ps, qual, st, N, h1, h2, h3, h4, h5⟩ := t.fn p hp;exact⟨f, fd, ps, h1, h2.kp, h3, h4, fun _ => ⟨fun vs H Q E ⟨ds, A, _, _, _, z⟩ => z.elim, fun A outer s H args us vs Q E _ _ _ _ ⟨ds, A, _, _, _, z⟩ => z.elim⟩, fun _ => ⟨fun vs H Q E ⟨ds, A, _, _, _, z⟩ => z.elim, fun A ev outer s H args us vs Q E _ _ _ _ ⟨ds, A, _, _, _, z⟩ => z.elim⟩⟩
 |n+1, p, hp => by
  obtain⟨f, fd, ps, qual, st, N, h1, h2, h3, h4, h5⟩ := t.fn p hp;refine⟨f, fd, ps, h1, h2.kp, h3, h4, fun hlt => ?_, fun hge => ?_⟩
  ·have eb : Ds 1000 p.2.2 = Ad := by
    cases e : Ds 1000 p.2.2 with
    |false => rfl
    |true => exact absurd (EB e) (by omega)
   rw[eb]at h5;exact Pk t (fun q hq => LQ t n q hq) h2 h4 h5
  ·rw[Nat.ble_eq_true_of_le hge]at h5;exact YB t (fun q hq => LQ t n q hq) h2 h4 h5
theorem Zd{s s' : Ak}{e : Ah}(h : CXR P w [] H s (fun _ _ _ => A6) e s') : A6 := by
 obtain⟨_, _, _, _, _, _, _, _, _, _, _, _, _, _, z⟩ := h;exact z
theorem UQ{up:Ag -> Ab Ag}{xn:Ag -> Ab D -> R Ex}(h : ∀ c ds, xn c ds = .bad) : XT up xn (fun _ => Af) [] [] K mg := ⟨fun _ _ z => (nomatch z), fun _ z => (nomatch z), fun _ z => (nomatch z), fun c ds => .inl (h c ds), fun c _ ds => h c ds⟩
noncomputable def Jb(K : Fg) : Sp := fun vs H Q _ => ∃(a : Ai)(ns : Ab Ae), vs = [.ref a] /\ ns.length <= 63 /\ SqL K H a (ns.map V.int) /\ ∀ v H', v = V.bl Ac -> Q v H'
theorem law_fn(G : FnOk P w K mg base CX k f fd ps (spD K CL 1 Ad F))(h : ∀ ns : Ab Ae, F [.lst (ns.map .int)] = .ok (.bl Ac)) : FnOk P w K mg base CX k f fd ps (Jb K) := G.imp fun vs H Q E ⟨a, ns, e, hl, hS, q⟩ => by
 subst e;have rs : ∀ l : Ab Ae, Reps K CL H A0 (l.map V.int) (l.map D.int) := fun l => by
  induction l with
  |nil => trivial
  |cons x l ih => exact⟨rfl, ih⟩
 refine⟨[.lst (ns.map .int)], A0, rfl, fun _ z => z.elim, ⟨⟨a, _, rfl, .inl (fun z => z), hS, rs ns⟩, trivial⟩, ?_⟩
 rw[h ns];exact fun v H' _ r => q v H' r.1
theorem WQ(G : FnOk P w K mg base CX k f fd ps (spD K CL 1 Ad F))(h : ∀ ns : Ab Ae, ns.length <= 63 -> F [.lst (ns.map .int)] = .ok (.bl Ac)) : FnOk P w K mg base CX k f fd ps (Jb K) := G.imp fun vs H Q E ⟨a, ns, e, hl, hS, q⟩ => by
 subst e;have rs : ∀ l : Ab Ae, Reps K CL H A0 (l.map V.int) (l.map D.int) := fun l => by
  induction l with
  |nil => trivial
  |cons x l ih => exact⟨rfl, ih⟩
 refine⟨[.lst (ns.map .int)], A0, rfl, fun _ z => z.elim, ⟨⟨a, _, rfl, .inl (fun z => z), hS, rs ns⟩, trivial⟩, ?_⟩
 rw[h ns hl];exact fun v H' _ r => q v H' r.1
theorem Ln{Q : α -> Prop} : ∀ x ∈ ([] : Ab α), Q x := fun _ h => nomatch h
theorem all_cons{Q : α -> Prop}{a : α}{l : Ab α}(h1 : Q a)(h2 : ∀ x ∈ l, Q x) : ∀ x ∈ a::l, Q x := List.forall_mem_cons.2 ⟨h1, h2⟩
noncomputable def FnI(K : Fg)(f : Ai)(n : Aj)(st : Bq) : Prop := ∃ fd, Fun K n n st f fd /\ BK K AT n = Aa (Aa (.ref f))
theorem fni{st : Bq}{oc:Ah}{od an:Ap Ai}{osl:Bf (Ap Ah)}{kV doc pm cdv ct : Ah}(a : BK K AT n = Aa (Aa (.ref f)))(l : K.lookup f = Aa ⟨oc, od, .func (Di n n (HP st) (F7 st) (E1 st) .none kV doc pm an cdv ct), osl⟩)(c : EZ K cdv n = Ac)(k : CI K (.ref f) = Ac) : FnI K f n st := ⟨_, YG l c k, a⟩
noncomputable def Bd(n : Aj)(st : Bq)(ps : Ab Aj)(us : Ab Ah) : Prop := ∀(kV doc pm : Ah)(an : Ap Ai)(cdv ct : Ah), IC (Di n n (HP st) (F7 st) (E1 st) .none kV doc pm an cdv ct) ⟨us, []⟩ = pure (ps.zip us)
theorem JY{st : Bq}{ps N : Ab Aj}(m id : Ag)(X : K.In h)(G : h.Ns AT mg)(A : FnI K f n st)(hl : ps.length = m%1000)(hc : FZ fuel (Ds 1000 m) fns bl rzs exs gls ps N st (Pg.defs id) = Ac)(hb : ∀ us : Ab Ah, us.length = ps.length -> Bd n st ps us) : Ie K mg fns bl rzs exs gls Pg fuel (n, id, m) := by
 obtain⟨fd, F, a⟩ := A;exact⟨_, _, _, _, _, _, GJ X G a, F, F.binds fun kV doc pm an cdv ct us hu => hb us hu kV doc pm an cdv ct, hl, hc⟩
theorem J8{st : Bq}{N : Ab Aj}(m id : Ag)(X : K.In h)(G : h.Ns AT mg)(A : FnI K f n st)(hl : 1 = m%1000)(hc : FZ fuel (Ds 1000 m) fns bl rzs exs gls [x0] N st (Pg.defs id) = Ac)(hb : ∀ u0, Bd n st [x0] [u0]) : Ie K mg fns bl rzs exs gls Pg fuel (n, id, m):=
 JY (ps := [x0]) m id X G A hl hc fun us hu => match us, hu with | [u0], _ => hb u0
theorem ET{st : Bq}{N : Ab Aj}(m id : Ag)(X : K.In h)(G : h.Ns AT mg)(A : FnI K f n st)(hl : 2 = m%1000)(hc : FZ fuel (Ds 1000 m) fns bl rzs exs gls [x0, x1] N st (Pg.defs id) = Ac)(hb : ∀ u0 u1, Bd n st [x0, x1] [u0, u1]) : Ie K mg fns bl rzs exs gls Pg fuel (n, id, m):=
 JY (ps := [x0, x1]) m id X G A hl hc fun us hu => match us, hu with | [u0, u1], _ => hb u0 u1
theorem Im{st : Bq}{N : Ab Aj}{x2:Aj}(m id : Ag)(X : K.In h)(G : h.Ns AT mg)(A : FnI K f n st)(hl : 3 = m%1000)(hc : FZ fuel (Ds 1000 m) fns bl rzs exs gls [x0, x1, x2] N st (Pg.defs id) = Ac)(hb : ∀ u0 u1 u2, Bd n st [x0, x1, x2] [u0, u1, u2]) : Ie K mg fns bl rzs exs gls Pg fuel (n, id, m):=
 JY (ps := [x0, x1, x2]) m id X G A hl hc fun us hu => match us, hu with | [u0, u1, u2], _ => hb u0 u1 u2
theorem Mw{st : Bq}{N : Ab Aj}{x2 x3:Aj}(m id : Ag)(X : K.In h)(G : h.Ns AT mg)(A : FnI K f n st)(hl : 4 = m%1000)(hc : FZ fuel (Ds 1000 m) fns bl rzs exs gls [x0, x1, x2, x3] N st (Pg.defs id) = Ac)(hb : ∀ u0 u1 u2 u3, Bd n st [x0, x1, x2, x3] [u0, u1, u2, u3]) : Ie K mg fns bl rzs exs gls Pg fuel (n, id, m):=
 JY (ps := [x0, x1, x2, x3]) m id X G A hl hc fun us hu => match us, hu with | [u0, u1, u2, u3], _ => hb u0 u1 u2 u3
end
end Ov
namespace OvC
open PySem Ov
variable{p t k i j lo d at_:Ae}{xs ns:Ab Ae}{m n i' mid w:Ag}{Γ:Gam}{L:Ab D}{α:Type}{PP:D}{s6:Sl}
noncomputable def K1 : Df := ⟨4, Ad, (.cons (.ret (.call 1 (.cons (.var 0) (.cons (.bin .Add (.bin .Sub (.bin .Mult (.idx (.var 1) (.int 0)) (.bin .Sub (.bin .Mult (.idx (.var 2) (.int 1)) (.idx (.var 3) (.int 2))) (.bin .Mult (.idx (.var 2) (.int 2)) (.idx (.var 3) (.int 1))))) (.bin .Mult (.idx (.var 1) (.int 1)) (.bin .Sub (.bin .Mult (.idx (.var 2) (.int 0)) (.idx (.var 3) (.int 2))) (.bin .Mult (.idx (.var 2) (.int 2)) (.idx (.var 3) (.int 0)))))) (.bin .Mult (.idx (.var 1) (.int 2)) (.bin .Sub (.bin .Mult (.idx (.var 2) (.int 0)) (.idx (.var 3) (.int 1))) (.bin .Mult (.idx (.var 2) (.int 1)) (.idx (.var 3) (.int 0)))))) .nil)))) .nil)⟩
noncomputable abbrev tr(a b c : Ae) : D := .tup [.int a, .int b, .int c]
noncomputable def det(a0 a1 a2 b0 b1 b2 c0 c1 c2 : Ae) : Ae := a0*(b1*c2-b2*c1)-a1*(b0*c2-b2*c0)+a2*(b0*c1-b1*c0)
noncomputable def Sm(x : Ae) : Prop := 0 <= x /\ x<11
theorem Sm.of(h : P4 p)(x : Ae) : Sm (x%p) := ⟨Bg _ (by have := h.pos;omega), by have := Bb x h.pos;have := h.hi;omega⟩
theorem M2{body : D -> Rho -> O}(I : Rho -> Prop)(g : Ae -> An) :∀(L :Ab Ae),(∀ t ∈ L,∀ ρ,I ρ->(g t = Ac/\body (.int t) ρ = .ret (.int t) Ad)\/(g t = Ad/\∃ ρ',body (.int t) ρ = .next ρ'/\I ρ'))->∀ ρ,I ρ->(∃ t ∈ L,g t = Ac/\CT body (L.map D.int) ρ = .ret (.int t) Ad)\/((∀ t ∈ L,g t = Ad)/\∃ ρ',CT body (L.map D.int) ρ = .next ρ'/\I ρ')
 |[], _, ρ, i => .inr ⟨(fun _ h => nomatch h), ρ, rfl, i⟩
 |m::L, h, ρ, i => by
  rcases h m (AA ..) ρ i with ⟨e1, e2⟩|⟨e1, ρ', e2, i'⟩
  ·refine .inl ⟨m, AA .., e1, ?_⟩;show (body (.int m) ρ).turn _ = _;rw[e2];rfl
  ·rcases M2 I g L (fun m' h' => h m' (As _ h')) ρ' i' with ⟨t, ht, a, b⟩|⟨a, r, b, c⟩
   ·refine .inl ⟨t, As _ ht, a, ?_⟩;show (body (.int m) ρ).turn _ = _;rw[e2];exact b
   ·refine .inr ⟨fun t ht => ?_, r, ?_, c⟩
    ·rcases At.mp ht with rfl|ht
     ·exact e1
     ·exact a t ht
    ·show (body (.int m) ρ).turn _ = _;rw[e2];exact b
noncomputable def HG : Ss := (.cons (.ife (.cmp .Eq (.call 1 (.cons (.var 0) (.cons (.bin .Mult (.var 1) (.var 2)) .nil))) (.int 1)) (.cons (.ret (.var 2)) .nil) .nil) .nil)
noncomputable def Jt : Df := ⟨3, Ad, (.cons (.fors 2 (.rng2 (.int 1) (.var 0)) HG) (.cons (.rais 2 (.cons (.str (DF "a number with the rest 0 is not turned over")) .nil)) .nil))⟩
noncomputable def ES(p : Ae) : Ab Ae := (Cc (p-1).toNat).map fun(k : Ag) => 1+(k : Ae)
theorem HQ : t ∈ ES p ↔ 1 <= t /\ t<p := by
 unfold ES;rw[List.mem_map];constructor
 ·rintro⟨k, hk, rfl⟩;have := Db.mp hk;omega
 ·rintro⟨h1, h2⟩;exact⟨(t-1).toNat, Db.mpr (by omega), by omega⟩
theorem NV(h : P4 p) : CK 1 p = .ok ((ES p).map D.int) := by
 rcases h with rfl|rfl|rfl|rfl <;> rfl
theorem WS : ∀ p : Fin 12, (p.val = 3 \/ p.val = 5 \/ p.val = 7 \/ p.val = 11) -> ∀ r : Fin 12, r.val<p.val -> r.val ≠ 0 -> ∃ t : Fin 12, 1 <= t.val /\ t.val<p.val /\ r.val*t.val%p.val = 1 := by decide +kernel
theorem HX{n:Ae}(h : P4 p)(hn : n%p ≠ 0) : ∃ t, 1 <= t /\ t<p /\ n*t%p = 1 := by
 have p0 : 0<p /\ p<12 := by rcases h with rfl|rfl|rfl|rfl <;> decide
 obtain⟨q, rfl⟩ : ∃ q : Ag, p = q := ⟨p.toNat, by omega⟩
 have h0 := Bg n (b := (q : Ae)) (by omega)
 have h1 := Bb n p0.1;obtain⟨r, hr⟩ : ∃ r : Ag, n%(q : Ae) = r := ⟨(n%(q : Ae)).toNat, by omega⟩
 obtain⟨t, t1, t2, t3⟩ := WS ⟨q, by omega⟩ (by rcases h with e|e|e|e <;> simp <;> omega) ⟨r, by omega⟩ (by show r<q;omega) (by show r ≠ 0;omega)
 refine⟨(t.val : Ae), by omega, by show (t.val : Ae)<q;exact Int.ofNat_lt.mpr t2, ?_⟩
 have e : ((r*t.val%q : Ag) : Ae) = 1 := by rw[show r*t.val%q = 1 from t3];rfl
 rw[<-e, Int.natCast_emod, Int.natCast_mul, <-hr];exact(A9 n _ _).trans (by rw[A9 (n%(q : Ae)) (t.val : Ae) (q : Ae), A7 n (BQ _)])
theorem CM{r:R D}{d:D}(h : r = .ok d) : Ey Ac r = .ok d := by rw[h];rfl
noncomputable def Fs(p n t : Ae) : Prop := 1 <= t /\ t<p /\ n*t%p = 1
theorem Nu{n u:Ae}(h1 : Fs p n t)(h2 : Fs p n u) : t = u := by
 have hp : 1<p := by have := h1.1;have := h1.2.1;omega
 have e : t%p = u%p := by
  have a : t%p = t*(n*u)%p := by rw[A9, h2.2.2, CN, A7 _ (BQ p)]
  have b : u%p = (n*t)*u%p := by rw[A9 (n*t) u p, h1.2.2, Cw, A7 _ (BQ p)]
  rw[a, b]
  congr 1
  rw[<-Fi, Bk t n]
 rw[AI (by have := h1.1;omega) h1.2.1, AI (by have := h2.1;omega) h2.2.1]at e
 exact e
theorem Dk{c x:Ae}(hp : P4 p)(hc : c%p ≠ 0)(hx : x%p ≠ 0) : c*x%p ≠ 0 := fun z => by
 obtain⟨t, _, _, e⟩ := HX hp hc;refine hx ?_;have e1 : x%p = (c*t)*x%p := by rw[A9 (c*t) x p, e, Cw, A7 _ (BQ p)]
 rw[e1, show c*t*x = t*(c*x) by rw[Bk c t, Fi], A9, z, BY, A1]
noncomputable def AX(p : Ae) : Ab Ae -> Ap Ae
 |[] => Af
 |x::xs => if x%p = 0 then AX p xs else Aa (x%p)
theorem HL{p : Ae} : ∀{xs : Ab Ae}, AX p xs = Af ↔ ∀ x ∈ xs, x%p = 0
 |[] => by simp[AX]
 |x::xs => by
  unfold AX;by_cases h : x%p = 0
  ·rw[AH h, HL (xs := xs)];simp[h]
  ·rw[AO h];simp[h]
theorem IJ{p l : Ae}(hp : 0<p) : ∀{xs : Ab Ae}, AX p xs = Aa l -> l%p ≠ 0 /\ 0<l /\ l<p
 |[], h => by cases h
 |x::xs, h => by
  unfold AX at h;by_cases hx : x%p = 0
  ·rw[AH hx]at h;exact IJ hp h
  ·rw[AO hx]at h;cases h;have h0 := Bg x (b := p) (by omega)
   have h1 := Bb x hp;exact⟨by rw[A7 _ (BQ p)];exact hx, by omega, h1⟩
theorem HR{p c : Ae}(hp : P4 p)(hc : c%p ≠ 0){f : Ae -> Ae}(hf : ∀ x, f x%p = c*x%p) : ∀ xs : Ab Ae, AX p (xs.map f) = (AX p xs).map fun l => c*l%p
 |[] => rfl
 |x::xs => by
  rw[Cb];unfold AX;rw[hf x];by_cases hx : x%p = 0
  ·rw[AH hx, AH (by rw[A9, hx, BY, A1]), HR hp hc hf xs]
  ·rw[AO hx, AO (Dk hp hc hx), Dv]
   congr 1
   rw[A9 c (x%p), A7 _ (BQ p), <-A9]
noncomputable def ds(xs : Ab Ae) : Ab D := xs.map D.int
noncomputable def Ct(b : An)(xs : Ab Ae) : D := if b = Ac then .tup (ds xs) else .lst (ds xs)
theorem KH(b xs) : B5 (Ct b xs) = .ok (ds xs) := by unfold Ct;cases b <;> rfl
theorem HJ{g : D -> R An}{f : D -> R D}{φ : Ae -> Ae} : ∀(xs : Ab Ae), (∀ x ∈ xs, g (.int x) = .ok Ac /\ f (.int x) = .ok (.int (φ x))) -> Bh g f (ds xs) = .ok (ds (xs.map φ))
 |[], _ => rfl
 |x::xs, h => by
  obtain⟨h1, h2⟩ := h x (AA ..);show (g (.int x)).bind _ = _;rw[h1, R.bind_ok, AH rfl, h2, R.bind_ok];show (Bh g f (ds xs)).bind _ = _;rw[HJ xs fun y hy => h y (As _ hy)]
  rfl
noncomputable def MU : E := (.bl Ac)
noncomputable def Ku : E := (.call 1 (.cons (.var 0) (.cons (.var 5) .nil)))
noncomputable def MT : E := (.bl Ac)
noncomputable def Kt : E := (.call 1 (.cons (.var 0) (.cons (.bin .Mult (.var 4) (.var 6)) .nil)))
noncomputable def FR : Ss := (.cons (.ife (.cmp .NotEq (.var 3) (.int 0)) (.cons (.asg 4 Ad (.call 9 (.cons (.var 0) (.cons (.var 3) .nil)))) (.cons (.ret (.bi .tuple (.cons (.comp Kt 6 (.e (.var 2)) MT) .nil))) .nil)) .nil) .nil)
noncomputable def JH : Df := ⟨7, Ad, (.cons (.asg 2 Ad (.comp Ku 5 (.e (.var 1)) MU)) (.cons (.fors 3 (.e (.var 2)) FR) (.cons (.rais 3 (.cons (.str (DF "all the numbers have the rest 0")) .nil)) .nil)))⟩
noncomputable def fmI(p t : Ae)(xs : Ab Ae) : Ab Ae := xs.map fun x => t*(x%p)%p
section
variable{Γ : Gam}{p : Ae}{xs : Ab Ae}{b : An}
end
theorem M5{g : D -> R An}{f : D -> R D}{q : Ae -> An} : ∀(xs : Ab Ae), (∀ x ∈ xs, g (.int x) = .ok (q x) /\ f (.int x) = .ok (.int x)) -> Bh g f (ds xs) = .ok (ds (xs.filter q))
 |[], _ => rfl
 |x::xs, h => by
  obtain⟨h1, h2⟩ := h x (AA ..);have ih := M5 xs fun y hy => h y (As _ hy)
  show (g (.int x)).bind _ = _;rw[h1, R.bind_ok];cases hq : q x with
  |true=>
   rw[AH rfl, h2, R.bind_ok, Dd, hq, AH rfl];show (Bh g f (ds xs)).bind _ = _;rw[ih];rfl
  |false=>
   rw[AO (by decide), Dd, hq, AO (by decide)]
   exact ih
theorem Tl{p l t : Ae}(it : Fs p l t) : ((ES p).filter fun k => decide (k*l%p = 1)).head? = Aa t := by
 have hm : t ∈ (ES p).filter fun k => decide (k*l%p = 1) := Bc.mpr ⟨HQ.mpr ⟨it.1, it.2.1⟩, by simp[Bk t l, it.2.2]⟩
 cases e : (ES p).filter fun k => decide (k*l%p = 1) with
 |nil => rw[e]at hm;cases hm
 |cons u us=>
  have hu : u ∈ (ES p).filter fun k => decide (k*l%p = 1) := by rw[e];exact AA ..
  obtain⟨h1, h2⟩ := Bc.mp hu;obtain⟨a, b⟩ := HQ.mp h1;have h3 : u*l%p = 1 := by simpa using h2
  rw[Nu it ⟨a, b, by rw[Bk];exact h3⟩]
  rfl
theorem Nd{l : Ae}(h : xs.head? = Aa l) : Dm (ds xs) 0 = .ok (.int l) := by
 cases xs with
 |nil => cases h
 |cons x xs => cases h;exact Ll (by omega) rfl
noncomputable abbrev own(xs : Ab Ae) : Sl := Aa (.lst (ds xs), Ac)
section
variable{Γ : Gam}{ns : Ab Ae}{a1 a2 a4 a6 a7 a8 a9 b0 b1 b2 b3 b4 : Sl}{p : Ae}
end
section
variable{Γ : Gam}{ns : Ab Ae}{a1 a4 a6 a7 a8 a9 b2 b3 b4 : Sl}{p m : Ae}{xs : Ab Ae}
end
noncomputable def Cg(p x y : Ae) : Prop := x%p = y%p
section
variable{p a b c d : Ae}
theorem Cg.rfl : Cg p a a := Eq.refl _
theorem Cg.of(h : a = b) : Cg p a b := by unfold Cg;rw[h]
theorem Cg.trans{a b c : Ae}(h : Cg p a b)(g : Cg p b c) : Cg p a c := Eq.trans h g
theorem Cg.symm(h : Cg p a b) : Cg p b a := Eq.symm h
theorem Cg.add(h : Cg p a b)(g : Cg p c d) : Cg p (a+c) (b+d) := by unfold Cg at *;rw[Q0, h, g, <-Q0]
theorem Cg.sub(h : Cg p a b)(g : Cg p c d) : Cg p (a-c) (b-d) := by unfold Cg at *;rw[Q2, h, g, <-Q2]
theorem Cg.mul(h : Cg p a b)(g : Cg p c d) : Cg p (a*c) (b*d) := by unfold Cg at *;rw[A9, h, g, <-A9]
theorem Cg.md(h : a = b%p) : Cg p a b := by unfold Cg;rw[h, A7 _ (BQ p)]
end
theorem F9{p a0 a1 a2 b0 b1 b2 c0 c1 c2 x0 x1 x2 y0 y1 y2 z0 z1 z2 : Ae}(h0 : Cg p a0 x0)(h1 : Cg p a1 x1)(h2 : Cg p a2 x2)(h3 : Cg p b0 y0)(h4 : Cg p b1 y1)(h5 : Cg p b2 y2)(h6 : Cg p c0 z0)(h7 : Cg p c1 z1)(h8 : Cg p c2 z2):Cg p (a0*(b1*c2-b2*c1)-a1*(b0*c2-b2*c0)+a2*(b0*c1-b1*c0)) (x0*(y1*z2-y2*z1)-x1*(y0*z2-y2*z0)+x2*(y0*z1-y1*z0)):=
 ((h0.mul ((h4.mul h8).sub (h5.mul h7))).sub (h1.mul ((h3.mul h8).sub (h5.mul h6)))).add (h2.mul ((h3.mul h7).sub (h4.mul h6)))
theorem P4.m1(h : P4 p) : (-1 : Ae)%p ≠ 0 := by rcases h with rfl|rfl|rfl|rfl <;> decide
theorem P4.o1(h : P4 p) : (1 : Ae)%p ≠ 0 := by rcases h with rfl|rfl|rfl|rfl <;> decide
noncomputable abbrev R3 := Ae × Ae × Ae
variable{a x y r g y':R3}{q:R3 -> An}
noncomputable def A8(a : R3) : D := .lst [.int a.1, .int a.2.1, .int a.2.2]
noncomputable def Aq(a b c : R3) : Ae := det a.1 a.2.1 a.2.2 b.1 b.2.1 b.2.2 c.1 c.2.1 c.2.2
noncomputable def In3(p : Ae)(a : R3) : Prop := (0 <= a.1 /\ a.1<p) /\ (0 <= a.2.1 /\ a.2.1<p) /\ (0 <= a.2.2 /\ a.2.2<p)
structure GoodR (p : Ae) (a b c : R3) : Prop where
 p4 : P4 p
 ia : In3 p a
 ib : In3 p b
 ic : In3 p c
 nz : Aq a b c%p ≠ 0
theorem GoodR.of{a b c a' b' c' : R3}(h : GoodR p a b c)(hk : k%p ≠ 0)(e : Cg p (Aq a' b' c') (k*Aq a b c))(hin : In3 p a' /\ In3 p b' /\ In3 p c') : GoodR p a' b' c' := ⟨h.p4, hin.1, hin.2.1, hin.2.2, by rw[show Aq a' b' c'%p = _ from e];exact Dk h.p4 hk h.nz⟩
noncomputable def Hn(t : Ae)(a : R3) : R3 := (a.1*t, a.2.1*t, a.2.2*t)
noncomputable def E8(t : Ae)(a b : R3) : R3 := (a.1+t*b.1, a.2.1+t*b.2.1, a.2.2+t*b.2.2)
noncomputable def mdR(p : Ae)(a : R3) : R3 := (a.1%p, a.2.1%p, a.2.2%p)
noncomputable def scR(p t : Ae)(a : R3) : R3 := mdR p (Hn t a)
noncomputable def adR(p t : Ae)(a b : R3) : R3 := mdR p (E8 t a b)
theorem Qc(h : 0<p)(a : R3) : In3 p (mdR p a) := ⟨⟨Bg _ (by omega), Bb _ h⟩, ⟨Bg _ (by omega), Bb _ h⟩, ⟨Bg _ (by omega), Bb _ h⟩⟩
theorem Ib(h : 0<p)(t : Ae)(a : R3) : In3 p (scR p t a) := Qc h _
theorem Ia(h : 0<p)(t : Ae)(a b : R3) : In3 p (adR p t a b) := Qc h _
theorem QK(p t : Ae)(a b c : R3) : Cg p (Aq (scR p t a) b c) (t*Aq a b c) := by
 refine Cg.trans (b := Aq (Hn t a) b c) ?_ (Cg.of (by unfold Aq det Hn;grind))
 unfold Aq det;exact F9 (Cg.md (by rfl)) (Cg.md (by rfl)) (Cg.md (by rfl)) Cg.rfl Cg.rfl Cg.rfl Cg.rfl Cg.rfl Cg.rfl
theorem dF(p t : Ae)(a b c : R3) : Cg p (Aq (adR p t a b) b c) (1*Aq a b c) := by
 refine Cg.trans (b := Aq (E8 t a b) b c) ?_ (Cg.of (by unfold Aq det E8;grind))
 unfold Aq det;exact F9 (Cg.md (by rfl)) (Cg.md (by rfl)) (Cg.md (by rfl)) Cg.rfl Cg.rfl Cg.rfl Cg.rfl Cg.rfl Cg.rfl
theorem dE(p t : Ae)(a b c : R3) : Cg p (Aq (adR p t a c) b c) (1*Aq a b c) := by
 refine Cg.trans (b := Aq (E8 t a c) b c) ?_ (Cg.of (by unfold Aq det E8;grind))
 unfold Aq det;exact F9 (Cg.md (by rfl)) (Cg.md (by rfl)) (Cg.md (by rfl)) Cg.rfl Cg.rfl Cg.rfl Cg.rfl Cg.rfl Cg.rfl
theorem QJ(p t : Ae)(a b c : R3) : Cg p (Aq a (scR p t b) c) (t*Aq a b c) := by
 refine Cg.trans (b := Aq a (Hn t b) c) ?_ (Cg.of (by unfold Aq det Hn;grind))
 unfold Aq det;exact F9 Cg.rfl Cg.rfl Cg.rfl (Cg.md (by rfl)) (Cg.md (by rfl)) (Cg.md (by rfl)) Cg.rfl Cg.rfl Cg.rfl
theorem dD(p t : Ae)(a b c : R3) : Cg p (Aq a (adR p t b a) c) (1*Aq a b c) := by
 refine Cg.trans (b := Aq a (E8 t b a) c) ?_ (Cg.of (by unfold Aq det E8;grind))
 unfold Aq det;exact F9 Cg.rfl Cg.rfl Cg.rfl (Cg.md (by rfl)) (Cg.md (by rfl)) (Cg.md (by rfl)) Cg.rfl Cg.rfl Cg.rfl
theorem dC(p t : Ae)(a b c : R3) : Cg p (Aq a (adR p t b c) c) (1*Aq a b c) := by
 refine Cg.trans (b := Aq a (E8 t b c) c) ?_ (Cg.of (by unfold Aq det E8;grind))
 unfold Aq det;exact F9 Cg.rfl Cg.rfl Cg.rfl (Cg.md (by rfl)) (Cg.md (by rfl)) (Cg.md (by rfl)) Cg.rfl Cg.rfl Cg.rfl
theorem QI(p t : Ae)(a b c : R3) : Cg p (Aq a b (scR p t c)) (t*Aq a b c) := by
 refine Cg.trans (b := Aq a b (Hn t c)) ?_ (Cg.of (by unfold Aq det Hn;grind))
 unfold Aq det;exact F9 Cg.rfl Cg.rfl Cg.rfl Cg.rfl Cg.rfl Cg.rfl (Cg.md (by rfl)) (Cg.md (by rfl)) (Cg.md (by rfl))
theorem dB(p t : Ae)(a b c : R3) : Cg p (Aq a b (adR p t c a)) (1*Aq a b c) := by
 refine Cg.trans (b := Aq a b (E8 t c a)) ?_ (Cg.of (by unfold Aq det E8;grind))
 unfold Aq det;exact F9 Cg.rfl Cg.rfl Cg.rfl Cg.rfl Cg.rfl Cg.rfl (Cg.md (by rfl)) (Cg.md (by rfl)) (Cg.md (by rfl))
theorem dA(p t : Ae)(a b c : R3) : Cg p (Aq a b (adR p t c b)) (1*Aq a b c) := by
 refine Cg.trans (b := Aq a b (E8 t c b)) ?_ (Cg.of (by unfold Aq det E8;grind))
 unfold Aq det;exact F9 Cg.rfl Cg.rfl Cg.rfl Cg.rfl Cg.rfl Cg.rfl (Cg.md (by rfl)) (Cg.md (by rfl)) (Cg.md (by rfl))/-! ### draws -/
theorem Oy(h0 : 0 <= k)(h1 : k<ns.length) : Dm (ns.map D.int) k = .ok (.int (ns.getD k.toNat 0)) := Ll h0 (by
 have : k.toNat<ns.length := by omega
 simp[this])
noncomputable abbrev ownR(a b c : R3) : Sl := Aa (.lst [A8 a, A8 b, A8 c], Ac)
section
variable{Γ : Gam}{ns : Ab Ae}{at_ many s5 s0 s1 s2 : Sl}{p t m : Ae}{a b c : R3}
end
section
variable{Γ : Gam}{ns : Ab Ae}{many s5 s6 s7 s8 s9 s0 s1 s2 : Sl}{p : Ae}{a b c : R3}
end
noncomputable def DV(a b c : R3) : D := .lst [A8 a, A8 b, A8 c]
noncomputable def eH(a b c : R3) : Ab Ae := [a.1, a.2.1, a.2.2, b.1, b.2.1, b.2.2, c.1, c.2.1, c.2.2]
noncomputable def fmR(p t : Ae)(a : R3) : R3 := (t*(a.1%p)%p, t*(a.2.1%p)%p, t*(a.2.2%p)%p)
noncomputable def Bd(n : Ag)(x : Ae) : Prop := x.natAbs<2 ^ n
theorem Bd.mul{x y:Ae}(h : Bd m x)(g : Bd n y) : Bd (m+n) (x*y) := by
 unfold Bd at *;rw[Int.natAbs_mul, Nat.pow_add];exact Nat.mul_lt_mul'' h g
theorem Bd.sub{x y:Ae}(h : Bd n x)(g : Bd n y) : Bd (n+1) (x-y) := by
 unfold Bd at *;rw[Nat.pow_succ];omega
theorem Fn{x y:Ae}(h : Bd m x)(g : Bd n y)(hm : m <= 2000)(hn : n <= 2000) : DX x y = Ac := by
 unfold DX Bd at *;rw[Al, AV, AV];exact⟨AD h (EI (by decide) hm), AD g (EI (by decide) hn)⟩
noncomputable def B3(a : R3) : Prop := Bd 300 a.1 /\ Bd 300 a.2.1 /\ Bd 300 a.2.2
noncomputable def AG(q : An)(a : R3) : D := Ct q [a.1, a.2.1, a.2.2]
theorem GX(q : An)(a : R3) : Ci (AG q a) (.int 0) = .ok (.int a.1) /\ Ci (AG q a) (.int 1) = .ok (.int a.2.1) /\ Ci (AG q a) (.int 2) = .ok (.int a.2.2) := by cases q <;> exact⟨rfl, rfl, rfl⟩
noncomputable def OW(Γ : Gam) : Prop := ∀(p : Ae)(q : An)(a b c : R3), 0<p -> B3 a -> B3 b -> B3 c -> Γ.F 61 [.int p, AG q a, AG q b, AG q c] = .ok (.int (Aq a b c%p))
theorem Vu(h : Hi Γ)(p : Ae)(q : An)(a b c : R3)(hp : 0<p)(ha : B3 a)(hb : B3 b)(hc : B3 c) : K1.run Γ [.int p, AG q a, AG q b, AG q c] = .ok (.int (Aq a b c%p)) := by
 obtain⟨a0, a1, a2⟩ := GX q a;obtain⟨b0, b1, b2⟩ := GX q b;obtain⟨c0, c1, c2⟩ := GX q c;have k : ∀ {x y}, Bd 300 x -> Bd 300 y -> DX x y = Ac := fun hx hy => Fn hx hy (by decide) (by decide)
 have k2 : ∀ {x y z u v}, Bd 300 x -> Bd 300 y -> Bd 300 z -> Bd 300 u -> Bd 300 v -> DX x (y*z-u*v) = Ac := fun hx hy hz hu hv => Fn hx ((hy.mul hz).sub (hu.mul hv)) (by decide) (by decide)
 simp[K1, Df.run, Bt, a0, a1, a2, b0, b1, b2, c0, c1, c2, k hb.2.1 hc.2.2, k hb.2.2 hc.2.1, k hb.1 hc.2.2, k hb.2.2 hc.1, k hb.1 hc.2.1, k hb.2.1 hc.1, k2 ha.1 hb.2.1 hc.2.2 hb.2.2 hc.2.1, k2 ha.2.1 hb.1 hc.2.2 hb.2.2 hc.1, k2 ha.2.2 hb.1 hc.2.1 hb.2.1 hc.1, h p _ hp];rfl
section
variable{Γ : Gam}{ns : Ab Ae}{p t : Ae}{a b c r : R3}{made s6 s7 : Sl}
end
theorem JG{p : Ae} : ∀{xs ys : Ab Ae}, xs.map (fun x => x%p) = ys.map (fun x => x%p) -> AX p xs = AX p ys
 |[], [], _ => rfl
 |x::xs, y::ys, h => by
  rw[Cb, Cb, Q8]at h;unfold AX;rw[h.1, JG h.2]
 |[], _::_, h => by simp at h
 |_::_, [], h => by simp at h
theorem UX{ys:Ab Ae}(h : xs.map (fun x => x%p) = ys.map (fun x => x%p)) : fmI p t xs = fmI p t ys := by
 have e : ∀ zs : Ab Ae, fmI p t zs = (zs.map fun x => x%p).map fun r => t*r%p := fun zs => by simp[fmI, FL, QZ]
 rw[e, e, h]
theorem bV(hp : 0<p)(t : Ae)(a : R3) : In3 p (fmR p t a) := ⟨⟨Bg _ (by omega), Bb _ hp⟩, ⟨Bg _ (by omega), Bb _ hp⟩, ⟨Bg _ (by omega), Bb _ hp⟩⟩
section
variable{Γ : Gam}{ns : Ab Ae}{p m : Ae}{a b c : R3}{fa fb fc : R3}{q : An}{s9 s0 s1 s2 : Sl}
end
noncomputable def K3(Γ : Gam) : Prop := ∀ p n : Ae, P4 p -> n%p ≠ 0 -> ∃ t, 1 <= t /\ t<p /\ n*t%p = 1 /\ Γ.F 9 [.int p, .int n] = .ok (.int t)
noncomputable def Lq(Γ : Gam) : Prop := ∀(p : Ae)(b : An)(xs : Ab Ae)(l t : Ae), P4 p -> AX p xs = Aa l -> Fs p l t -> Γ.F 17 [.int p, Ct b xs] = .ok (.tup (ds (fmI p t xs)))
theorem T4(hr : Hi Γ)(p n : Ae)(hp : P4 p)(z : n%p ≠ 0):∃ t,1 <= t/\t<p/\n*t%p = 1/\Jt.run Γ [.int p,.int n] = .ok (.int t) := by
 have p0 := hp.pos;have ph := hp.hi;have body : ∀ t ∈ ES p, ∀ ρ, (∃ s, ρ = [si p, si n, s]) -> (decide (n*t%p = 1) = Ac /\ CB Γ 2 HG (.int t) ρ = .ret (.int t) Ad) \/ (decide (n*t%p = 1) = Ad /\ ∃ ρ', CB Γ 2 HG (.int t) ρ = .next ρ' /\ ∃ s, ρ' = [si p, si n, s]) := by
  rintro t ht ρ ⟨s, rfl⟩;obtain⟨t1, t2⟩ := HQ.mp ht;have m : C9 n t = Ac := JQ (by omega) (by omega)
  by_cases e : n*t%p = 1
  ·exact .inl ⟨by simp[e], by simp[CB, HG, hr p (n*t) p0, m, e, DY]⟩
  ·exact .inr ⟨by simp[e], _, by simp[CB, HG, hr p (n*t) p0, m, e];rfl, _, rfl⟩
 have run : ∀ o, CT (CB Γ 2 HG) ((ES p).map D.int) [si p, si n, Af] = o -> Jt.run Γ [.int p, .int n] = (Ew Γ (.cons (.rais 2 (.cons (.str (DF "a number with the rest 0 is not turned over")) .nil)) .nil) o).ans Ad := by
  rintro o rfl;simp[Jt, Df.run, Bt, NV hp]
 rcases M2 (fun ρ => ∃ s, ρ = [si p, si n, s]) (fun t => decide (n*t%p = 1)) (ES p) body [si p, si n, Af] ⟨_, rfl⟩ with ⟨t, ht, a, b⟩|⟨a, r, b, s, rfl⟩
 ·obtain⟨t1, t2⟩ := HQ.mp ht;have a' : n*t%p = 1 := by simpa using a
  exact⟨t, t1, t2, a', by rw[run _ b];rfl⟩
 ·obtain⟨t, t1, t2, e⟩ := HX hp z;have := a t (HQ.mpr ⟨t1, t2⟩);simp[e]at this
section
variable{Γ : Gam}{p : Ae}{xs : Ab Ae}{b : An}
theorem NH(hr : Hi Γ)(ht : K3 Γ)(hp : P4 p)(rs : Ab Ae) :∀(ys :Ab Ae),(∀ y ∈ ys,0 <= y/\y<p)->∀ s3,(AX p ys = Af->∃ s3',CT (CB Γ 3 FR) (ds ys) [si p,sh (Ct b xs),sh (.lst (ds rs)),s3,Af,Af,Af] = .next [si p,sh (Ct b xs),sh (.lst (ds rs)),s3',Af,Af,Af])/\(∀ l t,AX p ys = Aa l->Fs p l t->CT (CB Γ 3 FR) (ds ys) [si p,sh (Ct b xs),sh (.lst (ds rs)),s3,Af,Af,Af] = .ret (.tup (ds (rs.map fun r =>t*r%p))) Ad)
 |[], _, s3 => ⟨fun _ => ⟨s3, rfl⟩, (fun l t h => nomatch h)⟩
 |y::ys, hy, s3 => by
  obtain⟨y0, y1⟩ := hy y (AA ..);have ym : y%p = y := AI y0 y1;have ih := NH hr ht hp rs ys (fun z hz => hy z (As _ hz)) (si y)
  have step : ∀ o, CB Γ 3 FR (.int y) [si p, sh (Ct b xs), sh (.lst (ds rs)), s3, Af, Af, Af] = o -> CT (CB Γ 3 FR) (ds (y::ys)) [si p, sh (Ct b xs), sh (.lst (ds rs)), s3, Af, Af, Af] = o.turn (CT (CB Γ 3 FR) (ds ys)) := by
   rintro o rfl;rfl
  unfold AX;rw[ym];by_cases hz : y = 0
  ·have e : CB Γ 3 FR (.int y) [si p, sh (Ct b xs), sh (.lst (ds rs)), s3, Af, Af, Af] = .next [si p, sh (Ct b xs), sh (.lst (ds rs)), si y, Af, Af, Af] := by
    simp[CB, FR, hz]
   rw[AH hz, step _ e];exact ih
  ·rw[AO hz];refine⟨(fun z => nomatch z), fun l t e it => ?_⟩
   cases e;obtain⟨u, u1, u2, u3, u4⟩ := ht p y hp (by rw[ym];exact hz)
   have : t = u := Nu it ⟨u1, u2, u3⟩;subst this;have p0 := hp.pos;have ph := hp.hi;have cp : Bh (cG Γ [si p, sh (Ct b xs), sh (.lst (ds rs)), si y, si t, Af, Af] 6 MT) (cF Γ [si p, sh (Ct b xs), sh (.lst (ds rs)), si y, si t, Af, Af] 6 Kt) (ds rs) = .ok (ds (rs.map fun r => t*r%p)) := by
    refine HJ rs fun r _ => ⟨rfl, ?_⟩
    have m : C9 t r = Ac := GV (by omega) (by omega)
    simp[cF, Kt, m, hr p (t*r) p0]
   have e : CB Γ 3 FR (.int y) [si p, sh (Ct b xs), sh (.lst (ds rs)), s3, Af, Af, Af] = .ret (.tup (ds (rs.map fun r => t*r%p))) Ad := by
    simp[CB, FR, hz, u4, cp, DY]
   rw[step _ e];rfl
theorem Vv(hr : Hi Γ)(ht : K3 Γ)(hp : P4 p){l t : Ae}(e : AX p xs = Aa l)(it : Fs p l t) : JH.run Γ [.int p, Ct b xs] = .ok (.tup (ds (fmI p t xs))) := by
 have p0 := hp.pos;have cp : Bh (cG Γ [si p, sh (Ct b xs), Af, Af, Af, Af, Af] 5 MU) (cF Γ [si p, sh (Ct b xs), Af, Af, Af, Af, Af] 5 Ku) (ds xs) = .ok (ds (xs.map fun x => x%p)) := by
  refine HJ xs fun x _ => ⟨rfl, ?_⟩
  simp[cF, Ku, hr p x p0]
 have run : ∀ o, CT (CB Γ 3 FR) (ds (xs.map fun x => x%p)) [si p, sh (Ct b xs), sh (.lst (ds (xs.map fun x => x%p))), Af, Af, Af, Af] = o -> JH.run Γ [.int p, Ct b xs] = (Ew Γ (.cons (.rais 3 (.cons (.str (DF "all the numbers have the rest 0")) .nil)) .nil) o).ans Ad := by
  rintro o rfl;simp[JH, Df.run, Bt, KH, cp]
 have le : AX p (xs.map fun x => x%p) = AX p xs := by
  have := HR (c := 1) hp (by rcases hp with rfl|rfl|rfl|rfl <;> decide) (f := fun x => x%p) (fun x => by rw[Cw, A7 _ (BQ p)]) xs
  rw[this];cases e : AX p xs with
  |none => rfl
  |some l=>
   obtain⟨_, l0, l1⟩ := IJ p0 e;simp[AI (Int.le_of_lt l0) l1]
 obtain⟨a, c⟩ := NH (b := b) (xs := xs) hr ht hp (xs.map fun x => x%p) (xs.map fun x => x%p) (fun y hy => by
  obtain⟨x, _, rfl⟩ := CO.mp hy;exact⟨Bg _ (by omega), Bb _ p0⟩) Af
 rw[le]at a c;rw[run _ (c l t e it)];simp[fmI, FL, QZ]
end
noncomputable def DN(a b c : R3) : R3 := (a.1, b.1, c.1)
noncomputable def DM(a b c : R3) : R3 := (a.2.1, b.2.1, c.2.1)
noncomputable def DL(a b c : R3) : R3 := (a.2.2, b.2.2, c.2.2)
noncomputable def Av(a x : R3) : Ae := a.1*x.1+a.2.1*x.2.1+a.2.2*x.2.2
noncomputable def crs(a b : R3) : R3 := (a.2.1*b.2.2-a.2.2*b.2.1, a.2.2*b.1-a.1*b.2.2, a.1*b.2.1-a.2.1*b.1)
theorem Oo : ∀ xs ys : Ab Ae, eqDs (ds xs) (ds ys) = decide (xs = ys)
 |[], [] => rfl
 |[], _::_ => rfl
 |_::_, [] => rfl
 |x::xs, y::ys => by
  show ((x==y)&&eqDs (ds xs) (ds ys)) = _;rw[Oo xs ys, Cy];simp
theorem LR(a b : R3) : eqD (AG Ac a) (AG Ac b) = decide (a = b) := by
 show eqDs (ds [a.1, a.2.1, a.2.2]) (ds [b.1, b.2.1, b.2.2]) = _;rw[Oo, Cy];simp only[Q8, Ho, AV];exact⟨fun ⟨h1, h2, h3⟩ => by obtain⟨a1, a2, a3⟩ := a;obtain⟨b1, b2, b3⟩ := b;simp at h1 h2 h3;rw[h1, h2, h3], fun h => by rw[h];exact⟨rfl, rfl, rfl⟩⟩
noncomputable def K2 : Df := ⟨2, Ad, (.cons (.ife (.cmp .Eq (.var 0) (.var 1)) (.cons (.rais 7 (.cons (.var 0) .nil)) .nil) .nil) (.cons (.ret (.tup (.cons (.bin .Sub (.bin .Mult (.idx (.var 0) (.int 1)) (.idx (.var 1) (.int 2))) (.bin .Mult (.idx (.var 0) (.int 2)) (.idx (.var 1) (.int 1)))) (.cons (.bin .Sub (.bin .Mult (.idx (.var 0) (.int 2)) (.idx (.var 1) (.int 0))) (.bin .Mult (.idx (.var 0) (.int 0)) (.idx (.var 1) (.int 2)))) (.cons (.bin .Sub (.bin .Mult (.idx (.var 0) (.int 0)) (.idx (.var 1) (.int 1))) (.bin .Mult (.idx (.var 0) (.int 1)) (.idx (.var 1) (.int 0)))) .nil))))) .nil))⟩
noncomputable def Xk(Γ : Gam) : Prop := ∀ a b : R3, B3 a -> B3 b -> a ≠ b -> Γ.F 23 [AG Ac a, AG Ac b] = .ok (AG Ac (crs a b))
theorem Vz(Γ : Gam)(a b : R3)(ha : B3 a)(hb : B3 b)(ne : a ≠ b) : K2.run Γ [AG Ac a, AG Ac b] = .ok (AG Ac (crs a b)) := by
 obtain⟨x0, x1, x2⟩ := GX Ac a;obtain⟨y0, y1, y2⟩ := GX Ac b;have k : ∀ {u v}, Bd 300 u -> Bd 300 v -> DX u v = Ac := fun hu hv => Fn hu hv (by decide) (by decide)
 have f : ∀ r : R3, flD 5 (AG Ac r) = Ac := fun _ => rfl
 have e : eqD (AG Ac a) (AG Ac b) = Ad := by rw[LR];exact Ck ne
 simp[K2, Df.run, Bt, f, e, x0, x1, x2, y0, y1, y2, k ha.2.1 hb.2.2, k ha.2.2 hb.2.1, k ha.2.2 hb.1, k ha.1 hb.2.2, k ha.1 hb.2.1, k ha.2.1 hb.1];rfl
noncomputable def bk0(a b c : R3) : R3 := DN (crs b c) (crs c a) (crs a b)
noncomputable def bk1(a b c : R3) : R3 := DM (crs b c) (crs c a) (crs a b)
noncomputable def bk2(a b c : R3) : R3 := DL (crs b c) (crs c a) (crs a b)
theorem Jf{x:Ae}(hp : P4 p)(h0 : 0 <= x)(h1 : x<p) : Bd 10 x := by
 unfold Bd;have := hp.hi;omega
theorem Bd.mono{x:Ae}(h : Bd m x)(hm : m <= n) : Bd n x := AD h (EI (by decide) hm)
noncomputable def Bn(n : Ag)(a : R3) : Prop := Bd n a.1 /\ Bd n a.2.1 /\ Bd n a.2.2
theorem Bn.b3(h : Bn n a)(hn : n <= 300) : B3 a := ⟨h.1.mono hn, h.2.1.mono hn, h.2.2.mono hn⟩
theorem E6(hp : P4 p)(h : In3 p a) : Bn 10 a := ⟨Jf hp h.1.1 h.1.2, Jf hp h.2.1.1 h.2.1.2, Jf hp h.2.2.1 h.2.2.2⟩
theorem Ma(a b c : R3) : Aq (bk0 a b c) (bk1 a b c) (bk2 a b c) = Aq a b c*Aq a b c := by
 unfold Aq det bk0 bk1 bk2 DN DM DL crs;grind
noncomputable def Bx(k : Ae)(a : R3) : R3 := (k*a.1, k*a.2.1, k*a.2.2)
noncomputable def fk0(p : Ae)(a b c d : R3) : Ae := Aq d b c%p
noncomputable def fs0(p : Ae)(a b c d : R3) : R3 := Bx (fk0 p a b c d) a
noncomputable def fH(p : Ae)(a b c d : R3) : Prop := Aq a b c%p ≠ 0 /\ Aq a b d%p ≠ 0 /\ Aq a c d%p ≠ 0 /\ Aq b c d%p ≠ 0
noncomputable def CgR(p : Ae)(x y : R3) : Prop := Cg p x.1 y.1 /\ Cg p x.2.1 y.2.1 /\ Cg p x.2.2 y.2.2
section
variable{p : Ae}{a b c a' b' c' x y z x' : R3}{k l m k' : Ae}
theorem CgR.rfl : CgR p a a := ⟨Cg.rfl, Cg.rfl, Cg.rfl⟩
theorem CgR.of(h : a = b) : CgR p a b := by rw[h];exact CgR.rfl
theorem CgR.trans(h : CgR p a b)(g : CgR p b c) : CgR p a c := ⟨h.1.trans g.1, h.2.1.trans g.2.1, h.2.2.trans g.2.2⟩
theorem CgR.symm(h : CgR p a b) : CgR p b a := ⟨h.1.symm, h.2.1.symm, h.2.2.symm⟩
theorem CgR.sc(hk : Cg p k k')(h : CgR p a b) : CgR p (Bx k a) (Bx k' b) := ⟨hk.mul h.1, hk.mul h.2.1, hk.mul h.2.2⟩
theorem Wm(ha : CgR p a a')(hb : CgR p b b')(hc : CgR p c c') : Cg p (Aq a b c) (Aq a' b' c') := by
 unfold Aq det;exact F9 ha.1 ha.2.1 ha.2.2 hb.1 hb.2.1 hb.2.2 hc.1 hc.2.1 hc.2.2
theorem Gz(ha : CgR p a a')(hb : CgR p b b') : Cg p (Av a b) (Av a' b') := ((ha.1.mul hb.1).add (ha.2.1.mul hb.2.1)).add (ha.2.2.mul hb.2.2)
theorem Zf(ha : CgR p a a')(hb : CgR p b b')(hc : CgR p c c') : CgR p (DN a b c) (DN a' b' c') /\ CgR p (DM a b c) (DM a' b' c') /\ CgR p (DL a b c) (DL a' b' c') := ⟨⟨ha.1, hb.1, hc.1⟩, ⟨ha.2.1, hb.2.1, hc.2.1⟩, ⟨ha.2.2, hb.2.2, hc.2.2⟩⟩
theorem bW(p t : Ae)(a : R3) : CgR p (fmR p t a) (Bx t a) := by
 have key : ∀ x : Ae, Cg p (t*(x%p)%p) (t*x) := fun x => (Cg.md _root_.rfl).trans (Cg.rfl.mul (Cg.md _root_.rfl))
 exact⟨key _, key _, key _⟩
noncomputable def rm(a x y z : R3) : R3 := (Av (DN x y z) a, Av (DM x y z) a, Av (DL x y z) a)
noncomputable def ap(a b c x : R3) : R3 := (Av a x, Av b x, Av c x)
theorem Zc(a b c x y z : R3) : Aq (ap a b c x) (ap a b c y) (ap a b c z) = Aq a b c*Aq x y z := by
 unfold Aq det ap Av;grind
theorem Zb(k l m : Ae)(x y z : R3) : Aq (Bx k x) (Bx l y) (Bx m z) = k*l*m*Aq x y z := by
 unfold Aq det Bx;grind
theorem Md(k l : Ae)(x : R3) : Bx k (Bx l x) = Bx (k*l) x := by
 unfold Bx;simp only[Fi]
theorem dJ(a b c x : R3)(k : Ae) : ap a b c (Bx k x) = Bx k (ap a b c x) := by
 unfold ap Bx Av;refine Bw ?_ (Bw ?_ ?_) <;> (simp only;grind)
end
section
variable{p : Ae}{a b c f0 f1 f2 f3 g0 g1 g2 g3 : R3}{d0 d1 d2 d3 : Ae}
theorem WN(hx : CgR p g0 (Bx d0 (ap a b c f0)))(hy : CgR p g1 (Bx d1 (ap a b c f1)))(hz : CgR p g2 (Bx d2 (ap a b c f2))) : Cg p (Aq g0 g1 g2) (d0*d1*d2*(Aq a b c*Aq f0 f1 f2)):=
 (Wm hx hy hz).trans (Cg.of (by rw[Zb, Zc]))
end
section
variable{Γ : Gam}{ns : Ab Ae}
end
section
variable{Γ : Gam}{ns : Ab Ae}{many s5 s6 s7 s8 s9 s0 s1 s2 : Sl}{p : Ae}{a b c : R3}
end
noncomputable def MW : E := (.bl Ac)
noncomputable def Kx : E := (.call 1 (.cons (.var 0) (.cons (.var 3) .nil)))
noncomputable def KG : Df := ⟨4, Ad, (.cons (.asg 2 Ad (.comp Kx 3 (.e (.var 1)) MW)) (.cons (.ife (.no (.bi .any (.cons (.var 2) .nil))) (.cons (.rais 5 (.cons (.str (DF "all six numbers have the rest 0")) .nil)) .nil) .nil) (.cons (.ret (.call 17 (.cons (.var 0) (.cons (.var 2) .nil)))) .nil)))⟩
theorem Ol : ∀ xs : Ab Ae, Ef (ds xs) = .ok (xs.any fun x => x != 0)
 |[] => rfl
 |x::xs => by
  show (Dq (.int x)).bind (fun b => (Ef (ds xs)).bind fun c => .ok (b||c)) = _
  rw[Ol xs];rfl
theorem NL{p : Ae}(hp : 0<p) : ∀ xs : Ab Ae, ((xs.map fun x => x%p).any fun x => x != 0) = (AX p xs).isSome
 |[] => rfl
 |x::xs => by
  unfold AX;rw[Cb, Q6];by_cases h : x%p = 0
  ·rw[AH h, h, NL hp xs];rfl
  ·rw[AO h];simp[h]
theorem Qb(xs : Ab Ae) : (xs.map fun x => x%p).map (fun x => x%p) = xs.map fun x => x%p := by
 rw[FL];refine EW fun x _ => ?_
 show x%p%p = x%p;rw[A7 _ (BQ p)]
noncomputable def InL(p : Ae)(xs : Ab Ae) : Prop := ∀ x ∈ xs, 0 <= x /\ x<p
theorem InL.set(h : InL p xs)(k : Ag){v:Ae}(h0 : 0 <= v)(h1 : v<p) : InL p (xs.set k v) := fun x hx => by
 rcases List.mem_or_eq_of_mem_set hx with z|rfl
 ·exact h x z
 ·exact⟨h0, h1⟩
section
variable{Γ : Gam}{ns : Ab Ae}{p at_ : Ae}
end
section
variable{Γ : Gam}{ns : Ab Ae}{p t : Ae}
end
structure C6 where
 c0 : Ae
 c1 : Ae
 c2 : Ae
 c3 : Ae
 c4 : Ae
 c5 : Ae
variable{C:C6}
noncomputable def C6.l(C : C6) : Ab Ae := [C.c0, C.c1, C.c2, C.c3, C.c4, C.c5]
noncomputable def Br(C : C6) : D := .tup (ds C.l)
noncomputable def vI(C : C6)(x : R3) : Ae := C.c0*x.1*x.1+C.c1*x.2.1*x.2.1+C.c2*x.2.2*x.2.2+(C.c3*x.1*x.2.1+C.c4*x.1*x.2.2+C.c5*x.2.1*x.2.2)
noncomputable def tw0(C : C6) : R3 := (2*C.c0, C.c3, C.c4)
noncomputable def tw1(C : C6) : R3 := (C.c3, 2*C.c1, C.c5)
noncomputable def tw2(C : C6) : R3 := (C.c4, C.c5, 2*C.c2)
noncomputable def bI(C : C6)(x y : R3) : Ae := Av (ap (tw0 C) (tw1 C) (tw2 C) x) y
noncomputable def scC(k : Ae)(C : C6) : C6 := ⟨k*C.c0, k*C.c1, k*C.c2, k*C.c3, k*C.c4, k*C.c5⟩
noncomputable def CgC(p : Ae)(C D : C6) : Prop := Cg p C.c0 D.c0 /\ Cg p C.c1 D.c1 /\ Cg p C.c2 D.c2 /\ Cg p C.c3 D.c3 /\ Cg p C.c4 D.c4 /\ Cg p C.c5 D.c5
noncomputable def pb(C : C6)(a b c : R3) : C6 := ⟨vI C (DN a b c), vI C (DM a b c), vI C (DL a b c), bI C (DN a b c) (DM a b c), bI C (DN a b c) (DL a b c), bI C (DM a b c) (DL a b c)⟩
section
variable{p : Ae}{C D E : C6}{a b c a' b' c' x y x' y' : R3}{k k' : Ae}
theorem C6.ext'(h0 : C.c0 = D.c0)(h1 : C.c1 = D.c1)(h2 : C.c2 = D.c2)(h3 : C.c3 = D.c3)(h4 : C.c4 = D.c4)(h5 : C.c5 = D.c5) : C = D := by
 cases C;cases D;simp_all
theorem CgC.rfl : CgC p C C := ⟨Cg.rfl, Cg.rfl, Cg.rfl, Cg.rfl, Cg.rfl, Cg.rfl⟩
theorem CgC.of(h : C = D) : CgC p C D := by rw[h];exact CgC.rfl
theorem CgC.symm(h : CgC p C D) : CgC p D C := ⟨h.1.symm, h.2.1.symm, h.2.2.1.symm, h.2.2.2.1.symm, h.2.2.2.2.1.symm, h.2.2.2.2.2.symm⟩
theorem CgC.trans(h : CgC p C D)(g : CgC p D E) : CgC p C E := ⟨h.1.trans g.1, h.2.1.trans g.2.1, h.2.2.1.trans g.2.2.1, h.2.2.2.1.trans g.2.2.2.1, h.2.2.2.2.1.trans g.2.2.2.2.1, h.2.2.2.2.2.trans g.2.2.2.2.2⟩
theorem CgC.sc(hk : Cg p k k')(h : CgC p C D) : CgC p (scC k C) (scC k' D) := ⟨hk.mul h.1, hk.mul h.2.1, hk.mul h.2.2.1, hk.mul h.2.2.2.1, hk.mul h.2.2.2.2.1, hk.mul h.2.2.2.2.2⟩
theorem GD(h : CgC p C D)(hx : CgR p x x') : Cg p (vI C x) (vI D x'):=
 (((((h.1.mul hx.1).mul hx.1).add ((h.2.1.mul hx.2.1).mul hx.2.1)).add ((h.2.2.1.mul hx.2.2).mul hx.2.2))).add ((((h.2.2.2.1.mul hx.1).mul hx.2.1).add ((h.2.2.2.2.1.mul hx.1).mul hx.2.2)).add ((h.2.2.2.2.2.mul hx.2.1).mul hx.2.2))
theorem ZP(h : CgC p C D) : CgR p (tw0 C) (tw0 D) /\ CgR p (tw1 C) (tw1 D) /\ CgR p (tw2 C) (tw2 D):=
 ⟨⟨Cg.rfl.mul h.1, h.2.2.2.1, h.2.2.2.2.1⟩, ⟨h.2.2.2.1, Cg.rfl.mul h.2.1, h.2.2.2.2.2⟩, ⟨h.2.2.2.2.1, h.2.2.2.2.2, Cg.rfl.mul h.2.2.1⟩⟩
theorem Y3(ha : CgR p a a')(hb : CgR p b b')(hc : CgR p c c')(hx : CgR p x x') : CgR p (ap a b c x) (ap a' b' c' x') := ⟨Gz ha hx, Gz hb hx, Gz hc hx⟩
theorem Mg(h : CgC p C D)(hx : CgR p x x')(hy : CgR p y y') : Cg p (bI C x y) (bI D x' y'):=
 let ⟨t0, t1, t2⟩ := ZP h
 Gz (Y3 t0 t1 t2 hx) hy
theorem P7(h : CgC p C D)(ha : CgR p a a')(hb : CgR p b b')(hc : CgR p c c') : CgC p (pb C a b c) (pb D a' b' c'):=
 let ⟨s0, s1, s2⟩ := Zf ha hb hc
 ⟨GD h s0, GD h s1, GD h s2, Mg h s0 s1, Mg h s0 s2, Mg h s1 s2⟩
theorem LN(k l : Ae)(C : C6) : scC k (scC l C) = scC (k*l) C := by
 unfold scC;simp only[Fi]
theorem JN(C : C6) : scC 1 C = C := by unfold scC;simp only[Cw]
theorem bZ(k : Ae)(C : C6)(a b c : R3) : pb (scC k C) a b c = scC k (pb C a b c) := by
 unfold pb scC vI bI ap tw0 tw1 tw2 Av;refine C6.ext' ?_ ?_ ?_ ?_ ?_ ?_ <;> (simp only;grind)
theorem Ps(C : C6)(x y z : R3)(k l m : Ae) : vI C (k*x.1+l*y.1+m*z.1, k*x.2.1+l*y.2.1+m*z.2.1, k*x.2.2+l*y.2.2+m*z.2.2) = k*k*vI C x+l*l*vI C y+m*m*vI C z+(k*l*bI C x y+k*m*bI C x z+l*m*bI C y z) := by
 unfold vI bI ap tw0 tw1 tw2 Av;simp only;grind
theorem Pn(C : C6)(x y z w : R3)(k l m : Ae) : bI C (k*x.1+l*y.1+m*z.1, k*x.2.1+l*y.2.1+m*z.2.1, k*x.2.2+l*y.2.2+m*z.2.2) w = k*bI C x w+l*bI C y w+m*bI C z w := by
 unfold bI ap tw0 tw1 tw2 Av;simp only;grind
theorem JM(C : C6)(x y : R3) : bI C x y = bI C y x := by
 unfold bI ap tw0 tw1 tw2 Av;simp only;grind
theorem Lm(C : C6)(x : R3) : bI C x x = 2*vI C x := by
 unfold vI bI ap tw0 tw1 tw2 Av;simp only;grind
theorem cU(v0 v1 v2 b0 b1 b2 : Ae)(u : R3) : vI ⟨v0, v1, v2, b0, b1, b2⟩ u = u.1*u.1*v0+u.2.1*u.2.1*v1+u.2.2*u.2.2*v2+(u.1*u.2.1*b0+u.1*u.2.2*b1+u.2.1*u.2.2*b2) := by
 unfold vI;simp only;grind
theorem cV(v0 v1 v2 b0 b1 b2 : Ae)(u w : R3) : bI ⟨v0, v1, v2, b0, b1, b2⟩ u w = u.1*(w.1*(2*v0)+w.2.1*b0+w.2.2*b1)+u.2.1*(w.1*b0+w.2.1*(2*v1)+w.2.2*b2)+u.2.2*(w.1*b1+w.2.1*b2+w.2.2*(2*v2)) := by
 unfold bI ap tw0 tw1 tw2 Av;simp only;grind
theorem dX(C : C6)(s0 s1 s2 u : R3) : vI C (u.1*s0.1+u.2.1*s1.1+u.2.2*s2.1, u.1*s0.2.1+u.2.1*s1.2.1+u.2.2*s2.2.1, u.1*s0.2.2+u.2.1*s1.2.2+u.2.2*s2.2.2) = vI ⟨vI C s0, vI C s1, vI C s2, bI C s0 s1, bI C s0 s2, bI C s1 s2⟩ u := by
 exact(Ps C s0 s1 s2 u.1 u.2.1 u.2.2).trans (cU _ _ _ _ _ _ u).symm
theorem dY(C : C6)(s0 s1 s2 u w : R3) : bI C (u.1*s0.1+u.2.1*s1.1+u.2.2*s2.1, u.1*s0.2.1+u.2.1*s1.2.1+u.2.2*s2.2.1, u.1*s0.2.2+u.2.1*s1.2.2+u.2.2*s2.2.2) (w.1*s0.1+w.2.1*s1.1+w.2.2*s2.1, w.1*s0.2.1+w.2.1*s1.2.1+w.2.2*s2.2.1, w.1*s0.2.2+w.2.1*s1.2.2+w.2.2*s2.2.2) = bI ⟨vI C s0, vI C s1, vI C s2, bI C s0 s1, bI C s0 s2, bI C s1 s2⟩ u w := by
 have e : ∀ s : R3, bI C s (w.1*s0.1+w.2.1*s1.1+w.2.2*s2.1, w.1*s0.2.1+w.2.1*s1.2.1+w.2.2*s2.2.1, w.1*s0.2.2+w.2.1*s1.2.2+w.2.2*s2.2.2) = w.1*bI C s0 s+w.2.1*bI C s1 s+w.2.2*bI C s2 s := fun s => (JM C _ _).trans (Pn C s0 s1 s2 s w.1 w.2.1 w.2.2)
 refine Eq.trans ?_ (cV _ _ _ _ _ _ u w).symm;rw[Pn, e, e, e, Lm C s0, Lm C s1, Lm C s2, JM C s1 s0, JM C s2 s0, JM C s2 s1]
theorem cE(C : C6)(a b c x y z : R3) : pb (pb C a b c) x y z = pb C (rm a x y z) (rm b x y z) (rm c x y z) := by
 have v := fun u => (dX C (DN a b c) (DM a b c) (DL a b c) u).symm
 have w := fun u u' => (dY C (DN a b c) (DM a b c) (DL a b c) u u').symm
 exact C6.ext' (v (DN x y z)) (v (DM x y z)) (v (DL x y z)) (w (DN x y z) (DM x y z)) (w (DN x y z) (DL x y z)) (w (DM x y z) (DL x y z))
theorem cH(C : C6)(k : Ae) : pb C (k, 0, 0) (0, k, 0) (0, 0, k) = scC (k*k) C := by
 unfold pb scC vI bI ap tw0 tw1 tw2 Av DN DM DL;refine C6.ext' ?_ ?_ ?_ ?_ ?_ ?_ <;> (simp only;grind)
theorem Xz(a b c : R3) : rm a (bk0 a b c) (bk1 a b c) (bk2 a b c) = (Aq a b c, 0, 0) /\ rm b (bk0 a b c) (bk1 a b c) (bk2 a b c) = (0, Aq a b c, 0) /\ rm c (bk0 a b c) (bk1 a b c) (bk2 a b c) = (0, 0, Aq a b c) := by
 unfold rm Av bk0 bk1 bk2 DN DM DL crs Aq det;refine⟨?_, ?_, ?_⟩ <;> refine Bw ?_ (Bw ?_ ?_) <;> (simp only;grind)
noncomputable def PrC(p : Ae)(C D : C6) : Prop := ∃ d, d%p ≠ 0 /\ CgC p C (scC d D)
theorem PrC.rfl(hp : P4 p) : PrC p C C := ⟨1, hp.o1, CgC.of (JN C).symm⟩
theorem PrC.trans(hp : P4 p)(i : PrC p C D)(j : PrC p D E) : PrC p C E := by
 obtain⟨d, dz, e⟩ := i;obtain⟨d', dz', e'⟩ := j;exact⟨d*d', Dk hp dz dz', e.trans ((CgC.sc Cg.rfl e').trans (CgC.of (LN _ _ _)))⟩
theorem Pd(hp : P4 p)(dz : k%p ≠ 0) : ∃ u, u%p ≠ 0 /\ Cg p (u*k) 1 := by
 obtain⟨u, u1, u2, u3⟩ := HX hp dz;refine⟨u, by rw[AI (by omega) u2];omega, ?_⟩
 show u*k%p = 1%p;rw[Bk, u3, AI (by decide) (by have := hp.lo;omega)]
theorem PrC.symm(hp : P4 p)(i : PrC p C D) : PrC p D C := by
 obtain⟨d, dz, e⟩ := i;obtain⟨u, uz, o⟩ := Pd hp dz;refine⟨u, uz, ?_⟩;have q := CgC.sc (k := u) (k' := u) Cg.rfl e;rw[LN]at q;exact(q.trans ((CgC.sc o CgC.rfl).trans (CgC.of (JN D)))).symm
theorem PrC.pb(i : PrC p C D) : PrC p (OvC.pb C a b c) (OvC.pb D a b c) := by
 obtain⟨d, dz, e⟩ := i;exact⟨d, dz, (P7 e CgR.rfl CgR.rfl CgR.rfl).trans (CgC.of (bZ d D a b c))⟩
noncomputable def InC(p : Ae)(C : C6) : Prop := ∀ x ∈ C.l, 0 <= x /\ x<p
theorem T8(hp : P4 p)(iC : InC p C)(iD : InC p D)(lC : AX p C.l = Aa 1)(lD : AX p D.l = Aa 1)(h : PrC p C D) : C = D := by
 obtain⟨d, dz, e⟩ := h;have p1 : 1<p := by have := hp.lo;omega
 have rs : C.l.map (fun x => x%p) = (D.l.map fun x => d*x).map (fun x => x%p) := by
  obtain⟨h0, h1, h2, h3, h4, h5⟩ := e;simp only[C6.l, Cb, GN];rw[show C.c0%p = d*D.c0%p from h0, show C.c1%p = d*D.c1%p from h1, show C.c2%p = d*D.c2%p from h2, show C.c3%p = d*D.c3%p from h3, show C.c4%p = d*D.c4%p from h4, show C.c5%p = d*D.c5%p from h5]
 have el := HR hp dz (f := fun x => d*x) (fun _ => rfl) D.l
 rw[lD, <-JG rs, lC, Dv, BO, CN]at el;have o : Cg p d 1 := by
  show d%p = 1%p;rw[<-el, AI (by decide) p1]
 obtain⟨h0, h1, h2, h3, h4, h5⟩ := e.trans ((CgC.sc o CgC.rfl).trans (CgC.of (JN D)));have same : ∀{u v : Ae}, u ∈ C.l -> v ∈ D.l -> Cg p u v -> u = v := fun hu hv huv => by
  have := show _%p = _%p from huv
  rwa [AI (iC _ hu).1 (iC _ hu).2, AI (iD _ hv).1 (iD _ hv).2]at this
 exact C6.ext' (same (by simp[C6.l]) (by simp[C6.l]) h0) (same (by simp[C6.l]) (by simp[C6.l]) h1) (same (by simp[C6.l]) (by simp[C6.l]) h2) (same (by simp[C6.l]) (by simp[C6.l]) h3) (same (by simp[C6.l]) (by simp[C6.l]) h4) (same (by simp[C6.l]) (by simp[C6.l]) h5)
end
noncomputable def LK : Df := ⟨5, Ad, (.cons (.asg 3 Ad (.bin .Add (.bin .Add (.bin .Mult (.bin .Mult (.idx (.var 1) (.int 0)) (.idx (.var 2) (.int 0))) (.idx (.var 2) (.int 0))) (.bin .Mult (.bin .Mult (.idx (.var 1) (.int 1)) (.idx (.var 2) (.int 1))) (.idx (.var 2) (.int 1)))) (.bin .Mult (.bin .Mult (.idx (.var 1) (.int 2)) (.idx (.var 2) (.int 2))) (.idx (.var 2) (.int 2))))) (.cons (.asg 4 Ad (.bin .Add (.bin .Add (.bin .Mult (.bin .Mult (.idx (.var 1) (.int 3)) (.idx (.var 2) (.int 0))) (.idx (.var 2) (.int 1))) (.bin .Mult (.bin .Mult (.idx (.var 1) (.int 4)) (.idx (.var 2) (.int 0))) (.idx (.var 2) (.int 2)))) (.bin .Mult (.bin .Mult (.idx (.var 1) (.int 5)) (.idx (.var 2) (.int 1))) (.idx (.var 2) (.int 2))))) (.cons (.ret (.call 1 (.cons (.var 0) (.cons (.bin .Add (.var 3) (.var 4)) .nil)))) .nil)))⟩
theorem ix6(C : C6) : Ci (Br C) (.int 0) = .ok (.int C.c0) /\ Ci (Br C) (.int 1) = .ok (.int C.c1) /\ Ci (Br C) (.int 2) = .ok (.int C.c2) /\ Ci (Br C) (.int 3) = .ok (.int C.c3) /\ Ci (Br C) (.int 4) = .ok (.int C.c4) /\ Ci (Br C) (.int 5) = .ok (.int C.c5) := ⟨rfl, rfl, rfl, rfl, rfl, rfl⟩
structure BC (C : C6) : Prop where
 b0 : Bd 10 C.c0
 b1 : Bd 10 C.c1
 b2 : Bd 10 C.c2
 b3 : Bd 10 C.c3
 b4 : Bd 10 C.c4
 b5 : Bd 10 C.c5
theorem InC.b(hp : P4 p)(h : InC p C) : BC C := by
 have k : ∀ x ∈ C.l, Bd 10 x := fun x hx => Jf hp (h x hx).1 (h x hx).2
 exact⟨k _ (by simp[C6.l]), k _ (by simp[C6.l]), k _ (by simp[C6.l]), k _ (by simp[C6.l]), k _ (by simp[C6.l]), k _ (by simp[C6.l])⟩
noncomputable def t0(p : Ae)(C : C6) : R3 := (2*C.c0%p, C.c3, C.c4)
noncomputable def t1(p : Ae)(C : C6) : R3 := (C.c3, 2*C.c1%p, C.c5)
noncomputable def t2(p : Ae)(C : C6) : R3 := (C.c4, C.c5, 2*C.c2%p)
noncomputable def O2(Γ : Gam) : Prop := ∀(p : Ae)(b : An)(xs : Ab Ae)(l t : Ae), P4 p -> AX p xs = Aa l -> Fs p l t -> Γ.F 122 [.int p, Ct b xs] = .ok (.tup (ds (fmI p t xs)))
theorem XN(hr : Hi Γ)(hf : Lq Γ){b : An}{l t : Ae}(hp : P4 p)(e : AX p xs = Aa l)(it : Fs p l t) : KG.run Γ [.int p, Ct b xs] = .ok (.tup (ds (fmI p t xs))) := by
 have p0 := hp.pos;have cp : Bh (cG Γ [si p, sh (Ct b xs), Af, Af] 3 MW) (cF Γ [si p, sh (Ct b xs), Af, Af] 3 Kx) (ds xs) = .ok (ds (xs.map fun x => x%p)) := by
  refine HJ xs fun x _ => ⟨rfl, ?_⟩
  simp[cF, Kx, hr p x p0]
 have an := Ol (xs.map fun x => x%p)
 rw[NL p0, e]at an;have le : AX p (xs.map fun x => x%p) = Aa l := by rw[JG (Qb xs)];exact e
 have f := hf p Ad (xs.map fun x => x%p) l t hp le it
 rw[UX (Qb xs)]at f;have f' : Γ.F 17 [.int p, .lst (ds (xs.map fun x => x%p))] = .ok (.tup (ds (fmI p t xs))) := f
 simp[KG, Df.run, Bt, KH, cp, an, f']
theorem PX{E : C6}{l : Ae}(hp : P4 p)(el : AX p E.l = Aa l) : ∃(t : Ae)(D : C6), Fs p l t /\ fmI p t E.l = D.l /\ InC p D /\ AX p D.l = Aa 1 /\ PrC p D E := by
 have p0 := hp.pos;obtain⟨lz, _, _⟩ := IJ p0 el;obtain⟨t, t1, t2, t3⟩ := HX hp lz;have tz : t%p ≠ 0 := by rw[AI (by omega) t2];omega
 have ff : ∀ x, (t*(x%p)%p)%p = t*x%p := fun x => by rw[A7 _ (BQ p), A9 t (x%p) p, A7 _ (BQ p), <-A9]
 have lv := HR hp tz (f := fun x => t*(x%p)%p) ff E.l
 rw[el, Dv, Bk, t3]at lv;have key : ∀ x : Ae, Cg p (t*(x%p)%p) (t*x) := fun x => (Cg.md rfl).trans (Cg.rfl.mul (Cg.md rfl))
 refine⟨t, ⟨t*(E.c0%p)%p, t*(E.c1%p)%p, t*(E.c2%p)%p, t*(E.c3%p)%p, t*(E.c4%p)%p, t*(E.c5%p)%p⟩, ⟨t1, t2, t3⟩, rfl, fun x hx => ?_, lv, t, tz, key _, key _, key _, key _, key _, key _⟩
 obtain⟨y, _, rfl⟩ := CO.mp (show x ∈ E.l.map fun x => t*(x%p)%p from hx)
 exact⟨Bg _ (by omega), Bb _ p0⟩
section
variable{Γ : Gam}{ns : Ab Ae}{p at_ : Ae}{φ : Ae -> Ae}
end
noncomputable def e0R : R3 := (1, 0, 0)
noncomputable def e1R : R3 := (0, 1, 0)
noncomputable def e2R : R3 := (0, 0, 1)
noncomputable def e3R : R3 := (1, 1, 1)
theorem dU(hp : P4 p) : In3 p e0R /\ In3 p e1R /\ In3 p e2R /\ In3 p e3R := by
 have z : 0 <= (0 : Ae) /\ (0 : Ae)<p := ⟨by decide, hp.pos⟩
 have o : 0 <= (1 : Ae) /\ (1 : Ae)<p := ⟨by decide, by have := hp.lo;omega⟩
 exact⟨⟨o, z, z⟩, ⟨z, o, z⟩, ⟨z, z, o⟩, ⟨o, o, o⟩⟩
theorem cZ(hp : P4 p) : fH p e0R e1R e2R e3R := by
 rcases hp with rfl|rfl|rfl|rfl <;> exact⟨by decide, by decide, by decide, by decide⟩
noncomputable def Pr(p : Ae)(x y : R3) : Prop := ∃ d, d%p ≠ 0 /\ CgR p x (Bx d y)
section
variable{p : Ae}{a b c x y z f g h : R3}{k : Ae}
theorem JX(x : R3) : Bx 1 x = x := by unfold Bx;simp only[Cw]
theorem Pr.rfl(hp : P4 p) : Pr p x x := ⟨1, hp.o1, CgR.of (JX x).symm⟩
theorem Pr.trans(hp : P4 p)(i : Pr p x y)(j : Pr p y z) : Pr p x z := by
 obtain⟨d, dz, e⟩ := i;obtain⟨d', dz', e'⟩ := j;exact⟨d*d', Dk hp dz dz', e.trans ((CgR.sc Cg.rfl e').trans (CgR.of (Md _ _ _)))⟩
theorem Pr.symm(hp : P4 p)(i : Pr p x y) : Pr p y x := by
 obtain⟨d, dz, e⟩ := i;obtain⟨u, u1, u2, u3⟩ := HX hp dz;have uz : u%p ≠ 0 := by rw[AI (by omega) u2];omega
 have o : Cg p (u*d) 1 := by
  show u*d%p = 1%p;rw[Bk, u3, AI (by decide) (by have := hp.lo;omega)]
 refine⟨u, uz, ?_⟩;have q := CgR.sc (k := u) (k' := u) Cg.rfl e;rw[Md]at q;exact(q.trans ((CgR.sc o CgR.rfl).trans (CgR.of (JX y)))).symm
theorem Qj{a' b' c' x':R3}(ha : CgR p a a')(hb : CgR p b b')(hc : CgR p c c')(hx : CgR p x x') : CgR p (ap a b c x) (ap a' b' c' x') := ⟨Gz ha hx, Gz hb hx, Gz hc hx⟩
theorem Pr.ap(i : Pr p x y) : Pr p (OvC.ap a b c x) (OvC.ap a b c y) := by
 obtain⟨d, dz, e⟩ := i;exact⟨d, dz, (Qj CgR.rfl CgR.rfl CgR.rfl e).trans (CgR.of (dJ a b c y d))⟩
theorem Qk(a b c v : R3) : ap (bk0 a b c) (bk1 a b c) (bk2 a b c) (ap a b c v) = Bx (Aq a b c) v := by
 unfold ap Bx Av bk0 bk1 bk2 DN DM DL crs Aq det;refine Bw ?_ (Bw ?_ ?_) <;> (simp only;grind)
end
noncomputable def tri(g : R3) : Ab Ae := [g.1, g.2.1, g.2.2]
theorem ON(hp : P4 p)(ix : In3 p x)(iy : In3 p y)(lx : AX p (tri x) = Aa 1)(ly : AX p (tri y) = Aa 1)(h : Pr p x y) : x = y := by
 obtain⟨d, dz, e⟩ := h;have p1 : 1<p := by have := hp.lo;omega
 have rs : (tri x).map (fun x => x%p) = ((tri y).map fun x => d*x).map (fun x => x%p) := by
  simp only[tri, Cb, GN];rw[show x.1%p = d*y.1%p from e.1, show x.2.1%p = d*y.2.1%p from e.2.1, show x.2.2%p = d*y.2.2%p from e.2.2]
 have el := HR hp dz (f := fun x => d*x) (fun _ => rfl) (tri y)
 rw[ly, <-JG rs, lx, Dv, BO, CN]at el;have o : Cg p d 1 := by
  show d%p = 1%p;rw[<-el, AI (by decide) p1]
 have q := e.trans ((CgR.sc o CgR.rfl).trans (CgR.of (JX y)));have same : ∀{u v : Ae}, (0 <= u /\ u<p) -> (0 <= v /\ v<p) -> Cg p u v -> u = v := fun hu hv huv => by
  have := show _%p = _%p from huv
  rwa [AI hu.1 hu.2, AI hv.1 hv.2]at this
 exact Bw (same ix.1 iy.1 q.1) (Bw (same ix.2.1 iy.2.1 q.2.1) (same ix.2.2 iy.2.2 q.2.2))
section
variable{p : Ae}{a b c a' b' c' f0 f1 f2 f3 g0 g1 g2 g3 h0 h1 h2 h3 : R3}
end
section
variable{Γ : Gam}{ns : Ab Ae}{p : Ae}
theorem WT(hp : P4 p) : GoodR p e0R e1R e2R /\ AX p (eH e0R e1R e2R) = Aa 1 := by
 obtain⟨i0, i1, i2, i3⟩ := dU hp;refine⟨⟨hp, i0, i1, i2, (cZ hp).1⟩, ?_⟩;rcases hp with rfl|rfl|rfl|rfl <;> decide
end
noncomputable def L3(a b c : R3) : Ab D := [A8 a, A8 b, A8 c]
noncomputable def Ij(i j : Ae) : Prop := (i = 0 /\ j = 1) \/ (i = 0 /\ j = 2) \/ (i = 1 /\ j = 0) \/ (i = 1 /\ j = 2) \/ (i = 2 /\ j = 0) \/ (i = 2 /\ j = 1)
theorem bO{m:Ae}(hi : m%3 = i)(hj : (i+1+m / 3%2)%3 = j) : Ij i j := by
 have i3 : i = 0 \/ i = 1 \/ i = 2 := by omega
 have e2 : m / 3%2 = 0 \/ m / 3%2 = 1 := by omega
 rcases i3 with z|z|z <;> rcases e2 with e|e <;> rw[z, e]at hj
 ·exact .inl ⟨z, hj.symm⟩
 ·exact .inr (.inl ⟨z, hj.symm⟩)
 ·exact .inr (.inr (.inr (.inl ⟨z, hj.symm⟩)))
 ·exact .inr (.inr (.inl ⟨z, hj.symm⟩))
 ·exact .inr (.inr (.inr (.inr (.inl ⟨z, hj.symm⟩))))
 ·exact .inr (.inr (.inr (.inr (.inr ⟨z, hj.symm⟩))))
theorem T3{a b c : R3}(h : GoodR p a b c)(ht : 0<t /\ t<p)(ij : Ij i j) :∃(i' j' :Ag)(x y :R3),Dm (L3 a b c) i = .ok (A8 x)/\Dm (L3 a b c) j = .ok (A8 y)/\plD 3 i = Aa i'/\plD 3 j = Aa j'/\(∃ a' b' c',GoodR p a' b' c'/\((L3 a b c).set i' (A8 y)).set j' (A8 x) = L3 a' b' c')/\(∃ a' b' c',GoodR p a' b' c'/\(L3 a b c).set i' (A8 (scR p t x)) = L3 a' b' c')/\(∃ a' b' c',GoodR p a' b' c'/\(L3 a b c).set i' (A8 (adR p t x y)) = L3 a' b' c') := by
 have p0 := h.p4.pos;have tz : t%p ≠ 0 := by rw[AI (by omega) ht.2];omega
 rcases ij with ⟨rfl, rfl⟩|⟨rfl, rfl⟩|⟨rfl, rfl⟩|⟨rfl, rfl⟩|⟨rfl, rfl⟩|⟨rfl, rfl⟩
 ·exact⟨0, 1, a, b, rfl, rfl, rfl, rfl, ⟨b, a, c, h.of (k := -1) h.p4.m1 (Cg.of (by unfold Aq det;grind)) ⟨h.ib, h.ia, h.ic⟩, rfl⟩, ⟨_, _, _, h.of (k := t) tz (QK p t a b c) ⟨Ib p0 _ _, h.ib, h.ic⟩, rfl⟩, ⟨_, _, _, h.of (k := 1) h.p4.o1 (dF p t a b c) ⟨Ia p0 _ _ _, h.ib, h.ic⟩, rfl⟩⟩
 ·exact⟨0, 2, a, c, rfl, rfl, rfl, rfl, ⟨c, b, a, h.of (k := -1) h.p4.m1 (Cg.of (by unfold Aq det;grind)) ⟨h.ic, h.ib, h.ia⟩, rfl⟩, ⟨_, _, _, h.of (k := t) tz (QK p t a b c) ⟨Ib p0 _ _, h.ib, h.ic⟩, rfl⟩, ⟨_, _, _, h.of (k := 1) h.p4.o1 (dE p t a b c) ⟨Ia p0 _ _ _, h.ib, h.ic⟩, rfl⟩⟩
 ·exact⟨1, 0, b, a, rfl, rfl, rfl, rfl, ⟨b, a, c, h.of (k := -1) h.p4.m1 (Cg.of (by unfold Aq det;grind)) ⟨h.ib, h.ia, h.ic⟩, rfl⟩, ⟨_, _, _, h.of (k := t) tz (QJ p t a b c) ⟨h.ia, Ib p0 _ _, h.ic⟩, rfl⟩, ⟨_, _, _, h.of (k := 1) h.p4.o1 (dD p t a b c) ⟨h.ia, Ia p0 _ _ _, h.ic⟩, rfl⟩⟩
 ·exact⟨1, 2, b, c, rfl, rfl, rfl, rfl, ⟨a, c, b, h.of (k := -1) h.p4.m1 (Cg.of (by unfold Aq det;grind)) ⟨h.ia, h.ic, h.ib⟩, rfl⟩, ⟨_, _, _, h.of (k := t) tz (QJ p t a b c) ⟨h.ia, Ib p0 _ _, h.ic⟩, rfl⟩, ⟨_, _, _, h.of (k := 1) h.p4.o1 (dC p t a b c) ⟨h.ia, Ia p0 _ _ _, h.ic⟩, rfl⟩⟩
 ·exact⟨2, 0, c, a, rfl, rfl, rfl, rfl, ⟨c, b, a, h.of (k := -1) h.p4.m1 (Cg.of (by unfold Aq det;grind)) ⟨h.ic, h.ib, h.ia⟩, rfl⟩, ⟨_, _, _, h.of (k := t) tz (QI p t a b c) ⟨h.ia, h.ib, Ib p0 _ _⟩, rfl⟩, ⟨_, _, _, h.of (k := 1) h.p4.o1 (dB p t a b c) ⟨h.ia, h.ib, Ia p0 _ _ _⟩, rfl⟩⟩
 ·exact⟨2, 1, c, b, rfl, rfl, rfl, rfl, ⟨a, c, b, h.of (k := -1) h.p4.m1 (Cg.of (by unfold Aq det;grind)) ⟨h.ia, h.ic, h.ib⟩, rfl⟩, ⟨_, _, _, h.of (k := t) tz (QI p t a b c) ⟨h.ia, h.ib, Ib p0 _ _⟩, rfl⟩, ⟨_, _, _, h.of (k := 1) h.p4.o1 (dA p t a b c) ⟨h.ia, h.ib, Ia p0 _ _ _⟩, rfl⟩⟩
noncomputable def GY(Γ : Gam)(mid : Ag)(ns : Ab Ae) : Prop := ∀ k : Ae, 0 <= k -> ∃ m, 0 <= m /\ Γ.F mid [scr ns, .int k] = .ok (.int m)
noncomputable def MH : E := (.bl Ac)
noncomputable def Kg : E := (.bin .Mod (.bin .Mult (.var 8) (.var 9)) (.var 0))
noncomputable def Ke : E := (.bl Ac)
noncomputable def Kf : E := (.bin .Mod (.bin .Add (.var 10) (.bin .Mult (.var 8) (.var 11))) (.var 0))
noncomputable def Eu(mid : Ag) : Ss := (.cons (.asg 5 Ad (.bin .FloorDiv (.call mid (.cons (.var 1) (.cons (.var 4) .nil))) (.int 3))) (.cons (.asg 6 Ad (.bin .Mod (.var 5) (.int 3))) (.cons (.asg 7 Ad (.bin .Mod (.bin .Add (.bin .Add (.var 6) (.int 1)) (.bin .Mod (.bin .FloorDiv (.var 5) (.int 3)) (.int 2))) (.int 3))) (.cons (.asg 8 Ad (.bin .Add (.int 1) (.bin .Mod (.bin .FloorDiv (.var 5) (.int 24)) (.bin .Sub (.var 0) (.int 1))))) (.cons (.ife (.cmp .Eq (.bin .Mod (.bin .FloorDiv (.var 5) (.int 6)) (.int 4)) (.int 0)) (.cons (.swp 3 6 7) .nil) (.cons (.ife (.cmp .Eq (.bin .Mod (.bin .FloorDiv (.var 5) (.int 6)) (.int 4)) (.int 1)) (.cons (.put 3 (.var 6) (.comp Kg 9 (.e (.idx (.var 3) (.var 6))) MH)) .nil) (.cons (.put 3 (.var 6) (.compT Kf [10, 11] (.zip (.idx (.var 3) (.var 6)) (.idx (.var 3) (.var 7))) Ke)) .nil)) .nil)) .nil)))))
noncomputable def Mp(mid : Ag) : Df := ⟨12, Ad, (.cons (.asg 3 Ac (.lst (.cons (.lst (.cons (.int 1) (.cons (.int 0) (.cons (.int 0) .nil)))) (.cons (.lst (.cons (.int 0) (.cons (.int 1) (.cons (.int 0) .nil)))) (.cons (.lst (.cons (.int 0) (.cons (.int 0) (.cons (.int 1) .nil)))) .nil))))) (.cons (.fors 4 (.e (.bin .Add (.bi .list (.cons (.tupI (.rng2 (.var 2) (.bin .Add (.var 2) (.int 9)))) .nil)) (.bi .list (.cons (.tupI (.rng2 (.int 23) (.bi .min (.cons (.bi .len (.cons (.var 1) .nil)) (.cons (.int 63) .nil))))) .nil)))) (Eu mid)) (.cons (.ret (.var 3)) .nil)))⟩
section
variable{Γ : Gam}{ns : Ab Ae}{mid : Ag}{p : Ae}{a b c : R3}{s2 s4 s5 s6 s7 s8 : Sl}
theorem Ym{k cl i j t : Ae}{j':Ag}(hi : Dm L i = .ok (A8 x))(hj : Dm L j = .ok (A8 y))(pi : plD L.length i = Aa i')(pj : plD L.length j = Aa j')(k0 : cl / 6%4 = 0):evSs Γ [si p,sh (scr ns),s2,Aa (.lst L,Ac),s4,si cl,si i,si j,si t,Af,Af,Af] ((Eu mid).drop 4) = .next [si p,sh (scr ns),s2,Aa (.lst ((L.set i' (A8 y)).set j' (A8 x)),Ac),s4,si cl,si i,si j,si t,Af,Af,Af] := by
 simp[Eu, Ss.drop, k0, Wk, J7, Cp, FV, DO, hi, hj, pi, pj]
theorem Yn{cl:Ae}(hi : Dm L i = .ok (A8 x))(pi : plD L.length i = Aa i')(p0 : 0<p)(mt : ∀ x, C9 t x = Ac)(k0 : ¬ cl / 6%4 = 0)(k1 : cl / 6%4 = 1):evSs Γ [si p,sh (scr ns),s2,Aa (.lst L,Ac),s4,si cl,si i,si j,si t,Af,Af,Af] ((Eu mid).drop 4) = .next [si p,sh (scr ns),s2,Aa (.lst (L.set i' (A8 (scR p t x))),Ac),s4,si cl,si i,si j,si t,Af,Af,Af] := by
 have cp : Bh (cG Γ [si p, sh (scr ns), s2, Aa (.lst L, Ac), s4, si cl, si i, si j, si t, Af, Af, Af] 9 MH) (cF Γ [si p, sh (scr ns), s2, Aa (.lst L, Ac), s4, si cl, si i, si j, si t, Af, Af, Af] 9 Kg) [.int x.1, .int x.2.1, .int x.2.2] = .ok [.int (x.1*t%p), .int (x.2.1*t%p), .int (x.2.2*t%p)] := by
  refine HJ (φ := fun x => x*t%p) [x.1, x.2.1, x.2.2] fun x _ => ⟨rfl, ?_⟩
  simp[cF, Kg, mt, p0, Bk]
 rw[A8]at hi;simp[Eu, Ss.drop, k1, OC, Cp, hi, pi, cp];rfl
theorem Xv{cl:Ae}(hi : Dm L i = .ok (A8 x))(hj : Dm L j = .ok (A8 y))(pi : plD L.length i = Aa i')(p0 : 0<p)(mt : ∀ x, C9 t x = Ac)(k0 : ¬ cl / 6%4 = 0)(k1 : ¬ cl / 6%4 = 1):evSs Γ [si p,sh (scr ns),s2,Aa (.lst L,Ac),s4,si cl,si i,si j,si t,Af,Af,Af] ((Eu mid).drop 4) = .next [si p,sh (scr ns),s2,Aa (.lst (L.set i' (A8 (adR p t x y))),Ac),s4,si cl,si i,si j,si t,Af,Af,Af] := by
 have cp : Bh (cGT Γ [si p, sh (scr ns), s2, Aa (.lst L, Ac), s4, si cl, si i, si j, si t, Af, Af, Af] [10, 11] Ke) (cFT Γ [si p, sh (scr ns), s2, Aa (.lst L, Ac), s4, si cl, si i, si j, si t, Af, Af, Af] [10, 11] Kf) (CS [.int x.1, .int x.2.1, .int x.2.2] [.int y.1, .int y.2.1, .int y.2.2]) = .ok [.int ((x.1+t*y.1)%p), .int ((x.2.1+t*y.2.1)%p), .int ((x.2.2+t*y.2.2)%p)] := by
  generalize x.1 = x0;generalize x.2.1 = x1;generalize x.2.2 = x2;generalize y.1 = y0;generalize y.2.1 = y1;generalize y.2.2 = y2;simp[Bh, cGT, cFT, CS, Kf, Ke, p0, mt]
 rw[A8]at hi hj;simp[Eu, Ss.drop, k0, k1, OC, Cp, hi, hj, pi, cp];rfl
theorem Uq(hm : GY Γ mid ns)(h : GoodR p a b c)(hk : 0 <= k) : ∃ a' b' c' v5 v6 v7 v8, GoodR p a' b' c' /\ CB Γ 4 (Eu mid) (.int k) [si p, sh (scr ns), s2, Aa (.lst (L3 a b c), Ac), s4, s5, s6, s7, s8, Af, Af, Af] = .next [si p, sh (scr ns), s2, Aa (.lst (L3 a' b' c'), Ac), si k, v5, v6, v7, v8, Af, Af, Af] := by
 have p0 := h.p4.pos;have pl := h.p4.lo;have ph := h.p4.hi;obtain⟨m, m0, e0⟩ := hm k hk;generalize hcl : m / 3 = cl;have q1 : 0<p-1 := by omega
 have q2 : 1<p := by omega
 have t0 : 0<1+cl / 24%(p-1) := by have := Bg (cl / 24) (b := p-1) (by omega);omega
 have t1 : 1+cl / 24%(p-1)<p := by have := Bb (cl / 24) q1;omega
 generalize ht : 1+cl / 24%(p-1) = t at t0 t1;generalize hi : cl%3 = i;generalize hj : (i+1+cl / 3%2)%3 = j;have ij := bO hi hj;have hd : evSs Γ [si p, sh (scr ns), s2, Aa (.lst (L3 a b c), Ac), si k, s5, s6, s7, s8, Af, Af, Af] ((Eu mid).take 4) = .next [si p, sh (scr ns), s2, Aa (.lst (L3 a b c), Ac), si k, si cl, si i, si j, si t, Af, Af, Af] := by
  simp[Eu, Ss.take, e0, hcl, hi, hj, q1, q2, ht]
 have mt : ∀ x, C9 t x = Ac := fun x => GV (by omega) (by omega)
 obtain⟨i', j', x, y, gi, gj, pi, pj, ⟨a1, b1, c1, g1, f1⟩, ⟨a2, b2, c2, g2, f2⟩, ⟨a3, b3, c3, g3, f3⟩⟩ := T3 h ⟨t0, t1⟩ ij;have pi' : plD (L3 a b c).length i = Aa i' := pi;have pj' : plD (L3 a b c).length j = Aa j' := pj;have fin : ∀ {o}, evSs Γ [si p, sh (scr ns), s2, Aa (.lst (L3 a b c), Ac), si k, si cl, si i, si j, si t, Af, Af, Af] ((Eu mid).drop 4) = o -> CB Γ 4 (Eu mid) (.int k) [si p, sh (scr ns), s2, Aa (.lst (L3 a b c), Ac), s4, s5, s6, s7, s8, Af, Af, Af] = o := fun {o} h => by
  show evSs Γ [si p, sh (scr ns), s2, Aa (.lst (L3 a b c), Ac), si k, s5, s6, s7, s8, Af, Af, Af] (Eu mid) = o;rw[Oc Γ 4, hd];exact h
 by_cases k0 : cl / 6%4 = 0
 ·refine⟨a1, b1, c1, si cl, si i, si j, si t, g1, fin ?_⟩;rw[Ym (k := 0) gi gj pi' pj' k0, f1]
 ·by_cases k1 : cl / 6%4 = 1
  ·refine⟨a2, b2, c2, si cl, si i, si j, si t, g2, fin ?_⟩;rw[Yn gi pi' p0 mt k0 k1, f2]
  ·refine⟨a3, b3, c3, si cl, si i, si j, si t, g3, fin ?_⟩;rw[Xv gi gj pi' p0 mt k0 k1, f3]
end
theorem NK{x:D}(h : x ∈ Ca lo n) : ∃ j : Ag, j<n /\ x = .int (lo+(j : Ae)) := by
 obtain⟨j, hj⟩ := List.getElem?_of_mem h;exact⟨j, NO hj⟩
theorem K5{hi:Ae}(h1 : -1000 <= lo)(h2 : lo <= 1000)(h3 : -1000 <= hi)(h4 : hi <= 1000) : CK lo hi = .ok (Ca lo (hi-lo).toNat) := by
 unfold CK;rw[AH (by refine⟨⟨by omega, by omega⟩, ⟨by omega, by omega⟩, ?_⟩;omega)]
noncomputable def dN(Γ : Gam)(id : Ag)(ns : Ab Ae) : Prop := ∀(p : Ae), P4 p -> ∃ a b c, GoodR p a b c /\ Γ.F id [.int p, scr ns, .int 1] = .ok (DV a b c)
theorem aI(hl : ns.length <= 63)(hm : GY Γ mid ns)(p : Ae)(hp : P4 p) : ∃ a b c, GoodR p a b c /\ (Mp mid).run Γ [.int p, scr ns, .int 1] = .ok (DV a b c) := by
 have g0 : GoodR p e0R e1R e2R := (WT hp).1;have r1 : CK 1 10 = .ok (Ca 1 9) := rfl;generalize hn : (if (63 : Ae)<(ns.length : Ae) then (63 : Ae) else (ns.length : Ae)) = n
 have n0 : 0 <= n /\ n <= 63 := by split at hn <;> omega
 have r2 : CK 23 n = .ok (Ca 23 (n-23).toNat) := K5 (by decide) (by decide) (by omega) (by omega)
 have ad : Cq .Add (.lst (Ca 1 9)) (.lst (Ca 23 (n-23).toNat)) = .ok (.lst (Ca 1 9++Ca 23 (n-23).toNat)) := by
  rw[Mc, AH];rw[HF, HF];unfold Cs;simp;omega
 obtain⟨ρ', e, a, b, c, s4, s5, s6, s7, s8, g, rfl⟩ := Ob (body := CB Γ 4 (Eu mid)) (fun ρ => ∃ a b c s4 s5 s6 s7 s8, GoodR p a b c /\ ρ = [si p, sh (scr ns), si 1, Aa (.lst (L3 a b c), Ac), s4, s5, s6, s7, s8, Af, Af, Af]) (Ca 1 9++Ca 23 (n-23).toNat) [si p, sh (scr ns), si 1, Aa (.lst (L3 e0R e1R e2R), Ac), Af, Af, Af, Af, Af, Af, Af, Af] ⟨_, _, _, _, _, _, _, _, g0, rfl⟩ (by
  rintro x hx ρ ⟨a, b, c, s4, s5, s6, s7, s8, g, rfl⟩;have hk : ∃ k : Ae, 0 <= k /\ x = .int k := by
   rcases Du.mp hx with z|z
   ·obtain⟨j, _, rfl⟩ := NK z;exact⟨_, by omega, rfl⟩
   ·obtain⟨j, _, rfl⟩ := NK z;exact⟨_, by omega, rfl⟩
  obtain⟨k, k0, rfl⟩ := hk;obtain⟨a', b', c', v5, v6, v7, v8, g', e⟩ := Uq (s2 := si 1) (s4 := s4) (s5 := s5) (s6 := s6) (s7 := s7) (s8 := s8) hm g k0;exact⟨_, e, a', b', c', _, _, _, _, _, g', rfl⟩)
 refine⟨a, b, c, g, ?_⟩;have ln : biD .len [scr ns] = .ok (.int ns.length) := by simp[scr]
 have mn : biD .min [.int (ns.length : Ae), .int 63] = .ok (.int n) := by rw[<-hn];rfl
 have sq : B5 (.lst (Ca 1 9++Ca 23 (n-23).toNat)) = .ok (Ca 1 9++Ca 23 (n-23).toNat) := rfl;have e' : CT (CB Γ 4 (Eu mid)) (Ca 1 9++Ca 23 (n-23).toNat) [si p, sh (scr ns), si 1, Aa (.lst [.lst [.int 1, .int 0, .int 0], .lst [.int 0, .int 1, .int 0], .lst [.int 0, .int 0, .int 1]], Ac), Af, Af, Af, Af, Af, Af, Af, Af] = _ := e;generalize Ca 1 9 = A at *;generalize Ca 23 (n-23).toNat = B at *;generalize scr ns = S at *;simp[Mp, Df.run, Bt, DY, ln, mn, r1, r2, ad, sq, e'];rfl
theorem Ot{g : D -> R An}{f : D -> R D}{q : Ae -> An}{φ : Ae -> Ae} : ∀(xs : Ab Ae), (∀ x ∈ xs, g (.int x) = .ok (q x) /\ f (.int x) = .ok (.int (φ x))) -> Bh g f (ds xs) = .ok (ds ((xs.filter q).map φ))
 |[], _ => rfl
 |x::xs, h => by
  obtain⟨h1, h2⟩ := h x (AA ..);have ih := Ot xs fun y hy => h y (As _ hy)
  show (g (.int x)).bind _ = _;rw[h1, R.bind_ok, Dd];cases hq : q x with
  |true=>
   rw[AH rfl, AH rfl, h2, R.bind_ok, show Bh g f (Hb D.int xs) = _ from ih]
   rfl
  |false=>
   rw[AO (by decide), AO (by decide)]
   exact ih
theorem Nt{p : Ae} : ∀ xs : Ab Ae, ((xs.filter fun x => decide (x%p ≠ 0)).map fun x => x%p).head? = AX p xs
 |[] => rfl
 |x::xs => by
  unfold AX;rw[Dd];by_cases h : x%p = 0
  ·rw[AO (by simp[h]), AH h]
   exact Nt xs
  ·rw[AH (by simp[h]), AO h]
   rfl
noncomputable def Kk : E := (.cmp .NotEq (.bin .Mod (.var 4) (.var 0)) (.int 0))
noncomputable def KA : E := (.bin .Mod (.var 4) (.var 0))
noncomputable def Kj : E := (.cmp .Eq (.bin .Mod (.bin .Mult (.var 5) (.var 2)) (.var 0)) (.int 1))
noncomputable def Kz : E := (.var 5)
noncomputable def MO : E := (.bl Ac)
noncomputable def Ky : E := (.bin .Mod (.bin .Mult (.var 6) (.var 3)) (.var 0))
noncomputable def Kv : Df := ⟨7, Ad, (.cons (.asg 2 Ad (.idx (.comp KA 4 (.e (.var 1)) Kk) (.int 0))) (.cons (.asg 3 Ad (.idx (.comp Kz 5 (.rng2 (.int 1) (.var 0)) Kj) (.int 0))) (.cons (.ret (.bi .tuple (.cons (.comp Ky 6 (.e (.var 1)) MO) .nil))) .nil)))⟩
noncomputable def Lr(Γ : Gam) : Prop := ∀(p : Ae)(b : An)(xs : Ab Ae)(l t : Ae), P4 p -> AX p xs = Aa l -> Fs p l t -> Γ.F 158 [.int p, Ct b xs] = .ok (.tup (ds (fmI p t xs)))
theorem Vw(Γ : Gam){b : An}{l t : Ae}(hp : P4 p)(e : AX p xs = Aa l)(it : Fs p l t) : Kv.run Γ [.int p, Ct b xs] = .ok (.tup (ds (fmI p t xs))) := by
 have p0 := hp.pos;have ph := hp.hi;have c1 : Bh (cG Γ [si p, sh (Ct b xs), Af, Af, Af, Af, Af] 4 Kk) (cF Γ [si p, sh (Ct b xs), Af, Af, Af, Af, Af] 4 KA) (ds xs) = .ok (ds ((xs.filter fun x => decide (x%p ≠ 0)).map fun x => x%p)) := by
  refine Ot xs fun x _ => ⟨?_, ?_⟩
  ·simp[cG, Kk, p0];rw[Cy];simp
  ·simp[cF, KA, p0]
 have hl := Nt (p := p) xs;rw[e]at hl;generalize ((xs.filter fun x => decide (x%p ≠ 0)).map fun x => x%p) = ls at c1 hl
 have g0 := Nd hl;obtain⟨_, l0, l1⟩ := IJ p0 e;have c3 : Bh (cG Γ [si p, sh (Ct b xs), si l, Af, Af, Af, Af] 5 Kj) (cF Γ [si p, sh (Ct b xs), si l, Af, Af, Af, Af] 5 Kz) (ds (ES p)) = .ok (ds ((ES p).filter fun k => decide (k*l%p = 1))) := by
  refine M5 (ES p) fun x hx => ⟨?_, ?_⟩
  ·obtain⟨x1, x2⟩ := HQ.mp hx;have m : C9 x l = Ac := GV (by omega) (by omega)
   simp[cG, Kj, m, p0];rw[Cy];simp
  ·simp[cF, Kz]
 have g1 := Nd (Tl it);have c4 : Bh (cG Γ [si p, sh (Ct b xs), si l, si t, Af, Af, Af] 6 MO) (cF Γ [si p, sh (Ct b xs), si l, si t, Af, Af, Af] 6 Ky) (ds xs) = .ok (ds (xs.map fun x => x*t%p)) := by
  refine HJ xs fun x _ => ⟨rfl, ?_⟩
  have m : C9 x t = Ac := JQ (by have := it.1;omega) (by have := it.2.1;omega)
  simp[cF, Ky, m, p0]
 have ru : CK 1 p = .ok (ds (ES p)) := NV hp;have fe : fmI p t xs = xs.map fun x => x*t%p := by
  unfold fmI;refine EW fun x _ => ?_
  rw[Bk x t, A9 t (x%p) p, A7 _ (BQ p), <-A9]
 simp[Kv, Df.run, Bt, KH, c1, g0, ru, c3, g1, c4, fe]
noncomputable def IL : Df := ⟨3, Ad, (.cons (.asg 2 Ad (.bin .Mod (.var 1) (.bin .Add (.bin .Add (.bin .Mult (.var 0) (.var 0)) (.var 0)) (.int 1)))) (.cons (.ife (.cmp .Eq (.var 2) (.int 0)) (.cons (.ret (.tup (.cons (.int 0) (.cons (.int 0) (.cons (.int 1) .nil))))) .nil) .nil) (.cons (.ife (.cmp .LtE (.var 2) (.var 0)) (.cons (.ret (.tup (.cons (.int 0) (.cons (.int 1) (.cons (.bin .Sub (.var 2) (.int 1)) .nil))))) .nil) .nil) (.cons (.ret (.tup (.cons (.int 1) (.cons (.bin .FloorDiv (.bin .Sub (.bin .Sub (.var 2) (.var 0)) (.int 1)) (.var 0)) (.cons (.bin .Mod (.bin .Sub (.bin .Sub (.var 2) (.var 0)) (.int 1)) (.var 0)) .nil))))) .nil))))⟩
theorem Yt(h : 1<p) : AX p [0, 0, 1] = Aa 1 := by
 simp[AX, AI (by decide : (0 : Ae) <= 1) h]
theorem cW(h : 1<p)(z : Ae) : AX p [0, 1, z] = Aa 1 := by
 simp[AX, AI (by decide : (0 : Ae) <= 1) h]
theorem eI(h : 1<p)(y z : Ae) : AX p [1, y, z] = Aa 1 := by
 simp[AX, AI (by decide : (0 : Ae) <= 1) h]
noncomputable def Kl : E := (.bl Ac)
noncomputable def Km : E := (.bin .Mult (.idx (.var 0) (.var 5)) (.idx (.var 1) (.var 5)))
noncomputable def MP : Ss := (.cons (.app 2 (.bin .Add (.bin .Mult (.idx (.var 0) (.var 3)) (.idx (.var 1) (.var 4))) (.bin .Mult (.idx (.var 0) (.var 4)) (.idx (.var 1) (.var 3))))) .nil)
noncomputable def Kh : Df := ⟨6, Ad, (.cons (.asg 2 Ac (.comp Km 5 (.rng (.int 3)) Kl)) (.cons (.forT [3, 4] (.e (.lst (.cons (.tup (.cons (.int 0) (.cons (.int 1) .nil))) (.cons (.tup (.cons (.int 0) (.cons (.int 2) .nil))) (.cons (.tup (.cons (.int 1) (.cons (.int 2) .nil))) .nil))))) MP) (.cons (.ret (.var 2)) .nil)))⟩
noncomputable def prd(a b : R3) : C6 := ⟨a.1*b.1, a.2.1*b.2.1, a.2.2*b.2.2, a.1*b.2.1+a.2.1*b.1, a.1*b.2.2+a.2.2*b.1, a.2.1*b.2.2+a.2.2*b.2.1⟩
noncomputable def Y6(Γ : Gam) : Prop := ∀(p : Ae)(a b : R3), P4 p -> In3 p a -> In3 p b -> Γ.F 160 [A8 a, A8 b] = .ok (.lst (ds (prd a b).l))
theorem XE(Γ : Gam)(p : Ae)(a b : R3)(hp : P4 p)(ha : In3 p a)(hb : In3 p b) : Kh.run Γ [A8 a, A8 b] = .ok (.lst (ds (prd a b).l)) := by
 have ba := E6 hp ha;have bb := E6 hp hb;have k : ∀ {u v}, Bd 10 u -> Bd 10 v -> DX u v = Ac := fun hu hv => Fn hu hv (by decide) (by decide)
 obtain⟨a0, a1, a2⟩ := a;obtain⟨b0, b1, b2⟩ := b;have i0 : Ci (A8 (a0, a1, a2)) (.int 0) = .ok (.int a0) := rfl;have i1 : Ci (A8 (a0, a1, a2)) (.int 1) = .ok (.int a1) := rfl;have i2 : Ci (A8 (a0, a1, a2)) (.int 2) = .ok (.int a2) := rfl;have j0 : Ci (A8 (b0, b1, b2)) (.int 0) = .ok (.int b0) := rfl;have j1 : Ci (A8 (b0, b1, b2)) (.int 1) = .ok (.int b1) := rfl;have j2 : Ci (A8 (b0, b1, b2)) (.int 2) = .ok (.int b2) := rfl;have rg : CK 0 3 = .ok [.int 0, .int 1, .int 2] := rfl;have c1 : Bh (cG Γ [sh (A8 (a0, a1, a2)), sh (A8 (b0, b1, b2)), Af, Af, Af, Af] 5 Kl) (cF Γ [sh (A8 (a0, a1, a2)), sh (A8 (b0, b1, b2)), Af, Af, Af, Af] 5 Km) [.int 0, .int 1, .int 2] = .ok [.int (a0*b0), .int (a1*b1), .int (a2*b2)] := by
  simp[Bh, cG, cF, Kl, Km, i0, i1, i2, j0, j1, j2, k ba.1 bb.1, k ba.2.1 bb.2.1, k ba.2.2 bb.2.2]
 simp[Kh, MP, Df.run, Bt, DY, rg, c1, CT, J5, Cp, i0, i1, i2, j0, j1, j2, k ba.1 bb.2.1, k ba.2.1 bb.1, k ba.1 bb.2.2, k ba.2.2 bb.1, k ba.2.1 bb.2.2, k ba.2.2 bb.2.1, Cs];rfl
noncomputable def S0 : E := (.bl Ac)
noncomputable def SY : E := (.bin .Mod (.bin .Mult (.var 9) (.var 9)) (.var 0))
noncomputable def MK : E := (.cmp .NotIn (.var 8) (.comp SY 9 (.rng (.var 0)) S0))
noncomputable def MN : E := (.var 8)
noncomputable def MJ : E := (.bl Ac)
noncomputable def Jp : E := (.bin .Sub (.var 10) (.bin .Mult (.var 7) (.var 11)))
noncomputable def MI : E := (.bl Ac)
noncomputable def ML : E := (.bin .Sub (.var 12) (.var 13))
noncomputable def HH : Df := ⟨14, Ad, (.cons (.asgT [3, 4, 5] (.var 1)) (.cons (.ife (.cmp .Eq (.var 2) (.int 1)) (.cons (.ret (.call 158 (.cons (.var 0) (.cons (.call 160 (.cons (.var 3) (.cons (.var 3) .nil))) .nil)))) .nil) .nil) (.cons (.ife (.cmp .Eq (.var 2) (.int 2)) (.cons (.ret (.call 158 (.cons (.var 0) (.cons (.call 160 (.cons (.var 3) (.cons (.var 4) .nil))) .nil)))) .nil) .nil) (.cons (.asg 6 Ad (.call 160 (.cons (.var 4) (.cons (.var 4) .nil)))) (.cons (.ife (.cmp .Eq (.var 2) (.int 3)) (.cons (.asg 7 Ad (.bi .min (.cons (.comp MN 8 (.rng2 (.int 2) (.var 0)) MK) .nil))) (.cons (.ret (.call 158 (.cons (.var 0) (.cons (.compT Jp [10, 11] (.zip (.call 160 (.cons (.var 3) (.cons (.var 3) .nil))) (.var 6)) MJ) .nil)))) .nil)) .nil) (.cons (.ret (.call 158 (.cons (.var 0) (.cons (.compT ML [12, 13] (.zip (.call 160 (.cons (.var 3) (.cons (.var 5) .nil))) (.var 6)) MI) .nil)))) .nil))))))⟩
noncomputable def Ih(C D : C6) : C6 := ⟨C.c0-D.c0, C.c1-D.c1, C.c2-D.c2, C.c3-D.c3, C.c4-D.c4, C.c5-D.c5⟩
theorem Lh{p l : Ae}(hp : P4 p)(el : AX p (tri r) = Aa l) : ∃ u, Fs p l u /\ In3 p (fmR p u r) /\ AX p (tri (fmR p u r)) = Aa 1 /\ Pr p (fmR p u r) r /\ fmI p u (tri r) = tri (fmR p u r) := by
 have p0 := hp.pos;obtain⟨lz, _, _⟩ := IJ p0 el;obtain⟨t, t1, t2, t3⟩ := HX hp lz;have tz : t%p ≠ 0 := by rw[AI (by omega) t2];omega
 have ff : ∀ x, (t*(x%p)%p)%p = t*x%p := fun x => by rw[A7 _ (BQ p), A9 t (x%p) p, A7 _ (BQ p), <-A9]
 have lv := HR hp tz (f := fun x => t*(x%p)%p) ff (tri r)
 rw[el, Dv, Bk, t3]at lv;exact⟨t, ⟨t1, t2, t3⟩, bV p0 t r, lv, ⟨t, tz, bW p t r⟩, rfl⟩
theorem Lf(h : AX p (tri g) = Af) : CgR p g (0, 0, 0) := by
 have hz := HL.mp h;have k : ∀ x ∈ tri g, Cg p x 0 := fun x hx => by show x%p = 0%p;rw[hz x hx, A1]
 exact⟨k _ (by simp[tri]), k _ (by simp[tri]), k _ (by simp[tri])⟩
theorem NU(h : CgR p g (0, 0, 0)) : AX p (tri g) = Af := by
 refine HL.mpr fun x hx => ?_
 have k : ∀{x : Ae}, Cg p x 0 -> x%p = 0 := fun {x} h => by rw[show x%p = _ from h, A1]
 simp only[tri, At, AW, BR]at hx;rcases hx with rfl|rfl|rfl
 ·exact k h.1
 ·exact k h.2.1
 ·exact k h.2.2
theorem Xi{p l : Ae}{a b c f g : R3}(hp : P4 p)(z : Aq a b c%p ≠ 0)(lf : AX p (tri f) = Aa l)(h : CgR p g (ap a b c f)) : ∃ l, AX p (tri g) = Aa l := by
 cases el : AX p (tri g) with
 |some l => exact⟨l, rfl⟩
 |none=>
  have q0 : CgR p (ap a b c f) (0, 0, 0) := h.symm.trans (Lf el);have q1 : CgR p (Bx (Aq a b c) f) (0, 0, 0) := by
   have := Qj (CgR.rfl (a := bk0 a b c)) (CgR.rfl (a := bk1 a b c)) (CgR.rfl (a := bk2 a b c)) q0;rw[Qk]at this;refine this.trans (CgR.of ?_);unfold ap Av;simp
  obtain⟨u, uz, o⟩ := Pd hp z;have q2 : CgR p f (0, 0, 0) := by
   have w := CgR.sc (k := u) (k' := u) Cg.rfl q1;rw[Md]at w;refine((CgR.of (JX f).symm).trans (CgR.sc o.symm CgR.rfl)).trans (w.trans (CgR.of ?_));unfold Bx;simp
  rw[NU q2]at lf;cases lf
theorem Po(a b c v : R3) : ap a b c (ap (bk0 a b c) (bk1 a b c) (bk2 a b c) v) = Bx (Aq a b c) v := by
 unfold ap Bx Av bk0 bk1 bk2 DN DM DL crs Aq det;refine Bw ?_ (Bw ?_ ?_) <;> (simp only;grind)
noncomputable def Hd : Df := ⟨3, Ad, (.cons (.asg 2 Ad (.int 0)) (.cons (.ife (.cmp .Lt (.var 1) (.bi .len (.cons (.var 0) .nil))) (.cons (.asg 2 Ad (.idx (.var 0) (.var 1))) .nil) .nil) (.cons (.ret (.bin .Mod (.bin .Mult (.bin .Add (.bin .Add (.bin .Mod (.var 2) (.int 1000003)) (.bin .Mult (.int 7919) (.var 1))) (.int 11)) (.int 48271)) (.int 1000033))) .nil)))⟩
theorem XF(Γ : Gam)(ns : Ab Ae)(k : Ae)(h0 : 0 <= k) : ∃ m, 0 <= m /\ Hd.run Γ [scr ns, .int k] = .ok (.int m) := by
 have m1 : C9 7919 k = Ac := GV (by decide) (by decide)
 have m2 : ∀ x, C9 x 48271 = Ac := fun x => JQ (by decide) (by decide)
 by_cases h1 : k<ns.length
 ·have g := Oy h0 h1;generalize ns.getD k.toNat 0 = x at g;refine⟨(x%1000003+7919*k+11)*48271%1000033, Bg _ (by decide), ?_⟩
  simp[Hd, Df.run, Bt, h1, g, m1, m2]
 ·refine⟨(0%1000003+7919*k+11)*48271%1000033, Bg _ (by decide), ?_⟩
  simp[Hd, Df.run, Bt, h1, m1, m2]
noncomputable def Mv(mid : Ag) : Df := ⟨1, Ad, (.cons (.ret (.idx (.lst (.cons (.int 3) (.cons (.int 5) (.cons (.int 7) (.cons (.int 11) .nil))))) (.bin .Mod (.bin .FloorDiv (.call mid (.cons (.var 0) (.cons (.int 0) .nil))) (.int 5)) (.int 4)))) .nil)⟩
noncomputable def Vb(Γ : Gam)(id : Ag)(ns : Ab Ae) : Prop := ∃ p, P4 p /\ Γ.F id [scr ns] = .ok (.int p)
theorem UG(h : GY Γ mid ns) : ∃ p, P4 p /\ (Mv mid).run Γ [scr ns] = .ok (.int p) := by
 obtain⟨m, m0, e⟩ := h 0 (by decide)
 refine⟨_, Xm (m / 5), ?_⟩;simp[Mv, Df.run, Bt, e, UW]
noncomputable def KS : Df := ⟨8, Ad, (.cons (.asgT [2, 3, 4] (.var 0)) (.cons (.asgT [5, 6, 7] (.var 1)) (.cons (.ret (.lst (.cons (.bin .Sub (.bin .Mult (.var 3) (.var 7)) (.bin .Mult (.var 4) (.var 6))) (.cons (.bin .Sub (.bin .Mult (.var 4) (.var 5)) (.bin .Mult (.var 2) (.var 7))) (.cons (.bin .Sub (.bin .Mult (.var 2) (.var 6)) (.bin .Mult (.var 3) (.var 5))) .nil))))) .nil)))⟩
noncomputable def Ko : E := (.bl Ac)
noncomputable def Kd : E := (.bin .Mult (.var 7) (.var 8))
noncomputable def KF : Df := ⟨9, Ad, (.cons (.asgT [3, 4, 5] (.var 2)) (.cons (.asg 6 Ad (.lst (.cons (.bin .Mult (.var 3) (.var 3)) (.cons (.bin .Mult (.var 4) (.var 4)) (.cons (.bin .Mult (.var 5) (.var 5)) (.cons (.bin .Mult (.var 3) (.var 4)) (.cons (.bin .Mult (.var 3) (.var 5)) (.cons (.bin .Mult (.var 4) (.var 5)) .nil)))))))) (.cons (.ret (.bin .Mod (.bi .sum (.cons (.compT Kd [7, 8] (.zip (.var 1) (.var 6)) Ko) .nil)) (.var 0))) .nil)))⟩
section
variable{Γ : Gam}{ns : Ab Ae}{p : Ae}{C : C6}{s3 s4 s5 s6 s7 s8 : Sl}
end
section
variable{Γ : Gam}{ns : Ab Ae}
end
noncomputable def L8 : Df := ⟨3, Ad, (.cons (.ret (.call 17 (.cons (.var 0) (.cons (.call 23 (.cons (.var 1) (.cons (.var 2) .nil))) .nil)))) .nil)⟩
theorem Og{a b : R3}(hp : P4 p)(h : CgR p (crs a b) (0, 0, 0))(la : AX p (tri a) = Aa 1)(lb : AX p (tri b) = Aa 1) : Pr p b a := by
 obtain⟨h0, h1, h2⟩ := h;have p1 : 1<p := by have := hp.lo;omega
 have sw : ∀{x y : Ae}, Cg p (x-y) 0 -> Cg p x y := fun {x y} h => by
  have := h.add (Cg.rfl (a := y))
  rwa [Int.sub_add_cancel, ED]at this
 have e0 : Cg p (a.2.1*b.2.2) (a.2.2*b.2.1) := sw h0;have e1 : Cg p (a.2.2*b.1) (a.1*b.2.2) := sw h1;have e2 : Cg p (a.1*b.2.1) (a.2.1*b.1) := sw h2;have one : ∀{x : Ae}, x%p = 1 -> Cg p x 1 := fun {x} h => by show x%p = 1%p;rw[h, AI (by decide) p1]
 have fin : ∀ k, CgR p b (Bx k a) -> Pr p b a := fun k hk => by
  refine⟨k, fun z => ?_, hk⟩
  have : CgR p b (0, 0, 0) := by
   have kz : Cg p k 0 := by show k%p = 0%p;rw[z, A1]
   refine hk.trans ((CgR.sc kz CgR.rfl).trans (CgR.of ?_));unfold Bx;simp
  rw[NU this]at lb;cases lb
 unfold tri AX at la;by_cases z0 : a.1%p = 0
 ·rw[AH z0]at la;have c0 : Cg p a.1 0 := by show a.1%p = 0%p;rw[z0, A1]
  unfold AX at la;by_cases z1 : a.2.1%p = 0
  ·rw[AH z1]at la;have c1 : Cg p a.2.1 0 := by show a.2.1%p = 0%p;rw[z1, A1]
   unfold AX at la;by_cases z2 : a.2.2%p = 0
   ·rw[AH z2]at la;cases la
   ·rw[AO z2, BO]at la;have c2 := one la;refine fin b.2.2 ⟨?_, ?_, ?_⟩
    ·have := (c2.symm.mul (Cg.rfl (a := b.1))).trans e1;rw[Cw]at this;exact this.trans (Cg.of (Bk _ _))
    ·have := (c2.symm.mul (Cg.rfl (a := b.2.1))).trans e0.symm;rw[Cw]at this;exact this.trans (Cg.of (Bk _ _))
    ·have := (Cg.rfl (a := b.2.2)).mul c2;rw[CN]at this;exact this.symm
  ·rw[AO z1, BO]at la;have c1 := one la;refine fin b.2.1 ⟨?_, ?_, ?_⟩
   ·have := (c1.symm.mul (Cg.rfl (a := b.1))).trans e2.symm;rw[Cw]at this;exact this.trans (Cg.of (Bk _ _))
   ·have := (Cg.rfl (a := b.2.1)).mul c1;rw[CN]at this;exact this.symm
   ·have := (c1.symm.mul (Cg.rfl (a := b.2.2))).trans e0;rw[Cw]at this;exact this.trans (Cg.of (Bk _ _))
 ·rw[AO z0, BO]at la;have c0 := one la;refine fin b.1 ⟨?_, ?_, ?_⟩
  ·have := (Cg.rfl (a := b.1)).mul c0;rw[CN]at this;exact this.symm
  ·have := (c0.symm.mul (Cg.rfl (a := b.2.1))).trans e2;rw[Cw]at this;exact this.trans (Cg.of (Bk _ _))
  ·have := (c0.symm.mul (Cg.rfl (a := b.2.2))).trans e1.symm;rw[Cw]at this;exact this.trans (Cg.of (Bk _ _))
noncomputable def O1(Γ : Gam) : Prop := ∀(p : Ae)(a b : R3), P4 p -> In3 p a -> In3 p b -> AX p (tri a) = Aa 1 -> AX p (tri b) = Aa 1 -> a ≠ b -> ∃ y, In3 p y /\ AX p (tri y) = Aa 1 /\ Pr p y (crs a b) /\ Γ.F 57 [.int p, AG Ac a, AG Ac b] = .ok (AG Ac y)
theorem XJ(hc : Xk Γ)(hf : Lq Γ)(p : Ae)(a b : R3)(hp : P4 p)(ia : In3 p a)(ib : In3 p b)(la : AX p (tri a) = Aa 1)(lb : AX p (tri b) = Aa 1)(ne : a ≠ b) : ∃ y, In3 p y /\ AX p (tri y) = Aa 1 /\ Pr p y (crs a b) /\ L8.run Γ [.int p, AG Ac a, AG Ac b] = .ok (AG Ac y) := by
 have e1 := hc a b ((E6 hp ia).b3 (by decide)) ((E6 hp ib).b3 (by decide)) ne
 cases el : AX p (tri (crs a b)) with
 |none => exact absurd (ON hp ib ia lb la (Og hp (Lf el) la lb)).symm ne
 |some l=>
  obtain⟨u, iu, j, l1, pr, ef⟩ := Lh hp el;have e2 := hf p Ac _ l u hp el iu;rw[ef]at e2;have e2' : Γ.F 17 [.int p, AG Ac (crs a b)] = .ok (AG Ac (fmR p u (crs a b))) := e2;refine⟨_, j, l1, pr, ?_⟩;generalize AG Ac (fmR p u (crs a b)) = Y at *;simp[L8, Df.run, Bt, e1, e2']
noncomputable def KQ : E := (.bl Ac)
noncomputable def KR : E := (.bin .Mult (.var 3) (.var 4))
noncomputable def Ld : Df := ⟨5, Ad, (.cons (.ret (.cmp .Eq (.bin .Mod (.bi .sum (.cons (.compT KR [3, 4] (.zip (.var 2) (.var 1)) KQ) .nil)) (.var 0)) (.int 0))) .nil)⟩
noncomputable def Y7(Γ : Gam) : Prop := ∀(p : Ae)(C : C6)(x : R3), P4 p -> InC p C -> In3 p x -> Γ.F 162 [.int p, Br C, AG Ac x] = .ok (.int (vI C x%p))
theorem XG(Γ : Gam)(p : Ae)(C : C6)(x : R3)(hp : P4 p)(iC : InC p C)(ix : In3 p x) : KF.run Γ [.int p, Br C, AG Ac x] = .ok (.int (vI C x%p)) := by
 have p0 := hp.pos;have bC := iC.b hp;have bx := E6 hp ix;have k : ∀ {u v}, Bd 10 u -> Bd 10 v -> DX u v = Ac := fun hu hv => Fn hu hv (by decide) (by decide)
 have k2 : ∀ {u v w}, Bd 10 u -> Bd 10 v -> Bd 10 w -> DX u (v*w) = Ac := fun hu hv hw => Fn hu (hv.mul hw) (by decide) (by decide)
 obtain⟨c0, c1, c2, c3, c4, c5⟩ := C;obtain⟨x0, x1, x2⟩ := x;have q00 := k bx.1 bx.1;have q11 := k bx.2.1 bx.2.1;have q22 := k bx.2.2 bx.2.2;have q01 := k bx.1 bx.2.1;have q02 := k bx.1 bx.2.2;have q12 := k bx.2.1 bx.2.2;have m0 := k2 bC.b0 bx.1 bx.1;have m1 := k2 bC.b1 bx.2.1 bx.2.1;have m2 := k2 bC.b2 bx.2.2 bx.2.2;have m3 := k2 bC.b3 bx.1 bx.2.1;have m4 := k2 bC.b4 bx.1 bx.2.2;have m5 := k2 bC.b5 bx.2.1 bx.2.2;simp only at q00 q11 q22 q01 q02 q12 m0 m1 m2 m3 m4 m5;have sC : B5 (Br ⟨c0, c1, c2, c3, c4, c5⟩) = .ok [.int c0, .int c1, .int c2, .int c3, .int c4, .int c5] := rfl;have as : ∀ ρ : Rho, Gc [3, 4, 5] (AG Ac (x0, x1, x2)) ρ = .ok (((ρ.set 3 (si x0)).set 4 (si x1)).set 5 (si x2)) := fun _ => rfl
 have ev : vI ⟨c0, c1, c2, c3, c4, c5⟩ (x0, x1, x2) = c0*(x0*x0)+c1*(x1*x1)+c2*(x2*x2)+c3*(x0*x1)+c4*(x0*x2)+c5*(x1*x2) := by
  unfold vI;simp only;grind
 rw[ev];generalize Br ⟨c0, c1, c2, c3, c4, c5⟩ = cC at *;generalize AG Ac (x0, x1, x2) = xx at *;generalize hz0 : x0*x0 = z0 at *;generalize hz1 : x1*x1 = z1 at *;generalize hz2 : x2*x2 = z2 at *;generalize hz3 : x0*x1 = z3 at *;generalize hz4 : x0*x2 = z4 at *;generalize hz5 : x1*x2 = z5 at *;have cp : Bh (cGT Γ [si p, sh cC, sh xx, si x0, si x1, si x2, sh (.lst [.int z0, .int z1, .int z2, .int z3, .int z4, .int z5]), Af, Af] [7, 8] Ko) (cFT Γ [si p, sh cC, sh xx, si x0, si x1, si x2, sh (.lst [.int z0, .int z1, .int z2, .int z3, .int z4, .int z5]), Af, Af] [7, 8] Kd) (CS [.int c0, .int c1, .int c2, .int c3, .int c4, .int c5] [.int z0, .int z1, .int z2, .int z3, .int z4, .int z5]) = .ok [.int (c0*z0), .int (c1*z1), .int (c2*z2), .int (c3*z3), .int (c4*z4), .int (c5*z5)] := by
  simp[Bh, cGT, cFT, CS, Kd, Ko, m0, m1, m2, m3, m4, m5]
 generalize hs : c0*z0+c1*z1+c2*z2+c3*z3+c4*z4+c5*z5 = s;have sm : Fa 0 [.int (c0*z0), .int (c1*z1), .int (c2*z2), .int (c3*z3), .int (c4*z4), .int (c5*z5)] = .ok s := by rw[<-hs];simp[Fa]
 simp[KF, Df.run, Bt, as, q00, q11, q22, q01, q02, q12, hz0, hz1, hz2, hz3, hz4, hz5, sC, cp, sm, p0]
theorem LI(a b : R3) : Av (crs a b) a = 0 /\ Av (crs a b) b = 0 := by
 unfold Av crs;constructor <;> grind
theorem DG{x:Ae}(hp : P4 p)(kz : k%p ≠ 0) : k*x%p = 0 ↔ x%p = 0 := by
 constructor
 ·intro z;exact Cv fun n => Dk hp kz n z
 ·intro z;rw[A9, z, BY, A1]
section
variable{Γ : Gam}{ns : Ab Ae}{p : Ae}{C : C6}{s3 s4 s5 s6 s7 s8 : Sl}
end
noncomputable def NF(p : Ae)(x : R3) : Prop := In3 p x /\ AX p (tri x) = Aa 1
noncomputable def ptI(p n : Ae) : R3 := if n = 0 then (0, 0, 1) else if n <= p then (0, 1, n-1) else (1, (n-p-1) / p, (n-p-1)%p)
noncomputable def Da(p : Ae) : Ab R3 := (Cc (p*p+p+1).toNat).map fun(n : Ag) => ptI p n
theorem ZT{n:Ae}(hp : P4 p)(h0 : 0 <= n)(h1 : n<p*p+p+1) : NF p (ptI p n) := by
 have p1 : 1<p := by have := hp.lo;omega
 have p0 := hp.pos;unfold ptI;by_cases z : n = 0
 ·rw[AH z];exact⟨⟨⟨by decide, p0⟩, ⟨by decide, p0⟩, ⟨by decide, p1⟩⟩, Yt p1⟩
 ·rw[AO z];by_cases z1 : n <= p
  ·rw[AH z1];exact⟨⟨⟨G5 0, p0⟩, ⟨(by decide : (0 : Ae) <= 1), p1⟩, ⟨by show 0 <= n-1;omega, by show n-1<p;omega⟩⟩, cW p1 _⟩
  ·rw[AO z1];have d0 : 0 <= (n-p-1) / p := Int.ediv_nonneg (by omega) (by omega)
   have d1 : (n-p-1) / p<p := by rw[Int.ediv_lt_iff_lt_mul p0];omega
   exact⟨⟨⟨(by decide : (0 : Ae) <= 1), p1⟩, ⟨d0, d1⟩, ⟨Bg _ (by omega), Bb _ p0⟩⟩, eI p1 _ _⟩
theorem cR(hp : P4 p)(h : NF p x) : ∃ n : Ae, 0 <= n /\ n<p*p+p+1 /\ x = ptI p n := by
 obtain⟨⟨i0, i1, i2⟩, l⟩ := h;have p1 : 1<p := by have := hp.lo;omega
 have p0 := hp.pos;have pp := G6 p0 p0;obtain⟨x0, x1, x2⟩ := x;simp only at i0 i1 i2;unfold tri AX at l;simp only at l;rw[AI i0.1 i0.2]at l;by_cases z0 : x0 = 0
 ·rw[AH z0]at l;unfold AX at l;rw[AI i1.1 i1.2]at l;by_cases z1 : x1 = 0
  ·rw[AH z1]at l;unfold AX at l;rw[AI i2.1 i2.2]at l;by_cases z2 : x2 = 0
   ·rw[AH z2]at l;cases l
   ·rw[AO z2, BO]at l;exact⟨0, G5 0, by omega, by rw[z0, z1, l];rfl⟩
  ·rw[AO z1, BO]at l;refine⟨x2+1, by omega, by omega, ?_⟩
   unfold ptI;rw[AO (by omega), AH (by omega), z0, l, Int.add_sub_cancel]
 ·rw[AO z0, BO]at l;have m1 : p*x1 <= p*(p-1) := Int.mul_le_mul_of_nonneg_left (by omega) (by omega)
  have m0 : 0 <= p*x1 := Q1 (by omega) i1.1
  rw[Int.mul_sub, CN]at m1;refine⟨p+1+p*x1+x2, by omega, by omega, ?_⟩
  unfold ptI;have e : p+1+p*x1+x2-p-1 = x2+p*x1 := by omega
  rw[AO (by omega), AO (by omega), e, Int.add_mul_ediv_left _ _ (by omega), Int.ediv_eq_zero_of_lt i2.1 i2.2, Int.add_mul_emod_self_left, AI i2.1 i2.2, ED, l]
theorem Eo(hp : P4 p) : x ∈ Da p ↔ NF p x := by
 have p0 := hp.pos;have pp := G6 p0 p0;constructor
 ·intro h;obtain⟨n, hn, rfl⟩ := CO.mp h;have := Db.mp hn;exact ZT hp (by omega) (by omega)
 ·intro h;obtain⟨n, n0, n1, rfl⟩ := cR hp h;refine CO.mpr ⟨n.toNat, Db.mpr (by omega), ?_⟩
  rw[Int.toNat_of_nonneg n0]
theorem K9(hp : P4 p) : (Da p).Nodup := by
 rcases hp with rfl|rfl|rfl|rfl <;> decide +kernel
theorem LG{α : Type}[DecidableEq α] : ∀{l1 l2 : Ab α}, l1.Nodup -> (∀ x ∈ l1, x ∈ l2) -> l1.length <= l2.length
 |[], _, _, _ => F4 _
 |x::l1, l2, nd, h => by
  obtain⟨n1, n2⟩ := BH.mp nd;have hx := h x AA;have := LG (l1 := l1) (l2 := l2.erase x) n2 fun y hy => by
   have hy2 := h y (As _ hy);have ne : y ≠ x := fun e => n1 (e ▸ hy)
   exact(List.mem_erase_of_ne ne).mpr hy2
  rw[List.length_erase_of_mem hx]at this;have l0 : 0<l2.length := List.length_pos_of_mem hx;rw[BA];omega
theorem K8{α β : Type}{f : α -> β} : ∀{l : Ab α}, l.Nodup -> (∀ x ∈ l, ∀ y ∈ l, f x = f y -> x = y) -> (l.map f).Nodup
 |[], _, _ => DD
 |x::l, nd, h => by
  obtain⟨n1, n2⟩ := BH.mp nd;rw[Cb, BH];refine⟨fun m => ?_, K8 n2 fun y hy z hz => h y (As _ hy) z (As _ hz)⟩
  obtain⟨y, hy, e⟩ := CO.mp m;have := h y (As _ hy) x AA e;exact n1 (this ▸ hy)
theorem Wp[DecidableEq α]{l : Ab α}(nd : l.Nodup)(F G : α -> α)(hF : ∀ x ∈ l, F x ∈ l)(hG : ∀ y ∈ l, G y ∈ l)(GF : ∀ x ∈ l, G (F x) = x)(FG : ∀ y ∈ l, F (G y) = y)(Q : α -> An) : (l.filter fun x => Q (F x)).length = (l.filter Q).length := by
 refine Nat.le_antisymm ?_ ?_
 ·have n : ((l.filter fun x => Q (F x)).map F).Nodup := K8 (nd.filter _) fun x hx y hy e => by
   have h1 := GF x (Bc.mp hx).1;have h2 := GF y (Bc.mp hy).1;rw[<-h1, <-h2, e]
  have := LG (l2 := l.filter Q) n fun z hz => by
   obtain⟨x, hx, rfl⟩ := CO.mp hz;obtain⟨h1, h2⟩ := Bc.mp hx;exact Bc.mpr ⟨hF x h1, h2⟩
  rwa [BF]at this
 ·have n : ((l.filter Q).map G).Nodup := K8 (nd.filter _) fun x hx y hy e => by
   have h1 := FG x (Bc.mp hx).1;have h2 := FG y (Bc.mp hy).1;rw[<-h1, <-h2, e]
  have := LG (l2 := l.filter fun x => Q (F x)) n fun z hz => by
   obtain⟨x, hx, rfl⟩ := CO.mp hz;obtain⟨h1, h2⟩ := Bc.mp hx;exact Bc.mpr ⟨hG x h1, by rw[FG x h1];exact h2⟩
  rwa [BF]at this
noncomputable def nrm(p : Ae)(r : R3) : R3 := open Classical in if h : ∃ y, NF p y /\ Pr p y r then QY h else r
theorem Uh{p l : Ae}(hp : P4 p)(el : AX p (tri r) = Aa l) : NF p (nrm p r) /\ Pr p (nrm p r) r := by
 have h : ∃ y, NF p y /\ Pr p y r := by
  obtain⟨u, iu, j, l1, pr, _⟩ := Lh hp el;exact⟨_, ⟨j, l1⟩, pr⟩
 unfold nrm;rw[dif_pos h];exact DC h
theorem Gx{a b c x : R3}(hp : P4 p)(z : Aq a b c%p ≠ 0)(hx : NF p x) : NF p (nrm p (ap a b c x)) /\ Pr p (nrm p (ap a b c x)) (ap a b c x) := by
 obtain⟨l, el⟩ := Xi hp z hx.2 CgR.rfl;exact Uh hp el
theorem LS(hp : P4 p)(hx : NF p x)(hy : NF p y)(h : Pr p x y) : x = y := ON hp hx.1 hy.1 hx.2 hy.2 h
theorem La{a b c x : R3}(hp : P4 p)(z : Aq a b c%p ≠ 0)(hx : NF p x) : nrm p (ap (bk0 a b c) (bk1 a b c) (bk2 a b c) (nrm p (ap a b c x))) = x := by
 obtain⟨h1, h2⟩ := Gx hp z hx;have zB : Aq (bk0 a b c) (bk1 a b c) (bk2 a b c)%p ≠ 0 := by rw[Ma];exact Dk hp z z
 obtain⟨h3, h4⟩ := Gx hp zB h1;refine LS hp h3 hx (h4.trans hp ((Pr.ap h2).trans hp ?_));rw[Qk];exact⟨_, z, CgR.rfl⟩
theorem TQ{a b c x : R3}(hp : P4 p)(z : Aq a b c%p ≠ 0)(hx : NF p x) : nrm p (ap a b c (nrm p (ap (bk0 a b c) (bk1 a b c) (bk2 a b c) x))) = x := by
 have zB : Aq (bk0 a b c) (bk1 a b c) (bk2 a b c)%p ≠ 0 := by rw[Ma];exact Dk hp z z
 obtain⟨h1, h2⟩ := Gx hp zB hx;obtain⟨h3, h4⟩ := Gx hp z h1;refine LS hp h3 hx (h4.trans hp ((Pr.ap h2).trans hp ?_));rw[Po];exact⟨_, z, CgR.rfl⟩
theorem LJ{a b c : R3}(hp : P4 p)(z : Aq a b c%p ≠ 0)(Q : R3 -> An) : ((Da p).filter fun x => Q (nrm p (ap a b c x))).length = ((Da p).filter Q).length := by
 have zB : Aq (bk0 a b c) (bk1 a b c) (bk2 a b c)%p ≠ 0 := by rw[Ma];exact Dk hp z z
 exact Wp (K9 hp) (fun x => nrm p (ap a b c x)) (fun x => nrm p (ap (bk0 a b c) (bk1 a b c) (bk2 a b c) x)) (fun x hx => (Eo hp).mpr (Gx hp z ((Eo hp).mp hx)).1) (fun x hx => (Eo hp).mpr (Gx hp zB ((Eo hp).mp hx)).1) (fun x hx => La hp z ((Eo hp).mp hx)) (fun x hx => TQ hp z ((Eo hp).mp hx)) Q
noncomputable def Ev(p : Ae) : Ae := if p = 7 then 3 else 2
noncomputable def q4(w : Ag)(k : Ae)(y : R3) : Ae := match w with
  |0 => y.1*y.2.2-y.2.1*y.2.1
  |1 => y.1*y.1
  |2 => y.1*y.2.1
  |_ => y.1*y.1-k*(y.2.1*y.2.1)
noncomputable def E4(w : Ag)(k : Ae)(a b c : R3) : C6 := match w with
  |0 => Ih (prd a c) (prd b b)
  |1 => prd a a
  |2 => prd a b
  |_ => Ih (prd a a) (scC k (prd b b))
noncomputable def W4(w : Ag) : Prop := w = 0 \/ w = 1 \/ w = 2 \/ w = 3
theorem GW(u v x : R3) : vI (prd u v) x = Av u x*Av v x := by
 unfold vI prd Av;simp only;grind
theorem Pt(A B : C6)(x : R3) : vI (Ih A B) x = vI A x-vI B x := by
 unfold vI Ih;simp only;grind
theorem HU(k : Ae)(A : C6)(x : R3) : vI (scC k A) x = k*vI A x := by
 unfold vI scC;simp only;grind
theorem Qp(hw : W4 w)(k : Ae)(a b c x : R3) : vI (E4 w k a b c) x = q4 w k (ap a b c x) := by
 rcases hw with rfl|rfl|rfl|rfl
 ·show vI (Ih _ _) x = Av a x*Av c x-Av b x*Av b x;rw[Pt, GW, GW]
 ·show vI (prd _ _) x = Av a x*Av a x;rw[GW]
 ·show vI (prd _ _) x = Av a x*Av b x;rw[GW]
 ·show vI (Ih _ _) x = Av a x*Av a x-k*(Av b x*Av b x);rw[Pt, HU, GW, GW]
theorem PM(hw : W4 w)(k d : Ae)(y : R3) : q4 w k (Bx d y) = d*d*q4 w k y := by
 rcases hw with rfl|rfl|rfl|rfl <;> (unfold q4 Bx;simp only;grind)
theorem ZR(hw : W4 w)(h : CgR p y y') : Cg p (q4 w k y) (q4 w k y') := by
 rcases hw with rfl|rfl|rfl|rfl
 ·exact(h.1.mul h.2.2).sub (h.2.1.mul h.2.1)
 ·exact h.1.mul h.1
 ·exact h.1.mul h.2.1
 ·exact(h.1.mul h.1).sub (Cg.rfl.mul (h.2.1.mul h.2.1))
theorem ZQ(hw : W4 w)(hp : P4 p)(h : Pr p y y') : (q4 w k y%p = 0) ↔ (q4 w k y'%p = 0) := by
 obtain⟨d, dz, e⟩ := h;have q := (ZR (k := k) hw e).trans (Cg.of (PM hw k d y'));rw[show q4 w k y%p = _ from q]
 exact DG hp (Dk hp dz dz)
theorem PH(hw : W4 w){a b c x : R3}(hp : P4 p)(z : Aq a b c%p ≠ 0)(h : PrC p C (E4 w k a b c))(hx : NF p x) : (vI C x%p = 0) ↔ (q4 w k (nrm p (ap a b c x))%p = 0) := by
 rw[ZQ hw hp (Gx hp z hx).2, <-Qp hw];obtain⟨d, dz, e⟩ := h;have q := (GD e CgR.rfl (x := x)).trans (Cg.of (HU d _ x));rw[show vI C x%p = _ from q]
 exact DG hp dz
noncomputable def Qo(p : Ae)(w : Ag) : Ag := match w with
  |0 => (p+1).toNat
  |1 => (p+1).toNat
  |2 => (2*p+1).toNat
  |_ => 1
theorem dW(hp : P4 p)(hw : W4 w) : ((Da p).filter fun y => decide (q4 w (Ev p) y%p = 0)).length = Qo p w := by
 rcases hp with rfl|rfl|rfl|rfl <;> rcases hw with rfl|rfl|rfl|rfl <;> decide +kernel
noncomputable def Fb(p : Ae)(C : C6) : Ab R3 := (Da p).filter fun x => decide (vI C x%p = 0)
theorem VF(hw : W4 w){a b c : R3}(hp : P4 p)(z : Aq a b c%p ≠ 0)(h : PrC p C (E4 w (Ev p) a b c)) : (Fb p C).length = Qo p w := by
 rw[<-dW hp hw, <-LJ hp z];unfold Fb
 congr 1
 refine Ft fun x hx => ?_
 rw[decide_eq_decide];exact PH hw hp z h ((Eo hp).mp hx)
noncomputable def no3(p : Ae)(l : Ab R3) : An := l.all fun x => l.all fun y => l.all fun u => decide (x = y)||decide (x = u)||decide (y = u)||decide (Aq x y u%p ≠ 0)
theorem Ze(hp : P4 p) : no3 p ((Da p).filter fun y => decide (q4 0 (Ev p) y%p = 0)) = Ac := by
 rcases hp with rfl|rfl|rfl|rfl <;> decide +kernel
theorem VD{a b c : R3}(hp : P4 p)(z : Aq a b c%p ≠ 0)(h : PrC p C (E4 0 (Ev p) a b c)){u:R3}(hx : x ∈ Fb p C)(hy : y ∈ Fb p C)(hu : u ∈ Fb p C)(n1 : x ≠ y)(n2 : x ≠ u)(n3 : y ≠ u) : Aq x y u%p ≠ 0 := by
 have hw : W4 0 := .inl rfl;have led : ∀{x : R3}, x ∈ Fb p C -> NF p x /\ nrm p (ap a b c x) ∈ ((Da p).filter fun y => decide (q4 0 (Ev p) y%p = 0)) /\ Pr p (nrm p (ap a b c x)) (ap a b c x) := fun {x} hx => by
  obtain⟨h1, h2⟩ := Bc.mp hx;have nx := (Eo hp).mp h1;obtain⟨s1, s2⟩ := Gx hp z nx;refine⟨nx, Bc.mpr ⟨(Eo hp).mpr s1, ?_⟩, s2⟩;rw[AV]at h2 ⊢;exact(PH hw hp z h nx).mp h2
 obtain⟨nx, mx, px⟩ := led hx;obtain⟨ny, my, py⟩ := led hy;obtain⟨nu, mu, pu⟩ := led hu;have inj : ∀{x y : R3}, NF p x -> NF p y -> x ≠ y -> nrm p (ap a b c x) ≠ nrm p (ap a b c y) := fun {x y} hx hy ne e => ne (by rw[<-La hp z hx, <-La hp z hy, e])
 have all := Ze hp;unfold no3 at all;rw[Dc]at all;have a1 := all _ mx;rw[Dc]at a1;have a2 := a1 _ my;rw[Dc]at a2;have a3 := a2 _ mu;simp only[CU, AV]at a3;rcases a3 with ((e|e)|e)|e
 ·exact absurd e (inj nx ny n1)
 ·exact absurd e (inj nx nu n2)
 ·exact absurd e (inj ny nu n3)
 ·intro z0;obtain⟨d1, _, g1⟩ := px;obtain⟨d2, _, g2⟩ := py;obtain⟨d3, _, g3⟩ := pu;have q := WN g1 g2 g3;refine e ?_;rw[show Aq _ _ _%p = _ from q, A9, A9 (Aq a b c), z0, BY, A1, BY, A1]
theorem WO(hw : W4 w){a b c : R3}(hp : P4 p)(z : Aq a b c%p ≠ 0) : ∃ l, AX p (E4 w k a b c).l = Aa l := by
 cases el : AX p (E4 w k a b c).l with
 |some l => exact⟨l, rfl⟩
 |none=>
  have hz := HL.mp el;have kk : ∀ x ∈ (E4 w k a b c).l, Cg p x (0*x) := fun x hx => by show x%p = 0*x%p;rw[hz x hx, Cz, A1]
  have e0 : CgC p (E4 w k a b c) (scC 0 (E4 w k a b c)) := ⟨kk _ (by simp[C6.l]), kk _ (by simp[C6.l]), kk _ (by simp[C6.l]), kk _ (by simp[C6.l]), kk _ (by simp[C6.l]), kk _ (by simp[C6.l])⟩
  have zero : ∀ x : R3, vI (E4 w k a b c) x%p = 0 := fun x => by
   rw[show vI (E4 w k a b c) x%p = _ from GD e0 CgR.rfl, HU, Cz, A1]
  obtain⟨y, hy⟩ : ∃ y : R3, q4 w k y = 1 := by
   rcases hw with rfl|rfl|rfl|rfl
   ·exact⟨(1, 0, 1), rfl⟩
   ·exact⟨(1, 0, 0), rfl⟩
   ·exact⟨(1, 1, 0), rfl⟩
   ·exact⟨(1, 0, 0), by unfold q4;simp⟩
  have := zero (ap (bk0 a b c) (bk1 a b c) (bk2 a b c) y);rw[Qp hw, Po, PM hw, hy, CN]at this;exact absurd this (Dk hp z z)
noncomputable def B4(pts : Ab R3) : D := .lst (pts.map (AG Ac))
theorem JB{g : D -> R An}{f : D -> R D}{q : R3 -> An} : ∀(xs : Ab R3), (∀ x ∈ xs, g (AG Ac x) = .ok (q x) /\ f (AG Ac x) = .ok (AG Ac x)) -> Bh g f (xs.map (AG Ac)) = .ok ((xs.filter q).map (AG Ac))
 |[], _ => rfl
 |x::xs, h => by
  obtain⟨h1, h2⟩ := h x (AA ..);have ih := JB xs fun y hy => h y (As _ hy)
  show (g (AG Ac x)).bind _ = _;rw[h1, R.bind_ok, Dd];cases hq : q x with
  |true=>
   rw[AH rfl, AH rfl, h2, R.bind_ok, show Bh g f (Hb (AG Ac) xs) = _ from ih]
   rfl
  |false=>
   rw[AO (by decide), AO (by decide)]
   exact ih
noncomputable def Ql(Γ : Gam) : Prop := ∀(p n : Ae), P4 p -> 0 <= n -> n<p*p+p+1 -> Γ.F 157 [.int p, .int n] = .ok (AG Ac (ptI p n))
theorem aJ(Γ : Gam)(p n : Ae)(hp : P4 p)(h0 : 0 <= n)(h1 : n<p*p+p+1) : IL.run Γ [.int p, .int n] = .ok (AG Ac (ptI p n)) := by
 have pp : C9 p p = Ac := GV (by have := hp.lo;omega) (by have := hp.hi;omega)
 have p0 := hp.pos;have ph := hp.hi;have N0 : 0<p*p+p+1 := by have := G6 p0 p0;omega
 have hr : n%(p*p+p+1) = n := AI h0 h1;have pb : p<1073741824 := by omega
 unfold ptI;by_cases z0 : n = 0
 ·rw[AH z0];simp[IL, Df.run, Bt, pp, N0, hr, z0];rfl
 ·rw[AO z0];by_cases z1 : n <= p
  ·rw[AH z1];simp[IL, Df.run, Bt, pp, N0, hr, z0, z1];rfl
  ·rw[AO z1];simp[IL, Df.run, Bt, pp, N0, hr, z0, z1, p0, pb];rfl
noncomputable def KB : E := (.bl Ac)
noncomputable def IF : E := (.call 157 (.cons (.var 0) (.cons (.var 1) .nil)))
noncomputable def Jw : Df := ⟨2, Ad, (.cons (.ret (.comp IF 1 (.rng (.bin .Add (.bin .Add (.bin .Mult (.var 0) (.var 0)) (.var 0)) (.int 1))) KB)) .nil)⟩
noncomputable def Qm(Γ : Gam) : Prop := ∀ p : Ae, P4 p -> Γ.F 164 [.int p] = .ok (B4 (Da p))
theorem aM(h : Ql Γ)(p : Ae)(hp : P4 p) : Jw.run Γ [.int p] = .ok (B4 (Da p)) := by
 have pp : C9 p p = Ac := GV (by have := hp.lo;omega) (by have := hp.hi;omega)
 have N1 : 0 <= p*p+p+1 /\ p*p+p+1 <= 1000 := by rcases hp with rfl|rfl|rfl|rfl <;> decide
 have rg : CK 0 (p*p+p+1) = .ok (Ca 0 (p*p+p+1-0).toNat) := K5 (by decide) (by decide) (by omega) (by omega)
 rw[GM]at rg;have cp : Bh (cG Γ [si p, Af] 1 KB) (cF Γ [si p, Af] 1 IF) (Ca 0 (p*p+p+1).toNat) = .ok ((Da p).map (AG Ac)) := by
  have key : ∀ L : Ab Ag, (∀ k ∈ L, (k : Ae)<p*p+p+1) -> Bh (cG Γ [si p, Af] 1 KB) (cF Γ [si p, Af] 1 IF) (L.map fun(k : Ag) => D.int (0+(k : Ae))) = .ok ((L.map fun(n : Ag) => ptI p n).map (AG Ac)) := fun L => by
   induction L with
   |nil => intro _;rfl
   |cons k L ih=>
    intro hL;have e := h p k hp (by omega) (hL k AA)
    have f : cF Γ [si p, Af] 1 IF (.int (0+(k : Ae))) = .ok (AG Ac (ptI p k)) := by
     rw[ED];simp[cF, IF, e]
    have ih' := ih fun m hm => hL m (As _ hm)
    show (R.ok Ac).bind _ = _;rw[R.bind_ok, AH rfl, f, R.bind_ok, show Bh _ _ (Hb _ L) = _ from ih']
    rfl
  exact key _ fun k hk => by have := Db.mp hk;omega
 generalize hN : p*p+p+1 = N at *;generalize Ca 0 N.toNat = RL at *;have e1 : p*p+p+1 = N := hN;simp[Jw, Df.run, Bt, pp, e1, rg, cp];rfl
noncomputable def dP(Γ : Gam) : Prop := ∀(p : Ae)(a b c : R3)(w : Ag), GoodR p a b c -> W4 w -> ∃ C : C6, InC p C /\ AX p C.l = Aa 1 /\ PrC p C (E4 w (Ev p) a b c) /\ Γ.F 163 [.int p, DV a b c, .int w] = .ok (Br C)
theorem od4(Γ : Gam)(RR ra rb rc : D)(s6 : Sl)(hp : P4 p) : evE Γ [si p, sh RR, si 3, sh ra, sh rb, sh rc, s6, Af, Af, Af, Af, Af, Af, Af] (.bi .min (.cons (.comp MN 8 (.rng2 (.int 2) (.var 0)) MK) .nil)) = .ok (.int (Ev p)) := by
 rcases hp with rfl|rfl|rfl|rfl <;> kernel_rfl!
theorem Pl{Γ : Gam}{s0 s1 s2 s3 s4 s5 s6 s7 s8 s9 s10 s11 : Sl} : ∀ xs ys : Ab Ae, Bh (cGT Γ [s0, s1, s2, s3, s4, s5, s6, s7, s8, s9, s10, s11, Af, Af] [12, 13] MI) (cFT Γ [s0, s1, s2, s3, s4, s5, s6, s7, s8, s9, s10, s11, Af, Af] [12, 13] ML) (CS (ds xs) (ds ys)) = .ok (ds (De (fun x y => x-y) xs ys))
 |[], _ => rfl
 |_::_, [] => rfl
 |x::xs, y::ys => by
  have ih := Pl (Γ := Γ) (s0 := s0) (s1 := s1) (s2 := s2) (s3 := s3) (s4 := s4) (s5 := s5) (s6 := s6) (s7 := s7) (s8 := s8) (s9 := s9) (s10 := s10) (s11 := s11) xs ys;show Bh _ _ (.tup [.int x, .int y]::CS (ds xs) (ds ys)) = .ok (.int (x-y)::ds (De (fun x y => x-y) xs ys))
  rw[Bh, ih];rfl
theorem Op{Γ : Gam}{o : Ae}{s0 s1 s2 s3 s4 s5 s6 s8 s9 : Sl}(ob : ∀ y, C9 o y = Ac) : ∀ xs ys : Ab Ae, Bh (cGT Γ [s0, s1, s2, s3, s4, s5, s6, si o, s8, s9, Af, Af, Af, Af] [10, 11] MJ) (cFT Γ [s0, s1, s2, s3, s4, s5, s6, si o, s8, s9, Af, Af, Af, Af] [10, 11] Jp) (CS (ds xs) (ds ys)) = .ok (ds (De (fun x y => x-o*y) xs ys))
 |[], _ => rfl
 |_::_, [] => rfl
 |x::xs, y::ys => by
  have ih := Op (Γ := Γ) (s0 := s0) (s1 := s1) (s2 := s2) (s3 := s3) (s4 := s4) (s5 := s5) (s6 := s6) (s8 := s8) (s9 := s9) ob xs ys;have f : cFT Γ [s0, s1, s2, s3, s4, s5, s6, si o, s8, s9, Af, Af, Af, Af] [10, 11] Jp (.tup [.int x, .int y]) = .ok (.int (x-o*y)) := by
   simp[cFT, Jp, ob]
  show Bh _ _ (.tup [.int x, .int y]::CS (ds xs) (ds ys)) = .ok (.int (x-o*y)::ds (De (fun x y => x-o*y) xs ys))
  rw[Bh, ih, f];rfl
theorem aL(hf : Lr Γ)(hd : Y6 Γ)(p : Ae)(a b c : R3)(w : Ag)(g : GoodR p a b c)(hw : W4 w) : ∃ C : C6, InC p C /\ AX p C.l = Aa 1 /\ PrC p C (E4 w (Ev p) a b c) /\ HH.run Γ [.int p, DV a b c, .int w] = .ok (Br C) := by
 have hp := g.p4;obtain⟨l, el⟩ := WO hw (k := Ev p) hp g.nz;obtain⟨t, C, it, eD, iC, lC, pC⟩ := PX hp el;have e3 := hf p Ad _ l t hp el it;rw[eD]at e3;refine⟨C, iC, lC, pC, ?_⟩
 clear pC lC iC eD it el
 have eaa := hd p a a hp g.ia g.ia;have eab := hd p a b hp g.ia g.ib;have eac := hd p a c hp g.ia g.ic;have ebb := hd p b b hp g.ib g.ib;have as : ∀ ρ : Rho, Gc [3, 4, 5] (DV a b c) ρ = .ok (((ρ.set 3 (sh (A8 a))).set 4 (sh (A8 b))).set 5 (sh (A8 c))) := fun _ => rfl
 rcases hw with rfl|rfl|rfl|rfl
 ·have e3' : Γ.F 158 [.int p, .lst (ds (De (fun x y => x-y) (prd a c).l (prd b b).l))] = .ok (Br C) := e3
  have e1' : Γ.F 160 [A8 a, A8 c] = .ok (.lst (ds (prd a c).l)) := eac;have e2' : Γ.F 160 [A8 b, A8 b] = .ok (.lst (ds (prd b b).l)) := ebb;have cp := fun(s0 s1 s2 s3 s4 s5 s6 s7 s8 s9 s10 s11 : Sl) => Pl (Γ := Γ) (s0 := s0) (s1 := s1) (s2 := s2) (s3 := s3) (s4 := s4) (s5 := s5) (s6 := s6) (s7 := s7) (s8 := s8) (s9 := s9) (s10 := s10) (s11 := s11) (prd a c).l (prd b b).l
  generalize ds (De (fun x y => x-y) (prd a c).l (prd b b).l) = LC at *
  generalize ds (prd a c).l = LA at *;generalize ds (prd b b).l = LB at *;generalize A8 a = ra at *;generalize A8 b = rb at *;generalize A8 c = rc at *;generalize DV a b c = RR at *;simp[HH, Df.run, Bt, as, e1', e2', cp, e3']
 ·have e3' : Γ.F 158 [.int p, .lst (ds (prd a a).l)] = .ok (Br C) := e3;generalize D.lst (ds (prd a a).l) = A at *;simp[HH, Df.run, Bt, as, eaa, e3']
 ·have e3' : Γ.F 158 [.int p, .lst (ds (prd a b).l)] = .ok (Br C) := e3;generalize D.lst (ds (prd a b).l) = A at *;simp[HH, Df.run, Bt, as, eab, e3']
 ·have ob : ∀ y, C9 (Ev p) y = Ac := fun y => by rcases hp with rfl|rfl|rfl|rfl <;> exact GV (by decide) (by decide)
  have e3' : Γ.F 158 [.int p, .lst (ds (De (fun x y => x-Ev p*y) (prd a a).l (prd b b).l))] = .ok (Br C) := e3
  have e1' : Γ.F 160 [A8 a, A8 a] = .ok (.lst (ds (prd a a).l)) := eaa;have e2' : Γ.F 160 [A8 b, A8 b] = .ok (.lst (ds (prd b b).l)) := ebb;have od := fun(RR ra rb rc : D)(s6 : Sl) => od4 Γ RR ra rb rc s6 hp
  have cp := fun(s0 s1 s2 s3 s4 s5 s6 s8 s9 : Sl) => Op (Γ := Γ) (s0 := s0) (s1 := s1) (s2 := s2) (s3 := s3) (s4 := s4) (s5 := s5) (s6 := s6) (s8 := s8) (s9 := s9) ob (prd a a).l (prd b b).l
  generalize Ev p = o at *;generalize ds (De (fun x y => x-o*y) (prd a a).l (prd b b).l) = LC at *
  generalize ds (prd a a).l = LA at *;generalize ds (prd b b).l = LB at *;generalize A8 a = ra at *;generalize A8 b = rb at *;generalize A8 c = rc at *;generalize DV a b c = RR at *;simp[-LW, HH, Df.run, Bt, as, e1', e2', od, cp, e3']
noncomputable def lc2(a : Ae)(A : C6)(b : Ae)(B : C6) : C6 := ⟨a*A.c0+b*B.c0, a*A.c1+b*B.c1, a*A.c2+b*B.c2, a*A.c3+b*B.c3, a*A.c4+b*B.c4, a*A.c5+b*B.c5⟩
noncomputable def l3(a : Ae)(A : C6)(b : Ae)(B : C6)(c : Ae)(G : C6) : C6 := ⟨a*A.c0+b*B.c0+c*G.c0, a*A.c1+b*B.c1+c*G.c1, a*A.c2+b*B.c2+c*G.c2, a*A.c3+b*B.c3+c*G.c3, a*A.c4+b*B.c4+c*G.c4, a*A.c5+b*B.c5+c*G.c5⟩
section
variable{p : Ae}{x y z w : R3}{Q A B G L M : C6}
theorem E3(hp : P4 p)(hx : NF p x)(hy : NF p y)(ne : x ≠ y) : ¬ CgR p (crs x y) (0, 0, 0) := fun h => ne (LS hp hx hy (Pr.symm hp (Og hp h hx.2 hy.2)))
theorem Wf(x y z : R3) : bk0 (x.1, y.1, z.1) (x.2.1, y.2.1, z.2.1) (x.2.2, y.2.2, z.2.2) = crs y z /\ bk1 (x.1, y.1, z.1) (x.2.1, y.2.1, z.2.1) (x.2.2, y.2.2, z.2.2) = crs z x /\ bk2 (x.1, y.1, z.1) (x.2.1, y.2.1, z.2.1) (x.2.2, y.2.2, z.2.2) = crs x y := by
 refine⟨?_, ?_, ?_⟩ <;> simp only[bk0, bk1, bk2, DN, DM, DL, crs] <;> refine Bw ?_ (Bw ?_ ?_) <;> simp only <;> grind
theorem U5(x y z : R3) : Aq (x.1, y.1, z.1) (x.2.1, y.2.1, z.2.1) (x.2.2, y.2.2, z.2.2) = Aq x y z := by
 unfold Aq det;simp only;grind
theorem Uf(b0 b1 b2 : Ae)(r0 r1 r2 : R3) : pb ⟨0, 0, 0, b0, b1, b2⟩ r0 r1 r2 = l3 b0 (prd r0 r1) b1 (prd r0 r2) b2 (prd r1 r2) := by
 simp only[pb, l3, prd, vI, bI, Av, ap, tw0, tw1, tw2, DN, DM, DL]
 congr 1 <;> grind
theorem Ts(hx : vI Q x%p = 0)(hy : vI Q y%p = 0)(hz : vI Q z%p = 0) : CgC p (scC (Aq x y z*Aq x y z) Q) (l3 (bI Q x y) (prd (crs y z) (crs z x)) (bI Q x z) (prd (crs y z) (crs x y)) (bI Q y z) (prd (crs z x) (crs x y))) := by
 obtain⟨e0, e1, e2⟩ := Xz (x.1, y.1, z.1) (x.2.1, y.2.1, z.2.1) (x.2.2, y.2.2, z.2.2);have h := cE Q (x.1, y.1, z.1) (x.2.1, y.2.1, z.2.1) (x.2.2, y.2.2, z.2.2) (bk0 (x.1, y.1, z.1) (x.2.1, y.2.1, z.2.1) (x.2.2, y.2.2, z.2.2)) (bk1 (x.1, y.1, z.1) (x.2.1, y.2.1, z.2.1) (x.2.2, y.2.2, z.2.2)) (bk2 (x.1, y.1, z.1) (x.2.1, y.2.1, z.2.1) (x.2.2, y.2.2, z.2.2));rw[e0, e1, e2, cH, U5]at h;obtain⟨f0, f1, f2⟩ := Wf x y z;rw[f0, f1, f2]at h;rw[<-h, <-Uf];refine P7 ?_ ⟨Cg.rfl, Cg.rfl, Cg.rfl⟩ ⟨Cg.rfl, Cg.rfl, Cg.rfl⟩ ⟨Cg.rfl, Cg.rfl, Cg.rfl⟩;have k : ∀{n : Ae}, n%p = 0 -> Cg p n 0 := fun {n} h => by show n%p = 0%p;rw[h, A1]
 exact⟨k hx, k hy, k hz, Cg.rfl, Cg.rfl, Cg.rfl⟩
theorem eQ(x y z w : R3) : Bx (Aq x y z) w = (Aq w y z*x.1+Aq x w z*y.1+Aq x y w*z.1, Aq w y z*x.2.1+Aq x w z*y.2.1+Aq x y w*z.2.1, Aq w y z*x.2.2+Aq x w z*y.2.2+Aq x y w*z.2.2) := by
 unfold Bx Aq det;refine Bw ?_ (Bw ?_ ?_) <;> simp only <;> grind
theorem Pz(x y z w : R3) : Bx (Aq x y z) (crs z w) = (Aq w y z*(crs z x).1-Aq x w z*(crs y z).1, Aq w y z*(crs z x).2.1-Aq x w z*(crs y z).2.1, Aq w y z*(crs z x).2.2-Aq x w z*(crs y z).2.2) := by
 unfold Bx Aq det crs;refine Bw ?_ (Bw ?_ ?_) <;> simp only <;> grind
theorem PD(x y z w : R3) : Bx (Aq x y z) (crs y w) = (Aq x y w*(crs y z).1-Aq w y z*(crs x y).1, Aq x y w*(crs y z).2.1-Aq w y z*(crs x y).2.1, Aq x y w*(crs y z).2.2-Aq w y z*(crs x y).2.2) := by
 unfold Bx Aq det crs;refine Bw ?_ (Bw ?_ ?_) <;> simp only <;> grind
theorem ZO(x y z w : R3) : Bx (Aq x y z) (crs x w) = (Aq x w z*(crs x y).1-Aq x y w*(crs z x).1, Aq x w z*(crs x y).2.1-Aq x y w*(crs z x).2.1, Aq x w z*(crs x y).2.2-Aq x y w*(crs z x).2.2) := by
 unfold Bx Aq det crs;refine Bw ?_ (Bw ?_ ?_) <;> simp only <;> grind
theorem fG(x y z w : R3) : scC (Aq x y z) (prd (crs x y) (crs z w)) = lc2 (Aq w y z) (prd (crs z x) (crs x y)) (-Aq x w z) (prd (crs y z) (crs x y)) := by
 have e := Pz x y z w;unfold Bx at e;simp only[RH]at e;obtain⟨e0, e1, e2⟩ := e;generalize Aq x y z = d at *;generalize Aq w y z = u0 at *;generalize Aq x w z = u1 at *;generalize crs z w = c at *;generalize crs x y = r2 at *;generalize crs y z = r0 at *;generalize crs z x = r1 at *;simp only[scC, lc2, prd]
 congr 1 <;> grind
theorem fE(x y z w : R3) : scC (Aq x y z) (prd (crs x z) (crs y w)) = lc2 (Aq w y z) (prd (crs z x) (crs x y)) (-Aq x y w) (prd (crs y z) (crs z x)) := by
 have e := PD x y z w;have f : crs x z = Bx (-1) (crs z x) := by
  unfold Bx crs;refine Bw ?_ (Bw ?_ ?_) <;> simp only <;> grind
 rw[f];unfold Bx at e ⊢;simp only[RH]at e;obtain⟨e0, e1, e2⟩ := e;generalize Aq x y z = d at *;generalize Aq w y z = u0 at *;generalize Aq x y w = u2 at *;generalize crs y w = c at *;generalize crs x y = r2 at *;generalize crs y z = r0 at *;generalize crs z x = r1 at *;simp only[scC, lc2, prd]
 congr 1 <;> grind
theorem z0{n:Ae}(h : n%p = 0) : Cg p n 0 := by show n%p = 0%p;rw[h, A1]
theorem z0'{n:Ae}(h : Cg p n 0) : n%p = 0 := by
 have : n%p = 0%p := h;rw[this, A1]
theorem eF(hx : vI Q x%p = 0)(hy : vI Q y%p = 0)(hz : vI Q z%p = 0)(hw : vI Q w%p = 0) : Cg p (Aq w y z*Aq x w z*bI Q x y+Aq w y z*Aq x y w*bI Q x z+Aq x w z*Aq x y w*bI Q y z) 0 := by
 have e := Ps Q x y z (Aq w y z) (Aq x w z) (Aq x y w);rw[<-eQ]at e;have f : vI Q (Bx (Aq x y z) w) = Aq x y z*Aq x y z*vI Q w := by
  unfold vI Bx;simp only;grind
 rw[f]at e;have h1 : Cg p (Aq x y z*Aq x y z*vI Q w) 0 := (Cg.mul Cg.rfl (z0 hw)).trans (Cg.of (BY _));rw[e]at h1;have k : ∀{a n : Ae}, n%p = 0 -> Cg p (a*a*n) 0 := fun h => (Cg.mul Cg.rfl (z0 h)).trans (Cg.of (BY _))
 have h2 := h1.sub (((k (a := Aq w y z) hx).add (k (a := Aq x w z) hy)).add (k (a := Aq x y w) hz));refine(Cg.of ?_).trans (h2.trans (Cg.of (by rfl)))
 generalize vI Q x = q0;generalize vI Q y = q1;generalize vI Q z = q2;generalize bI Q x y = b0;generalize bI Q x z = b1;generalize bI Q y z = b2;generalize Aq w y z = u0;generalize Aq x w z = u1;generalize Aq x y w = u2;grind
noncomputable def Spn(p : Ae)(Q L M : C6) : Prop := ∃ g a b, g%p ≠ 0 /\ CgC p (scC g Q) (lc2 a L b M)
section
variable{d u0 u1 u2 b0 b1 b2 q A B G l m : Ae}
theorem Il(h : Cg p (d*d*q) (b0*A+b1*B+b2*G))(r : Cg p (u0*u1*b0+u0*u2*b1+u1*u2*b2) 0)(hl : d*l = u0*G + -u1*B)(hm : d*m = u0*G + -u2*A) : Cg p (u1*u2*(d*d)*q) (-(u2*b1*d)*l + -(u1*b0*d)*m) := by
 have h1 := (Cg.rfl (p := p) (a := u1*u2)).mul h;have h2 := (Cg.rfl (p := p) (a := G)).mul r;have h3 := h1.sub h2.symm;refine(Cg.of (by clear h r h1 h2 h3 hl hm;grind)).trans (h3.trans (Cg.of ?_))
 clear h r h1 h2 h3
 have e1 : -(u2*b1*d)*l = -(u2*b1)*(d*l) := by grind
 have e2 : -(u1*b0*d)*m = -(u1*b0)*(d*m) := by grind
 rw[e1, e2, hl, hm];grind
theorem Ik(h : Cg p (d*d*q) (b0*A+b1*B+b2*G))(h1 : Cg p u1 0)(hb : Cg p b1 0)(hl : d*l = u0*G + -u1*B)(hm : d*m = u0*G + -u2*A) : Cg p (u0*u2*(d*d)*q) ((u0*b0+u2*b2)*d*l + -(u0*b0*d)*m) := by
 have e1 := (Cg.rfl (p := p) (a := u0*u2)).mul h;have e2 := (Cg.rfl (p := p) (a := u0*u2*B)).mul hb;have e3 := (Cg.rfl (p := p) (a := (u0*b0+u2*b2)*B)).mul h1;have e4 := (e1.sub e2.symm).sub e3.symm;refine(Cg.of (by clear h e1 e2 e3 e4 hl hm;grind)).trans (e4.trans (Cg.of ?_))
 clear h e1 e2 e3 e4
 have f1 : (u0*b0+u2*b2)*d*l = (u0*b0+u2*b2)*(d*l) := by grind
 have f2 : -(u0*b0*d)*m = -(u0*b0)*(d*m) := by grind
 rw[f1, f2, hl, hm];grind
theorem Ii(h : Cg p (d*d*q) (b0*A+b1*B+b2*G))(h2 : Cg p u2 0)(hb : Cg p b0 0)(hl : d*l = u0*G + -u1*B)(hm : d*m = u0*G + -u2*A) : Cg p (u0*u1*(d*d)*q) (-(u0*b1*d)*l+(u0*b1+u1*b2)*d*m) := by
 have e1 := (Cg.rfl (p := p) (a := u0*u1)).mul h;have e2 := (Cg.rfl (p := p) (a := u0*u1*A)).mul hb;have e3 := (Cg.rfl (p := p) (a := (u0*b1+u1*b2)*A)).mul h2;have e4 := (e1.sub e2.symm).sub e3.symm;refine(Cg.of (by clear h e1 e2 e3 e4 hl hm;grind)).trans (e4.trans (Cg.of ?_))
 clear h e1 e2 e3 e4
 have f1 : -(u0*b1*d)*l = -(u0*b1)*(d*l) := by grind
 have f2 : (u0*b1+u1*b2)*d*m = (u0*b1+u1*b2)*(d*m) := by grind
 rw[f1, f2, hl, hm];grind
end
theorem Fo{a b c d : Ae}(ha : Cg p a 0)(hb : Cg p b 0) : Cg p (a*c-b*d) 0 := ((ha.mul Cg.rfl).sub (hb.mul Cg.rfl)).trans (Cg.of (by rw[Cz, Cz];rfl))
theorem LX(hp : P4 p)(dz : d%p ≠ 0)(h : CgR p (Bx d r) (0, 0, 0)) : CgR p r (0, 0, 0) := ⟨z0 ((DG hp dz).mp (z0' h.1)), z0 ((DG hp dz).mp (z0' h.2.1)), z0 ((DG hp dz).mp (z0' h.2.2))⟩
theorem Px(hp : P4 p)(dz : Aq x y z%p ≠ 0)(hx : vI Q x%p = 0)(hy : vI Q y%p = 0)(hz : vI Q z%p = 0)(hw : vI Q w%p = 0)(n0 : ¬ CgR p (crs x w) (0, 0, 0))(n1 : ¬ CgR p (crs y w) (0, 0, 0))(n2 : ¬ CgR p (crs z w) (0, 0, 0)) : Spn p Q (prd (crs x y) (crs z w)) (prd (crs x z) (crs y w)) := by
 have t := Ts (Q := Q) hx hy hz;have r := eF (Q := Q) hx hy hz hw;have eL := fG x y z w;have eM := fE x y z w;have m01 : ¬ (Cg p (Aq w y z) 0 /\ Cg p (Aq x w z) 0) := fun ⟨a, b⟩ => n2 (LX hp dz (by rw[Pz];exact⟨Fo a b, Fo a b, Fo a b⟩))
 have m02 : ¬ (Cg p (Aq w y z) 0 /\ Cg p (Aq x y w) 0) := fun ⟨a, b⟩ => n1 (LX hp dz (by rw[PD];exact⟨Fo b a, Fo b a, Fo b a⟩))
 have m12 : ¬ (Cg p (Aq x w z) 0 /\ Cg p (Aq x y w) 0) := fun ⟨a, b⟩ => n0 (LX hp dz (by rw[ZO];exact⟨Fo a b, Fo a b, Fo a b⟩))
 generalize prd (crs x y) (crs z w) = L at *;generalize prd (crs x z) (crs y w) = M at *;generalize prd (crs z x) (crs x y) = G at *;generalize prd (crs y z) (crs x y) = B at *;generalize prd (crs y z) (crs z x) = A at *;generalize bI Q x y = b0 at *;generalize bI Q x z = b1 at *;generalize bI Q y z = b2 at *;generalize Aq x y z = d at *;generalize Aq w y z = u0 at *;generalize Aq x w z = u1 at *;generalize Aq x y w = u2 at *;obtain⟨t0, t1, t2, t3, t4, t5⟩ := t;simp only[scC, l3]at t0 t1 t2 t3 t4 t5;simp only[scC, lc2, C6.mk.injEq]at eL eM;obtain⟨l0, l1, l2, l3, l4, l5⟩ := eL;obtain⟨k0, k1, k2, k3, k4, k5⟩ := eM;have dd := Dk hp dz dz;by_cases c1 : Cg p u1 0
 ·have v0 : u0%p ≠ 0 := fun h => m01 ⟨z0 h, c1⟩
  have v2 : u2%p ≠ 0 := fun h => m12 ⟨c1, z0 h⟩
  have hb : Cg p b1 0 := by
   have e : Cg p (u0*u2*b1) 0 := by
    have h1 := ((c1.mul (Cg.rfl (a := u0*b0))).add (c1.mul (Cg.rfl (a := u2*b2))));exact(Cg.of (by clear r h1;grind)).trans ((r.sub h1).trans (Cg.of (by clear r h1;grind)))
   exact z0 ((DG hp (Dk hp v0 v2)).mp (z0' e))
  exact⟨u0*u2*(d*d), _, _, Dk hp (Dk hp v0 v2) dd, Ik t0 c1 hb l0 k0, Ik t1 c1 hb l1 k1, Ik t2 c1 hb l2 k2, Ik t3 c1 hb l3 k3, Ik t4 c1 hb l4 k4, Ik t5 c1 hb l5 k5⟩
 ·have v1 : u1%p ≠ 0 := fun h => c1 (z0 h)
  by_cases c2 : Cg p u2 0
  ·have v0 : u0%p ≠ 0 := fun h => m02 ⟨z0 h, c2⟩
   have hb : Cg p b0 0 := by
    have e : Cg p (u0*u1*b0) 0 := by
     have h1 := ((c2.mul (Cg.rfl (a := u0*b1))).add (c2.mul (Cg.rfl (a := u1*b2))));exact(Cg.of (by clear r h1;grind)).trans ((r.sub h1).trans (Cg.of (by clear r h1;grind)))
    exact z0 ((DG hp (Dk hp v0 v1)).mp (z0' e))
   exact⟨u0*u1*(d*d), _, _, Dk hp (Dk hp v0 v1) dd, Ii t0 c2 hb l0 k0, Ii t1 c2 hb l1 k1, Ii t2 c2 hb l2 k2, Ii t3 c2 hb l3 k3, Ii t4 c2 hb l4 k4, Ii t5 c2 hb l5 k5⟩
  ·have v2 : u2%p ≠ 0 := fun h => c2 (z0 h)
   exact⟨u1*u2*(d*d), _, _, Dk hp (Dk hp v1 v2) dd, Il t0 r l0 k0, Il t1 r l1 k1, Il t2 r l2 k2, Il t3 r l3 k3, Il t4 r l4 k4, Il t5 r l5 k5⟩
theorem ZM(hp : P4 p)(hd : Aq x y z%p ≠ 0 \/ Aq x y w%p ≠ 0)(hx : vI Q x%p = 0)(hy : vI Q y%p = 0)(hz : vI Q z%p = 0)(hw : vI Q w%p = 0)(ax : NF p x)(ay : NF p y)(az : NF p z)(aw : NF p w)(xz : x ≠ z)(yz : y ≠ z)(zw : z ≠ w)(xw : x ≠ w)(yw : y ≠ w) : Spn p Q (prd (crs x y) (crs z w)) (prd (crs x z) (crs y w)) := by
 rcases hd with hd|hd
 ·exact Px hp hd hx hy hz hw (E3 hp ax aw xw) (E3 hp ay aw yw) (E3 hp az aw zw)
 ·have hd' : Aq y x w%p ≠ 0 := by
   have e : Aq y x w = -1*Aq x y w := by unfold Aq det;grind
   rw[e];exact Dk hp hp.m1 hd
  have q := Px hp hd' hy hx hw hz (E3 hp ay az yz) (E3 hp ax az xz) (E3 hp aw az zw.symm);have e1 : prd (crs y x) (crs w z) = prd (crs x y) (crs z w) := by
   unfold prd crs;congr 1 <;> grind
  have e2 : prd (crs y w) (crs x z) = prd (crs x z) (crs y w) := by
   unfold prd;congr 1 <;> grind
  rw[e1, e2]at q;exact q
theorem W6(a b : Ae)(v : R3) : vI (lc2 a L b M) v = a*vI L v+b*vI M v := by
 unfold vI lc2;simp only;grind
theorem Yu{a a' b b' : Ae}{L' M':C6}(ha : Cg p a a')(hL : CgC p L L')(hb : Cg p b b')(hM : CgC p M M') : CgC p (lc2 a L b M) (lc2 a' L' b' M'):=
 ⟨(ha.mul hL.1).add (hb.mul hM.1), (ha.mul hL.2.1).add (hb.mul hM.2.1), (ha.mul hL.2.2.1).add (hb.mul hM.2.2.1), (ha.mul hL.2.2.2.1).add (hb.mul hM.2.2.2.1), (ha.mul hL.2.2.2.2.1).add (hb.mul hM.2.2.2.2.1), (ha.mul hL.2.2.2.2.2).add (hb.mul hM.2.2.2.2.2)⟩
theorem Pb{l : Ae}(hp : P4 p)(lQ : AX p Q.l = Aa l)(h : CgC p Q ⟨0, 0, 0, 0, 0, 0⟩) : A6 := by
 have : AX p Q.l = Af := HL.mpr fun n hn => by
  simp only[C6.l, At, AW, BR]at hn;obtain⟨h0, h1, h2, h3, h4, h5⟩ := h;rcases hn with rfl|rfl|rfl|rfl|rfl|rfl
  ·exact z0' h0
  ·exact z0' h1
  ·exact z0' h2
  ·exact z0' h3
  ·exact z0' h4
  ·exact z0' h5
 rw[this]at lQ;cases lQ
theorem OD(hp : P4 p)(dz : d%p ≠ 0)(h : CgC p (scC d Q) ⟨0, 0, 0, 0, 0, 0⟩) : CgC p Q ⟨0, 0, 0, 0, 0, 0⟩ := ⟨z0 ((DG hp dz).mp (z0' h.1)), z0 ((DG hp dz).mp (z0' h.2.1)), z0 ((DG hp dz).mp (z0' h.2.2.1)), z0 ((DG hp dz).mp (z0' h.2.2.2.1)), z0 ((DG hp dz).mp (z0' h.2.2.2.2.1)), z0 ((DG hp dz).mp (z0' h.2.2.2.2.2))⟩
theorem Xl(hp : P4 p){l k n : Ae}{F:C6}(lQ : AX p Q.l = Aa l)(kz : k%p ≠ 0)(h : CgC p (scC k Q) (scC n F)) : PrC p F Q := by
 have nz : n%p ≠ 0 := fun z => by
  refine Pb hp lQ (OD hp kz (h.trans ?_));have q : ∀ c : Ae, Cg p (n*c) 0 := fun c => ((z0 z).mul Cg.rfl).trans (Cg.of (Cz c))
  exact⟨q _, q _, q _, q _, q _, q _⟩
 exact(PrC.symm hp ⟨n, nz, CgC.rfl⟩).trans hp (PrC.trans hp ⟨1, hp.o1, (h.symm).trans (CgC.of (JN _).symm)⟩ ⟨k, kz, CgC.rfl⟩)
theorem Wi(hp : P4 p){l : Ae}{v:R3}(lQ : AX p Q.l = Aa l)(s : Spn p Q L M)(hv : vI Q v%p = 0)(n : ¬ (vI L v%p = 0 /\ vI M v%p = 0)) : PrC p (lc2 (vI M v) L (-vI L v) M) Q := by
 obtain⟨g, a, b, gz, e⟩ := s;have e1 : Cg p (a*vI L v+b*vI M v) 0 := by
  have q := GD (x := v) (x' := v) e ⟨Cg.rfl, Cg.rfl, Cg.rfl⟩;rw[HU, W6]at q;exact q.symm.trans ((Cg.mul Cg.rfl (z0 hv)).trans (Cg.of (BY _)))
 generalize vI L v = L4 at *;generalize vI M v = M4 at *;have key : ∀(k c : Ae), k%p ≠ 0 -> (∀ A B : Ae, Cg p (k*(a*A+b*B)) (c*(M4*A + -L4*B))) -> PrC p (lc2 M4 L (-L4) M) Q := fun k c kz h => by
  refine Xl hp (k := k*g) (n := c) lQ (Dk hp kz gz) ?_;have e' : CgC p (scC (k*g) Q) (scC k (lc2 a L b M)) := by
   rw[<-LN];exact CgC.sc Cg.rfl e
  exact e'.trans ⟨h _ _, h _ _, h _ _, h _ _, h _ _, h _ _⟩
 by_cases c : L4%p = 0
 ·have c' : M4%p ≠ 0 := fun z => n ⟨c, z⟩
  refine key M4 a c' fun A B => ?_
  have h := (Cg.rfl (p := p) (a := B)).mul e1;refine(Cg.of ?_).trans (((Cg.rfl (p := p) (a := a*(M4*A + -L4*B))).add h).trans (Cg.of ?_))
  ·clear e e1 h key;grind
  ·clear e e1 h key;grind
 ·refine key L4 (-b) c fun A B => ?_
  have h := (Cg.rfl (p := p) (a := A)).mul e1;refine(Cg.of ?_).trans (((Cg.rfl (p := p) (a := -b*(M4*A + -L4*B))).add h).trans (Cg.of ?_))
  ·clear e e1 h key;grind
  ·clear e e1 h key;grind
end
noncomputable def MG : Ss := (.cons (.ife (.cmp .In (.var 2) (.sl (.var 0) .non (.var 1))) (.cons (.rais 107 (.cons (.var 2) .nil)) .nil) .nil) .nil)
--
noncomputable def Jz : Df := ⟨3, Ad, (.cons (.forT [1, 2] (.enm (.var 0)) MG) .nil)⟩
--
noncomputable def Jq : Ss := (.cons (.asg 3 Ad (.bin .Add (.sl (.var 1) .non (.var 2)) (.sl (.var 1) (.bin .Add (.var 2) (.int 1)) .non))) (.cons (.ife (.and (.cons (.cmp .Eq (.call 61 (.cons (.var 0) (.cons (.idx (.var 3) (.int 0)) (.cons (.idx (.var 3) (.int 1)) (.cons (.idx (.var 3) (.int 2)) .nil))))) (.int 0)) (.cons (.cmp .Eq (.call 61 (.cons (.var 0) (.cons (.idx (.var 3) (.int 0)) (.cons (.idx (.var 3) (.int 1)) (.cons (.idx (.var 3) (.int 3)) .nil))))) (.int 0)) .nil))) (.cons (.ret (.bi .tuple (.cons (.var 3) .nil))) .nil) .nil) .nil))
--
noncomputable def Jy : Df := ⟨4, Ad, (.cons (.fors 2 (.e (.tup (.cons (.int 4) (.cons (.int 3) (.cons (.int 2) (.cons (.int 1) (.cons (.int 0) .nil))))))) Jq) (.cons (.ret .non) .nil))⟩
--
noncomputable def Kn : Df := ⟨2, Ad, (.cons (.ret (.tup (.cons (.bin .Mult (.idx (.var 0) (.int 0)) (.idx (.var 1) (.int 0))) (.cons (.bin .Mult (.idx (.var 0) (.int 1)) (.idx (.var 1) (.int 1))) (.cons (.bin .Mult (.idx (.var 0) (.int 2)) (.idx (.var 1) (.int 2))) (.cons (.bin .Add (.bin .Mult (.idx (.var 0) (.int 0)) (.idx (.var 1) (.int 1))) (.bin .Mult (.idx (.var 0) (.int 1)) (.idx (.var 1) (.int 0)))) (.cons (.bin .Add (.bin .Mult (.idx (.var 0) (.int 0)) (.idx (.var 1) (.int 2))) (.bin .Mult (.idx (.var 0) (.int 2)) (.idx (.var 1) (.int 0)))) (.cons (.bin .Add (.bin .Mult (.idx (.var 0) (.int 1)) (.idx (.var 1) (.int 2))) (.bin .Mult (.idx (.var 0) (.int 2)) (.idx (.var 1) (.int 1)))) .nil)))))))) .nil)⟩
noncomputable def KC : E := (.bl Ac)
noncomputable def KD : E := (.bin .Sub (.bin .Mult (.var 4) (.var 6)) (.bin .Mult (.var 5) (.var 7)))
--
noncomputable def Jx : Df := ⟨8, Ad, (.cons (.asg 2 Ad (.call 196 (.cons (.call 57 (.cons (.var 0) (.cons (.idx (.var 1) (.int 0)) (.cons (.idx (.var 1) (.int 1)) .nil)))) (.cons (.call 57 (.cons (.var 0) (.cons (.idx (.var 1) (.int 2)) (.cons (.idx (.var 1) (.int 3)) .nil)))) .nil)))) (.cons (.asg 3 Ad (.call 196 (.cons (.call 57 (.cons (.var 0) (.cons (.idx (.var 1) (.int 0)) (.cons (.idx (.var 1) (.int 2)) .nil)))) (.cons (.call 57 (.cons (.var 0) (.cons (.idx (.var 1) (.int 1)) (.cons (.idx (.var 1) (.int 3)) .nil)))) .nil)))) (.cons (.asg 4 Ad (.call 126 (.cons (.var 0) (.cons (.var 3) (.cons (.idx (.var 1) (.int 4)) .nil))))) (.cons (.asg 5 Ad (.call 126 (.cons (.var 0) (.cons (.var 2) (.cons (.idx (.var 1) (.int 4)) .nil))))) (.cons (.ret (.call 122 (.cons (.var 0) (.cons (.compT KD [6, 7] (.zip (.var 2) (.var 3)) KC) .nil)))) .nil)))))⟩
--
noncomputable def Jr : Df := ⟨3, Ad, (.cons (.ife (.cmp .NotEq (.bi .len (.cons (.var 1) .nil)) (.int 5)) (.cons (.rais 13 (.cons (.str (DF "a curve is told by five points")) .nil)) .nil) .nil) (.cons (.expr (.call 194 (.cons (.var 1) .nil))) (.cons (.asg 2 Ad (.call 195 (.cons (.var 0) (.cons (.var 1) .nil)))) (.cons (.ife (.cmp .IsNot (.var 2) .non) (.cons (.rais 118 (.cons (.var 2) .nil)) .nil) .nil) (.cons (.ret (.call 197 (.cons (.var 0) (.cons (.var 1) .nil)))) .nil)))))⟩
section
variable{Γ : Gam}{p : Ae}{P0 P1 P2 P3 P4 : D}
noncomputable def five(P0 P1 P2 P3 P4 : D) : D := .lst [P0, P1, P2, P3, P4]
theorem XQ(f0 : flD 5 P0 = Ac)(f1 : flD 5 P1 = Ac)(f2 : flD 5 P2 = Ac)(f3 : flD 5 P3 = Ac)(f4 : flD 5 P4 = Ac)(n01 : eqD P0 P1 = Ad)(n02 : eqD P0 P2 = Ad)(n03 : eqD P0 P3 = Ad)(n04 : eqD P0 P4 = Ad)(n12 : eqD P1 P2 = Ad)(n13 : eqD P1 P3 = Ad)(n14 : eqD P1 P4 = Ad)(n23 : eqD P2 P3 = Ad)(n24 : eqD P2 P4 = Ad)(n34 : eqD P3 P4 = Ad) : Jz.run Γ [five P0 P1 P2 P3 P4] = .ok .non := by
 simp[five, Jz, Df.run, Bt, Fq, CT, J5, MG, Hm, Ge, f0, f1, f2, f3, f4, n01, n02, n03, n04, n12, n13, n14, n23, n24, n34]
theorem IT{k a b : Ae}{q0 q1 q2 q3:D}{u v:Ab D}{s2 s3:Sl}(c0 : slD PP Af (Aa k) = .ok (.lst u))(c1 : slD PP (Aa (k+1)) Af = .ok (.lst v))(ad : Cq .Add (.lst u) (.lst v) = .ok (.lst [q0, q1, q2, q3]))(e0 : Γ.F 61 [.int p, q0, q1, q2] = .ok (.int a))(e1 : Γ.F 61 [.int p, q0, q1, q3] = .ok (.int b))(h : ¬ (a = 0 /\ b = 0)) : CB Γ 2 Jq (.int k) [si p, sh PP, s2, s3] = .next [si p, sh PP, si k, sh (.lst [q0, q1, q2, q3])] := by
 have i0 : Ci (.lst [q0, q1, q2, q3]) (.int 0) = .ok q0 := rfl;have i1 : Ci (.lst [q0, q1, q2, q3]) (.int 1) = .ok q1 := rfl;have i2 : Ci (.lst [q0, q1, q2, q3]) (.int 2) = .ok q2 := rfl;have i3 : Ci (.lst [q0, q1, q2, q3]) (.int 3) = .ok q3 := rfl;generalize D.lst [q0, q1, q2, q3] = FF at *;generalize D.lst u = U at *;generalize D.lst v = V at *;by_cases ha : a = 0
 ·have hb : b ≠ 0 := fun z => h ⟨ha, z⟩
  simp[CB, Jq, c0, c1, ad, i0, i1, i2, i3, e0, e1, ha, hb]
 ·simp[CB, Jq, c0, c1, ad, i0, i1, i2, i3, e0, e1, ha]
theorem eG{m012 m013 m014 m023 m024 m123 m124:Ae}(e012 : Γ.F 61 [.int p, P0, P1, P2] = .ok (.int m012))(e013 : Γ.F 61 [.int p, P0, P1, P3] = .ok (.int m013))(e014 : Γ.F 61 [.int p, P0, P1, P4] = .ok (.int m014))(e023 : Γ.F 61 [.int p, P0, P2, P3] = .ok (.int m023))(e024 : Γ.F 61 [.int p, P0, P2, P4] = .ok (.int m024))(e123 : Γ.F 61 [.int p, P1, P2, P3] = .ok (.int m123))(e124 : Γ.F 61 [.int p, P1, P2, P4] = .ok (.int m124))(h4 : ¬ (m012 = 0 /\ m013 = 0))(h3 : ¬ (m012 = 0 /\ m014 = 0))(h2 : ¬ (m013 = 0 /\ m014 = 0))(h1 : ¬ (m023 = 0 /\ m024 = 0))(h0 : ¬ (m123 = 0 /\ m124 = 0)) : Jy.run Γ [.int p, five P0 P1 P2 P3 P4] = .ok .non := by
 have t4 := fun(s2 s3 : Sl) => IT (Γ := Γ) (p := p) (k := 4) (PP := five P0 P1 P2 P3 P4) (s2 := s2) (s3 := s3) rfl rfl rfl e012 e013 h4
 have t3 := fun(s2 s3 : Sl) => IT (Γ := Γ) (p := p) (k := 3) (PP := five P0 P1 P2 P3 P4) (s2 := s2) (s3 := s3) rfl rfl rfl e012 e014 h3
 have t2 := fun(s2 s3 : Sl) => IT (Γ := Γ) (p := p) (k := 2) (PP := five P0 P1 P2 P3 P4) (s2 := s2) (s3 := s3) rfl rfl rfl e013 e014 h2
 have t1 := fun(s2 s3 : Sl) => IT (Γ := Γ) (p := p) (k := 1) (PP := five P0 P1 P2 P3 P4) (s2 := s2) (s3 := s3) rfl rfl rfl e023 e024 h1
 have t0 := fun(s2 s3 : Sl) => IT (Γ := Γ) (p := p) (k := 0) (PP := five P0 P1 P2 P3 P4) (s2 := s2) (s3 := s3) rfl rfl rfl e123 e124 h0
 generalize five P0 P1 P2 P3 P4 = PP at *;simp[Jy, Df.run, Bt, CT, t4, t3, t2, t1, t0]
theorem XB{R : D}(e1 : Γ.F 194 [five P0 P1 P2 P3 P4] = .ok .non)(e2 : Γ.F 195 [.int p, five P0 P1 P2 P3 P4] = .ok .non)(e3 : Γ.F 197 [.int p, five P0 P1 P2 P3 P4] = .ok R) : Jr.run Γ [.int p, five P0 P1 P2 P3 P4] = .ok R := by
 have ln : biD .len [five P0 P1 P2 P3 P4] = .ok (.int 5) := rfl;generalize five P0 P1 P2 P3 P4 = PP at *;simp[Jr, Df.run, Bt, ln, e1, e2, e3]
end
structure Five (p : Ae) (C : C6) (pts : Ab R3) : Prop where
 len : pts.length = 5
 nd : pts.Nodup
 nf : ∀ x ∈ pts, NF p x
 on : ∀ x ∈ pts, vI C x%p = 0
 n4 : ∀ n : R3, ¬ CgR p n (0, 0, 0) -> (pts.filter fun x => decide (Av n x%p = 0)).length <= 3
theorem Five.perm{a b : Ab R3}(h : Five p C a)(e : b.Perm a) : Five p C b:=
 ⟨e.length_eq.trans h.len, e.nodup_iff.mpr h.nd, fun x hx => h.nf x (e.mem_iff.mp hx), fun x hx => h.on x (e.mem_iff.mp hx), fun n hn => by rw[(e.filter _).length_eq];exact h.n4 n hn⟩
theorem JL{l : Ab α}(h : l.length = 5) : ∃ a b c d e, l = [a, b, c, d, e] := by
  match l, h with
  |[a, b, c, d, e], _ => exact⟨a, b, c, d, e, rfl⟩
theorem K4(a b c d e : R3) : B4 [a, b, c, d, e] = five (AG Ac a) (AG Ac b) (AG Ac c) (AG Ac d) (AG Ac e) := rfl
theorem IS(a : R3) : flD 5 (AG Ac a) = Ac := rfl
section
variable{Γ : Gam}{p : Ae}{C : C6}
noncomputable def Om(Γ : Gam) : Prop := ∀(p : Ae)(C : C6)(pts : Ab R3), Five p C pts -> Γ.F 194 [B4 pts] = .ok .non
theorem UH(Γ : Gam)(p : Ae)(C : C6)(pts : Ab R3)(h : Five p C pts) : Jz.run Γ [B4 pts] = .ok .non := by
 obtain⟨a, b, c, d, e, rfl⟩ := JL h.len;have nd := h.nd;simp only[BH, At, AW, BR, C4, Fw, DD, Ho]at nd;obtain⟨⟨n01, n02, n03, n04⟩, ⟨n12, n13, n14⟩, ⟨n23, n24⟩, n34⟩ := nd;rw[K4];have k : ∀{x y : R3}, ¬ x = y -> eqD (AG Ac x) (AG Ac y) = Ad := fun h => by rw[LR];exact Ck h
 exact XQ (IS _) (IS _) (IS _) (IS _) (IS _) (k n01) (k n02) (k n03) (k n04) (k n12) (k n13) (k n14) (k n23) (k n24) (k n34)
theorem OB{a b c d e : R3}(hp : P4 p)(h : Five p C [a, b, c, d, e]) : ∀ n : R3, ¬ CgR p n (0, 0, 0) -> (decide (Av n a%p = 0)).toNat+(decide (Av n b%p = 0)).toNat+(decide (Av n c%p = 0)).toNat+(decide (Av n d%p = 0)).toNat+(decide (Av n e%p = 0)).toNat <= 3 := fun n hn => by
 have := h.n4 n hn;have k : ∀(q : R3 -> An)(x : R3)(l : Ab R3), ((x::l).filter q).length = (q x).toNat+(l.filter q).length := fun q x l => by
  rw[Dd];cases q x <;> simp <;> omega
 rw[k, k, k, k, k]at this;simp only[List.filter_nil, D3]at this;omega
theorem Jj(x y z : R3) : Av (crs x y) z = Aq x y z := by
 unfold Av crs Aq det;grind
noncomputable def OX(Γ : Gam) : Prop := ∀(p : Ae)(C : C6)(pts : Ab R3), P4 p -> Five p C pts -> Γ.F 195 [.int p, B4 pts] = .ok .non
theorem Vx(hm : OW Γ)(p : Ae)(C : C6)(pts : Ab R3)(hp : P4 p)(h : Five p C pts) : Jy.run Γ [.int p, B4 pts] = .ok .non := by
 obtain⟨a, b, c, d, e, rfl⟩ := JL h.len;have nd := h.nd;simp only[BH, At, AW, BR, C4, Fw, DD, Ho]at nd;obtain⟨⟨n01, n02, n03, n04⟩, ⟨n12, n13, n14⟩, ⟨n23, n24⟩, n34⟩ := nd;have na := h.nf a (by simp)
 have nb := h.nf b (by simp)
 have nc := h.nf c (by simp)
 have nd := h.nf d (by simp)
 have ne := h.nf e (by simp)
 have B : ∀{x : R3}, NF p x -> B3 x := fun hx => (E6 hp hx.1).b3 (by decide)
 have m : ∀{x y z : R3}, NF p x -> NF p y -> NF p z -> Γ.F 61 [.int p, AG Ac x, AG Ac y, AG Ac z] = .ok (.int (Aq x y z%p)) := fun hx hy hz => hm p Ac _ _ _ hp.pos (B hx) (B hy) (B hz)
 have key : ∀ x y : R3, NF p x -> NF p y -> x ≠ y -> (decide (Av (crs x y) a%p = 0)).toNat+(decide (Av (crs x y) b%p = 0)).toNat+(decide (Av (crs x y) c%p = 0)).toNat+(decide (Av (crs x y) d%p = 0)).toNat+(decide (Av (crs x y) e%p = 0)).toNat <= 3 := fun x y hx hy hne => OB hp h _ (E3 hp hx hy hne)
 have z : ∀ x y : R3, decide (Av (crs x y) x%p = 0) = Ac /\ decide (Av (crs x y) y%p = 0) = Ac := fun x y => by
  obtain⟨h1, h2⟩ := LI x y;rw[h1, h2];exact⟨AR (A1 p), AR (A1 p)⟩
 have fin : ∀{x y u v : R3}, (decide (Av (crs x y) u%p = 0) = Ac -> decide (Av (crs x y) v%p = 0) = Ac -> A6) -> ¬ (Aq x y u%p = 0 /\ Aq x y v%p = 0) := fun f ⟨h1, h2⟩ => by
  rw[<-Jj]at h1 h2;exact f (AR h1) (AR h2)
 rw[K4];refine eG (m na nb nc) (m na nb nd) (m na nb ne) (m na nc nd) (m na nc ne) (m nb nc nd) (m nb nc ne) (fin fun h1 h2 => ?_) (fin fun h1 h2 => ?_) (fin fun h1 h2 => ?_) (fin fun h1 h2 => ?_) (fin fun h1 h2 => ?_)
 ·have q := key a b na nb n01;rw[(z a b).1, (z a b).2, h1, h2]at q;simp only[B7]at q;omega
 ·have q := key a b na nb n01;rw[(z a b).1, (z a b).2, h1, h2]at q;simp only[B7]at q;omega
 ·have q := key a b na nb n01;rw[(z a b).1, (z a b).2, h1, h2]at q;simp only[B7]at q;omega
 ·have q := key a c na nc n02;rw[(z a c).1, (z a c).2, h1, h2]at q;simp only[B7]at q;omega
 ·have q := key b c nb nc n12;rw[(z b c).1, (z b c).2, h1, h2]at q;simp only[B7]at q;omega
noncomputable def O0(Γ : Gam) : Prop := ∀(p : Ae)(a b : R3), P4 p -> In3 p a -> In3 p b -> Γ.F 196 [AG Ac a, AG Ac b] = .ok (Br (prd a b))
theorem XH(Γ : Gam)(p : Ae)(a b : R3)(hp : P4 p)(ia : In3 p a)(ib : In3 p b) : Kn.run Γ [AG Ac a, AG Ac b] = .ok (Br (prd a b)) := by
 have ba := E6 hp ia;have bb := E6 hp ib;have k : ∀ {u v}, Bd 10 u -> Bd 10 v -> DX u v = Ac := fun hu hv => Fn hu hv (by decide) (by decide)
 obtain⟨x0, x1, x2⟩ := GX Ac a;obtain⟨y0, y1, y2⟩ := GX Ac b;simp[Kn, Df.run, Bt, x0, x1, x2, y0, y1, y2, k ba.1 bb.1, k ba.2.1 bb.2.1, k ba.2.2 bb.2.2, k ba.1 bb.2.1, k ba.2.1 bb.1, k ba.1 bb.2.2, k ba.2.2 bb.1, k ba.2.1 bb.2.2, k ba.2.2 bb.2.1];rfl
theorem JZ{a b : R3}(hp : P4 p)(ia : In3 p a)(ib : In3 p b) : BC (prd a b) := by
 have hh := hp.hi;have k : ∀{x y : Ae}, 0 <= x /\ x<p -> 0 <= y /\ y<p -> 0 <= x*y /\ x*y <= 100 := fun {x y} hx hy => by
  refine⟨Q1 hx.1 hy.1, ?_⟩;exact GL (Int.mul_le_mul (show x <= 10 by omega) (show y <= 10 by omega) hy.1 (by decide)) (by decide)
 have b1 : ∀{n : Ae}, 0 <= n /\ n <= 100 -> Bd 10 n := fun h => by unfold Bd;omega
 have b2 : ∀{m n : Ae}, 0 <= m /\ m <= 100 -> 0 <= n /\ n <= 100 -> Bd 10 (m+n) := fun h g => by unfold Bd;omega
 obtain⟨a0, a1, a2⟩ := ia;obtain⟨b0, b1', b2'⟩ := ib;exact⟨b1 (k a0 b0), b1 (k a1 b1'), b1 (k a2 b2'), b2 (k a0 b1') (k a1 b0), b2 (k a0 b2') (k a2 b0), b2 (k a1 b2') (k a2 b1')⟩
noncomputable def Pp(Γ : Gam) : Prop := ∀(p : Ae)(C : C6)(x : R3), P4 p -> BC C -> In3 p x -> Γ.F 126 [.int p, Br C, AG Ac x] = .ok (.int (vI C x%p))
theorem XA(hr : Hi Γ)(p : Ae)(C : C6)(x : R3)(hp : P4 p)(bC : BC C)(ix : In3 p x) : LK.run Γ [.int p, Br C, AG Ac x] = .ok (.int (vI C x%p)) := by
 obtain⟨i0, i1, i2, i3, i4, i5⟩ := ix6 C;obtain⟨x0, x1, x2⟩ := GX Ac x;have bx := E6 hp ix;have k : ∀ {u v}, Bd 10 u -> Bd 10 v -> DX u v = Ac := fun hu hv => Fn hu hv (by decide) (by decide)
 have k2 : ∀ {u v w}, Bd 10 u -> Bd 10 v -> Bd 10 w -> DX (u*v) w = Ac := fun hu hv hw => Fn (hu.mul hv) hw (by decide) (by decide)
 simp[LK, Df.run, Bt, i0, i1, i2, i3, i4, i5, x0, x1, x2, k bC.b0 bx.1, k bC.b1 bx.2.1, k bC.b2 bx.2.2, k bC.b3 bx.1, k bC.b4 bx.1, k bC.b5 bx.2.1, k2 bC.b0 bx.1 bx.1, k2 bC.b1 bx.2.1 bx.2.1, k2 bC.b2 bx.2.2 bx.2.2, k2 bC.b3 bx.1 bx.2.1, k2 bC.b4 bx.1 bx.2.2, k2 bC.b5 bx.2.1 bx.2.2, hr p _ hp.pos];rfl
theorem YH{P0 P1 P2 P3 P4 A B A' B' R : D}{L M:C6}{l m : Ae}(bL : BC L)(bM : BC M)(bl : Bd 10 l)(bm : Bd 10 m)(e01 : Γ.F 57 [.int p, P0, P1] = .ok A)(e23 : Γ.F 57 [.int p, P2, P3] = .ok B)(eL : Γ.F 196 [A, B] = .ok (Br L))(e02 : Γ.F 57 [.int p, P0, P2] = .ok A')(e13 : Γ.F 57 [.int p, P1, P3] = .ok B')(eM : Γ.F 196 [A', B'] = .ok (Br M))(vM : Γ.F 126 [.int p, Br M, P4] = .ok (.int m))(vL : Γ.F 126 [.int p, Br L, P4] = .ok (.int l))(ec : Γ.F 122 [.int p, .lst (ds (lc2 m L (-l) M).l)] = .ok R) : Jx.run Γ [.int p, five P0 P1 P2 P3 P4] = .ok R := by
 have i0 : Ci (five P0 P1 P2 P3 P4) (.int 0) = .ok P0 := rfl;have i1 : Ci (five P0 P1 P2 P3 P4) (.int 1) = .ok P1 := rfl;have i2 : Ci (five P0 P1 P2 P3 P4) (.int 2) = .ok P2 := rfl;have i3 : Ci (five P0 P1 P2 P3 P4) (.int 3) = .ok P3 := rfl;have i4 : Ci (five P0 P1 P2 P3 P4) (.int 4) = .ok P4 := rfl;have sL : B5 (Br L) = .ok (ds L.l) := rfl;have sM : B5 (Br M) = .ok (ds M.l) := rfl;have k : ∀ {u v}, Bd 10 u -> Bd 10 v -> DX u v = Ac := fun hu hv => Fn hu hv (by decide) (by decide)
 have cp : ∀(PP cL cM : D), Bh (cGT Γ [si p, sh PP, sh cL, sh cM, si m, si l, Af, Af] [6, 7] KC) (cFT Γ [si p, sh PP, sh cL, sh cM, si m, si l, Af, Af] [6, 7] KD) (CS (ds L.l) (ds M.l)) = .ok (ds (lc2 m L (-l) M).l) := fun PP cL cM => by
  obtain⟨l0, l1, l2, l3, l4, l5⟩ := L;obtain⟨m0, m1, m2, m3, m4, m5⟩ := M;have n : ∀ a b : Ae, m*a + -l*b = m*a-l*b := fun a b => by rw[Int.neg_mul, Int.sub_eq_add_neg]
  simp[Bh, cGT, cFT, CS, ds, C6.l, lc2, KD, KC, n, k bm bL.b0, k bm bL.b1, k bm bL.b2, k bm bL.b3, k bm bL.b4, k bm bL.b5, k bl bM.b0, k bl bM.b1, k bl bM.b2, k bl bM.b3, k bl bM.b4, k bl bM.b5]
 generalize five P0 P1 P2 P3 P4 = PP at *;generalize ds (lc2 m L (-l) M).l = FF at *;generalize ds L.l = LL at *;generalize ds M.l = MM at *;generalize Br L = cL at *;generalize Br M = cM at *;simp[Jx, Df.run, Bt, i0, i1, i2, i3, i4, e01, e23, eL, e02, e13, eM, vM, vL, sL, sM, cp, ec]
theorem XZ{a a' b b' : R3}(ha : CgR p a a')(hb : CgR p b b') : CgC p (prd a b) (prd a' b'):=
 ⟨ha.1.mul hb.1, ha.2.1.mul hb.2.1, ha.2.2.mul hb.2.2, (ha.1.mul hb.2.1).add (ha.2.1.mul hb.1), (ha.1.mul hb.2.2).add (ha.2.2.mul hb.1), (ha.2.1.mul hb.2.2).add (ha.2.2.mul hb.2.1)⟩
theorem OH(hp : P4 p){a a' b b' : R3}(ha : Pr p a a')(hb : Pr p b b') : PrC p (prd a b) (prd a' b') := by
 obtain⟨d, dz, e⟩ := ha;obtain⟨d', dz', e'⟩ := hb;refine⟨d*d', Dk hp dz dz', (XZ e e').trans (CgC.of ?_)⟩;unfold prd scC Bx
 congr 1 <;> grind
theorem YI(hp : P4 p){L M L' M':C6}(hL : PrC p L' L)(hM : PrC p M' M)(v : R3) : PrC p (lc2 (vI M' v%p) L' (-(vI L' v%p)) M') (lc2 (vI M v) L (-vI L v) M) := by
 obtain⟨d, dz, e⟩ := hL;obtain⟨d', dz', e'⟩ := hM;refine⟨d*d', Dk hp dz dz', ?_⟩;have r : CgR p v v := ⟨Cg.rfl, Cg.rfl, Cg.rfl⟩;have q := GD e r;have q' := GD e' r;rw[HU]at q q';have neg : ∀{a b : Ae}, Cg p a b -> Cg p (-a) (-b) := fun {a b} h => by
  have := (Cg.rfl (p := p) (a := 0)).sub h
  rwa [Q3, Q3]at this
 refine(Yu ((Cg.md rfl).trans q') e (neg ((Cg.md rfl).trans q)) e').trans (CgC.of ?_);generalize vI M v = m;generalize vI L v = l;unfold lc2 scC
 congr 1 <;> grind
noncomputable def OY(Γ : Gam) : Prop := ∀(p : Ae)(C : C6)(pts : Ab R3), P4 p -> InC p C -> AX p C.l = Aa 1 -> Five p C pts -> Γ.F 197 [.int p, B4 pts] = .ok (Br C)
theorem Ui(hp : P4 p){l : Ae}{E : C6}(lC : AX p C.l = Aa l)(h : PrC p E C) : ∃ l', AX p E.l = Aa l' := by
 cases e : AX p E.l with
 |some l' => exact⟨l', rfl⟩
 |none=>
  exfalso
  obtain⟨d, dz, q⟩ := h;have z := HL.mp e;have k : ∀{n : Ae}, n ∈ E.l -> Cg p n 0 := fun hn => z0 (z _ hn)
  have q2 : CgC p E ⟨0, 0, 0, 0, 0, 0⟩ := ⟨k (by simp[C6.l]), k (by simp[C6.l]), k (by simp[C6.l]), k (by simp[C6.l]), k (by simp[C6.l]), k (by simp[C6.l])⟩
  exact Pb hp lC (OD hp dz (q.symm.trans q2))
theorem Vy(hj : O1 Γ)(hl : O0 Γ)(hv : Pp Γ)(hc : O2 Γ)(p : Ae)(C : C6)(pts : Ab R3)(hp : P4 p)(iC : InC p C)(lC : AX p C.l = Aa 1)(h : Five p C pts) : Jx.run Γ [.int p, B4 pts] = .ok (Br C) := by
 obtain⟨a, b, c, d, e, rfl⟩ := JL h.len;have nd := h.nd;simp only[BH, At, AW, BR, C4, Fw, DD, Ho]at nd;obtain⟨⟨n01, n02, n03, n04⟩, ⟨n12, n13, n14⟩, ⟨n23, n24⟩, n34⟩ := nd;have na := h.nf a (by simp)
 have nb := h.nf b (by simp)
 have nc := h.nf c (by simp)
 have nd := h.nf d (by simp)
 have ne := h.nf e (by simp)
 have z : ∀ x y : R3, Av (crs x y) x%p = 0 /\ Av (crs x y) y%p = 0 := fun x y => by
  obtain⟨h1, h2⟩ := LI x y;rw[h1, h2];exact⟨A1 p, A1 p⟩
 -- no four of them on a line
 have key : ∀ n : R3, ¬ CgR p n (0, 0, 0) -> (decide (Av n a%p = 0)).toNat+(decide (Av n b%p = 0)).toNat+(decide (Av n c%p = 0)).toNat+(decide (Av n d%p = 0)).toNat+(decide (Av n e%p = 0)).toNat <= 3 := OB hp h;have dd : Aq a b c%p ≠ 0 \/ Aq a b d%p ≠ 0 := by
  apply Cv
  intro hn;have hn' : Aq a b c%p = 0 /\ Aq a b d%p = 0 := ⟨Cv fun z => hn (.inl z), Cv fun z => hn (.inr z)⟩
  have q := key _ (E3 hp na nb n01);rw[AR (z a b).1, AR (z a b).2, Jj a b c, Jj a b d, AR hn'.1, AR hn'.2]at q;simp only[B7]at q;omega
 have sp := ZM hp dd (h.on a (by simp)) (h.on b (by simp)) (h.on c (by simp)) (h.on d (by simp)) na nb nc nd n02 n12 n23 n03 n13
 have nn : ¬ (vI (prd (crs a b) (crs c d)) e%p = 0 /\ vI (prd (crs a c) (crs b d)) e%p = 0) := fun ⟨h1, h2⟩ => by
  rw[GW]at h1 h2;have sw : ∀ x y : R3, Av (crs x y) e%p = 0 -> Av (crs x e) y%p = 0 := fun x y hz => by
   have : Av (crs x e) y = -1*Av (crs x y) e := by unfold Av crs;grind
   rw[this, A9, hz, BY, A1]
  have sw' : ∀ x y : R3, Av (crs x y) e%p = 0 -> Av (crs y e) x%p = 0 := fun x y hz => by
   have : Av (crs y e) x = Av (crs x y) e := by unfold Av crs;grind
   rw[this, hz]
  have spl : ∀{u v : Ae}, u*v%p = 0 -> u%p = 0 \/ v%p = 0 := fun {u v} hz => by
   by_cases hu : u%p = 0
   ·exact .inl hu
   ·exact .inr ((DG hp hu).mp hz)
  rcases spl h1 with g1|g1 <;> rcases spl h2 with g2|g2
  ·have q := key _ (E3 hp na ne n04);rw[AR (z a e).1, AR (z a e).2, AR (sw _ _ g1), AR (sw _ _ g2)]at q;simp only[B7]at q;omega
  ·have q := key _ (E3 hp nb ne n14);rw[AR (z b e).1, AR (z b e).2, AR (sw' _ _ g1), AR (sw _ _ g2)]at q;simp only[B7]at q;omega
  ·have q := key _ (E3 hp nc ne n24);rw[AR (z c e).1, AR (z c e).2, AR (sw _ _ g1), AR (sw' _ _ g2)]at q;simp only[B7]at q;omega
  ·have q := key _ (E3 hp nd ne n34);rw[AR (z d e).1, AR (z d e).2, AR (sw' _ _ g1), AR (sw' _ _ g2)]at q;simp only[B7]at q;omega
 have fp := Wi hp lC sp (h.on e (by simp)) nn
 obtain⟨y01, i01, _, p01, e01⟩ := hj p a b hp na.1 nb.1 na.2 nb.2 n01;obtain⟨y23, i23, _, p23, e23⟩ := hj p c d hp nc.1 nd.1 nc.2 nd.2 n23;obtain⟨y02, i02, _, p02, e02⟩ := hj p a c hp na.1 nc.1 na.2 nc.2 n02;obtain⟨y13, i13, _, p13, e13⟩ := hj p b d hp nb.1 nd.1 nb.2 nd.2 n13;have pr := (YI hp (OH hp p01 p23) (OH hp p02 p13) e).trans hp fp;obtain⟨l, el⟩ := Ui hp lC pr;obtain⟨t, D, it, eD, iD, lD, pD⟩ := PX hp el;have ec := hc p Ad _ l t hp el it;rw[eD]at ec;have eq := T8 hp iD iC lD lC (pD.trans hp pr);subst eq;have bd : ∀ n : Ae, Bd 10 (n%p) := fun n => Jf hp (Bg _ (by have := hp.pos;omega)) (Bb _ hp.pos)
 rw[K4];exact YH (JZ hp i01 i23) (JZ hp i02 i13) (bd _) (bd _) e01 e23 (hl p _ _ hp i01 i23) e02 e13 (hl p _ _ hp i02 i13) (hv p _ _ hp (JZ hp i02 i13) ne.1) (hv p _ _ hp (JZ hp i01 i23) ne.1) ec
noncomputable def Pq(Γ : Gam) : Prop := ∀(p : Ae)(C : C6)(pts : Ab R3), P4 p -> InC p C -> AX p C.l = Aa 1 -> Five p C pts -> Γ.F 198 [.int p, B4 pts] = .ok (Br C)
theorem UF(h1 : Om Γ)(h2 : OX Γ)(h3 : OY Γ)(p : Ae)(C : C6)(pts : Ab R3)(hp : P4 p)(iC : InC p C)(lC : AX p C.l = Aa 1)(h : Five p C pts) : Jr.run Γ [.int p, B4 pts] = .ok (Br C) := by
 have e1 := h1 p C pts h;have e2 := h2 p C pts hp h;have e3 := h3 p C pts hp iC lC h;obtain⟨a, b, c, d, e, rfl⟩ := JL h.len;exact XB e1 e2 e3
end
section
variable{p : Ae}{r n a b c x y z u : R3}
theorem Wo(x y n : R3) : crs (crs x y) n = (Av n x*y.1-Av n y*x.1, Av n x*y.2.1-Av n y*x.2.1, Av n x*y.2.2-Av n y*x.2.2) := by
 unfold crs Av;refine Bw ?_ (Bw ?_ ?_) <;> simp only <;> grind
theorem par(hp : P4 p)(h1 : CgR p (crs r n) (0, 0, 0))(h2 : CgR p (crs r a) (0, 0, 0))(rz : ¬ CgR p r (0, 0, 0))(nz : ¬ CgR p n (0, 0, 0))(e : Av n z%p = 0) : Av a z%p = 0 := by
 obtain⟨f0, f1, f2⟩ := h1;obtain⟨g0, g1, g2⟩ := h2;simp only[crs]at f0 f1 f2 g0 g1 g2;have sw : ∀{x y : Ae}, Cg p (x-y) 0 -> Cg p x y := fun {x y} h => (Cg.of (by omega)).trans ((h.add (Cg.rfl (a := y))).trans (Cg.of (by omega)))
 have d1 := sw f0;have d2 := sw f1;have d3 := sw f2;have c1 := sw g0;have c2 := sw g1;have c3 := sw g2
 -- r i n j = r j n i
 have key : ∀ ri ni ai : Ae, Cg p (ri*n.1) (r.1*ni) -> Cg p (ri*n.2.1) (r.2.1*ni) -> Cg p (ri*n.2.2) (r.2.2*ni) -> Cg p (ri*a.1) (r.1*ai) -> Cg p (ri*a.2.1) (r.2.1*ai) -> Cg p (ri*a.2.2) (r.2.2*ai) -> ni%p ≠ 0 -> Av a z%p = 0 := fun ri ni ai k0 k1 k2 l0 l1 l2 hz => by
  have rn : ri%p ≠ 0 := fun q => rz ⟨?_, ?_, ?_⟩
  ·have s1 : Cg p (ni*Av r z) 0 := by
    have t := (((k0.mul (Cg.rfl (a := z.1))).add (k1.mul (Cg.rfl (a := z.2.1)))).add (k2.mul (Cg.rfl (a := z.2.2)))).symm;refine(Cg.of ?_).trans (t.trans ((Cg.of ?_).trans (((Cg.rfl (a := ri)).mul (z0 e)).trans (Cg.of (BY _)))))
    ·unfold Av;clear e k0 k1 k2 l0 l1 l2 t c1 c2 c3 d1 d2 d3 f0 f1 f2 g0 g1 g2 sw;grind
    ·unfold Av;clear e k0 k1 k2 l0 l1 l2 t c1 c2 c3 d1 d2 d3 f0 f1 f2 g0 g1 g2 sw;grind
   have s2 := z0 ((DG hp hz).mp (z0' s1));have s3 : Cg p (ri*Av a z) 0 := by
    have t := (((l0.mul (Cg.rfl (a := z.1))).add (l1.mul (Cg.rfl (a := z.2.1)))).add (l2.mul (Cg.rfl (a := z.2.2))));refine(Cg.of ?_).trans (t.trans ((Cg.of ?_).trans (((Cg.rfl (a := ai)).mul s2).trans (Cg.of (BY _)))))
    ·unfold Av;clear e k0 k1 k2 l0 l1 l2 t c1 c2 c3 d1 d2 d3 f0 f1 f2 g0 g1 g2 sw s1 s2;grind
    ·unfold Av;clear e k0 k1 k2 l0 l1 l2 t c1 c2 c3 d1 d2 d3 f0 f1 f2 g0 g1 g2 sw s1 s2;grind
   exact(DG hp rn).mp (z0' s3)
  all_goals
   refine z0 ((DG hp hz).mp (z0' ?_))
  ·exact(Cg.of (Bk _ _)).trans (k0.symm.trans (((z0 q).mul Cg.rfl).trans (Cg.of (Cz _))))
  ·exact(Cg.of (Bk _ _)).trans (k1.symm.trans (((z0 q).mul Cg.rfl).trans (Cg.of (Cz _))))
  ·exact(Cg.of (Bk _ _)).trans (k2.symm.trans (((z0 q).mul Cg.rfl).trans (Cg.of (Cz _))))
 by_cases n0 : n.1%p = 0
 ·by_cases n1 : n.2.1%p = 0
  ·have n2 : n.2.2%p ≠ 0 := fun q => nz ⟨z0 n0, z0 n1, z0 q⟩
   exact key r.2.2 n.2.2 a.2.2 d2 d1.symm Cg.rfl c2 c1.symm Cg.rfl n2
  ·exact key r.2.1 n.2.1 a.2.1 d3.symm Cg.rfl d1 c3.symm Cg.rfl c1 n1
 ·exact key r.1 n.1 a.1 Cg.rfl d3 d2.symm Cg.rfl c3 c2.symm n0
theorem QL(h1 : Av n x%p = 0)(h2 : Av n y%p = 0) : CgR p (crs (crs x y) n) (0, 0, 0) := by
 rw[Wo];exact⟨Fo (z0 h1) (z0 h2), Fo (z0 h1) (z0 h2), Fo (z0 h1) (z0 h2)⟩
theorem LO(hp : P4 p)(hx : NF p x)(hy : NF p y)(ne : x ≠ y)(nz : ¬ CgR p n (0, 0, 0))(n1 : Av n x%p = 0)(n2 : Av n y%p = 0)(a1 : Av a x%p = 0)(a2 : Av a y%p = 0)(e : Av n z%p = 0) : Av a z%p = 0:=
 par hp (QL n1 n2) (QL a1 a2) (E3 hp hx hy ne) nz e
theorem Us(hp : P4 p)(hx : NF p x)(hy : NF p y)(ne : x ≠ y)(nz : ¬ CgR p n (0, 0, 0))(n1 : Av n x%p = 0)(n2 : Av n y%p = 0)(e : Av n u%p = 0) : Aq x y u%p = 0 := by
 rw[<-Jj];obtain⟨h1, h2⟩ := LI x y;exact LO hp hx hy ne nz n1 n2 (by rw[h1];exact A1 p) (by rw[h2];exact A1 p) e
end
noncomputable def HE : Ss := (.cons (.apop 5 4 (.bin .Mod (.bin .FloorDiv (.call 155 (.cons (.var 2) (.cons (.bin .Add (.var 3) (.var 6)) .nil))) (.int 3)) (.bi .len (.cons (.var 4) .nil)))) .nil)
noncomputable def IK : Df := ⟨7, Ad, (.cons (.asg 4 Ac (.bi .list (.cons (.var 0) .nil))) (.cons (.asg 5 Ac (.lst .nil)) (.cons (.fors 6 (.rng (.var 1)) HE) (.cons (.ret (.var 5)) .nil))))⟩
noncomputable def Kw : E := (.cmp .Eq (.call 162 (.cons (.var 0) (.cons (.var 2) (.cons (.var 8) .nil)))) (.int 0))
noncomputable def MV : E := (.var 8)
noncomputable def IH : E := (.and (.cons (.call 173 (.cons (.var 0) (.cons (.var 9) (.cons (.idx (.var 1) (.int 0)) .nil)))) (.cons (.no (.call 173 (.cons (.var 0) (.cons (.var 9) (.cons (.idx (.var 1) (.int 1)) .nil))))) .nil)))
noncomputable def Jv : E := (.var 9)
noncomputable def IG : E := (.and (.cons (.call 173 (.cons (.var 0) (.cons (.var 10) (.cons (.idx (.var 1) (.int 1)) .nil)))) (.cons (.no (.call 173 (.cons (.var 0) (.cons (.var 10) (.cons (.idx (.var 1) (.int 0)) .nil))))) .nil)))
noncomputable def Ju : E := (.var 10)
noncomputable def F6 : Df := ⟨11, Ad, (.cons (.asg 4 Ad (.bin .Mod (.bin .FloorDiv (.call 155 (.cons (.var 3) (.cons (.int 10) .nil))) (.int 7)) (.int 4))) (.cons (.ife (.and (.cons (.cmp .Gt (.var 0) (.int 3)) (.cons (.cmp .Lt (.var 4) (.int 2)) .nil))) (.cons (.ret (.call 200 (.cons (.comp MV 8 (.e (.call 164 (.cons (.var 0) .nil))) Kw) (.cons (.int 5) (.cons (.var 3) (.cons (.int 11) .nil)))))) .nil) .nil) (.cons (.asg 5 Ad (.comp Jv 9 (.e (.call 164 (.cons (.var 0) .nil))) IH)) (.cons (.asg 6 Ad (.comp Ju 10 (.e (.call 164 (.cons (.var 0) .nil))) IG)) (.cons (.ife (.cmp .Eq (.bin .Mod (.var 4) (.int 2)) (.int 0)) (.cons (.ret (.call 200 (.cons (.bin .Add (.call 200 (.cons (.var 5) (.cons (.int 3) (.cons (.var 3) (.cons (.int 11) .nil))))) (.call 200 (.cons (.var 6) (.cons (.int 2) (.cons (.var 3) (.cons (.int 14) .nil)))))) (.cons (.int 5) (.cons (.var 3) (.cons (.int 16) .nil)))))) .nil) .nil) (.cons (.asg 7 Ad (.lst (.cons (.call 158 (.cons (.var 0) (.cons (.call 161 (.cons (.idx (.var 1) (.int 0)) (.cons (.idx (.var 1) (.int 1)) .nil))) .nil))) .nil))) (.cons (.ret (.call 200 (.cons (.bin .Add (.bin .Add (.call 200 (.cons (.var 5) (.cons (.int 2) (.cons (.var 3) (.cons (.int 11) .nil))))) (.var 7)) (.call 200 (.cons (.var 6) (.cons (.int 2) (.cons (.var 3) (.cons (.int 13) .nil)))))) (.cons (.int 5) (.cons (.var 3) (.cons (.int 16) .nil)))))) .nil)))))))⟩
noncomputable def M9 : E := (.bl Ac)
noncomputable def Na : E := (.and (.cons (.isi (.var 7) [.int]) (.cons (.no (.isi (.var 7) [.bool])) .nil)))
noncomputable def HK : Df := ⟨8, Ad, (.cons (.asg 1 Ad (.call 156 (.cons (.var 0) .nil))) (.cons (.asg 2 Ad (.call 159 (.cons (.var 1) (.cons (.var 0) (.cons (.int 1) .nil))))) (.cons (.asg 3 Ad (.call 163 (.cons (.var 1) (.cons (.var 2) (.cons (.int 0) .nil))))) (.cons (.ife (.or (.cons (.cmp .Eq (.var 1) (.int 3)) (.cons (.cmp .Gt (.bin .Mod (.bin .FloorDiv (.call 155 (.cons (.var 0) (.cons (.int 10) .nil))) (.int 7)) (.int 4)) (.int 1)) .nil))) (.cons (.asg 3 Ad (.call 163 (.cons (.var 1) (.cons (.var 2) (.cons (.int 2) .nil))))) .nil) .nil) (.cons (.asg 4 Ad (.call 201 (.cons (.var 1) (.cons (.var 2) (.cons (.var 3) (.cons (.var 0) .nil)))))) (.cons (.asg 5 Ad (.bi .list (.cons (.var 4) .nil))) (.cons (.asg 6 Ad (.call 198 (.cons (.var 1) (.cons (.var 5) .nil)))) (.cons (.ife (.or (.cons (.no (.isi (.var 6) [.tuple])) (.cons (.no (.bi .all (.cons (.comp Na 7 (.e (.var 6)) M9) .nil))) .nil))) (.cons (.ret (.bl Ad)) .nil) .nil) (.cons (.ret (.and (.cons (.cmp .Eq (.var 6) (.var 3)) (.cons (.cmp .Eq (.var 5) (.var 4)) (.cons (.cmp .Eq (.call 198 (.cons (.var 1) (.cons (.bi .rvs (.cons (.var 4) .nil)) .nil))) (.var 3)) .nil))))) .nil)))))))))⟩
theorem Ng{α β : Type}(g : α -> β) : ∀(l : Ab α)(k : Ag), (l.map g).eraseIdx k = (l.eraseIdx k).map g
 |[], _ => rfl
 |_::_, 0 => rfl
 |x::l, k+1 => congrArg (g x :: ·) (Ng g l k)
theorem Ny{α : Type} : ∀(l : Ab α)(i : Ag)(h : i<l.length), (l[i]::l.eraseIdx i).Perm l
 |_::_, 0, _ => Q4 _
 |x::l, i+1, h => (List.Perm.swap ..).trans (List.Perm.cons x (Ny l i (Nat.lt_of_succ_lt_succ h)))
noncomputable def ow(l : Ab R3) : Sl := Aa (B4 l, Ac)
theorem UE(a : Ae)(n : Ag) : Ca a (n+1) = .int a::Ca (a+1) n := by
 unfold Ca;rw[Ei, Cb, FL]
 congr 1
 ·simp
 ·refine EW fun k _ => ?_
  simp only[Function.comp]
  congr 1
  omega
section
variable{Γ : Gam}{ns : Ab Ae}
theorem Xo(ρ : Rho)(j i : Ag)(f l : Ab R3)(k : Ag)(x : R3)(hk : l[k]? = Aa x)(hj : (j != i) = Ac)(h1 : Cs l.length = Ac)(h2 : Cs (f.length+1) = Ac) : apD ρ j i (f.map (AG Ac)) (l.map (AG Ac)) (k : Ae) = .next ((ρ.set i (ow (l.eraseIdx k))).set j (ow (f++[x]))) := by
 have kl : k<l.length := (AK.mp hk).1;unfold apD;have e : plD (l.map (AG Ac)).length (k : Ae) = Aa k := by
  unfold plD;rw[AH (by omega), BF, AH (by omega), Ee]
 rw[e];dsimp only;rw[DA, hk];dsimp only[Option.map];rw[BF, BF, hj, h1, h2];rw[AH (by rfl)]
 unfold ow B4;rw[Ng, D4];rfl
theorem Tg(hm : GY Γ 155 ns){many:Ae}{f l : Ab R3}(ha : 0 <= at_+k)(hl : 0<l.length)(h1 : l.length <= 1000)(h2 : f.length <= 1000) : ∃ f' l', f'.length = f.length+1 /\ l'.length+1 = l.length /\ (f'++l').Perm (f++l) /\ CB Γ 6 HE (.int k) [sh PP, si many, sh (scr ns), si at_, ow l, ow f, s6] = .next [sh PP, si many, sh (scr ns), si at_, ow l', ow f', si k] := by
 obtain⟨m, m0, e⟩ := hm (at_+k) ha;have hL : (0 : Ae)<l.length := by omega
 have q0 := Bg (m / 3) (b := (l.length : Ae)) (by omega)
 have q1 := Bb (m / 3) hL;obtain⟨i, hi⟩ : ∃ i : Ag, m / 3%(l.length : Ae) = (i : Ae) := ⟨(m / 3%(l.length : Ae)).toNat, by omega⟩
 have il : i<l.length := by omega
 have sz : ∀ n : Ag, n <= 1001 -> Cs n = Ac := fun n hn => by
  unfold Cs;exact RC.mpr (by omega)
 have pa := fun ρ : Rho => Xo ρ 5 4 f l i l[i] (Bz il) rfl (sz _ (by omega)) (sz _ (by omega))
 refine⟨f++[l[i]], l.eraseIdx i, by simp, by rw[List.length_eraseIdx_of_lt il];omega, ?_, ?_⟩
 ·rw[List.append_assoc];exact List.Perm.append_left _ (Ny l i il)
 ·have ln : biD .len [B4 l] = .ok (.int l.length) := by
   show R.ok (D.int ((l.map (AG Ac)).length : Ae)) = _;rw[BF]
  have o1 : ∀(a b c d g : Sl), Cp [a, b, c, d, ow l, ow f, g] 5 = .ok (f.map (AG Ac)) := fun _ _ _ _ _ => rfl
  have o2 : ∀(a b c d g : Sl), Cp [a, b, c, d, ow l, ow f, g] 4 = .ok (l.map (AG Ac)) := fun _ _ _ _ _ => rfl
  have t4 : ∀(a b c d g : Sl), Eb [a, b, c, d, ow l, ow f, g] 4 = .ok (B4 l) := fun _ _ _ _ _ => rfl
  generalize hT : ow (f++[l[i]]) = F' at *;generalize hU : ow (l.eraseIdx i) = L' at *;generalize ow l = OL at *;generalize ow f = OF at *;generalize B4 l = RL at *;generalize f.map (AG Ac) = FM at *;generalize l.map (AG Ac) = LM at *;generalize hn : (l.length : Ae) = N at *;simp[CB, HE, U0, o1, o2, t4, ln, e, hi, hL, pa]
theorem No(hm : GY Γ 155 ns){many at_ : Ae}{PP : D}(ha : 0 <= at_) : ∀(n : Ag)(k : Ae)(f l : Ab R3)(s6 : Sl), 0 <= k -> n <= l.length -> f.length+l.length <= 1000 -> ∃ f' l' s6', f'.length = f.length+n /\ (f'++l').Perm (f++l) /\ CT (CB Γ 6 HE) (Ca k n) [sh PP, si many, sh (scr ns), si at_, ow l, ow f, s6] = .next [sh PP, si many, sh (scr ns), si at_, ow l', ow f', s6']
 |0, k, f, l, s6, _, _, _ => ⟨f, l, s6, rfl, Q4 _, rfl⟩
 |n+1, k, f, l, s6, hk, hl, hz => by
  obtain⟨f1, l1, a1, a2, a3, a4⟩ := Tg hm (many := many) (at_ := at_) (k := k) (PP := PP) (f := f) (l := l) (s6 := s6) (by omega) (by omega) (by omega) (by omega)
  obtain⟨f2, l2, s2, b1, b2, b3⟩ := No hm (many := many) (at_ := at_) (PP := PP) ha n (k+1) f1 l1 (si k) (by omega) (by omega) (by omega)
  refine⟨f2, l2, s2, by omega, b2.trans a3, ?_⟩
  rw[UE];show (CB Γ 6 HE (.int k) _).turn _ = _;rw[a4];exact b3
noncomputable def OZ(Γ : Gam)(ns : Ab Ae) : Prop := ∀(n : Ag)(at_ : Ae)(pts : Ab R3), 0 <= at_ -> n <= pts.length -> pts.length <= 1000 -> ∃ f l, f.length = n /\ (f++l).Perm pts /\ Γ.F 200 [B4 pts, .int n, scr ns, .int at_] = .ok (B4 f)
theorem UD{PP S FF : D}{N:Ae}{RL:Ab D}{OP OL OF:Sl}(li : biD .list [PP] = .ok PP)(sf : ∀ ρ : Rho, setF ρ 4 PP = .next (ρ.set 4 OP))(rg : CK 0 N = .ok RL)(h3 : CT (CB Γ 6 HE) RL [sh PP, si N, sh S, si at_, OP, Aa (D.lst [], Ac), Af] = .next [sh PP, si N, sh S, si at_, OL, OF, s6])(rt : ∀(a b c d e g : Sl), Eb [a, b, c, d, e, OF, g] 5 = .ok FF) : IK.run Γ [PP, .int N, S, .int at_] = .ok FF := by
 simp[IK, Df.run, Bt, li, sf, rg, h3, rt, DY]
theorem Vt(n : Ag)(h : n <= 1000) : CK 0 (n : Ae) = .ok (Ca 0 n) := by
 have := K5 (lo := 0) (hi := (n : Ae)) (by decide) (by decide) (by omega) (by omega)
 rw[GM, Ee]at this;exact this
theorem XC(hm : GY Γ 155 ns)(n : Ag)(at_ : Ae)(pts : Ab R3)(ha : 0 <= at_)(hn : n <= pts.length)(hz : pts.length <= 1000) : ∃ f l, f.length = n /\ (f++l).Perm pts /\ IK.run Γ [B4 pts, .int n, scr ns, .int at_] = .ok (B4 f) := by
 obtain⟨f, l, s6, h1, h2, h3⟩ := No hm (many := n) (at_ := at_) (PP := B4 pts) ha n 0 [] pts Af (by decide) hn (by simpa using hz)
 refine⟨f, l, by simpa using h1, by simpa using h2, ?_⟩
 exact UD (OP := ow pts) rfl (fun _ => rfl) (Vt n (by omega)) h3 (fun _ _ _ _ _ _ => rfl)
noncomputable def lnA(p : Ae)(a b : R3) : Ab R3 := (Da p).filter fun x => decide (Av a x%p = 0) && !decide (Av b x%p = 0)
noncomputable def qa(p : Ae)(y : R3) : An := decide (y.1%p = 0) && !decide (y.2.1%p = 0)
noncomputable def qb(p : Ae)(y : R3) : An := decide (y.2.1%p = 0) && !decide (y.1%p = 0)
theorem dG(hp : P4 p) : ((Da p).filter (qa p)).length = p.toNat /\ ((Da p).filter (qb p)).length = p.toNat := by
 rcases hp with rfl|rfl|rfl|rfl <;> decide +kernel
theorem Yr{a b c : R3}(hp : P4 p)(z : Aq a b c%p ≠ 0) : (lnA p a b).length = p.toNat /\ (lnA p b a).length = p.toNat := by
 have k : ∀ x ∈ Da p, (decide (Av a x%p = 0) = decide ((nrm p (ap a b c x)).1%p = 0)) /\ (decide (Av b x%p = 0) = decide ((nrm p (ap a b c x)).2.1%p = 0)) := fun x hx => by
  obtain⟨_, d, dz, e⟩ := Gx hp z ((Eo hp).mp hx);have h1 : (nrm p (ap a b c x)).1%p = d*Av a x%p := e.1;have h2 : (nrm p (ap a b c x)).2.1%p = d*Av b x%p := e.2.1;rw[h1, h2];exact⟨fK.mpr (DG hp dz).symm, fK.mpr (DG hp dz).symm⟩
 obtain⟨h1, h2⟩ := dG hp;constructor
 ·rw[<-h1, <-LJ hp z (qa p)];unfold lnA;rw[Ft fun x hx => by rw[(k x hx).1, (k x hx).2]]
  rfl
 ·rw[<-h2, <-LJ hp z (qb p)];unfold lnA;rw[Ft fun x hx => by rw[(k x hx).1, (k x hx).2]]
  rfl
theorem Pa{a b x : R3}(hp : P4 p)(h : x ∈ lnA p a b) : NF p x /\ Av a x%p = 0 /\ Av b x%p ≠ 0 := by
 unfold lnA at h;rw[Bc]at h;obtain⟨h1, h2⟩ := h;simp only[Al, AV, Bu, fL]at h2;exact⟨(Eo hp).mp h1, h2.1, h2.2⟩
theorem J3{a b : R3}(hp : P4 p) : (lnA p a b).Nodup := (K9 hp).filter _
theorem IX{f l pts : Ab α}(e : (f++l).Perm pts)(nd : pts.Nodup) : f.Nodup /\ ∀ x ∈ f, x ∈ pts:=
 ⟨(List.nodup_append.mp (e.nodup_iff.mpr nd)).1, fun x hx => e.mem_iff.mp (EF _ hx)⟩
theorem Ut{l : Ab R3}(nd : l.Nodup)(h : 3 <= (l.filter q).length) : ∃ x y u, x ∈ l /\ y ∈ l /\ u ∈ l /\ x ≠ y /\ x ≠ u /\ y ≠ u /\ q x = Ac /\ q y = Ac /\ q u = Ac := by
  have nf : (l.filter q).Nodup := nd.filter (p := q);have hm : ∀ x ∈ l.filter q, x ∈ l /\ q x = Ac := fun x hx => Bc.mp hx
  generalize l.filter q = F at *
  match F, h, nf, hm with
  |x::y::u::r, _, nf, hm=>
    simp only[BH, At, C4]at nf;have a := hm x (by simp)
    have b := hm y (by simp)
    have c := hm u (by simp)
    exact⟨x, y, u, a.1, b.1, c.1, nf.1.1, nf.1.2.1, nf.2.1.1, a.2, b.2, c.2⟩
theorem Pu{l : Ab R3}(nd : l.Nodup)(h : 2 <= (l.filter q).length) : ∃ x y, x ∈ l /\ y ∈ l /\ x ≠ y /\ q x = Ac /\ q y = Ac := by
  have nf : (l.filter q).Nodup := nd.filter (p := q);have hm : ∀ x ∈ l.filter q, x ∈ l /\ q x = Ac := fun x hx => Bc.mp hx
  generalize l.filter q = F at *
  match F, h, nf, hm with
  |x::y::r, _, nf, hm=>
    simp only[BH, At, C4]at nf;have a := hm x (by simp)
    have b := hm y (by simp)
    exact⟨x, y, a.1, b.1, nf.1.1, a.2, b.2⟩
theorem Tk{a b c : R3}{f l : Ab R3}(hp : P4 p)(z : Aq a b c%p ≠ 0)(h : PrC p C (E4 0 (Ev p) a b c))(e : (f++l).Perm (Fb p C))(len : f.length = 5) : Five p C f := by
 have nd : (Fb p C).Nodup := (K9 hp).filter _;obtain⟨f1, f2⟩ := IX e nd;have m : ∀ x ∈ f, NF p x /\ vI C x%p = 0 := fun x hx => by
  have := f2 x hx;unfold Fb at this;rw[Bc]at this;exact⟨(Eo hp).mp this.1, Bv this.2⟩
 refine⟨len, f1, fun x hx => (m x hx).1, fun x hx => (m x hx).2, fun n hn => ?_⟩
 apply Cv
 intro hc;obtain⟨x, y, u, hx, hy, hu, n1, n2, n3, q1, q2, q3⟩ := Ut (q := fun x => decide (Av n x%p = 0)) f1 (by omega)
 exact VD hp z h (f2 x hx) (f2 y hy) (f2 u hu) n1 n2 n3 (Us hp (m x hx).1 (m y hy).1 n1 hn (Bv q1) (Bv q2) (Bv q3))
theorem W5{C E : C6}(hp : P4 p)(h : PrC p C E)(x : R3) : vI C x%p = 0 ↔ vI E x%p = 0 := by
 obtain⟨d, dz, e⟩ := h;have q := GD (x := x) (x' := x) e ⟨Cg.rfl, Cg.rfl, Cg.rfl⟩;rw[HU]at q;rw[show vI C x%p = _ from q]
 exact DG hp dz
theorem Nx{a b : R3}{A B O pts : Ab R3}(hp : P4 p)(h : PrC p C (prd a b))(hA : A.Nodup /\ ∀ x ∈ A, x ∈ lnA p a b)(hB : B.Nodup /\ ∀ x ∈ B, x ∈ lnA p b a)(lO : O.length <= 1)(hO : ∀ x ∈ O, NF p x /\ Av a x%p = 0 /\ Av b x%p = 0)(len : A.length+O.length+B.length = 5)(l3 : A.length <= 3)(l2 : B.length <= 2)(l4 : A.length+O.length <= 3)(e : pts.Perm (A++O++B)) : Five p C pts := by
  refine Five.perm ?_ e;have mA : ∀ x ∈ A, NF p x /\ Av a x%p = 0 /\ Av b x%p ≠ 0 := fun x hx => Pa hp (hA.2 x hx)
  have mB : ∀ x ∈ B, NF p x /\ Av b x%p = 0 /\ Av a x%p ≠ 0 := fun x hx => Pa hp (hB.2 x hx)
  have on : ∀ x, (Av a x%p = 0 \/ Av b x%p = 0) -> vI C x%p = 0 := fun x hx => by
    rw[W5 hp h x, GW];rcases hx with hx|hx
    · rw[A9, hx, Cz, A1]
    · rw[A9, hx, BY, A1]
  refine⟨by simp only[Bp];omega, ?_, fun x hx => ?_, fun x hx => ?_, fun n hn => ?_⟩
  · have ndO : O.Nodup := by
      match O, lO with
      |[], _ => exact DD
      |[o], _ => simp
    refine Rv.mpr ⟨Rv.mpr ⟨hA.1, ndO, fun x hx y hy q => ?_⟩, hB.1, fun x hx y hy q => ?_⟩
    · subst q;exact(mA x hx).2.2 (hO x hy).2.2
    · subst q;rcases Du.mp hx with hx|hx
      · exact(mA x hx).2.2 (mB x hy).2.1
      · exact(mB x hy).2.2 (hO x hx).2.1
  · simp only[Du]at hx;rcases hx with (hx|hx)|hx
    · exact(mA x hx).1
    · exact(hO x hx).1
    · exact(mB x hx).1
  · simp only[Du]at hx;rcases hx with (hx|hx)|hx
    · exact on x (.inl (mA x hx).2.1)
    · exact on x (.inl (hO x hx).2.1)
    · exact on x (.inr (mB x hx).2.1)
  · rw[Re, Re, Bp, Bp];have lA := EA (fun x => decide (Av n x%p = 0)) A
    have lB := EA (fun x => decide (Av n x%p = 0)) B
    have lo := EA (fun x => decide (Av n x%p = 0)) O
    by_cases cA : 2 <= (A.filter fun x => decide (Av n x%p = 0)).length
    · obtain⟨x, y, hx, hy, ne, q1, q2⟩ := Pu hA.1 cA;have : (B.filter fun x => decide (Av n x%p = 0)) = [] := by
        rw[Rg];intro u hu q3;exact(mB u hu).2.2 (LO hp (mA x hx).1 (mA y hy).1 ne hn (Bv q1) (Bv q2) (mA x hx).2.1 (mA y hy).2.1 (Bv q3))
      rw[this, D3];omega
    · by_cases cB : 2 <= (B.filter fun x => decide (Av n x%p = 0)).length
      · obtain⟨x, y, hx, hy, ne, q1, q2⟩ := Pu hB.1 cB;have : (A.filter fun x => decide (Av n x%p = 0)) = [] := by
          rw[Rg];intro u hu q3;exact(mA u hu).2.2 (LO hp (mB x hx).1 (mB y hy).1 ne hn (Bv q1) (Bv q2) (mB x hx).2.1 (mB y hy).2.1 (Bv q3))
        rw[this, D3];omega
      · omega
noncomputable def dO(Γ : Gam) : Prop := ∀(p : Ae)(q : An)(x y : R3), P4 p -> In3 p x -> In3 p y -> Γ.F 173 [.int p, AG Ac x, AG q y] = .ok (.bl (decide (Av y x%p = 0)))
theorem aK(Γ : Gam)(p : Ae)(q : An)(x y : R3)(hp : P4 p)(ix : In3 p x)(iy : In3 p y) : Ld.run Γ [.int p, AG Ac x, AG q y] = .ok (.bl (decide (Av y x%p = 0))) := by
 have p0 := hp.pos;have bx := E6 hp ix;have by_ := E6 hp iy;have k : ∀ {u v}, Bd 10 u -> Bd 10 v -> DX u v = Ac := fun hu hv => Fn hu hv (by decide) (by decide)
 have k0 := k by_.1 bx.1;have k1 := k by_.2.1 bx.2.1;have k2 := k by_.2.2 bx.2.2;have sx : B5 (AG Ac x) = .ok [.int x.1, .int x.2.1, .int x.2.2] := rfl;have sy : B5 (AG q y) = .ok [.int y.1, .int y.2.1, .int y.2.2] := by cases q <;> rfl
 unfold Av;generalize x.1 = x0 at *;generalize x.2.1 = x1 at *;generalize x.2.2 = x2 at *;generalize y.1 = y0 at *;generalize y.2.1 = y1 at *;generalize y.2.2 = y2 at *;generalize AG Ac x = xx at *;generalize AG q y = yy at *;have cp : Bh (cGT Γ [si p, sh xx, sh yy, Af, Af] [3, 4] KQ) (cFT Γ [si p, sh xx, sh yy, Af, Af] [3, 4] KR) (CS [.int y0, .int y1, .int y2] [.int x0, .int x1, .int x2]) = .ok [.int (y0*x0), .int (y1*x1), .int (y2*x2)] := by
  simp[Bh, cGT, cFT, CS, KR, KQ, k0, k1, k2]
 generalize hs : y0*x0+y1*x1+y2*x2 = s;have sm : Fa 0 [.int (y0*x0), .int (y1*x1), .int (y2*x2)] = .ok s := by rw[<-hs];simp[Fa]
 simp[Ld, Df.run, Bt, sx, sy, cp, sm, p0];rw[Cy];simp
noncomputable def Y8(Γ : Gam) : Prop := ∀(p : Ae)(a b : R3), P4 p -> In3 p a -> In3 p b -> Γ.F 161 [A8 a, A8 b] = .ok (A8 (crs a b))
theorem XI(Γ : Gam)(p : Ae)(a b : R3)(hp : P4 p)(ia : In3 p a)(ib : In3 p b) : KS.run Γ [A8 a, A8 b] = .ok (A8 (crs a b)) := by
 have ba := E6 hp ia;have bb := E6 hp ib;have k : ∀ {u v}, Bd 10 u -> Bd 10 v -> DX u v = Ac := fun hu hv => Fn hu hv (by decide) (by decide)
 obtain⟨a0, a1, a2⟩ := a;obtain⟨b0, b1, b2⟩ := b;have ea : ∀(x y z : Ae)(i j k : Ag)(ρ : Rho), Gc [i, j, k] (A8 (x, y, z)) ρ = .ok (((ρ.set i (si x)).set j (si y)).set k (si z)) := fun _ _ _ _ _ _ _ => rfl
 simp[KS, Df.run, Bt, ea, k ba.2.1 bb.2.2, k ba.2.2 bb.2.1, k ba.2.2 bb.1, k ba.1 bb.2.2, k ba.1 bb.2.1, k ba.2.1 bb.1];rfl
section
variable{p m wy : Ae}{S RR cC AL o cc ra rb R : D}{as fa fb x y : Ab D}
theorem T2(e1 : Γ.F 155 [S, .int 10] = .ok (.int m))(ew : m / 7%4 = wy)(hp : 3<p)(hw : wy<2)(al : Γ.F 164 [.int p] = .ok AL)(sq : B5 AL = .ok as)(cp : Bh (cG Γ [si p, sh RR, sh cC, sh S, si wy, Af, Af, Af, Af, Af, Af] 8 Kw) (cF Γ [si p, sh RR, sh cC, sh S, si wy, Af, Af, Af, Af, Af, Af] 8 MV) as = .ok x)(es : Γ.F 200 [.lst x, .int 5, S, .int 11] = .ok R) : F6.run Γ [.int p, RR, cC, S] = .ok R := by
 simp[F6, Df.run, Bt, e1, ew, hp, hw, al, sq, cp, es]
theorem TZ(e1 : Γ.F 155 [S, .int 10] = .ok (.int m))(ew : m / 7%4 = wy)(hw : ¬ (3<p /\ wy<2))(ev : wy%2 = 0)(al : Γ.F 164 [.int p] = .ok AL)(sq : B5 AL = .ok as)(cp1 : Bh (cG Γ [si p, sh RR, sh cC, sh S, si wy, Af, Af, Af, Af, Af, Af] 9 IH) (cF Γ [si p, sh RR, sh cC, sh S, si wy, Af, Af, Af, Af, Af, Af] 9 Jv) as = .ok fa)(cp2 : Bh (cG Γ [si p, sh RR, sh cC, sh S, si wy, sh (.lst fa), Af, Af, Af, Af, Af] 10 IG) (cF Γ [si p, sh RR, sh cC, sh S, si wy, sh (.lst fa), Af, Af, Af, Af, Af] 10 Ju) as = .ok fb)(s1 : Γ.F 200 [.lst fa, .int 3, S, .int 11] = .ok (.lst x))(s2 : Γ.F 200 [.lst fb, .int 2, S, .int 14] = .ok (.lst y))(ad : Cq .Add (.lst x) (.lst y) = .ok (.lst (x++y)))(s3 : Γ.F 200 [.lst (x++y), .int 5, S, .int 16] = .ok R) : F6.run Γ [.int p, RR, cC, S] = .ok R := by
 generalize D.lst (x++y) = XY at *;by_cases hp : 3<p
 ·have hw' : ¬ wy<2 := fun h => hw ⟨hp, h⟩
  simp[F6, Df.run, Bt, e1, ew, hp, hw', ev, al, sq, cp1, cp2, s1, s2, ad, s3]
 ·simp[F6, Df.run, Bt, e1, ew, hp, ev, al, sq, cp1, cp2, s1, s2, ad, s3]
theorem TY(e1 : Γ.F 155 [S, .int 10] = .ok (.int m))(ew : m / 7%4 = wy)(hw : ¬ (3<p /\ wy<2))(ev : ¬ wy%2 = 0)(al : Γ.F 164 [.int p] = .ok AL)(sq : B5 AL = .ok as)(cp1 : Bh (cG Γ [si p, sh RR, sh cC, sh S, si wy, Af, Af, Af, Af, Af, Af] 9 IH) (cF Γ [si p, sh RR, sh cC, sh S, si wy, Af, Af, Af, Af, Af, Af] 9 Jv) as = .ok fa)(cp2 : Bh (cG Γ [si p, sh RR, sh cC, sh S, si wy, sh (.lst fa), Af, Af, Af, Af, Af] 10 IG) (cF Γ [si p, sh RR, sh cC, sh S, si wy, sh (.lst fa), Af, Af, Af, Af, Af] 10 Ju) as = .ok fb)(i0 : Ci RR (.int 0) = .ok ra)(i1 : Ci RR (.int 1) = .ok rb)(ec : Γ.F 161 [ra, rb] = .ok cc)(ef : Γ.F 158 [.int p, cc] = .ok o)(s1 : Γ.F 200 [.lst fa, .int 2, S, .int 11] = .ok (.lst x))(s2 : Γ.F 200 [.lst fb, .int 2, S, .int 13] = .ok (.lst y))(ad : Cq .Add (.lst x) (.lst [o]) = .ok (.lst (x++[o])))(ad2 : Cq .Add (.lst (x++[o])) (.lst y) = .ok (.lst (x++[o]++y)))(s3 : Γ.F 200 [.lst (x++[o]++y), .int 5, S, .int 16] = .ok R) : F6.run Γ [.int p, RR, cC, S] = .ok R := by
 generalize D.lst (x++[o]++y) = XY at *;generalize D.lst (x++[o]) = XO at *;by_cases hp : 3<p
 ·have hw' : ¬ wy<2 := fun h => hw ⟨hp, h⟩
  simp[F6, Df.run, Bt, e1, ew, hp, hw', ev, al, sq, cp1, cp2, s1, s2, ad, ad2, i0, i1, ec, ef, s3]
 ·simp[F6, Df.run, Bt, e1, ew, hp, ev, al, sq, cp1, cp2, s1, s2, ad, ad2, i0, i1, ec, ef, s3]
end
noncomputable def Y9(Γ : Gam)(ns : Ab Ae) : Prop := ∀(p m : Ae)(a b c : R3)(C : C6), GoodR p a b c -> InC p C -> Γ.F 155 [scr ns, .int 10] = .ok (.int m) -> ((3<p /\ m / 7%4<2) -> PrC p C (E4 0 (Ev p) a b c)) -> (¬ (3<p /\ m / 7%4<2) -> PrC p C (prd a b)) -> ∃ pts, Five p C pts /\ Γ.F 201 [.int p, DV a b c, Br C, scr ns] = .ok (B4 pts)
theorem Lo(x y : Ab R3)(h : x.length+y.length <= 1000) : Cq .Add (.lst (x.map (AG Ac))) (.lst (y.map (AG Ac))) = .ok (.lst (x.map (AG Ac)++y.map (AG Ac))) := by
 have sz : Cs ((x.map (AG Ac)).length+(y.map (AG Ac)).length) = Ac := by
  unfold Cs;exact RC.mpr (by rw[BF, BF];omega)
 show (if Cs _ = Ac then _ else _) = _
 rw[AH sz]
theorem XM(ha : Qm Γ)(hv : Y7 Γ)(ho : dO Γ)(hs : OZ Γ ns)(hc : Y8 Γ)(hf : Lr Γ)(p m : Ae)(a b c : R3)(C : C6)(g : GoodR p a b c)(iC : InC p C)(e1 : Γ.F 155 [scr ns, .int 10] = .ok (.int m))(h0 : (3<p /\ m / 7%4<2) -> PrC p C (E4 0 (Ev p) a b c))(h2 : ¬ (3<p /\ m / 7%4<2) -> PrC p C (prd a b)) : ∃ pts, Five p C pts /\ F6.run Γ [.int p, DV a b c, Br C, scr ns] = .ok (B4 pts) := by
 have hp := g.p4;have al := ha p hp;have sq : B5 (B4 (Da p)) = .ok ((Da p).map (AG Ac)) := rfl;have p1 : 3 <= p.toNat /\ p.toNat <= 11 := by rcases hp with rfl|rfl|rfl|rfl <;> decide
 by_cases hw : 3<p /\ m / 7%4<2
 ·have pC := h0 hw;have len : 5 <= (Fb p C).length /\ (Fb p C).length <= 1000 := by
   rw[VF (.inl rfl) hp g.nz pC];have : p = 5 \/ p = 7 \/ p = 11 := by
    rcases hp with rfl|rfl|rfl|rfl
    ·exact absurd hw.1 (by decide)
    ·exact .inl rfl
    ·exact .inr (.inl rfl)
    ·exact .inr (.inr rfl)
   rcases this with rfl|rfl|rfl <;> decide
  obtain⟨f, l, f5, pm, es⟩ := hs 5 11 (Fb p C) (by decide) len.1 len.2
  refine⟨f, Tk hp g.nz pC pm f5, ?_⟩;refine T2 e1 rfl hw.1 hw.2 al sq (x := (Fb p C).map (AG Ac)) ?_ es;refine JB (Da p) fun x hx => ⟨?_, rfl⟩
  have e := hv p C x hp iC ((Eo hp).mp hx).1;generalize vI C x%p = v at *;generalize Br C = cC at *;generalize DV a b c = RR at *;generalize scr ns = S at *;generalize m / 7%4 = wy at *;generalize AG Ac x = xx at *;simp[cG, Kw, e];rw[Cy];simp
 ·have pC := h2 hw;have i0 : Ci (DV a b c) (.int 0) = .ok (A8 a) := rfl;have i1 : Ci (DV a b c) (.int 1) = .ok (A8 b) := rfl;obtain⟨l1, l2⟩ := Yr hp g.nz;have oa : ∀ x ∈ Da p, Γ.F 173 [.int p, AG Ac x, A8 a] = .ok (.bl (decide (Av a x%p = 0))) := fun x hx => ho p Ad x a hp ((Eo hp).mp hx).1 g.ia
  have ob : ∀ x ∈ Da p, Γ.F 173 [.int p, AG Ac x, A8 b] = .ok (.bl (decide (Av b x%p = 0))) := fun x hx => ho p Ad x b hp ((Eo hp).mp hx).1 g.ib
  have cp1 : Bh (cG Γ [si p, sh (DV a b c), sh (Br C), sh (scr ns), si (m / 7%4), Af, Af, Af, Af, Af, Af] 9 IH) (cF Γ [si p, sh (DV a b c), sh (Br C), sh (scr ns), si (m / 7%4), Af, Af, Af, Af, Af, Af] 9 Jv) ((Da p).map (AG Ac)) = .ok ((lnA p a b).map (AG Ac)) := by
   refine JB (Da p) fun x hx => ⟨?_, rfl⟩
   have ea := oa x hx;have eb := ob x hx;generalize decide (Av a x%p = 0) = da at *;generalize decide (Av b x%p = 0) = db at *;generalize DV a b c = RR at *;generalize Br C = cC at *;generalize scr ns = S at *;generalize m / 7%4 = wy at *;generalize AG Ac x = xx at *;cases da <;> simp[cG, IH, i0, i1, ea, eb]
  have cp2 : Bh (cG Γ [si p, sh (DV a b c), sh (Br C), sh (scr ns), si (m / 7%4), sh (.lst ((lnA p a b).map (AG Ac))), Af, Af, Af, Af, Af] 10 IG) (cF Γ [si p, sh (DV a b c), sh (Br C), sh (scr ns), si (m / 7%4), sh (.lst ((lnA p a b).map (AG Ac))), Af, Af, Af, Af, Af] 10 Ju) ((Da p).map (AG Ac)) = .ok ((lnA p b a).map (AG Ac)) := by
   refine JB (Da p) fun x hx => ⟨?_, rfl⟩
   have ea := oa x hx;have eb := ob x hx;generalize decide (Av a x%p = 0) = da at *;generalize decide (Av b x%p = 0) = db at *;generalize DV a b c = RR at *;generalize Br C = cC at *;generalize scr ns = S at *;generalize m / 7%4 = wy at *;generalize AG Ac x = xx at *;generalize Hb (AG Ac) (lnA p a b) = LA at *;cases db <;> simp[cG, IG, i0, i1, ea, eb]
  by_cases ev : m / 7%4%2 = 0
  ·obtain⟨f, l, f3, pm, s1⟩ := hs 3 11 (lnA p a b) (by decide) (by omega) (by omega)
   obtain⟨f', l', f2, pm', s2⟩ := hs 2 14 (lnA p b a) (by decide) (by omega) (by omega)
   obtain⟨f'', l'', f5, pm'', s3⟩ := hs 5 16 (f++[]++f') (by decide) (by simp;omega) (by simp;omega)
   have l0 : l'' = [] := by
    have := pm''.length_eq;simp only[Bp, D3]at this;exact Rb (by omega)
   rw[l0, B8]at pm'';refine⟨f'', Nx hp pC (IX pm (J3 hp)) (IX pm' (J3 hp)) (by simp) (by simp) (by simp;omega) (by omega) (by omega) (by simp;omega) pm'', ?_⟩
   refine TZ e1 rfl hw ev al sq cp1 cp2 s1 s2 (Lo f f' (by omega)) ?_
   rw[B8, show B4 (f++f') = .lst (f.map (AG Ac)++f'.map (AG Ac)) by unfold B4;rw[D4]]at s3
   exact s3
  ·obtain⟨f, l, f3, pm, s1⟩ := hs 2 11 (lnA p a b) (by decide) (by omega) (by omega)
   obtain⟨f', l', f2, pm', s2⟩ := hs 2 13 (lnA p b a) (by decide) (by omega) (by omega)
   have ec := hc p a b hp g.ia g.ib;obtain⟨lo, elo⟩ : ∃ l, AX p (tri (crs a b)) = Aa l := by
    cases q : AX p (tri (crs a b)) with
    |some l => exact⟨l, rfl⟩
    |none=>
     exfalso
     have z := Lf q;refine g.nz ?_;rw[<-Jj];refine z0' ((Gz z (⟨Cg.rfl, Cg.rfl, Cg.rfl⟩ : CgR p c c)).trans (Cg.of ?_));unfold Av;simp only[Cz, Int.add_zero]
   obtain⟨t, it, io, ll, po, eo⟩ := Lh hp elo;have ef := hf p Ad _ lo t hp elo it;rw[eo]at ef;generalize fmR p t (crs a b) = o at *;have ef' : Γ.F 158 [.int p, A8 (crs a b)] = .ok (AG Ac o) := ef;obtain⟨f'', l'', f5, pm'', s3⟩ := hs 5 16 (f++[o]++f') (by decide) (by simp;omega) (by simp;omega)
   have l0 : l'' = [] := by
    have := pm''.length_eq;simp only[Bp, BA, D3]at this;exact Rb (by omega)
   rw[l0, B8]at pm'';have oz : ∀ n : R3, Av n (crs a b) = 0 -> Av n o%p = 0 := fun n h => by
    obtain⟨d, dz, e⟩ := po;refine z0' ((Gz (⟨Cg.rfl, Cg.rfl, Cg.rfl⟩ : CgR p n n) e).trans (Cg.of ?_));have : Av n (Bx d (crs a b)) = d*Av n (crs a b) := by unfold Av Bx;simp only;grind
    rw[this, h, BY]
   refine⟨f'', Nx hp pC (IX pm (J3 hp)) (IX pm' (J3 hp)) (O := [o]) (by simp) (fun x hx => ?_) (by simp;omega) (by omega) (by omega) (by simp;omega) pm'', ?_⟩
   ·rw[BG]at hx;subst hx;exact⟨⟨io, ll⟩, oz a (by unfold Av crs;grind), oz b (by unfold Av crs;grind)⟩
   ·refine TY e1 rfl hw ev al sq cp1 cp2 i0 i1 ec ef' s1 s2 (Lo f [o] (by simp;omega)) ?_ ?_
    ·have q := Lo (f++[o]) f' (by simp;omega)
     rw[D4]at q;exact q
    ·rw[show B4 (f++[o]++f') = .lst (f.map (AG Ac)++[AG Ac o]++f'.map (AG Ac)) by unfold B4;rw[D4, D4];rfl]at s3
     exact s3
structure H61 (Γ : Gam) (ns : Ab Ae) : Prop where
 pr : Vb Γ 156 ns
 mi : GY Γ 155 ns
 tb : dN Γ 159 ns
 cv : dP Γ
 fi : Y9 Γ ns
 th : Pq Γ
theorem Wn(Γ : Gam)(s0 s1 s2 s3 s4 s5 s6 : Sl)(C : C6) : Bh (cG Γ [s0, s1, s2, s3, s4, s5, s6, Af] 7 M9) (cF Γ [s0, s1, s2, s3, s4, s5, s6, Af] 7 Na) (ds C.l) = .ok [.bl Ac, .bl Ac, .bl Ac, .bl Ac, .bl Ac, .bl Ac] := rfl
theorem bX(C : C6) : flD 5 (Br C) = Ac /\ eqD (Br C) (Br C) = Ac := by
 refine⟨rfl, ?_⟩;show (_==_&&(_==_&&(_==_&&(_==_&&(_==_&&(_==_&&Ac)))))) = Ac;simp
theorem JR(l : Ab R3) : flD 5 (B4 l) = Ac /\ eqD (B4 l) (B4 l) = Ac := by
 constructor
 ·show (l.map (AG Ac)).all (flD 4) = Ac;rw[Q5, Dc];exact fun _ _ => rfl
 ·show eqDs (l.map (AG Ac)) (l.map (AG Ac)) = Ac
  induction l with
  |nil => rfl
  |cons x l ih=>
   show (eqD (AG Ac x) (AG Ac x)&&eqDs _ _) = Ac;rw[ih, LR];simp
theorem PQ{m:Ae}{S R PP RV : D}{cd:D}(e1 : Γ.F 156 [S] = .ok (.int p))(e2 : Γ.F 155 [S, .int 10] = .ok (.int m))(e3 : Γ.F 159 [.int p, S, .int 1] = .ok R)(e4 : Γ.F 163 [.int p, R, .int 0] = .ok cd)(e5 : (p = 3 \/ 1<m / 7%4) -> Γ.F 163 [.int p, R, .int 2] = .ok (Br C))(e6 : ¬ (p = 3 \/ 1<m / 7%4) -> cd = Br C)(e7 : Γ.F 201 [.int p, R, Br C, S] = .ok PP)(li : biD .list [PP] = .ok PP)(rv : biD .rvs [PP] = .ok RV)(f1 : flD 5 PP = Ac)(f2 : eqD PP PP = Ac)(t1 : Γ.F 198 [.int p, PP] = .ok (Br C))(t2 : Γ.F 198 [.int p, RV] = .ok (Br C)) : HK.run Γ [S] = .ok (.bl Ac) := by
 have it : Fp Γ.up [.tuple] (Br C) = .ok (.bl Ac) := rfl;have sq : B5 (Br C) = .ok (ds C.l) := rfl;have ca := fun s0 s1 s2 s3 s4 s5 s6 => Wn Γ s0 s1 s2 s3 s4 s5 s6 C
 obtain⟨g1, g2⟩ := bX C;generalize ds C.l = dl at *;generalize Br C = cC at *;by_cases h3 : p = 3
 ·have e5' := e5 (.inl h3);subst h3;simp[HK, Df.run, Bt, e1, e2, e3, e4, e5', e7, li, rv, f1, f2, t1, t2, it, sq, ca, g1, g2, ER]
 ·by_cases hw : 1<m / 7%4
  ·have e5' := e5 (.inr hw);simp[HK, Df.run, Bt, e1, e2, e3, e4, h3, hw, e5', e7, li, rv, f1, f2, t1, t2, it, sq, ca, g1, g2, ER]
  ·have e6' := e6 (fun z => z.elim h3 hw)
   subst e6';simp[HK, Df.run, Bt, e1, e2, e3, e4, h3, hw, e7, li, rv, f1, f2, t1, t2, it, sq, ca, g1, g2, ER]
theorem Yo(h : H61 Γ ns) : HK.run Γ [scr ns] = .ok (.bl Ac) := by
 obtain⟨p, hp, e1⟩ := h.pr;obtain⟨m, m0, e2⟩ := h.mi 10 (by decide)
 obtain⟨a, b, c, g, e3⟩ := h.tb p hp;obtain⟨C0, iC0, lC0, pC0, e40⟩ := h.cv p a b c 0 g (.inl rfl);obtain⟨C2, iC2, lC2, pC2, e42⟩ := h.cv p a b c 2 g (.inr (.inr (.inl rfl)));have iff : (p = 3 \/ 1<m / 7%4) ↔ ¬ (3<p /\ m / 7%4<2) := by
  have : p = 3 \/ 3<p := by rcases hp with rfl|rfl|rfl|rfl <;> decide
  omega
 by_cases hw : p = 3 \/ 1<m / 7%4
 ·obtain⟨pts, F, e7⟩ := h.fi p m a b c C2 g iC2 e2 (fun z => absurd z (iff.mp hw)) (fun _ => pC2)
  have t1 := h.th p C2 pts hp iC2 lC2 F;have t2 := h.th p C2 pts.reverse hp iC2 lC2 (F.perm (Ry pts));have rv : biD .rvs [B4 pts] = .ok (B4 pts.reverse) := by
   show R.ok (D.lst (pts.map (AG Ac)).reverse) = _;rw[<-Rs];rfl
  exact PQ e1 e2 e3 e40 (fun _ => e42) (fun z => absurd hw z) e7 rfl rv (JR pts).1 (JR pts).2 t1 t2
 ·obtain⟨pts, F, e7⟩ := h.fi p m a b c C0 g iC0 e2 (fun _ => pC0) (fun z => absurd (iff.mpr z) hw)
  have t1 := h.th p C0 pts hp iC0 lC0 F;have t2 := h.th p C0 pts.reverse hp iC0 lC0 (F.perm (Ry pts));have rv : biD .rvs [B4 pts] = .ok (B4 pts.reverse) := by
   show R.ok (D.lst (pts.map (AG Ac)).reverse) = _;rw[<-Rs];rfl
  exact PQ e1 e2 e3 e40 (fun z => absurd z hw) (fun _ => rfl) e7 rfl rv (JR pts).1 (JR pts).2 t1 t2
end
noncomputable def eR : Ag -> Ab Ag := fun _ => []
noncomputable def eP : Ag -> Ab D -> R Ex := fun _ _ => .bad
noncomputable def Q61 : Prg := ⟨Ac, fun
 |1 => L7
 |9 => Jt
 |17 => JH
 |23 => K2
 |57 => L8
 |61 => K1
 |194 => Jz
 |122 => KG
 |126 => LK
 |195 => Jy
 |196 => Kn
 |197 => Jx
 |198 => Jr
 |155 => Hd
 |156 => Mv 155
 |157 => IL
 |158 => Kv
 |159 => Mp 155
 |160 => Kh
 |161 => KS
 |162 => KF
 |163 => HH
 |164 => Jw
 |173 => Ld
 |200 => IK
 |201 => F6
 |202 => HK
 | _ => ⟨0, Ad, .nil⟩, fun _ => .non, eR, eP⟩
theorem cT(ns : Ab Ae)(k : Ae)(h0 : 0 <= k) : ∃ m, ∀ Γ : Gam, Hd.run Γ [scr ns, .int k] = .ok (.int m) := by
 have m1 : C9 7919 k = Ac := GV (by decide) (by decide)
 have m2 : ∀ x, C9 x 48271 = Ac := fun x => JQ (by decide) (by decide)
 by_cases h1 : k<ns.length
 ·have g := Oy h0 h1;generalize ns.getD k.toNat 0 = x at g;refine⟨(x%1000003+7919*k+11)*48271%1000033, fun Γ => ?_⟩
  simp[Hd, Df.run, Bt, h1, g, m1, m2]
 ·refine⟨(0%1000003+7919*k+11)*48271%1000033, fun Γ => ?_⟩
  simp[Hd, Df.run, Bt, h1, m1, m2]
theorem cX(ns : Ab Ae)(hl : ns.length <= 63) : (gam Q61 7).F 202 [scr ns] = .ok (.bl Ac) := by
 have rs : ∀ n, Hi (gam Q61 (n+1)) := fun n p m hp => CM (XD _ p m hp)
 have mi : ∀ n, GY (gam Q61 (n+1)) 155 ns := fun n k hk => let ⟨m, m0, e⟩ := XF _ ns k hk;⟨m, m0, CM e⟩
 have tu : ∀ n, K3 (gam Q61 (n+2)) := fun n p m hp z => let ⟨t, t1, t2, t3, e⟩ := T4 (rs n) p m hp z;⟨t, t1, t2, t3, CM e⟩
 have fo : ∀ n, Lq (gam Q61 (n+3)) := fun n p b xs l t hp e it => CM (Vv (rs (n+1)) (tu n) hp e it)
 have me : ∀ n, OW (gam Q61 (n+2)) := fun n p q a b c hp ha hb hc => CM (Vu (rs n) p q a b c hp ha hb hc)
 have jo : ∀ n, O1 (gam Q61 (n+4)) := fun n p a b hp ia ib la lb ne => let ⟨y, h1, h2, h3, e⟩ := XJ (fun a b ha hb ne => CM (Vz _ a b ha hb ne)) (fo n) p a b hp ia ib la lb ne;⟨y, h1, h2, h3, CM e⟩
 have vb : ∀ n, Pp (gam Q61 (n+2)) := fun n p C x hp bC ix => CM (XA (rs n) p C x hp bC ix)
 have cf : ∀ n, O2 (gam Q61 (n+4)) := fun n p b xs l t hp e it => CM (XN (rs (n+2)) (fo n) hp e it)
 have lm : ∀ n, O0 (gam Q61 (n+1)) := fun n p a b hp ia ib => CM (XH _ p a b hp ia ib)
 have fc : ∀ n, OY (gam Q61 (n+5)) := fun n p C pts hp iC lC h => CM (Vy (jo n) (lm (n+3)) (vb (n+2)) (cf n) p C pts hp iC lC h)
 have ff : ∀ n, OX (gam Q61 (n+3)) := fun n p C pts hp h => CM (Vx (me n) p C pts hp h)
 have au : ∀ n, Om (gam Q61 (n+1)) := fun n p C pts h => CM (UH _ p C pts h)
 have th : ∀ n, Pq (gam Q61 (n+6)) := fun n p C pts hp iC lC h => CM (UF (au (n+4)) (ff (n+2)) (fc n) p C pts hp iC lC h)
 have f3 : ∀ n, Lr (gam Q61 (n+1)) := fun n p b xs l t hp e it => CM (Vw _ hp e it)
 have px : ∀ n, Ql (gam Q61 (n+1)) := fun n p k hp h0 h1 => CM (aJ _ p k hp h0 h1)
 have al : ∀ n, Qm (gam Q61 (n+2)) := fun n p hp => by
  have e := aM (px n) p hp;show Ey Ac (Jw.run (gam Q61 (n+1)) [.int p]) = _;rw[e];rfl
 have so : ∀ n, OZ (gam Q61 (n+2)) ns := fun n k at_ pts ha hn hz => let ⟨f, l, h1, h2, e⟩ := XC (mi n) k at_ pts ha hn hz;⟨f, l, h1, h2, by
  generalize B4 pts = PP at e ⊢;generalize (k : Ae) = K at e ⊢;generalize B4 f = FF at e ⊢;show Ey Ac (IK.run (gam Q61 (n+1)) [PP, .int K, scr ns, .int at_]) = _;rw[e];rfl⟩
 have h : H61 (gam Q61 6) ns := by
  refine⟨?_, mi 5, fun p hp => ?_, fun p a b c w g hw => ?_, fun p m a b c C g iC e1 h0 h2 => ?_, th 0⟩
  ·obtain⟨p, hp, e⟩ := UG (mi 4);exact⟨p, hp, CM e⟩
  ·obtain⟨a, b, c, g, e⟩ := aI hl (mi 4) p hp;exact⟨a, b, c, g, CM e⟩
  ·obtain⟨C, h1, h2, h3, e⟩ := aL (f3 4) (fun p a b hp ha hb => CM (XE _ p a b hp ha hb)) p a b c w g hw
   exact⟨C, h1, h2, h3, CM e⟩
  ·have e1' : (gam Q61 5).F 155 [scr ns, .int 10] = .ok (.int m) := by
    obtain⟨m', e'⟩ := cT ns 10 (by decide)
    have q : (gam Q61 6).F 155 [scr ns, .int 10] = .ok (.int m') := CM (e' _);rw[q]at e1;cases e1;exact CM (e' _)
   obtain⟨pts, F, e⟩ := XM (al 3) (fun p C x hp iC ix => CM (XG _ p C x hp iC ix)) (fun p q x y hp ix iy => CM (aK _ p q x y hp ix iy)) (so 3) (fun p a b hp ia ib => CM (XI _ p a b hp ia ib)) (f3 4) p m a b c C g iC e1' h0 h2
   exact⟨pts, F, CM e⟩
 exact CM (Yo h)
end OvC
namespace OvC
open PySem PySem.Spec PyProof.Rows Ov L2
variable{l:Ek}
noncomputable def tp61(i : Ag) : Bq := PySem.Challenge.pw_ovalfield_k61_five_points_as_built.main.body.getD i (.Pass ⟨0, 0, 0, 0⟩)
noncomputable def PZ : Ab (Aj × Ag × Ag) := ([("rest", 1, 2), ("turned_over", 9, 2), ("one_form", 17, 2), ("crossed", 23, 2), ("join", 57, 3), ("measure", 61, 4), ("ask_unlike", 194, 1), ("curve_of", 122, 2), ("value", 126, 3), ("first_four", 195, 2), ("lines_multiplied", 196, 2), ("five_curve", 197, 2), ("curve_through", 198, 2), ("_law_mixed", 155, 2), ("_law_prime", 156, 1), ("_law_point", 157, 2), ("_law_form", 158, 2), ("_law_table", 159, 3), ("_law_product", 160, 2), ("_law_cross", 161, 2), ("_law_value", 162, 3), ("_law_curve", 163, 3), ("_law_all", 164, 1), ("_law_on", 173, 3), ("_law_some", 200, 4), ("_law_five", 201, 4), ("law", 202, 1)] : Ab (Aj × Ag × Ag))
noncomputable def QN : Ab Aj := ["all", "any", "bool", "enumerate", "int", "isinstance", "len", "list", "min", "range", "sum", "tuple", "zip"]
noncomputable def PN : Ab (Aj × Ag) := []
noncomputable def P6 : Ab (Aj × Ag) := []
noncomputable def PU : Ab (Aj × Ag) := []
noncomputable abbrev C61(h : An)(ps N : Ab Aj)(i d : Ag) : An := FZ 80 h PZ QN PN P6 PU ps N (tp61 i) (Q61.defs d)
theorem Zr : C61 Ad ["p", "n"] ["p", "n"] 9 1 = Ac := by decide +kernel
theorem Zq : C61 Ad ["p", "n"] ["p", "n", "turned"] 10 9 = Ac := by decide +kernel
theorem Zp : C61 Ad ["p", "numbers"] ["p", "numbers", "rests", "first", "factor", "#5", "#6"] 12 17 = Ac := by decide +kernel
theorem Zo : C61 Ad ["one", "other"] ["one", "other"] 13 23 = Ac := by decide +kernel
theorem Zn : C61 Ad ["p", "one", "other"] ["p", "one", "other"] 15 57 = Ac := by decide +kernel
theorem Zm : C61 Ad ["p", "one", "other", "third"] ["p", "one", "other", "third"] 16 61 = Ac := by decide +kernel
theorem Zl : C61 Ad ["points"] ["points", "place", "point"] 17 194 = Ac := by decide +kernel
theorem Zk : C61 Ad ["p", "numbers"] ["p", "numbers", "rests", "#3"] 19 122 = Ac := by decide +kernel
theorem Zj : C61 Ad ["p", "curve", "point"] ["p", "curve", "point", "squares", "products"] 20 126 = Ac := by decide +kernel
theorem Zi : C61 Ad ["p", "points"] ["p", "points", "place", "four"] 22 195 = Ac := by decide +kernel
theorem We : C61 Ad ["one", "other"] ["one", "other"] 23 196 = Ac := by decide +kernel
theorem Wd : C61 Ad ["p", "points"] ["p", "points", "one", "other", "by_one", "by_other", "#6", "#7"] 24 197 = Ac := by decide +kernel
theorem Wc : C61 Ad ["p", "points"] ["p", "points", "four"] 25 198 = Ac := by decide +kernel
theorem Wb : C61 Ad ["_law_script", "_law_k"] ["_law_script", "_law_k", "_law_cell"] 27 155 = Ac := by decide +kernel
theorem Wa : C61 Ad ["_law_script"] ["_law_script"] 28 156 = Ac := by decide +kernel
theorem WC : C61 Ad ["_law_p", "_law_number"] ["_law_p", "_law_number", "_law_n"] 29 157 = Ac := by decide +kernel
theorem WB : C61 Ad ["_law_p", "_law_numbers"] ["_law_p", "_law_numbers", "_law_head", "_law_by", "#4", "#5", "#6"] 30 158 = Ac := by decide +kernel
theorem WA : C61 Ad ["_law_p", "_law_script", "_law_at"] ["_law_p", "_law_script", "_law_at", "_law_rows", "_law_k", "_law_cell", "_law_i", "_law_j", "_law_times", "#9", "#10", "#11"] 31 159 = Ac := by decide +kernel
theorem Wz : C61 Ad ["_law_one", "_law_other"] ["_law_one", "_law_other", "_law_numbers", "_law_i", "_law_j", "#5"] 32 160 = Ac := by decide +kernel
theorem Wy : C61 Ad ["_law_one", "_law_other"] ["_law_one", "_law_other", "_law_a", "_law_b", "_law_c", "_law_d", "_law_e", "_law_f"] 33 161 = Ac := by decide +kernel
theorem Wx : C61 Ad ["_law_p", "_law_curve_here", "_law_point_here"] ["_law_p", "_law_curve_here", "_law_point_here", "_law_x", "_law_y", "_law_z", "_law_some_here", "#7", "#8"] 34 162 = Ac := by decide +kernel
theorem Ww : C61 Ad ["_law_p", "_law_rows", "_law_way"] ["_law_p", "_law_rows", "_law_way", "_law_one", "_law_other", "_law_third", "_law_square", "_law_odd", "#8", "#9", "#10", "#11", "#12", "#13"] 35 163 = Ac := by decide +kernel
theorem Wv : C61 Ad ["_law_p"] ["_law_p", "#1"] 36 164 = Ac := by decide +kernel
theorem Wu : C61 Ad ["_law_p", "_law_point_here", "_law_line"] ["_law_p", "_law_point_here", "_law_line", "#3", "#4"] 37 173 = Ac := by decide +kernel
theorem Wt : C61 Ad ["_law_points", "_law_many", "_law_script", "_law_at"] ["_law_points", "_law_many", "_law_script", "_law_at", "_law_left", "_law_found", "_law_k"] 38 200 = Ac := by decide +kernel
theorem Ws : C61 Ad ["_law_p", "_law_rows", "_law_curve_here", "_law_script"] ["_law_p", "_law_rows", "_law_curve_here", "_law_script", "_law_way", "_law_one", "_law_other", "_law_both", "#8", "#9", "#10"] 39 201 = Ac := by decide +kernel
theorem OR : C61 Ad ["_law_script"] ["_law_script", "_law_p", "_law_rows", "_law_due", "_law_five_here", "_law_handed", "_law_found", "#7"] 40 202 = Ac := by decide +kernel
set_option maxHeartbeats 0 in
theorem all61{w:AU}{K:Fg}{h:AF}{mg:Aj -> Ap Ah}{fa f0 f1 f2 f3 f4 f5 f6 f7 f8 f9 f10 f11 f12 f13 f14 f15 f16 f17 f18 f19 f20 f21 f22 f23 f24 f25 f26:Ai}(X : K.In h)(G : h.Ns AT mg)(hfa : mg "law" = Aa (.ref fa))(a0 : FnI K f0 "rest" (tp61 9))(a1 : FnI K f1 "turned_over" (tp61 10))(a2 : FnI K f2 "one_form" (tp61 12))(a3 : FnI K f3 "crossed" (tp61 13))(a4 : FnI K f4 "join" (tp61 15))(a5 : FnI K f5 "measure" (tp61 16))(a6 : FnI K f6 "ask_unlike" (tp61 17))(a7 : FnI K f7 "curve_of" (tp61 19))(a8 : FnI K f8 "value" (tp61 20))(a9 : FnI K f9 "first_four" (tp61 22))(a10 : FnI K f10 "lines_multiplied" (tp61 23))(a11 : FnI K f11 "five_curve" (tp61 24))(a12 : FnI K f12 "curve_through" (tp61 25))(a13 : FnI K f13 "_law_mixed" (tp61 27))(a14 : FnI K f14 "_law_prime" (tp61 28))(a15 : FnI K f15 "_law_point" (tp61 29))(a16 : FnI K f16 "_law_form" (tp61 30))(a17 : FnI K f17 "_law_table" (tp61 31))(a18 : FnI K f18 "_law_product" (tp61 32))(a19 : FnI K f19 "_law_cross" (tp61 33))(a20 : FnI K f20 "_law_value" (tp61 34))(a21 : FnI K f21 "_law_curve" (tp61 35))(a22 : FnI K f22 "_law_all" (tp61 36))(a23 : FnI K f23 "_law_on" (tp61 37))(a24 : FnI K f24 "_law_some" (tp61 38))(a25 : FnI K f25 "_law_five" (tp61 39))(a26 : FnI K f26 "law" (tp61 40))(z0 : BK K AT "all" = Aa Af)(z1 : BK K AT "any" = Aa Af)(z2 : BK K AT "bool" = Aa Af)(z3 : BK K AT "enumerate" = Aa Af)(z4 : BK K AT "int" = Aa Af)(z5 : BK K AT "isinstance" = Aa Af)(z6 : BK K AT "len" = Aa Af)(z7 : BK K AT "list" = Aa Af)(z8 : BK K AT "min" = Aa Af)(z9 : BK K AT "range" = Aa Af)(z10 : BK K AT "sum" = Aa Af)(z11 : BK K AT "tuple" = Aa Af)(z12 : BK K AT "zip" = Aa Af):
    ∃ fd : BV, (∀(s : Ak)(v : Ah), FA s fd ⟨[v], []⟩ [("_law_script", v)]) /\ ∀ base : AF, K.In base -> base.Ns AT mg -> FnOk l.prog w K mg base (CXR l.prog w) 7 fa fd ["_law_script"] (Jb K) := by
  obtain⟨_, F, e⟩ := a26;obtain⟨_, _, _, _, _, _, _, _, _, rfl, _, _⟩ := F.ex;cases hfa.symm.trans (GJ X G e);have T : Tab K mg (fun _ => Af) PZ QN PN P6 PU Q61 80 := ⟨UQ fun _ _ => rfl, all_cons (Bj X G z0) (all_cons (Bj X G z1) (all_cons (Bj X G z2) (all_cons (Bj X G z3) (all_cons (Bj X G z4) (all_cons (Bj X G z5) (all_cons (Bj X G z6) (all_cons (Bj X G z7) (all_cons (Bj X G z8) (all_cons (Bj X G z9) (all_cons (Bj X G z10) (all_cons (Bj X G z11) (all_cons (Bj X G z12) (Ln))))))))))))), Ln, all_cons (ET 2 1 X G a0 rfl Zr fun _ _ _ _ _ _ _ _ => rfl) (all_cons (ET 2 9 X G a1 rfl Zq fun _ _ _ _ _ _ _ _ => rfl) (all_cons (ET 2 17 X G a2 rfl Zp fun _ _ _ _ _ _ _ _ => rfl) (all_cons (ET 2 23 X G a3 rfl Zo fun _ _ _ _ _ _ _ _ => rfl) (all_cons (Im 3 57 X G a4 rfl Zn fun _ _ _ _ _ _ _ _ _ => rfl) (all_cons (Mw 4 61 X G a5 rfl Zm fun _ _ _ _ _ _ _ _ _ _ => rfl) (all_cons (J8 1 194 X G a6 rfl Zl fun _ _ _ _ _ _ _ => rfl) (all_cons (ET 2 122 X G a7 rfl Zk fun _ _ _ _ _ _ _ _ => rfl) (all_cons (Im 3 126 X G a8 rfl Zj fun _ _ _ _ _ _ _ _ _ => rfl) (all_cons (ET 2 195 X G a9 rfl Zi fun _ _ _ _ _ _ _ _ => rfl) (all_cons (ET 2 196 X G a10 rfl We fun _ _ _ _ _ _ _ _ => rfl) (all_cons (ET 2 197 X G a11 rfl Wd fun _ _ _ _ _ _ _ _ => rfl) (all_cons (ET 2 198 X G a12 rfl Wc fun _ _ _ _ _ _ _ _ => rfl) (all_cons (ET 2 155 X G a13 rfl Wb fun _ _ _ _ _ _ _ _ => rfl) (all_cons (J8 1 156 X G a14 rfl Wa fun _ _ _ _ _ _ _ => rfl) (all_cons (ET 2 157 X G a15 rfl WC fun _ _ _ _ _ _ _ _ => rfl) (all_cons (ET 2 158 X G a16 rfl WB fun _ _ _ _ _ _ _ _ => rfl) (all_cons (Im 3 159 X G a17 rfl WA fun _ _ _ _ _ _ _ _ _ => rfl) (all_cons (ET 2 160 X G a18 rfl Wz fun _ _ _ _ _ _ _ _ => rfl) (all_cons (ET 2 161 X G a19 rfl Wy fun _ _ _ _ _ _ _ _ => rfl) (all_cons (Im 3 162 X G a20 rfl Wx fun _ _ _ _ _ _ _ _ _ => rfl) (all_cons (Im 3 163 X G a21 rfl Ww fun _ _ _ _ _ _ _ _ _ => rfl) (all_cons (J8 1 164 X G a22 rfl Wv fun _ _ _ _ _ _ _ => rfl) (all_cons (Im 3 173 X G a23 rfl Wu fun _ _ _ _ _ _ _ _ _ => rfl) (all_cons (Mw 4 200 X G a24 rfl Wt fun _ _ _ _ _ _ _ _ _ _ => rfl) (all_cons (Mw 4 201 X G a25 rfl Ws fun _ _ _ _ _ _ _ _ _ _ => rfl) (all_cons (J8 1 202 X G ⟨_, F, e⟩ rfl OR fun _ _ _ _ _ _ _ => rfl) (Ln)))))))))))))))))))))))))))⟩
  exact⟨_, fun s v => .of_eq rfl, fun base _ _ => WQ (Pk T (LQ T 6) F rfl OR) cX⟩
theorem walk61{q:AM}{loose:Ab Aj}{XP:(Aj -> Ap Ah) -> AF -> Prop}{YP:AU -> AF -> Prop}{d:DefRec}{K:IB -> Fg}(hn : l.most = Aa 63)(hdf : d.params.defaults = [])(hY : ∀(w : AU)(h : AF), YP w h -> (K w.params).In h)(F : ∀(w : AU)(mg : Aj -> Ap Ah)(fa : Ai)(h : AF), (K w.params).In h -> h.Ns AT mg -> mg d.name = Aa (.ref fa) ->
   ∃ fd : BV, (∀(s : Ak)(u : Ah), FA s fd ⟨[u], []⟩ [("_law_script", u)]) /\ ∀ base : AF, (K w.params).In base -> base.Ns AT mg -> FnOk l.prog w (K w.params) mg base (CXR l.prog w) 7 fa fd ["_law_script"] (Jb (K w.params))):Sr q loose XP YP l.row.toRowW d [] (fun f vs =>Hy f vs):=
 L2.walk_of (n := 63) (k := 7) (x := "_law_script") (CX := fun w => CXR l.prog w) (sp := fun w => Jb (K w.params)) hn (by decide) hdf ⟨rfl, by decide, by decide⟩ hY F (fun _ H a ns hl _ hS => ⟨a, ns, rfl, hl, hS, fun _ _ z => z⟩) fun _ _ _ _ _ z => Zd z
end OvC
open PySem PySem.W PyProof.Rows
noncomputable def OvC.view61 : PySem.Program := { PySem.Challenge.pw_ovalfield_k61_five_points_as_built with main := {PySem.Challenge.pw_ovalfield_k61_five_points_as_built.main with body := [OvC.tp61 1, OvC.tp61 2, OvC.tp61 3, OvC.tp61 4, OvC.tp61 5, OvC.tp61 6, OvC.tp61 7, OvC.tp61 9, OvC.tp61 10, OvC.tp61 12, OvC.tp61 13, OvC.tp61 15, OvC.tp61 16, OvC.tp61 17, OvC.tp61 19, OvC.tp61 20, OvC.tp61 22, OvC.tp61 23, OvC.tp61 24, OvC.tp61 25, OvC.tp61 27, OvC.tp61 28, OvC.tp61 29, OvC.tp61 30, OvC.tp61 31, OvC.tp61 32, OvC.tp61 33, OvC.tp61 34, OvC.tp61 35, OvC.tp61 36, OvC.tp61 37, OvC.tp61 38, OvC.tp61 39, OvC.tp61 40]} }
set_option hygiene false
local macro_rules | `(tactic| o_head $H) => `(tactic| refine holds_open (q := OvC.view61) (loose := []) (Xt := fun s => xlAt OvC.view61 [] s&&recOk (RowW.records (OpenRow.toRowW (PySem.Challenge.rw_ovalfield_k61_five_points_as_built.row))) s) (XP := XL OvC.view61 []) (Yf := Hook.obs $H) (Ya := Hook.val $H) (YP := Hook.says $H) (N := 4878) ?hl (Hook.of $H) (Hook.keeps $H) (fun s e => xl_of s (Bool.and_eq_true_iff.mp e).1) XL.keeps (by rfl) (by rfl) (by rfl) (fun s e => recFacts_of (Bool.and_eq_true_iff.mp e).2) (by rfl) (by first|assumption|decide +kernel) (by decide +kernel) ⟨rfl, rfl, rfl, rfl, rfl, by decide +kernel⟩ ?hw ?hc)
set_option maxRecDepth 100000 in
set_option maxHeartbeats 0 in
theorem PySem.Challenge.cw_ovalfield_k61_five_points_as_built_holds : PySem.Challenge.rw_ovalfield_k61_five_points_as_built.Holds := by
 w_on;refine holds_law (by decide +kernel) fun said => ?_;k_head
 (case hl => intro w;unfold openEnds fencedOpening topFrom;rw[PySem.W.Fast.te10274390034422433532, PySem.W.Fast.te14364793385576792824, PySem.W.Fast.te1435165496053646825, PySem.W.Fast.te14289696077712309145, PySem.W.Fast.te14082659384304107361, PySem.W.Fast.te4187177175401517315];kernel_rfl)
 (case hw => w_witness2)
 k_fill
 refine OvC.walk61 (l := PySem.Challenge.rw_ovalfield_k61_five_points_as_built) rfl rfl (fun w h Y => Sw Y) ?F
 case F=>
  intro w mg fa h KX G hmg
  refine' OvC.all61 KX G hmg ?a0 ?a1 ?a2 ?a3 ?a4 ?a5 ?a6 ?a7 ?a8 ?a9 ?a10 ?a11 ?a12 ?a13 ?a14 ?a15 ?a16 ?a17 ?a18 ?a19 ?a20 ?a21 ?a22 ?a23 ?a24 ?a25 ?a26 ?z0 ?z1 ?z2 ?z3 ?z4 ?z5 ?z6 ?z7 ?z8 ?z9 ?z10 ?z11 ?z12
  case a0|a1|a2|a3|a4|a5|a6|a7|a8|a9|a10|a11|a12|a13|a14|a15|a16|a17|a18|a19|a20|a21|a22|a23|a24|a25|a26 => (refine' Ov.fni ?a ?l ?c ?k;(case a => k_is);(case l => k_is);(case c => k_is);(case k => k_is))
  (case z0 => k_is)
  (case z1 => k_is)
  (case z2 => k_is)
  (case z3 => k_is)
  (case z4 => k_is)
  (case z5 => k_is)
  (case z6 => k_is)
  (case z7 => k_is)
  (case z8 => k_is)
  (case z9 => k_is)
  (case z10 => k_is)
  (case z11 => k_is)
  (case z12 => k_is)
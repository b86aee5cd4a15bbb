import PyProof.Rows.All
import Wide.All
import OpenK.AllK
import Wide.FinOn
import PyProof.EqAt
import KE.KSortTup
import PyProof.EqKinds
import PyProof.TupleCall
import Lean
import PySem.Challenge.RW_ovalfield_k11_joins_and_meets
set_option Elab.async false
set_option linter.all false
set_option maxRecDepth 100000
set_option maxHeartbeats 4000000
open Option renaming some→Aa,none→Af,isSome_iff_exists→DB,map_some→Fx,bind_some→PN,getD_none→PQ
open Bool renaming true→Ab,false→Ad,and_eq_true→Ak,false_ne_true→Aq,not_eq_true'→A4,or_eq_true→BR,eq_iff_iff→CV,and_false→FM,or_true→Gc,and_true→Pc
open _root_ renaming List→Ac,Nat→Ae,Int→Ag,Option→Am,Bool→An,if_pos→AB,if_neg→AE,False→AH,decide_eq_true_eq→AK,beq_iff_eq→AM,Array→A5,decide_eq_false→B4,String→Cv,if_true→De,beq_eq_false_iff_ne→Ds,Decidable→Dz,Unit→EF,bne_iff_ne→E8,beq_self_eq_true→Fv,True→FF,decide_eq_true→FU,ne_eq→HH,if_false→IE,not_or→IF,of_decide_eq_true→Yr
open PySem renaming Value→Ah,Addr→Ai,Str→Aj,Shared→Al,Expr→Ao,wpAny_bind→Ap,starEach→Ar,wpAny→Au,Heap→Ax,Obj→AC,Program→AD,Pos→AJ,Around→AN,World→AO,mainGlobals→AR,wpAny_pure→AS,wpAny_mono→AV,Stmt→A2,FuncData→Bi,wpAny_loadPart_at→Bm,cLine→Bo,binaryOp→Bp,excClassObj→Bx,backTo→By,Scope→Bz,Env→BB,compareOp→BN,wpAny_truthy_bool→BO,mem_of_lookup→BP,cellsFrom→BY,Tok→B1,foldedSetIterable→B2,bootBuiltins→B7,assignEach→Cj,swapsWith→Co,sizeLine_eq→Ct,wpAny_holding→CC,wpAny_newObj_type→CF,codeAny_call_builtin→CH,OwnTail→CK,NameKind→CO,wpAny_standAt→CU,CmpOp→CZ,wpAny_Call_Name_kw→C2,wpAny_newFunctionEnv_cells→Dl,sliceBounds→Dm,wpAny_field→Do,wpAny_isSubtype_exc→Dp,wpAny_execs_nil→Dx,wpAny_passesOwn→Dy,GenState→DD,PassesOwn→DE,codeAny_mono→DF,codeAny→DM,checkBuiltinCall→D5,BindsTo→Ee,codeAny_call_function→Eg,letOwnedTupleGo→Er,wpAny_call→Et,recursionLimit→EE,Model→EO,noteFrame→EU,pushCells→EV,rawInt→EW,behindInMarks→EZ,OsState→E9,callerA→Fa,ExcBaseFacts→Fh,IsPart→Fj,Operator→Fk,Paired→Fl,wpAny_execs_cons→Fm,Drawn→FA,pushCells_keeps→FC,setFlight→FD,isTrue→FQ,newFunctionEnv→FR,notedBy→FS,wpAny_setField→FT,bindC→FV,bindL→FW,builtinsNs→FX,isInstance→FY,swapsWithSole→Gb,Result→Gj,codeAny_func→Gn,concat_meets→Go,lastMarks→Gp,onTheHeap→Gq,seqIndex_neg→Gr,getItem→GI,standAt→GJ,seqIndex_of→GK,bindArgs→GL,PyData→G0,StoreFacts→G2,call→G4,sysModules→G5,wpAny_Name→G6,Arguments→HC,IntMulOk→HJ,Params→HK,noFill_tuple_add→Qw,refuseLoop_ref→Qx,slot_list_getitem→Qy,wpAny_assign_Name→Qz,wpAny_comprehension_free→QA,wpAny_pyIter_list→QB
open PySem.Heap renaming get?_push_of_some→As,lt_size→AA,get?_push_size→Be,get?_update_other→BM,get?_update_self→Cd,get?_none_of_le→Ci,size_push→DL,SameBut→Fi,MadeExcOf→FO,get?_push_at→Qc,get?_update_ne→Qd
open PySem.W renaming findIn→At,subIn→AF,nsIn→A6,mroIn→Bk,keepIn→Bs,mg_none_of→BG,looks_findIn→BH,mg_of→BK,fnOf→BX,typeIn→B0,kitOne→Ce,clsIn→Cn,specialIn→C8,codeIn→Da,findCls→Dv,readsIn→Dw,OpenLaw→D1,cellsFrom_some→D2,callWith_K→ES,codeRec_of→ET,excIn→EY,methodObj→E6,kitAny→FP,WalkO→Qp,isNs_of_in→Qq,kIn_of→Qr,kitMeta→Qs,looks_subIn→Qt,nsOkIn→Qu,tail_of_in→Qv
open Nat renaming lt_of_lt_of_le→Ay,le_refl→AL,lt_irrefl→A9,ne_of_lt→Bl,le_trans→BJ,ble→CT,le_of_ble_eq_true→Ed,le_of_lt→El,pow_le_pow_right→Em,zero_le→EN,lt_succ_of_lt→E5,mod_eq_of_lt→Ff,le_succ→PD,lt_of_le_of_lt→PF,lt_succ_self→PH,min_self→PJ,ne_of_gt→PK,not_lt→PM
open List renaming mem_cons_of_mem→Az,size_toArray→AG,mem_cons_self→AI,length_set→AU,mem_cons→AY,getElem?_eq_some_iff→AZ,mem_append_right→A3,mem_singleton→Bu,lookup_cons→Bw,append_nil→BD,isEmpty_eq_false_iff→BU,getElem?_eq_getElem→BV,length_cons→BW,getElem?_set_self→B6,range→Ca,map_cons→Cm,mem_range→Cp,length_append→Cu,getD_eq_getElem?_getD→CA,all_eq_true→CM,length_map→CY,any_eq_true→Dh,getElem?_append_left→Dt,toArray→DA,getElem?_set_self'→DN,getElem?_map→DO,lookup→D0,all_cons→D3,getElem?_set_ne→Eh,mem_append_left→Ei,nodup_cons→Ej,of_mem_zip→Ek,filterMap_cons→EB,getElem_of_mem→EC,replicate→ED,contains_cons→EQ,getElem_mem→Fd,length_take→Fe,mem_append→Fw,mem_map→Gg,all_map→Pj,any_cons→Pk,contains_eq_mem→Pn,drop_eq_getElem_cons→Po,drop_eq_nil_of_le→Pp,forIn_nil→Pq,getElem?_append_right→Ps,getElem?_replicate→Pt,isEmpty_iff→Pu,length_drop→Pv,length_replicate→Pw,map_nil→Px,mem_of_getElem?→Py,not_mem_nil→Pz,reverse_cons→PB,set_set→PC
open Int renaming emod_eq_of_lt→AQ,emod_emod_of_dvd→Bh,zero_emod→Br,emod_lt_of_pos→Bt,mul_emod→BA,emod_nonneg→BS,mul_comm→B5,one_mul→Cf,dvd_refl→Ch,mul_one→C3,mul_assoc→EX,mul_pos→FE,mul_zero→Gd,sub_zero→Ge,zero_add→Gf,add_emod→Pe,le_refl→Pf,ne_of_gt→Ph,sub_emod→Pi
open False renaming elim→AT
open PySem.NameKind renaming cell→Bf,free→CB
open Option.some renaming inj→Bv,injEq→Ck
open PySem.Value renaming ref→BF,builtin→Cb,none→Cr,bool→G3,int→HF,str→HG,bytes→Qk,float→Ql,type→Qm
open PySem.PyData renaming shownAll→Cz,depthAll→FB,hasDictAll→Qg,showableAll→Qh
open PySem.Builtin.Slice renaming slicePlaces→CG,sliceAdjust→Du,sliceApplied→P2
open Ne renaming symm→CJ
open PySem.Builtin.Tuple renaming tupleExact→CN
open PySem.Str renaming ofString→CP,empty→Gm
open ForInStep renaming yield→CW
open PySem.Obj renaming data_mapFields→C1,mapFields→D4,isFreed_of_fields→Ef,mapSeq→E7
open PyProof.Rows renaming envOfC→C9,callWith_type1→Dg,AllBare→DK,boot_isinstance→En,IntsAre→FN,IsTup→GZ,boot_int→PR,boot_list→PU,boot_tuple→PV,slicePart_none→PX,slot_tuple_getitem→PY,subscriptTail_builtinR→PZ
open PySem.F renaming excBase_ValueError→Dk,attr_ValueError→DP,args_tuple_add_2→P7,entry_bexc_ga→P8,entry_tuple_add→P9,slot_tuple_add→Qa,typeOf_object_class→Qb
open Prod renaming ext→DC
open Classical renaming choose_spec→Ec
open PySem.Calls renaming evalArgs_plain→Eo,Name_function_global→P3
open PySem.SeqAt renaming EqAt→Ep,RcNeAt→Gk,RcAt→G1
open Array renaming length_toList→EA,toList→Pb
open PySem.Code renaming quiet_builtin→ER,isFrame→Gi,frames→P5
open Sum renaming inl→Fb,inr→Fc
open PySem.Value.ref renaming inj→Ga
open PySem.Around renaming under→Gh
open NeZero renaming ne→HA
open PyProof.Rows.IsTup renaming new→HB
open PySem.Data renaming cell→HE,seq→HI
open Function renaming comp_def→Pd
open List.cons renaming injEq→Pl
open PySem.Builtin.Int renaming intBits→P0
open PySem.Builtin.ObjectAttr renaming storeInDict→P1
open PySem.EntryCells renaming newEntry→P6
open PySem.Paired renaming length→Qe
open PySem.PassesOwn renaming leaving→Qf
open PySem.SeqAt.EqAt renaming of_refs→Qi,same→Qj
open PySem.W.WData renaming int→Qn
open PySem.W.WShape renaming has→Qo
abbrev Fg:=PySem.W.Frag
set_option genSizeOfSpec false
-- CHANGE: your row's module here, as the last of these rows
namespace L2
open PySem PySem.Spec PyProof.Rows
noncomputable abbrev Key := Sum Ag Aj
noncomputable def On : Key -> Ah -> An
 |.inl k, v => Value.isInt k v
 |.inr x, v => Value.isStrOf x v
noncomputable def Ye(w : AO) : Key -> Ag
 |.inl k => hashInt k
 |.inr x => hashStr w x
theorem F0 : ∀{k : Key}{v : Ah}, On k v = Ab -> (∃ i t, k = Fb i /\ v = HF i t) \/ (∃ x t, k = Fc x /\ v = HG x t)
 |.inl i, v, h => by
  obtain⟨t, e⟩ := Value.isInt_shape (k := i) (v := v) h;exact .inl ⟨i, t, rfl, e⟩
 |.inr x, v, h => by
  obtain⟨t, e⟩ := Value.isStrOf_shape (x := x) (v := v) h;exact .inr ⟨x, t, rfl, e⟩
theorem Vr(a b : Ag) : decide ((Fb a : Key) = Fb b) = (a==b) := by
 by_cases e : a = b
 ·subst e;simp
 ·have h : ¬ (Fb a : Key) = Fb b := fun q => e (Sum.inl.inj q)
  rw[B4 h];exact(Ds.mpr e).symm
theorem Vo(a b : Aj) : decide ((Fc a : Key) = Fc b) = decide (a = b) := by
 by_cases e : a = b
 ·subst e;simp
 ·have h : ¬ (Fc a : Key) = Fc b := fun q => e (Sum.inr.inj q)
  rw[B4 h, B4 e]
theorem Vq(a : Ag)(b : Aj) : decide ((Fb a : Key) = Fc b) = Ad := B4 (fun q => nomatch q)
theorem Vp(a : Aj)(b : Ag) : decide ((Fc a : Key) = Fb b) = Ad := B4 (fun q => nomatch q)
noncomputable def Kh(prog : AD)(w : AO) : PySem.KeyKind prog w Key where
 is := On
 hash := Ye w
 inj := fun v a b ha hb => by
  rcases F0 ha with ⟨i, t, rfl, rfl⟩|⟨x, t, rfl, rfl⟩
  ·rcases F0 hb with ⟨j, u, rfl, e⟩|⟨y, u, rfl, e⟩
   ·injection e with e1 _;rw[e1]
   ·exact nomatch e
  ·rcases F0 hb with ⟨j, u, rfl, e⟩|⟨y, u, rfl, e⟩
   ·exact nomatch e
   ·injection e with e1 _;rw[e1]
 byValue := fun k v h => by
  rcases F0 h with ⟨i, t, rfl, rfl⟩|⟨x, t, rfl, rfl⟩ <;> rfl
 pyHash := fun hv h => by
  rcases F0 hv with ⟨i, t, rfl, rfl⟩|⟨x, t, rfl, rfl⟩
  ·exact wpAny_pyHash_int h
  ·exact wpAny_pyHash_str h
 eqBool := fun hu hv h => by
  rcases F0 hu with ⟨i, t, rfl, rfl⟩|⟨x, t, rfl, rfl⟩
  ·rcases F0 hv with ⟨j, u, rfl, rfl⟩|⟨y, u, rfl, rfl⟩
   ·rw[Vr]at h;exact wpAny_eqBool_int h
   ·rw[Vq]at h;exact SeqAt.EqAt.int_str i t y u _ _ _ _ h
  ·rcases F0 hv with ⟨j, u, rfl, rfl⟩|⟨y, u, rfl, rfl⟩
   ·rw[Vp]at h;exact SeqAt.EqAt.str_int x t j u _ _ _ _ h
   ·rw[Vo]at h;exact wpAny_eqBool_str h
 «strs» := fun k x t v h => by
  rcases F0 h with ⟨i, u, rfl, e⟩|⟨y, u, rfl, e⟩
  ·exact nomatch e
  ·injection e with e1 _
   subst e1;cases v <;> rfl
end L2
namespace L2
open PySem PySem.Spec PyProof.Rows
variable{us:Ac Ah}{a b it:Ai}{P:AD}{h:Ax}{o:AC}{g':A5 DD}{t' i j k n:Ae}{d':FA}{ch fp:Ac Ai}{x qual:Aj}{M:EO}{u:Ah}{e tg:Ao}{s:Al}{pos:AJ}{pI:Ac (Ai × AC)}{Q:Ah -> Al -> Prop}{es:Ac Ao}{body:Ac A2}{f:Ah -> Ah -> Sem Ah}{g:Ag -> Ag -> Ag}{op op':CZ}{kw:Ac (Aj × Ah)}{fd:Bi}{ps:Ac Aj}{scope:Bz}
inductive V where
 |non|bl (b : An)|int (i : Ag)|str (x : Aj)|byt (b : A5 UInt8)|flt (b : UInt64)|ref (a : Ai)|ty (n : Cv)
 deriving DecidableEq
variable{xs vs:Ac V}{v y:V}
def A7 : V -> Ah -> Prop
 |.non, u => u = Cr
 |.bl b, u => u = G3 b
 |.int i, u => ∃ t, u = HF i t
 |.str x, u => ∃ t, u = HG x t
 |.byt b, u => ∃ t, u = Qk b t
 |.flt b, u => ∃ t, u = Ql b t
 |.ref a, u => u = BF a
 |.ty n, u => u = Qm n
noncomputable abbrev AW : Ac V -> Ac Ah -> Prop := Fl A7
theorem AW.length(r : AW xs us) : xs.length = us.length := Qe r
theorem AW.get : ∀{xs : Ac V}{us : Ac Ah}{i : Ae}{x : V}, AW xs us -> xs[i]? = Aa x -> ∃ u, us[i]? = Aa u /\ A7 x u
 |_, _, _, _, .nil, e => by simp at e
 |_, _, 0, _, .cons r _, e => by simp at e;subst e;exact⟨_, rfl, r⟩
 |_, _, i+1, x, .cons _ t, e => by
  obtain⟨u, h1, h2⟩ := AW.get (i := i) (x := x) t (by simpa using e)
  exact⟨u, by simpa using h1, h2⟩
theorem AW.set{x : V}{u : Ah}(r : A7 x u) : ∀{xs : Ac V}{us : Ac Ah}(i : Ae), AW xs us -> AW (xs.set i x) (us.set i u)
 |_, _, _, .nil => .nil
 |_, _, 0, .cons _ t => .cons r t
 |_, _, i+1, .cons q t => .cons q (AW.set r i t)
theorem AW.append : ∀{xs ys : Ac V}{us ws : Ac Ah}, AW xs us -> AW ys ws -> AW (xs++ys) (us++ws)
 |_, _, _, _, .nil, s => s
 |_, _, _, _, .cons r t, s => .cons r (AW.append t s)
theorem AW.take : ∀{xs : Ac V}{us : Ac Ah}(n : Ae), AW xs us -> AW (xs.take n) (us.take n)
 |_, _, 0, _ => .nil
 |_, _, _+1, .nil => .nil
 |_, _, n+1, .cons r t => .cons r (AW.take n t)
theorem AW.drop : ∀{xs : Ac V}{us : Ac Ah}(n : Ae), AW xs us -> AW (xs.drop n) (us.drop n)
 |_, _, 0, r => r
 |_, _, _+1, .nil => .nil
 |_, _, n+1, .cons _ t => AW.drop n t
def Iz : Am V -> Am Ah -> Prop
 |some v, Aa u => A7 v u
 |none, Af => FF
 |_, _ => AH
noncomputable def KV{κ : Type} : Ac (κ × V) -> Ac (κ × Ah) -> Prop := Fl fun(p : κ × V)(q : κ × Ah) => p.1 = q.1 /\ A7 p.2 q.2
noncomputable def kV : Key -> V
 |.inl i => .int i
 |.inr x => .str x
inductive HO where
 /-- a list -/
 |lst (xs : Ac V)
 /-- a tuple (never changes) -/
 |tup (xs : Ac V)
 /-- a dict whose keys are ints and texts;one whose keys are tuples of ints and texts (the empty one is both) -/
 |dK (kvs : Ac (Key × V))|dT (kvs : Ac (Ac Key × V))
 /-- a set of ints: its members, its size -/
 |set (S : Ag -> An) (n : Ae)
 /-- an instance of the class at C, its dict at dx, its attributes -/
 |ins (C dx : Ai) (fs : Ac (Aj × V))
 /-- the dict of the instance at x -/
 |own (x : Ai)
 /-- the dict of an exception -/
 |xd (fs : Ac (Aj × V))
 /-- a bound method, f of x -/
 |met (f x : Ai)
 /-- a range object lo, lo+1, .. below hi -/
 |rng (lo hi : Ag)
 /-- a thing that is known to the object (the script;a dict while a loop walks it): read, never written while it is so -/
 |frz (o : AC) (u : HO)
 /-- a code object's table -/
 |tbl (ps : A5 Ah)
 /-- any other thing, by what is Ab of its one object (a def of one's own: SetO a S n := HO.ext fun h => ..) -/
 |ext (φ : Ax -> Prop)
noncomputable abbrev Hp := Ai -> Am HO
variable{H:Hp}
noncomputable def upd(H : Hp)(a : Ai)(o : HO) : Hp := fun b => if b = a then Aa o else H b
theorem DH{o:HO} : upd H a o a = Aa o := by unfold upd;rw[AB rfl]
theorem A8{o:HO}(h : b ≠ a) : upd H a o b = H b := by unfold upd;rw[AE h]
theorem MN{o u:HO} : upd (upd H a o) a u = upd H a u := by
 funext b;unfold upd;split <;> rfl
theorem DQ{o:HO}(h : H a = Aa o)(h' : H b = Af) : a ≠ b := by
 intro e;subst e;rw[h]at h';cases h'
section
variable(P : AD)(w : AO)
def ObjOk(H : Hp)(h : Ax)(a : Ai) : HO -> Prop
  |.lst xs => xs.length <= sizeLine /\ ∃(its : Ac Ah)(n : Ae), AW xs its /\ h.get? a = Aa { cls := .type "list", data := .seq its.toArray n }
  |.tup xs => xs.length <= sizeLine /\ ∃ its : Ac Ah, AW xs its /\ GZ h a its.toArray
  |.dK kvs => kvs.length <= sizeLine /\ (a==G5) = Ad /\ ∃ vs, KV kvs vs /\ h.DictOf (Kh P w) a vs
  |.dT kvs => kvs.length <= sizeLine /\ (a==G5) = Ad /\ ∃ xs : Ac (Ac Key × Ai × Ah),
      Fl (fun(p : Ac Key × V)(q : Ac Key × Ai × Ah) => p.1 = q.1 /\ H q.2.1 = Aa (.tup (p.1.map kV)) /\ A7 p.2 q.2.2) kvs xs /\
      ∃ o es ep, h.get? a = Aa o /\ o.ExactDict /\ o.data = .dict es ep /\ es.toList = xs.map (entryOfKey (tupleKind (Kh P w))) /\ (xs.map (·.1)).Nodup
  |.set S n => h.SetOf (intKind P w) a S n
  |.ins C dx fs => H dx = Aa (.own a) /\ fs.length <= 1000 /\ dx ≠ a /\ h.get? a = Aa (PySem.W.instObj C dx) /\
      ∃ mA, h.Ns1 dx mA /\ (∀ f, Iz (fs.lookup f) (mA f)) /\ PySem.Within mA (fs.map (·.1))
  |.own _ => ∃ o, h.get? a = Aa o
  |.xd fs => ∃ mA, h.Ns1 a mA /\ ∀ f, Iz (fs.lookup f) (mA f)
  |.rng lo hi => ∃ t u v, h.get? a = Aa { cls := .type "range", data := .fields #[.int lo t, .int hi u, .int 1 v] }
  |.frz o u => h.get? a = Aa o /\ ObjOk H h a u
  |.tbl ps => h.get? a = Aa {cls := .none, data := .fields ps}
  |.met f x => h.get? a = Aa (E6 (.ref f) (.ref x))
  |.ext φ => φ h /\ (∃ o, h.get? a = Aa o) /\ ∀ h1 h2 : Ax, φ h1 -> (∀ o, h1.get? a = Aa o -> h2.get? a = Aa o) -> φ h2
noncomputable def HOk(H : Hp)(h : Ax) : Prop := ∀ a o, H a = Aa o -> ObjOk P w H h a o
end
section
variable{P : AD}{w : AO}{H H' : Hp}{h h' : Ax}{a : Ai}{o : HO}
theorem ObjOk.lt(x : ObjOk P w H h a o) : a<h.objs.size := by
 cases o with
 |lst xs => obtain⟨_, _, _, _, e⟩ := x;exact AA e
 |tup xs => obtain⟨_, _, _, p⟩ := x;exact p.lt
 |dK kvs => obtain⟨_, _, _, _, o, _, _, e, _⟩ := x;exact AA e
 |dT kvs => obtain⟨_, _, _, _, o, _, _, e, _⟩ := x;exact AA e
 |set S n => obtain⟨o, _, _, _, e, _⟩ := x;exact AA e
 |ins C dx fs => obtain⟨_, _, _, e, _⟩ := x;exact AA e
 |own y => obtain⟨_, e⟩ := x;exact AA e
 |xd fs => obtain⟨_, ⟨_, _, _, e, _⟩, _⟩ := x;exact AA e
 |rng lo hi => obtain⟨_, _, _, e⟩ := x;exact AA e
 |frz ob u => obtain⟨e, _⟩ := x;exact AA e
 |tbl ps => exact AA (show h.get? a = Aa _ from x)
 |met f y => exact AA (show h.get? a = Aa _ from x)
 |ext φ => obtain⟨_, ⟨_, e⟩, _⟩ := x;exact AA e
theorem Fl.mapP{α β : Type}{F G : α -> β -> Prop} : ∀{l₁ : Ac α}{l₂ : Ac β}, Fl F l₁ l₂ -> (∀ a b, F a b -> G a b) -> Fl G l₁ l₂
 |_, _, .nil, _ => .nil
 |_, _, .cons r t, f => .cons (f _ _ r) (Fl.mapP t f)
theorem ObjOk.stay(x : ObjOk P w H h a o)(k : ∀ b u, (b = a \/ H b = Aa (.own a)) -> h.get? b = Aa u -> h'.get? b = Aa u)(ho : ∀ b, H b = Aa (.own a) -> H' b = Aa (.own a))(ht : ∀ b xs, H b = Aa (.tup xs) -> H' b = Aa (.tup xs)) : ObjOk P w H' h' a o := by
 induction o with
 |lst xs => obtain⟨z, its, n, r, e⟩ := x;exact⟨z, its, n, r, k _ _ (.inl rfl) e⟩
 |tup xs => obtain⟨z, its, r, ob, e, c⟩ := x;exact⟨z, its, r, ob, k _ _ (.inl rfl) e, c⟩
 |dK kvs => obtain⟨z, y, vs, r, ob, es, ep, e, c⟩ := x;exact⟨z, y, vs, r, ob, es, ep, k _ _ (.inl rfl) e, c⟩
 |dT kvs=>
  obtain⟨z, y, xs, r, ob, es, ep, e, c⟩ := x;exact⟨z, y, xs, Fl.mapP r fun p q z => ⟨z.1, ht _ _ z.2.1, z.2.2⟩, ob, es, ep, k _ _ (.inl rfl) e, c⟩
 |set S n => obtain⟨ob, es, ep, t, e, c⟩ := x;exact⟨ob, es, ep, t, k _ _ (.inl rfl) e, c⟩
 |ins C dx fs=>
  obtain⟨d, z, ne, e, mA, ⟨od, es, ep, e2, c⟩, r⟩ := x;exact⟨ho _ d, z, ne, k _ _ (.inl rfl) e, mA, ⟨od, es, ep, k _ _ (.inr d) e2, c⟩, r⟩
 |own y => obtain⟨ob, e⟩ := x;exact⟨ob, k _ _ (.inl rfl) e⟩
 |xd fs => obtain⟨mA, ⟨od, es, ep, e, c⟩, r⟩ := x;exact⟨mA, ⟨od, es, ep, k _ _ (.inl rfl) e, c⟩, r⟩
 |rng lo hi => obtain⟨t, u, v, e⟩ := x;exact⟨t, u, v, k _ _ (.inl rfl) e⟩
 |frz ob u ih => obtain⟨e, q⟩ := x;exact⟨k _ _ (.inl rfl) e, ih q⟩
 |tbl ps=>
  have e : h.get? a = Aa {cls := .none, data := .fields ps} := x;show h'.get? a = Aa {cls := .none, data := .fields ps};exact k a _ (.inl rfl) e
 |met f y=>
  have e : h.get? a = Aa (E6 (.ref f) (.ref y)) := x;show h'.get? a = Aa (E6 (.ref f) (.ref y));exact k a _ (.inl rfl) e
 |ext φ => obtain⟨p, ⟨o, e⟩, st⟩ := x;exact⟨st _ _ p fun o q => k _ _ (.inl rfl) q, ⟨o, k _ _ (.inl rfl) e⟩, st⟩
theorem HOk.lt(x : HOk P w H h)(e : H a = Aa o) : a<h.objs.size := (x a o e).lt
theorem HOk.fresh(x : HOk P w H h)(e : h.objs.size <= a) : H a = Af := by
 cases q : H a with
 |none => rfl
 |some u => exact absurd (Ay (x.lt q) e) (A9 _)
theorem HOk.kept(x : HOk P w H h)(k : ∀ b u, h.get? b = Aa u -> h'.get? b = Aa u) : HOk P w H h' := fun a o e=>
 (x a o e).stay (fun b u _ q => k b u q) (fun _ q => q) fun _ _ q => q
theorem HOk.laid(x : HOk P w H h)(k : ∀ b u, h.get? b = Aa u -> h'.get? b = Aa u)(hp : h.objs.size <= a)(new : ObjOk P w (upd H a o) h' a o) : HOk P w (upd H a o) h' := fun b u e => by
 have hn := x.fresh hp;by_cases hb : b = a
 ·subst hb;rw[DH]at e;cases e;exact new
 ·rw[A8 hb]at e;exact(x b u e).stay (fun c v _ q => k c v q) (fun c q => by rw[A8 (DQ q hn)];exact q) fun c xs q => by rw[A8 (DQ q hn)];exact q
end
noncomputable def Rd(H : Hp)(a : Ai)(u : HO) : Prop := H a = Aa u \/ ∃ o, H a = Aa (.frz o u)
theorem Rd.ok{w : AO}{u:HO}(r : Rd H a u)(x : HOk P w H h) : ObjOk P w H h a u := by
 rcases r with r|⟨o, r⟩
 ·exact x a u r
 ·obtain⟨_, q⟩ := x a _ r;exact q
def Mut : Am HO -> Prop
 |some (.lst _) => FF
 |some (.dK _) => FF
 |some (.dT _) => FF
 |some (.set _ _) => FF
 |some (.ins _ _ _) => FF
 |some (.ext _) => FF
 |_ => AH
section
variable{P : AD}{w : AO}{H : Hp}{h h' : Ax}{x e : Ai}{o' : HO}
theorem HOk.write(ok : HOk P w H h)(mu : Mut (H x))(he : e = x \/ H e = Aa (.own x))(k : ∀ b u, b ≠ e -> h.get? b = Aa u -> h'.get? b = Aa u)(heo : ∃ u, h'.get? e = Aa u)(new : ObjOk P w (upd H x o') h' x o') : HOk P w (upd H x o') h' := fun b u q => by
 have nown : ∀ c y, H c = Aa (.own y) -> c ≠ x := fun c y r z => by subst z;rw[r]at mu;exact mu
 have ntup : ∀ c xs, H c = Aa (.tup xs) -> c ≠ x := fun c xs r z => by subst z;rw[r]at mu;exact mu
 by_cases hb : b = x
 ·subst hb;rw[DH]at q;cases q;exact new
 ·rw[A8 hb]at q;by_cases hbe : b = e
  ·have q' : H b = Aa (.own x) := by
    rcases he with z|z
    ·exact absurd (hbe.trans z) hb
    ·rw[hbe];exact z
   rw[q]at q';cases q';obtain⟨v, hv⟩ := heo;exact⟨v, by rw[hbe];exact hv⟩
  ·refine(ok b u q).stay (fun c v hc r => k c v ?_ r) (fun c r => by rw[A8 (nown c b r)];exact r) fun c xs r => by rw[A8 (ntup c xs r)];exact r
   rcases hc with rfl|hc
   ·exact hbe
   ·rintro rfl;rcases he with z|z
    ·exact nown c b hc z
    ·rw[hc]at z;cases z;exact hb rfl
end
structure Un (fs ex : Ac Ai) (H H' : Hp) (h h' : Ax) : Prop where
 keep : ∀ b o, h.get? b = Aa o -> H b = Af -> b ∉ fs -> b ∉ ex -> h'.get? b = Aa o
 slot : ∀ b o, h.get? b = Aa o -> H b = Af -> b ∈ fs -> b ∉ ex -> ∃ sl, h'.get? b = Aa {o with slots := sl}
 free : ∀ b o, h.get? b = Aa o -> H b = Af -> b ∉ ex -> H' b = Af
 there : ∀ b o, h.get? b = Aa o -> b ∉ ex -> ∃ o', h'.get? b = Aa o'
 tups : ∀ b xs, H b = Aa (.tup xs) -> H' b = Aa (.tup xs)
 frzs : ∀ b o u, H b = Aa (.frz o u) -> H' b = Aa (.frz o u)
 tbls : ∀ b ps, H b = Aa (.tbl ps) -> ∃ more, H' b = Aa (.tbl (ps++more))
section
variable{fs fs' ex ex' : Ac Ai}{H H1 H2 : Hp}{h h1 h2 h' : Ax}{a x e : Ai}{o : HO}
theorem Un.any(u : Un fs ex H H1 h h1){ob:AC}(q : h.get? b = Aa ob)(n : H b = Af)(hx : b ∉ ex) : ∃ sl, h1.get? b = Aa {ob with slots := sl} := by
 by_cases hb : b ∈ fs
 ·exact u.slot b ob q n hb hx
 ·exact⟨ob.slots, u.keep b ob q n hb hx⟩
theorem Un.kept(k : ∀ b u, h.get? b = Aa u -> h'.get? b = Aa u) : Un fs ex H H h h':=
 ⟨fun b ob q _ _ _ => k b ob q, fun b ob q _ _ _ => ⟨ob.slots, k b ob q⟩, fun _ _ _ n _ => n, fun b ob q _ => ⟨ob, k b ob q⟩, fun _ _ q => q, fun _ _ _ q => q, fun _ ps q => ⟨#[], by rw[q];simp⟩⟩
theorem Un.refl : Un fs ex H H h h := Un.kept fun _ _ q => q
theorem Un.laid(k : ∀ b u, h.get? b = Aa u -> h'.get? b = Aa u)(hp : h.objs.size <= a)(hn : H a = Af) : Un fs ex H (upd H a o) h h' where
 keep := fun b u q _ _ _ => k b u q
 slot := fun b u q _ _ _ => ⟨u.slots, k b u q⟩
 free := fun b u q n _ => by rw[A8 (Bl (Ay (AA q) hp))];exact n
 there := fun b u q _ => ⟨u, k b u q⟩
 tups := fun b xs q => by rw[A8 (DQ q hn)];exact q
 frzs := fun b u xs q => by rw[A8 (DQ q hn)];exact q
 tbls := fun b ps q => ⟨#[], by rw[A8 (DQ q hn), q];simp⟩
theorem Un.write(mu : Mut (H x))(he : e = x \/ H e = Aa (.own x))(k : ∀ b u, b ≠ e -> h.get? b = Aa u -> h'.get? b = Aa u)(heo : ∃ u, h'.get? e = Aa u) : Un fs ex H (upd H x o) h h' := by
 have hx : ∀ b, H b = Af -> b ≠ x := fun b n z => by subst z;rw[n]at mu;exact mu
 have hb : ∀ b, H b = Af -> b ≠ e := fun b n z => by
  subst z;rcases he with r|r
  ·exact hx b n r
  ·rw[n]at r;cases r
 have hm : ∀ b u, H b = Aa u -> ¬ Mut (Aa u) -> b ≠ x := fun b u q nm z => by subst z;rw[q]at mu;exact nm mu
 refine⟨fun b u q n _ _ => k b u (hb b n) q, fun b u q n _ _ => ⟨u.slots, k b u (hb b n) q⟩, fun b u q n _ => by rw[A8 (hx b n)];exact n, fun b u q _ => ?_,
  fun b xs q => by rw[A8 (hm b _ q fun z => z)];exact q, fun b u xs q => by rw[A8 (hm b _ q fun z => z)];exact q, fun b ps q => ⟨#[], by rw[A8 (hm b _ q fun z => z), q];simp⟩⟩
 by_cases hbe : b = e
 ·subst hbe;exact heo
 ·exact⟨u, k b u hbe q⟩
end
noncomputable def trk(h : Ax)(H : Hp) : Ac Ai := (Ca h.objs.size).filter fun a => (H a).isSome
noncomputable def F7(h : Ax)(H : Hp) : Ax := PySem.W.hideAll h (trk h H)
theorem RI(h : Ax)(H : Hp) : (F7 h H).objs.size = h.objs.size := PySem.W.hideAll_size _ _
theorem RP(e : h.get? b = Aa o)(n : H b = Af) : (F7 h H).get? b = Aa o:=
 PySem.W.hideAll_get _ e fun hm => by
  have q : (H b).isSome = Ab := (List.mem_filter.mp hm).2;rw[n]at q;simp at q
theorem Tr(e : (F7 h H).get? b = Aa o) : h.get? b = Aa o /\ H b = Af := by
 have e' : h.get? b = Aa o := PySem.W.of_hideAll (trk h H) e;refine⟨e', ?_⟩;cases q : H b with
 |none => rfl
 |some x=>
  have hm : b ∈ trk h H := List.mem_filter.mpr ⟨Cp.mpr (AA e'), by simp[q]⟩
  have z : (F7 h H).get? b = Af := PySem.W.hideAll_none (trk h H) hm;rw[z]at e;cases e
noncomputable def Ua(g h : Ax)(L : Ai) : Ac (Ai × AC) := (Ca h.objs.size).filterMap fun a => if a = L \/ (g.get? a).isSome = Ab then Af else (h.get? a).map fun o => (a, o)
noncomputable def rest(g h : Ax)(L d : Ai) : Ac (Ai × AC) := (Ua g h L).filter fun p => decide (p.1 ≠ d)
structure Mod (K : Fg) (mg : Aj -> Am Ah) (base : Ax) : Prop where
 kin : K.In base
 glob : base.Ns AR mg
 blt : ∃ mb, base.Ns FX mb /\ ∀ x : Aj, x ≠ "__name__" -> mb x = B7 x
 nolimit : base.NoLimit
structure Cx where
 prog : AD
 w : AO
 K : Fg
 mg : Aj -> Am Ah
 base : Ax
 A : AN
 N : Ac Aj
 s₀ : Al
 H₀ : Hp
 env : BB
 outer : Ac BB
 stack : Ac BB
 ex : Ac Ai
 fn : Aj -> An
 calm : An
 pn : Ac (Ai × AC)
 xe : Ah -> Al -> Prop
variable{X:Cx}
noncomputable def frs(l : Ac BB) : Ac Ai := l.filterMap (·.frame)
noncomputable abbrev Cx.fs(X : Cx) : Ac Ai := frs X.outer
noncomputable def Vis(sc : Bz)(x : Aj) : Prop := sc.names.lookup x = Aa .local \/ sc.names.lookup x = Aa .cell \/ sc.names.lookup x = Aa .free
noncomputable def Loc(sc : Bz)(x : Aj) : Prop := sc.names.lookup x = Aa .local \/ sc.names.lookup x = Aa .cell
noncomputable def Yo(env : BB)(h : Ax)(m : Aj -> Am Ah)(x : Aj)(u : Ah) : Prop:=
 (env.kindOf x = Aa .local /\ m x = Aa u) \/ ((env.kindOf x = Aa .cell \/ env.kindOf x = Aa .free) /\ ∃ c, env.cells.lookup x = Aa c /\ h.IsCell c (Aa u))
structure Cx.Ok (X : Cx) : Prop where
 mod : Mod X.K X.mg X.base
 kind : X.env.scope.kind = .function
 glob : X.env.globals = AR
 blt : X.env.builtins = FX
 above : X.s₀.heap.objs.size <= X.env.locals
 inj : ∀ x y c, X.env.cells.lookup x = Aa c -> X.env.cells.lookup y = Aa c -> x = y
 has : ∀ x, (X.env.kindOf x = Aa .cell \/ X.env.kindOf x = Aa .free) -> ∃ c, X.env.cells.lookup x = Aa c
 cab : ∀ x c, X.fn x = Ab -> X.env.cells.lookup x = Aa c -> X.s₀.heap.objs.size <= c
 hd : X.calm = Ab -> X.A.handled = Af
 frames : X.A.frames = Aa X.stack
 stk : X.stack = X.outer \/ (X.stack = X.env::X.outer /\ X.env.frame = Aa X.env.locals)
 exf : ∀ b ∈ X.ex, b ≠ X.env.locals /\ ∀ x c, X.env.cells.lookup x = Aa c -> c ≠ b
 bs : ∀ b o, X.base.get? b = Aa o -> X.s₀.heap.get? b = Aa o /\ X.H₀ b = Af
 bsz : X.base.objs.size <= X.s₀.heap.objs.size
 noex : ∀ b o, X.base.get? b = Aa o -> b ∉ X.ex
 exfs : ∀ b ∈ X.ex, b ∉ X.fs
 funs : X.s₀.heap.FunFrames X.base X.outer
 frf : ∀ b ∈ X.fs, X.H₀ b = Af
structure Inv (X : Cx) (pI : Ac (Ai × AC)) (σ : Ac (Am V)) (H : Hp) (s : Al) : Prop where
 ok : X.Ok
 os : s.os = X.s₀.os
 bare : DK s.gens
 base : Un X.fs X.ex X.H₀ H X.s₀.heap s.heap
 loc : ∃ m, s.heap.Ns X.env.locals m /\ ∀(i : Ae)(x : Aj)(v : V), X.N[i]? = Aa x -> σ[i]? = Aa (Aa v) -> Vis X.env.scope x -> ∃ u, A7 v u /\ Yo X.env s.heap m x u
 cell : ∀ x c, X.env.cells.lookup x = Aa c -> ∃ v, s.heap.IsCell c v
 free : H X.env.locals = Af
 freeC : ∀ x c, X.env.cells.lookup x = Aa c -> H c = Af
 pin : ∀ p ∈ X.pn++pI, s.heap.get? p.1 = Aa p.2 /\ H p.1 = Af /\ p.1 ≠ X.env.locals /\ p.1 ∉ X.fs /\ ∀ v, p.2.data ≠ .cell v
 hok : HOk X.prog X.w H s.heap
 len : σ.length = X.N.length
section
variable{X : Cx}{pI : Ac (Ai × AC)}{σ : Ac (Am V)}{H H' : Hp}{s : Al}{h' : Ax}
theorem Cx.Ok.nofr(ok : X.Ok)(e : X.base.get? b = Aa o) : b ∉ X.fs := fun hb => by
 have := (ok.funs.mem hb).1;rw[e]at this;cases this
theorem Inv.bs(I : Inv X pI σ H s) : ∀ b o, X.base.get? b = Aa o -> s.heap.get? b = Aa o /\ H b = Af := fun b o e=>
 ⟨I.base.keep b o (I.ok.bs b o e).1 (I.ok.bs b o e).2 (I.ok.nofr e) (I.ok.noex b o e), I.base.free b o (I.ok.bs b o e).1 (I.ok.bs b o e).2 (I.ok.noex b o e)⟩
theorem Inv.bk(I : Inv X pI σ H s) : ∀ b o, X.base.get? b = Aa o -> s.heap.get? b = Aa o := fun b o e => (I.bs b o e).1
theorem Inv.mod(I : Inv X pI σ H s) : Mod X.K X.mg X.base := I.ok.mod
theorem Inv.kIn(I : Inv X pI σ H s) : X.K.In s.heap := I.ok.mod.kin.keeps I.bk
theorem Inv.lt(I : Inv X pI σ H s) : X.env.locals<s.heap.objs.size := let ⟨_, hn, _⟩ := I.loc;hn.lt
theorem Inv.sz(I : Inv X pI σ H s) : X.s₀.heap.objs.size <= s.heap.objs.size := BJ I.ok.above (El I.lt)
theorem Inv.nofs(I : Inv X pI σ H s)(h : s.heap.objs.size <= a) : a ∉ X.fs := fun hb => by
 obtain⟨_, o, ho, _⟩ := I.ok.funs.mem hb;exact absurd (Ay (AA ho) (BJ I.sz h)) (A9 _)
theorem Inv.cne(I : Inv X pI σ H s) : ∀ x c, X.env.cells.lookup x = Aa c -> c ≠ X.env.locals := fun x c e z => by
 obtain⟨v, o, ho, hd⟩ := I.cell x c e;obtain⟨m, ⟨o', es, ep, ho', hd', _⟩, _⟩ := I.loc;rw[z, ho']at ho;cases ho;rw[hd']at hd;cases hd
theorem Inv.funs(I : Inv X pI σ H s) : s.heap.FunFrames X.base X.outer := by
 have all : ∀(l : Ac BB), (∀ b ∈ frs l, b ∈ X.fs) -> X.s₀.heap.FunFrames X.base l -> s.heap.FunFrames X.base l := by
  intro l
  induction l with
  |nil => intro _ _;trivial
  |cons env r ih=>
   intro hs hl;obtain⟨hk, ⟨L, o, hf, hn, ho, hd⟩, hr⟩ := hl;have hL : L ∈ X.fs := hs L (by unfold frs;rw[EB, hf];exact AI)
   obtain⟨sl, e⟩ := I.base.slot L o ho (I.ok.frf L hL) hL fun z => I.ok.exfs L z hL
   exact⟨hk, ⟨L, _, hf, hn, e, hd⟩, ih (fun b hb => hs b (by unfold frs;rw[EB, hf];exact Az _ hb)) hr⟩
 exact all X.outer (fun _ hb => hb) I.ok.funs
theorem Inv.stack(I : Inv X pI σ H s) : s.heap.FunFrames X.base X.stack := by
 rcases I.ok.stk with e|⟨e, hf⟩
 ·rw[e];exact I.funs
 ·rw[e];obtain⟨m, hn, _⟩ := I.loc;refine .cons (by rw[I.ok.kind];decide) hf hn ?_ I.funs
  exact Ci (BJ I.ok.bsz I.ok.above)
theorem Inv.stkSub(I : Inv X pI σ H s) : ∀ b ∈ frs X.stack, b ∈ X.env.locals::X.fs := fun b hb => by
 rcases I.ok.stk with e|⟨e, hf⟩
 ·rw[e]at hb;exact Az _ hb
 ·rw[e]at hb;unfold frs at hb;rw[EB, hf]at hb;exact hb
theorem Inv.stkFree(I : Inv X pI σ H s) : ∀ b ∈ frs X.stack, H b = Af := fun b hb => by
 rcases AY.mp (I.stkSub b hb) with e|hb
 ·rw[e];exact I.free
 ·obtain⟨_, o, ho, _⟩ := I.ok.funs.mem hb;exact I.base.free b o ho (I.ok.frf b hb) fun z => I.ok.exfs b z hb
theorem Inv.step(I : Inv X pI σ H s)(hch : ∀ b ∈ ch, (b ∈ X.ex \/ X.s₀.heap.objs.size <= b) /\ b ≠ X.env.locals /\ (∀ x c, X.env.cells.lookup x = Aa c -> c ≠ b) /\ ∀ p ∈ X.pn++pI, p.1 ≠ b)(keep : ∀ b o, b ≠ X.env.locals -> b ∉ X.fs -> b ∉ ch -> s.heap.get? b = Aa o -> H b = Af -> h'.get? b = Aa o)(slot : ∀ b o, b ≠ X.env.locals -> b ∈ X.fs -> b ∉ ch -> s.heap.get? b = Aa o -> H b = Af -> ∃ sl, h'.get? b = Aa {o with slots := sl})(free : ∀ b o, b ∉ ch -> s.heap.get? b = Aa o -> H b = Af -> H' b = Af)(there : ∀ b o, b ∉ ch -> s.heap.get? b = Aa o -> ∃ o', h'.get? b = Aa o')(tups : ∀ b xs, H b = Aa (.tup xs) -> H' b = Aa (.tup xs))(frzs : ∀ b o u, H b = Aa (.frz o u) -> H' b = Aa (.frz o u))(tbls : ∀ b ps, H b = Aa (.tbl ps) -> ∃ more, H' b = Aa (.tbl (ps++more)))(ns : ∀ m, s.heap.Ns X.env.locals m -> h'.Ns X.env.locals m)(hok : HOk X.prog X.w H' h')(hg : DK g'):Inv X pI σ H' {s with heap := h',gens := g',drawn := d',toks := t'} := by
 have neL : ∀ b o, X.s₀.heap.get? b = Aa o -> b ≠ X.env.locals := fun b o e => Bl (Ay (AA e) I.ok.above)
 have neC : ∀ b o, X.s₀.heap.get? b = Aa o -> b ∉ X.ex -> b ∉ ch := fun b o e hx hb => by
  rcases (hch b hb).1 with z|z
  ·exact hx z
  ·exact absurd (Ay (AA e) z) (A9 _)
 have cellK : ∀ x c, X.env.cells.lookup x = Aa c -> ∀ v, s.heap.IsCell c v -> h'.IsCell c v := fun x c e v ⟨o, ho, hd⟩ => by
  have nch : c ∉ ch := fun z => (hch c z).2.2.1 x c e rfl
  by_cases hc : c ∈ X.fs
  ·obtain⟨sl, q⟩ := slot c o (I.cne x c e) hc nch ho (I.freeC x c e);exact⟨_, q, hd⟩
  ·exact⟨o, keep c o (I.cne x c e) hc nch ho (I.freeC x c e), hd⟩
 refine⟨I.ok, I.os, hg, ⟨fun b o e n hb hx => ?_, fun b o e n hb hx => ?_, fun b o e n hx => ?_, fun b o e hx => ?_, fun b xs e => tups b xs (I.base.tups b xs e), fun b o xs e => frzs b o xs (I.base.frzs b o xs e), fun b ps e => ?_⟩, ?_, fun x c e => ?_, ?_, fun x c e => ?_, fun p hp => ?_, hok, I.len⟩
 ·exact keep b o (neL b o e) hb (neC b o e hx) (I.base.keep b o e n hb hx) (I.base.free b o e n hx)
 ·obtain⟨sl, e1⟩ := I.base.slot b o e n hb hx;obtain⟨sl', e2⟩ := slot b _ (neL b o e) hb (neC b o e hx) e1 (I.base.free b o e n hx);exact⟨sl', e2⟩
 ·obtain⟨o', e1⟩ := I.base.there b o e hx;exact free b o' (neC b o e hx) e1 (I.base.free b o e n hx)
 ·obtain⟨o', e1⟩ := I.base.there b o e hx;exact there b o' (neC b o e hx) e1
 ·obtain⟨m1, e1⟩ := I.base.tbls b ps e;obtain⟨m2, e2⟩ := tbls b _ e1;exact⟨m1++m2, by rw[e2, Array.append_assoc]⟩
 ·obtain⟨m, hn, hl⟩ := I.loc;refine⟨m, ns m hn, fun i x v e1 e2 e3 => ?_⟩
  obtain⟨u, r, l⟩ := hl i x v e1 e2 e3;refine⟨u, r, ?_⟩;rcases l with l|⟨k, c, e, z⟩
  ·exact .inl l
  ·exact .inr ⟨k, c, e, cellK x c e _ z⟩
 ·obtain⟨v, z⟩ := I.cell x c e;exact⟨v, cellK x c e v z⟩
 ·obtain⟨m, ⟨o, _, _, ho, _⟩, _⟩ := I.loc;exact free _ o (fun z => (hch _ z).2.1 rfl) ho I.free
 ·obtain⟨v, o, ho, hd⟩ := I.cell x c e;exact free c o (fun z => (hch c z).2.2.1 x c e rfl) ho (I.freeC x c e)
 ·obtain⟨e, n, ne, nf, d⟩ := I.pin p hp;have nch : p.1 ∉ ch := fun z => (hch p.1 z).2.2.2 p hp rfl
  exact⟨keep p.1 p.2 ne nf nch e n, free p.1 p.2 nch e n, ne, nf, d⟩
theorem Inv.un(I : Inv X pI σ H s)(u : Un X.fs [] H H' s.heap h')(hok : HOk X.prog X.w H' h') : Inv X pI σ H' {s with heap := h', toks := t'} := by
 obtain⟨m, ⟨o, es, ep, ho, r⟩, _⟩ := id I.loc;obtain⟨sl, hL⟩ := u.any ho I.free (by simp)
 exact I.step (g' := s.gens) (d' := s.drawn) (ch := []) (fun _ z => nomatch z) (fun b o _ hb _ e n => u.keep b o e n hb (by simp)) (fun b o _ hb _ e n => u.slot b o e n hb (by simp)) (fun b o _ e n => u.free b o e n (by simp)) (fun b o _ e => u.there b o e (by simp)) u.tups u.frzs u.tbls (fun m' hm => by
  obtain⟨o', es', ep', ho', r'⟩ := hm;rw[ho]at ho';cases ho';exact⟨_, es', ep', hL, r'⟩) hok I.bare
theorem Inv.call(I : Inv X pI σ H s)(u : Un (frs X.stack) ch H H' s.heap h')(hok : HOk X.prog X.w H' h')(hg : DK g')(hch : ∀ b ∈ ch, (b ∈ X.ex \/ X.s₀.heap.objs.size <= b) /\ b ≠ X.env.locals /\ (∀ x c, X.env.cells.lookup x = Aa c -> c ≠ b) /\ ∀ p ∈ X.pn++pI, p.1 ≠ b):Inv X pI σ H' {s with heap := h',gens := g',drawn := d',toks := t'} := by
 obtain⟨m, ⟨o, es, ep, ho, r⟩, _⟩ := id I.loc;obtain⟨sl, hL⟩ := u.any ho I.free fun z => (hch _ z).2.1 rfl
 exact I.step (ch := ch) hch (fun b o hL hb hc e n => u.keep b o e n (fun z => (AY.mp (I.stkSub b z)).elim hL hb) hc) (fun b o _ _ hc e n => u.any e n hc) (fun b o hc e n => u.free b o e n hc) (fun b o hc e => u.there b o e hc) u.tups u.frzs u.tbls (fun m' hm => by
  obtain⟨o', es', ep', ho', r'⟩ := hm;rw[ho]at ho';cases ho';exact⟨_, es', ep', hL, r'⟩) hok hg
theorem Inv.turned(I : Inv X pI σ H s)(k : ∀ b o, b ≠ it -> s.heap.get? b = Aa o -> h'.get? b = Aa o)(hn : H it = Af)(hL : it ≠ X.env.locals)(h1 : it ∈ X.ex \/ X.s₀.heap.objs.size <= it)(h2 : ∀ x c, X.env.cells.lookup x = Aa c -> c ≠ it)(h3 : ∀ p ∈ X.pn++pI, p.1 ≠ it) : Inv X pI σ H {s with heap := h', toks := t'} := by
 have nit : ∀ b u, H b = Aa u -> b ≠ it := fun b u e z => by rw[z, hn]at e;cases e
 refine I.step (g' := s.gens) (d' := s.drawn) (ch := [it]) (fun b hb => ?_) (fun b o _ _ hc e _ => k b o (fun z => hc (by simp[z])) e) (fun b o _ _ hc e _ => ⟨o.slots, k b o (fun z => hc (by simp[z])) e⟩) (fun _ _ _ _ n => n)
  (fun b o hc e => ⟨o, k b o (fun z => hc (by simp[z])) e⟩) (fun _ _ e => e) (fun _ _ _ e => e) (fun b ps e => ⟨#[], by rw[e];simp⟩) (fun m hm => ?_) (fun b u e => ?_) I.bare
 ·have e : b = it := by simpa using hb
  subst e;exact⟨h1, hL, h2, h3⟩
 ·obtain⟨o, es, ep, ho, r⟩ := hm;exact⟨o, es, ep, k _ o (CJ hL) ho, r⟩
 ·refine(I.hok b u e).stay (fun c v hc q => k c v ?_ q) (fun _ q => q) fun _ _ q => q
  rcases hc with z|z
  ·rw[z];exact nit b u e
  ·exact nit c _ z
theorem Inv.tok(I : Inv X pI σ H s)(t : Ae) : Inv X pI σ H {s with toks := t} := I.un (h' := s.heap) (t' := t) Un.refl I.hok
theorem Inv.kept{t' : Ae}(I : Inv X pI σ H s)(k : ∀ b u, s.heap.get? b = Aa u -> h'.get? b = Aa u) : Inv X pI σ H {s with heap := h', toks := t'} := I.un (Un.kept k) (I.hok.kept k)
theorem Inv.laid{a : Ai}{o : HO}{t' : Ae}(I : Inv X pI σ H s)(k : ∀ b u, s.heap.get? b = Aa u -> h'.get? b = Aa u)(hp : s.heap.objs.size <= a)(new : ObjOk X.prog X.w (upd H a o) h' a o):Inv X pI σ (upd H a o) {s with heap := h',toks := t'} := I.un (Un.laid k hp (I.hok.fresh hp)) (I.hok.laid k hp new)
theorem Inv.write{x e : Ai}{o : HO}{t' : Ae}(I : Inv X pI σ H s)(mu : Mut (H x))(he : e = x \/ H e = Aa (.own x))(k : ∀ b u, b ≠ e -> s.heap.get? b = Aa u -> h'.get? b = Aa u)(heo : ∃ u, h'.get? e = Aa u)(new : ObjOk X.prog X.w (upd H x o) h' x o) : Inv X pI σ (upd H x o) {s with heap := h', toks := t'} := I.un (Un.write mu he k heo) (I.hok.write mu he k heo new)
theorem Inv.pins_of{pins':Ac (Ai × AC)}(I : Inv X pI σ H s)(h : ∀ p ∈ pins', s.heap.get? p.1 = Aa p.2 /\ H p.1 = Af /\ p.1 ≠ X.env.locals /\ p.1 ∉ X.fs /\ ∀ v, p.2.data ≠ .cell v) : Inv X pins' σ H s:=
 ⟨I.ok, I.os, I.bare, I.base, I.loc, I.cell, I.free, I.freeC, fun p hp => (Fw.mp hp).elim (fun z => I.pin p (Ei _ z)) (h p), I.hok, I.len⟩
theorem J9{N : Ac Aj}(hN : N.Nodup)(a : N[i]? = Aa x)(b : N[j]? = Aa x) : i = j := by
 obtain⟨h1, e1⟩ := AZ.mp a;obtain⟨h2, e2⟩ := AZ.mp b;exact(List.getElem_inj hN).mp (e1.trans e2.symm)
theorem L5{A : AN}{E : Ah -> Al -> Prop}{Q:EF -> Al -> Prop}(I : Inv X pI σ H s)(hN : X.N.Nodup)(hi : X.N[i]? = Aa x)(hx : Loc X.env.scope x)(r : A7 v u)(h : ∀ s', Inv X pI (σ.set i (Aa v)) H s' -> (∃ a, Fi a s.heap s'.heap /\ (a = X.env.locals \/ X.env.cells.lookup x = Aa a)) -> Q () s')(hf : X.fn x = Ab \/ X.env.scope.names.lookup x = Aa .local := by first|exact .inl rfl|exact .inr rfl|assumption) : Au M A (storeName X.env x u) Q E s := by
 obtain⟨m, hn, hl⟩ := id I.loc;have hcls : (X.env.scope.kind==.class||(X.env.scope.kind==.module&&X.env.locals != X.env.globals)) = Ad := by rw[I.ok.kind];rfl
 have hiσ : i<σ.length := by rw[I.len];exact(AZ.mp hi).1
 have cne := I.cne;have tracked : ∀{a : Ai}{h' : Ax}, (∃ o, s.heap.get? a = Aa o /\ H a = Af) -> Fi a s.heap h' -> HOk X.prog X.w H h' := fun {a h'} ha hs b ob e => by
  obtain⟨_, _, hfree⟩ := ha;refine(I.hok b ob e).stay (fun c w' hc q => (hs.2 c ?_).trans q) (fun _ q => q) fun _ _ q => q
  rintro rfl;rcases hc with rfl|hc
  ·rw[hfree]at e;cases e
  ·rw[hfree]at hc;cases hc
 rcases hx with hk|hk
 ·refine wpAny_storeName_local hk hn (fun h' hn' hs => ?_) hcls
  obtain⟨oL, _, _, hoL, _⟩ := id hn;refine h _ ⟨I.ok, I.os, I.bare, ⟨fun b o e n hb hx => ?_, fun b o e n hb hx => ?_, I.base.free, fun b o e hx => ?_, I.base.tups, I.base.frzs, I.base.tbls⟩, ⟨_, hn', fun j y v' e1 e2 e3 => ?_⟩, fun y c e => ?_, I.free, I.freeC, fun p hp => ?_, tracked ⟨oL, hoL, I.free⟩ hs, by simpa using I.len⟩ ⟨_, hs, .inl rfl⟩
  ·exact(hs.2 b (Bl (Ay (AA e) I.ok.above))).trans (I.base.keep b o e n hb hx)
  ·obtain⟨sl, e1⟩ := I.base.slot b o e n hb hx;exact⟨sl, (hs.2 b (Bl (Ay (AA e) I.ok.above))).trans e1⟩
  ·obtain⟨o', e1⟩ := I.base.there b o e hx;exact⟨o', (hs.2 b (Bl (Ay (AA e) I.ok.above))).trans e1⟩
  ·by_cases hj : j = i
   ·subst hj;rw[hi]at e1;cases e1;rw[B6 hiσ]at e2;cases e2;exact⟨u, r, .inl ⟨hk, by simp⟩⟩
   ·rw[Eh (CJ hj)]at e2;obtain⟨u', r', q⟩ := hl j y v' e1 e2 e3;refine⟨u', r', ?_⟩;rcases q with ⟨k, e⟩|⟨k, c, e, z⟩
    ·refine .inl ⟨k, ?_⟩;have : y ≠ x := fun e => hj (J9 hN e1 (e ▸ hi))
     simp[this, e]
    ·exact .inr ⟨k, c, e, z.sameBut hs (cne y c e)⟩
  ·obtain⟨w', z⟩ := I.cell y c e;exact⟨w', z.sameBut hs (cne y c e)⟩
  ·obtain⟨e, n, ne, nf, d⟩ := I.pin p hp;exact⟨(hs.2 p.1 ne).trans e, n, ne, nf, d⟩
 ·have hfn : X.fn x = Ab := by
   rcases hf with z|z
   ·exact z
   ·rw[z]at hk;cases hk
  obtain⟨c, hc⟩ := I.ok.has x (.inl hk);obtain⟨w', z⟩ := I.cell x c hc;refine wpAny_storeName_cell I.ok.kind hk hc z (fun h' hc' hs => ?_)
  obtain⟨oc, hoc, hocd⟩ := id z;refine h {s with heap := h'} ⟨I.ok, I.os, I.bare, ⟨fun b o e n hb hx => ?_, fun b o e n hb hx => ?_, I.base.free, fun b o e hx => ?_, I.base.tups, I.base.frzs, I.base.tbls⟩, ⟨m, hn.sameBut hs (CJ (cne x c hc)), fun j y v' e1 e2 e3 => ?_⟩, fun y c' e => ?_, I.free, I.freeC, fun p hp => ?_, tracked ⟨oc, hoc, I.freeC x c hc⟩ hs, by simpa using I.len⟩ ⟨c, hs, .inr hc⟩
  ·exact(hs.2 b (Bl (Ay (AA e) (I.ok.cab x c hfn hc)))).trans (I.base.keep b o e n hb hx)
  ·obtain⟨sl, e1⟩ := I.base.slot b o e n hb hx;exact⟨sl, (hs.2 b (Bl (Ay (AA e) (I.ok.cab x c hfn hc)))).trans e1⟩
  ·obtain⟨o', e1⟩ := I.base.there b o e hx;exact⟨o', (hs.2 b (Bl (Ay (AA e) (I.ok.cab x c hfn hc)))).trans e1⟩
  ·by_cases hj : j = i
   ·subst hj;rw[hi]at e1;cases e1;rw[B6 hiσ]at e2;cases e2;exact⟨u, r, .inr ⟨.inl hk, c, hc, hc'⟩⟩
   ·rw[Eh (CJ hj)]at e2;obtain⟨u', r', q⟩ := hl j y v' e1 e2 e3;refine⟨u', r', ?_⟩;rcases q with q|⟨k, c', e, z'⟩
    ·exact .inl q
    ·refine .inr ⟨k, c', e, z'.sameBut hs ?_⟩;rintro rfl;exact hj (J9 hN e1 (I.ok.inj _ _ _ e hc ▸ hi))
  ·by_cases hcc : c' = c
   ·subst hcc;exact⟨_, hc'⟩
   ·obtain⟨w2, z2⟩ := I.cell y c' e;exact⟨w2, z2.sameBut hs hcc⟩
  ·obtain⟨e, n, ne, nf, d⟩ := I.pin p hp;refine⟨(hs.2 p.1 ?_).trans e, n, ne, nf, d⟩;intro q;rw[q, hoc]at e;have q' : oc = p.2 := Bv e;exact d w' (by rw[<-q'];exact hocd)
theorem JQ{A : AN}{E : Ah -> Al -> Prop}{Q:EF -> Al -> Prop}(I : Inv X pI σ H s)(hN : X.N.Nodup)(hi : X.N[i]? = Aa x)(hx : Loc X.env.scope x)(r : A7 v u)(h : ∀ s', Inv X pI (σ.set i (Aa v)) H s' -> Q () s')(hf : X.fn x = Ab \/ X.env.scope.names.lookup x = Aa .local := by first|exact .inl rfl|exact .inr rfl|assumption) : Au M A (storeName X.env x u) Q E s:=
 L5 I hN hi hx r (fun s' I' _ => h s' I') hf
theorem Inv.call'{s':Al}(I : Inv X pI σ H s)(ho : s'.os = s.os)(u : Un (frs X.stack) ch H H' s.heap s'.heap)(hok : HOk X.prog X.w H' s'.heap)(hg : DK s'.gens)(hch : ∀ b ∈ ch, (b ∈ X.ex \/ X.s₀.heap.objs.size <= b) /\ b ≠ X.env.locals /\ (∀ x c, X.env.cells.lookup x = Aa c -> c ≠ b) /\ ∀ p ∈ X.pn++pI, p.1 ≠ b) : Inv X pI σ H' s' := by
 obtain⟨h', g', d', t', o'⟩ := s';have e : o' = s.os := ho;subst e;exact I.call (g' := g') (t' := t') (d' := d') u hok hg hch
end
noncomputable abbrev XK := Ah -> Am Ai -> Hp -> Prop
noncomputable abbrev St := Ac (Am V)
variable{σ:St}
noncomputable abbrev VK := V -> Hp -> Prop
noncomputable abbrev TE := St -> Hp -> VK -> Prop
variable{te:TE}
noncomputable abbrev TT := St -> Hp -> (An -> Hp -> Prop) -> Prop
noncomputable abbrev TA := St -> Hp -> (Ac V -> Hp -> Prop) -> Prop
variable{ta:TA}
structure Ends where
 nx : St -> Hp -> Prop
 rt : VK
 bk : St -> Hp -> Prop := fun _ _ => AH
 ct : St -> Hp -> Prop := fun _ _ => AH
noncomputable abbrev TS := Ends -> St -> Hp -> Prop
noncomputable def EP(X : Cx)(pI : Ac (Ai × AC))(σ : St)(Q : VK)(u : Ah)(s' : Al) : Prop := ∃ v H', Inv X pI σ H' s' /\ A7 v u /\ Q v H'
noncomputable def TP(X : Cx)(pI : Ac (Ai × AC))(σ : St)(Q : An -> Hp -> Prop)(b : An)(s' : Al) : Prop := ∃ H', Inv X pI σ H' s' /\ Q b H'
noncomputable def AP(X : Cx)(pI : Ac (Ai × AC))(σ : St)(Q : Ac V -> Hp -> Prop)(us : Ac Ah)(s' : Al) : Prop := ∃ vs H', Inv X pI σ H' s' /\ AW vs us /\ Q vs H'
noncomputable def SP(X : Cx)(pI : Ac (Ai × AC))(D : Ends)(f : Flow)(s' : Al) : Prop:=
  match f with
  |.next => ∃ σ' H', Inv X pI σ' H' s' /\ D.nx σ' H'
  |.brk => ∃ σ' H', Inv X pI σ' H' s' /\ D.bk σ' H'
  |.cont => ∃ σ' H', Inv X pI σ' H' s' /\ D.ct σ' H'
  |.ret u => ∃ v σ' H', Inv X pI σ' H' s' /\ A7 v u /\ D.rt v H'
noncomputable def PE(X : Cx)(e : Ao)(t : TE) : Prop:=
 ∀(pI : Ac (Ai × AC))(s : Al)(σ : St)(H : Hp)(Q : VK), Inv X pI σ H s -> t σ H Q -> Au (model X.prog X.w) X.A (eval e X.env) (EP X pI σ Q) X.xe s
noncomputable def PT(X : Cx)(e : Ao)(t : TT) : Prop:=
 ∀(pI : Ac (Ai × AC))(s : Al)(σ : St)(H : Hp)(Q : An -> Hp -> Prop), Inv X pI σ H s -> t σ H Q -> Au (model X.prog X.w) X.A (FQ e X.env (eval e X.env)) (TP X pI σ Q) X.xe s
noncomputable def PW(X : Cx)(e : Ao)(t : TT) : Prop:=
 ∀(whole : Sem Ah)(pI : Ac (Ai × AC))(s : Al)(σ : St)(H : Hp)(Q : An -> Hp -> Prop), Inv X pI σ H s -> t σ H Q -> Au (model X.prog X.w) X.A (FQ e X.env whole) (TP X pI σ Q) X.xe s
theorem PW.pt{t:TT}(h : PW X e t) : PT X e t := h _
noncomputable def PA(X : Cx)(es : Ac Ao)(t : TA) : Prop:=
 ∀(pos : AJ)(pI : Ac (Ai × AC))(s : Al)(σ : St)(H : Hp)(Q : Ac V -> Hp -> Prop), Inv X pI σ H s -> t σ H Q -> Au (model X.prog X.w) X.A (spliced (By pos (Ar es X.env))) (AP X pI σ Q) X.xe s
noncomputable def PS(X : Cx)(st : A2)(t : TS) : Prop:=
 ∀(pI : Ac (Ai × AC))(s : Al)(σ : St)(H : Hp)(D : Ends), Inv X pI σ H s -> t D σ H -> Au (model X.prog X.w) X.A (exec st X.env) (SP X pI D) X.xe s
noncomputable def PSs(X : Cx)(st : Ac A2)(t : TS) : Prop:=
 ∀(pI : Ac (Ai × AC))(s : Al)(σ : St)(H : Hp)(D : Ends), Inv X pI σ H s -> t D σ H -> Au (model X.prog X.w) X.A (execs st X.env) (SP X pI D) X.xe s
theorem thn{α:Type}{t : Sem α}{Q Q' : α -> Al -> Prop}{A : AN}{E : Ah -> Al -> Prop}(h : Au M A t Q E s)(hQ : ∀ a s, Q a s -> Q' a s) : Au M A t Q' E s := AV h hQ fun _ _ x => x
section
variable{X : Cx}
noncomputable def EK(i : Ae) : TE := fun σ H Q => ∃ v, σ[i]? = Aa (Aa v) /\ Q v H
noncomputable def tC(v : V) : TE := fun _ H Q => Q v H
theorem Ji(hN : X.N[i]? = Aa x)(hv : Vis X.env.scope x)(hd : (x==("__debug__" : Aj)) = Ad := by decide)(hcd : (x==("__classdict__" : Aj)) = Ad := by decide) : PE X (.Name x pos) (EK i) := by
 intro pI s σ H Q I h;obtain⟨v, e, h⟩ := h;obtain⟨m, hn, hl⟩ := I.loc;obtain⟨u, r, l⟩ := hl i x v hN e hv;have fin : EP X pI σ Q u s := ⟨v, H, I, r, h⟩;rcases l with ⟨hk, hm⟩|⟨hk, c, hc, hcell⟩
 ·exact G6 (wpAny_loadName_local I.ok.kind hk hn hm fin) hd
 ·rcases hk with hk|hk
  ·exact G6 (wpAny_loadName_cell I.ok.kind hk hc hcell fin) hd
  ·exact G6 (wpAny_loadName_free I.ok.kind hk hc hcell fin hcd) hd
theorem VG{i j pos} : PE X (.Constant (.int i) j pos) (tC (.int i)) := fun _ _ _ H _ I h => wpAny_Constant_int ⟨.int i, H, I.tok _, ⟨_, rfl⟩, h⟩
theorem WU{b j pos} : PE X (.Constant (.bool b) j pos) (tC (.bl b)) := fun _ _ _ H _ I h => Constant_bool ⟨.bl b, H, I, rfl, h⟩
theorem VE{j pos} : PE X (.Constant .none j pos) (tC .non) := fun _ _ _ H _ I h => Constant_none ⟨.non, H, I, rfl, h⟩
theorem NV{x j pos} : PE X (.Constant (.str x) j pos) (tC (.str x)) := fun _ _ _ H _ I h => Calls.Constant_str ⟨.str x, H, I.tok _, ⟨_, rfl⟩, h⟩
noncomputable def Gl(X : Cx)(x : Aj) : Prop := X.env.kindOf x = Aa .globalImplicit
theorem Gw{E : Ah -> Al -> Prop}(I : Inv X pI σ H s)(hg : Gl X x)(hm : X.mg x = Aa u)(h : Q u s)(hd : (x==("__debug__" : Aj)) = Ad := by decide) : Au (model X.prog X.w) X.A (eval (.Name x pos) X.env) Q E s:=
 P3 I.ok.kind hg (Calls.loadGlobal_global (by rw[I.ok.glob];exact I.mod.glob.keeps I.bk) hm h) hd
theorem Ih{E : Ah -> Al -> Prop}(I : Inv X pI σ H s)(hg : Gl X x)(hm : X.mg x = Af)(hv : B7 x = Aa u)(h : Q u s)(hn : x ≠ "__name__" := by decide)(hd : (x==("__debug__" : Aj)) = Ad := by decide) : Au (model X.prog X.w) X.A (eval (.Name x pos) X.env) Q E s := by
 obtain⟨mb, h1, h2⟩ := I.mod.blt;exact P3 I.ok.kind hg (Calls.loadGlobal_builtin (by rw[I.ok.glob];exact I.mod.glob.keeps I.bk) hm (by rw[I.ok.blt];exact h1.keeps I.bk) ((h2 x hn).trans hv) h) hd
theorem Na(hg : Gl X x)(hm : X.mg x = Aa u)(r : A7 v u)(hd : (x==("__debug__" : Aj)) = Ad := by decide) : PE X (.Name x pos) (tC v):=
 fun _ _ _ H _ I h => Gw I hg hm ⟨v, H, I, r, h⟩ hd
theorem Nc(hg : Gl X x)(hm : X.mg x = Af)(hv : B7 x = Aa u)(r : A7 v u)(hn : x ≠ "__name__" := by decide)(hd : (x==("__debug__" : Aj)) = Ad := by decide) : PE X (.Name x pos) (tC v):=
 fun _ _ _ H _ I h => Ih I hg hm hv ⟨v, H, I, r, h⟩ hn hd
variable{a b : Ao}{ta tb : TE}{pos : AJ}
variable{tA tB' : TT}{rest : Ac Ao}
noncomputable def Yb(t u : TT) : TT := fun σ H Q => t σ H fun c H1 => if c = Ab then u σ H1 Q else Q Ad H1
noncomputable def tOr(t u : TT) : TT := fun σ H Q => t σ H fun c H1 => if c = Ab then Q Ab H1 else u σ H1 Q
noncomputable def X5(t : TT) : TT := fun σ H Q => t σ H fun c H1 => Q (!c) H1
theorem TW(ha : PT X a tA) : PW X (.BoolOp .And [a] pos) tA := by
 intro wh pI s σ H Q I h;refine isTrue_and (thn (ha pI s σ H Q I h) fun c s1 e => ?_)
 cases c with
 |true => exact isTrue_and_nil e
 |false => exact e
theorem UA(ha : PT X a tA) : PW X (.BoolOp .Or [a] pos) tA := by
 intro wh pI s σ H Q I h;refine isTrue_or (thn (ha pI s σ H Q I h) fun c s1 e => ?_)
 cases c with
 |false => exact isTrue_or_nil e
 |true => exact e
theorem UB(ha : PT X a tA)(hb : PW X (.BoolOp .And (b::rest) pos) tB') : PW X (.BoolOp .And (a::b::rest) pos) (Yb tA tB') := by
 intro wh pI s σ H Q I h;refine isTrue_and (thn (ha pI s σ H _ I h) fun c s1 ⟨H1, I1, q1⟩ => ?_)
 cases c with
 |true => exact hb wh pI s1 σ H1 Q I1 q1
 |false => exact⟨H1, I1, q1⟩
theorem WQ(ha : PT X a tA)(hb : PW X (.BoolOp .Or (b::rest) pos) tB') : PW X (.BoolOp .Or (a::b::rest) pos) (tOr tA tB') := by
 intro wh pI s σ H Q I h;refine isTrue_or (thn (ha pI s σ H _ I h) fun c s1 ⟨H1, I1, q1⟩ => ?_)
 cases c with
 |true => exact⟨H1, I1, q1⟩
 |false => exact hb wh pI s1 σ H1 Q I1 q1
theorem UC(ha : PT X a tA) : PT X (.UnaryOp .Not a pos) (X5 tA) := by
 intro pI s σ H Q I h;exact isTrue_not (ha pI s σ H (fun c H1 => Q (!c) H1) I h)
noncomputable def WA(ta tb : TE) : TE := fun σ H Q => ta σ H fun x H1 => ∃ c, x = .bl c /\ if c = Ab then tb σ H1 Q else Q (.bl Ad) H1
noncomputable def X4(ta tb : TE) : TE := fun σ H Q => ta σ H fun x H1 => ∃ c, x = .bl c /\ if c = Ab then Q (.bl Ab) H1 else tb σ H1 Q
noncomputable def Wv(ta : TE) : TE := fun σ H Q => ta σ H fun x H1 => ∃ c, x = .bl c /\ Q (.bl (!c)) H1
theorem VC{op}{t:TE}(h : PE X a t) : PE X (.BoolOp op [a] pos) t := fun pI s σ H Q I hw => BoolOp_one (h pI s σ H Q I hw)
theorem VH(ha : PE X a ta)(hb : PE X (.BoolOp .And (b::rest) pos) tb) : PE X (.BoolOp .And (a::b::rest) pos) (WA ta tb) := by
 intro pI s σ H Q I h;refine BoolOp_and (thn (ha pI s σ H _ I h) fun v s1 ⟨x, H1, I1, r1, q1⟩ => ?_)
 obtain⟨c, rfl, q1⟩ := q1;cases r1;refine BO ?_;cases c with
 |true => exact hb pI s1 σ H1 Q I1 q1
 |false => exact⟨.bl Ad, H1, I1, rfl, q1⟩
theorem WS(ha : PE X a ta)(hb : PE X (.BoolOp .Or (b::rest) pos) tb) : PE X (.BoolOp .Or (a::b::rest) pos) (X4 ta tb) := by
 intro pI s σ H Q I h;refine BoolOp_or (thn (ha pI s σ H _ I h) fun v s1 ⟨x, H1, I1, r1, q1⟩ => ?_)
 obtain⟨c, rfl, q1⟩ := q1;cases r1;refine BO ?_;cases c with
 |false => exact hb pI s1 σ H1 Q I1 q1
 |true => exact⟨.bl Ab, H1, I1, rfl, q1⟩
theorem VD(ha : PE X a ta) : PE X (.UnaryOp .Not a pos) (Wv ta) := by
 intro pI s σ H Q I h;refine UnaryOp_ (thn (ha pI s σ H _ I h) fun v s1 ⟨x, H1, I1, r1, q1⟩ => ?_)
 obtain⟨c, rfl, q1⟩ := q1;cases r1;exact not_of (BO ⟨.bl (!c), H1, I1, rfl, q1⟩)
end
noncomputable def SqL(K : Fg)(H : Hp)(a : Ai)(xs : Ac V) : Prop:=
 Rd H a (.lst xs) \/
  ∃(o : AC)(its : A5 Ah)(n : Ae), K.lookup a = Aa o /\ o.cls = .type "list" /\ o.dict = Af /\ o.data = .seq its n /\ its.size <= sizeLine /\ AW xs its.toList
noncomputable def SqT(K : Fg)(H : Hp)(a : Ai)(xs : Ac V) : Prop:=
 Rd H a (.tup xs) \/
  ∃(o : AC)(its : A5 Ah)(n : Ae), K.lookup a = Aa o /\ o.cls = .type "tuple" /\ o.data = .seq its n /\ its.size <= sizeLine /\ AW xs its.toList
noncomputable def Yk : Ah -> Am V
 |.none => Aa .non
 |.bool b => Aa (.bl b)
 |.int i _ => Aa (.int i)
 |.str x _ => Aa (.str x)
 |.bytes b _ => Aa (.byt b)
 |.float b _ => Aa (.flt b)
 |.ref a => Aa (.ref a)
 |.type n => Aa (.ty n)
 |_ => Af
theorem A7.abs{x:V}(r : A7 x u) : Yk u = Aa x := by
 cases x with
 |non => cases r;rfl
 |bl _ => cases r;rfl
 |int _ => obtain⟨t, rfl⟩ := r;rfl
 |str _ => obtain⟨t, rfl⟩ := r;rfl
 |byt _ => obtain⟨t, rfl⟩ := r;rfl
 |flt _ => obtain⟨t, rfl⟩ := r;rfl
 |ref _ => cases r;rfl
 |ty _ => cases r;rfl
theorem A7.inj{x:V}(r : A7 x u)(q : A7 y u) : x = y := Bv (r.abs.symm.trans q.abs)
theorem AW.inj : ∀{xs ys : Ac V}{us : Ac Ah}, AW xs us -> AW ys us -> xs = ys
 |_, _, _, .nil, .nil => rfl
 |_, _, _, .cons r t, .cons r' t' => by rw[r.inj r', AW.inj t t']
section
variable{X : Cx}{pI : Ac (Ai × AC)}{σ : St}{H : Hp}{s : Al}{a : Ai}{xs ys : Ac V}
theorem SqL.of{K : Fg}(h : H a = Aa (.lst xs)) : SqL K H a xs := .inl (.inl h)
theorem SqT.of{K : Fg}(h : H a = Aa (.tup xs)) : SqT K H a xs := .inl (.inl h)
theorem Inv.list(I : Inv X pI σ H s)(h : SqL X.K H a xs) : ∃ its : Ac Ah, AW xs its /\ PlainL s.heap a its.toArray /\ xs.length <= sizeLine := by
 rcases h with h|⟨o, its, n, hk, hc, hd, hs, hz, r⟩
 ·obtain⟨z, its, n, r, e⟩ := h.ok I.hok;exact⟨its, r, ⟨_, n, e, rfl, rfl, rfl⟩, z⟩
 ·refine⟨its.toList, r, ⟨o, n, I.kIn a o hk, hc, hd, by simpa using hs⟩, ?_⟩
  have e := r.length;simp only[EA]at e;omega
theorem Inv.tuple(I : Inv X pI σ H s)(h : SqT X.K H a xs) : ∃ its : Ac Ah, AW xs its /\ GZ s.heap a its.toArray /\ xs.length <= sizeLine := by
 rcases h with h|⟨o, its, n, hk, hc, hs, hz, r⟩
 ·obtain⟨z, its, r, p⟩ := h.ok I.hok;exact⟨its, r, p, z⟩
 ·refine⟨its.toList, r, ⟨o, I.kIn a o hk, hc, n, by simpa using hs⟩, ?_⟩
  have e := r.length;simp only[EA]at e;omega
theorem Inv.list_inj(I : Inv X pI σ H s)(h : SqL X.K H a xs)(h' : SqL X.K H a ys) : xs = ys := by
 obtain⟨its, r, ⟨o, n, e, _, _, d⟩, _⟩ := I.list h;obtain⟨its', r', ⟨o', n', e', _, _, d'⟩, _⟩ := I.list h';rw[e]at e';cases e';rw[d]at d'
 injection d' with d1 _
 have : its = its' := by simpa using congrArg Pb d1
 subst this;exact r.inj r'
theorem Inv.tuple_inj(I : Inv X pI σ H s)(h : SqT X.K H a xs)(h' : SqT X.K H a ys) : xs = ys := by
 obtain⟨its, r, ⟨o, e, _, n, d⟩, _⟩ := I.tuple h;obtain⟨its', r', ⟨o', e', _, n', d'⟩, _⟩ := I.tuple h';rw[e]at e';cases e';rw[d]at d'
 injection d' with d1 _
 have : its = its' := by simpa using congrArg Pb d1
 subst this;exact r.inj r'
end
noncomputable abbrev Cx.wish(X : Cx)(E : Ah -> Al -> Prop) : Cx := {X with xe := E}
noncomputable abbrev Cx.nox(X : Cx) : Cx := X.wish fun _ _ => AH
theorem Cx.Ok.wish(ok : X.Ok)(E : Ah -> Al -> Prop) : (X.wish E).Ok:=
 ⟨ok.mod, ok.kind, ok.glob, ok.blt, ok.above, ok.inj, ok.has, ok.cab, ok.hd, ok.frames, ok.stk, ok.exf, ok.bs, ok.bsz, ok.noex, ok.exfs, ok.funs, ok.frf⟩
theorem Cx.Ok.unwish{E : Ah -> Al -> Prop}(ok : (X.wish E).Ok) : X.Ok:=
 ⟨ok.mod, ok.kind, ok.glob, ok.blt, ok.above, ok.inj, ok.has, ok.cab, ok.hd, ok.frames, ok.stk, ok.exf, ok.bs, ok.bsz, ok.noex, ok.exfs, ok.funs, ok.frf⟩
section
variable{X : Cx}{pI : Ac (Ai × AC)}{σ : St}{H : Hp}{s : Al}{E : Ah -> Al -> Prop}
theorem Inv.wish(I : Inv X pI σ H s)(E : Ah -> Al -> Prop) : Inv (X.wish E) pI σ H s := ⟨I.ok.wish E, I.os, I.bare, I.base, I.loc, I.cell, I.free, I.freeC, I.pin, I.hok, I.len⟩
theorem Inv.unwish(I : Inv (X.wish E) pI σ H s) : Inv X pI σ H s := ⟨I.ok.unwish, I.os, I.bare, I.base, I.loc, I.cell, I.free, I.freeC, I.pin, I.hok, I.len⟩
theorem SP.unwish{D : Ends}{f : Flow}{s' : Al}(h : SP (X.wish E) pI D f s') : SP X pI D f s' := by
 cases f with
 |next => obtain⟨σ', H', I, q⟩ := h;exact⟨σ', H', I.unwish, q⟩
 |brk => obtain⟨σ', H', I, q⟩ := h;exact⟨σ', H', I.unwish, q⟩
 |cont => obtain⟨σ', H', I, q⟩ := h;exact⟨σ', H', I.unwish, q⟩
 |ret u => obtain⟨v, σ', H', I, r, q⟩ := h;exact⟨v, σ', H', I.unwish, r, q⟩
theorem PSs.nox{st:Ac A2}{t:TS}(h : PSs X.nox st t) : PSs X st t := fun pI s σ H D I hw=>
 AV (h pI s σ H D (I.wish _) hw) (fun _ _ q => q.unwish) fun _ _ z => AT z
end
section
variable{X : Cx}{st : A2}{rest : Ac A2}{t u : TS}{e : Ao}{te : TE}{pos : AJ}
noncomputable def Ww : TS := fun D σ H => D.nx σ H
noncomputable def X2(t u : TS) : TS := fun D σ H => t {D with nx := u D} σ H
theorem T4 : PSs X [] Ww := fun _ _ σ H _ I h => Dx ⟨σ, H, I, h⟩
theorem Mv(h1 : PS X st t)(h2 : PSs X rest u) : PSs X (st::rest) (X2 t u) := by
 intro pI s σ H D I h;refine Fm (thn (h1 pI s σ H {D with nx := u D} I h) fun f s1 q => ?_)
 cases f with
 |next=>
  obtain⟨σ', H', I', q⟩ := q;exact h2 pI s1 σ' H' D I' q
 |ret v => exact q
 |brk => exact q
 |cont => exact q
theorem HY(h1 : PS X st t) : PSs X [st] t := by
 intro pI s σ H D I h;refine Fm (thn (h1 pI s σ H D I h) fun f s1 q => ?_)
 cases f with
 |next => exact Dx q
 |ret v => exact q
 |brk => exact q
 |cont => exact q
theorem Inv.quiet(I : Inv X pI σ H s) : interactive X.env = Ad := by simp[interactive, I.ok.kind]
noncomputable def Wx(te : TE) : TS := fun D σ H => te σ H fun _ H1 => D.nx σ H1
theorem IV(he : PE X e te)(hs : Co e Af pos.line X.env = pure Ad := by rfl) : PS X (.Expr e pos) (Wx te) := by
 intro pI s σ H D I h;exact wpAny_Expr_any (thn (he pI s σ H _ I h) fun v s1 ⟨x, H1, I1, r1, q1⟩ => ⟨σ, H1, I1, q1⟩) I.quiet hs
noncomputable def X3(te : TE) : TS := fun D σ H => te σ H D.rt
theorem Kt(he : PE X e te) : PS X (.Return (Aa e) pos) (X3 te) := by
 intro pI s σ H D I h;exact wpAny_Return_some (thn (he pI s σ H _ I h) fun v s1 ⟨x, H1, I1, r1, q1⟩ => ⟨x, σ, H1, I1, r1, q1⟩)
noncomputable def X8(c : TT)(t u : TS) : TS := fun D σ H => c σ H fun b H1 => if b = Ab then t D σ H1 else u D σ H1
theorem WR{c:Ao}{a b:Ac A2}{tc:TT}(hc : PT X c tc)(ha : PSs X a t)(hb : PSs X b u) : PS X (.If c a b pos) (X8 tc t u) := by
 intro pI s σ H D I h;refine wpAny_If (thn (hc pI s σ H _ I h) fun d s1 ⟨H1, I1, q1⟩ => ?_)
 cases d with
 |true => exact ha pI s1 σ H1 D I1 q1
 |false => exact hb pI s1 σ H1 D I1 q1
end
noncomputable abbrev TG := V -> St -> Hp -> (St -> Hp -> Prop) -> Prop
noncomputable abbrev TGs := Ac V -> St -> Hp -> (St -> Hp -> Prop) -> Prop
noncomputable def PG(X : Cx)(target : Ao)(t : TG) : Prop:=
 ∀(pI : Ac (Ai × AC))(s : Al)(σ : St)(H : Hp)(v : V)(u : Ah)(Q : St -> Hp -> Prop), Inv X pI σ H s -> A7 v u -> t v σ H Q ->
  Au (model X.prog X.w) X.A (assign target X.env u) (fun _ s' => ∃ σ' H', Inv X pI σ' H' s' /\ Q σ' H') X.xe s
noncomputable def PGs(X : Cx)(ts : Ac Ao)(t : TGs) : Prop:=
 ∀(pI : Ac (Ai × AC))(s : Al)(σ : St)(H : Hp)(vs : Ac V)(us : Ac Ah)(Q : St -> Hp -> Prop), Inv X pI σ H s -> AW vs us -> t vs σ H Q ->
  Au (model X.prog X.w) X.A (assignInOrder ((Cj ts X.env).map (·.2)) us) (fun _ s' => ∃ σ' H', Inv X pI σ' H' s' /\ Q σ' H') X.xe s
noncomputable abbrev Lx := V -> V -> V -> Hp -> (Hp -> Prop) -> Prop
noncomputable def O4(X : Cx)(t : Lx) : Prop:=
 ∀(pI : Ac (Ai × AC))(s : Al)(σ : St)(H : Hp)(o i v : V)(ov iv u : Ah)(Q : Hp -> Prop), Inv X pI σ H s -> A7 o ov -> A7 i iv -> A7 v u -> t o i v H Q ->
  Au (model X.prog X.w) X.A (setItem ov iv u) (fun _ s' => ∃ H', Inv X pI σ H' s' /\ Q H') X.xe s
section
variable{X : Cx}{pos : AJ}
noncomputable def E3(i : Ae) : TG := fun v σ H Q => Q (σ.set i (Aa v)) H
theorem IW(hN : X.N.Nodup)(hi : X.N[i]? = Aa x)(hx : Loc X.env.scope x)(hf : X.fn x = Ab \/ X.env.scope.names.lookup x = Aa .local := by first|exact .inl rfl|exact .inr rfl|assumption) : PG X (.Name x pos) (E3 i) := by
 intro pI s σ H v u Q I r h;exact Qz (JQ I hN hi hx r (fun s' I' => ⟨_, H, I', h⟩) hf)
noncomputable def Iw : TGs := fun vs σ H Q => vs = [] /\ Q σ H
noncomputable def Ip(t : TG)(u : TGs) : TGs := fun vs σ H Q => ∃ v r, vs = v::r /\ t v σ H fun σ' H' => u r σ' H' Q
theorem Tb : PGs X [] Iw := by
 intro pI s σ H vs us Q I r h;obtain⟨e, h⟩ := h;subst e;cases r;exact assignInOrder_nil ⟨σ, H, I, h⟩
theorem Sk{t:TG}{u:TGs}(h1 : PG X e t)(h2 : PGs X es u)(hs : (Cj (e::es) X.env).map (·.2) = assign e X.env::(Cj es X.env).map (·.2) := by rfl) : PGs X (e::es) (Ip t u) := by
 intro pI s σ H vs us Q I r h;obtain⟨v, vr, e1, h⟩ := h;subst e1;cases r with
 |cons r rr=>
  rw[hs];refine assignInOrder_cons (thn (h1 pI s σ H _ _ _ I r h) fun _ s1 ⟨σ1, H1, I1, q1⟩ => ?_)
  exact h2 pI s1 σ1 H1 _ _ Q I1 rr q1
noncomputable def Ls(K : Fg)(n : Ae)(t : TGs) : TG := fun v σ H Q => ∃ a xs, v = .ref a /\ SqT K H a xs /\ xs.length = n /\ t xs σ H Q
theorem VA{t:TGs}(hc : X.calm = Ab)(h : PGs X es t)(hn : (Cj es X.env).length = n := by rfl)(hst : (Cj es X.env).findIdx? (·.1) = Af := by rfl) : PG X (.Tuple es k pos) (Ls X.K n t) := by
 intro pI s σ H v u Q I r hw;obtain⟨a, xs, e1, hq, hl, hw⟩ := hw;subst e1;cases r;obtain⟨its, rv, ht, hz⟩ := I.tuple hq;refine assign_Tuple_tuple (I.ok.hd hc) ht (by simp[hn, <-hl, rv.length]) hst fun h' hx => ?_
 have I1 : Inv X pI σ H {s with heap := h'} := I.kept (t' := s.toks) fun b o e => hx b o (Bl (AA e)) e
 exact h pI _ σ H xs _ Q I1 (by simpa using rv) hw
noncomputable def Yj(to ti : TE)(t : Lx) : TG := fun v σ H Q => to σ H fun o H1 => ti σ H1 fun i H2 => t o i v H2 fun H3 => Q σ H3
theorem VB{o i:Ao}{to ti:TE}{t:Lx}(ho : PE X o to)(hi : PE X i ti)(hs : O4 X t)(ha : ∀ v, assign (.Subscript o i pos) X.env v = (do
   let ov <-holding [v] (eval o X.env)
   let iv <-holding [v, ov] (eval i X.env)
   GJ pos
   holding [v, ov, iv] (setItem ov iv v)
   release [v, ov, iv] []) := by intro _;rfl) : PG X (.Subscript o i pos) (Yj to ti t) := by
 intro pI s σ H v u Q I r h;rw[ha];refine Ap (CC (thn (ho pI s σ H _ I h) fun ov s1 ⟨x, H1, I1, r1, q1⟩ => ?_))
 refine Ap (CC (thn (hi pI s1 σ H1 _ I1 q1) fun iv s2 ⟨y, H2, I2, r2, q2⟩ => ?_))
 refine Ap (CU (Ap (CC (thn (hs pI s2 σ H2 x y v ov iv u _ I2 r1 r2 r q2) fun _ s3 ⟨H3, I3, q3⟩ => ?_))))
 exact wpAny_release ⟨σ, H3, I3, q3⟩
noncomputable def Ju(te : TE)(g : TG) : TS := fun D σ H => te σ H fun x H1 => g x σ H1 D.nx
theorem UE{g:TG}(he : PE X e te)(hg : PG X tg g)(hs : Gb [tg] e pos.line X.env = pure Ad := by rfl)(hw : swappedStores [tg] e X.env = pure Af := by rfl)(h1 : (Cj [tg] X.env).map (·.2) = [assign tg X.env] := by rfl) : PS X (.Assign [tg] e pos) (Ju te g) := by
 intro pI s σ H D I h;refine wpAny_Assign_stores (thn (he pI s σ H _ I h) fun v s1 ⟨x, H1, I1, r1, q1⟩ => ?_) hs hw
 rw[h1];exact thn (hg pI s1 σ H1 x v _ I1 r1 q1) fun _ s2 q => q
theorem Jh{pos':AJ}(hN : X.N.Nodup)(hi : X.N[i]? = Aa x)(hx : Loc X.env.scope x)(he : PE X e te)(hs : Co e (Aa (.Name x pos')) pos.line X.env = pure Ad := by rfl)(hf : X.fn x = Ab \/ X.env.scope.names.lookup x = Aa .local := by first|exact .inl rfl|exact .inr rfl|assumption):PS X (.Assign [.Name x pos'] e pos) (Ju te (E3 i)) := by
 intro pI s σ H D I h;refine wpAny_Assign_Name (thn (he pI s σ H _ I h) fun v s1 ⟨y, H1, I1, r1, q1⟩ => ?_) hs
 exact JQ I1 hN hi hx r1 (fun s2 I2 => ⟨_, H1, I2, q1⟩) hf
end
section
variable{X : Cx}{pos : AJ}
end
structure It where
 go : Ae -> Hp -> Prop
 yld : Ae -> Hp -> V -> Hp -> Prop
 stop : Ae -> Hp -> Prop
noncomputable def FL(X : Cx)(pI : Ac (Ai × AC))(H : Hp)(b : Ai) : Prop:=
 H b = Af /\ b ≠ X.env.locals /\ b ∉ X.fs /\ (b ∈ X.ex \/ X.s₀.heap.objs.size <= b) /\ (∀ x c, X.env.cells.lookup x = Aa c -> c ≠ b) /\ ∀ p ∈ X.pn++pI, p.1 ≠ b
theorem Inv.fpOk{H':Hp}(I : Inv X pI σ H s)(hb : s.heap.objs.size <= b)(hn : H' b = Af) : FL X pI H' b := by
 refine⟨hn, PK (Ay I.lt hb), I.nofs hb, .inr (BJ I.sz hb), fun x c e z => ?_, fun p hp z => ?_⟩
 ·obtain⟨v, q⟩ := I.cell x c e;exact absurd (Ay q.lt (by rw[z];exact hb)) (A9 _)
 ·exact absurd (Ay (AA (I.pin p hp).1) (by rw[z];exact hb)) (A9 _)
structure Turn (P : AD) (w : AO) (K : Fg) (tg : Ao) (J : It) (fp : Ac Ai) (it : Ai) (tn : Ae -> Ax -> Prop) : Prop where
 mem : it ∈ fp
 obj : ∀ i h, tn i h -> ∀ b ∈ fp, ∃ o, h.get? b = Aa o /\ ∀ v, o.data ≠ .cell v
 keep : ∀ i h h', tn i h -> (∀ b ∈ fp, ∀ o, h.get? b = Aa o -> h'.get? b = Aa o) -> tn i h'
 item : ∀(X : Cx), X.prog = P -> X.w = w -> X.K = K -> X.calm = Ab -> ∀(i : Ae)(pI : Ac (Ai × AC))(s : Al)(σ : St)(H : Hp)(E : Ah -> Al -> Prop), Inv X pI σ H s -> (∀ b ∈ fp, FL X pI H b) -> tn i s.heap -> J.go i H ->
  Au (model P w) X.A (pyNext (.ref it)) (fun r s1 => ∃ u, r = Aa u /\
   Au (model P w) X.A (Er tg (.ref it) u) (fun _ s2 => ∃ x H', Inv X pI σ H' s2 /\ A7 x u /\ J.yld i H x H' /\ tn (i+1) s2.heap /\ ∀ b ∈ fp, H' b = Af) E s1) E s
 done : ∀(X : Cx), X.prog = P -> X.w = w -> X.K = K -> X.calm = Ab -> ∀(i : Ae)(pI : Ac (Ai × AC))(s : Al)(σ : St)(H : Hp)(E : Ah -> Al -> Prop), Inv X pI σ H s -> (∀ b ∈ fp, FL X pI H b) -> tn i s.heap -> J.stop i H ->
  Au (model P w) X.A (pyNext (.ref it)) (fun r s1 => r = Af /\ Inv X pI σ H s1) E s
 self : ∀(A : AN)(i : Ae)(s : Al)(Q : Ah -> Al -> Prop)(E : Ah -> Al -> Prop), tn i s.heap -> Q (.ref it) s -> Au (model P w) A (pyIter (.ref it)) Q E s
noncomputable abbrev TI := St -> Hp -> (It -> Hp -> Prop) -> Prop
noncomputable def PIE(X : Cx)(pI : Ac (Ai × AC))(σ : St)(tg : Ao)(R : It -> Hp -> Prop)(itv : Ah)(s2 : Al) : Prop:=
 ∃(it : Ai)(fp : Ac Ai)(tn : Ae -> Ax -> Prop)(J : It)(H' : Hp), itv = .ref it /\ Inv X pI σ H' s2 /\ Turn X.prog X.w X.K tg J fp it tn /\ tn 0 s2.heap /\ (∀ b ∈ fp, FL X pI H' b) /\ R J H'
noncomputable def PI(X : Cx)(tg iter : Ao)(wi : TI) : Prop:=
 ∀(pI : Ac (Ai × AC))(s : Al)(σ : St)(H : Hp)(R : It -> Hp -> Prop), Inv X pI σ H s -> wi σ H R ->
  Au (model X.prog X.w) X.A (eval iter X.env) (fun v s1 => Au (model X.prog X.w) X.A (pyIter v) (PIE X pI σ tg R) X.xe s1) X.xe s
theorem Ld{A : AN}{E : Ah -> Al -> Prop}{n:Cv}{vs:A5 Ah}{Q:EF -> Al -> Prop}(ho : s.heap.get? it = Aa o)(hc : o.cls = .type n)(hd : o.data = .fields vs)(hn : ["enumerate", "zip", "dict_itemiterator", "dict_reverseitemiterator", "odict_iterator", "itertools.zip_longest", "itertools.pairwise"].contains n = Ad)(hQ : Q () s) : Au M A (Er tg (.ref it) u) Q E s := by
  unfold Er;cases tg <;> first
    |exact AS hQ
    | (cases u <;> first
        |exact AS hQ
        | (refine Ap (wpAny_load ho ?_)
           rw[hc, hd];show Au M A (if (["enumerate", "zip", "dict_itemiterator", "dict_reverseitemiterator", "odict_iterator", "itertools.zip_longest", "itertools.pairwise"].contains n&&vs[0]? == Aa (EW _)) = Ab then _ else _) Q E s
           rw[AE (by intro h;rw[hn, Bool.false_and]at h;cases h)]
           exact AS hQ))
noncomputable def Itl(K : Fg)(a : Ai) : It:=
 ⟨fun i H => ∃ xs x, SqL K H a xs /\ xs[i]? = Aa x, fun i H x H' => H' = H /\ ∀ xs, SqL K H a xs -> xs[i]? = Aa x, fun i H => ∃ xs, SqL K H a xs /\ xs.length <= i⟩
noncomputable def Itt(K : Fg)(a : Ai) : It:=
 ⟨fun i H => ∃ xs x, SqT K H a xs /\ xs[i]? = Aa x, fun i H x H' => H' = H /\ ∀ xs, SqT K H a xs -> xs[i]? = Aa x, fun i H => ∃ xs, SqT K H a xs /\ xs.length <= i⟩
noncomputable def Itr(lo : Ag)(n : Ae) : It := ⟨fun i _ => i<n, fun i H x H' => H' = H /\ x = .int (lo+i), fun i _ => n <= i⟩
theorem QZ{w : AO}{K : Fg}(a it : Ai) : Turn P w K tg (Itl K a) [it] it (fun i h => h.IsListIter it a i) where
 mem := by simp
 obj := fun i h st b hb => by
  have e : b = it := by simpa using hb
  subst e;obtain⟨o, e, c, d⟩ := st;exact⟨o, e, fun v z => by rw[d]at z;cases z⟩
 keep := fun i h h' st k => st.at fun o e => k it (by simp) o e
 item := by
  intro X hP hw hK hc i pI s σ H E I hf st hg;subst hP hw hK;obtain⟨xs, x, hq, hx⟩ := hg;obtain⟨its, rv, p, hz⟩ := I.list hq;obtain⟨u, hu, ru⟩ := rv.get hx;obtain⟨f0, f1, f2, f3, f4, f5⟩ := hf it (by simp)
  refine wpAny_pyNext_list_item st p.isList (x := u) (by simpa using hu) fun h' st' sb => ?_
  have I1 : Inv X pI σ H {s with heap := h'} := I.turned (t' := s.toks) (fun b o hb e => (sb.2 b hb).trans e) f0 f1 f3 f4 f5
  obtain⟨o, e, c, d⟩ := id st';exact⟨u, rfl, Ld (s := {s with heap := h'}) e c d (by decide) ⟨x, H, I1, ru, ⟨rfl, fun ys hy => by rw[I.list_inj hy hq];exact hx⟩, st', fun b hb => (hf b hb).1⟩⟩
 done := by
  intro X hP hw hK hc i pI s σ H E I hf st hg;subst hP hw hK;obtain⟨xs, hq, hx⟩ := hg;obtain⟨its, rv, p, hz⟩ := I.list hq;obtain⟨f0, f1, f2, f3, f4, f5⟩ := hf it (by simp)
  have hl := rv.length;exact wpAny_pyNext_list_end (I.ok.hd hc) st p.isList (by simp;omega) fun h' eb => ⟨rfl, I.turned (t' := s.toks) (fun b o hb e => eb b o hb e) f0 f1 f3 f4 f5⟩
 self := fun _ _ _ _ _ st h => wpAny_pyIter_listiter st h
theorem QM{w : AO}{K : Fg}(a it : Ai) : Turn P w K tg (Itt K a) [it] it (fun i h => h.IsTupleIter it a i) where
 mem := by simp
 obj := fun i h st b hb => by
  have e : b = it := by simpa using hb
  subst e;obtain⟨o, e, c, d⟩ := st;exact⟨o, e, fun v z => by rw[d]at z;cases z⟩
 keep := fun i h h' st k => st.at fun o e => k it (by simp) o e
 item := by
  intro X hP hw hK hc i pI s σ H E I hf st hg;subst hP hw hK;obtain⟨xs, x, hq, hx⟩ := hg;obtain⟨its, rv, p, hz⟩ := I.tuple hq;obtain⟨u, hu, ru⟩ := rv.get hx;obtain⟨f0, f1, f2, f3, f4, f5⟩ := hf it (by simp)
  refine wpAny_pyNext_tuple_item st (show s.heap.IsTuple a its.toArray from p) (x := u) (by simpa using hu) fun h' st' sb => ?_
  have I1 : Inv X pI σ H {s with heap := h'} := I.turned (t' := s.toks) (fun b o hb e => (sb.2 b hb).trans e) f0 f1 f3 f4 f5
  obtain⟨o, e, c, d⟩ := id st';exact⟨u, rfl, Ld (s := {s with heap := h'}) e c d (by decide) ⟨x, H, I1, ru, ⟨rfl, fun ys hy => by rw[I.tuple_inj hy hq];exact hx⟩, st', fun b hb => (hf b hb).1⟩⟩
 done := by
  intro X hP hw hK hc i pI s σ H E I hf st hg;subst hP hw hK;obtain⟨xs, hq, hx⟩ := hg;obtain⟨its, rv, p, hz⟩ := I.tuple hq;obtain⟨f0, f1, f2, f3, f4, f5⟩ := hf it (by simp)
  have hl := rv.length;exact wpAny_pyNext_tuple_end (I.ok.hd hc) st (show s.heap.IsTuple a its.toArray from p) (by simp;omega) fun h' eb => ⟨rfl, I.turned (t' := s.toks) (fun b o hb e => eb b o hb e) f0 f1 f3 f4 f5⟩
 self := fun _ _ _ _ _ st h => wpAny_pyIter_tupleiter st h
theorem QN{w : AO}{K : Fg}(it : Ai)(lo : Ag)(n : Ae) : Turn P w K tg (Itr lo n) [it] it (fun i h => IsRangeIter h it (lo+(i : Ae)*1) ((n : Ag)-(i : Ae)) 1) where
 mem := by simp
 obj := fun i h st b hb => by
  have e : b = it := by simpa using hb
  subst e;exact⟨_, st, fun v z => by
   have z' : Data.fields _ = HE v := z;cases z'⟩
 keep := fun i h h' st k => k it (by simp) _ st
 item := by
  intro X hP hw hK hc i pI s σ H E I hf st hg;subst hP hw hK;obtain⟨f0, f1, f2, f3, f4, f5⟩ := hf it (by simp)
  have W := Walks.range (prog := X.prog) (w := X.w) (I.ok.hd hc) it lo 1 n;refine W.item i s _ _ hg st fun v h' tk hv st' kk => ?_
  obtain⟨t, rfl⟩ := hv;have I1 : Inv X pI σ H {s with heap := h', toks := tk} := I.turned (fun b o hb e => kk b o (by simpa using hb) e) f0 f1 f3 f4 f5
  refine⟨_, rfl, Ld (s := {s with heap := h', toks := tk}) (n := "range_iterator") st' rfl rfl (by decide) ⟨.int (lo+i), H, I1, ⟨t, ?_⟩, ⟨rfl, rfl⟩, st', fun b hb => (hf b hb).1⟩⟩
  rw[C3]
 done := by
  intro X hP hw hK hc i pI s σ H E I hf st hg;subst hP hw hK;obtain⟨f0, f1, f2, f3, f4, f5⟩ := hf it (by simp)
  exact wpAny_pyNext_range_end (I.ok.hd hc) st (by have : n <= i := hg;omega) fun h' eb => ⟨rfl, I.turned (t' := s.toks) (fun b o hb e => eb b o hb e) f0 f1 f3 f4 f5⟩
 self := fun _ _ _ _ _ st h => wpAny_pyIter_rangeiter st h
section
variable{X : Cx}{tg : Ao}
theorem Mu{R : It -> Hp -> Prop}{E : Ah -> Al -> Prop}{lo hi:Ag}{t u v:B1}{tk:Ae}(I : Inv X pI σ H s)(h1 : -(2 ^ 62) <= lo)(h2 : lo<2 ^ 62)(h3 : -(2 ^ 62) <= hi)(h4 : hi<2 ^ 62)(q : R (Itr lo (hi-lo).toNat) H) : Au (model X.prog X.w) X.A (pyIter (.ref s.heap.objs.size)) (PIE X pI σ tg R) E { s with heap := s.heap.push { cls := .type "range", data := .fields #[.int lo t, .int hi u, .int 1 v] }, toks := tk } := by
 refine wpAny_pyIter_range (IsRange.new ..) (small_one h1 h2 h3 h4) ?_;have I1 : Inv X pI σ H { s with heap := s.heap.push { cls := .type "range", data := .fields #[.int lo t, .int hi u, .int 1 v] }, toks := tk } := I.kept fun b o e => As _ e
 refine⟨(s.heap.push { cls := .type "range", data := .fields #[.int lo t, .int hi u, .int 1 v] }).objs.size, [(s.heap.push { cls := .type "range", data := .fields #[.int lo t, .int hi u, .int 1 v] }).objs.size], _, _, H, rfl,
  I1.kept (t' := tk) fun b o e => As _ e, QN _ lo (hi-lo).toNat, ?_, fun b hb => ?_, q⟩
 ·have e1 : lo+((0 : Ae) : Ag)*1 = lo := by simp
  have e2 : (((hi-lo).toNat : Ae) : Ag)-((0 : Ae) : Ag) = Builtin.Range.rangeSize lo hi 1 := by rw[rangeSize_one];split <;> omega
  show IsRangeIter _ _ (lo+((0 : Ae) : Ag)*1) ((((hi-lo).toNat : Ae) : Ag)-((0 : Ae) : Ag)) 1;rw[e1, e2];exact Be _ rfl
 ·have e : b = (s.heap.push { cls := .type "range", data := .fields #[.int lo t, .int hi u, .int 1 v] }).objs.size := by simpa using hb
  subst e;exact I1.fpOk (AL _) (I1.hok.fresh (AL _))
noncomputable def XF(ta : TA) : TI := fun σ H R => ta σ H fun vs H1 => ∃ j : Ag, vs = [.int j] /\ -(2 ^ 62) <= j /\ j<2 ^ 62 /\ R (Itr 0 j.toNat) H1
noncomputable def XE(ta : TA) : TI := fun σ H R => ta σ H fun vs H1 => ∃ i j : Ag, vs = [.int i, .int j] /\ (-(2 ^ 62) <= i /\ i<2 ^ 62 /\ -(2 ^ 62) <= j /\ j<2 ^ 62) /\ R (Itr i (j-i).toNat) H1
theorem RB{a:Ao}{p:AJ}(hg : Gl X "range")(hm : X.mg "range" = Af)(ha : PA X [a] ta)(hs : Ar [a] X.env = [(Ad, eval a X.env)] := by rfl) : PI X tg (.Call (.Name "range" p) [a] [] pos) (XF ta) := by
 intro pI s σ H R I h;refine Call_ (Ih I hg hm boot_range (Dg (thn (ha pos pI s σ H _ I h) fun us s1 ⟨vs, H1, I1, r1, q1⟩ => ?_) hs rfl))
 obtain⟨j, e, q1, q2, q⟩ := q1;subst e;cases r1 with
 |cons r rr=>
  cases rr;obtain⟨t, rfl⟩ := r;exact call_range_1 (Mu I1 (by omega) (by omega) q1 q2 (by simpa using q))
theorem RA{a b:Ao}{p:AJ}(hg : Gl X "range")(hm : X.mg "range" = Af)(ha : PA X [a, b] ta)(hs : Ar [a, b] X.env = [(Ad, eval a X.env), (Ad, eval b X.env)] := by rfl)(hs2 : Ar [b] X.env = [(Ad, eval b X.env)] := by rfl):
  PI X tg (.Call (.Name "range" p) [a, b] [] pos) (XE ta) := by
 intro pI s σ H R I h;refine Call_ (Ih I hg hm boot_range (Dg (thn (ha pos pI s σ H _ I h) fun us s1 ⟨vs, H1, I1, r1, q1⟩ => ?_) (by rw[hs, hs2]) (by rw[hs2];rfl)))
 obtain⟨i, j, e, ⟨q1, q2, q3, q4⟩, q⟩ := q1;subst e;cases r1 with
 |cons r rr=>
  cases rr with
  |cons r' rr=>
   cases rr;obtain⟨t, rfl⟩ := r;obtain⟨t', rfl⟩ := r';exact call_range_2 (Mu I1 q1 q2 q3 q4 q)
noncomputable def X9(wi : TI)(g : TG)(tb : TS) : TS := fun D σ H => wi σ H fun J H1 => ∃ W : Ae -> Ae -> St -> Hp -> Prop, (∃ m, W 0 m σ H1) /\ ∀ i m σ H, W i m σ H ->
 (J.stop i H /\ D.nx σ H) \/ (J.go i H /\ ∃ N : St -> Hp -> Prop, (∀ σ' H', N σ' H' -> ∃ m', m'<m /\ W (i+1) m' σ' H') /\ ∀ x H', J.yld i H x H' -> g x σ H' fun σ2 H2 => tb {D with nx := N, ct := N, bk := D.nx} σ2 H2)
noncomputable def GR(fp : Ac Ai)(h : Ax) : Ac (Ai × AC) := fp.filterMap fun b => (h.get? b).map fun o => (b, o)
theorem IQ(hb : b ∈ fp)(e : h.get? b = Aa o) : (b, o) ∈ GR fp h := List.mem_filterMap.mpr ⟨b, hb, by rw[e];rfl⟩
theorem Mb{p:Ai × AC}(hp : p ∈ GR fp h) : p.1 ∈ fp /\ h.get? p.1 = Aa p.2 := by
 obtain⟨b, hb, e⟩ := List.mem_filterMap.mp hp;cases q : h.get? b with
 |none => rw[q]at e;cases e
 |some o=>
  rw[q]at e;have e' : (b, o) = p := Bv e;subst e';exact⟨hb, q⟩
theorem Inv.pinned(I : Inv X pI σ H s)(hf : ∀ b ∈ fp, FL X pI H b)(ho : ∀ b ∈ fp, ∃ o, s.heap.get? b = Aa o /\ ∀ v, o.data ≠ .cell v) : Inv X (pI++GR fp s.heap) σ H s:=
 I.pins_of fun p hp => (Fw.mp hp).elim (fun z => I.pin p (A3 _ z)) fun z => by
  obtain⟨hb, e⟩ := Mb z;obtain⟨f0, f1, f2, _⟩ := hf p.1 hb;obtain⟨o, e', d⟩ := ho p.1 hb;rw[e]at e';cases e';exact⟨e, f0, f1, f2, d⟩
theorem Inv.unpinned{pl:Ac (Ai × AC)}(I : Inv X (pI++pl) σ H s) : Inv X pI σ H s := I.pins_of fun p hp => I.pin p (A3 _ (Ei _ hp))
theorem UD{iter:Ao}{wi:TI}{g:TG}{tb:TS}(hp : DE (model X.prog X.w) X.A X.env X.xe)(hc : X.calm = Ab)(hi : PI X tg iter wi)(hg : PG X tg g)(hb : PSs X body tb)(hs : ∀ x, B2 iter X.env x = pure x := by intro _;rfl) : PS X (.For tg iter body [] pos) (X9 wi g tb) := by
 intro pI s σ H D I h;refine wpAny_For (thn (hi pI s σ H _ I h) fun v s1 h1 => thn h1 fun itv s2 h2 => ?_) hs
 obtain⟨it, fp, tn, J, H2, e, I2, T, st2, f2, W, ⟨m0, w0⟩, turn⟩ := h2;subst e
 -- what stays Ab of the iterator's objects through the loop
 have stat : ∀{H' : Hp}, (∀ b ∈ fp, H' b = Af) -> ∀ b ∈ fp, FL X pI H' b := fun hn b hb => ⟨hn b hb, (f2 b hb).2⟩
 refine codeAny_forLoop_any (fun n s' => ∃ i σ' H', Inv X pI σ' H' s' /\ tn i s'.heap /\ (∀ b ∈ fp, H' b = Af) /\ W i n σ' H') ?_ m0 ⟨0, σ, H2, I2, st2, fun b hb => (f2 b hb).1, w0⟩
 rintro n s3 ⟨i, σ3, H3, I3, st3, fr3, w3⟩;rcases turn i n σ3 H3 w3 with ⟨stop, qn⟩|⟨go, N, hN, step⟩
 ·refine Dy hp (thn (T.done X rfl rfl rfl hc i pI s3 σ3 H3 X.xe I3 (stat fr3) st3 stop) fun r s4 ⟨hr, I4⟩ => ?_)
  subst hr;exact Dx ⟨σ3, H3, I4, qn⟩
 ·refine Dy hp (thn (T.item X rfl rfl rfl hc i pI s3 σ3 H3 X.xe I3 (stat fr3) st3 go) fun r s4 ⟨u, hr, h4⟩ => ?_)
  subst hr;refine Dy hp (thn h4 fun _ s5 ⟨x, H5, I5, r5, y5, st5, fr5⟩ => ?_)
  have I5' := I5.pinned (stat fr5) (T.obj _ _ st5);refine Dy hp (thn (hg _ s5 σ3 H5 x u _ I5' r5 (step x H5 y5)) fun _ s6 ⟨σ6, H6, I6, q6⟩ => ?_)
  refine Dy hp (thn (hb _ s6 σ6 H6 _ I6 q6) fun f s7 q7 => ?_)
  have again : ∀{σ7 : St}{H7 : Hp}, Inv X (pI++GR fp s5.heap) σ7 H7 s7 -> N σ7 H7 -> ∃ m, m<n /\ ∃ i σ' H', Inv X pI σ' H' s7 /\ tn i s7.heap /\ (∀ b ∈ fp, H' b = Af) /\ W i m σ' H' := fun {σ7 H7} I7 n7 => by
   obtain⟨m', hm, w7⟩ := hN σ7 H7 n7;refine⟨m', hm, i+1, σ7, H7, I7.unpinned, T.keep _ _ _ st5 fun b hb o e => (I7.pin (b, o) (A3 _ (A3 _ (IQ hb e)))).1, fun b hb => ?_, w7⟩
   obtain⟨o, e, d⟩ := T.obj _ _ st5 b hb;exact(I7.pin (b, o) (A3 _ (A3 _ (IQ hb e)))).2.1
  cases f with
  |next => obtain⟨σ7, H7, I7, n7⟩ := q7;exact again I7 n7
  |cont => obtain⟨σ7, H7, I7, n7⟩ := q7;exact again I7 n7
  |brk => obtain⟨σ7, H7, I7, q7⟩ := q7;exact⟨σ7, H7, I7.unpinned, q7⟩
  |ret v => obtain⟨x7, σ7, H7, I7, r7, q7⟩ := q7;exact⟨x7, σ7, H7, I7.unpinned, r7, q7⟩
end
noncomputable abbrev R2 := V -> V -> Hp -> VK -> Prop
variable{r r':R2}
noncomputable def OpR(X : Cx)(f : Ah -> Ah -> Sem Ah)(r : R2) : Prop:=
 ∀(pI : Ac (Ai × AC))(s : Al)(σ : St)(H : Hp)(x y : V)(v u : Ah)(Q : VK), Inv X pI σ H s -> A7 x v -> A7 y u -> r x y H Q ->
  Au (model X.prog X.w) X.A (f v u) (EP X pI σ Q) X.xe s
noncomputable def FH(X : Cx)(f : Ah)(r : Ac V -> Hp -> VK -> Prop) : Prop:=
 ∀(pI : Ac (Ai × AC))(s : Al)(σ : St)(H : Hp)(xs : Ac V)(us : Ac Ah)(Q : VK), Inv X pI σ H s -> AW xs us -> r xs H Q ->
  Au (model X.prog X.w) X.A (call f us) (EP X pI σ Q) X.xe s
noncomputable def Ym(X : Cx)(r : V -> Hp -> (An -> Hp -> Prop) -> Prop) : Prop:=
 ∀(pI : Ac (Ai × AC))(s : Al)(σ : St)(H : Hp)(x : V)(v : Ah)(Q : An -> Hp -> Prop), Inv X pI σ H s -> A7 x v -> r x H Q ->
  Au (model X.prog X.w) X.A (truthy v) (TP X pI σ Q) X.xe s
noncomputable def tOp(r : R2)(ta tb : TE) : TE := fun σ H Q => ta σ H fun x H1 => tb σ H1 fun y H2 => r x y H2 Q
noncomputable def rI(C : Ag -> Ag -> Prop)(g : Ag -> Ag -> V) : R2 := fun x y H Q => ∃ i j, x = .int i /\ y = .int j /\ C i j /\ Q (g i j) H
noncomputable def rI0(g : Ag -> Ag -> V) : R2 := fun x y H Q => ∃ i j, x = .int i /\ y = .int j /\ Q (g i j) H
section
variable{X : Cx}{a b c : Ao}{ta tb tc : TE}{pos : AJ}
theorem Lv(ha : PE X a ta)(hb : PE X b tb){R : V -> V -> Hp -> Prop}(I : Inv X pI σ H s)(h : ta σ H fun x H1 => tb σ H1 fun y H2 => R x y H2)(hf : ∀ v u s2 x y H2, Inv X pI σ H2 s2 -> A7 x v -> A7 y u -> R x y H2 -> Au (model X.prog X.w) X.A (f v u) Q X.xe s2):Au (model X.prog X.w) X.A (eval a X.env) (fun v s₁ =>Au (model X.prog X.w) X.A (eval b X.env) (fun u s₂ =>Au (model X.prog X.w) X.A (f v u) Q X.xe s₂) X.xe s₁) X.xe s := by
 refine thn (ha pI s σ H _ I h) fun v s1 ⟨x, H1, I1, r1, q1⟩ => ?_
 refine thn (hb pI s1 σ H1 _ I1 q1) fun u s2 ⟨y, H2, I2, r2, q2⟩ => ?_
 exact hf v u s2 x y H2 I2 r1 r2 q2
theorem OA{op:Fk}(ho : OpR X (Bp op) r)(ha : PE X a ta)(hb : PE X b tb) : PE X (.BinOp a op b pos) (tOp r ta tb) := by
 intro pI s σ H Q I h;exact wpAny_BinOp (Lv ha hb I h fun v u s2 x y H2 I2 rx ry q => ho pI s2 σ H2 x y v u Q I2 rx ry q)
theorem opI{C:Ag -> Ag -> Prop}(rule : ∀(i j : Ag)(t u : B1)(s : Al)(Q : Ah -> Al -> Prop)(E : Ah -> Al -> Prop), C i j -> Q (.int (g i j) s.toks) {s with toks := s.toks+1} -> Au (model X.prog X.w) X.A (f (.int i t) (.int j u)) Q E s):OpR X f (rI C fun i j =>.int (g i j)) := by
 intro pI s σ H x y v u Q I rx ry h;obtain⟨i, j, rfl, rfl, hc, q⟩ := h;obtain⟨t, rfl⟩ := rx;obtain⟨t', rfl⟩ := ry;exact rule i j t t' s _ _ hc ⟨.int (g i j), H, I.tok _, ⟨_, rfl⟩, q⟩
theorem OH(rule : ∀(i j : Ag)(t u : B1)(s : Al)(Q : Ah -> Al -> Prop)(E : Ah -> Al -> Prop), Q (.int (g i j) s.toks) {s with toks := s.toks+1} -> Au (model X.prog X.w) X.A (f (.int i t) (.int j u)) Q E s):OpR X f (rI0 fun i j =>.int (g i j)) := by
 intro pI s σ H x y v u Q I rx ry h;obtain⟨i, j, rfl, rfl, q⟩ := h;obtain⟨t, rfl⟩ := rx;obtain⟨t', rfl⟩ := ry;exact rule i j t t' s _ _ ⟨.int (g i j), H, I.tok _, ⟨_, rfl⟩, q⟩
theorem JA{g:Ag -> Ag -> An}(rule : ∀(i j : Ag)(t u : B1)(s : Al)(Q : Ah -> Al -> Prop)(E : Ah -> Al -> Prop), Q (.bool (g i j)) s -> Au (model X.prog X.w) X.A (f (.int i t) (.int j u)) Q E s):OpR X f (rI0 fun i j =>.bl (g i j)) := by
 intro pI s σ H x y v u Q I rx ry h;obtain⟨i, j, rfl, rfl, q⟩ := h;obtain⟨t, rfl⟩ := rx;obtain⟨t', rfl⟩ := ry;exact rule i j t t' s _ _ ⟨.bl (g i j), H, I, rfl, q⟩
noncomputable def Yq(i j : Ag) : Prop := 0<j /\ j<1073741824
noncomputable def Yp(i j : Ag) : Prop := 0 <= j /\ j <= 1000000 /\ i.natAbs<2 ^ 64
noncomputable def Jw(i j : Ag) : Prop := (-(2 ^ 64)<i /\ i<2 ^ 64) \/ (-(2 ^ 64)<j /\ j<2 ^ 64)
theorem Jw.ok{i j:Ag}(h : Jw i j) : HJ i j := by
 rcases h with ⟨h1, h2⟩|⟨h1, h2⟩
 ·exact .of_left (intBits_le_64 h1 h2)
 ·exact .of_right (intBits_le_64 h1 h2)
theorem VN : OpR X (Bp .Add) (rI0 fun i j => .int (i+j)) := OH fun _ _ _ _ _ _ _ q => add_int q
theorem VI : OpR X (Bp .Sub) (rI0 fun i j => .int (i-j)) := OH fun _ _ _ _ _ _ _ q => sub_int q
theorem Tp : OpR X (Bp .FloorDiv) (rI Yq fun i j => .int (i / j)) := opI fun i j _ _ _ _ _ hc q => by
 have h1 : (0 : Ag)<j := hc.1;have h2 : j<1073741824 := hc.2;exact floordiv_int (by omega) (by rw[Int.fdiv_eq_ediv_of_nonneg i (by omega)];exact q) (.inl (PyProof.noPylong_small (by omega)))
theorem VL : OpR X (Bp .Mod) (rI (fun _ j => 0<j) fun i j => .int (i%j)) := opI fun i j _ _ _ _ _ hc q => by
 have h1 : (0 : Ag)<j := hc;exact mod_int' (by omega) (by rw[Int.fmod_eq_emod_of_nonneg i (by omega)];exact q)
theorem VJ : OpR X (Bp .Pow) (rI Yp fun i j => .int (i ^ j.toNat)) := opI fun _ _ _ _ _ _ _ hc q => pow_int_small hc.1 hc.2.1 hc.2.2 q
end
section
variable{X : Cx}{a b c : Ao}{ta tb tc : TE}{pos : AJ}
theorem N5{Q:VK}{k k':An}(I : Inv X pI σ H s)(q : Q (.bl k) H)(e : k = k') : EP X pI σ Q (.bool k') s := by
 subst e;exact⟨.bl k, H, I, rfl, q⟩
theorem WY : OpR X (BN .Lt) (rI0 fun i j => .bl (decide (i<j))) := JA fun _ _ _ _ _ _ _ q => lt_int q
theorem WZ : OpR X (BN .LtE) (rI0 fun i j => .bl (decide (i <= j))) := JA fun _ _ _ _ _ _ _ q => le_int q
theorem W1 : OpR X (BN .Gt) (rI0 fun i j => .bl (decide (j<i))) := JA fun _ _ _ _ _ _ _ q => gt_int q
theorem W2 : OpR X (BN .GtE) (rI0 fun i j => .bl (decide (j <= i))) := JA fun _ _ _ _ _ _ _ q => ge_int q
theorem VM : OpR X (BN .Is) (fun x y H Q => y = .non /\ Q (.bl (decide (x = .non))) H) := by
 intro pI s σ H x y v u Q I rx ry h;obtain⟨rfl, q⟩ := h;cases ry;refine is_none_gen (N5 I q ?_);cases x <;> first
  |(cases rx;rfl)
  |(obtain⟨t, rfl⟩ := rx;rfl)
theorem Tn : OpR X (BN .IsNot) (fun x y H Q => y = .non /\ Q (.bl (!decide (x = .non))) H) := by
 intro pI s σ H x y v u Q I rx ry h;obtain⟨rfl, q⟩ := h;cases ry;refine isnot_none_gen (N5 I q ?_);cases x <;> first
  |(cases rx;rfl)
  |(obtain⟨t, rfl⟩ := rx;rfl)
theorem Tf(ho : OpR X (BN op) r)(ha : PE X a ta)(hb : PE X b tb)(hm : EZ op b = Ad) : PE X (.Compare a [op] [b] pos) (tOp r ta tb) := by
 intro pI s σ H Q I h;exact wpAny_Compare1 (Lv ha hb I h fun v u s2 x y H2 I2 rx ry q => ho pI s2 σ H2 x y v u Q I2 rx ry q) hm
noncomputable def Oi(t : TE) : TT := fun σ H Q => t σ H fun x H' => ∃ k, x = .bl k /\ Q k H'
theorem TZ(ho : OpR X (BN op) r)(ha : PE X a ta)(hb : PE X b tb)(hm : EZ op b = Ad) : PT X (.Compare a [op] [b] pos) (Oi (tOp r ta tb)) := by
 intro pI s σ H Q I h;refine wpAny_isTrue_Compare1 (thn (ha pI s σ H _ I h) fun v s1 ⟨x, H1, I1, r1, q1⟩ => thn (hb pI s1 σ H1 _ I1 q1) fun u s2 ⟨y, H2, I2, r2, q2⟩=>
  thn (ho pI s2 σ H2 x y v u _ I2 r1 r2 q2) fun c s3 ⟨z, H3, I3, r3, k, e, q3⟩ => ?_) hm
 subst e;cases r3;exact BO ⟨H3, I3, q3⟩
noncomputable def No(r r' : R2)(ta tb tc : TE) : TE := fun σ H Q => ta σ H fun x H1 => tb σ H1 fun y H2 => r x y H2 fun z H3 => ∃ k, z = .bl k /\
 (if k = Ab then tc σ H3 fun w' H4 => r' y w' H4 Q else Q (.bl Ad) H3)
theorem Sr(ho : OpR X (BN op) r)(ho' : OpR X (BN op') r')(ha : PE X a ta)(hb : PE X b tb)(hc : PE X c tc)(hm : Gp [op, op'] [b, c] = Ad := by with_unfolding_all rfl) : PE X (.Compare a [op, op'] [b, c] pos) (No r r' ta tb tc) := by
 intro pI s σ H Q I h;refine Compare_chain (thn (ha pI s σ H _ I h) fun v s1 ⟨x, H1, I1, r1, q1⟩ => chain_link (thn (hb pI s1 σ H1 _ I1 q1) fun u s2 ⟨y, H2, I2, r2, q2⟩=>
  thn (ho pI s2 σ H2 x y v u _ I2 r1 r2 q2) fun d s3 ⟨z, H3, I3, r3, k, e, q3⟩ => ?_)) hm
 subst e;cases r3;refine BO ?_;cases k with
 |false => exact ite_ff ⟨.bl Ad, H3, I3, rfl, q3⟩
 |true => exact ite_tt (chain_last (thn (hc pI s3 σ H3 _ I3 q3) fun w' s4 ⟨z', H4, I4, r4, q4⟩ => ho' pI s4 σ H4 y z' u w' Q I4 r2 r4 q4))
theorem Si(ho : OpR X (BN op) r)(ho' : OpR X (BN op') r')(ha : PE X a ta)(hb : PE X b tb)(hc : PE X c tc)(hm : Gp [op, op'] [b, c] = Ad := by with_unfolding_all rfl) : PT X (.Compare a [op, op'] [b, c] pos) (Oi (No r r' ta tb tc)) := by
 intro pI s σ H Q I h;refine isTrue_chain (thn (ha pI s σ H _ I h) fun v s1 ⟨x, H1, I1, r1, q1⟩ => test_link (thn (hb pI s1 σ H1 _ I1 q1) fun u s2 ⟨y, H2, I2, r2, q2⟩=>
  thn (ho pI s2 σ H2 x y v u _ I2 r1 r2 q2) fun d s3 ⟨z, H3, I3, r3, k, e, q3⟩ => ?_)) hm
 subst e;cases r3;refine BO ?_;cases k with
 |false=>
  obtain⟨k', e', q'⟩ := q3;cases e';exact ite_ff ⟨H3, I3, q'⟩
 |true=>
  refine ite_tt (test_last (thn (hc pI s3 σ H3 _ I3 q3) fun w' s4 ⟨z', H4, I4, r4, q4⟩ => thn (ho' pI s4 σ H4 y z' u w' _ I4 r2 r4 q4) fun d' s5 ⟨z2, H5, I5, r5, k2, e2, q5⟩ => ?_))
  subst e2;cases r5;exact BO ⟨H5, I5, q5⟩
noncomputable def O3(K : Fg)(x : V)(H : Hp)(k : An) : Prop:=
  match x with
  |.non => k = Ad
  |.bl b => k = b
  |.int i => k = (i != 0)
  |.str y => y.length <= sizeLine /\ k = ((y.length : Ag) != 0)
  |.byt y => y.size <= sizeLine /\ k = ((y.size : Ag) != 0)
  |.ref p => (∃ xs, SqL K H p xs /\ k = !xs.isEmpty) \/ (∃ xs, SqT K H p xs /\ k = !xs.isEmpty) \/ ∃ kvs, H p = Aa (.dK kvs) /\ k = !kvs.isEmpty
  |_ => AH
theorem Rc{κ:Type}{kvs : Ac (κ × V)}{vs : Ac (κ × Ah)}(r : KV kvs vs) : (!vs.isEmpty) = !kvs.isEmpty := by
 cases r <;> rfl
theorem LU{its:Ac Ah}(r : AW xs its) : (!its.toArray.isEmpty) = !xs.isEmpty := by
 cases r <;> simp
theorem Hn : (sizeLine : Ae)<2 ^ 63 := by rw[Ct];decide
theorem U3 : Ym X (fun x H Q => ∃ k, O3 X.K x H k /\ Q k H) := by
 intro pI s σ H x v Q I rx h;obtain⟨k, e, q⟩ := h;have hl := Hn;have hs : sizeLine = 16777216 := Ct;cases x with
 |non=>
  cases rx;have e' : k = Ad := e;subst e';exact truthy_none ⟨H, I, q⟩
 |bl b=>
  cases rx;have e' : k = b := e;subst e';exact BO ⟨H, I, q⟩
 |int i=>
  obtain⟨t, rfl⟩ := rx;have e' : k = (i != 0) := e;subst e';exact PySem.P.truthy_int ⟨H, I, q⟩
 |str y=>
  obtain⟨t, rfl⟩ := rx;obtain⟨hy, e'⟩ : y.length <= sizeLine /\ k = ((y.length : Ag) != 0) := e;subst e';exact PySem.P.truthy_str (by omega) ⟨H, I.tok _, q⟩
 |byt y=>
  obtain⟨t, rfl⟩ := rx;obtain⟨hy, e'⟩ : y.size <= sizeLine /\ k = ((y.size : Ag) != 0) := e;subst e';exact PySem.W.truthy_bytes (by omega) ⟨H, I.tok _, q⟩
 |ref p=>
  cases rx;have e' : (∃ xs, SqL X.K H p xs /\ k = !xs.isEmpty) \/ (∃ xs, SqT X.K H p xs /\ k = !xs.isEmpty) \/ ∃ kvs, H p = Aa (.dK kvs) /\ k = !kvs.isEmpty := e;rcases e' with ⟨xs, hx, e'⟩|⟨xs, hx, e'⟩|⟨kvs, hx, e'⟩
  ·subst e';obtain⟨its, r, pl, hz⟩ := I.list hx;have hlen := r.length;exact wpAny_truthy_list pl.isList (by simp only[AG];omega) ⟨H, I.tok _, by rw[LU r];exact q⟩
  ·subst e';obtain⟨its, r, pl, hz⟩ := I.tuple hx;have hlen := r.length;exact truthy_tuple pl (by simp only[AG];omega) ⟨H, I.tok _, by rw[LU r];exact q⟩
  ·subst e';obtain⟨hz, hS, vs, r, m⟩ : kvs.length <= sizeLine /\ (p==G5) = Ad /\ ∃ vs, KV kvs vs /\ s.heap.DictOf (Kh X.prog X.w) p vs := I.hok p _ hx;have hlen : kvs.length = vs.length := Qe r;exact wpAny_truthy_dict hS m (by omega) ⟨H, I.tok _, by rw[Rc r];exact q⟩
 |_ => exact(show AH from e).elim
theorem Sh(ha : PE X a ta)(he : ∀ whole, FQ a X.env whole = (do let v <-whole;GJ a.pos;holding [v] (truthy v))):PT X a (fun σ H Q =>ta σ H fun x H' =>∃ k,O3 X.K x H' k/\Q k H') := by
 intro pI s σ H Q I h;exact isTrue_plain (thn (ha pI s σ H _ I h) fun v s1 ⟨x, H1, I1, r1, q1⟩ => U3 pI s1 σ H1 x v Q I1 r1 q1) (he _)
theorem Q7 : OpR X (Bp .Add) (fun x y H Q => ∃ i j, x = .str i /\ y = .str j /\ i.length+j.length <= sizeLine /\ Q (.str (i++j)) H) := by
 intro pI s σ H x y v u Q I rx ry h;obtain⟨i, j, rfl, rfl, hz, q⟩ := h;obtain⟨t, rfl⟩ := rx;obtain⟨t', rfl⟩ := ry;exact add_str (fun t' tk => ⟨.str (i++j), H, I.tok _, ⟨_, rfl⟩, q⟩) hz
theorem GA{x:V}(r : AW [x] us) : ∃ u, us = [u] /\ A7 x u := by
 cases r with
 |cons r1 r2 => cases r2;exact⟨_, rfl, r1⟩
theorem Hr{x:V}(r : AW [x, y] us) : ∃ u w', us = [u, w'] /\ A7 x u /\ A7 y w' := by
 cases r with
 |cons r1 r2=>
  cases r2 with
  |cons r3 r4 => cases r4;exact⟨_, _, rfl, r1, r3⟩
theorem Ry(hc : X.calm = Ab) : FH X (.builtin "max") (fun xs H Q => ∃ i j, xs = [.int i, .int j] /\ Q (.int (if j > i then j else i)) H) := by
 intro pI s σ H xs us Q I r h;obtain⟨i, j, rfl, q⟩ := h;obtain⟨u, w', rfl, ⟨t, rfl⟩, ⟨t', rfl⟩⟩ := Hr r;refine max_two_ints (I.ok.hd hc) fun h' tk k => ⟨_, H, I.kept k, ?_, q⟩
 by_cases hj : j > i
 ·rw[AB hj, AB hj];exact⟨_, rfl⟩
 ·rw[AE hj, AE hj];exact⟨_, rfl⟩
theorem Mj : FH X (.type "int") (fun xs H Q => (∃ i, xs = [.int i] /\ Q (.int i) H) \/ ∃ k, xs = [.bl k] /\ Q (.int (if k then 1 else 0)) H) := by
 intro pI s σ H xs us Q I r h;rcases h with ⟨i, rfl, q⟩|⟨k, rfl, q⟩
 ·obtain⟨u, rfl, t, rfl⟩ := GA r;exact call_int_int ⟨.int i, H, I, ⟨_, rfl⟩, q⟩
 ·obtain⟨u, rfl, r1⟩ := GA r;cases r1;exact call_int_bool ⟨.int (if k then 1 else 0), H, I.tok _, ⟨_, rfl⟩, q⟩
end
section
variable{prog : AD}{w : AO}{A : AN}{E : Ah -> Al -> Prop}{s : Al}{K : Fg}{x dx C f : Ai}{mA : Aj -> Am Ah}{name : Aj}{v : Ah}
end
theorem Iz.some_of{o:Am Ah}(r : Iz (Aa v) o) : ∃ u, o = Aa u /\ A7 v u := by
 cases o with
 |none => exact(show AH from r).elim
 |some u => exact⟨u, rfl, r⟩
theorem RJ(r : A7 v u) : PySem.W.handedIn u = Ab := by
 cases v with
 |non => cases (show u = Cr from r);rfl
 |bl b => cases (show u = G3 b from r);rfl
 |int i => obtain⟨t, e⟩ := (show ∃ t, u = HF i t from r);cases e;rfl
 |str x => obtain⟨t, e⟩ := (show ∃ t, u = HG x t from r);cases e;rfl
 |byt b => obtain⟨t, e⟩ := (show ∃ t, u = Qk b t from r);cases e;rfl
 |flt b => obtain⟨t, e⟩ := (show ∃ t, u = Ql b t from r);cases e;rfl
 |ref a => cases (show u = BF a from r);rfl
 |ty n => cases (show u = Qm n from r);rfl
section
variable{P : AD}{w : AO}{H H' : Hp}{h h' : Ax}{a C dx : Ai}{fs fs' : Ac (Aj × V)}
end
section
variable{X : Cx}{pI : Ac (Ai × AC)}{σ : St}{H : Hp}{s : Al}{a C dx : Ai}{fs : Ac (Aj × V)}{f : Aj}{v : V}{A : AN}{E : Ah -> Al -> Prop}
theorem T8{prog : AD}{w : AO}{env : BB}{f:Aj}(hb : attributeBase e f env (eval e env) = eval e env)(h : Au (model prog w) A (eval e env) (fun o s₁ => Au (model prog w) A (getAttr o f Ab) Q E s₁) E s) : Au (model prog w) A (eval (.Attribute e f pos) env) Q E s:=
 Attribute_any_ h (by rw[arm_eval_Attribute, hb])
end
section
variable{X : Cx}{o e value : Ao}{f : Aj}{pos pos' tpos : AJ}{ta tv : TE}
end
section
variable{X : Cx}{pI : Ac (Ai × AC)}{σ : St}{H : Hp}{s : Al}{A : AN}{E : Ah -> Al -> Prop}{Q : Ah -> Al -> Prop}{c : Ah}{b : An}
end
structure Room (k : Ae) (A : AN) : Prop where
 hd : A.handled = Af
 dp : A.depth+3*k+5<EE
 un : A.units+16*k+200<Bo
 gd : A.guards = Aa []
theorem Room.mono{A : AN}(r : Room k A)(h : j <= k) : Room j A := ⟨r.hd, by have := r.dp;omega, by have := r.un;omega, r.gd⟩
theorem Room.deeper{A : AN}(r : Room (k+1) A)(env : BB) : Room k (A.deeper env):=
 ⟨r.hd, by have := r.dp;show A.depth+1+3*k+5<_;omega, by have := r.un;show A.units+3+16*k+200<_;omega, r.gd⟩
theorem Ra{A : AN}{C:Ai} : (A.under (.builtin "type.__call__" ⟨.ref C::us, kw⟩)).depth = A.depth+1 := by
 first|rfl|simp[Gh, Code.weight, Code.isCreation, Code.isGuard, Code.isCaller, P5, Gi, guardIds]
theorem Q9{A : AN}{C:Ai} : (A.under (.builtin "type.__call__" ⟨.ref C::us, kw⟩)).units = A.units+1 := by
 first|rfl|simp[Gh, Code.cUnits, P5, Gi]
theorem Room.depth{A : AN}(r : Room k A) : A.depth<EE := by have := r.dp;omega
theorem Room.units{A : AN}(r : Room k A) : A.units+64<Bo := by have := r.un;omega
noncomputable def X6 : TA := fun _ H Q => Q [] H
noncomputable def Wy(ta : TE)(tr : TA) : TA := fun σ H Q => ta σ H fun x H1 => tr σ H1 fun xs H2 => Q (x::xs) H2
section
variable{X : Cx}{e : Ao}{es : Ac Ao}{te : TE}{t : TA}{pos : AJ}
theorem FG : PA X [] X6 := fun _ _ _ _ H Q I h => Calls.spliced_nil ⟨[], H, I, .nil, h⟩
theorem DR(ha : PE X e te)(hr : PA X es t)(hs : Ar (e::es) X.env = (Ad, eval e X.env)::Ar es X.env := by rfl) : PA X (e::es) (Wy te t) := by
 intro pos pI s σ H Q I h;rw[hs];show Au _ _ (spliced ((Ad, eval e X.env)::By pos (Ar es X.env))) _ _ s;refine Calls.spliced_cons (thn (ha pI s σ H _ I h) fun u s1 ⟨x, H1, I1, r1, q1⟩ => ?_)
 exact thn (hr pos pI s1 σ H1 _ I1 q1) fun us s2 ⟨xs, H2, I2, r2, q2⟩ => ⟨x::xs, H2, I2, .cons r1 r2, q2⟩
noncomputable def X1(t : TA) : TE := fun σ H Q => t σ H fun xs H1 => xs.length <= sizeLine /\ ∀ p, H1 p = Af -> Q (.ref p) (upd H1 p (.tup xs))
noncomputable def X7(t : TA) : TE := fun σ H Q => t σ H fun xs H1 => xs.length <= sizeLine /\ ∀ p, H1 p = Af -> Q (.ref p) (upd H1 p (.lst xs))
theorem NU{x1}(h : PA X es t) : PE X (.Tuple es x1 pos) (X1 t) := by
 intro pI s σ H Q I hq;refine wpAny_Tuple_spliced (thn (h pos pI s σ H _ I hq) fun us s1 ⟨xs, H1, I1, r, z, q⟩ => ⟨by rw[<-r.length];exact z, ?_⟩)
 have hf : H1 s1.heap.objs.size = Af := I1.hok.fresh (AL _);refine⟨.ref s1.heap.objs.size, upd H1 s1.heap.objs.size (.tup xs), I1.laid (t' := s1.toks) (fun b u e => As _ e) (AL _) ?_, rfl, q _ hf⟩
 exact⟨z, us, r, ⟨_, Be _ rfl, rfl, _, rfl⟩⟩
theorem VF(h : PA X es t) : PE X (.List es pos) (X7 t) := by
 intro pI s σ H Q I hq;refine wpAny_List_spliced (thn (h pos pI s σ H _ I hq) fun us s1 ⟨xs, H1, I1, r, z, q⟩ => ⟨by rw[<-r.length];exact z, ?_⟩)
 have hf : H1 s1.heap.objs.size = Af := I1.hok.fresh (AL _);refine⟨.ref s1.heap.objs.size, upd H1 s1.heap.objs.size (.lst xs), I1.laid (t' := s1.toks) (fun b u e => As _ e) (AL _) ?_, rfl, q _ hf⟩
 exact⟨z, us, 0, r, Be _ rfl⟩
end
noncomputable abbrev Sp := Ac V -> Hp -> VK -> XK -> Prop
variable{sp:Sp}
noncomputable abbrev CXT := Ac BB -> Hp -> Al -> XK -> Ah -> Al -> Prop
variable{CX:CXT}
structure Env0 (P : AD) (w : AO) (K : Fg) (mg : Aj -> Am Ah) (base : Ax) (A : AN) (outer : Ac BB) (s : Al) (H : Hp) : Prop where
 frames : A.frames = Aa outer
 mod : Mod K mg base
 bs : ∀ b o, base.get? b = Aa o -> s.heap.get? b = Aa o /\ H b = Af
 bsz : base.objs.size <= s.heap.objs.size
 funs : s.heap.FunFrames base outer
 frf : ∀ b ∈ frs outer, H b = Af
 hok : HOk P w H s.heap
 bare : DK s.gens
noncomputable def CE(outer : Ac BB)(P : AD)(w : AO)(H : Hp)(s : Al)(Q : VK)(u : Ah)(s' : Al) : Prop:=
 ∃ v H', s'.os = s.os /\ DK s'.gens /\ Un (frs outer) [] H H' s.heap s'.heap /\ HOk P w H' s'.heap /\ A7 v u /\ Q v H'
noncomputable def CR(CX : CXT)(outer : Ac BB)(P : AD)(w : AO)(H : Hp)(s : Al)(Q : VK)(E : XK)(r : Gj)(s' : Al) : Prop:=
  match r with
  |.ok (.ret u) => CE outer P w H s Q u s'
  |.ok _ => AH
  |.error e => CX outer H s E e s'
structure FnOk (P : AD) (w : AO) (K : Fg) (mg : Aj -> Am Ah) (base : Ax) (CX : CXT) (k : Ae) (f : Ai) (fd : Bi) (ps : Ac Aj) (sp : Sp) : Prop where
 len : ∀ vs H Q E, sp vs H Q E -> vs.length = ps.length
 run : ∀(A : AN)(outer : Ac BB)(s : Al)(H : Hp)(args : Args)(us : Ac Ah)(vs : Ac V)(Q : VK)(E : XK), Room k A -> Env0 P w K mg base A outer s H -> Ee s fd args (ps.zip us) -> AW vs us -> sp vs H Q E ->
  DM (model P w) A (.call (.ref f) args) (CR CX outer P w H s Q E) s
theorem FnOk.imp{w : AO}{K : Fg}{mg : Aj -> Am Ah}{base : Ax}{f:Ai}{sp':Sp}(F : FnOk P w K mg base CX k f fd ps sp)(h : ∀ vs H Q E, sp' vs H Q E -> sp vs H Q E) : FnOk P w K mg base CX k f fd ps sp':=
 ⟨fun vs H Q E q => F.len vs H Q E (h _ _ _ _ q), fun A outer s H args us vs Q E hr he hb hv hs => F.run A outer s H args us vs Q E hr he hb hv (h _ _ _ _ hs)⟩
theorem Env0.make{w : AO}{K : Fg}{mg : Aj -> Am Ah}{base : Ax}{A : AN}{outer : Ac BB}(e : Env0 P w K mg base A outer s H)(C : Ai)(us : Ac Ah)(kw : Ac (Aj × Ah)):
    Env0 P w K mg base (A.under (.builtin "type.__call__" ⟨.ref C::us, kw⟩)) outer s H := ⟨by first|exact e.frames|(simpa [Gh, Code.envs, Gi, pushEnvs] using e.frames), e.mod, e.bs, e.bsz, e.funs, e.frf, e.hok, e.bare⟩
section
variable{X : Cx}{pI : Ac (Ai × AC)}{σ : St}{H : Hp}{s s' : Al}
theorem Inv.env0(I : Inv X pI σ H s) : Env0 X.prog X.w X.K X.mg X.base X.A X.stack s H:=
 ⟨I.ok.frames, I.ok.mod, I.bs, BJ I.ok.bsz I.sz, I.stack, I.stkFree, I.hok, I.bare⟩
theorem Inv.after{Q:VK}(I : Inv X pI σ H s)(h : CE X.stack X.prog X.w H s Q u s') : EP X pI σ Q u s' := by
 obtain⟨v, H', os, bare, un, hok, r, q⟩ := h;obtain⟨hh, g, d, t, os'⟩ := s';obtain rfl : os' = s.os := os;exact⟨v, H', I.call (h' := hh) (g' := g) (d' := d) (t' := t) (ch := []) un hok bare (fun b z => absurd z (by simp)), r, q⟩
end
noncomputable def Wz(sp : Sp)(dvs : Ac V)(E : XK)(t : TA) : TE := fun σ H Q => t σ H fun vs H1 => sp (vs++dvs) H1 Q E
noncomputable def DV(K : Fg)(fd : Bi)(ps : Ac Aj)(ds : Ac Ah) : Prop:=
 ∀(s : Al)(us : Ac Ah), K.In s.heap -> (us++ds).length = ps.length -> Ee s fd ⟨us, []⟩ (ps.zip (us++ds))
theorem DV.all{K : Fg}(h : ∀ us : Ac Ah, us.length = ps.length -> GL fd ⟨us, []⟩ = pure (ps.zip us)) : DV K fd ps [] := fun s us _ hl => by
 rw[BD]at hl ⊢;exact .of_eq (h us hl)
noncomputable def Hk(CX : CXT)(X : Cx)(E : XK) : Prop := ∀(pI : Ac (Ai × AC))(σ : St)(H : Hp)(s : Al)(e : Ah)(s' : Al), Inv X pI σ H s -> CX X.stack H s E e s' -> X.xe e s'
section
variable{X : Cx}{CX : CXT}{k : Ae}{f C : Ai}{fd : Bi}{ps : Ac Aj}{sp : Sp}{dvs : Ac V}{ds : Ac Ah}{E : XK}{x m : Aj}{p pos apos : AJ}{e o : Ao}{es : Ac Ao}{ta : TE}{t : TA}
theorem UU{Q:VK}(F : FnOk X.prog X.w X.K X.mg X.base CX k f fd ps sp)(hr : Room k X.A)(hb : DV X.K fd ps ds)(hd : AW dvs ds)(hx : Hk CX X E)(I : Inv X pI σ H s)(r : AW vs us)(h : sp (vs++dvs) H Q E) : Au (model X.prog X.w) X.A (call (.ref f) us) (EP X pI σ Q) X.xe s := by
 have r2 : AW (vs++dvs) (us++ds) := r.append hd;have hl : (us++ds).length = ps.length := by rw[<-r2.length];exact F.len _ _ _ _ h
 refine Et (DF (F.run X.A X.stack s H ⟨us, []⟩ (us++ds) (vs++dvs) Q E hr I.env0 (hb s us I.kIn hl) r2 h) fun r s' hq => ?_)
 cases r with
 |error e => exact hx pI σ H s e s' I hq
 |ok fl=>
  cases fl with
  |ret u => exact I.after hq
  |next => exact AT hq
  |brk => exact AT hq
  |cont => exact AT hq
theorem Nb(F : FnOk X.prog X.w X.K X.mg X.base CX k f fd ps sp)(hr : Room k X.A)(hg : Gl X x)(hm : X.mg x = Aa (.ref f))(hk : Bs X.K (.ref f) = Ab)(hb : DV X.K fd ps ds)(hd : AW dvs ds)(hx : Hk CX X E)(ha : PA X (e::es) t)(hdb : (x==("__debug__" : Aj)) = Ad := by decide)(he : Ar (e::es) X.env = (Ad, eval e X.env)::Ar es X.env := by rfl)(hpl : (By pos (Ar es X.env)).any (·.1) = Ad := by rfl):PE X (.Call (.Name x p) (e::es) [] pos) (Wz sp dvs E t) := by
 intro pI s σ H Q I h;refine C2 (Gw I hg hm ?_ hdb);refine ES (h₀ := X.base) I.ok.mod.kin hk (thn (ha pos pI s σ H _ I h) fun us s1 ⟨vs, H1, I1, r, q⟩ => ⟨I1.kIn, ?_⟩) he hpl
 exact UU F hr hb hd hx I1 r q
end
section
variable{X : Cx}{CX : CXT}{k : Ae}{f C : Ai}{fd : Bi}{ps ks : Ac Aj}{sp : Sp}{E : XK}{x m : Aj}{p pos apos kpos : AJ}{e o : Ao}{es : Ac Ao}{kws : Ac Keyword}{te ta : TE}{t tk : TA}{nm : Am Aj}
variable{g : Ac Ah -> Ac Ah -> Ac Ah}{gV : Ac V -> Ac V -> Ac V}
end
structure FnScope (N P : Ac Aj) (sc : Bz) : Prop where
 kind : sc.kind = .function
 co : sc.isCoroutine = Ad
 gen : sc.isGenerator = Ad
 nd : N.Nodup
 pre : N.take P.length = P
 par : ∀ x ∈ P, sc.names.lookup x = Aa .local \/ sc.names.lookup x = Aa .cell
 nofree : ∀ y ∈ sc.names, y.2 ≠ .free
theorem LY{kindOf : Aj -> Am CO}{x : Aj} : ∀{binds : Ac (Aj × Ah)}{m : Aj -> Am Ah}, (∀ v, (x, v) ∉ binds) -> FW kindOf binds m x = m x
 |[], _, _ => rfl
 |(n, v)::r, m, h => by
  unfold FW;rw[LY fun w hw => h w (Az _ hw)]
  split
  ·have : x ≠ n := by rintro rfl;exact h v AI
   simp[this]
  ·rfl
theorem L3{kindOf : Aj -> Am CO}{x : Aj} : ∀{binds : Ac (Aj × Ah)}{m : Aj -> Am Ah}, (∀ v, (x, v) ∉ binds) -> FV kindOf binds m x = m x
 |[], _, _ => rfl
 |(n, v)::r, m, h => by
  unfold FV;rw[L3 fun w hw => h w (Az _ hw)]
  split
  ·rfl
  ·have : x ≠ n := by rintro rfl;exact h v AI
   simp[this]
theorem LZ{kindOf : Aj -> Am CO}{x : Aj}{v : Ah} :∀{P :Ac Aj}{vs :Ac Ah}{i :Ae}{m :Aj->Am Ah},P.Nodup->P[i]? = Aa x->vs[i]? = Aa v->kindOf x = Aa .local->FW kindOf (P.zip vs) m x = Aa v
 |[], _, _, _, _, h, _, _ => by simp at h
 |_::_, [], _, _, _, _, h, _ => by simp at h
 |p::P, w::vs, 0, m, nd, h1, h2, hk => by
  simp at h1 h2;subst h1;subst h2;show FW kindOf ((p, w)::P.zip vs) m p = _;unfold FW;rw[LY fun v hv => (Ej.mp nd).1 (Ek hv).1, AB hk]
  simp
 |p::P, w::vs, i+1, m, nd, h1, h2, hk => by
  show FW kindOf ((p, w)::P.zip vs) m x = _;unfold FW;exact LZ (i := i) (Ej.mp nd).2 (by simpa using h1) (by simpa using h2) hk
theorem L4{kindOf : Aj -> Am CO}{x : Aj}{v : Ah} :∀{P :Ac Aj}{vs :Ac Ah}{i :Ae}{m :Aj->Am Ah},P.Nodup->P[i]? = Aa x->vs[i]? = Aa v->kindOf x ≠ Aa .local->FV kindOf (P.zip vs) m x = Aa v
 |[], _, _, _, _, h, _, _ => by simp at h
 |_::_, [], _, _, _, _, h, _ => by simp at h
 |p::P, w::vs, 0, m, nd, h1, h2, hk => by
  simp at h1 h2;subst h1;subst h2;show FV kindOf ((p, w)::P.zip vs) m p = _;unfold FV;rw[L3 fun v hv => (Ej.mp nd).1 (Ek hv).1, AE hk]
  simp
 |p::P, w::vs, i+1, m, nd, h1, h2, hk => by
  show FV kindOf ((p, w)::P.zip vs) m x = _;unfold FV;exact L4 (i := i) (Ej.mp nd).2 (by simpa using h1) (by simpa using h2) hk
noncomputable def start(N : Ac Aj)(vs : Ac V) : St := vs.map Aa++ED (N.length-vs.length) Af
noncomputable def Db(CX : CXT)(P : AD)(w : AO)(K : Fg)(mg : Aj -> Am Ah)(base : Ax)(N : Ac Aj)(qual : Aj)(scope : Bz)(f : Ai)(cd : Ah)(A : AN)(outer : Ac BB)(s : Al)(H : Hp)(E : XK) : Cx where
 prog := P
 w := w
 K := K
 mg := mg
 base := base
 A := A.deeper (C9 qual scope s.heap.objs.size f cd)
 N := N
 s₀ := s
 H₀ := H
 env := C9 qual scope s.heap.objs.size f cd
 outer := outer
 stack := C9 qual scope s.heap.objs.size f cd::outer
 ex := []
 calm := Ab
 fn := fun _ => Ab
 pn := []
 xe := fun e s' => Au (model P w) (A.deeper (C9 qual scope s.heap.objs.size f cd)) (leaving (C9 qual scope s.heap.objs.size f cd) e) (fun _ s'' => CX outer H s E e s'') (fun e' s'' => CX outer H s E e' s'') s'
theorem Mo{sc:Bz}(h : sc.names.lookup x = Aa .cell) : ∃ c, (BY n sc.names []).lookup x = Aa c := by
 have q := D2 sc.names n [] (.inl h);exact DB.mp q
theorem JZ{w : AO}{K : Fg}{mg : Aj -> Am Ah}{base : Ax}{N ps : Ac Aj}{f:Ai}{cd:Ah}{A : AN}{outer : Ac BB}{s1:Al}{E : XK}(S : FnScope N ps scope)(hd : A.handled = Af)(e0 : Env0 P w K mg base A outer s H)(hl : vs.length = ps.length)(r : AW vs us)(x : InCallC s s.heap.objs.size (FW (C9 qual scope s.heap.objs.size f cd).kindOf (ps.zip us) fun _ => Af) (BY (s.heap.objs.size+1) scope.names []) (FV (C9 qual scope s.heap.objs.size f cd).kindOf (ps.zip us) fun _ => Af) s1):Inv (Db CX P w K mg base N qual scope f cd A outer s H E) [] (start N vs) H s1 := by
 have hpl : ps.length <= N.length := by have := congrArg List.length S.pre;rw[Fe]at this;omega
 obtain⟨h1, tk, rfl, hk⟩ := x.done;have noA : ∀ b : Ai, b ∉ (Db CX P w K mg base N qual scope f cd A outer s H E).ex := fun b z => absurd (show b ∈ ([] : Ac Ai) from z) (by simp)
 refine⟨⟨e0.mod, S.kind, rfl, rfl, AL _, fun y z c h1 h2 => ?_, fun y hy => ?_, fun y c _ h => ?_, fun _ => hd, Around.frames_deeper e0.frames, .inr ⟨rfl, rfl⟩, fun b z => absurd z (noA b), e0.bs, e0.bsz, fun b _ _ => noA b, fun b z => absurd z (noA b), e0.funs, e0.frf⟩,
  rfl, e0.bare, Un.kept hk, ⟨_, x.toInCall.ns, fun i y v h1 h2 h3 => ?_⟩, fun y c h => ⟨_, x.cell y c h⟩, e0.hok.fresh (AL _), fun y c h => ?_, fun p hp => absurd (show p ∈ ([] : Ac (Ai × AC)) from hp) (by simp), e0.hok.kept hk, ?_⟩
 ·exact name_of_addr x.apart (BP h1) (BP h2)
 ·have hy : scope.names.lookup y = Aa .cell \/ scope.names.lookup y = Aa .free := hy;rcases hy with hy|hy
  ·exact Mo hy
  ·exact absurd rfl (S.nofree _ (BP hy))
 ·exact El (x.above y c (BP h))
 ·have hi : i<vs.length := by
   unfold start at h2;by_cases hi : i<vs.length
   ·exact hi
   ·rw[Ps (by simpa using hi)]at h2
    rw[Pt]at h2;split at h2 <;> cases h2
  have ha : vs[i]? = Aa v := by
   unfold start at h2;rw[Dt (by simpa using hi), DO]at h2
   cases e : vs[i]? with
   |none => rw[e]at h2;cases h2
   |some a => rw[e]at h2;cases h2;rfl
  obtain⟨u, hu, rv⟩ := r.get ha;have hp : ps[i]? = Aa y := by
   rw[<-S.pre, List.getElem?_take_of_lt (by omega)];exact h1
  have ndP : ps.Nodup := by rw[<-S.pre];exact S.nd.sublist (List.take_sublist _ _)
  refine⟨u, rv, ?_⟩;rcases S.par y (Py hp) with k|k
  ·exact .inl ⟨k, LZ ndP hp hu k⟩
  ·obtain⟨c, e⟩ := Mo (n := s.heap.objs.size+1) k;refine .inr ⟨.inl k, c, e, ?_⟩;have q := x.cell y c e;rw[L4 ndP hp hu (by show scope.names.lookup y ≠ _;rw[k];decide)]at q
   exact q
 ·exact e0.hok.fresh (El (x.above y c (BP h)))
 ·unfold start;show _ = N.length;rw[Cu, CY, Pw];omega
theorem Oz{w : AO}{K : Fg}{mg : Aj -> Am Ah}{base : Ax}{f:Ai}{name:Aj}{params:HC}{dV kV doc pm cdv ct oc : Ah}{an od:Am Ai}{osl:A5 (Am Ah)}{N ps : Ac Aj}(lk : K.lookup f = Aa ⟨oc, od, .func (BX name qual params body scope dV kV doc pm an cdv ct), osl⟩)(hcd : Da K cdv qual = Ab)(S : FnScope N ps scope)(len : ∀ vs H Q E, sp vs H Q E -> vs.length = ps.length)(hbody : ∀(A : AN)(outer : Ac BB)(s : Al)(H : Hp)(vs : Ac V)(Q : VK)(E : XK), Room k (A.deeper (C9 qual scope s.heap.objs.size f cdv)) -> sp vs H Q E ->
   ∃ t, PSs (Db CX P w K mg base N qual scope f cdv A outer s H E) body t /\ t {nx := fun _ H' => Q .non H', rt := Q} (start N vs) H):FnOk P w K mg base CX (k+1) f (BX name qual params body scope dV kV doc pm an cdv ct) ps sp := by
 refine⟨len, fun A outer s H args us vs Q E hr e0 hb r hsp => ?_⟩
 have hl := len _ _ _ _ hsp;have KX : K.In s.heap := e0.mod.kin.keeps fun b o e => (e0.bs b o e).1
 have lim : s.heap.NoLimit := e0.mod.nolimit.keeps fun b o e => (e0.bs b o e).1
 have hkind : ∀ y ∈ ps.zip us, scope.names.lookup y.1 = Aa .local \/ (scope.names.lookup y.1 = Aa .cell /\ ((BY (s.heap.objs.size+1) scope.names []).lookup y.1).isSome = Ab) := fun ⟨n, v⟩ hy => by
  rcases S.par n (Ek hy).1 with q|q
  ·exact .inl q
  ·exact .inr ⟨q, D2 _ _ _ (.inl q)⟩
 refine Eg hr.depth (KX _ _ lk) rfl S.co S.gen rfl (ET KX hcd) (hb _ _ _ _ ?_);refine Dl S.kind hkind fun env he s1 x => ?_
 subst he;refine⟨lim.keeps x.toInCall.keep, Gn ?_⟩;obtain⟨t, ht, hq⟩ := hbody A outer s H vs Q E (hr.deeper _) hsp;have I : Inv (Db CX P w K mg base N qual scope f cdv A outer s H E) [] (start N vs) H s1 := JZ S hr.hd e0 hl r x;refine AV (ht [] s1 (start N vs) H _ I hq) (fun fl s' hs => ?_) fun e s' hs => hs
 have fin : ∀{σ' : St}{H' : Hp}{v : V}{u : Ah}, Inv (Db CX P w K mg base N qual scope f cdv A outer s H E) [] σ' H' s' -> A7 v u -> Q v H' -> CE outer P w H s Q u s':=
  fun {σ' H' v u} J rv q => ⟨v, H', J.os, J.bare, J.base, J.hok, rv, q⟩
 cases fl with
 |ret u=>
  obtain⟨v, σ', H', J, rv, q⟩ := hs;exact fin J rv q
 |next=>
  obtain⟨σ', H', J, q⟩ := hs;exact fin (v := V.non) (u := Cr) J rfl q
 |brk=>
  obtain⟨_, _, _, q⟩ := hs;exact AT q
 |cont=>
  obtain⟨_, _, _, q⟩ := hs;exact AT q
section
variable{X : Cx}{x : Aj}{p pos : AJ}{e : Ao}{es : Ac Ao}{t : TA}{id T : Cv}{r : Ac V -> Hp -> VK -> Prop}
noncomputable def tCB(r : Ac V -> Hp -> VK -> Prop)(t : TA) : TE := fun σ H Q => t σ H fun vs H1 => r vs H1 Q
theorem HW(hc : FH X (.builtin id) r)(hg : Gl X x)(hm : X.mg x = Af)(hv : B7 x = Aa (.builtin id))(ha : PA X (e::es) t)(hn : x ≠ "__name__" := by decide)(hdb : (x==("__debug__" : Aj)) = Ad := by decide)(he : Ar (e::es) X.env = (Ad, eval e X.env)::Ar es X.env := by rfl)(hpl : (By pos (Ar es X.env)).any (·.1) = Ad := by rfl) : PE X (.Call (.Name x p) (e::es) [] pos) (tCB r t) := by
 intro pI s σ H Q I h;refine C2 (Ih I hg hm hv ?_ hn hdb);exact PyProof.Rows.callWith_builtin1 (thn (ha pos pI s σ H _ I h) fun us s1 ⟨vs, H1, I1, r1, q1⟩ => hc pI s1 σ H1 vs us Q I1 r1 q1) he hpl
theorem Ma(hc : FH X (.type T) r)(hg : Gl X x)(hm : X.mg x = Af)(hv : B7 x = Aa (.type T))(ha : PA X (e::es) t)(hn : x ≠ "__name__" := by decide)(hdb : (x==("__debug__" : Aj)) = Ad := by decide)(he : Ar (e::es) X.env = (Ad, eval e X.env)::Ar es X.env := by rfl)(hpl : (By pos (Ar es X.env)).any (·.1) = Ad := by rfl) : PE X (.Call (.Name x p) (e::es) [] pos) (tCB r t) := by
 intro pI s σ H Q I h;refine C2 (Ih I hg hm hv ?_ hn hdb);exact Dg (thn (ha pos pI s σ H _ I h) fun us s1 ⟨vs, H1, I1, r1, q1⟩ => hc pI s1 σ H1 vs us Q I1 r1 q1) he hpl
end
end L2
namespace HT
open PySem PyProof.Rows
variable{t sl:Ai}{Q:Ah -> Al -> Prop}{vl vu:Ah}{lo hi:Am Ag}
section
open PySem.SeqAt
open PySem.AutoSeq1 (wpAny_loadPart')
open PySem.MeetsSeq PySem.MeetsSeq2 PySem.MeetsSeq3
end
section
variable{prog : AD}{w : AO}{A : AN}{E : Ah -> Al -> Prop}{s : Al}
theorem cat_tup{b:Ai}{vs ws:Ac Ah}(ht : GZ s.heap t vs.toArray)(hb : GZ s.heap b ws.toArray)(hv : vs ≠ [])(h1 : ws = [] -> Q (.ref t) s)(h2 : ws ≠ [] -> Q (.ref s.heap.objs.size) { s with heap := s.heap.push { cls := .type "tuple", data := .seq (vs++ws).toArray } })(hsz : vs.length+ws.length <= sizeLine) : Au (model prog w) A (Bp .Add (.ref t) (.ref b)) Q E s := by
 obtain⟨⟨cls, dd, data, sl⟩, ho, hc, n, hd⟩ := id ht;obtain⟨⟨cls2, dd2, data2, sl2⟩, ho2, hc2, n2, hd2⟩ := id hb;simp only at hc hd hc2 hd2;subst hc hd hc2 hd2;have e : vs.toArray++ws.toArray = (vs++ws).toArray := by simp
 by_cases hw : ws = []
 ·exact Go ⟨_, ho, rfl⟩ ⟨_, ho2, rfl⟩ Qw seq_tuple_add Qa P9 (P7 _ _)
   (tuple_addW1 t b vs.toArray ws.toArray n n2 dd dd2 sl sl2 (by simpa using hv) (by simp[hw])) ⟨ho, ho2, h1 hw⟩
 ·refine Go ⟨_, ho, rfl⟩ ⟨_, ho2, rfl⟩ Qw seq_tuple_add Qa P9 (P7 _ _)
   (tuple_addW2 t b vs.toArray ws.toArray n n2 dd dd2 sl sl2 (by simpa using hv) (by simpa using hw) (by rw[AG, AG];exact hsz)) ⟨ho, ho2, ?_⟩
  rw[e];exact h2 hw
noncomputable def sIx(n d : Ae) : Am Ag -> Ae
 |none => d
 |some v => if v<0 then (v+(n : Ag)).toNat else min v.toNat n
theorem US(n d : Ae)(hd : d <= n)(o : Am Ag) : sIx n d o <= n := by
 cases o with
 |none => exact hd
 |some v=>
  show (if v<0 then (v+(n : Ag)).toNat else min v.toNat n) <= n
  by_cases hv : v<0
  ·rw[AB hv];omega
  ·rw[AE hv];exact Nat.min_le_right _ _
theorem M4(v : Ag)(n d : Ae) : (if v<0 then max (v+(n : Ag)) 0 else min v (n : Ag)) = ((sIx n d (Aa v) : Ae) : Ag) := by
 show (if v<0 then max (v+(n : Ag)) 0 else min v (n : Ag)) = (((if v<0 then (v+(n : Ag)).toNat else min v.toNat n) : Ae) : Ag)
 by_cases hv : v<0
 ·simp only[AB hv];omega
 ·simp only[AE hv];omega
theorem Ri(lo hi : Am Ag)(n : Ae) : Du lo hi 1 (n : Ag) = (((sIx n 0 lo : Ae) : Ag), ((sIx n n hi : Ae) : Ag)) := by
 have h1 : ¬ ((1 : Ag)<0) := by omega
 unfold Du;simp only[h1, IE];refine DC ?_ ?_
 ·cases lo with
  |none => rfl
  |some v => exact M4 v n 0
 ·cases hi with
  |none => rfl
  |some v => exact M4 v n n
theorem Q6(i j : Ae) : CG (i : Ag) (j : Ag) 1 = j-i := by
 unfold CG;have h1 : (1 : Ag) > 0 := by omega
 simp only[h1, De, Int.ediv_one];split <;> omega
theorem LP{v:Ah}{o:Am Ag}{Q:Am Ag -> Al -> Prop}(p : Fj v o)(h : Q o s) : Au (model prog w) A (Builtin.Slice.slicePartIndex v) Q E s := by
 cases p with
 |none => exact PX h
 |int i t => exact slicePart_int h
theorem QC{n:Ae}{Q:Ag × Ag × Ae -> Al -> Prop}(hs : s.heap.IsSliceOf sl vl vu .none)(pl : Fj vl lo)(pu : Fj vu hi)(h : Q (((sIx n 0 lo : Ae) : Ag), 1, sIx n n hi-sIx n 0 lo) s) : Au (model prog w) A (P2 (.ref sl) (pure (n : Ag))) Q E s := by
 obtain⟨os, hos, hcs, hds⟩ := id hs;unfold P2 Builtin.Slice.sliceFields;refine Ap (Ap (Do hos hds (x := vl) rfl (Ap (Do hos hds (x := vu) rfl (Ap (Do hos hds (x := .none) rfl (AS ?_)))))));refine Ap (PX ?_);show Au _ _ (if ((1 : Ag)==0) = Ab then _ else _) _ _ s
 rw[AE (by decide)]
 refine Ap (LP pl (Ap (LP pu (Ap (AS ?_)))));show Au _ _ (match Du lo hi 1 (n : Ag) with|(lo, hi) => pure (lo, (1 : Ag), CG lo hi 1)) _ _ s
 rw[Ri lo hi n];show Au _ _ (pure (((sIx n 0 lo : Ae) : Ag), (1 : Ag), CG ((sIx n 0 lo : Ae) : Ag) ((sIx n n hi : Ae) : Ag) 1)) _ _ s;rw[Q6];exact AS h
theorem Sj(xs : A5 Ah)(i k : Ae) : ((Ca k).filterMap fun(m : Ae) => xs[((i : Ag)+(m : Ag)*1).toNat]?).toArray = ((xs.toList.drop i).take k).toArray := by
 have e : (fun(m : Ae) => xs[((i : Ag)+(m : Ag)*1).toNat]?) = fun m => xs[i+m]? := by
  funext m
  have : ((i : Ag)+(m : Ag)*1).toNat = i+m := by omega
  rw[this]
 rw[e];have := pick_run xs i k;rw[List.filterMap_map]at this;have e2 : ((fun x => xs[x]?) ∘ fun x => i+x) = fun m => xs[i+m]? := rfl
 rw[e2]at this;rw[this]
theorem getItem_tuple_cut{items:A5 Ah}(ht : GZ s.heap t items)(hs : s.heap.IsSliceOf sl vl vu .none)(pl : Fj vl lo)(pu : Fj vu hi)(hw : ¬ (sIx items.size 0 lo = 0 /\ sIx items.size items.size hi = items.size))(h : Q (.ref s.heap.objs.size) { s with heap := s.heap.push { cls := .type "tuple", data := .seq ((items.toList.drop (sIx items.size 0 lo)).take (sIx items.size items.size hi-sIx items.size 0 lo)).toArray } })(hsz : items.size <= sizeLine) : Au (model prog w) A (GI (.ref t) (.ref sl)) Q E s := by
 have htake : sizeOk (.seq ((items.toList.drop (sIx items.size 0 lo)).take (sIx items.size items.size hi-sIx items.size 0 lo)).toArray) := by
  show ((items.toList.drop (sIx items.size 0 lo)).take (sIx items.size items.size hi-sIx items.size 0 lo)).toArray.size <= sizeLine;rw[AG, Fe, Pv, EA];omega
 have hj : sIx items.size items.size hi <= items.size := US _ _ (AL _) hi;obtain⟨os, hos, hcs, hds⟩ := id hs;have hTs : s.TypeIs (.ref sl) "slice" := ⟨os, hos, hcs⟩;unfold GI
 try with_reducible refine CC ?_
 first|refine Ap (AS ?_)|skip
 refine Ap (wpAny_sequenceKey ht.typeIs (by decide) ?_)
 refine Ap (wpAny_callSpecial?_slot (name := CP "__getitem__") ht.typeIs PY
  (wpAny_call_entry PY ht.typeIs entry_tuple_getitem ?_ (args_tuple_getitem _ _)))
 show Au _ _ (Builtin.Tuple.tupleItemsOf (.ref t) >>= _) _ _ s;refine Ap (tupleItemsOf_ ht ?_);refine Ap (wpAny_typeOf hTs ?_);rw[AB (by decide)]
 refine Ap (QC hs pl pu ?_);have hno : ¬ ((((sIx items.size 0 lo : Ae) : Ag)==0&&(1 : Ag)==1&&(sIx items.size items.size hi-sIx items.size 0 lo)==items.size) = Ab) := by
  intro q;rw[Ak, Ak]at q;have q1 : ((sIx items.size 0 lo : Ae) : Ag) = 0 := eq_of_beq q.1.1;have q2 : sIx items.size items.size hi-sIx items.size 0 lo = items.size := eq_of_beq q.2;exact hw ⟨by omega, by omega⟩
 show Au _ _ (if (((sIx items.size 0 lo : Ae) : Ag)==0&&(1 : Ag)==1&&(sIx items.size items.size hi-sIx items.size 0 lo)==items.size) = Ab then _ else _) _ _ s
 rw[AE hno, Sj]
 first
  |exact Ap (m := CN _) (CF (AS ⟨_, rfl, AS h⟩) htake)
  |exact Ap (m := CN _) (CF (Ap (AS (AS ⟨_, rfl, AS h⟩))) htake)
  |exact Ap (Ap (m := CN _) (CF (AS (AS ⟨_, rfl, AS h⟩)) htake))
  |exact Ap (Ap (m := CN _) (CF (AS ⟨_, rfl, AS h⟩) htake))
end
end HT
namespace L2
open PySem PySem.Spec PyProof.Rows
variable{xs:Ac V}{us its its':Ac Ah}{n t':Ae}{i:Ag}{pI:Ac (Ai × AC)}{σ:St}{H:Hp}{s:Al}{p:Ai}
noncomputable abbrev TO := St -> Hp -> (Am Ag -> Hp -> Prop) -> Prop
noncomputable def PO(X : Cx)(e : Am Ao)(t : TO) : Prop:=
 ∀(pI : Ac (Ai × AC))(s : Al)(σ : St)(H : Hp)(Q : Am Ag -> Hp -> Prop), Inv X pI σ H s -> t σ H Q ->
  Au (model X.prog X.w) X.A (evalPart e X.env) (fun u s' => ∃ o H', Inv X pI σ H' s' /\ Fj u o /\ Q o H') X.xe s
noncomputable def SD : TO := fun _ H Q => Q Af H
noncomputable def Wu(t : TE) : TO := fun σ H Q => t σ H fun x H1 => ∃ i, x = .int i /\ Q (Aa i) H1
section
variable{X : Cx}{e : Ao}{te : TE}{lo hi : Am Ao}{tl th : TO}{pos p2 : AJ}
theorem Ta : PO X Af SD := by
 intro pI s σ H Q I h;rw[evalPart_none];exact AS ⟨Af, H, I, .none, h⟩
theorem S9(h : PE X e te) : PO X (Aa e) (Wu te) := by
 intro pI s σ H Q I hw;rw[evalPart_some];refine thn (h pI s σ H _ I hw) fun u s1 ⟨x, H1, I1, r1, q1⟩ => ?_
 obtain⟨i, rfl, q⟩ := q1;obtain⟨t, rfl⟩ := r1;exact⟨Aa i, H1, I1, .int i t, q⟩
noncomputable def SlR(X : Cx)(r : V -> Am Ag -> Am Ag -> Hp -> VK -> Prop) : Prop:=
 ∀(pI : Ac (Ai × AC))(s : Al)(σ : St)(H : Hp)(x : V)(v vl vu : Ah)(lo hi : Am Ag)(sl : Ai)(Q : VK), Inv X pI σ H s -> A7 x v -> s.heap.IsSliceOf sl vl vu .none -> Fj vl lo -> Fj vu hi -> r x lo hi H Q ->
  ∃ T id, typeLookup (.type T) "__getitem__" = pure (Aa (.builtin id)) /\ s.TypeIs v T /\ Au (model X.prog X.w) X.A (GI v (.ref sl)) (EP X pI σ Q) X.xe s
noncomputable def tSl(r : V -> Am Ag -> Am Ag -> Hp -> VK -> Prop)(te : TE)(tl th : TO) : TE := fun σ H Q => te σ H fun x H1 => tl σ H1 fun l H2 => th σ H2 fun u H3 => r x l u H3 Q
theorem So{r:V -> Am Ag -> Am Ag -> Hp -> VK -> Prop}(hr : SlR X r)(he : PE X e te)(hl : PO X lo tl)(hu : PO X hi th) : PE X (.Subscript e (.Slice lo hi Af p2) pos) (tSl r te tl th) := by
 intro pI s σ H Q I h;refine Subscript_ (thn (he pI s σ H _ I h) fun v s1 ⟨x, H1, I1, r1, q1⟩ => ?_)
 refine wpAny_Slice (thn (hl pI s1 σ H1 _ I1 q1) fun vl s2 ⟨l, H2, I2, pl, q2⟩ => thn (hu pI s2 σ H2 _ I2 q2) fun vu s3 ⟨u, H3, I3, pu, q3⟩ => ?_)
 rw[evalPart_none];refine AS ?_;have I4 : Inv X pI σ H3 { s3 with heap := s3.heap.push { cls := .type "slice", data := .fields #[vl, vu, .none] } } := I3.kept (t' := s3.toks) fun b ob q => As _ q
 obtain⟨T, id, hT, ht, hg⟩ := hr pI { s3 with heap := s3.heap.push { cls := .type "slice", data := .fields #[vl, vu, .none] } } σ H3 x v vl vu l u s3.heap.objs.size Q I4 r1 (Heap.IsSliceOf.new ..) pl pu q3
 show Au (model X.prog X.w) X.A (subscriptTail e (.Slice lo hi Af p2) v (.ref s3.heap.objs.size)) (EP X pI σ Q) X.xe { s3 with heap := s3.heap.push { cls := .type "slice", data := .fields #[vl, vu, .none] } }
 exact tail_any (ops := [.ref s3.heap.objs.size, v]) ht hT hg (by with_unfolding_all rfl)
noncomputable def GH(xs : Ac V)(lo hi : Am Ag) : Ac V := (xs.drop (HT.sIx xs.length 0 lo)).take (HT.sIx xs.length xs.length hi-HT.sIx xs.length 0 lo)
theorem LW(xs : Ac V)(lo hi : Am Ag) : (GH xs lo hi).length <= xs.length := by
 unfold GH;rw[Fe, Pv];omega
noncomputable def OS(K : Fg) : V -> Am Ag -> Am Ag -> Hp -> VK -> Prop := fun x lo hi H Q => ∃ a xs, x = .ref a /\ SqT K H a xs /\
 ¬ (HT.sIx xs.length 0 lo = 0 /\ HT.sIx xs.length xs.length hi = xs.length) /\ ∀ p, H p = Af -> Q (.ref p) (upd H p (.tup (GH xs lo hi)))
theorem Vf : SlR X (OS X.K) := by
 intro pI s σ H x v vl vu lo hi sl Q I rx hs pl pu h;obtain⟨a, xs, rfl, hx, hw, q⟩ := h;cases rx;obtain⟨its, r, ht, hz⟩ := I.tuple hx;have hlen : its.toArray.size = xs.length := by rw[AG];exact r.length.symm
 refine⟨"tuple", _, PyProof.Rows.slot_tuple_getitem.lookup, ht.typeIs, ?_⟩;refine HT.getItem_tuple_cut ht hs pl pu (by rw[hlen];exact hw) ?_ (by rw[hlen];exact hz)
 rw[hlen];refine⟨.ref s.heap.objs.size, _, I.laid (t' := s.toks) (o := .tup (GH xs lo hi)) (fun b ob q => As _ q) (AL _) ?_, rfl, q _ (I.hok.fresh (AL _))⟩
 exact⟨BJ (LW xs lo hi) hz, _, (r.drop (HT.sIx xs.length 0 lo)).take (HT.sIx xs.length xs.length hi-HT.sIx xs.length 0 lo), HB _ _⟩
noncomputable def WO(K : Fg) : R2 := fun x y H Q => ∃ a b xs ys, x = .ref a /\ y = .ref b /\ SqT K H a xs /\ SqT K H b ys /\ xs ≠ [] /\ xs.length+ys.length <= sizeLine /\
 (ys = [] -> Q (.ref a) H) /\ (ys ≠ [] -> ∀ p, H p = Af -> Q (.ref p) (upd H p (.tup (xs++ys))))
theorem AW.nil_iff(r : AW xs us) : us = [] ↔ xs = [] := by
 cases r with
 |nil => simp
 |cons _ _ => simp
theorem Tq : OpR X (Bp .Add) (WO X.K) := by
 intro pI s σ H x y v u Q I rx ry h;obtain⟨a, b, xs, ys, rfl, rfl, ha, hb, hx, hz, q1, q2⟩ := h;cases rx;cases ry;obtain⟨its, r1, p1, _⟩ := I.tuple ha;obtain⟨its2, r2, p2, _⟩ := I.tuple hb;refine HT.cat_tup p1 p2 (fun z => hx (r1.nil_iff.mp z)) (fun z => ⟨.ref a, H, I, rfl, q1 (r2.nil_iff.mp z)⟩) (fun z => ?_) (by rw[<-r1.length, <-r2.length];exact hz)
 refine⟨.ref s.heap.objs.size, _, I.laid (t' := s.toks) (o := .tup (xs++ys)) (fun b ob q => As _ q) (AL _) ?_, rfl, q2 (fun w => z (r2.nil_iff.mpr w)) _ (I.hok.fresh (AL _))⟩
 exact⟨by rw[Cu];exact hz, _, r1.append r2, HB _ _⟩
end
noncomputable def ixN(n : Ae)(i : Ag) : Am Ae := if 0 <= i then (if i<n then Aa i.toNat else Af) else if -(n : Ag) <= i then Aa (i+n).toNat else Af
noncomputable def atI{α : Type}(xs : Ac α)(i : Ag) : Am α := (ixN xs.length i).bind fun j => xs[j]?
theorem Nl{j:Ae}(h : ixN n i = Aa j) : seqIndex? i n = Aa j /\ j<n /\ -(n : Ag) <= i /\ i<n := by
 unfold ixN at h;by_cases h0 : 0 <= i
 ·rw[AB h0]at h;by_cases h1 : i<n
  ·rw[AB h1]at h;have e : i.toNat = j := Bv h;exact⟨by rw[GK h0 h1, e], by omega, by omega, h1⟩
  ·rw[AE h1]at h;cases h
 ·rw[AE h0]at h;by_cases h1 : -(n : Ag) <= i
  ·rw[AB h1]at h;have e : (i+n).toNat = j := Bv h;exact⟨by rw[Gr (by omega) h1, e], by omega, h1, by omega⟩
  ·rw[AE h1]at h;cases h
theorem M8{α:Type}{xs : Ac α}{v : α}(h : atI xs i = Aa v) : ∃ j, seqIndex? i xs.length = Aa j /\ xs[j]? = Aa v /\ j<xs.length /\ -(xs.length : Ag) <= i /\ i<xs.length := by
 unfold atI at h;cases e : ixN xs.length i with
 |none => rw[e]at h;cases h
 |some j=>
  rw[e]at h;obtain⟨h1, h2, h3, h4⟩ := Nl e;exact⟨j, h1, h, h2, h3, h4⟩
noncomputable def Kq(b : Ao) : Prop := ∀ o i, subscripted b Ad o i = operate [o, i] (GI o i)
noncomputable def IxR(X : Cx)(r : R2) : Prop:=
 ∀(value slice : Ao)(pI : Ac (Ai × AC))(s : Al)(σ : St)(H : Hp)(x y : V)(v u : Ah)(Q : VK), Inv X pI σ H s -> A7 x v -> A7 y u -> r x y H Q ->
  subscripted slice Ad v u = operate [v, u] (GI v u) -> Au (model X.prog X.w) X.A (subscriptTail value slice v u) (EP X pI σ Q) X.xe s
noncomputable def MtR(X : Cx)(id : Cv)(r : V -> Ac V -> Hp -> VK -> Prop) : Prop:=
 ∀(pI : Ac (Ai × AC))(s : Al)(σ : St)(H : Hp)(x : V)(xs : Ac V)(v : Ah)(us : Ac Ah)(Q : VK), Inv X pI σ H s -> A7 x v -> AW xs us -> r x xs H Q ->
  Au (model X.prog X.w) X.A (call (.builtin id) (v::us)) (EP X pI σ Q) X.xe s
section
variable{X : Cx}{a b : Ao}{ta tb : TE}{pos : AJ}
theorem IxR.or{r r':R2}(h : IxR X r)(h' : IxR X r') : IxR X (fun x y H Q => r x y H Q \/ r' x y H Q) := by
 intro value slice pI s σ H x y v u Q I rx ry q hs;rcases q with q|q
 ·exact h value slice pI s σ H x y v u Q I rx ry q hs
 ·exact h' value slice pI s σ H x y v u Q I rx ry q hs
theorem WT{r:R2}(hr : IxR X r)(ha : PE X a ta)(hb : PE X b tb)(hs : Kq b) : PE X (.Subscript a b pos) (tOp r ta tb) := by
 intro pI s σ H Q I h;exact Subscript_ (Lv ha hb I h fun v u s2 x y H2 I2 rx ry q => hr a b pI s2 σ H2 x y v u Q I2 rx ry q (hs _ _))
noncomputable def OW(K : Fg) : R2 := fun x y H Q => ∃ p xs i v, x = .ref p /\ y = .int i /\ SqL K H p xs /\ atI xs i = Aa v /\ Q v H
noncomputable def OU(K : Fg) : R2 := fun x y H Q => ∃ p xs i v, x = .ref p /\ y = .int i /\ SqT K H p xs /\ atI xs i = Aa v /\ Q v H
theorem S4 : IxR X (OW X.K) := by
 intro value slice pI s σ H x y v u Q I rx ry h hs;obtain⟨p, xs, i, z, rfl, rfl, hq, he, q⟩ := h;cases rx;obtain⟨t, rfl⟩ := ry;obtain⟨its, r, pl, hz⟩ := I.list hq;obtain⟨j, h1, h2, h3, h4, h5⟩ := M8 he;obtain⟨w, ew, rw'⟩ := r.get h2;have hl := r.length;have hn := Hn;have fin : EP X pI σ Q w s := ⟨z, H, I, rw', q⟩;by_cases h0 : 0 <= i
 ·have hj : i.toNat = j := by
   rw[GK h0 h5]at h1;exact Bv h1
  exact item_listR pl.isList h0 (by omega) (by rw[hj];simpa using ew) fin hs
 ·have hj : (i+(its.toArray.size : Ag)).toNat = j := by
   rw[Gr (by omega) h4]at h1
   rw[AG, <-hl];exact Bv h1
  exact PZ (x := w) pl.isList.typeIs Qy.lookup
   (wpAny_getItem_list_neg (Q := fun r s' => r = w /\ EP X pI σ Q r s') pl.isList (by omega) (by rw[AG] <;> omega) (by omega) (by rw[hj];simpa using ew) ⟨rfl, fin⟩) hs
theorem Vs : IxR X (OU X.K) := by
 intro value slice pI s σ H x y v u Q I rx ry h hs;obtain⟨p, xs, i, z, rfl, rfl, hq, he, q⟩ := h;cases rx;obtain⟨t, rfl⟩ := ry;obtain⟨its, r, pl, hz⟩ := I.tuple hq;obtain⟨j, h1, h2, h3, h4, h5⟩ := M8 he;obtain⟨w, ew, rw'⟩ := r.get h2;have hl := r.length;have hn := Hn;have fin : EP X pI σ Q w s := ⟨z, H, I, rw', q⟩;exact PZ (x := w) pl.typeIs slot_tuple_getitem.lookup
  (getItem_tuple (j := j) (Q := fun r s' => r = w /\ EP X pI σ Q r s') pl (by omega) (by omega) (by rw[AG, <-hl];exact h1) (by simpa using ew) ⟨rfl, fin⟩) hs
theorem Q8(its : Ac Ah)(n j : Ae)(u : Ah) : E7 (·.setIfInBounds j u) { cls := .type "list", data := .seq its.toArray n } = { cls := .type "list", data := .seq (its.set j u).toArray n } := by
 simp[E7]
theorem Inv.lst(I : Inv X pI σ H s)(h : H p = Aa (.lst xs)):
  ∃(its : Ac Ah)(n : Ae), AW xs its /\ s.heap.get? p = Aa { cls := .type "list", data := .seq its.toArray n } /\ xs.length <= sizeLine := by
 obtain⟨z, its, n, r, e⟩ := I.hok p _ h;exact⟨its, n, r, e, z⟩
theorem Inv.lstUpd{ys:Ac V}{n':Ae}{f:AC -> AC}(I : Inv X pI σ H s)(h : H p = Aa (.lst xs))(ho : s.heap.get? p = Aa { cls := .type "list", data := .seq its.toArray n })(hf : f { cls := .type "list", data := .seq its.toArray n } = { cls := .type "list", data := .seq its'.toArray n' })(r : AW ys its')(hz : ys.length <= sizeLine)(t : Ae):Inv X pI σ (upd H p (.lst ys)) {s with heap := s.heap.update p f,toks := t} := by
 have e : (s.heap.update p f).get? p = Aa { cls := .type "list", data := .seq its'.toArray n' } := by
  rw[Cd f ho (by rw[hf] <;> rfl), hf]
 refine I.write (x := p) (e := p) (by rw[h];trivial) (.inl rfl) (fun b u hb q => (BM _ _ (CJ hb)).trans q) ⟨_, e⟩ ?_
 exact⟨hz, its', n', r, e⟩
noncomputable def WN : V -> V -> V -> Hp -> (Hp -> Prop) -> Prop := fun o i v H Q => ∃ p xs k j, o = .ref p /\ i = .int k /\ H p = Aa (.lst xs) /\ ixN xs.length k = Aa j /\ Q (upd H p (.lst (xs.set j v)))
theorem R7 : O4 X WN := by
 intro pI s σ H o i v ov iv u Q I ro ri rv h;obtain⟨p, xs, k, j, rfl, rfl, hp, hj, q⟩ := h;cases ro;obtain⟨t, rfl⟩ := ri;obtain⟨its, n, r, ho, hz⟩ := I.lst hp;obtain⟨h1, h2, h3, h4⟩ := Nl hj;have hl := r.length;have hn := Hn;have I' : Inv X pI σ (upd H p (.lst (xs.set j v))) {s with heap := s.heap.update p (E7 (·.setIfInBounds j u))}:=
  I.lstUpd hp ho (Q8 its n j u) (r.set rv j) (by rw[AU];exact hz) s.toks
 by_cases h0 : 0 <= k
 ·have hk : k.toNat = j := by
   rw[GK h0 h4]at h1;exact Bv h1
  exact PySem.W.ki_setAt ho h0 (by omega) (by rw[AG, <-hl];exact h4) (by rw[hk];exact⟨_, I', q⟩)
 ·have hk : (k+(its.toArray.size : Ag)).toNat = j := by
   rw[Gr (by omega) h3]at h1
   rw[AG, <-hl];exact Bv h1
  exact PySem.W.ki_setBack ho (by omega) (by rw[AG, <-hl];exact h3) (by omega) (by rw[hk];exact⟨_, I', q⟩)
theorem QG(lo hi : Am Ag)(n : Ae) : (Dm lo hi Af n).1 = ((HT.sIx n 0 lo : Ae) : Ag) /\ (Dm lo hi Af n).2.1 = ((HT.sIx n n hi : Ae) : Ag) /\ (Dm lo hi Af n).2.2 = 1 := by
 refine⟨?_, ?_, rfl⟩
 ·cases lo with
  |none => simp[Dm, HT.sIx]
  |some i=>
   simp only[Dm, HT.sIx, PQ, show (1 : Ag) > 0 by decide, De]
   by_cases h : i<0
   ·simp only[h, De] <;> omega
   ·simp only[h, IE] <;> omega
 ·cases hi with
  |none => simp[Dm, HT.sIx]
  |some i=>
   simp only[Dm, HT.sIx, PQ, show (1 : Ag) > 0 by decide, De]
   by_cases h : i<0
   ·simp only[h, De] <;> omega
   ·simp only[h, IE] <;> omega
theorem QD(its : Ac Ah)(lo hi : Am Ag) : slicePick its.toArray lo hi Af = ((its.drop (HT.sIx its.length 0 lo)).take (HT.sIx its.length its.length hi-HT.sIx its.length 0 lo)).toArray := by
 obtain⟨h1, h2, h3⟩ := QG lo hi its.toArray.size;unfold slicePick;rw[h1, h2, h3];simp only[sliceRange_one, pick_run, AG] <;> rfl
noncomputable def OT(K : Fg) : V -> Am Ag -> Am Ag -> Hp -> VK -> Prop := fun x lo hi H Q => ∃ a xs, x = .ref a /\ SqL K H a xs /\ ∀ p, H p = Af -> Q (.ref p) (upd H p (.lst (GH xs lo hi)))
theorem TD : SlR X (OT X.K) := by
 intro pI s σ H x v vl vu lo hi sl Q I rx hs pl pu h;obtain⟨a, xs, rfl, hx, q⟩ := h;cases rx;obtain⟨its, r, ht, hz⟩ := I.list hx;have hlen := r.length;refine⟨"list", _, Qy.lookup, ht.isList.typeIs, ?_⟩;refine wpAny_getItem_list_slice ht.isList hs pl pu .none (by simp) ?_ (by rw[AG] <;> omega)
 rw[QD, <-hlen];refine⟨.ref s.heap.objs.size, _, I.laid (t' := s.toks) (o := .lst (GH xs lo hi)) (fun b ob q => As _ q) (AL _) ?_, rfl, q _ (I.hok.fresh (AL _))⟩
 exact⟨BJ (LW xs lo hi) hz, _, 0, (r.drop (HT.sIx xs.length 0 lo)).take (HT.sIx xs.length xs.length hi-HT.sIx xs.length 0 lo), Be _ rfl⟩
theorem LJ : FH X (.builtin "len") (fun xs H Q => ∃ p ys, xs = [.ref p] /\ (SqL X.K H p ys \/ SqT X.K H p ys) /\ Q (.int ys.length) H) := by
 intro pI s σ H xs us Q I r h;obtain⟨p, ys, rfl, hq, q⟩ := h;obtain⟨u, rfl, rx⟩ := GA r;cases rx;have hn := Hn;rcases hq with hq|hq
 ·obtain⟨its, r', pl, hz⟩ := I.list hq;have hlen := r'.length;exact Calls.call_len_list pl.isList (by simp only[AG] <;> omega) ⟨.int ys.length, H, I.tok _, ⟨s.toks+1, by rw[AG, hlen]⟩, q⟩
 ·obtain⟨its, r', pl, hz⟩ := I.tuple hq;have hlen := r'.length;exact len_tuple pl (by simp only[AG] <;> omega) ⟨.int ys.length, H, I.tok _, ⟨s.toks+1, by rw[AG, hlen]⟩, q⟩
theorem QH : FH X (.builtin "len") (fun xs H Q => ∃ z, xs = [.str z] /\ z.length <= sizeLine /\ Q (.int z.length) H) := by
 intro pI s σ H xs us Q I r h;obtain⟨z, rfl, hz, q⟩ := h;obtain⟨u, rfl, t, rfl⟩ := GA r;have hn := Hn;exact len_str (by omega) ⟨.int z.length, H, I.tok _, ⟨_, rfl⟩, q⟩
theorem LI : FH X (.type "list") (fun xs H Q => ∃ p ys, xs = [.ref p] /\ (SqL X.K H p ys \/ SqT X.K H p ys) /\ ∀ l, H l = Af -> Q (.ref l) (upd H l (.lst ys))) := by
 intro pI s σ H xs us Q I r h;obtain⟨p, ys, rfl, hq, q⟩ := h;obtain⟨u, rfl, rx⟩ := GA r;cases rx;have fin : ∀(its : Ac Ah), AW ys its -> ys.length <= sizeLine -> ∀(h' : Ax)(c' : Ae), (∀ b o', s.heap.get? b = Aa o' -> h'.get? b = Aa o') ->
   h'.get? s.heap.objs.size = Aa { cls := .type "list", dict := Af, data := .seq its.toArray c', slots := #[] } -> EP X pI σ Q (.ref s.heap.objs.size) {s with heap := h'} := fun its r' hz h' c' kp e=>
  ⟨.ref s.heap.objs.size, _, I.laid (t' := s.toks) kp (AL _) (show ObjOk X.prog X.w _ h' _ (.lst ys) from ⟨hz, its, c', r', e⟩), rfl, q _ (I.hok.fresh (AL _))⟩
 rcases hq with hq|hq
 ·obtain⟨its, r', pl, hz⟩ := I.list hq;have hlen := r'.length;obtain⟨o, ho, hc, n, hd⟩ := pl.isList;exact call_list_seq p (.inl rfl) ho hc hd (fun h' c' kp e => fin its r' hz h' c' kp e) (by simp only[AG] <;> omega)
 ·obtain⟨its, r', pl, hz⟩ := I.tuple hq;have hlen := r'.length;obtain⟨o, ho, hc, n, hd⟩ := pl;exact call_list_seq p (.inr rfl) ho hc hd (fun h' c' kp e => fin its r' hz h' c' kp e) (by simp only[AG] <;> omega)
theorem LD : FH X (.type "tuple") (fun xs H Q => ∃ p ys, xs = [.ref p] /\ ((SqL X.K H p ys /\ ∀ l, H l = Af -> Q (.ref l) (upd H l (.tup ys))) \/ (SqT X.K H p ys /\ Q (.ref p) H))) := by
 intro pI s σ H xs us Q I r h;obtain⟨p, ys, rfl, h⟩ := h;obtain⟨u, rfl, rx⟩ := GA r;cases rx;rcases h with ⟨hq, q⟩|⟨hq, q⟩
 ·obtain⟨its, r', pl, hz⟩ := I.list hq;have hlen := r'.length;refine call_tuple_list pl.isList (fun h' kp => ?_) (by simp only[AG] <;> omega)
  have I1 : Inv X pI σ H {s with heap := h'} := I.kept (t' := s.toks) kp
  have I2 : Inv X pI σ (upd H h'.objs.size (.tup ys)) { s with heap := h'.push { cls := .type "tuple", data := .seq its.toArray } }:=
   I1.laid (t' := s.toks) (fun b o e => As _ e) (AL _) (show ObjOk X.prog X.w _ _ _ (.tup ys) from ⟨hz, its, r', HB _ _⟩)
  exact⟨.ref h'.objs.size, _, I2, rfl, q _ (I1.hok.fresh (AL _))⟩
 ·obtain⟨its, r', pl, hz⟩ := I.tuple hq;exact call_tuple_same pl ⟨.ref p, H, I, rfl, q⟩
variable{o e : Ao}{es : Ac Ao}{to : TE}{t : TA}{name : Aj}{apos cpos : AJ}{T id : Cv}{r : V -> Ac V -> Hp -> VK -> Prop}
/- xs.append(e), list.index on a module's tuple .. are MtR facts of 06m -/
end
theorem AW.one : ∀{x : V}{us : Ac Ah}, AW [x] us -> ∃ u, us = [u] /\ A7 x u
 |_, _, .cons r .nil => ⟨_, rfl, r⟩
theorem AW.zero : ∀{us : Ac Ah}, AW [] us -> us = []
 |_, .nil => rfl
theorem AW.eraseIdx : ∀{xs : Ac V}{us : Ac Ah}(i : Ae), AW xs us -> AW (xs.eraseIdx i) (us.eraseIdx i)
 |_, _, _, .nil => .nil
 |_, _, 0, .cons _ t => t
 |_, _, i+1, .cons r t => .cons r (AW.eraseIdx i t)
theorem AW.reverse(h : AW xs us) : AW xs.reverse us.reverse := by
 induction h with
 |nil => exact .nil
 |cons r t ih => rw[PB, PB];exact AW.append ih (.cons r .nil)
section
variable{X : Cx}{pI : Ac (Ai × AC)}{σ : St}{H : Hp}{s : Al}{l b : Ai}{xs ys zs : Ac V}
theorem Inv.lset{f:A5 Ah -> A5 Ah}(I : Inv X pI σ H s)(hH : H l = Aa (.lst xs))(e : s.heap.get? l = Aa { cls := .type "list", data := .seq its.toArray n })(hf : f its.toArray = its'.toArray)(hv : AW ys its')(hz : ys.length <= sizeLine):Inv X pI σ (upd H l (.lst ys)) {s with heap := s.heap.update l (E7 f),toks := t'} := by
 have q := PySem.IsL.update e f;rw[hf]at q;refine I.write (x := l) (e := l) (by rw[hH];exact trivial) (.inl rfl) (fun b' u hb hu => (BM s.heap (E7 f) (CJ hb)).trans hu) ⟨_, q⟩ ?_
 exact⟨hz, its', _, hv, q⟩
theorem Inv.lnew(I : Inv X pI σ H s)(hv : AW ys its)(hz : ys.length <= sizeLine):
  Inv X pI σ (upd H s.heap.objs.size (.lst ys)) { s with heap := s.heap.push { cls := .type "list", data := .seq its.toArray }, toks := t' }:=
 I.laid (fun _ _ q => As _ q) (AL _) ⟨hz, its, 0, hv, Be _ rfl⟩
theorem Inv.fresh(I : Inv X pI σ H s) : H s.heap.objs.size = Af := I.hok.fresh (AL _)
end
section
variable{X : Cx}
end
section
variable{prog : AD}{w : AO}{A : AN}{E : Ah -> Al -> Prop}{s : Al}
set_option maxRecDepth 100000 in
end
section
variable{X : Cx}
end
end L2
namespace Att
open PySem PySem.W PySem.Calls PyProof.Rows
variable{P:HK}{h:Ax}{l:D1}{n:Ae}
theorem QF : ∀(ns : Ac Ag)(vs : Ac Ah), WellAll P h vs (ns.map Qn) -> FN vs ns := by
 intro ns
 induction ns with
 |nil=>
  intro vs w;rw[Px]at w;cases w;exact .nil
 |cons n ns ih=>
  intro vs w;rw[Cm]at w;cases w with
  |cons a b=>
   cases a;exact .cons _ _ (ih _ b)
theorem Q3(hn : l.most = Aa n){args:Ac WData}{vals:Ac Ah}(hpre : l.row.toRowW.claim.pre args = Ab)(hwl : WellAll P h vals args):
  ∃ a vs ns, vals = [BF a] /\ args = [WData.list (ns.map Qn)] /\ h.get? a = Aa { cls := .type "list", data := .seq vs.toArray } /\ FN vs ns /\ ns.length <= n := by
 have hsh : WShape.hasAll [] args [.list .int] = Ab := (pre_splitW hpre).1;have hc : l.pre.holds [] {args := args} = Ab := (pre_splitW hpre).2;obtain⟨d, r, rfl, h1, h2⟩ := hasAllW_cons hsh;obtain rfl := hasAllW_nil h2;obtain⟨xs, rfl, h3⟩ := hasW_list h1;obtain⟨ns, rfl⟩ := items_int h3;have hlen : ns.length <= n := by
  unfold OpenLaw.pre at hc;have h4 : (WTm.not (.lt (.lit (.int (n : Ag))) (.len (.arg 0)))).holds [] {args := [.list (ns.map .int)]} = Ab := by
   have h4 := (holds_andW hc).1;rw[hn]at h4;exact h4
  have h5 := condW_of h4 (w_not (w_lt w_lit (w_len_list (w_arg rfl))));rw[CY]at h5;refine Nat.le_of_not_lt fun q => ?_
  have q' : (n : Ag)<((ns.length : Ae) : Ag) := by omega
  first
   |(rw[FU q']at h5;exact absurd h5 (by decide))
   |(simp at h5;omega)
 cases hwl with
 |cons w1 w2=>
  cases w2;cases w1 with
  |list ho hall => exact⟨_, _, ns, rfl, rfl, ho, QF ns _ hall, hlen⟩
theorem QY(l : D1)(args : Ac WData) : l.row.toRowW.claim.post args (.bool Ab) args = Ab:=
 postW_of (r := l.row.toRowW) (X := (Ab==Ab))
  (show Qo [] (.bool Ab) .bool = Ab by first|rfl|decide|simp[Qo, WShape.arms, WShape.armsAll])
  (show (WTm.eq .res (.lit (.bool Ab))).value [] {args := args, res := Aa (.bool Ab), after := args} = Aa (.bool (Ab==Ab)) from w_eq_bool (w_res rfl) w_lit) rfl
theorem attach_call{q:AD}{loose:Ac Aj}{XP:(Aj -> Am Ah) -> Ax -> Prop}{YP:AO -> Ax -> Prop}{d:DefRec}(hn : l.most = Aa n)(hdf : d.params.defaults = [])(call : ∀(w : AO)(s₀ s₁ : Al)(mg mb : Aj -> Am Ah)(fa : Ai)(o : AC)(pm cd doc : Ah)(a : Ai)(vs : Ac Ah)(ns : Ac Ag),
   Ground q loose [] XP w s₀ mg mb s₁.heap -> YP w s₁.heap ->
   s₁.heap.get? fa = Aa o -> o.data = .func (docDef d.name d.params d.body d.scope pm cd doc) -> s₁.heap.CodeRec cd d.name -> mg d.name = Aa (.ref fa) ->
   s₁.heap.get? a = Aa { cls := .type "list", data := .seq vs.toArray } -> FN vs ns -> ns.length <= n -> s₁.gens = #[] ->
   DM (model l.prog w) Fa (.call (.ref fa) ⟨[.ref a], []⟩) (fun r s' => r = .ok (.ret (.bool Ab)) /\ OldK s₁.heap s'.heap /\ s'.os = s₁.os /\ DK s'.gens) s₁):WalkO q loose XP YP l.row.toRowW d [] (fun f vs =>G4 f vs) := by
 intro w s₀ s₁ mg mb G Y fa o pm cd doc dV kV ho hd hcd hD hmg hg args vals as hpre hlay hrd hwl hlo;obtain rfl : dV = .none := Dflts.none hD hdf;obtain rfl : kV = .none := Dflts.noKw hD;obtain⟨a, vs, ns, rfl, rfl, hobj, hints, hlen⟩ := Q3 hn hpre hwl;refine enter_call (DF (call w s₀ s₁ mg mb fa o pm cd doc a vs ns G Y ho (fd_plain hd) hcd hmg hobj hints hlen hg) fun r s' hq => ?_)
 obtain⟨rfl, h2, h3, h4⟩ := hq;exact⟨.inl ⟨.bool Ab, .bool Ab, [], rfl, fun _ => rfl, .bool Ab, QY l _, fun _ => ⟨List.Pairwise.nil, fun _ hm => (nomatch hm)⟩⟩, h2, h3, h4⟩
section
variable{prog : AD}{w : AO}{A : AN}{E : Ah -> Al -> Prop}{s : Al}{K : Frag}
end
end Att
namespace L2
open PySem PySem.Spec PyProof.Rows
variable{k:Ae}{x:Aj}
theorem Mm : ∀{vs : Ac Ah}{ns : Ac Ag}, FN vs ns -> AW (ns.map V.int) vs
 |_, _, .nil => .nil
 |_, _, .cons n t h => .cons ⟨t, rfl⟩ (Mm h)
noncomputable def Lz(H : Hp) : Prop := ∀ b, H b = Af \/ ∃ o xs, H b = Aa (.frz o (.lst xs))
theorem RM{P:AD}{w:AO}{K:Fg}{mg mb:Aj -> Am Ah}{CX:CXT}{fa a:Ai}{fd:Bi}{sp:Sp}{s₁:Al}{vs:Ac Ah}{ns:Ac Ag}(KX : K.In s₁.heap)(hns : s₁.heap.Ns AR mg)(hb : s₁.heap.Ns FX mb)(hbb : ∀ x : Aj, x ≠ "__name__" -> mb x = B7 x)(hlim : s₁.heap.NoLimit)(hg : s₁.gens = #[])(ha : s₁.heap.get? a = Aa { cls := .type "list", data := .seq vs.toArray })(hi : FN vs ns)(hl : ns.length <= sizeLine)(hr : Room k Fa)(F : ∀ base : Ax, K.In base -> base.Ns AR mg -> FnOk P w K mg base CX k fa fd [x] sp)(hbind : ∀(s : Al)(u : Ah), Ee s fd ⟨[u], []⟩ [(x, u)])(hsp : ∀ H : Hp, Lz H -> SqL K H a (ns.map V.int) -> sp [.ref a] H (fun v _ => v = .bl Ab) fun _ _ _ => AH)(hCX : ∀ H e s', CX [] H s₁ (fun _ _ _ => AH) e s' -> AH):DM (model P w) Fa (.call (.ref fa) ⟨[.ref a],[]⟩) (fun r s' =>r = .ok (.ret (.bool Ab))/\OldK s₁.heap s'.heap/\s'.os = s₁.os/\DK s'.gens) s₁ := by
 have rv := Mm hi;have lenV := hi.length
 -- from an abstract heap in which nothing but the script may be tracked
 have core : ∀ H : Hp, Lz H -> SqL K H a (ns.map V.int) -> HOk P w H s₁.heap -> (∀ b, H b ≠ Af -> b = a) -> (H a ≠ Af -> K.lookup a = Af) ->
   DM (model P w) Fa (.call (.ref fa) ⟨[.ref a], []⟩) (fun r s' => r = .ok (.ret (.bool Ab)) /\ OldK s₁.heap s'.heap /\ s'.os = s₁.os /\ DK s'.gens) s₁ := by
  intro H hO hS hok hA hK;have base_of : ∀{b : Ai}{o : AC}, s₁.heap.get? b = Aa o -> H b = Af -> (F7 s₁.heap H).get? b = Aa o := fun e n => RP e n
  have noA : ∀{b : Ai}{o : AC}{es : A5 DictEntry}{ep : Ae}, s₁.heap.get? b = Aa o -> o.data = .dict es ep -> H b = Af := fun {b o es ep} e d => by
   cases q : H b with
   |none => rfl
   |some u=>
    have e' : b = a := hA b (by rw[q];simp)
    subst e';rw[ha]at e;cases e;have d' : HI vs.toArray _ = Data.dict es ep := d;cases d'
  have nsK : ∀{b : Ai}{m : Aj -> Am Ah}, s₁.heap.Ns b m -> (F7 s₁.heap H).Ns b m := fun {b m} ⟨o, es, ep, e, d, r⟩ => ⟨o, es, ep, base_of e (noA e d), d, r⟩
  have hKb : K.In (F7 s₁.heap H) := fun b o e => base_of (KX b o e) (by
   cases q : H b with
   |none => rfl
   |some u=>
    have e' : b = a := hA b (by rw[q];simp)
    subst e';rw[hK (by rw[q];simp)]at e;cases e)
  have hM : Mod K mg (F7 s₁.heap H) := ⟨hKb, nsK hns, ⟨mb, nsK hb, hbb⟩, let ⟨mc, h1, h2⟩ := hlim;⟨mc, nsK h1, h2⟩⟩
  have e0 : Env0 P w K mg (F7 s₁.heap H) Fa [] s₁ H := ⟨rfl, hM, fun b o e => Tr e, Nat.le_of_eq (RI _ _), trivial, fun b hb => absurd (show b ∈ ([] : Ac Ai) from hb) (by simp), hok, .of_eq hg⟩
  refine DF ((F _ hKb (nsK hns)).run Fa [] s₁ H ⟨[.ref a], []⟩ [.ref a] [.ref a] _ _ hr e0 (hbind s₁ (.ref a)) (.cons rfl .nil) (hsp H hO hS)) fun r s' h => ?_
  cases r with
  |error e => exact(hCX H e s' h).elim
  |ok fl=>
   cases fl with
   |next => exact AT h
   |brk => exact AT h
   |cont => exact AT h
   |ret u=>
    obtain⟨v, H', os, bare, un, hok', r', q⟩ := h;have q' : v = .bl Ab := q;subst q';obtain rfl : u = G3 Ab := r';refine⟨rfl, OldK.of_keep fun b o e => ?_, os, bare⟩
    cases q : H b with
    |none => exact un.keep b o e q (by intro z;exact absurd (show b ∈ ([] : Ac Ai) from z) (by simp)) (by simp)
    |some u=>
     rcases hO b with z|⟨ob, xs, z⟩
     ·rw[q]at z;cases z
     ·have z2 := un.frzs b ob _ z;obtain⟨e1, _⟩ := hok b _ z;obtain⟨e2, _⟩ := hok' b _ z2;rw[e]at e1;cases e1;exact e2
 cases hk : K.lookup a with
 |some o=>
  -- the script is one of the module's own objects
  have e := KX a o hk;rw[ha]at e;cases e;refine core (fun _ => Af) (fun _ => .inl rfl) (.inr ⟨_, vs.toArray, _, hk, rfl, rfl, rfl, by rw[AG, lenV];exact hl, by simpa using rv⟩) (fun b u z => by have z' : (Af : Am HO) = Aa u := z;cases z') (fun b z => absurd rfl z) fun z => absurd rfl z
 |none=>
  refine core (fun b => if b = a then Aa (.frz { cls := .type "list", data := .seq vs.toArray } (.lst (ns.map V.int))) else Af) (fun b => ?_) (.inl (.inr ⟨{ cls := .type "list", data := .seq vs.toArray }, AB rfl⟩)) (fun b u z => ?_) (fun b z => ?_) fun _ => hk
  ·by_cases hb : b = a
   ·exact .inr ⟨_, _, AB hb⟩
   ·exact .inl (AE hb)
  ·by_cases hb : b = a
   ·have z' := (AB hb).symm.trans z;cases z';subst hb;exact⟨ha, by rw[CY];exact hl, vs, _, rv, ha⟩
   ·have z' := (AE hb).symm.trans z;cases z'
  ·by_cases hb : b = a
   ·exact hb
   ·exact absurd (AE hb) z
noncomputable abbrev KOf{K : Fg}{h : Ax}(_ : K.In h) : Fg := K
theorem walk_of{l:D1}{n:Ae}{q:AD}{loose:Ac Aj}{XP:(Aj -> Am Ah) -> Ax -> Prop}{YP:AO -> Ax -> Prop}{d:DefRec}{K:HK -> Fg}{CX:AO -> CXT}{sp:AO -> Sp}(hn : l.most = Aa n)(hn2 : n <= sizeLine)(hdf : d.params.defaults = [])(hr : Room k Fa)(hY : ∀(w : AO)(h : Ax), YP w h -> (K w.params).In h)(F : ∀(w : AO)(mg : Aj -> Am Ah)(fa : Ai)(h : Ax), (K w.params).In h -> h.Ns AR mg -> mg d.name = Aa (.ref fa) ->
   ∃ fd : Bi, (∀(s : Al)(u : Ah), Ee s fd ⟨[u], []⟩ [(x, u)]) /\
    ∀ base : Ax, (K w.params).In base -> base.Ns AR mg -> FnOk l.prog w (K w.params) mg base (CX w) k fa fd [x] (sp w))(hsp : ∀(w : AO)(H : Hp)(a : Ai)(ns : Ac Ag), ns.length <= n -> Lz H -> SqL (K w.params) H a (ns.map V.int) -> sp w [.ref a] H (fun v _ => v = .bl Ab) fun _ _ _ => AH)(hCX : ∀(w : AO)(H : Hp)(s : Al)(e : Ah)(s' : Al), CX w [] H s (fun _ _ _ => AH) e s' -> AH):Qp q loose XP YP l.row.toRowW d [] (fun f vs =>G4 f vs) := by
 refine Att.attach_call hn hdf fun w s₀ s₁ mg mb fa o pm cd doc a vs ns G Y ho hd hcd hmg hobj hints hlen hg => ?_
 have KX := hY w _ Y;obtain⟨fd, hb, hF⟩ := F w mg fa _ KX G.T.g hmg;exact RM KX G.T.g G.T.b G.T.builtins G.T.nolimit hg hobj hints (BJ hlen hn2) hr hF hb (fun H hO hS => hsp w H a ns hlen hO hS) fun H e s' => hCX w H s₁ e s'
end L2
/- THE LAST THEOREM (shape;LID, My.* are yours):
   My.Adr: a structure of the addresses that your layer names (classes, functions);My.Txt K t: a structure (Prop) of the equations over K;
   My.txt_mk : {K} {implicit addresses ..} (e1 : nsIn K AR "law" = Aa (Aa (.ref f))) (e2 : K.lookup f = Aa ⟨oc, od, .func (fnOf "law" "law" params body scope dV kV doc pm an cdv ct), sl⟩) (e3 : codeIn K cdv "law" = Ab) .. : ∃ t, My.Txt K t
set_option maxRecDepth 100000 in
set_option maxHeartbeats 0 in
theorem PySem.Challenge.cw_LID_holds : PySem.Challenge.rw_LID.Holds := by
 w_on;o_law;k_head;(case hw => w_witness2)
 k_fill
 refine L2.walk_of (l := PySem.Challenge.rw_LID) (n := 63) (k := 40) (x := "script") (CX := fun w => ..) (sp := fun _ => My.sp_law) rfl (by decide) rfl ⟨rfl, by decide, by decide⟩ (fun w h Y => Qr Y) ?F ?S ?C
 case F=>
  intro w mg fa h KX G hmg;have T : ∃ t, My.Txt (L2.KOf KX) t := by
   dsimp only[L2.KOf]                          -- K must stand as «<heap const> w.params» for k_is
   refine' My.txt_mk ?e1 ?e2 ?e3 ..
   (case e1 => PySem.W.k_is)                    -- in the order: a name -> its address -> its object -> its parts
   (case e2 => PySem.W.k_is)
   ..
  obtain⟨t, T⟩ := T;have e0 := hmg.symm.trans (BK KX G T.law);cases e0                                       -- fa is the law's own address
  exact⟨_, fun s u => .of_eq rfl, fun base kb nb => My.law_fn T kb nb⟩     -- if «.of_eq rfl» comes too early: refine' ⟨_, ?b, fun base kb nb => My.law_fn T kb nb⟩;exact fun s u => .of_eq rfl
 case S => exact fun w H a ns hl hO hS => ..
 case C => exact ..
(the tactic k_is has no namespace: write k_is) -/
namespace L2
open PySem PySem.Spec PyProof.Rows
noncomputable def Gx(s : A2) : HC := match s with
  |.FunctionDef _ a _ _ _ _ _ _ _ _ => a
  |_ => {posonlyargs := [], args := [], vararg := Af, kwonlyargs := [], kw_defaults := [], kwarg := Af, defaults := []}
noncomputable def DS(s : A2) : Ac A2 := match s with
  |.FunctionDef _ _ b _ _ _ _ _ _ _ => b
  |_ => []
noncomputable def BL(s : A2) : Bz := match s with
  |.FunctionDef _ _ _ _ _ _ sc _ _ _ => sc
  |_ => {kind := .function, names := [], isGenerator := Ad, isCoroutine := Ad}
noncomputable abbrev CX0 : CXT := fun _ _ _ _ _ _ => AH
noncomputable abbrev E0 : XK := fun _ _ _ => AH
structure Fun (K : Fg) (x qual : Aj) (st : A2) (f : Ai) (fd : Bi) : Prop where
 ex : ∃(oc : Ah)(od : Am Ai)(kV doc pm : Ah)(an : Am Ai)(cdv ct : Ah)(osl : A5 (Am Ah)),
  fd = BX x qual (Gx st) (DS st) (BL st) .none kV doc pm an cdv ct /\ K.lookup f = Aa ⟨oc, od, .func fd, osl⟩ /\ Da K cdv qual = Ab
 kp : Bs K (.ref f) = Ab
section
variable{P : AD}{w : AO}{K : Fg}{mg : Aj -> Am Ah}{base : Ax}
theorem Fun.ok{x qual : Aj}{st : A2}{f : Ai}{fd : Bi}{N ps : Ac Aj}{k : Ae}{sp : Sp}(F : Fun K x qual st f fd)(S : FnScope N ps (BL st))(len : ∀ vs H Q E, sp vs H Q E -> vs.length = ps.length)(hbody : ∀(cdv : Ah)(A : AN)(outer : Ac BB)(s : Al)(H : Hp)(vs : Ac V)(Q : VK)(E : XK), Room k (A.deeper (C9 qual (BL st) s.heap.objs.size f cdv)) -> sp vs H Q E ->
   ∃ t, PSs (Db CX0 P w K mg base N qual (BL st) f cdv A outer s H E).nox (DS st) t /\ t {nx := fun _ H' => Q .non H', rt := Q} (start N vs) H) : FnOk P w K mg base CX0 (k+1) f fd ps sp := by
 obtain⟨oc, od, kV, doc, pm, an, cdv, ct, osl, rfl, lk, hcd⟩ := F.ex;refine Oz lk hcd S len fun A outer s H vs Q E hr hsp => ?_
 obtain⟨t, h, q⟩ := hbody cdv A outer s H vs Q E hr hsp;exact⟨t, h.nox, q⟩
theorem Fun.binds{x qual : Aj}{st : A2}{f : Ai}{fd : Bi}{ps : Ac Aj}(F : Fun K x qual st f fd)(h : ∀(kV doc pm : Ah)(an : Am Ai)(cdv ct : Ah)(us : Ac Ah), us.length = ps.length -> GL (BX x qual (Gx st) (DS st) (BL st) .none kV doc pm an cdv ct) ⟨us, []⟩ = pure (ps.zip us)) : DV K fd ps [] := by
 obtain⟨oc, od, kV, doc, pm, an, cdv, ct, osl, rfl, lk, hcd⟩ := F.ex;exact .all (h kV doc pm an cdv ct)
theorem N4{x qual : Aj}{st : A2}{f : Ai}{oc : Ah}{od an : Am Ai}{osl : A5 (Am Ah)}{kV doc pm cdv ct : Ah}(l : K.lookup f = Aa ⟨oc, od, .func (BX x qual (Gx st) (DS st) (BL st) .none kV doc pm an cdv ct), osl⟩)(c : Da K cdv qual = Ab)(k : Bs K (.ref f) = Ab) : Fun K x qual st f (BX x qual (Gx st) (DS st) (BL st) .none kV doc pm an cdv ct) := ⟨⟨oc, od, kV, doc, pm, an, cdv, ct, osl, rfl, l, c⟩, k⟩
end
section
variable{X : Cx}
end
noncomputable def Av(H H' : Hp) : Prop := ∀ b o, H b = Aa o -> H' b = Aa o
theorem Av.refl(H : Hp) : Av H H := fun _ _ h => h
theorem Av.trans{H H1 H2 : Hp}(a : Av H H1)(b : Av H1 H2) : Av H H2 := fun c o h => b c o (a c o h)
theorem Av.free{H H' : Hp}(e : Av H H'){l : Ai}(h : H' l = Af) : H l = Af := by
 cases q : H l with
 |none => rfl
 |some o=>
  rw[e l o q]at h;cases h
end L2
section
namespace Ov
open PySem
variable{α β:Type}
inductive D where
 |non|bl (b : An)|int (i : Ag)|str (x : Aj)|tup (ds : Ac D)|lst (ds : Ac D)
 |obj (c : Ae) (fs : Ac (Aj × D))|exc (c : Ae) (fs : Ac (Aj × D))|dic (kvs : Ac (Ac Ag × D))
 deriving Inhabited
structure Ex where
 c : Ae
 fs : Ac (Aj × D)
 deriving Inhabited
inductive R (α : Type) where
 |ok (a : α)|exn (x : Ex)|bad
 deriving Inhabited
noncomputable def R.bind{α β : Type}(r : R α)(f : α -> R β) : R β := match r with
  |.ok a => f a
  |.exn x => .exn x
  |.bad => .bad
@[simp]theorem R.bind_ok(a : α)(f : α -> R β) : (R.ok a).bind f = f a := rfl
@[simp]theorem R.bind_exn(x : Ex)(f : α -> R β) : (R.exn x : R α).bind f = .exn x := rfl
@[simp]theorem R.bind_bad(f : α -> R β) : (R.bad : R α).bind f = .bad := rfl
theorem R.bind_assoc{γ:Type}(r : R α)(f : α -> R β)(g : β -> R γ) : (r.bind f).bind g = r.bind fun a => (f a).bind g := by cases r <;> rfl
noncomputable def C5(n : Ae) : An := CT n 1000000
noncomputable def DT(i j : Ag) : An := (decide (-(18446744073709551616 : Ag)<i)&&decide (i<18446744073709551616))||(decide (-(18446744073709551616 : Ag)<j)&&decide (j<18446744073709551616))
noncomputable def F3(i j : Ag) : An := decide (i.natAbs<2 ^ 2000)&&decide (j.natAbs<2 ^ 2000)
noncomputable def Cw : Fk -> D -> D -> R D
 |.Add, .int i, .int j => .ok (.int (i+j))
 |.Sub, .int i, .int j => .ok (.int (i-j))
 |.Mult, .int i, .int j => if (DT i j||F3 i j) = Ab then .ok (.int (i*j)) else .bad
 |.FloorDiv, .int i, .int j => if 0<j /\ j<1073741824 then .ok (.int (i / j)) else .bad
 |.Mod, .int i, .int j => if 0<j then .ok (.int (i%j)) else .bad
 |.Pow, .int i, .int j => if (0 <= j /\ j <= 1000000) /\ (-(18446744073709551616 : Ag)<i /\ i<18446744073709551616) then .ok (.int (i ^ j.toNat)) else .bad
 |.Add, .str x, .str y => if C5 (x.length+y.length) = Ab then .ok (.str (x++y)) else .bad
 |.Add, .lst x, .lst y => if C5 (x.length+y.length) = Ab then .ok (.lst (x++y)) else .bad
 |.Add, .tup x, .tup y => if (!x.isEmpty&&C5 (x.length+y.length)) = Ab then .ok (.tup (x++y)) else .bad
 |_, _, _ => .bad
noncomputable def unD : UnaryOp -> D -> R D
 |.USub, .int i => .ok (.int (-i))
 |_, _ => .bad
noncomputable def b2i(b : An) : Ag := if b = Ab then 1 else 0
mutual
noncomputable def eqD : D -> D -> An
 |.non, .non => Ab
 |.bl a, .bl b => a==b
 |.bl a, .int j => b2i a==j
 |.int i, .bl b => i==b2i b
 |.int i, .int j => i==j
 |.str x, .str y => x==y
 |.tup xs, .tup ys => eqDs xs ys
 |.lst xs, .lst ys => eqDs xs ys
 |_, _ => Ad
noncomputable def eqDs : Ac D -> Ac D -> An
 |[], [] => Ab
 |x::xs, y::ys => eqD x y&&eqDs xs ys
 |_, _ => Ad
end
noncomputable def flD : Ae -> D -> An
 |_, .non => Ab
 |_, .bl _ => Ab
 |_, .int _ => Ab
 |_, .str _ => Ab
 |n+1, .tup xs => xs.all (flD n)
 |n+1, .lst xs => xs.all (flD n)
 |_, _ => Ad
noncomputable def GF : D -> Am (Ac Ag)
 |.tup ds => keyDs ds
 |_ => Af
where keyDs : Ac D -> Am (Ac Ag)
 |[] => Aa []
 |.int i::r => (keyDs r).map (i :: ·)
 |_ => Af
noncomputable def ltD : Ae -> D -> D -> An
 |0, .int i, .int j => decide (i<j)
 |n+1, .tup xs, .tup ys => ltDs (ltD n) xs ys
 |_, _, _ => Ad
where ltDs (lt : D -> D -> An) : Ac D -> Ac D -> An
 |[], [] => Ad
 |[], _::_ => Ab
 |_::_, [] => Ad
 |x::xs, y::ys => if eqD x y = Ab then ltDs lt xs ys else lt x y
noncomputable def rkD : Ae -> D -> An
 |0, .int _ => Ab
 |n+1, .tup xs => xs.all (rkD n)
 |_, _ => Ad
noncomputable def O8(lt : D -> D -> An)(x : D) : Ac D -> Ac D
 |[] => [x]
 |y::ys => if lt y x = Ab then y::O8 lt x ys else x::y::ys
noncomputable def Om(lt : D -> D -> An) : Ac D -> Ac D
 |[] => []
 |x::xs => O8 lt x (Om lt xs)
noncomputable def OI : Ac D -> An
 |[] => Ab
 |x::xs => xs.all (fun y => !eqD x y)&&OI xs
noncomputable def O1 : Ac D -> An
 |[] => Ab
 |[_] => Ab
 |x::y::r => ltD 1 x y&&O1 (y::r)
noncomputable def MQ(xs : Ac D) : R (Ac D) := if (xs.all (fun d => rkD 1 d && !eqD d (.tup []))&&OI xs&&(decide (xs.length<64)||(O1 xs&&decide (xs.length <= 1000)))) = Ab then .ok (Om (ltD 1) xs) else .bad
noncomputable def Bj : CZ -> D -> D -> R D
  |.Eq, x, y => if (flD 5 x&&flD 5 y) = Ab then .ok (.bl (eqD x y)) else .bad
  |.NotEq, x, y => if (flD 5 x&&flD 5 y) = Ab then .ok (.bl (!eqD x y)) else .bad
  |.Lt, .int i, .int j => .ok (.bl (decide (i<j)))
  |.LtE, .int i, .int j => .ok (.bl (decide (i <= j)))
  |.Gt, .int i, .int j => .ok (.bl (decide (j<i)))
  |.GtE, .int i, .int j => .ok (.bl (decide (j <= i)))
  |.In, x, .lst ys => if (flD 5 x&&ys.all (flD 5)) = Ab then .ok (.bl (ys.any fun y => eqD y x)) else .bad
  |.In, x, .dic kvs => match GF x with
    |some k => .ok (.bl (kvs.any fun p => p.1==k))
    |none => .bad
  |.In, x, .tup ys => if (flD 5 x&&ys.all (flD 5)) = Ab then .ok (.bl (ys.any fun y => eqD y x)) else .bad
  |.NotIn, x, .lst ys => if (flD 5 x&&ys.all (flD 5)) = Ab then .ok (.bl (!ys.any fun y => eqD y x)) else .bad
  |.NotIn, x, .tup ys => if (flD 5 x&&ys.all (flD 5)) = Ab then .ok (.bl (!ys.any fun y => eqD y x)) else .bad
  |.Is, .non, .non => .ok (.bl Ab)
  |.Is, .bl _, .non => .ok (.bl Ad)
  |.Is, .int _, .non => .ok (.bl Ad)
  |.Is, .str _, .non => .ok (.bl Ad)
  |.Is, .tup _, .non => .ok (.bl Ad)
  |.Is, .lst _, .non => .ok (.bl Ad)
  |.Is, .obj _ _, .non => .ok (.bl Ad)
  |.Is, .bl a, .bl b => .ok (.bl (a==b))
  |.IsNot, .bl a, .bl b => .ok (.bl (!(a==b)))
  |.IsNot, .non, .non => .ok (.bl Ad)
  |.IsNot, .bl _, .non => .ok (.bl Ab)
  |.IsNot, .int _, .non => .ok (.bl Ab)
  |.IsNot, .str _, .non => .ok (.bl Ab)
  |.IsNot, .tup _, .non => .ok (.bl Ab)
  |.IsNot, .lst _, .non => .ok (.bl Ab)
  |.IsNot, .obj _ _, .non => .ok (.bl Ab)
  |_, _, _ => .bad
noncomputable def Bc : D -> R An
 |.non => .ok Ad
 |.bl b => .ok b
 |.int i => .ok (i != 0)
 |.str x => if C5 x.length = Ab then .ok (x.length != 0) else .bad
 |.tup xs => .ok (!xs.isEmpty)
 |.lst xs => .ok (!xs.isEmpty)
 |_ => .bad
noncomputable def plD(n : Ae)(i : Ag) : Am Ae := if 0 <= i then (if i<n then Aa i.toNat else Af) else if -(n : Ag) <= i then Aa (i+n).toNat else Af
noncomputable def Ew(xs : Ac D)(i : Ag) : R D := match plD xs.length i with
  |some k => match xs[k]? with
    |some d => .ok d
    |none => .bad
  |none => .bad
noncomputable def Vj(kvs : Ac (Ac Ag × D))(k : Ac Ag) : Am D := (kvs.find? fun p => p.1==k).map (·.2)
noncomputable def N8(kvs : Ac (Ac Ag × D))(k : Ac Ag)(v : D) : Ac (Ac Ag × D) := if (kvs.any fun p => p.1==k) = Ab then kvs.map (fun p => if (p.1==k) = Ab then (k, v) else p) else kvs++[(k, v)]
noncomputable def F6 : D -> D -> R D
  |.lst xs, .int i => Ew xs i
  |.tup xs, .int i => Ew xs i
  |.dic kvs, k => match (GF k).bind (Vj kvs) with
    |some d => .ok d
    |none => .bad
  |_, _ => .bad
noncomputable def Dq : D -> R Ag
 |.int i => .ok i
 |_ => .bad
noncomputable def Cy : D -> R An
 |.bl b => .ok b
 |_ => .bad
noncomputable def DI : D -> R (Ac D)
 |.lst xs => .ok xs
 |.tup xs => .ok xs
 |_ => .bad
noncomputable def La : D -> R (Ac D)
 |.lst xs => .ok xs
 |_ => .bad
inductive BI where
 |len|abs|max|min|int|list|tuple|all|any|sum|sorted|str|count|stp|lset|tmin|tmax|tlt|rvs
 deriving DecidableEq, Inhabited
inductive Ki where
 |int|bool|str|list|tuple|verr|cls (c : Ae)
 deriving DecidableEq, Inhabited
mutual
inductive E where
 |non|bl (b : An)|int (i : Ag)|str (x : Aj)
 |var (i : Ae)|glob (g : Ae)
 |bin (op : Fk) (a b : E)|un (op : UnaryOp) (a : E)|no (a : E)
 |and (es : Es)|or (es : Es)
 |cmp (op : CZ) (a b : E)|cmp2 (op op' : CZ) (a b c : E)
 |ite (c a b : E)
 |call (f : Ae) (as : Es)|bi (b : BI) (as : Es)
 |isi (a : E) (ks : Ac Ki)
 |idx (a i : E)|sl (a lo hi : E)
 |tup (es : Es)|lst (es : Es)
 |comp (elt : E) (t : Ae) (it : I) (c : E)|compT (elt : E) (ts : Ac Ae) (it : I) (c : E)|tupI (it : I)|dnew
 |fld (o : E) (f : Aj)
inductive Es where
 |nil|cons (e : E) (es : Es)
inductive I where
 |e (a : E)|rng (a : E)|rng2 (a b : E)|zip (a b : E)|zip3 (a b c : E)|enm (a : E)
end
noncomputable abbrev Sl := Am (D × An)
noncomputable abbrev Rho := Ac Sl
structure Gam where
 F : Ae -> Ac D -> R D
 G : Ae -> D
 up : Ae -> Ac Ae
 /-- the defs whose answer is a new list -/
 fr : Ae -> An
 /-- what is raised: the class, what it is made of -/
 xn : Ae -> Ac D -> R Ex
noncomputable def DX(lo : Ag)(n : Ae) : Ac D := (Ca n).map fun(k : Ae) => D.int (lo+(k : Ag))
noncomputable def C4(lo hi : Ag) : R (Ac D) := if (-(4611686018427387904 : Ag) <= lo /\ lo<4611686018427387904) /\ (-(4611686018427387904 : Ag) <= hi /\ hi<4611686018427387904) /\ hi-lo<1000000 then .ok (DX lo (hi-lo).toNat) else .bad
noncomputable def kiD(up : Ae -> Ac Ae) : Ki -> D -> An
 |.int, .int _ => Ab
 |.int, .bl _ => Ab
 |.bool, .bl _ => Ab
 |.str, .str _ => Ab
 |.list, .lst _ => Ab
 |.tuple, .tup _ => Ab
 |.cls c, .obj k _ => (up k).contains c
 |.cls c, .exc k _ => (up k).contains c
 |.verr, .exc _ _ => Ab
 |_, _ => Ad
noncomputable def CI : Ki -> An
 |.cls _ => Ab
 |.verr => Ab
 |_ => Ad
noncomputable def C7(up : Ae -> Ac Ae)(ks : Ac Ki)(x : D) : R D := match x with
  |.obj _ _ => .bad
  |.exc _ _ => if ks.all CI = Ab then .ok (.bl (ks.any fun k => kiD up k x)) else .bad
  |.dic _ => .bad
  |_ => if ks.any CI = Ab then .bad else .ok (.bl (ks.any fun k => kiD up k x))
noncomputable def Ez : D -> R An
 |.non => .ok Ad
 |.bl b => .ok b
 |.int i => .ok (i != 0)
 |_ => .bad
noncomputable def E4 : Ac D -> R An
 |[] => .ok Ab
 |x::r => (Ez x).bind fun b => (E4 r).bind fun c => .ok (b&&c)
noncomputable def Gy : Ac D -> R An
 |[] => .ok Ad
 |x::r => (Ez x).bind fun b => (Gy r).bind fun c => .ok (b||c)
noncomputable def Iu : Ag -> Ac D -> R Ag
 |a, [] => .ok a
 |a, .int i::r => Iu (a+i) r
 |_, _ => .bad
noncomputable def Lg : Ac D -> Ac D -> Ac D
 |x::xs, y::ys => .tup [x, y]::Lg xs ys
 |_, _ => []
noncomputable def Ob : Ac D -> Ac D -> Ac D -> Ac D
 |x::xs, y::ys, z::zs => .tup [x, y, z]::Ob xs ys zs
 |_, _, _ => []
noncomputable def Oa(x y z : D) : R (Ac D) := (DI x).bind fun xs => (DI y).bind fun ys => (DI z).bind fun zs => if 0<xs.length /\ xs.length <= 1000 /\ ys.length = xs.length /\ zs.length = xs.length then .ok (Ob xs ys zs) else .bad
noncomputable def Lo : Ag -> Ac D -> Ac D
 |_, [] => []
 |i, x::xs => .tup [.int i, x]::Lo (i+1) xs
noncomputable def nlD : Ae -> D -> An
 |_, .non => Ab
 |_, .bl _ => Ab
 |_, .int _ => Ab
 |_, .str _ => Ab
 |n+1, .tup xs => xs.all (nlD n)
 |_, _ => Ad
noncomputable def DY(fr : An) : D -> An
 |.lst ds => fr&&ds.all (nlD 5)
 |d => nlD 5 d
noncomputable def KZ : Ac D -> Am (Ac Ag)
 |[] => Aa []
 |.int i::r => (KZ r).map (i :: ·)
 |_ => Af
noncomputable def OJ(i : Ag) : Ac Ag -> Ag
 |[] => i
 |j::r => OJ (if j<i then j else i) r
noncomputable def pk2(k n : Ae) : Ac Ae := (Ca ((n-min k n+1) / 2)).map fun j => min k n+2*j
noncomputable def OQ(k : Ae)(xs : Ac D) : Ac D := (pk2 k xs.length).filterMap fun i => xs[i]?
noncomputable def ddS(acc : Ac Ag)(x : Ag) : Ac Ag := if acc.any (· == x) = Ab then acc else acc++[x]
noncomputable def ddN(is : Ac Ag) : Ae := (is.foldl ddS []).length
noncomputable def OD(xs : Ac D) : R D := match KZ xs with
  |some is => if CT is.length 4000 = Ab then .ok (.int (ddN is)) else .bad
  |none => .bad
noncomputable def mmD(mx : An)(x y : D) : R D := if [x, y].all (fun d => rkD 1 d && !eqD d (.tup [])) = Ab then .ok (if (if mx = Ab then ltD 1 x y else ltD 1 y x) = Ab then y else x) else .bad
noncomputable def OL(x y : D) : R D := if [x, y].all (fun d => rkD 1 d && !eqD d (.tup [])) = Ab then .ok (.bl (ltD 1 x y)) else .bad
noncomputable def biD : BI -> Ac D -> R D
  |.len, [.lst xs] => .ok (.int xs.length)
  |.len, [.tup xs] => .ok (.int xs.length)
  |.len, [.str x] => if C5 x.length = Ab then .ok (.int x.length) else .bad
  |.abs, [.int i] => .ok (.int (if i<0 then -i else i))
  |.max, [.int i, .int j] => .ok (.int (if i<j then j else i))
  |.min, [.int i, .int j] => .ok (.int (if j<i then j else i))
  |.min, [.lst xs] => match KZ xs with
    |some (i::is) => .ok (.int (OJ i is))
    |_ => .bad
  |.int, [.int i] => .ok (.int i)
  |.int, [.bl b] => .ok (.int (b2i b))
  |.list, [.lst xs] => .ok (.lst xs)
  |.list, [.tup xs] => .ok (.lst xs)
  |.tuple, [.lst xs] => .ok (.tup xs)
  |.tuple, [.tup xs] => .ok (.tup xs)
  |.all, [.lst xs] => (E4 xs).bind fun b => .ok (.bl b)
  |.any, [.lst xs] => (Gy xs).bind fun b => .ok (.bl b)
  |.any, [.tup xs] => (Gy xs).bind fun b => .ok (.bl b)
  |.sum, [.lst xs] => (Iu 0 xs).bind fun i => .ok (.int i)
  |.sum, [.tup xs] => (Iu 0 xs).bind fun i => .ok (.int i)
  |.sorted, [.lst xs] => (MQ xs).bind fun ys => .ok (.lst ys)
  |.count, [.lst xs, x] => if (flD 5 x&&xs.all (flD 5)) = Ab then .ok (.int ((xs.filter fun y => eqD y x).length : Ae)) else .bad
  |.len, [.dic kvs] => .ok (.int kvs.length)
  |.stp, [.lst xs, .int k] => .ok (.lst (OQ k.toNat xs))
  |.lset, [.lst xs] => OD xs
  |.tmin, [x, y] => mmD Ad x y
  |.tmax, [x, y] => mmD Ab x y
  |.tlt, [x, y] => OL x y
  |.rvs, [.lst xs] => .ok (.lst xs.reverse)
  |_, _ => .bad
noncomputable def slE(c : E)(d : D) : R (Am Ag) := match c with
  |.non => .ok Af
  |_ => (Dq d).bind fun i => .ok (Aa i)
noncomputable def FI(n d : Ae) : Am Ag -> Ae
 |none => d
 |some i => if i<0 then (i+n).toNat else min i.toNat n
noncomputable def cutD(xs : Ac D)(lo hi : Am Ag) : Ac D := (xs.drop (FI xs.length 0 lo)).take (FI xs.length xs.length hi-FI xs.length 0 lo)
noncomputable def slD : D -> Am Ag -> Am Ag -> R D
 |.lst xs, l, h => .ok (.lst (cutD xs l h))
 |.tup xs, l, h => if (FI xs.length 0 l==0&&FI xs.length xs.length h==xs.length) = Ab then .bad else .ok (.tup (cutD xs l h))
 |_, _, _ => .bad
noncomputable def Iv : D -> Aj -> R D
  |.exc _ fs, f => match fs.lookup f with
    |some d => .ok d
    |none => .bad
  |_, _ => .bad
noncomputable def DW(ρ : Rho)(i : Ae) : R D := match ρ[i]? with
  |some (Aa (d, Ad)) => .ok d
  |_ => .bad
noncomputable def DJ(ρ : Rho)(i : Ae) : R D := match ρ[i]? with
  |some (Aa (d, _)) => .ok d
  |_ => .bad
noncomputable def shE(ρ : Rho) : E -> An
  | .var i => (match ρ[i]? with
    |some (Aa (_, Ab)) => Ad
    | _ => Ab)
  |_ => Ab
noncomputable def Fs(ρ : Rho) : Es -> An
 |.nil => Ab
 |.cons e es => shE ρ e&&Fs ρ es
noncomputable def E1 : Ac Ae -> Ac D -> Rho -> Am Rho
 |[], [], ρ => Aa ρ
 |t::ts, d::ds, ρ => E1 ts ds (ρ.set t (Aa (d, Ad)))
 |_, _, _ => Af
noncomputable def E2(ts : Ac Ae)(d : D)(ρ : Rho) : R Rho := match d with
  | .tup xs => (match E1 ts xs ρ with
    |some ρ' => .ok ρ'
    | none => .bad)
  |_ => .bad
noncomputable def Jr(ts : Ac Ae)(d : D)(ρ : Rho) : R Rho := match d with
  | .lst xs => (match E1 ts xs ρ with
    |some ρ' => .ok ρ'
    | none => .bad)
  |d => E2 ts d ρ
noncomputable def B9(g : D -> R An)(f : D -> R D) : Ac D -> R (Ac D)
 |[] => .ok []
 |x::xs => (g x).bind fun b => if b = Ab then (f x).bind fun y => (B9 g f xs).bind fun ys => .ok (y::ys) else B9 g f xs
noncomputable def noX{α : Type} : R α -> R α
 |.ok a => .ok a
 |_ => .bad
noncomputable def top(ρ : Rho)(e : E)(r : R D) : R D := match e with
  |.var i => DJ ρ i
  |_ => r
mutual
noncomputable def evE(Γ : Gam)(ρ : Rho) : E -> R D
 |.non => .ok .non
 |.bl b => .ok (.bl b)
 |.int i => .ok (.int i)
 |.str x => .ok (.str x)
 |.var i => DW ρ i
 |.glob g => .ok (Γ.G g)
 |.bin op a b => (top ρ a (evE Γ ρ a)).bind fun x => (top ρ b (evE Γ ρ b)).bind fun y => Cw op x y
 |.un op a => (top ρ a (evE Γ ρ a)).bind fun x => unD op x
 |.no a => (top ρ a (evE Γ ρ a)).bind fun x => (Cy x).bind fun b => .ok (.bl (!b))
 |.and es => evN Γ ρ es
 |.or es => evO Γ ρ es
 |.cmp op a b => (top ρ a (evE Γ ρ a)).bind fun x => (top ρ b (evE Γ ρ b)).bind fun y => Bj op x y
 |.cmp2 op op' a b c => (top ρ a (evE Γ ρ a)).bind fun x => (top ρ b (evE Γ ρ b)).bind fun y => (Bj op x y).bind fun z => (Cy z).bind fun k => if k = Ab then (top ρ c (evE Γ ρ c)).bind fun u => Bj op' y u else .ok (.bl Ad)
 |.ite c a b => (top ρ c (evE Γ ρ c)).bind fun x => (Bc x).bind fun k => if k = Ab then evE Γ ρ a else evE Γ ρ b
 |.call f as => (evB Γ ρ as).bind fun xs => (Γ.F f xs).bind fun d => if Fs ρ as = Ab then .ok d else if DY (Γ.fr f) d = Ab then .ok d else .bad
 |.bi b as => (evB Γ ρ as).bind fun xs => biD b xs
 |.isi a ks => (top ρ a (evE Γ ρ a)).bind fun x => C7 Γ.up ks x
 |.idx a i => (top ρ a (evE Γ ρ a)).bind fun x => (top ρ i (evE Γ ρ i)).bind fun y => F6 x y
 |.sl a lo hi => (top ρ a (evE Γ ρ a)).bind fun x => (top ρ lo (evE Γ ρ lo)).bind fun l => (slE lo l).bind fun l' => (top ρ hi (evE Γ ρ hi)).bind fun h => (slE hi h).bind fun h' => slD x l' h'
 |.tup es => (evA Γ ρ es).bind fun xs => .ok (.tup xs)
 |.lst es => (evA Γ ρ es).bind fun xs => .ok (.lst xs)
 |.comp elt t it c => (evI Γ ρ it).bind fun xs => (noX (B9 (fun x => (top (ρ.set t (Aa (x, Ad))) c (evE Γ (ρ.set t (Aa (x, Ad))) c)).bind Bc) (fun x => evE Γ (ρ.set t (Aa (x, Ad))) elt) xs)).bind fun ys => .ok (.lst ys)
 |.compT elt ts it c => (evI Γ ρ it).bind fun xs => (noX (B9 (fun x => (E2 ts x ρ).bind fun ρ' => (top ρ' c (evE Γ ρ' c)).bind Bc) (fun x => (E2 ts x ρ).bind fun ρ' => evE Γ ρ' elt) xs)).bind fun ys => .ok (.lst ys)
 |.tupI it => (evI Γ ρ it).bind fun xs => .ok (.tup xs)
 |.dnew => .ok (.dic [])
 |.fld o f => (top ρ o (evE Γ ρ o)).bind fun x => Iv x f
noncomputable def evN(Γ : Gam)(ρ : Rho) : Es -> R D
 |.nil => .bad
 |.cons e .nil => evE Γ ρ e
 |.cons e (.cons e' es) => (evE Γ ρ e).bind fun x => (Cy x).bind fun c => if c = Ab then evN Γ ρ (.cons e' es) else .ok (.bl Ad)
noncomputable def evO(Γ : Gam)(ρ : Rho) : Es -> R D
 |.nil => .bad
 |.cons e .nil => evE Γ ρ e
 |.cons e (.cons e' es) => (evE Γ ρ e).bind fun x => (Cy x).bind fun c => if c = Ab then .ok (.bl Ab) else evO Γ ρ (.cons e' es)
noncomputable def evA(Γ : Gam)(ρ : Rho) : Es -> R (Ac D)
 |.nil => .ok []
 |.cons e es => (evE Γ ρ e).bind fun x => (evA Γ ρ es).bind fun xs => .ok (x::xs)
noncomputable def evB(Γ : Gam)(ρ : Rho) : Es -> R (Ac D)
 |.nil => .ok []
 |.cons e es => (top ρ e (evE Γ ρ e)).bind fun x => (evB Γ ρ es).bind fun xs => .ok (x::xs)
noncomputable def evI(Γ : Gam)(ρ : Rho) : I -> R (Ac D)
 |.e a => (evE Γ ρ a).bind DI
 |.rng a => (top ρ a (evE Γ ρ a)).bind fun x => (Dq x).bind fun j => C4 0 j
 |.rng2 a b => (top ρ a (evE Γ ρ a)).bind fun x => (top ρ b (evE Γ ρ b)).bind fun y => (Dq x).bind fun i => (Dq y).bind fun j => C4 i j
 |.zip a b => (evE Γ ρ a).bind fun x => (evE Γ ρ b).bind fun y => (DI x).bind fun xs => (DI y).bind fun ys => .ok (Lg xs ys)
 |.zip3 a b c => (evE Γ ρ a).bind fun x => (evE Γ ρ b).bind fun y => (evE Γ ρ c).bind fun z => Oa x y z
 |.enm a => (evE Γ ρ a).bind fun x => (DI x).bind fun xs => .ok (Lo 0 xs)
end
noncomputable def EL(Γ : Gam) : E -> An
 |.lst _ => Ab
 |.comp _ _ _ _ => Ab
 |.compT _ _ _ _ => Ab
 |.dnew => Ab
 |.bin .Add _ _ => Ab
 |.bi .list _ => Ab
 |.bi .sorted _ => Ab
 |.sl _ _ _ => Ab
 |.call f _ => Γ.fr f
 |_ => Ad
mutual
inductive S where
 |pass
 /-- x = e;fresh: x alone holds the new list -/
 |asg (i : Ae) (fresh : An) (e : E)
 /-- a, b, .. = e -/
 |asgT (ts : Ac Ae) (e : E)
 |expr (e : E)
 |ret (e : E)|retN
 |ife (c : E) (a b : Ss)
 |fors (t : Ae) (it : I) (body : Ss)
 |forT (ts : Ac Ae) (it : I) (body : Ss)
 |whl (c : E) (body : Ss)
 /-- raise C(e, ..) -/
 |rais (c : Ae) (as : Es)
 /-- try: body except C as x: h -/
 |tryx (body : Ss) (c : Ae) (x : Ae) (h : Ss)
 /-- x.append(e), x.extend(e), x.insert(k, e), x.reverse(), x.clear() -/
 |app (i : Ae) (e : E)|ext (i : Ae) (e : E)|ins (i : Ae) (k e : E)|rev (i : Ae)|clr (i : Ae)
 /-- d[k] = e, d.setdefault(k, e) -/
 |dput (i : Ae) (k e : E)|dsd (i : Ae) (k e : E)
 /-- x[k] = e -/
 |put (i : Ae) (k e : E)
 /-- x[k], x[l] = x[l], x[k] -/
 |swp (i k l : Ae)
 /-- x.append(y.pop(e)) -/
 |apop (j i : Ae) (e : E)
 |brk|cont
 /-- nothing: from here on x is no longer changed -/
 |rel (i : Ae)
inductive Ss where
 |nil|cons (s : S) (ss : Ss)
end
inductive O where
 |next (ρ : Rho)|ret (d : D) (fr : An)|brk (ρ : Rho)|cont (ρ : Rho)|exn (x : Ex) (ρ : Rho)|bad
 deriving Inhabited
noncomputable def O.of{α : Type}(ρ : Rho)(r : R α)(f : α -> O) : O := match r with
  |.ok a => f a
  |.exn x => .exn x ρ
  |.bad => .bad
@[simp]theorem O.of_ok(ρ : Rho)(a : α)(f : α -> O) : O.of ρ (.ok a) f = f a := rfl
@[simp]theorem O.of_exn(ρ : Rho)(x : Ex)(f : α -> O) : O.of ρ (.exn x : R α) f = .exn x ρ := rfl
@[simp]theorem O.of_bad(ρ : Rho)(f : α -> O) : O.of ρ (.bad : R α) f = .bad := rfl
noncomputable def FJ(Γ : Gam)(ρ : Rho)(i : I) : R (Ac D) := evI Γ ρ i
noncomputable def Dj(ρ : Rho)(i : Ae) : R (Ac D) := match ρ[i]? with
  |some (Aa (.lst xs, Ab)) => .ok xs
  |_ => .bad
noncomputable def OG(ρ : Rho)(i : Ae) : R (Ac (Ac Ag × D)) := match ρ[i]? with
  |some (Aa (.dic xs, Ab)) => .ok xs
  |_ => .bad
noncomputable def OE(d : D) : R (Ac Ag) := match GF d with
  |some k => .ok k
  |none => .bad
noncomputable def Ou : Ae := 4096
noncomputable def O.seq(o : O)(f : Rho -> O) : O := match o with
  |.next ρ => f ρ
  |.ret d b => .ret d b
  |.brk ρ => .brk ρ
  |.cont ρ => .cont ρ
  |.exn x ρ => .exn x ρ
  |.bad => .bad
noncomputable def O.turn(o : O)(f : Rho -> O) : O := match o with
  |.next ρ => f ρ
  |.cont ρ => f ρ
  |.brk ρ => .next ρ
  |.ret d b => .ret d b
  |.exn x ρ => .exn x ρ
  |.bad => .bad
noncomputable def Dc(body : D -> Rho -> O) : Ac D -> Rho -> O
 |[], ρ => .next ρ
 |x::xs, ρ => (body x ρ).turn (Dc body xs)
noncomputable def Lh(c : Rho -> R An)(body : Rho -> O) : Ae -> Rho -> O
 |0, _ => .bad
 |n+1, ρ => O.of ρ (c ρ) fun b => if b = Ab then (body ρ).turn (Lh c body n) else .next ρ
noncomputable def Oo(ρ : Rho)(k : Ae) : R Ag := (DW ρ k).bind Dq
noncomputable def Yc(ρ : Rho)(d : D)(i k l : Ae) : O := match d with
  |.tup [x, y] => O.of ρ (Dj ρ i) fun xs => O.of ρ (Oo ρ k) fun a => O.of ρ (Oo ρ l) fun b => match plD xs.length a, plD xs.length b with
    |some m, Aa n => .next (ρ.set i (Aa (.lst ((xs.set m x).set n y), Ab)))
    |_, _ => .bad
  |_ => .bad
noncomputable def apD(ρ : Rho)(j i : Ae)(ys xs : Ac D)(n : Ag) : O := match plD xs.length n with
  | some m => (match xs[m]? with
    |some d => if (j != i&&(C5 xs.length&&C5 (ys.length+1))) = Ab then .next ((ρ.set i (Aa (.lst (xs.eraseIdx m), Ab))).set j (Aa (.lst (ys++[d]), Ab))) else .bad
    | none => .bad)
  |none => .bad
mutual
noncomputable def evS(Γ : Gam)(ρ : Rho) : S -> O
  |.pass => .next ρ
  | .asg i fresh e => O.of ρ (evE Γ ρ e) fun d => if fresh = Ab then (if EL Γ e = Ab then (match d with
      |.lst xs => .next (ρ.set i (Aa (.lst xs, Ab)))
      |.dic xs => .next (ρ.set i (Aa (.dic xs, Ab)))
      | _ => .bad) else .bad) else .next (ρ.set i (Aa (d, Ad)))
  |.asgT ts e => O.of ρ (evE Γ ρ e) fun d => O.of ρ (Jr ts d ρ) fun ρ' => .next ρ'
  |.expr e => O.of ρ (evE Γ ρ e) fun _ => .next ρ
  |.ret e => O.of ρ (top ρ e (evE Γ ρ e)) fun d => .ret d (EL Γ e||(match e with | .var i => (match ρ[i]? with|some (Aa (_, o)) => o|_ => Ad)|_ => Ad))
  |.retN => .ret .non Ad
  |.ife c a b => O.of ρ ((top ρ c (evE Γ ρ c)).bind Bc) fun k => if k = Ab then evSs Γ ρ a else evSs Γ ρ b
  |.fors t it body => O.of ρ (FJ Γ ρ it) fun xs => Dc (fun x ρ' => evSs Γ (ρ'.set t (Aa (x, Ad))) body) xs ρ
  |.forT ts it body => O.of ρ (FJ Γ ρ it) fun xs => Dc (fun x ρ' => O.of ρ' (E2 ts x ρ') fun ρ'' => evSs Γ ρ'' body) xs ρ
  |.whl c body => Lh (fun ρ' => (top ρ' c (evE Γ ρ' c)).bind Bc) (fun ρ' => evSs Γ ρ' body) Ou ρ
  |.rais c as => O.of ρ (noX (evA Γ ρ as)) fun xs => O.of ρ (Γ.xn c xs) fun x => .exn x ρ
  |.tryx body c x h => match evSs Γ ρ body with
      | .exn y ρ' => if (Γ.up y.c).contains c = Ab then (match evSs Γ (ρ'.set x (Aa (.exc y.c y.fs, Ad))) h with
          |.next ρ'' => .next (ρ''.set x Af)
          |.ret d f => .ret d f
          | _ => .bad) else .bad
      |o => o
  |.app i e => O.of ρ (Dj ρ i) fun xs => O.of ρ (evE Γ ρ e) fun d => if C5 (xs.length+1) = Ab then .next (ρ.set i (Aa (.lst (xs++[d]), Ab))) else .bad
  |.ext i e => O.of ρ (Dj ρ i) fun xs => O.of ρ (evE Γ ρ e) fun d => O.of ρ (La d) fun ys => if C5 (xs.length+ys.length) = Ab then .next (ρ.set i (Aa (.lst (xs++ys), Ab))) else .bad
  |.ins i k e => O.of ρ (Dj ρ i) fun xs => O.of ρ ((top ρ k (evE Γ ρ k)).bind Dq) fun j => O.of ρ (evE Γ ρ e) fun d => if (C5 (xs.length+1)&&decide (0 <= j)&&decide (j <= xs.length)) = Ab then .next (ρ.set i (Aa (.lst (xs.take j.toNat++d::xs.drop j.toNat), Ab))) else .bad
  |.rev i => O.of ρ (Dj ρ i) fun xs => .next (ρ.set i (Aa (.lst xs.reverse, Ab)))
  |.clr i => O.of ρ (Dj ρ i) fun _ => .next (ρ.set i (Aa (.lst [], Ab)))
  |.dput i k e => O.of ρ (evE Γ ρ e) fun d => O.of ρ (OG ρ i) fun xs => O.of ρ ((evE Γ ρ k).bind OE) fun j => if C5 (xs.length+1) = Ab then .next (ρ.set i (Aa (.dic (N8 xs j d), Ab))) else .bad
  |.dsd i k e => O.of ρ (OG ρ i) fun xs => O.of ρ ((evE Γ ρ k).bind OE) fun j => O.of ρ (evE Γ ρ e) fun d => if C5 (xs.length+1) = Ab then .next (ρ.set i (Aa (.dic (if (xs.any fun p => p.1==j) = Ab then xs else N8 xs j d), Ab))) else .bad
  |.put i k e => O.of ρ (evE Γ ρ e) fun d => O.of ρ (Dj ρ i) fun xs => O.of ρ ((top ρ k (evE Γ ρ k)).bind Dq) fun j => match plD xs.length j with
      |some n => .next (ρ.set i (Aa (.lst (xs.set n d), Ab)))
      |none => .bad
  |.swp i k l => O.of ρ (evE Γ ρ (.tup (.cons (.idx (.var i) (.var l)) (.cons (.idx (.var i) (.var k)) .nil)))) fun d => Yc ρ d i k l
  |.apop j i e => O.of ρ (Dj ρ j) fun ys => O.of ρ (Dj ρ i) fun xs => O.of ρ (evE Γ ρ e) fun d => O.of ρ (Dq d) fun n => apD ρ j i ys xs n
  |.brk => .brk ρ
  |.cont => .cont ρ
  |.rel i => match ρ[i]? with
      |some (Aa (d, Ab)) => .next (ρ.set i (Aa (d, Ad)))
      |_ => .next ρ
noncomputable def evSs(Γ : Gam)(ρ : Rho) : Ss -> O
 |.nil => .next ρ
 |.cons s ss => (evS Γ ρ s).seq fun ρ' => evSs Γ ρ' ss
end
structure Df where
 n : Ae
 fr : An
 body : Ss
noncomputable def B8(n : Ae)(ds : Ac D) : Rho := ds.map (fun d => Aa (d, Ad))++ED (n-ds.length) Af
noncomputable def isL : D -> An
 |.lst _ => Ab
 |.dic _ => Ab
 |_ => Ad
noncomputable def O.ans(fr : An)(o : O) : R D := match o with
  |.ret d b => if (fr&&(!b&&isL d)) = Ab then .bad else .ok d
  |.next _ => if fr = Ab then .bad else .ok .non
  |.exn x _ => .exn x
  |_ => .bad
noncomputable def Df.run(Γ : Gam)(f : Df)(ds : Ac D) : R D := (evSs Γ (B8 f.n ds) f.body).ans f.fr
structure Prg where
 xs : An
 defs : Ae -> Df
 G : Ae -> D
 up : Ae -> Ac Ae
 xn : Ae -> Ac D -> R Ex
noncomputable def CS(xs : An)(r : R D) : R D := match xs with
  |true => r
  |false => noX r
noncomputable def gam(P : Prg) : Ae -> Gam
 |0 => ⟨fun _ _ => .bad, P.G, P.up, fun i => (P.defs i).fr, P.xn⟩
 |n+1 => ⟨fun i ds => CS P.xs ((P.defs i).run (gam P n) ds), P.G, P.up, fun i => (P.defs i).fr, P.xn⟩
end Ov
end
section
namespace Ov
open PySem
variable{α β:Type}{lo hi:Ag}{n:Ae}{x:D}
section
variable(Γ : Gam)(ρ : Rho)
@[simp]theorem ZrS : evE Γ ρ .non = .ok .non := rfl
@[simp]theorem Zty(b) : evE Γ ρ (.bl b) = .ok (.bl b) := rfl
@[simp]theorem ZrW(b) : evE Γ ρ (.int b) = .ok (.int b) := rfl
@[simp]theorem ZrR(b) : evE Γ ρ (.str b) = .ok (.str b) := rfl
@[simp]theorem ZrP(i) : evE Γ ρ (.var i) = DW ρ i := rfl
@[simp]theorem ZoJ(i) : evE Γ ρ (.glob i) = .ok (Γ.G i) := rfl
@[simp]theorem ZrZ(op a b) : evE Γ ρ (.bin op a b) = (top ρ a (evE Γ ρ a)).bind fun x => (top ρ b (evE Γ ρ b)).bind fun y => Cw op x y := rfl
@[simp]theorem Ztu(op a) : evE Γ ρ (.un op a) = (top ρ a (evE Γ ρ a)).bind fun x => unD op x := rfl
@[simp]theorem Ztx(a) : evE Γ ρ (.no a) = (top ρ a (evE Γ ρ a)).bind fun x => (Cy x).bind fun b => .ok (.bl (!b)) := rfl
@[simp]theorem Zr0(es) : evE Γ ρ (.and es) = evN Γ ρ es := rfl
@[simp]theorem Ztw(es) : evE Γ ρ (.or es) = evO Γ ρ es := rfl
@[simp]theorem ZrL(e) : evN Γ ρ (.cons e .nil) = evE Γ ρ e := rfl
@[simp]theorem ZoC(e e' es) : evN Γ ρ (.cons e (.cons e' es)) = (evE Γ ρ e).bind fun x => (Cy x).bind fun c => if c = Ab then evN Γ ρ (.cons e' es) else .ok (.bl Ad) := rfl
@[simp]theorem ZrK(e) : evO Γ ρ (.cons e .nil) = evE Γ ρ e := rfl
@[simp]theorem ZoB(e e' es) : evO Γ ρ (.cons e (.cons e' es)) = (evE Γ ρ e).bind fun x => (Cy x).bind fun c => if c = Ab then .ok (.bl Ab) else evO Γ ρ (.cons e' es) := rfl
@[simp]theorem Uo(op a b) : evE Γ ρ (.cmp op a b) = (top ρ a (evE Γ ρ a)).bind fun x => (top ρ b (evE Γ ρ b)).bind fun y => Bj op x y := rfl
@[simp]theorem ZoM(op op' a b c) : evE Γ ρ (.cmp2 op op' a b c) = (top ρ a (evE Γ ρ a)).bind fun x => (top ρ b (evE Γ ρ b)).bind fun y => (Bj op x y).bind fun z => (Cy z).bind fun k => if k = Ab then (top ρ c (evE Γ ρ c)).bind fun u => Bj op' y u else .ok (.bl Ad) := rfl
@[simp]theorem ZrU(c a b) : evE Γ ρ (.ite c a b) = (top ρ c (evE Γ ρ c)).bind fun x => (Bc x).bind fun k => if k = Ab then evE Γ ρ a else evE Γ ρ b := rfl
@[simp]theorem ZoN(f as) : evE Γ ρ (.call f as) = (evB Γ ρ as).bind fun xs => (Γ.F f xs).bind fun d => if Fs ρ as = Ab then .ok d else if DY (Γ.fr f) d = Ab then .ok d else .bad := rfl
@[simp]theorem Ztz(f as) : evE Γ ρ (.bi f as) = (evB Γ ρ as).bind fun xs => biD f xs := rfl
@[simp]theorem ZrV(a ks) : evE Γ ρ (.isi a ks) = (top ρ a (evE Γ ρ a)).bind fun x => C7 Γ.up ks x := rfl
@[simp]theorem ZrX(a i) : evE Γ ρ (.idx a i) = (top ρ a (evE Γ ρ a)).bind fun x => (top ρ i (evE Γ ρ i)).bind fun y => F6 x y := rfl
@[simp]theorem Ztv(a lo hi) : evE Γ ρ (.sl a lo hi) = (top ρ a (evE Γ ρ a)).bind fun x => (top ρ lo (evE Γ ρ lo)).bind fun l => (slE lo l).bind fun l' => (top ρ hi (evE Γ ρ hi)).bind fun h => (slE hi h).bind fun h' => slD x l' h' := rfl
@[simp]theorem ZrQ(es) : evE Γ ρ (.tup es) = (evA Γ ρ es).bind fun xs => .ok (.tup xs) := rfl
@[simp]theorem ZrT(es) : evE Γ ρ (.lst es) = (evA Γ ρ es).bind fun xs => .ok (.lst xs) := rfl
noncomputable def cG(Γ : Gam)(ρ : Rho)(t : Ae)(c : E) : D -> R An := fun x => (top (ρ.set t (Aa (x, Ad))) c (evE Γ (ρ.set t (Aa (x, Ad))) c)).bind Bc
noncomputable def cF(Γ : Gam)(ρ : Rho)(t : Ae)(elt : E) : D -> R D := fun x => evE Γ (ρ.set t (Aa (x, Ad))) elt
noncomputable def mkL(r : R (Ac D)) : R D := (noX r).bind fun ys => .ok (.lst ys)
@[simp]theorem Zs4(ys) : mkL (.ok ys) = .ok (.lst ys) := rfl
@[simp]theorem ZoL(elt t it c) : evE Γ ρ (.comp elt t it c) = (evI Γ ρ it).bind fun xs => mkL (B9 (cG Γ ρ t c) (cF Γ ρ t elt) xs) := rfl
noncomputable def cGT(Γ : Gam)(ρ : Rho)(ts : Ac Ae)(c : E) : D -> R An := fun x => (E2 ts x ρ).bind fun ρ' => (top ρ' c (evE Γ ρ' c)).bind Bc
noncomputable def cFT(Γ : Gam)(ρ : Rho)(ts : Ac Ae)(elt : E) : D -> R D := fun x => (E2 ts x ρ).bind fun ρ' => evE Γ ρ' elt
@[simp]theorem Zm6(elt ts it c) : evE Γ ρ (.compT elt ts it c) = (evI Γ ρ it).bind fun xs => mkL (B9 (cGT Γ ρ ts c) (cFT Γ ρ ts elt) xs) := rfl
@[simp]theorem ZoI(it) : evE Γ ρ (.tupI it) = (evI Γ ρ it).bind fun xs => .ok (.tup xs) := rfl
@[simp]theorem ZoK : evE Γ ρ .dnew = .ok (.dic []) := rfl
@[simp]theorem ZrY(o f) : evE Γ ρ (.fld o f) = (top ρ o (evE Γ ρ o)).bind fun x => Iv x f := rfl
@[simp]theorem Zr2 : evA Γ ρ .nil = .ok [] := rfl
@[simp]theorem MH(e es) : evA Γ ρ (.cons e es) = (evE Γ ρ e).bind fun x => (evA Γ ρ es).bind fun xs => .ok (x::xs) := rfl
@[simp]theorem Zr1 : evB Γ ρ .nil = .ok [] := rfl
@[simp]theorem Kd(e es) : evB Γ ρ (.cons e es) = (top ρ e (evE Γ ρ e)).bind fun x => (evB Γ ρ es).bind fun xs => .ok (x::xs) := rfl
@[simp]theorem Zul(a) : evI Γ ρ (.e a) = (evE Γ ρ a).bind DI := rfl
@[simp]theorem ZrN(a) : evI Γ ρ (.rng a) = (top ρ a (evE Γ ρ a)).bind fun x => (Dq x).bind fun j => C4 0 j := rfl
@[simp]theorem ZoH(a b) : evI Γ ρ (.rng2 a b) = (top ρ a (evE Γ ρ a)).bind fun x => (top ρ b (evE Γ ρ b)).bind fun y => (Dq x).bind fun i => (Dq y).bind fun j => C4 i j := rfl
@[simp]theorem ZrM(a b) : evI Γ ρ (.zip a b) = (evE Γ ρ a).bind fun x => (evE Γ ρ b).bind fun y => (DI x).bind fun xs => (DI y).bind fun ys => .ok (Lg xs ys) := rfl
@[simp]theorem ZoG(a b c) : evI Γ ρ (.zip3 a b c) = (evE Γ ρ a).bind fun x => (evE Γ ρ b).bind fun y => (evE Γ ρ c).bind fun z => Oa x y z := rfl
@[simp]theorem ZrO(a) : evI Γ ρ (.enm a) = (evE Γ ρ a).bind fun x => (DI x).bind fun xs => .ok (Lo 0 xs) := rfl
@[simp]theorem ZoD(a b) : FJ Γ ρ (.zip a b) = evI Γ ρ (.zip a b) := rfl
@[simp]theorem Zm4(a b c) : FJ Γ ρ (.zip3 a b c) = evI Γ ρ (.zip3 a b c) := rfl
@[simp]theorem ZoF(a) : FJ Γ ρ (.enm a) = evI Γ ρ (.enm a) := rfl
@[simp]theorem Ztt(a) : FJ Γ ρ (.e a) = (evE Γ ρ a).bind DI := rfl
@[simp]theorem ZoE(a) : FJ Γ ρ (.rng a) = evI Γ ρ (.rng a) := rfl
@[simp]theorem Zm5(a b) : FJ Γ ρ (.rng2 a b) = evI Γ ρ (.rng2 a b) := rfl
variable(r : R D)
@[simp]theorem Zo9(i) : top ρ (.var i) r = DJ ρ i := rfl
@[simp]theorem Zpc : top ρ .non r = r := rfl
@[simp]theorem ZsA(b) : top ρ (.bl b) r = r := rfl
@[simp]theorem Zpg(b) : top ρ (.int b) r = r := rfl
@[simp]theorem Zpb(b) : top ρ (.str b) r = r := rfl
@[simp]theorem ZnY(b) : top ρ (.glob b) r = r := rfl
@[simp]theorem Zpk(op a b) : top ρ (.bin op a b) r = r := rfl
@[simp]theorem Zsw(op a) : top ρ (.un op a) r = r := rfl
@[simp]theorem Zsz(a) : top ρ (.no a) r = r := rfl
@[simp]theorem Zpl(a) : top ρ (.and a) r = r := rfl
@[simp]theorem Zsy(a) : top ρ (.or a) r = r := rfl
@[simp]theorem Zpj(op a b) : top ρ (.cmp op a b) r = r := rfl
@[simp]theorem Zn1(op op' a b c) : top ρ (.cmp2 op op' a b c) r = r := rfl
@[simp]theorem Zpe(a b c) : top ρ (.ite a b c) r = r := rfl
@[simp]theorem Zn2(a b) : top ρ (.call a b) r = r := rfl
@[simp]theorem ZsB(a b) : top ρ (.bi a b) r = r := rfl
@[simp]theorem Zpf(a b) : top ρ (.isi a b) r = r := rfl
@[simp]theorem Zph(a b) : top ρ (.idx a b) r = r := rfl
@[simp]theorem Zsx(a b c) : top ρ (.sl a b c) r = r := rfl
@[simp]theorem Zpa(a) : top ρ (.tup a) r = r := rfl
@[simp]theorem Zpd(a) : top ρ (.lst a) r = r := rfl
@[simp]theorem Zn0(a b c d) : top ρ (.comp a b c d) r = r := rfl
@[simp]theorem Zpi(a b) : top ρ (.fld a b) r = r := rfl
@[simp]theorem Zlg(a b c d) : top ρ (.compT a b c d) r = r := rfl
@[simp]theorem ZnX(a) : top ρ (.tupI a) r = r := rfl
@[simp]theorem ZnZ : top ρ .dnew r = r := rfl
end
@[simp]theorem Zk9(x : D × An)(ρ : Rho) : DJ (Aa x::ρ) 0 = .ok x.1 := rfl
@[simp]theorem Zla(x : D)(ρ : Rho) : DW (Aa (x, Ad)::ρ) 0 = .ok x := rfl
@[simp]theorem ZkM(x : Sl)(ρ : Rho)(i : Ae)[NeZero i] : DJ (x::ρ) i = DJ ρ (i-1) := by
 obtain⟨j, rfl⟩ : ∃ j, i = j+1 := ⟨i-1, by have := HA i;omega⟩
 rfl
@[simp]theorem ZkN(x : Sl)(ρ : Rho)(i : Ae)[NeZero i] : DW (x::ρ) i = DW ρ (i-1) := by
 obtain⟨j, rfl⟩ : ∃ j, i = j+1 := ⟨i-1, by have := HA i;omega⟩
 rfl
noncomputable def shV(ρ : Rho)(i : Ae) : An := match ρ[i]? with
    |some (Aa (_, Ab)) => Ad
    |_ => Ab
@[simp]theorem Zn6(x : D)(b : An)(ρ : Rho) : shV (Aa (x, b)::ρ) 0 = !b := by cases b <;> rfl
@[simp]theorem ZlA(ρ : Rho) : shV (Af::ρ) 0 = Ab := rfl
@[simp]theorem ZlB(x : Sl)(ρ : Rho)(i : Ae)[NeZero i] : shV (x::ρ) i = shV ρ (i-1) := by
 obtain⟨j, rfl⟩ : ∃ j, i = j+1 := ⟨i-1, by have := HA i;omega⟩
 rfl
section
variable(ρ : Rho)
@[simp]theorem ZpH(i) : shE ρ (.var i) = shV ρ i := rfl
@[simp]theorem ZpK : shE ρ .non = Ab := rfl
@[simp]theorem ZsR(b) : shE ρ (.bl b) = Ab := rfl
@[simp]theorem ZpO(b) : shE ρ (.int b) = Ab := rfl
@[simp]theorem ZpJ(b) : shE ρ (.str b) = Ab := rfl
@[simp]theorem Zn9(b) : shE ρ (.glob b) = Ab := rfl
@[simp]theorem ZpS(op a b) : shE ρ (.bin op a b) = Ab := rfl
@[simp]theorem ZsN(op a) : shE ρ (.un op a) = Ab := rfl
@[simp]theorem ZsQ(a) : shE ρ (.no a) = Ab := rfl
@[simp]theorem ZpT(a) : shE ρ (.and a) = Ab := rfl
@[simp]theorem ZsP(a) : shE ρ (.or a) = Ab := rfl
@[simp]theorem ZpR(op a b) : shE ρ (.cmp op a b) = Ab := rfl
@[simp]theorem Zoc(op op' a b c) : shE ρ (.cmp2 op op' a b c) = Ab := rfl
@[simp]theorem ZpM(a b c) : shE ρ (.ite a b c) = Ab := rfl
@[simp]theorem Zod(a b) : shE ρ (.call a b) = Ab := rfl
@[simp]theorem ZsS(a b) : shE ρ (.bi a b) = Ab := rfl
@[simp]theorem ZpN(a b) : shE ρ (.isi a b) = Ab := rfl
@[simp]theorem ZpP(a b) : shE ρ (.idx a b) = Ab := rfl
@[simp]theorem ZsO(a b c) : shE ρ (.sl a b c) = Ab := rfl
@[simp]theorem ZpI(a) : shE ρ (.tup a) = Ab := rfl
@[simp]theorem ZpL(a) : shE ρ (.lst a) = Ab := rfl
@[simp]theorem Zob(a b c d) : shE ρ (.comp a b c d) = Ab := rfl
@[simp]theorem ZlC(a b c d) : shE ρ (.compT a b c d) = Ab := rfl
@[simp]theorem Zn8(a) : shE ρ (.tupI a) = Ab := rfl
@[simp]theorem Zoa : shE ρ .dnew = Ab := rfl
@[simp]theorem ZpQ(a b) : shE ρ (.fld a b) = Ab := rfl
@[simp]theorem Zn7 : Fs ρ .nil = Ab := rfl
@[simp]theorem Q2(e es) : Fs ρ (.cons e es) = (shE ρ e&&Fs ρ es) := rfl
end
@[simp]theorem ZkP(ρ : Rho) : E1 [] [] ρ = Aa ρ := rfl
@[simp]theorem Zji(t ts d ds)(ρ : Rho) : E1 (t::ts) (d::ds) ρ = E1 ts ds (ρ.set t (Aa (d, Ad))) := rfl
@[simp]theorem Znw(ts ds)(ρ : Rho) : Jr ts (.lst ds) ρ = match E1 ts ds ρ with
  |some ρ' => .ok ρ'
  |none => .bad := rfl
@[simp]theorem Znv(ts ds)(ρ : Rho) : Jr ts (.tup ds) ρ = E2 ts (.tup ds) ρ := rfl
@[simp]theorem Re(ts ds)(ρ : Rho) : E2 ts (.tup ds) ρ = match E1 ts ds ρ with
  |some ρ' => .ok ρ'
  |none => .bad := rfl
@[simp]theorem ZoV(c : Prop)[Dz c](a b : R α)(f : α -> R β) : (if c then a else b).bind f = if c then a.bind f else b.bind f := by split <;> rfl
@[simp]theorem Zs2(ρ : Rho)(c : Prop)[Dz c](a b : R α)(f : α -> O) : O.of ρ (if c then a else b) f = if c then O.of ρ a f else O.of ρ b f := by split <;> rfl
@[simp]theorem ZqU(ρ : Rho)(a : R α)(g : α -> R β)(f : β -> O) : O.of ρ (a.bind g) f = O.of ρ a fun x => O.of ρ (g x) f := by cases a <;> rfl
@[simp]theorem ZpV(c : Prop)[Dz c](a b : O)(f : Rho -> O) : O.seq (if c then a else b) f = if c then a.seq f else b.seq f := by split <;> rfl
@[simp]theorem ZnN(c : Prop)[Dz c](a b : O)(f : Rho -> O) : O.turn (if c then a else b) f = if c then a.turn f else b.turn f := by split <;> rfl
@[simp]theorem Zsm(fr : An)(c : Prop)[Dz c](a b : O) : O.ans fr (if c then a else b) = if c then a.ans fr else b.ans fr := by split <;> rfl
@[simp]theorem Zoe(ρ f) : O.seq (.next ρ) f = f ρ := rfl
@[simp]theorem ZpU(d b f) : O.seq (.ret d b) f = .ret d b := rfl
@[simp]theorem ZpX(ρ f) : O.seq (.brk ρ) f = .brk ρ := rfl
@[simp]theorem Zof(ρ f) : O.seq (.cont ρ) f = .cont ρ := rfl
@[simp]theorem ZpW(x ρ f) : O.seq (.exn x ρ) f = .exn x ρ := rfl
@[simp]theorem ZpY(f) : O.seq .bad f = .bad := rfl
@[simp]theorem Zlc(ρ f) : O.turn (.next ρ) f = f ρ := rfl
@[simp]theorem ZnM(d b f) : O.turn (.ret d b) f = .ret d b := rfl
@[simp]theorem ZnP(ρ f) : O.turn (.brk ρ) f = .next ρ := rfl
@[simp]theorem Zld(ρ f) : O.turn (.cont ρ) f = f ρ := rfl
@[simp]theorem ZnO(x ρ f) : O.turn (.exn x ρ) f = .exn x ρ := rfl
@[simp]theorem ZnQ(f) : O.turn .bad f = .bad := rfl
@[simp]theorem ZoX(ρ) : O.ans Ad (.next ρ) = .ok .non := rfl
@[simp]theorem Zsl(d b) : O.ans Ad (.ret d b) = .ok d := rfl
@[simp]theorem ZoW(d b) : O.ans Ab (.ret d b) = if (!b&&isL d) = Ab then .bad else .ok d := rfl
@[simp]theorem Zri(d) : isL (.lst d) = Ab := rfl
@[simp]theorem Zrh(d) : isL (.tup d) = Ad := rfl
@[simp]theorem Zrj(d) : isL (.int d) = Ad := rfl
@[simp]theorem Zsn(fr x ρ) : O.ans fr (.exn x ρ) = .exn x := rfl
@[simp]theorem Zso(fr) : O.ans fr .bad = .bad := rfl
@[simp]theorem ZtG(i j : Ag) : Cw .Add (.int i) (.int j) = .ok (.int (i+j)) := rfl
@[simp]theorem ZsI(i j : Ag) : Cw .Sub (.int i) (.int j) = .ok (.int (i-j)) := rfl
@[simp]theorem VT(i j : Ag) : Cw .Mult (.int i) (.int j) = if (DT i j||F3 i j) = Ab then .ok (.int (i*j)) else .bad := rfl
@[simp]theorem Uk(i j : Ag) : Cw .FloorDiv (.int i) (.int j) = if 0<j /\ j<1073741824 then .ok (.int (i / j)) else .bad := rfl
@[simp]theorem VU(i j : Ag) : Cw .Mod (.int i) (.int j) = if 0<j then .ok (.int (i%j)) else .bad := rfl
@[simp]theorem UF(i j : Ag) : Cw .Pow (.int i) (.int j) = if (0 <= j /\ j <= 1000000) /\ (-(18446744073709551616 : Ag)<i /\ i<18446744073709551616) then .ok (.int (i ^ j.toNat)) else .bad := rfl
@[simp]theorem V0(x y : Aj) : Cw .Add (.str x) (.str y) = if C5 (x.length+y.length) = Ab then .ok (.str (x++y)) else .bad := rfl
@[simp]theorem NI(x y : Ac D) : Cw .Add (.lst x) (.lst y) = if C5 (x.length+y.length) = Ab then .ok (.lst (x++y)) else .bad := rfl
@[simp]theorem VZ(x y : Ac D) : Cw .Add (.tup x) (.tup y) = if (!x.isEmpty&&C5 (x.length+y.length)) = Ab then .ok (.tup (x++y)) else .bad := rfl
@[simp]theorem Zt5(i : Ag) : unD .USub (.int i) = .ok (.int (-i)) := rfl
@[simp]theorem XA(x y : D) : Bj .Eq x y = if (flD 5 x&&flD 5 y) = Ab then .ok (.bl (eqD x y)) else .bad := rfl
@[simp]theorem WI(x y : D) : Bj .NotEq x y = if (flD 5 x&&flD 5 y) = Ab then .ok (.bl (!eqD x y)) else .bad := rfl
@[simp]theorem Zt6(i j : Ag) : Bj .Lt (.int i) (.int j) = .ok (.bl (decide (i<j))) := rfl
@[simp]theorem Zt9(i j : Ag) : Bj .LtE (.int i) (.int j) = .ok (.bl (decide (i <= j))) := rfl
@[simp]theorem Zui(i j : Ag) : Bj .Gt (.int i) (.int j) = .ok (.bl (decide (j<i))) := rfl
@[simp]theorem Zuj(i j : Ag) : Bj .GtE (.int i) (.int j) = .ok (.bl (decide (j <= i))) := rfl
@[simp]theorem Yi(x : D)(ys : Ac D) : Bj .In x (.lst ys) = if (flD 5 x&&ys.all (flD 5)) = Ab then .ok (.bl (ys.any fun y => eqD y x)) else .bad := rfl
@[simp]theorem Yh(x : D)(ys : Ac D) : Bj .In x (.tup ys) = if (flD 5 x&&ys.all (flD 5)) = Ab then .ok (.bl (ys.any fun y => eqD y x)) else .bad := rfl
@[simp]theorem W8(x : D)(ys : Ac D) : Bj .NotIn x (.lst ys) = if (flD 5 x&&ys.all (flD 5)) = Ab then .ok (.bl (!ys.any fun y => eqD y x)) else .bad := rfl
@[simp]theorem W7(x : D)(ys : Ac D) : Bj .NotIn x (.tup ys) = if (flD 5 x&&ys.all (flD 5)) = Ab then .ok (.bl (!ys.any fun y => eqD y x)) else .bad := rfl
@[simp]theorem Ztg : Bj .Is .non .non = .ok (.bl Ab) := rfl
@[simp]theorem Zti(i) : Bj .Is (.int i) .non = .ok (.bl Ad) := rfl
@[simp]theorem Ztf(i) : Bj .Is (.tup i) .non = .ok (.bl Ad) := rfl
@[simp]theorem Zth(i) : Bj .Is (.lst i) .non = .ok (.bl Ad) := rfl
@[simp]theorem Zud(a b) : Bj .Is (.bl a) (.bl b) = .ok (.bl (a==b)) := rfl
@[simp]theorem Ztd(a b) : Bj .IsNot (.bl a) (.bl b) = .ok (.bl (!(a==b))) := rfl
@[simp]theorem Zq7 : Bj .IsNot .non .non = .ok (.bl Ad) := rfl
@[simp]theorem Zq9(i) : Bj .IsNot (.int i) .non = .ok (.bl Ab) := rfl
@[simp]theorem Zq6(i) : Bj .IsNot (.tup i) .non = .ok (.bl Ab) := rfl
@[simp]theorem Zq8(i) : Bj .IsNot (.lst i) .non = .ok (.bl Ab) := rfl
@[simp]theorem Zr8(i j : Ag) : eqD (.int i) (.int j) = (i==j) := rfl
@[simp]theorem ZtA(i j : An) : eqD (.bl i) (.bl j) = (i==j) := rfl
@[simp]theorem Zr5(i j : Aj) : eqD (.str i) (.str j) = (i==j) := rfl
@[simp]theorem Zr4(i j : Ac D) : eqD (.tup i) (.tup j) = eqDs i j := rfl
@[simp]theorem Zr7(i j : Ac D) : eqD (.lst i) (.lst j) = eqDs i j := rfl
@[simp]theorem Zr6 : eqD .non .non = Ab := rfl
@[simp]theorem Zko(i) : eqD .non (.int i) = Ad := rfl
@[simp]theorem Zkp(i) : eqD (.int i) .non = Ad := rfl
@[simp]theorem ZoO : eqDs [] [] = Ab := rfl
@[simp]theorem J6(x y : D)(xs ys : Ac D) : eqDs (x::xs) (y::ys) = (eqD x y&&eqDs xs ys) := rfl
@[simp]theorem ZrA(n)(i : Ag) : flD n (.int i) = Ab := by cases n <;> rfl
@[simp]theorem Zts(n)(i : An) : flD n (.bl i) = Ab := by cases n <;> rfl
@[simp]theorem Zry(n)(i : Aj) : flD n (.str i) = Ab := by cases n <;> rfl
@[simp]theorem Zrz(n) : flD n .non = Ab := by cases n <;> rfl
@[simp]theorem Zoi(i) : flD 5 (.tup i) = i.all (flD 4) := rfl
@[simp]theorem Zon(i) : flD 5 (.lst i) = i.all (flD 4) := rfl
@[simp]theorem Zoj(i) : flD 4 (.tup i) = i.all (flD 3) := rfl
@[simp]theorem Zoo(i) : flD 4 (.lst i) = i.all (flD 3) := rfl
@[simp]theorem Zok(i) : flD 3 (.tup i) = i.all (flD 2) := rfl
@[simp]theorem Zop(i) : flD 3 (.lst i) = i.all (flD 2) := rfl
@[simp]theorem Zol(i) : flD 2 (.tup i) = i.all (flD 1) := rfl
@[simp]theorem Zoq(i) : flD 2 (.lst i) = i.all (flD 1) := rfl
@[simp]theorem Zom(i) : flD 1 (.tup i) = i.all (flD 0) := rfl
@[simp]theorem Zor(i) : flD 1 (.lst i) = i.all (flD 0) := rfl
@[simp]theorem Zo7(b) : Bc (.bl b) = .ok b := rfl
@[simp]theorem ZnU(i) : Bc (.int i) = .ok (i != 0) := rfl
@[simp]theorem ZnT(i) : Bc (.lst i) = .ok (!i.isEmpty) := rfl
@[simp]theorem ZnR(i) : Bc (.tup i) = .ok (!i.isEmpty) := rfl
@[simp]theorem ZnS : Bc .non = .ok Ad := rfl
@[simp]theorem Zo8(b) : Ez (.bl b) = .ok b := rfl
@[simp]theorem ZnW(i) : Ez (.int i) = .ok (i != 0) := rfl
@[simp]theorem ZnV : Ez .non = .ok Ad := rfl
@[simp]theorem ZnD : E4 [] = .ok Ab := rfl
@[simp]theorem JL(x r) : E4 (x::r) = (Ez x).bind fun b => (E4 r).bind fun c => .ok (b&&c) := rfl
@[simp]theorem ZnC : Gy [] = .ok Ad := rfl
@[simp]theorem ZkZ(x r) : Gy (x::r) = (Ez x).bind fun b => (Gy r).bind fun c => .ok (b||c) := rfl
@[simp]theorem Zsa(b)(d) : CS b (.ok d) = .ok d := by cases b <;> rfl
@[simp]theorem ZoQ(b) : CS b .bad = .bad := by cases b <;> rfl
@[simp]theorem ZoP(x) : CS Ab (.exn x) = .exn x := rfl
@[simp]theorem ZkX(r) : CS Ad r = noX r := rfl
@[simp]theorem ZqV(a : α) : noX (.ok a) = .ok a := rfl
@[simp]theorem ZqX : noX (.bad : R α) = .bad := rfl
@[simp]theorem ZqW(x) : noX (.exn x : R α) = .bad := rfl
@[simp]theorem Zsi(b) : Cy (.bl b) = .ok b := rfl
@[simp]theorem Rz(b) : Dq (.int b) = .ok b := rfl
@[simp]theorem Znz(b) : La (.lst b) = .ok b := rfl
@[simp]theorem Zny(b) : DI (.lst b) = .ok b := rfl
@[simp]theorem Znx(b) : DI (.tup b) = .ok b := rfl
@[simp]theorem XD(xs i) : F6 (.lst xs) (.int i) = Ew xs i := rfl
@[simp]theorem XC(xs i) : F6 (.tup xs) (.int i) = Ew xs i := rfl
@[simp]theorem Zt8(xs) : biD .len [.lst xs] = .ok (.int xs.length) := rfl
@[simp]theorem Zt7(xs) : biD .len [.tup xs] = .ok (.int xs.length) := rfl
@[simp]theorem Zuo(i) : biD .abs [.int i] = .ok (.int (if i<0 then -i else i)) := rfl
@[simp]theorem Zs7(i j) : biD .max [.int i, .int j] = .ok (.int (if i<j then j else i)) := rfl
@[simp]theorem Zs5(i j) : biD .min [.int i, .int j] = .ok (.int (if j<i then j else i)) := rfl
@[simp]theorem Zue(i) : biD .int [.int i] = .ok (.int i) := rfl
@[simp]theorem Zuf(i) : biD .int [.bl i] = .ok (.int (b2i i)) := rfl
@[simp]theorem Ztc(i) : biD .list [.lst i] = .ok (.lst i) := rfl
@[simp]theorem Ztb(i) : biD .list [.tup i] = .ok (.lst i) := rfl
@[simp]theorem Zo6(i) : biD .tuple [.lst i] = .ok (.tup i) := rfl
@[simp]theorem Zo5(i) : biD .tuple [.tup i] = .ok (.tup i) := rfl
@[simp]theorem XS(i) : biD .all [.lst i] = (E4 i).bind fun b => .ok (.bl b) := rfl
@[simp]theorem Zun(i) : biD .any [.lst i] = (Gy i).bind fun b => .ok (.bl b) := rfl
@[simp]theorem Zum(i) : biD .any [.tup i] = (Gy i).bind fun b => .ok (.bl b) := rfl
@[simp]theorem ZtZ(i) : biD .sum [.lst i] = (Iu 0 i).bind fun b => .ok (.int b) := rfl
@[simp]theorem ZtY(i) : biD .sum [.tup i] = (Iu 0 i).bind fun b => .ok (.int b) := rfl
@[simp]theorem Zn4(i) : biD .sorted [.lst i] = (MQ i).bind fun b => .ok (.lst b) := rfl
@[simp]theorem Zt0(xs k) : biD .stp [.lst xs, .int k] = .ok (.lst (OQ k.toNat xs)) := rfl
@[simp]theorem Zt3(xs) : biD .rvs [.lst xs] = .ok (.lst xs.reverse) := rfl
@[simp]theorem Zs9(xs) : biD .lset [.lst xs] = OD xs := rfl
@[simp]theorem ZsC(x y) : biD .tmin [x, y] = mmD Ad x y := rfl
@[simp]theorem ZtM(x y) : biD .tlt [x, y] = OL x y := rfl
@[simp]theorem ZsD(x y) : biD .tmax [x, y] = mmD Ab x y := rfl
@[simp]theorem Zsb(xs x) : biD .count [.lst xs, x] = if (flD 5 x&&xs.all (flD 5)) = Ab then .ok (.int ((xs.filter fun y => eqD y x).length : Ae)) else .bad := rfl
@[simp]theorem XV(xs lo hi) : slD (.tup xs) lo hi = if (FI xs.length 0 lo==0&&FI xs.length xs.length hi==xs.length) = Ab then .bad else .ok (.tup (cutD xs lo hi)) := rfl
@[simp]theorem Zuw(xs lo hi) : slD (.lst xs) lo hi = .ok (.lst (cutD xs lo hi)) := rfl
@[simp]theorem ZpD(d) : slE .non d = .ok Af := rfl
@[simp]theorem ZpE(k i) : slE (.int k) (.int i) = .ok (Aa i) := rfl
@[simp]theorem ZpC(k i) : slE (.var k) (.int i) = .ok (Aa i) := rfl
@[simp]theorem ZpF(op a b i) : slE (.bin op a b) (.int i) = .ok (Aa i) := rfl
@[simp]theorem ZsL(op a i) : slE (.un op a) (.int i) = .ok (Aa i) := rfl
@[simp]theorem ZsM(b as i) : slE (.bi b as) (.int i) = .ok (Aa i) := rfl
@[simp]theorem Zrc(up ks) : C7 up ks .non = if ks.any CI = Ab then .bad else .ok (.bl (ks.any fun k => kiD up k .non)) := rfl
@[simp]theorem Zte(up ks b) : C7 up ks (.bl b) = if ks.any CI = Ab then .bad else .ok (.bl (ks.any fun k => kiD up k (.bl b))) := rfl
@[simp]theorem Zre(up ks b) : C7 up ks (.int b) = if ks.any CI = Ab then .bad else .ok (.bl (ks.any fun k => kiD up k (.int b))) := rfl
@[simp]theorem Zrb(up ks b) : C7 up ks (.str b) = if ks.any CI = Ab then .bad else .ok (.bl (ks.any fun k => kiD up k (.str b))) := rfl
@[simp]theorem Zra(up ks b) : C7 up ks (.tup b) = if ks.any CI = Ab then .bad else .ok (.bl (ks.any fun k => kiD up k (.tup b))) := rfl
@[simp]theorem Zrd(up ks b) : C7 up ks (.lst b) = if ks.any CI = Ab then .bad else .ok (.bl (ks.any fun k => kiD up k (.lst b))) := rfl
@[simp]theorem Zrf(up ks c f) : C7 up ks (.exc c f) = if ks.all CI = Ab then .ok (.bl (ks.any fun k => kiD up k (.exc c f))) else .bad := rfl
@[simp]theorem ZoT(c) : CI (.cls c) = Ab := rfl
@[simp]theorem Zne : CI .verr = Ab := rfl
@[simp]theorem ZoS : CI .int = Ad := rfl
@[simp]theorem Zng : CI .bool = Ad := rfl
@[simp]theorem ZoR : CI .str = Ad := rfl
@[simp]theorem Znf : CI .list = Ad := rfl
@[simp]theorem ZkY : CI .tuple = Ad := rfl
@[simp]theorem ZkT(up i) : kiD up .int (.int i) = Ab := rfl
@[simp]theorem ZkS(up) : kiD up .int .non = Ad := rfl
@[simp]theorem Zj5(up i) : kiD up .bool (.int i) = Ad := rfl
@[simp]theorem ZkR(up i) : kiD up .int (.tup i) = Ad := rfl
@[simp]theorem ZkV(up i) : kiD up .bool (.bl i) = Ab := rfl
@[simp]theorem Zj4(up) : kiD up .bool .non = Ad := rfl
@[simp]theorem Zj3(up i) : kiD up .list (.lst i) = Ab := rfl
@[simp]theorem Zil(up i) : kiD up .tuple (.tup i) = Ab := rfl
@[simp]theorem Zim(up) : kiD up .tuple .non = Ad := rfl
@[simp]theorem ZkU(up c k f) : kiD up (.cls c) (.exc k f) = (up k).contains c := rfl
@[simp]theorem Zj2(up k f) : kiD up .verr (.exc k f) = Ab := rfl
theorem RS{xs:Ac D}{i:Ag}{d:D}(h0 : 0 <= i)(h : xs[i.toNat]? = Aa d) : Ew xs i = .ok d := by
 unfold Ew plD;obtain⟨h1, _⟩ := AZ.mp h;rw[AB h0, AB (by omega)]
 dsimp only;rw[h]
section
variable(Γ : Gam)(ρ : Rho)
@[simp]theorem Zos : evSs Γ ρ .nil = .next ρ := rfl
noncomputable def Ea(Γ : Gam)(ss : Ss)(o : O) : O := o.seq fun ρ' => evSs Γ ρ' ss
@[simp]theorem Zm3(s ss) : evSs Γ ρ (.cons s ss) = Ea Γ ss (evS Γ ρ s) := rfl
@[simp]theorem Zrs(ss) : Ea Γ ss (.next ρ) = evSs Γ ρ ss := rfl
@[simp]theorem Ztl(ss d b) : Ea Γ ss (.ret d b) = .ret d b := rfl
@[simp]theorem Ztp(ss) : Ea Γ ss (.brk ρ) = .brk ρ := rfl
@[simp]theorem Zrt(ss) : Ea Γ ss (.cont ρ) = .cont ρ := rfl
@[simp]theorem Zto(ss x) : Ea Γ ss (.exn x ρ) = .exn x ρ := rfl
@[simp]theorem Ztq(ss) : Ea Γ ss .bad = .bad := rfl
@[simp]theorem Ztn(ss)(c : Prop)[Dz c](a b : O) : Ea Γ ss (if c then a else b) = if c then Ea Γ ss a else Ea Γ ss b := by split <;> rfl
@[simp]theorem Ztm(o : O) : Ea Γ .nil o = o := by cases o <;> rfl
noncomputable def Dd(Γ : Gam)(t : Ae)(body : Ss) : D -> Rho -> O := fun x ρ' => evSs Γ (ρ'.set t (Aa (x, Ad))) body
noncomputable def whC(Γ : Gam)(c : E) : Rho -> R An := fun ρ' => (top ρ' c (evE Γ ρ' c)).bind Bc
noncomputable def whB(Γ : Gam)(body : Ss) : Rho -> O := fun ρ' => evSs Γ ρ' body
noncomputable def Pa(Γ : Gam)(t : Ae)(body : Ss)(ρ : Rho)(r : R (Ac D)) : O := O.of ρ r fun xs => Dc (Dd Γ t body) xs ρ
@[simp]theorem Uj(t body xs) : Pa Γ t body ρ (.ok xs) = Dc (Dd Γ t body) xs ρ := rfl
@[simp]theorem Zov : evS Γ ρ .pass = .next ρ := rfl
@[simp]theorem ZrI(i e) : evS Γ ρ (.asg i Ad e) = O.of ρ (evE Γ ρ e) fun d => .next (ρ.set i (Aa (d, Ad))) := rfl
@[simp]theorem Zoy(e) : evS Γ ρ (.expr e) = O.of ρ (evE Γ ρ e) fun _ => .next ρ := rfl
@[simp]theorem ZrD(e) : evS Γ ρ (.ret e) = O.of ρ (top ρ e (evE Γ ρ e)) fun d => .ret d (EL Γ e||(match e with | .var i => (match ρ[i]? with|some (Aa (_, o)) => o|_ => Ad)|_ => Ad)) := rfl
@[simp]theorem Zot : evS Γ ρ .retN = .ret .non Ad := rfl
@[simp]theorem ZrE(c a b) : evS Γ ρ (.ife c a b) = O.of ρ ((top ρ c (evE Γ ρ c)).bind Bc) fun k => if k = Ab then evSs Γ ρ a else evSs Γ ρ b := rfl
@[simp]theorem Zow(t it body) : evS Γ ρ (.fors t it body) = Pa Γ t body ρ (FJ Γ ρ it) := rfl
noncomputable def Ox(Γ : Gam)(ts : Ac Ae)(body : Ss) : D -> Rho -> O := fun x ρ' => O.of ρ' (E2 ts x ρ') fun ρ'' => evSs Γ ρ'' body
noncomputable def Ow(Γ : Gam)(ts : Ac Ae)(body : Ss)(ρ : Rho)(r : R (Ac D)) : O := O.of ρ r fun xs => Dc (Ox Γ ts body) xs ρ
@[simp]theorem Zoh(t body xs) : Ow Γ t body ρ (.ok xs) = Dc (Ox Γ t body) xs ρ := rfl
@[simp]theorem Zox(t it body) : evS Γ ρ (.forT t it body) = Ow Γ t body ρ (FJ Γ ρ it) := rfl
@[simp]theorem ZoA(ts e) : evS Γ ρ (.asgT ts e) = O.of ρ (evE Γ ρ e) fun d => O.of ρ (Jr ts d ρ) fun ρ' => .next ρ' := rfl
noncomputable def setF(ρ : Rho)(i : Ae) : D -> O
 |.lst xs => .next (ρ.set i (Aa (.lst xs, Ab)))
 |.dic xs => .next (ρ.set i (Aa (.dic xs, Ab)))
 |_ => .bad
@[simp]theorem ZsT(i xs) : setF ρ i (.lst xs) = .next (ρ.set i (Aa (.lst xs, Ab))) := rfl
@[simp]theorem ZsU(i xs) : setF ρ i (.dic xs) = .next (ρ.set i (Aa (.dic xs, Ab))) := rfl
@[simp]theorem ZrJ(i e) : evS Γ ρ (.app i e) = O.of ρ (Dj ρ i) fun xs => O.of ρ (evE Γ ρ e) fun d => if C5 (xs.length+1) = Ab then .next (ρ.set i (Aa (.lst (xs++[d]), Ab))) else .bad := rfl
@[simp]theorem ZrF(i e) : evS Γ ρ (.ext i e) = O.of ρ (Dj ρ i) fun xs => O.of ρ (evE Γ ρ e) fun d => O.of ρ (La d) fun ys => if C5 (xs.length+ys.length) = Ab then .next (ρ.set i (Aa (.lst (xs++ys), Ab))) else .bad := rfl
@[simp]theorem ZrC(i) : evS Γ ρ (.rev i) = O.of ρ (Dj ρ i) fun xs => .next (ρ.set i (Aa (.lst xs.reverse, Ab))) := rfl
@[simp]theorem ZrG(i) : evS Γ ρ (.clr i) = O.of ρ (Dj ρ i) fun _ => .next (ρ.set i (Aa (.lst [], Ab))) := rfl
@[simp]theorem RU(body c x h) : evS Γ ρ (.tryx body c x h) = match evSs Γ ρ body with
      | .exn y ρ' => if (Γ.up y.c).contains c = Ab then (match evSs Γ (ρ'.set x (Aa (.exc y.c y.fs, Ad))) h with
          |.next ρ'' => .next (ρ''.set x Af)
          |.ret d f => .ret d f
          | _ => .bad) else .bad
      |o => o := rfl
@[simp]theorem ZrB(c body) : evS Γ ρ (.whl c body) = Lh (whC Γ c) (whB Γ body) Ou ρ := rfl
@[simp]theorem Zou(c as) : evS Γ ρ (.rais c as) = O.of ρ (noX (evA Γ ρ as)) fun xs => O.of ρ (Γ.xn c xs) fun x => .exn x ρ := rfl
@[simp]theorem ZrH : evS Γ ρ .brk = .brk ρ := rfl
@[simp]theorem Zoz : evS Γ ρ .cont = .cont ρ := rfl
end
end Ov
namespace Ov
open PySem
theorem ME{body : D -> Rho -> O}(P : Rho -> Prop) : ∀(xs : Ac D)(ρ : Rho), P ρ -> (∀ x ∈ xs, ∀ ρ, P ρ -> ∃ ρ', body x ρ = .next ρ' /\ P ρ') -> ∃ ρ', Dc body xs ρ = .next ρ' /\ P ρ'
 |[], ρ, h, _ => ⟨ρ, rfl, h⟩
 |x::xs, ρ, h, k => by
  obtain⟨ρ1, e1, h1⟩ := k x AI ρ h;obtain⟨ρ2, e2, h2⟩ := ME P xs ρ1 h1 fun y hy => k y (Az _ hy)
  exact⟨ρ2, by show (body x ρ).turn _ = _;rw[e1];exact e2, h2⟩
theorem QU(h1 : 0 <= lo)(h2 : lo<1000000)(h3 : 0 <= hi)(h4 : hi<1000000) : C4 lo hi = .ok (DX lo (hi-lo).toNat) := by
 unfold C4;rw[AB (by omega)]
theorem QV(h3 : 0 <= hi)(h4 : hi<1000000) : C4 0 hi = .ok (DX 0 hi.toNat) := by
 rw[QU (by omega) (by omega) h3 h4, Ge]
theorem RK(h : x ∈ DX lo n) : ∃ k : Ae, k<n /\ x = .int (lo+(k : Ag)) := by
 obtain⟨k, hk, e⟩ := Gg.mp h;exact⟨k, Cp.mp hk, e.symm⟩
theorem JO(lo : Ag)(n : Ae) : (DX lo n).length = n := by simp[DX]
theorem RQ{i:Ae}(h : (DX lo n)[i]? = Aa x) : i<n /\ x = .int (lo+(i : Ag)) := by
 have hl := (AZ.mp h).1;rw[JO]at hl;unfold DX at h;rw[DO, List.getElem?_range hl]at h;cases h;exact⟨hl, rfl⟩
noncomputable def Ss.take : Ae -> Ss -> Ss
 |0, _ => .nil
 |_, .nil => .nil
 |n+1, .cons s ss => .cons s (ss.take n)
noncomputable def Ss.drop : Ae -> Ss -> Ss
 |0, ss => ss
 |_, .nil => .nil
 |n+1, .cons _ ss => ss.drop n
theorem MG(Γ : Gam) : ∀(n : Ae)(ss : Ss)(ρ : Rho), evSs Γ ρ ss = Ea Γ (ss.drop n) (evSs Γ ρ (ss.take n))
 |0, _, _ => rfl
 |_+1, .nil, _ => rfl
 |n+1, .cons s ss, ρ => by
  show (evS Γ ρ s).seq (fun ρ' => evSs Γ ρ' ss) = Ea Γ (ss.drop n) ((evS Γ ρ s).seq fun ρ' => evSs Γ ρ' (ss.take n))
  cases evS Γ ρ s with
  |next ρ' => exact MG Γ n ss ρ'
  |_ => rfl
end Ov
end
section
namespace Ov
noncomputable def xfD : Ae -> D -> An
 |0, .int i => decide (0 <= i)&&decide (i<100)
 |n+1, .tup ds => CT ds.length 8&&ds.all (xfD n)
 |_, _ => Ad
noncomputable def mkX(c : Ae)(f : PySem.Str) : Ac D -> R Ex
 |[d] => if (xfD 1 d||xfD 2 d) = Ab then .ok ⟨c, [(f, d)]⟩ else .bad
 |_ => .bad
end Ov
end
section
namespace OvC
open PySem Ov PyProof.Rows
variable{i j:Ag}
noncomputable abbrev scr(ns : Ac Ag) : D := .lst (ns.map .int)
noncomputable abbrev sh(d : D) : Sl := Aa (d, Ad)
noncomputable abbrev si(i : Ag) : Sl := Aa (.int i, Ad)
noncomputable def Jq(ns : Ac Ag)(k : Ag) : Ag := if ns = [] then 0 else ns.getD (k%ns.length).toNat 0
noncomputable def F5(ns : Ac Ag)(k : Ag) : Ag := (Jq ns k%1000003+7919*k+11)*48271%1000033
theorem NW(ns k) : 0 <= F5 ns k := by unfold F5;omega
theorem VW(ns k) : F5 ns k<1000033 := by unfold F5;omega
noncomputable def P4(p : Ag) : Prop := p = 3 \/ p = 5 \/ p = 7 \/ p = 11
theorem P4.pos{p}(h : P4 p) : 0<p := by rcases h with rfl|rfl|rfl|rfl <;> decide
theorem P4.lo{p}(h : P4 p) : 3 <= p := by rcases h with rfl|rfl|rfl|rfl <;> decide
theorem P4.hi{p}(h : P4 p) : p <= 11 := by rcases h with rfl|rfl|rfl|rfl <;> decide
theorem HZ(h0 : -18446744073709551616<i)(h1 : i<18446744073709551616) : DT i j = Ab := by simp[DT];left;exact⟨h0, h1⟩
theorem Ts(h0 : -18446744073709551616<j)(h1 : j<18446744073709551616) : DT i j = Ab := by simp[DT];right;exact⟨h0, h1⟩
noncomputable def KM : Df := ⟨2, Ad, (.cons (.ret (.bin .Mod (.var 1) (.var 0))) .nil)⟩
noncomputable def Ie(Γ : Gam) : Prop := ∀ p n : Ag, 0<p -> Γ.F 1 [.int p, .int n] = .ok (.int (n%p))
theorem UY(Γ : Gam)(p n : Ag)(h : 0<p) : KM.run Γ [.int p, .int n] = .ok (.int (n%p)) := by simp[KM, Df.run, B8, h]
noncomputable def JD : Df := ⟨2, Ad, (.cons (.ife (.cmp .Eq (.bi .len (.cons (.var 0) .nil)) (.int 0)) (.cons (.ret (.int 0)) .nil) .nil) (.cons (.ret (.idx (.var 0) (.bin .Mod (.var 1) (.bi .len (.cons (.var 0) .nil))))) .nil))⟩
noncomputable def NM(Γ : Gam) : Prop := ∀(ns : Ac Ag)(k : Ag), Γ.F 2 [scr ns, .int k] = .ok (.int (Jq ns k))
theorem Uz(Γ : Gam)(ns : Ac Ag)(k : Ag) : JD.run Γ [scr ns, .int k] = .ok (.int (Jq ns k)) := by
 simp[JD, Df.run, B8, Jq];by_cases h : ns = []
 ·simp[h]
 ·have hn := List.length_pos_iff.mpr h;have hl : 0<(ns.length : Ag) := by omega
  have h1 := BS k (Ph hl);have h2 := Bt k hl;have h3 : (k%ns.length).toNat<ns.length := by omega
  simp[h, hn, RS (xs := ns.map .int) (d := .int (ns.getD (k%ns.length).toNat 0)) h1 (by simp[h3])]
noncomputable def JP : Df := ⟨2, Ad, (.cons (.ret (.bin .Mod (.bin .Mult (.bin .Add (.bin .Add (.bin .Mod (.call 2 (.cons (.var 0) (.cons (.var 1) .nil))) (.int 1000003)) (.bin .Mult (.int 7919) (.var 1))) (.int 11)) (.int 48271)) (.int 1000033))) .nil)⟩
noncomputable def M9(Γ : Gam) : Prop := ∀(ns : Ac Ag)(k : Ag), Γ.F 3 [scr ns, .int k] = .ok (.int (F5 ns k))
theorem TR{Γ:Gam}(h2 : NM Γ)(ns : Ac Ag)(k : Ag) : JP.run Γ [scr ns, .int k] = .ok (.int (F5 ns k)) := by
 simp[JP, Df.run, B8, h2 ns k, DT, F5]
noncomputable def QR : Df := ⟨2, Ad, (.cons (.ret (.idx (.lst (.cons (.int 3) (.cons (.int 5) (.cons (.int 7) (.cons (.int 11) .nil))))) (.bin .Mod (.bin .FloorDiv (.call 3 (.cons (.var 0) (.cons (.var 1) .nil))) (.int 16)) (.int 4)))) .nil)⟩
end OvC
end
namespace Ov
open PySem PySem.Spec PyProof.Rows L2
variable{A B:Ai -> Prop}{H H' H1 H0:Hp}{p a b l q:Ai}{xs vs:Ac V}{v:V}{d:D}{Rp Rq:Hp -> V -> D -> Prop}{r:R D}{Q:VK}{X:Cx}{e c tg iter elt:Ao}{t' tt:TT}{ρ:Rho}{i n j:Ae}{x:Ex}{σ:L2.St}{g:D -> D -> R D}{op op':CZ}{K:Fg}{pI:Ac (Ai × AC)}{s:Al}{its its2 ys:Ac Ah}{items2:A5 Ah}{h h':Ax}{u:Ah}{es ifs:Ac Ao}{fs fi:Rho -> R (Ac D)}{Q':Am Ag -> Hp -> Prop}{T:Cv}{f fc:Rho -> R An}{α:Type}{Fz:Ai -> HO -> Prop}{D':Ends}{pos' p2 pos pos2:AJ}{lo hi:Ag}{as:D -> Rho -> R Rho}{k:Ki}{up:Ae -> Ac Ae}{scope:Bz}{env:BB}{cl:Ac (Aj × Ai)}{N':Ac Aj}{ts:Ac Ae}{fp:Ac Ai}{te:TE}{J:It}{wi:TI}{t:An}
noncomputable abbrev ClA := Ae -> Am Ai
variable{CL:ClA}
noncomputable def KL(K : Fg)(a : Ai)(xs : Ac V) : Prop := ∃(o : AC)(its : A5 Ah)(n : Ae), K.lookup a = Aa o /\ o.cls = .type "list" /\ o.dict = Af /\ o.data = .seq its n /\ its.size <= sizeLine /\ AW xs its.toList
noncomputable def KT(K : Fg)(a : Ai)(xs : Ac V) : Prop := ∃(o : AC)(its : A5 Ah)(n : Ae), K.lookup a = Aa o /\ o.cls = .type "tuple" /\ o.data = .seq its n /\ its.size <= sizeLine /\ AW xs its.toList
section
variable(K : Fg)(CL : ClA)(H : Hp)(A : Ai -> Prop)
mutual
def Rep : V -> D -> Prop
 |v, .non => v = .non
 |v, .bl b => v = .bl b
 |v, .int i => v = .int i
 |v, .str x => v = .str x
 |v, .tup ds => ∃ a xs, v = .ref a /\ (¬ A a \/ KT K a xs) /\ SqT K H a xs /\ Reps xs ds
 |v, .lst ds => ∃ a xs, v = .ref a /\ (¬ A a \/ KL K a xs) /\ SqL K H a xs /\ Reps xs ds
 |v, .obj c fs => ∃ a C dx vs, v = .ref a /\ ¬ A a /\ CL c = Aa C /\ H a = Aa (.ins C dx vs) /\ Repf vs fs
 |_, .dic _ => AH
 |v, .exc c fs => ∃ a C φ, v = .ref a /\ ¬ A a /\ CL c = Aa C /\ H a = Aa (.ext φ) /\ (∀ h, φ h -> ∃ o, h.get? a = Aa o /\ o.cls = .ref C) /\ (fs = [] \/ ∃ dx vs, ¬ A dx /\ H dx = Aa (.xd vs) /\ Repf vs fs /\ ∀ h, φ h -> ∃ o, h.get? a = Aa o /\ o.dict = Aa dx /\ ∃ us, o.data = .fields us)
def Reps : Ac V -> Ac D -> Prop
 |[], [] => FF
 |v::vs, d::ds => Rep v d /\ Reps vs ds
 |_, _ => AH
def Repf : Ac (Aj × V) -> Ac (Aj × D) -> Prop
 |[], [] => FF
 |v::vs, d::ds => Repp v d /\ Repf vs ds
 |_, _ => AH
def Repp : Aj × V -> Aj × D -> Prop
 |v, (n, d) => v.1 = n /\ Rep v.2 d
end
noncomputable def BZ(v : V)(d : D) : Prop := Rep K CL H A v d \/ ∃ a xs ds, v = .ref a /\ d = .lst ds /\ H a = Aa (.lst xs) /\ Reps K CL H A xs ds
end
noncomputable def Kp(A : Ai -> Prop)(H H' : Hp) : Prop := ∀ b o, H b = Aa o -> ¬ A b -> H' b = Aa o
noncomputable def AOk(H : Hp)(A : Ai -> Prop) : Prop := ∀ a, A a -> ∃ xs, H a = Aa (.lst xs)
theorem Kp.of(h : Av H H') : Kp A H H' := fun b o e _ => h b o e
theorem AOk.same(h : AOk H A)(s : Av H H') : AOk H' A := fun a ha => let ⟨xs, e⟩ := h a ha;⟨xs, s _ _ e⟩
theorem AOk.new(h : AOk H A)(e : H p = Af) : ¬ A p := fun ha => by
 obtain⟨xs, q⟩ := h p ha;rw[e]at q;cases q
section
variable{K : Fg}{CL : ClA}{H H' : Hp}{A B : Ai -> Prop}
theorem Oh{u:HO}(k : Kp A H H')(na : ¬ A a)(h : Rd H a u) : Rd H' a u := by
 rcases h with h|⟨o, h⟩
 ·exact .inl (k _ _ h na)
 ·exact .inr ⟨o, k _ _ h na⟩
theorem Ky(k : Kp A H H')(na : ¬ A a \/ KL K a xs)(h : SqL K H a xs) : SqL K H' a xs := na.elim (fun na => h.imp (Oh k na) id) .inr
theorem Kx(k : Kp A H H')(na : ¬ A a \/ KT K a xs)(h : SqT K H a xs) : SqT K H' a xs := na.elim (fun na => h.imp (Oh k na) id) .inr
mutual
theorem Rep.kp(k : Kp A H H') : ∀{v : V}(d : D), Rep K CL H A v d -> Rep K CL H' A v d
 |_, .non, h => h
 |_, .bl _, h => h
 |_, .int _, h => h
 |_, .str _, h => h
 |_, .dic _, h => h.elim
 |_, .tup ds, h => by
  obtain⟨a, xs, e, na, s, r⟩ := h;exact⟨a, xs, e, na, by first|exact Kx k na s|exact Ky k na s, Reps.kp k ds r⟩
 |_, .lst ds, h => by
  obtain⟨a, xs, e, na, s, r⟩ := h;exact⟨a, xs, e, na, by first|exact Kx k na s|exact Ky k na s, Reps.kp k ds r⟩
 |_, .obj c fs, h => by
  obtain⟨a, C, dx, vs, e, na, c, s, r⟩ := h;exact⟨a, C, dx, vs, e, na, c, k _ _ s na, Repf.kp k fs r⟩
 |_, .exc c fs, h => by
  obtain⟨a, C, φ, e, na, c, s, p, q⟩ := h;refine⟨a, C, φ, e, na, c, k _ _ s na, p, q.imp id ?_⟩;rintro⟨dx, vs, nx, s2, r, z⟩;exact⟨dx, vs, nx, k _ _ s2 nx, Repf.kp k fs r, z⟩
theorem Reps.kp(k : Kp A H H') : ∀{vs : Ac V}(ds : Ac D), Reps K CL H A vs ds -> Reps K CL H' A vs ds
 |[], [], h => h
 |_::_, d::ds, h => ⟨Rep.kp k d h.1, Reps.kp k ds h.2⟩
 |[], _::_, h => h.elim
 |_::_, [], h => h.elim
theorem Repf.kp(k : Kp A H H') : ∀{vs : Ac (Aj × V)}(ds : Ac (Aj × D)), Repf K CL H A vs ds -> Repf K CL H' A vs ds
 |[], [], h => h
 |_::_, d::ds, h => ⟨Repp.kp k d h.1, Repf.kp k ds h.2⟩
 |[], _::_, h => h.elim
 |_::_, [], h => h.elim
theorem Repp.kp(k : Kp A H H') : ∀{v : Aj × V}(d : Aj × D), Repp K CL H A v d -> Repp K CL H' A v d
 |_, (_, d), h => ⟨h.1, Rep.kp k d h.2⟩
end
mutual
theorem Rep.sub(k : ∀ a, B a -> A a) : ∀{v : V}(d : D), Rep K CL H A v d -> Rep K CL H B v d
 |_, .non, h => h
 |_, .bl _, h => h
 |_, .int _, h => h
 |_, .str _, h => h
 |_, .dic _, h => h.elim
 |_, .tup ds, h => by
  obtain⟨a, xs, e, na, s, r⟩ := h;exact⟨a, xs, e, na.imp (fun na z => na (k _ z)) id, s, Reps.sub k ds r⟩
 |_, .lst ds, h => by
  obtain⟨a, xs, e, na, s, r⟩ := h;exact⟨a, xs, e, na.imp (fun na z => na (k _ z)) id, s, Reps.sub k ds r⟩
 |_, .obj c fs, h => by
  obtain⟨a, C, dx, vs, e, na, c, s, r⟩ := h;exact⟨a, C, dx, vs, e, fun z => na (k _ z), c, s, Repf.sub k fs r⟩
 |_, .exc c fs, h => by
  obtain⟨a, C, φ, e, na, c, s, p, q⟩ := h;refine⟨a, C, φ, e, fun z => na (k _ z), c, s, p, q.imp id ?_⟩
  rintro⟨dx, vs, nx, s2, r, z⟩;exact⟨dx, vs, fun z => nx (k _ z), s2, Repf.sub k fs r, z⟩
theorem Reps.sub(k : ∀ a, B a -> A a) : ∀{vs : Ac V}(ds : Ac D), Reps K CL H A vs ds -> Reps K CL H B vs ds
 |[], [], h => h
 |_::_, d::ds, h => ⟨Rep.sub k d h.1, Reps.sub k ds h.2⟩
 |[], _::_, h => h.elim
 |_::_, [], h => h.elim
theorem Repf.sub(k : ∀ a, B a -> A a) : ∀{vs : Ac (Aj × V)}(ds : Ac (Aj × D)), Repf K CL H A vs ds -> Repf K CL H B vs ds
 |[], [], h => h
 |_::_, d::ds, h => ⟨Repp.sub k d h.1, Repf.sub k ds h.2⟩
 |[], _::_, h => h.elim
 |_::_, [], h => h.elim
theorem Repp.sub(k : ∀ a, B a -> A a) : ∀{v : Aj × V}(d : Aj × D), Repp K CL H A v d -> Repp K CL H B v d
 |_, (_, d), h => ⟨h.1, Rep.sub k d h.2⟩
end
mutual
theorem Rep.wide(hp : ∀ a, B a -> A a \/ H a = Af) : ∀{v : V}(d : D), Rep K CL H A v d -> Rep K CL H B v d
 |_, .non, h => h
 |_, .bl _, h => h
 |_, .int _, h => h
 |_, .str _, h => h
 |_, .dic _, h => h.elim
 |_, .tup ds, h => by
  obtain⟨a, xs, e, na, s, r⟩ := h;refine⟨a, xs, e, ?_, s, Reps.wide hp ds r⟩;rcases s with s|s
  ·refine na.imp (fun na z => (hp _ z).elim na fun e => ?_) id
   rcases s with s|⟨o, s⟩ <;> rw[e]at s <;> cases s
  ·exact .inr s
 |_, .lst ds, h => by
  obtain⟨a, xs, e, na, s, r⟩ := h;refine⟨a, xs, e, ?_, s, Reps.wide hp ds r⟩;rcases s with s|s
  ·refine na.imp (fun na z => (hp _ z).elim na fun e => ?_) id
   rcases s with s|⟨o, s⟩ <;> rw[e]at s <;> cases s
  ·exact .inr s
 |_, .obj c fs, h => by
  obtain⟨a, C, dx, vs, e, na, c, s, r⟩ := h;exact⟨a, C, dx, vs, e, (fun z => (hp _ z).elim na fun e => by rw[e]at s;cases s), c, s, Repf.wide hp fs r⟩
 |_, .exc c fs, h => by
  obtain⟨a, C, φ, e, na, c, s, p, q⟩ := h;refine⟨a, C, φ, e, (fun z => (hp _ z).elim na fun e => by rw[e]at s;cases s), c, s, p, q.imp id ?_⟩
  rintro⟨dx, vs, nx, s2, r, z⟩;exact⟨dx, vs, (fun z => (hp _ z).elim nx fun e => by rw[e]at s2;cases s2), s2, Repf.wide hp fs r, z⟩
theorem Reps.wide(hp : ∀ a, B a -> A a \/ H a = Af) : ∀{vs : Ac V}(ds : Ac D), Reps K CL H A vs ds -> Reps K CL H B vs ds
 |[], [], h => h
 |_::_, d::ds, h => ⟨Rep.wide hp d h.1, Reps.wide hp ds h.2⟩
 |[], _::_, h => h.elim
 |_::_, [], h => h.elim
theorem Repf.wide(hp : ∀ a, B a -> A a \/ H a = Af) : ∀{vs : Ac (Aj × V)}(ds : Ac (Aj × D)), Repf K CL H A vs ds -> Repf K CL H B vs ds
 |[], [], h => h
 |_::_, d::ds, h => ⟨Repp.wide hp d h.1, Repf.wide hp ds h.2⟩
 |[], _::_, h => h.elim
 |_::_, [], h => h.elim
theorem Repp.wide(hp : ∀ a, B a -> A a \/ H a = Af) : ∀{v : Aj × V}(d : Aj × D), Repp K CL H A v d -> Repp K CL H B v d
 |_, (_, d), h => ⟨h.1, Rep.wide hp d h.2⟩
end
theorem Rep.same(s : Av H H')(h : Rep K CL H A v d) : Rep K CL H' A v d := Rep.kp (Kp.of s) d h
theorem Reps.same{v:Ac V}{d:Ac D}(s : Av H H')(h : Reps K CL H A v d) : Reps K CL H' A v d := Reps.kp (Kp.of s) d h
theorem BZ.same{v : V}{d : D}(s : Av H H')(h : BZ K CL H A v d) : BZ K CL H' A v d := by
 rcases h with h|⟨a, xs, ds, e, e2, q, r⟩
 ·exact .inl (h.same s)
 ·exact .inr ⟨a, xs, ds, e, e2, s _ _ q, r.same s⟩
theorem Reps.length : ∀{vs : Ac V}{ds : Ac D}, Reps K CL H A vs ds -> vs.length = ds.length
 |[], [], _ => rfl
 |_::_, _::_, h => congrArg (· + 1) (Reps.length h.2)
 |[], _::_, h => h.elim
 |_::_, [], h => h.elim
theorem Reps.append : ∀{vs ws : Ac V}{ds es : Ac D}, Reps K CL H A vs ds -> Reps K CL H A ws es -> Reps K CL H A (vs++ws) (ds++es)
 |[], _, [], _, _, h => h
 |_::_, _, _::_, _, h, g => ⟨h.1, Reps.append h.2 g⟩
 |[], _, _::_, _, h, _ => h.elim
 |_::_, _, [], _, h, _ => h.elim
theorem Reps.get : ∀{vs : Ac V}{ds : Ac D}{i : Ae}{d : D}, Reps K CL H A vs ds -> ds[i]? = Aa d -> ∃ v, vs[i]? = Aa v /\ Rep K CL H A v d
 |[], [], _, _, _, e => by simp at e
 |v::_, _::_, 0, _, h, e => by simp at e;subst e;exact⟨v, rfl, h.1⟩
 |_::_, _::_, i+1, _, h, e => by
  obtain⟨v, q, r⟩ := Reps.get (i := i) h.2 (by simpa using e)
  exact⟨v, by simpa using q, r⟩
 |[], _::_, _, _, h, _ => h.elim
 |_::_, [], _, _, h, _ => h.elim
theorem Reps.take : ∀{vs : Ac V}{ds : Ac D}(n : Ae), Reps K CL H A vs ds -> Reps K CL H A (vs.take n) (ds.take n)
 |_, _, 0, _ => trivial
 |[], [], _+1, _ => trivial
 |_::_, _::_, n+1, h => ⟨h.1, Reps.take n h.2⟩
 |[], _::_, _+1, h => h.elim
 |_::_, [], _+1, h => h.elim
theorem Reps.drop : ∀{vs : Ac V}{ds : Ac D}(n : Ae), Reps K CL H A vs ds -> Reps K CL H A (vs.drop n) (ds.drop n)
 |_, _, 0, h => h
 |[], [], _+1, _ => trivial
 |_::_, _::_, n+1, h => Reps.drop n h.2
 |[], _::_, _+1, h => h.elim
 |_::_, [], _+1, h => h.elim
theorem Reps.set{x : V}{e : D}(r : Rep K CL H A x e) : ∀{vs : Ac V}{ds : Ac D}(n : Ae), Reps K CL H A vs ds -> Reps K CL H A (vs.set n x) (ds.set n e)
 |[], [], _, _ => trivial
 |_::_, _::_, 0, h => ⟨r, h.2⟩
 |_::_, _::_, n+1, h => ⟨h.1, Reps.set r n h.2⟩
 |[], _::_, _, h => h.elim
 |_::_, [], _, h => h.elim
end
structure Good (K : Fg) (CL : ClA) (A : Ai -> Prop) (ρ : Rho) (σ : L2.St) (H : Hp) : Prop where
 sh : ∀(i : Ae)(d : D), ρ[i]? = Aa (Aa (d, Ad)) -> ∃ v, σ[i]? = Aa (Aa v) /\ Rep K CL H A v d
 ow : ∀(i : Ae)(d : D), ρ[i]? = Aa (Aa (d, Ab)) -> ∃ a xs ds, σ[i]? = Aa (Aa (.ref a)) /\ d = .lst ds /\ A a /\ H a = Aa (.lst xs) /\ Reps K CL H A xs ds
 len : ρ.length = σ.length
theorem Good.same{K : Fg}{CL : ClA}{A : Ai -> Prop}{ρ : Rho}{σ : L2.St}{H H' : Hp}(g : Good K CL A ρ σ H)(s : Av H H') : Good K CL A ρ σ H':=
 ⟨fun i d e => let ⟨v, q, r⟩ := g.sh i d e;⟨v, q, r.same s⟩, fun i d e => let ⟨a, xs, ds, q, z, na, h, r⟩ := g.ow i d e;⟨a, xs, ds, q, z, na, s _ _ h, r.same s⟩, g.len⟩
noncomputable abbrev XW := Ex -> Hp -> Prop
variable{W:XW}
noncomputable def AX(Rp : Hp -> V -> D -> Prop)(W : XW)(H : Hp)(r : R D)(Q : VK) : Prop := match r with
  |.ok d => ∀ v H', Av H H' -> Rp H' v d -> Q v H'
  |.exn x => ∀ H', Av H H' -> W x H'
  |.bad => AH
noncomputable def Fq(Rp : Hp -> Ac V -> Ac D -> Prop)(W : XW)(H : Hp)(r : R (Ac D))(Q : Ac V -> Hp -> Prop) : Prop := match r with
  |.ok d => ∀ v H', Av H H' -> Rp H' v d -> Q v H'
  |.exn x => ∀ H', Av H H' -> W x H'
  |.bad => AH
noncomputable def Cc(W : XW)(H : Hp)(r : R An)(Q : An -> Hp -> Prop) : Prop := match r with
  |.ok b => ∀ H', Av H H' -> Q b H'
  |.exn x => ∀ H', Av H H' -> W x H'
  |.bad => AH
theorem AX.same(s : Av H H')(h : AX Rp W H r Q) : AX Rp W H' r Q := by
 cases r with
 |ok d => exact fun v H2 s2 q => h v H2 (s.trans s2) q
 |exn x => exact fun H2 s2 => h H2 (s.trans s2)
 |bad => exact h
theorem Cc.same{r:R An}{Q:An -> Hp -> Prop}(s : Av H H')(h : Cc W H r Q) : Cc W H' r Q := by
 cases r with
 |ok d => exact fun H2 s2 => h H2 (s.trans s2)
 |exn x => exact fun H2 s2 => h H2 (s.trans s2)
 |bad => exact h
theorem AX.bind{f:D -> R D}{Q':VK}(h : AX Rq W H (r.bind f) Q)(k : ∀ d v H', r = .ok d -> Av H H' -> Rp H' v d -> AX Rq W H' (f d) Q -> Q' v H') : AX Rp W H r Q' := by
 cases r with
 |ok d => exact fun v H2 s2 q => k d v H2 rfl s2 q (AX.same s2 h)
 |exn x => exact h
 |bad => exact h
section
variable(X : Cx)(CL : ClA)(W : XW)
noncomputable def SE(e : Ao)(f : Rho -> R D) : Prop := ∀ A, PE X e (fun σ H Q => AOk H A /\ ∃ ρ, Good X.K CL A ρ σ H /\ AX (fun H => Rep X.K CL H A) W H (f ρ) Q)
noncomputable def ST(e : Ao)(f : Rho -> R D) : Prop := ∀ A, PE X e (fun σ H Q => AOk H A /\ ∃ ρ, Good X.K CL A ρ σ H /\ AX (fun H => BZ X.K CL H A) W H (f ρ) Q)
noncomputable def SB(e : Ao)(f : Rho -> R An) : Prop := ∀ A, PT X e (fun σ H Q => AOk H A /\ ∃ ρ, Good X.K CL A ρ σ H /\ Cc W H (f ρ) Q)
noncomputable def SA(es : Ac Ao)(f : Rho -> R (Ac D)) : Prop := ∀ A, PA X es (fun σ H Q => AOk H A /\ ∃ ρ, Good X.K CL A ρ σ H /\ Fq (fun H => Reps X.K CL H A) W H (f ρ) Q)
end
theorem PE.weak{t t':TE}(h : PE X e t)(k : ∀ σ H Q, t' σ H Q -> t σ H Q) : PE X e t' := fun pI s σ H Q I q => h pI s σ H Q I (k _ _ _ q)
theorem PT.weak{t:TT}(h : PT X e t)(k : ∀ σ H Q, t' σ H Q -> t σ H Q) : PT X e t' := fun pI s σ H Q I q => h pI s σ H Q I (k _ _ _ q)
theorem PA.weak{e:Ac Ao}{t t':TA}(h : PA X e t)(k : ∀ σ H Q, t' σ H Q -> t σ H Q) : PA X e t' := fun pos pI s σ H Q I q => h pos pI s σ H Q I (k _ _ _ q)
noncomputable def OpD(X : Cx)(CL : ClA)(W : XW)(f : Ah -> Ah -> Sem Ah)(g : D -> D -> R D) : Prop:=
 ∀ A, OpR X f (fun x y H Q => AOk H A /\ ∃ dx dy, BZ X.K CL H A x dx /\ BZ X.K CL H A y dy /\ AX (fun H => Rep X.K CL H A) W H (g dx dy) Q)
section
variable{X : Cx}{CL : ClA}{W : XW}{a b c : Ao}{fa fb fc : Rho -> R D}{pos : AJ}
theorem SE.st(h : SE X CL W a fa) : ST X CL W a fa := fun A => PE.weak (h A) fun σ H Q ⟨hA, ρ, g, p⟩ => ⟨hA, ρ, g, by
 cases e : fa ρ with
 |ok d => rw[e]at p;exact fun v H' s r => p v H' s (.inl r)
 |exn x => rw[e]at p;exact p
 | bad => rw[e]at p;exact p⟩
theorem SE.congr{f g:Rho -> R D}(h : SE X CL W a f)(e : ∀ ρ, g ρ = f ρ) : SE X CL W a g := fun A => PE.weak (h A) fun σ H Q ⟨hA, ρ, q, p⟩ => ⟨hA, ρ, q, by rw[<-e];exact p⟩
theorem Jt(h : PE X a (tC v))(r : ∀ H A, AOk H A -> Rep X.K CL H A v d) : SE X CL W a (fun _ => .ok d) := fun A => PE.weak h fun σ H Q ⟨hA, ρ, g, p⟩ => p v H (Av.refl H) (r H A hA)
theorem UN{i j} : SE X CL W (.Constant (.int i) j pos) (fun _ => .ok (.int i)) := Jt VG fun _ _ _ => rfl
theorem Of{b j} : SE X CL W (.Constant (.bool b) j pos) (fun _ => .ok (.bl b)) := Jt WU fun _ _ _ => rfl
theorem UI{j} : SE X CL W (.Constant .none j pos) (fun _ => .ok .non) := Jt VE fun _ _ _ => rfl
theorem Nw{x j} : SE X CL W (.Constant (.str x) j pos) (fun _ => .ok (.str x)) := Jt NV fun _ _ _ => rfl
theorem SX(h : DW ρ i = .ok d) : ρ[i]? = Aa (Aa (d, Ad)) := by
 unfold DW at h;split at h
 ·rename_i e;cases h;exact e
 ·cases h
theorem MM(h : DJ ρ i = .ok d) : ∃ o, ρ[i]? = Aa (Aa (d, o)) := by
 unfold DJ at h;split at h
 ·rename_i e;cases h;exact⟨_, e⟩
 ·cases h
theorem RZ(h : DW ρ i = .exn x) : AH := by
 unfold DW at h;split at h <;> cases h
theorem MK(h : DJ ρ i = .exn x) : AH := by
 unfold DJ at h;split at h <;> cases h
theorem Nv(h : PE X a (EK i)) : SE X CL W a (fun ρ => DW ρ i) := fun A => PE.weak h fun σ H Q ⟨hA, ρ, g, p⟩ => by
 dsimp only at p;cases e : DW ρ i with
 |ok d=>
  rw[e]at p;obtain⟨v, q, r⟩ := g.sh i d (SX e);exact⟨v, q, p v H (Av.refl H) r⟩
 |exn x => exact(RZ e).elim
 |bad => rw[e]at p;exact p.elim
theorem Hl(h : PE X a (EK i)) : ST X CL W a (fun ρ => DJ ρ i) := fun A => PE.weak h fun σ H Q ⟨hA, ρ, g, p⟩ => by
 dsimp only at p;cases e : DJ ρ i with
 |ok d=>
  rw[e]at p;obtain⟨o, e⟩ := MM e;cases o with
  |false=>
   obtain⟨v, q, r⟩ := g.sh i d e;exact⟨v, q, p v H (Av.refl H) (.inl r)⟩
  |true=>
   obtain⟨x, xs, ds, q, rfl, ha, hh, r⟩ := g.ow i d e;exact⟨_, q, p _ H (Av.refl H) (.inr ⟨x, xs, ds, rfl, rfl, hh, r⟩)⟩
 |exn x => exact(MK e).elim
 |bad => rw[e]at p;exact p.elim
theorem op2(h : AOk H A /\ ∃ ρ, Good X.K CL A ρ σ H /\ AX Rq W H ((fa ρ).bind fun x => (fb ρ).bind fun y => g x y) Q):AOk H A/\∃ ρ,Good X.K CL A ρ σ H/\AX (fun H =>BZ X.K CL H A) W H (fa ρ) (fun x H1 =>AOk H1 A/\∃ ρ,Good X.K CL A ρ σ H1/\AX (fun H =>BZ X.K CL H A) W H1 (fb ρ) (fun y H2=>AOk H2 A/\∃ dx dy,BZ X.K CL H2 A x dx/\BZ X.K CL H2 A y dy/\AX Rq W H2 (g dx dy) Q)) := by
 obtain⟨hA, ρ, gd, p⟩ := h;refine⟨hA, ρ, gd, AX.bind p fun dx x H1 _ s1 r1 p1 => ⟨hA.same s1, ρ, gd.same s1, AX.bind p1 fun dy y H2 _ s2 r2 p2 => ⟨(hA.same s1).same s2, dx, dy, r1.same s2, r2, p2⟩⟩⟩
theorem NO{op:Fk}(ho : OpD X CL W (Bp op) g)(ha : ST X CL W a fa)(hb : ST X CL W b fb) : SE X CL W (.BinOp a op b pos) (fun ρ => (fa ρ).bind fun x => (fb ρ).bind fun y => g x y):=
 fun A => PE.weak (OA (ho A) (ha A) (hb A)) fun σ H Q h => op2 h
theorem UP(ho : OpD X CL W (BN op) g)(ha : ST X CL W a fa)(hb : ST X CL W b fb)(hm : EZ op b = Ad) : SE X CL W (.Compare a [op] [b] pos) (fun ρ => (fa ρ).bind fun x => (fb ρ).bind fun y => g x y):=
 fun A => PE.weak (Tf (ho A) (ha A) (hb A) hm) fun σ H Q h => op2 h
theorem BZ.int_of{i:Ag}(h : BZ K CL H A v (.int i)) : v = .int i := by
 rcases h with h|⟨_, _, _, _, e, _⟩
 ·exact h
 ·cases e
theorem BZ.str_of{i:Aj}(h : BZ K CL H A v (.str i)) : v = .str i := by
 rcases h with h|⟨_, _, _, _, e, _⟩
 ·exact h
 ·cases e
theorem BZ.bl_of{i:An}(h : BZ K CL H A v (.bl i)) : v = .bl i := by
 rcases h with h|⟨_, _, _, _, e, _⟩
 ·exact h
 ·cases e
theorem BZ.non_of(h : BZ K CL H A v .non) : v = .non := by
 rcases h with h|⟨_, _, _, _, e, _⟩
 ·exact h
 ·cases e
theorem BZ.lst_of{ds : Ac D}(h : BZ K CL H A v (.lst ds)) : ∃ a xs, v = .ref a /\ SqL K H a xs /\ Reps K CL H A xs ds := by
 rcases h with ⟨a, xs, e, _, s, r⟩|⟨a, xs, es, rfl, e, s, r⟩
 ·exact⟨a, xs, e, s, r⟩
 ·cases e;exact⟨a, xs, rfl, SqL.of s, r⟩
theorem BZ.tup_of{ds : Ac D}(h : BZ K CL H A v (.tup ds)) : ∃ a xs, v = .ref a /\ (¬ A a \/ KT K a xs) /\ SqT K H a xs /\ Reps K CL H A xs ds := by
 rcases h with ⟨a, xs, e, n, s, r⟩|⟨_, _, _, _, e, _⟩
 ·exact⟨a, xs, e, n, s, r⟩
 ·cases e
theorem Tu{i j:Ag}(h : DT i j = Ab) : Jw i j := by
 unfold DT at h;simp only[BR, Ak, AK]at h;unfold Jw;omega
theorem M6{a : Ag}(h : a.natAbs<2 ^ 2000) : P0 a <= 2 ^ 20 := by
 unfold P0;split
 ·omega
 ·rename_i hz;have h0 : a.natAbs ≠ 0 := by intro z;exact hz (by rw[Int.natAbs_eq_zero.mp z];rfl)
  have := (Nat.log2_lt h0).mpr h;omega
theorem Tt{i j:Ag}(h : (DT i j||F3 i j) = Ab) : HJ i j := by
 rcases Bool.or_eq_true_iff.mp h with h|h
 ·exact(Tu h).ok
 ·unfold F3 at h;rw[Ak, AK, AK]at h;exact .of_bits (M6 h.1) (M6 h.2)
theorem To : OpR X (Bp .Mult) (rI HJ fun i j => .int (i*j)) := opI fun _ _ _ _ _ _ _ hc q => mul_int q hc
theorem G9(h : C5 n = Ab) : n <= sizeLine := by
 unfold C5 at h;rw[Ct];have := Ed h;omega
theorem Ni{ds : Ac D}(hA : AOk H A)(hp : H p = Af)(r : Reps K CL H A xs ds) : Rep K CL (upd H p (.lst xs)) A (.ref p) (.lst ds):=
 ⟨p, xs, rfl, .inl (hA.new hp), SqL.of DH, r.same fun b o e => by rw[A8 (DQ e hp)];exact e⟩
theorem IZ{ds : Ac D}(hA : AOk H A)(hp : H p = Af)(r : Reps K CL H A xs ds) : Rep K CL (upd H p (.tup xs)) A (.ref p) (.tup ds):=
 ⟨p, xs, rfl, .inl (hA.new hp), SqT.of DH, r.same fun b o e => by rw[A8 (DQ e hp)];exact e⟩
theorem EI(h : H p = Af)(o : HO) : Av H (upd H p o) := fun b u q => by rw[A8 (DQ q h)];exact q
noncomputable def WP(K : Fg) : R2 := fun x y H Q => ∃ l b xs zs, x = .ref l /\ y = .ref b /\ SqL K H l xs /\ SqL K H b zs /\ xs.length+zs.length <= sizeLine /\ ∀ p, H p = Af -> Q (.ref p) (upd H p (.lst (xs++zs)))
end
section
variable{X : Cx}{CL : ClA}{W : XW}
theorem Ng : OpR X (Bp .Add) (WP X.K) := by
 intro pI s σ H x y v u Q I rx ry h;obtain⟨l, b, xs, zs, rfl, rfl, hH, hB, hz, q⟩ := h;cases rx;cases ry;obtain⟨its, r, ⟨o, n, e, c, dd, dt⟩, z⟩ := I.list hH;obtain⟨its2, r2, ⟨o2, n2, e2, c2, dd2, dt2⟩, z2⟩ := I.list hB;have hl := r.length;have hl2 := r2.length;obtain⟨cls, dd0, data, sl⟩ := o;obtain⟨cls2, dd02, data2, sl2⟩ := o2;simp only at c dd dt c2 dd2 dt2;subst c dd dt c2 dd2 dt2;have ea : its.toArray++its2.toArray = (its++its2).toArray := by simp
 refine Go ⟨_, e, rfl⟩ ⟨_, e2, rfl⟩ noFill_list_add seq_list_add PySem.F.slot_list_add PySem.F.entry_list_add (PySem.F.args_list_add_2 _ _) (list_addW l b its.toArray its2.toArray n n2 Af Af sl sl2 (by simp;omega)) ⟨e, e2, ?_⟩
 rw[ea];exact⟨.ref _, _, I.lnew (t' := s.toks) (r.append r2) (by rw[Cu];omega), rfl, q _ I.fresh⟩
theorem Nf : OpD X CL W (Bp .Add) (Cw .Add) := by
 intro A pI s σ H x y v u Q I rx ry ⟨hA, dx, dy, hx, hy, p⟩;cases dx with
 |int i=>
  cases dy with
  |int j=>
   have ex := hx.int_of;have ey := hy.int_of
   subst ex ey;exact VN pI s σ H _ _ v u Q I rx ry ⟨i, j, rfl, rfl, p _ H (Av.refl H) rfl⟩
  |_ => exact p.elim
 |str i=>
  cases dy with
  |str j=>
   have ex := hx.str_of;have ey := hy.str_of
   subst ex ey;simp only[V0]at p;split at p
   ·rename_i h;exact Q7 pI s σ H _ _ v u Q I rx ry ⟨i, j, rfl, rfl, G9 h, p _ H (Av.refl H) rfl⟩
   ·exact p.elim
  |_ => exact p.elim
 |lst ds=>
  cases dy with
  |lst es=>
   obtain⟨a, xs, rfl, s1, r1⟩ := hx.lst_of;obtain⟨b, ys, rfl, s2, r2⟩ := hy.lst_of;simp only[NI]at p;split at p
   ·rename_i h;refine Ng pI s σ H _ _ v u Q I rx ry ⟨a, b, xs, ys, rfl, rfl, s1, s2, by rw[r1.length, r2.length];exact G9 h, fun q hq => ?_⟩
    exact p _ _ (EI hq _) (Ni hA hq (r1.append r2))
   ·exact p.elim
  |_ => exact p.elim
 |tup ds=>
  cases dy with
  |tup es=>
   obtain⟨a, xs, rfl, na1, s1, r1⟩ := hx.tup_of;obtain⟨b, ys, rfl, _, s2, r2⟩ := hy.tup_of;simp only[VZ]at p;split at p
   ·rename_i h;simp only[Ak]at h;refine Tq pI s σ H _ _ v u Q I rx ry ⟨a, b, xs, ys, rfl, rfl, s1, s2, ?_, by rw[r1.length, r2.length];exact G9 h.2, fun hy0 => ?_, fun _ q hq => ?_⟩
    ·rintro rfl;cases ds with
     |nil => cases h.1
     |cons _ _ => exact r1.elim
    ·subst hy0;cases es with
     |nil => rw[BD]at p;exact p _ H (Av.refl H) ⟨a, xs, rfl, na1, s1, r1⟩
     |cons _ _ => exact r2.elim
    ·exact p _ _ (EI hq _) (IZ hA hq (r1.append r2))
   ·exact p.elim
  |_ => exact p.elim
 |_ => exact p.elim
theorem IX{op:Fk}{C:Ag -> Ag -> Prop}{g:Ag -> Ag -> Ag}(ho : OpR X (Bp op) (rI C fun i j => .int (g i j)))(hg : ∀ dx dy, (∃ i j, dx = .int i /\ dy = .int j /\ ((C i j /\ Cw op dx dy = .ok (.int (g i j))) \/ Cw op dx dy = .bad)) \/ Cw op dx dy = .bad) : OpD X CL W (Bp op) (Cw op) := by
 intro A pI s σ H x y v u Q I rx ry ⟨hA, dx, dy, hx, hy, p⟩;rcases hg dx dy with ⟨i, j, rfl, rfl, ⟨c, e⟩|e⟩|e
 ·have ex := hx.int_of;have ey := hy.int_of
  subst ex ey;rw[e]at p;exact ho pI s σ H _ _ v u Q I rx ry ⟨i, j, rfl, rfl, c, p _ H (Av.refl H) rfl⟩
 ·rw[e]at p;exact p.elim
 ·rw[e]at p;exact p.elim
theorem Ti : OpD X CL W (Bp .Sub) (Cw .Sub) := by
 intro A pI s σ H x y v u Q I rx ry ⟨hA, dx, dy, hx, hy, p⟩;cases dx with
 |int i=>
  cases dy with
  |int j=>
   have ex := hx.int_of;have ey := hy.int_of
   subst ex ey;exact VI pI s σ H _ _ v u Q I rx ry ⟨i, j, rfl, rfl, p _ H (Av.refl H) rfl⟩
  |_ => exact p.elim
 |_ => exact p.elim
theorem Tk : OpD X CL W (Bp .Mult) (Cw .Mult) := IX To fun dx dy => by
 cases dx with
 |int i=>
  cases dy with
  |int j=>
   refine .inl ⟨i, j, rfl, rfl, ?_⟩;rw[VT];split
   ·rename_i h;exact .inl ⟨Tt h, rfl⟩
   ·exact .inr rfl
  |_ => exact .inr rfl
 |_ => exact .inr rfl
theorem Sv : OpD X CL W (Bp .FloorDiv) (Cw .FloorDiv) := IX Tp fun dx dy => by
 cases dx with
 |int i=>
  cases dy with
  |int j=>
   refine .inl ⟨i, j, rfl, rfl, ?_⟩;rw[Uk];split
   ·rename_i h;exact .inl ⟨h, rfl⟩
   ·exact .inr rfl
  |_ => exact .inr rfl
 |_ => exact .inr rfl
theorem Tl : OpD X CL W (Bp .Mod) (Cw .Mod) := IX VL fun dx dy => by
 cases dx with
 |int i=>
  cases dy with
  |int j=>
   refine .inl ⟨i, j, rfl, rfl, ?_⟩;rw[VU];split
   ·rename_i h;exact .inl ⟨h, rfl⟩
   ·exact .inr rfl
  |_ => exact .inr rfl
 |_ => exact .inr rfl
theorem Tj : OpD X CL W (Bp .Pow) (Cw .Pow) := IX VJ fun dx dy => by
 cases dx with
 |int i=>
  cases dy with
  |int j=>
   refine .inl ⟨i, j, rfl, rfl, ?_⟩;rw[UF];split
   ·rename_i h;exact .inl ⟨⟨h.1.1, h.1.2, by omega⟩, rfl⟩
   ·exact .inr rfl
  |_ => exact .inr rfl
 |_ => exact .inr rfl
theorem Nd(op : Fk) : OpD X CL W (Bp op) (Cw op) := by
 cases op with
 |Add => exact Nf
 |Sub => exact Ti
 |Mult => exact Tk
 |FloorDiv => exact Sv
 |Mod => exact Tl
 |Pow => exact Tj
 |_=>
  intro A pI s σ H x y v u Q I rx ry ⟨hA, dx, dy, hx, hy, p⟩;cases dx <;> cases dy <;> exact p.elim
noncomputable abbrev A0 : Ai -> Prop := fun _ => AH
theorem BZ.plain(h : BZ K CL H A v d) : Rep K CL H A0 v d := by
 rcases h with h|⟨a, xs, ds, rfl, rfl, e, r⟩
 ·exact Rep.sub (fun _ z => z.elim) d h
 ·exact⟨a, xs, rfl, .inl fun z => z.elim, SqL.of e, Reps.sub (fun _ z => z.elim) ds r⟩
mutual
theorem RV : ∀(n : Ae)(d : D), flD n d = Ab -> eqD d d = Ab
 |_, .non, _ => rfl
 |_, .bl b, _ => by simp
 |_, .int i, _ => by simp
 |_, .str x, _ => by simp
 |n+1, .tup ds, h => by
  show eqDs ds ds = Ab;exact eqDs_refl n ds h
 |n+1, .lst ds, h => by
  show eqDs ds ds = Ab;exact eqDs_refl n ds h
 |0, .tup ds, h => by cases h
 |0, .lst ds, h => by cases h
 |n, .obj _ _, h => by cases n <;> cases h
 |n, .exc _ _, h => by cases n <;> cases h
 |n, .dic _, h => by cases n <;> cases h
theorem eqDs_refl : ∀(n : Ae)(ds : Ac D), ds.all (flD n) = Ab -> eqDs ds ds = Ab
 |_, [], _ => rfl
 |n, d::ds, h => by
  simp only[D3, Ak]at h;simp only[J6, Ak];exact⟨RV n d h.1, eqDs_refl n ds h.2⟩
end
theorem LM{ys:Ac V}(I : Inv X pI σ H s)(h : SqL X.K H a xs)(h' : SqT X.K H a ys) : AH := by
 obtain⟨its, r, ⟨o, n, e, c, _, _⟩, _⟩ := I.list h;obtain⟨its', r', ⟨o', e', c', _⟩, _⟩ := I.tuple h';rw[e]at e';cases e';rw[c]at c'
 injection c' with z
 exact absurd z (by decide)
mutual
theorem IU{pI : Ac (Ai × AC)}{σ : L2.St}{H : Hp}{s : Al}(I : Inv X pI σ H s) : ∀(n : Ae)(d e : D){v : V}, flD n d = Ab -> flD n e = Ab -> Rep X.K CL H A0 v d -> Rep X.K CL H A0 v e -> d = e
 |n, .tup ds, e, v, hd, he, r, q => by
  obtain⟨a, xs, rfl, _, s1, r1⟩ := r;cases e with
  |tup es=>
   obtain⟨b, ys, e, _, s2, r2⟩ := q;cases e;have z := I.tuple_inj s1 s2;subst z;cases n with
   |zero => cases hd
   |succ n => rw[reps_inj I n ds es hd he r1 r2]
  |lst es=>
   obtain⟨b, ys, e, _, s2, r2⟩ := q;cases e;exact(LM I s2 s1).elim
  |obj => cases n <;> cases he
  |exc => cases n <;> cases he
  |dic => cases n <;> cases he
  |_ => cases q
 |n, .lst ds, e, v, hd, he, r, q => by
  obtain⟨a, xs, rfl, _, s1, r1⟩ := r;cases e with
  |lst es=>
   obtain⟨b, ys, e, _, s2, r2⟩ := q;cases e;have z := I.list_inj s1 s2;subst z;cases n with
   |zero => cases hd
   |succ n => rw[reps_inj I n ds es hd he r1 r2]
  |tup es=>
   obtain⟨b, ys, e, _, s2, r2⟩ := q;cases e;exact(LM I s1 s2).elim
  |obj => cases n <;> cases he
  |exc => cases n <;> cases he
  |dic => cases n <;> cases he
  |_ => cases q
 |n, .obj _ _, e, v, hd, he, r, q => by cases n <;> cases hd
 |n, .exc _ _, e, v, hd, he, r, q => by cases n <;> cases hd
 |n, .dic _, e, v, hd, he, r, q => by cases n <;> cases hd
 |n, .non, e, v, hd, he, r, q => by
  cases r;cases e with
  |tup => obtain⟨_, _, z, _⟩ := q;cases z
  |lst => obtain⟨_, _, z, _⟩ := q;cases z
  |obj => cases n <;> cases he
  |exc => cases n <;> cases he
  |dic => cases n <;> cases he
  |_ => cases q <;> rfl
 |n, .bl b, e, v, hd, he, r, q => by
  cases r;cases e with
  |tup => obtain⟨_, _, z, _⟩ := q;cases z
  |lst => obtain⟨_, _, z, _⟩ := q;cases z
  |obj => cases n <;> cases he
  |exc => cases n <;> cases he
  |dic => cases n <;> cases he
  |_ => cases q <;> rfl
 |n, .int b, e, v, hd, he, r, q => by
  cases r;cases e with
  |tup => obtain⟨_, _, z, _⟩ := q;cases z
  |lst => obtain⟨_, _, z, _⟩ := q;cases z
  |obj => cases n <;> cases he
  |exc => cases n <;> cases he
  |dic => cases n <;> cases he
  |_ => cases q <;> rfl
 |n, .str b, e, v, hd, he, r, q => by
  cases r;cases e with
  |tup => obtain⟨_, _, z, _⟩ := q;cases z
  |lst => obtain⟨_, _, z, _⟩ := q;cases z
  |obj => cases n <;> cases he
  |exc => cases n <;> cases he
  |dic => cases n <;> cases he
  |_ => cases q <;> rfl
theorem reps_inj{pI : Ac (Ai × AC)}{σ : L2.St}{H : Hp}{s : Al}(I : Inv X pI σ H s) : ∀(n : Ae)(ds es : Ac D){xs : Ac V}, ds.all (flD n) = Ab -> es.all (flD n) = Ab -> Reps X.K CL H A0 xs ds -> Reps X.K CL H A0 xs es -> ds = es
 |_, [], [], _, _, _, _, _ => rfl
 |n, d::ds, e::es, x::xs, hd, he, r, q => by
  simp only[D3, Ak]at hd he;rw[IU I n d e hd.1 he.1 r.1 q.1, reps_inj I n ds es hd.2 he.2 r.2 q.2]
 |_, [], _::_, [], _, _, _, q => q.elim
 |_, [], _::_, _::_, _, _, r, _ => r.elim
 |_, _::_, [], [], _, _, r, _ => r.elim
 |_, _::_, [], _::_, _, _, _, q => q.elim
 |_, _::_, _::_, [], _, _, r, _ => r.elim
end
theorem HQ : ∀{ds es : Ac D}, ds.length ≠ es.length -> eqDs ds es = Ad
 |[], [], h => absurd rfl h
 |[], _::_, _ => rfl
 |_::_, [], _ => rfl
 |d::ds, e::es, h => by
  simp only[J6, HQ (ds := ds) (es := es) (by simpa using h), FM]
theorem LK(n : Ae)(f : Ae -> An) : (Ca (n+1)).all f = (f 0&&(Ca n).all fun j => f (j+1)) := by
 rw[List.range_succ_eq_map, D3, Pj];rfl
theorem HR : ∀{ds es : Ac D}, ds.length = es.length -> eqDs ds es = (Ca ds.length).all fun j => eqD (ds.getD j .non) (es.getD j .non)
 |[], [], _ => rfl
 |d::ds, e::es, h => by
  rw[J6, HR (ds := ds) (es := es) (by simpa using h), BW, LK]
  rfl
 |[], _::_, h => by cases h
 |_::_, [], h => by cases h
theorem GQ{ds : Ac D}(r : Reps K CL H A0 xs ds)(rv : AW xs its)(h : j<its.length):∃ x,Rep K CL H A0 x (ds.getD j .non)/\A7 x its[j] := by
 have e1 := rv.length;have e2 := r.length;have hd : ds[j]? = Aa (ds.getD j .non) := by
  rw[CA, BV (by omega)];rfl
 obtain⟨x, hx, q⟩ := r.get hd;obtain⟨u, hu, ru⟩ := rv.get hx;refine⟨x, q, ?_⟩;rw[BV h]at hu;cases hu;exact ru
theorem GN{ds : Ac D}(h : ds.all (flD n) = Ab)(j : Ae) : flD n (ds.getD j .non) = Ab := by
 rw[CA];cases e : ds[j]? with
 |none => cases n <;> rfl
 |some d => exact List.all_eq_true.mp h d (Py e)
noncomputable def BQ(B : AN)(s : Al)(u t : Ah)(k : An) : Prop := G1 B s u t k /\ Ep B s u t k /\ Gk B s u t (!k)
section
variable{B : AN}{s : Al}
open SeqAt
theorem Xd : BQ B s .none .none Ab := ⟨RcAt.none_none, EqAt.same _, RcNeAt.none_none⟩
theorem Xz(a b : An) : BQ B s (.bool a) (.bool b) (a==b) := ⟨RcAt.bool_bool _ _, EqAt.bool_bool _ _, RcNeAt.bool_bool _ _⟩
theorem Xg(b : An) : BQ B s .none (.bool b) Ad := ⟨RcAt.none_bool _, EqAt.none_bool _, RcNeAt.none_bool _⟩
theorem Xv(b : An) : BQ B s (.bool b) .none Ad := ⟨RcAt.bool_none _, EqAt.bool_none _, RcNeAt.bool_none _⟩
theorem Xq(a : Ag)(t : B1)(b : Ag)(u : B1) : BQ B s (.int a t) (.int b u) (a==b) := ⟨RcAt.int_int _ _ _ _, EqAt.int_int _ _ _ _, RcNeAt.int_int _ _ _ _⟩
theorem Wo(a : Aj)(t : B1)(b : Aj)(u : B1) : BQ B s (.str a t) (.str b u) (a==b) := ⟨RcAt.str_str _ _ _ _, EqAt.str_str _ _ _ _, RcNeAt.str_str _ _ _ _⟩
theorem Xn(a : Ag)(t : B1)(b : Aj)(u : B1) : BQ B s (.int a t) (.str b u) Ad := ⟨RcAt.int_str _ _ _ _, EqAt.int_str _ _ _ _, RcNeAt.int_str _ _ _ _⟩
theorem W9(a : Aj)(t : B1)(b : Ag)(u : B1) : BQ B s (.str a t) (.int b u) Ad := ⟨RcAt.str_int _ _ _ _, EqAt.str_int _ _ _ _, RcNeAt.str_int _ _ _ _⟩
theorem Xf(b : Ag)(u : B1) : BQ B s .none (.int b u) Ad := ⟨RcAt.none_int _ _, EqAt.none_int _ _, RcNeAt.none_int _ _⟩
theorem Xo(b : Ag)(u : B1) : BQ B s (.int b u) .none Ad := ⟨RcAt.int_none _ _, EqAt.int_none _ _, RcNeAt.int_none _ _⟩
theorem Xc(b : Aj)(u : B1) : BQ B s .none (.str b u) Ad := ⟨RcAt.none_str _ _, EqAt.none_str _ _, RcNeAt.none_str _ _⟩
theorem Wp(b : Aj)(u : B1) : BQ B s (.str b u) .none Ad := ⟨RcAt.str_none _ _, EqAt.str_none _ _, RcNeAt.str_none _ _⟩
theorem Xy(a : An)(b : Ag)(u : B1) : BQ B s (.bool a) (.int b u) (b2i a==b) := ⟨RcAt.bool_int _ _ _, EqAt.bool_int _ _ _, RcNeAt.bool_int _ _ _⟩
theorem Xr(a : An)(b : Ag)(u : B1) : BQ B s (.int b u) (.bool a) (b==b2i a) := ⟨RcAt.int_bool _ _ _, EqAt.int_bool _ _ _, RcNeAt.int_bool _ _ _⟩
theorem Xu(a : An)(b : Aj)(u : B1) : BQ B s (.bool a) (.str b u) Ad := ⟨RcAt.bool_str _ _ _, EqAt.bool_str _ _ _, RcNeAt.bool_str _ _ _⟩
theorem Xa(a : An)(b : Aj)(u : B1) : BQ B s (.str b u) (.bool a) Ad := ⟨RcAt.str_bool _ _ _, EqAt.str_bool _ _ _, RcNeAt.str_bool _ _ _⟩
variable{l : Ai}{items : A5 Ah}
theorem Xj(h : s.heap.IsList l items)(hu : B.units<Bo) : BQ B s (.ref l) .none Ad := ⟨RcAt.list_none h hu, EqAt.list_none h hu, RcNeAt.list_none h hu⟩
theorem Xe(h : s.heap.IsList l items)(hu : B.units<Bo) : BQ B s .none (.ref l) Ad := ⟨RcAt.none_list h hu, EqAt.none_list h hu, RcNeAt.none_list h hu⟩
theorem Xl(b : An)(h : s.heap.IsList l items)(hu : B.units<Bo) : BQ B s (.ref l) (.bool b) Ad := ⟨RcAt.list_bool b h hu, EqAt.list_bool b h hu, RcNeAt.list_bool b h hu⟩
theorem Xx(b : An)(h : s.heap.IsList l items)(hu : B.units<Bo) : BQ B s (.bool b) (.ref l) Ad := ⟨RcAt.bool_list b h hu, EqAt.bool_list b h hu, RcNeAt.bool_list b h hu⟩
theorem Xk(b : Ag)(u : B1)(h : s.heap.IsList l items)(hu : B.units<Bo) : BQ B s (.ref l) (.int b u) Ad := ⟨RcAt.list_int b u h hu, EqAt.list_int b u h hu, RcNeAt.list_int b u h hu⟩
theorem Xp(b : Ag)(u : B1)(h : s.heap.IsList l items)(hu : B.units<Bo) : BQ B s (.int b u) (.ref l) Ad := ⟨RcAt.int_list b u h hu, EqAt.int_list b u h hu, RcNeAt.int_list b u h hu⟩
theorem Xi(b : Aj)(u : B1)(h : s.heap.IsList l items)(hu : B.units<Bo) : BQ B s (.ref l) (.str b u) Ad := ⟨RcAt.list_str b u h hu, EqAt.list_str b u h hu, RcNeAt.list_str b u h hu⟩
theorem Wq(b : Aj)(u : B1)(h : s.heap.IsList l items)(hu : B.units<Bo) : BQ B s (.str b u) (.ref l) Ad := ⟨RcAt.str_list b u h hu, EqAt.str_list b u h hu, RcNeAt.str_list b u h hu⟩
theorem Wj(h : s.heap.IsTuple l items)(hu : B.units<Bo) : BQ B s (.ref l) .none Ad := ⟨RcAt.tuple_none h hu, EqAt.tuple_none h hu, RcNeAt.tuple_none h hu⟩
theorem Xb(h : s.heap.IsTuple l items)(hu : B.units<Bo) : BQ B s .none (.ref l) Ad := ⟨RcAt.none_tuple h hu, EqAt.none_tuple h hu, RcNeAt.none_tuple h hu⟩
theorem Wm(b : An)(h : s.heap.IsTuple l items)(hu : B.units<Bo) : BQ B s (.ref l) (.bool b) Ad := ⟨RcAt.tuple_bool b h hu, EqAt.tuple_bool b h hu, RcNeAt.tuple_bool b h hu⟩
theorem Xs(b : An)(h : s.heap.IsTuple l items)(hu : B.units<Bo) : BQ B s (.bool b) (.ref l) Ad := ⟨RcAt.bool_tuple b h hu, EqAt.bool_tuple b h hu, RcNeAt.bool_tuple b h hu⟩
theorem Wl(b : Ag)(u : B1)(h : s.heap.IsTuple l items)(hu : B.units<Bo) : BQ B s (.ref l) (.int b u) Ad := ⟨RcAt.tuple_int b u h hu, EqAt.tuple_int b u h hu, RcNeAt.tuple_int b u h hu⟩
theorem Xm(b : Ag)(u : B1)(h : s.heap.IsTuple l items)(hu : B.units<Bo) : BQ B s (.int b u) (.ref l) Ad := ⟨RcAt.int_tuple b u h hu, EqAt.int_tuple b u h hu, RcNeAt.int_tuple b u h hu⟩
theorem Wi(b : Aj)(u : B1)(h : s.heap.IsTuple l items)(hu : B.units<Bo) : BQ B s (.ref l) (.str b u) Ad := ⟨RcAt.tuple_str b u h hu, EqAt.tuple_str b u h hu, RcNeAt.tuple_str b u h hu⟩
theorem Wn(b : Aj)(u : B1)(h : s.heap.IsTuple l items)(hu : B.units<Bo) : BQ B s (.str b u) (.ref l) Ad := ⟨RcAt.str_tuple b u h hu, EqAt.str_tuple b u h hu, RcNeAt.str_tuple b u h hu⟩
theorem Xh(h : s.heap.IsList l items)(h2 : s.heap.IsTuple b items2)(hu : B.units<Bo) : BQ B s (.ref l) (.ref b) Ad := ⟨RcAt.list_tuple h h2 hu, EqAt.list_tuple h h2 hu, RcNeAt.list_tuple h h2 hu⟩
theorem Wk(h : s.heap.IsTuple l items)(h2 : s.heap.IsList b items2)(hu : B.units<Bo) : BQ B s (.ref l) (.ref b) Ad := ⟨RcAt.tuple_list h h2 hu, EqAt.tuple_list h h2 hu, RcNeAt.tuple_list h h2 hu⟩
end
end
section
variable{X : Cx}{CL : ClA}{W : XW}
theorem Hq{its:A5 Ah}(x : PlainL h a its) : h.IsList a its := let ⟨o, n, e, c, _, d⟩ := x;⟨o, e, c, n, d⟩
noncomputable def Yn(X : Cx)(CL : ClA)(H : Hp)(s : Al)(d : D)(u : Ah) : Prop := match d with
  |.non => u = .none
  |.bl b => u = .bool b
  |.int i => ∃ t, u = .int i t
  |.str x => ∃ t, u = .str x t
  |.tup ds => ∃ a xs its, u = .ref a /\ Reps X.K CL H A0 xs ds /\ AW xs its /\ s.heap.IsTuple a its.toArray
  |.lst ds => ∃ a xs its, u = .ref a /\ Reps X.K CL H A0 xs ds /\ AW xs its /\ s.heap.IsList a its.toArray
  |_ => AH
theorem MS(I : Inv X pI σ H s)(hd : flD n d = Ab)(r : Rep X.K CL H A0 v d)(q : A7 v u) : Yn X CL H s d u := by
 cases d with
 |non => cases r;exact q
 |bl b => cases r;exact q
 |int b => cases r;exact q
 |str b => cases r;exact q
 |tup ds=>
  obtain⟨a, xs, rfl, _, sq, r⟩ := r;obtain⟨its, rv, p, _⟩ := I.tuple sq;cases q;exact⟨a, xs, its, rfl, r, rv, p⟩
 |lst ds=>
  obtain⟨a, xs, rfl, _, sq, r⟩ := r;obtain⟨its, rv, p, _⟩ := I.list sq;cases q;exact⟨a, xs, its, rfl, r, rv, Hq p⟩
 |obj => cases n <;> cases hd
 |exc => cases n <;> cases hd
 |dic => cases n <;> cases hd
theorem TN{B:AN}{ds es : Ac D}(hl : s.heap.IsList l its.toArray)(hb : s.heap.IsList b its2.toArray)(e1 : its.length = ds.length)(e2 : its2.length = es.length)(hu : B.units<Bo)(hs : l = b -> eqDs ds es = Ab)(he : ∀ j (h1 : j<its.length) (h2 : j<its2.length), Ep B.in1 s its[j] its2[j] (eqD (ds.getD j .non) (es.getD j .non))) : BQ B s (.ref l) (.ref b) (eqDs ds es) := by
 have rc : G1 B s (.ref l) (.ref b) (eqDs ds es) := by
  by_cases hz : its.length = its2.length
  ·have q := SeqAt.RcAt.lists (e := fun j => eqD (ds.getD j .non) (es.getD j .non)) hl hb (by simpa using hz) hu (fun j h1 h2 => by simpa using he j (by simpa using h1) (by simpa using h2))
   rw[HR (by omega)]
   have e : its.toArray.size = ds.length := by simpa using e1
   rw[e]at q;exact q
  ·rw[HQ (by omega)]
   exact SeqAt.RcAt.lists_lengths hl hb (by simpa using hz) hu
 have ne : Gk B s (.ref l) (.ref b) (!eqDs ds es) := by
  by_cases hz : its.length = its2.length
  ·have q := SeqAt.RcNeAt.lists (e := fun j => eqD (ds.getD j .non) (es.getD j .non)) hl hb (by simpa using hz) hu (fun j h1 h2 => by simpa using he j (by simpa using h1) (by simpa using h2))
   rw[HR (by omega)]
   have e : its.toArray.size = ds.length := by simpa using e1
   rw[e]at q;exact q
  ·rw[HQ (by omega)]
   exact SeqAt.RcNeAt.lists_lengths hl hb (by simpa using hz) hu
 refine⟨rc, ?_, ne⟩;by_cases hlb : l = b
 ·rw[hs hlb, hlb];exact Qj _
 ·exact Qi hlb rc
theorem TM{B:AN}{ds es : Ac D}(hl : s.heap.IsTuple l its.toArray)(hb : s.heap.IsTuple b its2.toArray)(e1 : its.length = ds.length)(e2 : its2.length = es.length)(hu : B.units<Bo)(hs : l = b -> eqDs ds es = Ab)(he : ∀ j (h1 : j<its.length) (h2 : j<its2.length), Ep B.in1 s its[j] its2[j] (eqD (ds.getD j .non) (es.getD j .non))) : BQ B s (.ref l) (.ref b) (eqDs ds es) := by
 have rc : G1 B s (.ref l) (.ref b) (eqDs ds es) := by
  have q := SeqAt.RcAt.tuples (e := fun j => eqD (ds.getD j .non) (es.getD j .non)) hl hb hu (fun j h1 h2 => by simpa using he j (by simpa using h1) (by simpa using h2))
  have e : its.toArray.size = ds.length := by simpa using e1
  have e' : its2.toArray.size = es.length := by simpa using e2
  rw[e, e']at q;by_cases hz : ds.length = es.length
  ·rw[HR hz];rw[hz, PJ, Fv, Pc]at q;rw[hz];exact q
  ·rw[HQ hz];rw[Ds.mpr hz, FM]at q;exact q
 have ne : Gk B s (.ref l) (.ref b) (!eqDs ds es) := by
  have q := SeqAt.RcNeAt.tuples (e := fun j => eqD (ds.getD j .non) (es.getD j .non)) hl hb hu (fun j h1 h2 => by simpa using he j (by simpa using h1) (by simpa using h2))
  have e : its.toArray.size = ds.length := by simpa using e1
  have e' : its2.toArray.size = es.length := by simpa using e2
  rw[e, e']at q;by_cases hz : ds.length = es.length
  ·rw[HR hz];rw[hz, PJ, Fv, Pc]at q;rw[hz];exact q
  ·rw[HQ hz];rw[Ds.mpr hz, FM]at q;exact q
 refine⟨rc, ?_, ne⟩;by_cases hlb : l = b
 ·rw[hs hlb, hlb];exact Qj _
 ·exact Qi hlb rc
theorem Im{pI : Ac (Ai × AC)}{σ : L2.St}{H : Hp}{s : Al}(I : Inv X pI σ H s) :∀(n :Ae)(d e :D)(v w' :V)(u t :Ah)(B :AN),flD n d = Ab->flD n e = Ab->Rep X.K CL H A0 v d->Rep X.K CL H A0 w' e->A7 v u->A7 w' t->B.units+n<Bo->BQ B s u t (eqD d e)
  |n, d, e, v, w', u, t, B, hd, he, r, q, rv, rw', hu => by
    have hu0 : B.units<Bo := by omega
    have sd := MS I hd r rv;have se := MS I he q rw'
    match d, e, sd, se with
    |.non, .non, s1, s2 => cases s1;cases s2;exact Xd
    |.non, .bl b, s1, s2 => cases s1;cases s2;exact Xg b
    |.non, .int b, s1, s2 => cases s1;obtain⟨_, rfl⟩ := s2;exact Xf b _
    |.non, .str b, s1, s2 => cases s1;obtain⟨_, rfl⟩ := s2;exact Xc b _
    |.non, .tup es, s1, s2 => cases s1;obtain⟨_, _, _, rfl, _, _, p⟩ := s2;exact Xb p hu0
    |.non, .lst es, s1, s2 => cases s1;obtain⟨_, _, _, rfl, _, _, p⟩ := s2;exact Xe p hu0
    |.bl a, .non, s1, s2 => cases s1;cases s2;exact Xv a
    |.bl a, .bl b, s1, s2 => cases s1;cases s2;exact Xz a b
    |.bl a, .int b, s1, s2 => cases s1;obtain⟨_, rfl⟩ := s2;exact Xy a b _
    |.bl a, .str b, s1, s2 => cases s1;obtain⟨_, rfl⟩ := s2;exact Xu a b _
    |.bl a, .tup es, s1, s2 => cases s1;obtain⟨_, _, _, rfl, _, _, p⟩ := s2;exact Xs a p hu0
    |.bl a, .lst es, s1, s2 => cases s1;obtain⟨_, _, _, rfl, _, _, p⟩ := s2;exact Xx a p hu0
    |.int a, .non, s1, s2 => obtain⟨_, rfl⟩ := s1;cases s2;exact Xo a _
    |.int a, .bl b, s1, s2 => obtain⟨_, rfl⟩ := s1;cases s2;exact Xr b a _
    |.int a, .int b, s1, s2 => obtain⟨_, rfl⟩ := s1;obtain⟨_, rfl⟩ := s2;exact Xq a _ b _
    |.int a, .str b, s1, s2 => obtain⟨_, rfl⟩ := s1;obtain⟨_, rfl⟩ := s2;exact Xn a _ b _
    |.int a, .tup es, s1, s2 => obtain⟨_, rfl⟩ := s1;obtain⟨_, _, _, rfl, _, _, p⟩ := s2;exact Xm a _ p hu0
    |.int a, .lst es, s1, s2 => obtain⟨_, rfl⟩ := s1;obtain⟨_, _, _, rfl, _, _, p⟩ := s2;exact Xp a _ p hu0
    |.str a, .non, s1, s2 => obtain⟨_, rfl⟩ := s1;cases s2;exact Wp a _
    |.str a, .bl b, s1, s2 => obtain⟨_, rfl⟩ := s1;cases s2;exact Xa b a _
    |.str a, .int b, s1, s2 => obtain⟨_, rfl⟩ := s1;obtain⟨_, rfl⟩ := s2;exact W9 a _ b _
    |.str a, .str b, s1, s2 => obtain⟨_, rfl⟩ := s1;obtain⟨_, rfl⟩ := s2;exact Wo a _ b _
    |.str a, .tup es, s1, s2 => obtain⟨_, rfl⟩ := s1;obtain⟨_, _, _, rfl, _, _, p⟩ := s2;exact Wn a _ p hu0
    |.str a, .lst es, s1, s2 => obtain⟨_, rfl⟩ := s1;obtain⟨_, _, _, rfl, _, _, p⟩ := s2;exact Wq a _ p hu0
    |.tup ds, .non, s1, s2 => cases s2;obtain⟨_, _, _, rfl, _, _, p⟩ := s1;exact Wj p hu0
    |.tup ds, .bl b, s1, s2 => cases s2;obtain⟨_, _, _, rfl, _, _, p⟩ := s1;exact Wm b p hu0
    |.tup ds, .int b, s1, s2 => obtain⟨_, rfl⟩ := s2;obtain⟨_, _, _, rfl, _, _, p⟩ := s1;exact Wl b _ p hu0
    |.tup ds, .str b, s1, s2 => obtain⟨_, rfl⟩ := s2;obtain⟨_, _, _, rfl, _, _, p⟩ := s1;exact Wi b _ p hu0
    |.tup ds, .lst es, s1, s2 => obtain⟨_, _, _, rfl, _, _, p⟩ := s1;obtain⟨_, _, _, rfl, _, _, p2⟩ := s2;exact Wk p p2 hu0
    |.lst ds, .non, s1, s2 => cases s2;obtain⟨_, _, _, rfl, _, _, p⟩ := s1;exact Xj p hu0
    |.lst ds, .bl b, s1, s2 => cases s2;obtain⟨_, _, _, rfl, _, _, p⟩ := s1;exact Xl b p hu0
    |.lst ds, .int b, s1, s2 => obtain⟨_, rfl⟩ := s2;obtain⟨_, _, _, rfl, _, _, p⟩ := s1;exact Xk b _ p hu0
    |.lst ds, .str b, s1, s2 => obtain⟨_, rfl⟩ := s2;obtain⟨_, _, _, rfl, _, _, p⟩ := s1;exact Xi b _ p hu0
    |.lst ds, .tup es, s1, s2 => obtain⟨_, _, _, rfl, _, _, p⟩ := s1;obtain⟨_, _, _, rfl, _, _, p2⟩ := s2;exact Xh p p2 hu0
    |.tup ds, .tup es, s1, s2=>
      match n, hd, he, hu with
      |n+1, hd, he, hu=>
        obtain⟨a, xs, its, rfl, r1, v1, p1⟩ := s1;obtain⟨b, ys, its2, rfl, r2, v2, p2⟩ := s2;have l1 := v1.length;have l2 := r1.length;have l3 := v2.length;have l4 := r2.length
        refine TM p1 p2 (by omega) (by omega) hu0 (fun hab => ?_) fun j h1 h2 => ?_
        · have e1 : v = .ref a := A7.inj rv rfl;have e2 : w' = .ref b := A7.inj rw' rfl;subst e1 e2 hab;have z := IU I (n+1) _ _ hd he r q
          injection z with z
          rw[z];exact eqDs_refl n es he
        · obtain⟨x, rx, qx⟩ := GQ r1 v1 h1;obtain⟨y, ry, qy⟩ := GQ r2 v2 h2;exact(Im I n _ _ x y _ _ B.in1 (GN hd j) (GN he j) rx ry qx qy (by show B.units+1+n<Bo;omega)).2.1
    |.lst ds, .lst es, s1, s2=>
      match n, hd, he, hu with
      |n+1, hd, he, hu=>
        obtain⟨a, xs, its, rfl, r1, v1, p1⟩ := s1;obtain⟨b, ys, its2, rfl, r2, v2, p2⟩ := s2;have l1 := v1.length;have l2 := r1.length;have l3 := v2.length;have l4 := r2.length
        refine TN p1 p2 (by omega) (by omega) hu0 (fun hab => ?_) fun j h1 h2 => ?_
        · have e1 : v = .ref a := A7.inj rv rfl;have e2 : w' = .ref b := A7.inj rw' rfl;subst e1 e2 hab;have z := IU I (n+1) _ _ hd he r q
          injection z with z
          rw[z];exact eqDs_refl n es he
        · obtain⟨x, rx, qx⟩ := GQ r1 v1 h1;obtain⟨y, ry, qy⟩ := GQ r2 v2 h2;exact(Im I n _ _ x y _ _ B.in1 (GN hd j) (GN he j) rx ry qx qy (by show B.units+1+n<Bo;omega)).2.1
    |.obj _ _, _, s1, _ => exact s1.elim
    |.exc _ _, _, s1, _ => exact s1.elim
    |.dic _, _, s1, _ => exact s1.elim
    |_, .obj _ _, _, s2 => exact s2.elim
    |_, .exc _ _, _, s2 => exact s2.elim
    |_, .dic _, _, s2 => exact s2.elim
end
section
variable{X : Cx}{CL : ClA}{W : XW}
theorem Jk(I : Inv X pI σ H s){ds : Ac D}(B : AN)(hd : flD n d = Ab)(hs : ds.all (flD n) = Ab)(r : Reps X.K CL H A0 xs ds)(rv : AW xs its)(q : Rep X.K CL H A0 v d)(qv : A7 v u)(hu : B.units+n<Bo):∃ e :Ah->An,(∀ y,y ∈ its.toArray->Ep B s y u (e y))/\its.toArray.any e = ds.any fun y =>eqD y d := by
 have l1 := rv.length;have l2 := r.length
 have key : ∀ y, y ∈ its -> ∃ k : An, Ep B s y u k /\ ∀ j (h : j<its.length), its[j] = y -> eqD (ds.getD j .non) d = k := fun y hy => by
  obtain⟨j, hj, rfl⟩ := EC hy;obtain⟨x, rx, qx⟩ := GQ r rv hj;refine⟨eqD (ds.getD j .non) d, (Im I n _ _ x v _ _ B (GN hs j) hd rx q qx qv hu).2.1, fun j' hj' e => ?_⟩
  obtain⟨x', rx', qx'⟩ := GQ r rv hj';rw[e]at qx';have z := A7.inj qx qx';subst z;rw[IU I n _ _ (GN hs j') (GN hs j) rx' rx]
 have key2 : ∀ y, ∃ k : An, y ∈ its -> Ep B s y u k /\ ∀ j (h : j<its.length), its[j] = y -> eqD (ds.getD j .non) d = k := fun y => by
  by_cases hy : y ∈ its
  ·obtain⟨k, hk⟩ := key y hy;exact⟨k, fun _ => hk⟩
  ·exact⟨Ab, fun h => absurd h hy⟩
 refine⟨fun y => Classical.choose (key2 y), fun y hy => (Ec (key2 y) (by simpa using hy)).1, ?_⟩
 rw[CV];simp only[List.any_toArray, Dh];constructor
 ·rintro⟨y, hy, hk⟩;obtain⟨j, hj, rfl⟩ := EC hy;have z := (Ec (key2 its[j]) hy).2 j hj rfl;rw[hk]at z;refine⟨ds.getD j .non, ?_, z⟩;rw[CA, BV (by omega)]
  exact Fd _
 ·rintro⟨y, hy, hk⟩;obtain⟨j, hj, rfl⟩ := EC hy;have hj' : j<its.length := by omega
  refine⟨its[j], Fd _, ?_⟩;have z := (Ec (key2 its[j]) (Fd _)).2 j hj' rfl;rw[<-z, CA, BV hj];exact hk
theorem IM{g:Ag -> Ag -> An}(ho : OpR X (BN op) (rI0 fun i j => .bl (g i j)))(hg : ∀ dx dy, (∃ i j, dx = .int i /\ dy = .int j /\ Bj op dx dy = .ok (.bl (g i j))) \/ Bj op dx dy = .bad) : OpD X CL W (BN op) (Bj op) := by
 intro A pI s σ H x y v u Q I rx ry ⟨hA, dx, dy, hx, hy, p⟩;rcases hg dx dy with ⟨i, j, rfl, rfl, e⟩|e
 ·have ex := hx.int_of;have ey := hy.int_of
  subst ex ey;rw[e]at p;exact ho pI s σ H _ _ v u Q I rx ry ⟨i, j, rfl, rfl, p _ H (Av.refl H) rfl⟩
 ·rw[e]at p;exact p.elim
theorem NX{x:V}(h : BZ X.K CL H A x d)(hd : d ≠ .non) : x ≠ .non := by
 rintro rfl;have h := h.plain;cases d with
 |non => exact hd rfl
 |tup => obtain⟨_, _, e, _⟩ := h;cases e
 |lst => obtain⟨_, _, e, _⟩ := h;cases e
 |obj => obtain⟨_, _, _, _, e, _⟩ := h;cases e
 |exc => obtain⟨_, _, _, e, _⟩ := h;cases e
 |dic => exact h.elim
 |_ => cases h
theorem Hc(hu : X.A.units+64<Bo)(op : CZ) : OpD X CL W (BN op) (Bj op) := by
 cases op with
 |Eq=>
  intro A pI s σ H x y v u Q I rx ry ⟨hA, dx, dy, hx, hy, p⟩;rw[XA]at p;split at p
  ·rename_i h;simp only[Ak]at h;exact(Im I 5 dx dy x y v u X.A h.1 h.2 hx.plain hy.plain rx ry (by omega)).1 X.prog X.w X.xe _ ⟨.bl _, H, I, rfl, p _ H (Av.refl H) rfl⟩
  ·exact p.elim
 |NotEq=>
  intro A pI s σ H x y v u Q I rx ry ⟨hA, dx, dy, hx, hy, p⟩;rw[WI]at p;split at p
  ·rename_i h;simp only[Ak]at h;exact(Im I 5 dx dy x y v u X.A h.1 h.2 hx.plain hy.plain rx ry (by omega)).2.2 X.prog X.w X.xe _ ⟨.bl _, H, I, rfl, p _ H (Av.refl H) rfl⟩
  ·exact p.elim
 |Lt => exact IM WY fun dx dy => by cases dx <;> cases dy <;> first|exact .inl ⟨_, _, rfl, rfl, rfl⟩|exact .inr rfl
 |LtE => exact IM WZ fun dx dy => by cases dx <;> cases dy <;> first|exact .inl ⟨_, _, rfl, rfl, rfl⟩|exact .inr rfl
 |Gt => exact IM W1 fun dx dy => by cases dx <;> cases dy <;> first|exact .inl ⟨_, _, rfl, rfl, rfl⟩|exact .inr rfl
 |GtE => exact IM W2 fun dx dy => by cases dx <;> cases dy <;> first|exact .inl ⟨_, _, rfl, rfl, rfl⟩|exact .inr rfl
 |In=>
  intro A pI s σ H x y v u Q I rx ry ⟨hA, dx, dy, hx, hy, p⟩;cases dy with
  |lst es=>
   rw[Yi]at p;split at p
   ·rename_i h;simp only[Ak]at h;obtain⟨a, xs, e, _, sq, r⟩ := hy.plain;subst e;cases ry;obtain⟨its, rv, pl, _⟩ := I.list sq;obtain⟨e, he, ha⟩ := Jk I (n := 5) X.A.in1 h.1 h.2 r rv hx.plain rx (by show X.A.units+1+5<Bo;omega)
    refine SeqAt.in_listAt e (Hq pl) he ?_;rw[ha];exact⟨.bl _, H, I, rfl, p _ H (Av.refl H) rfl⟩
   ·exact p.elim
  |tup es=>
   rw[Yh]at p;split at p
   ·rename_i h;simp only[Ak]at h;obtain⟨a, xs, e, _, sq, r⟩ := hy.plain;subst e;cases ry;obtain⟨its, rv, pl, _⟩ := I.tuple sq;obtain⟨e, he, ha⟩ := Jk I (n := 5) X.A.in1 h.1 h.2 r rv hx.plain rx (by show X.A.units+1+5<Bo;omega)
    refine SeqAt.in_tupleAt e pl he ?_;rw[ha];exact⟨.bl _, H, I, rfl, p _ H (Av.refl H) rfl⟩
   ·exact p.elim
  |dic kvs => exact hy.plain.elim
  |_ => cases dx <;> exact p.elim
 |NotIn=>
  intro A pI s σ H x y v u Q I rx ry ⟨hA, dx, dy, hx, hy, p⟩;cases dy with
  |lst es=>
   rw[W8]at p;split at p
   ·rename_i h;simp only[Ak]at h;obtain⟨a, xs, e, _, sq, r⟩ := hy.plain;subst e;cases ry;obtain⟨its, rv, pl, _⟩ := I.list sq;obtain⟨e, he, ha⟩ := Jk I (n := 5) X.A.in1 h.1 h.2 r rv hx.plain rx (by show X.A.units+1+5<Bo;omega)
    refine SeqAt.notIn_listAt e (Hq pl) he ?_;rw[ha];exact⟨.bl _, H, I, rfl, p _ H (Av.refl H) rfl⟩
   ·exact p.elim
  |tup es=>
   rw[W7]at p;split at p
   ·rename_i h;simp only[Ak]at h;obtain⟨a, xs, e, _, sq, r⟩ := hy.plain;subst e;cases ry;obtain⟨its, rv, pl, _⟩ := I.tuple sq;obtain⟨e, he, ha⟩ := Jk I (n := 5) X.A.in1 h.1 h.2 r rv hx.plain rx (by show X.A.units+1+5<Bo;omega)
    refine SeqAt.notIn_tupleAt e pl he ?_;rw[ha];exact⟨.bl _, H, I, rfl, p _ H (Av.refl H) rfl⟩
   ·exact p.elim
  |_ => cases dx <;> exact p.elim
 |Is=>
  intro A pI s σ H x y v u Q I rx ry ⟨hA, dx, dy, hx, hy, p⟩;cases dy with
  |non=>
   have ey := hy.non_of;subst ey;refine VM pI s σ H _ _ v u Q I rx ry ⟨rfl, ?_⟩;cases dx with
   |non=>
    have ex := hx.non_of;subst ex;exact p _ H (Av.refl H) rfl
   |exc => exact p.elim
   |dic => exact p.elim
   |_ => rw[B4 (NX hx (by simp))];exact p _ H (Av.refl H) rfl
  |bl b=>
   cases dx with
   |bl a=>
    have ey := hy.bl_of;have ex := hx.bl_of;subst ex ey;cases rx;cases ry;refine wpAny_is_plain rfl ⟨.bl (a==b), H, I, ?_, p _ H (Av.refl H) rfl⟩;cases a <;> cases b <;> rfl
   |_ => exact p.elim
  |_ => cases dx <;> exact p.elim
 |IsNot=>
  intro A pI s σ H x y v u Q I rx ry ⟨hA, dx, dy, hx, hy, p⟩;cases dy with
  |non=>
   have ey := hy.non_of;subst ey;refine Tn pI s σ H _ _ v u Q I rx ry ⟨rfl, ?_⟩;cases dx with
   |non=>
    have ex := hx.non_of;subst ex;exact p _ H (Av.refl H) rfl
   |exc => exact p.elim
   |dic => exact p.elim
   |_ => rw[B4 (NX hx (by simp))];exact p _ H (Av.refl H) rfl
  |bl b=>
   cases dx with
   |bl a=>
    have ey := hy.bl_of;have ex := hx.bl_of;subst ex ey;cases rx;cases ry;refine wpAny_isNot_plain rfl ⟨.bl (!(a==b)), H, I, ?_, p _ H (Av.refl H) rfl⟩;cases a <;> cases b <;> rfl
   |_ => exact p.elim
  |_ => cases dx <;> exact p.elim
end
section
variable{X : Cx}{CL : ClA}{W : XW}{a b c : Ao}{fa fb fc : Rho -> R D}{pos : AJ}
theorem Cc.bind{f:D -> R An}{Q:An -> Hp -> Prop}{Q':VK}(h : Cc W H (r.bind f) Q)(k : ∀ d v H', r = .ok d -> Av H H' -> Rp H' v d -> Cc W H' (f d) Q -> Q' v H') : AX Rp W H r Q' := by
 cases r with
 |ok d => exact fun v H2 s2 q => k d v H2 rfl s2 q (Cc.same s2 h)
 |exn x => exact h
 |bad => exact h
theorem Cc.bindB{r:R An}{f:An -> R An}{Q:An -> Hp -> Prop}{Q':An -> Hp -> Prop}(h : Cc W H (r.bind f) Q)(k : ∀ b H', r = .ok b -> Av H H' -> Cc W H' (f b) Q -> Q' b H') : Cc W H r Q' := by
 cases r with
 |ok d => exact fun H2 s2 => k d H2 rfl s2 (Cc.same s2 h)
 |exn x => exact h
 |bad => exact h
theorem Fq.bind{Rp:Hp -> Ac V -> Ac D -> Prop}{r:R (Ac D)}{f:Ac D -> R D}{Q':Ac V -> Hp -> Prop}(h : AX Rq W H (r.bind f) Q)(k : ∀ d v H', r = .ok d -> Av H H' -> Rp H' v d -> AX Rq W H' (f d) Q -> Q' v H') : Fq Rp W H r Q' := by
 cases r with
 |ok d => exact fun v H2 s2 q => k d v H2 rfl s2 q (AX.same s2 h)
 |exn x => exact h
 |bad => exact h
theorem IP{f:An -> R D}(h : AX Rq W H ((Cy d).bind f) Q) : ∃ c, d = .bl c /\ AX Rq W H (f c) Q := by
 cases d with
 |bl c => exact⟨c, rfl, h⟩
 |_ => exact h.elim
theorem Nx(ha : ST X CL W a fa) : SE X CL W (.UnaryOp .Not a pos) (fun ρ => (fa ρ).bind fun x => (Cy x).bind fun b => .ok (.bl (!b))) := fun A => PE.weak (VD (ha A)) fun σ H Q ⟨hA, ρ, g, p⟩ => ⟨hA, ρ, g, AX.bind p fun d v H1 _ s1 r1 p1 => by
 obtain⟨c, rfl, p2⟩ := IP p1;exact⟨c, r1.bl_of, p2 _ H1 (Av.refl H1) rfl⟩⟩
theorem KA{op}(ha : SE X CL W a fa) : SE X CL W (.BoolOp op [a] pos) fa := fun A => VC (ha A)
theorem NQ{rest : Ac Ao}(ha : SE X CL W a fa)(hb : SE X CL W (.BoolOp .And (b::rest) pos) fb) : SE X CL W (.BoolOp .And (a::b::rest) pos) (fun ρ => (fa ρ).bind fun x => (Cy x).bind fun c => if c = Ab then fb ρ else .ok (.bl Ad)):=
 fun A => PE.weak (VH (ha A) (hb A)) fun σ H Q ⟨hA, ρ, g, p⟩ => ⟨hA, ρ, g, AX.bind p fun d v H1 _ s1 r1 p1 => by
  obtain⟨c, rfl, p2⟩ := IP p1;refine⟨c, r1, ?_⟩;cases c with
  |true => exact⟨hA.same s1, ρ, g.same s1, p2⟩
  | false => exact p2 _ H1 (Av.refl H1) rfl⟩
theorem Ws{rest : Ac Ao}(ha : SE X CL W a fa)(hb : SE X CL W (.BoolOp .Or (b::rest) pos) fb) : SE X CL W (.BoolOp .Or (a::b::rest) pos) (fun ρ => (fa ρ).bind fun x => (Cy x).bind fun c => if c = Ab then .ok (.bl Ab) else fb ρ):=
 fun A => PE.weak (WS (ha A) (hb A)) fun σ H Q ⟨hA, ρ, g, p⟩ => ⟨hA, ρ, g, AX.bind p fun d v H1 _ s1 r1 p1 => by
  obtain⟨c, rfl, p2⟩ := IP p1;refine⟨c, r1, ?_⟩;cases c with
  |false => exact⟨hA.same s1, ρ, g.same s1, p2⟩
  | true => exact p2 _ H1 (Av.refl H1) rfl⟩
theorem R8(hu : X.A.units+64<Bo)(ha : ST X CL W a fa)(hb : ST X CL W b fb)(hc : ST X CL W c fc)(hm : Gp [op, op'] [b, c] = Ad):SE X CL W (.Compare a [op,op'] [b,c] pos) (fun ρ =>(fa ρ).bind fun x =>(fb ρ).bind fun y =>(Bj op x y).bind fun z =>(Cy z).bind fun k =>if k = Ab then (fc ρ).bind fun u =>Bj op' y u else .ok (.bl Ad)):=
 fun A => PE.weak (Sr (Hc hu op A) (Hc hu op' A) (ha A) (hb A) (hc A) hm) fun σ H Q ⟨hA, ρ, g, p⟩ => ⟨hA, ρ, g, AX.bind p fun dx x H1 _ s1 r1 p1 => ⟨hA.same s1, ρ, g.same s1, AX.bind p1 fun dy y H2 _ s2 r2 p2=>
  ⟨(hA.same s1).same s2, dx, dy, r1.same s2, r2, AX.bind p2 fun dz z H3 _ s3 r3 p3 => by
   obtain⟨k, rfl, p4⟩ := IP p3;refine⟨k, r3, ?_⟩;cases k with
   |false => exact p4 _ H3 (Av.refl H3) rfl
   | true => exact⟨((hA.same s1).same s2).same s3, ρ, ((g.same s1).same s2).same s3, AX.bind p4 fun du u H4 _ s4 r4 p5 => ⟨(((hA.same s1).same s2).same s3).same s4, dy, du, (r2.same s3).same s4, r4, p5⟩⟩⟩⟩⟩
theorem Ui{xs:Ac D}{i:Ag}(h : Ew xs i = .ok d) : ∃ k, plD xs.length i = Aa k /\ xs[k]? = Aa d := by
 unfold Ew at h;split at h
 ·rename_i k e;split at h
  ·rename_i d' e';cases h;exact⟨k, e, e'⟩
  ·cases h
 ·cases h
theorem MD{xs:Ac D}{i:Ag}(h : Ew xs i = .exn x) : AH := by
 unfold Ew at h;split at h
 ·split at h <;> cases h
 ·cases h
theorem M7{ds : Ac D}{i:Ag}(r : Reps K CL H A xs ds)(h : Ew ds i = .ok d) : ∃ v, atI xs i = Aa v /\ Rep K CL H A v d := by
 obtain⟨k, e, q⟩ := Ui h;obtain⟨v, hv, rv⟩ := r.get q;refine⟨v, ?_, rv⟩;unfold atI;have : ixN xs.length i = Aa k := by rw[r.length];exact e
 rw[this];exact hv
theorem UO(hs : Kq b)(ha : ST X CL W a fa)(hb : ST X CL W b fb) : SE X CL W (.Subscript a b pos) (fun ρ => (fa ρ).bind fun x => (fb ρ).bind fun y => F6 x y):=
 fun A => PE.weak (WT (r := fun x y H Q => OW X.K x y H Q \/ OU X.K x y H Q) (S4.or Vs) (ha A) (hb A) hs) fun σ H Q h => by
  obtain⟨hA, ρ, g, h⟩ := op2 h;refine⟨hA, ρ, g, ?_⟩;cases e : fa ρ with
  |bad => rw[e]at h;exact h
  |exn x => rw[e]at h;exact h
  |ok dx0=>
   rw[e]at h;intro x H1 s1 r1;obtain⟨hA1, ρ1, g1, h1⟩ := h x H1 s1 r1;refine⟨hA1, ρ1, g1, ?_⟩;cases e1 : fb ρ1 with
   |bad => rw[e1]at h1;exact h1
   |exn x => rw[e1]at h1;exact h1
   |ok dy0=>
    rw[e1]at h1;intro y H2 s2 r2;obtain⟨hA2, dx, dy, rx, ry, p⟩ := h1 y H2 s2 r2;cases dy with
    |int i=>
     have ey := ry.int_of;subst ey;cases dx with
     |lst ds=>
      obtain⟨q, xs, rfl, sq, r⟩ := rx.lst_of;rw[XD]at p;cases e2 : Ew ds i with
      |ok d=>
       rw[e2]at p;obtain⟨v, hv, rv⟩ := M7 r e2;exact .inl ⟨q, xs, i, v, rfl, rfl, sq, hv, p v H2 (Av.refl H2) rv⟩
      |exn x => exact(MD e2).elim
      |bad => rw[e2]at p;exact p.elim
     |tup ds=>
      obtain⟨q, xs, rfl, _, sq, r⟩ := rx.tup_of;rw[XC]at p;cases e2 : Ew ds i with
      |ok d=>
       rw[e2]at p;obtain⟨v, hv, rv⟩ := M7 r e2;exact .inr ⟨q, xs, i, v, rfl, rfl, sq, hv, p v H2 (Av.refl H2) rv⟩
      |exn x => exact(MD e2).elim
      |bad => rw[e2]at p;exact p.elim
     |dic => exact rx.plain.elim
     |_ => exact p.elim
    |_ => cases dx <;> first|exact p.elim|exact rx.plain.elim
theorem NS : SA X CL W [] (fun _ => .ok []) := fun A => PA.weak FG fun σ H Q ⟨hA, ρ, g, p⟩ => p [] H (Av.refl H) trivial
theorem MV(ha : SE X CL W a fa)(hs : SA X CL W es fs)(hst : Ar (a::es) X.env = (Ad, eval a X.env)::Ar es X.env) : SA X CL W (a::es) (fun ρ => (fa ρ).bind fun x => (fs ρ).bind fun xs => .ok (x::xs)):=
 fun A => PA.weak (DR (ha A) (hs A) hst) fun σ H Q ⟨hA, ρ, g, p⟩ => by
  dsimp only at p;refine⟨hA, ρ, g, ?_⟩;cases e : fa ρ with
  |bad => rw[e]at p;exact p
  |exn x => rw[e]at p;exact p
  |ok d=>
   rw[e]at p;intro v H1 s1 r1;refine⟨hA.same s1, ρ, g.same s1, ?_⟩;cases e1 : fs ρ with
   |bad => rw[R.bind_ok, e1]at p;exact p
   |exn x => rw[R.bind_ok, e1]at p;exact fun H2 s2 => p H2 (s1.trans s2)
   |ok ds=>
    rw[R.bind_ok, e1]at p;exact fun vs H2 s2 r2 => p (v::vs) H2 (s1.trans s2) ⟨r1.same s2, r2⟩
theorem UH{k:Ae}(hs : SA X CL W es fs)(hz : ∀ ρ ds, fs ρ = .ok ds -> ds.length <= 100000) : SE X CL W (.Tuple es k pos) (fun ρ => (fs ρ).bind fun xs => .ok (.tup xs)):=
 fun A => PE.weak (NU (hs A)) fun σ H Q ⟨hA, ρ, g, p⟩ => ⟨hA, ρ, g, Fq.bind p fun ds vs H1 e s1 r1 p1 => ⟨by
  rw[r1.length, Ct];have := hz ρ ds e;omega, fun q hq => p1 _ _ (EI hq _) (IZ (hA.same s1) hq r1)⟩⟩
noncomputable def GW(W : XW)(H : Hp)(r : R (Am Ag))(Q : Am Ag -> Hp -> Prop) : Prop := match r with
  |.ok o => ∀ H', Av H H' -> Q o H'
  |.exn x => ∀ H', Av H H' -> W x H'
  |.bad => AH
theorem GW.bind{r:R (Am Ag)}{f:Am Ag -> R D}(h : AX Rq W H (r.bind f) Q)(k : ∀ o H', r = .ok o -> Av H H' -> AX Rq W H' (f o) Q -> Q' o H') : GW W H r Q' := by
 cases r with
 |ok d => exact fun H2 s2 => k d H2 rfl s2 (AX.same s2 h)
 |exn x => exact h
 |bad => exact h
noncomputable def SO(X : Cx)(CL : ClA)(W : XW)(e : Am Ao)(f : Rho -> R (Am Ag)) : Prop := ∀ A, PO X e (fun σ H Q => AOk H A /\ ∃ ρ, Good X.K CL A ρ σ H /\ GW W H (f ρ) Q)
theorem PO.weak{e:Am Ao}{t t':TO}(h : PO X e t)(k : ∀ σ H Q, t' σ H Q -> t σ H Q) : PO X e t' := fun pI s σ H Q I q => h pI s σ H Q I (k _ _ _ q)
theorem TC : SO X CL W Af (fun _ => .ok Af) := fun A => PO.weak Ta fun σ H Q ⟨hA, ρ, g, p⟩ => p H (Av.refl H)
theorem TB(ha : ST X CL W a fa) : SO X CL W (Aa a) (fun ρ => (fa ρ).bind fun d => (Dq d).bind fun i => .ok (Aa i)) := fun A => PO.weak (S9 (ha A)) fun σ H Q ⟨hA, ρ, g, p⟩ => by
 dsimp only at p;refine⟨hA, ρ, g, ?_⟩;cases e : fa ρ with
 |bad => rw[e]at p;exact p
 |exn x => rw[e]at p;exact p
 |ok d=>
  rw[e]at p;intro v H1 s1 r1;cases d with
  |int i => exact⟨i, r1.int_of, p H1 s1⟩
  |_ => exact p.elim
theorem M1{ds : Ac D}(lo hi : Am Ag)(r : Reps K CL H A xs ds) : Reps K CL H A (GH xs lo hi) (cutD ds lo hi) := by
 unfold GH cutD;have e : ∀ d o, HT.sIx xs.length d o = FI ds.length d o := fun d o => by rw[r.length];cases o <;> rfl
 rw[e, e, r.length];exact(r.drop _).take _
end
section
variable{X : Cx}{CL : ClA}{W : XW}{a b c : Ao}{fa fb fc : Rho -> R D}{pos : AJ}
def D9(K : Fg)(CL : ClA)(H : Hp)(A : Ai -> Prop) : Ac V -> Ac D -> Prop
 |[], [] => FF
 |v::vs, d::ds => BZ K CL H A v d /\ D9 K CL H A vs ds
 |_, _ => AH
theorem D9.same{K : Fg}{H H' : Hp}{A : Ai -> Prop}(s : Av H H') : ∀{vs : Ac V}{ds : Ac D}, D9 K CL H A vs ds -> D9 K CL H' A vs ds
 |[], [], h => h
 |_::_, _::_, h => ⟨h.1.same s, D9.same s h.2⟩
 |[], _::_, h => h.elim
 |_::_, [], h => h.elim
theorem D9.one(h : D9 K CL H A vs [d]) : ∃ v, vs = [v] /\ BZ K CL H A v d := by
 cases vs with
 |nil => exact h.elim
 |cons v vs=>
  cases vs with
  |nil => exact⟨v, rfl, h.1⟩
  |cons => exact h.2.elim
theorem D9.two{e:D}(h : D9 K CL H A vs [d, e]) : ∃ v w', vs = [v, w'] /\ BZ K CL H A v d /\ BZ K CL H A w' e := by
 cases vs with
 |nil => exact h.elim
 |cons v vs=>
  cases vs with
  |nil => exact h.2.elim
  |cons w' vs=>
   cases vs with
   |nil => exact⟨v, w', rfl, h.1, h.2.1⟩
   |cons => exact h.2.2.elim
noncomputable def SAT(X : Cx)(CL : ClA)(W : XW)(es : Ac Ao)(f : Rho -> R (Ac D)) : Prop := ∀ A, PA X es (fun σ H Q => AOk H A /\ ∃ ρ, Good X.K CL A ρ σ H /\ Fq (fun H => D9 X.K CL H A) W H (f ρ) Q)
theorem MU : SAT X CL W [] (fun _ => .ok []) := fun A => PA.weak FG fun σ H Q ⟨hA, ρ, g, p⟩ => p [] H (Av.refl H) trivial
theorem Ms(ha : ST X CL W a fa)(hs : SAT X CL W es fs)(hst : Ar (a::es) X.env = (Ad, eval a X.env)::Ar es X.env) : SAT X CL W (a::es) (fun ρ => (fa ρ).bind fun x => (fs ρ).bind fun xs => .ok (x::xs)):=
 fun A => PA.weak (DR (ha A) (hs A) hst) fun σ H Q ⟨hA, ρ, g, p⟩ => by
  dsimp only at p;refine⟨hA, ρ, g, ?_⟩;cases e : fa ρ with
  |bad => rw[e]at p;exact p
  |exn x => rw[e]at p;exact p
  |ok d=>
   rw[e]at p;intro v H1 s1 r1;refine⟨hA.same s1, ρ, g.same s1, ?_⟩;cases e1 : fs ρ with
   |bad => rw[R.bind_ok, e1]at p;exact p
   |exn x => rw[R.bind_ok, e1]at p;exact fun H2 s2 => p H2 (s1.trans s2)
   |ok ds=>
    rw[R.bind_ok, e1]at p;exact fun vs H2 s2 r2 => p (v::vs) H2 (s1.trans s2) ⟨r1.same s2, r2⟩
noncomputable def GX(X : Cx)(CL : ClA)(W : XW)(f : Ah)(g : Ac D -> R D) : Prop := ∀ A, FH X f (fun xs H Q => AOk H A /\ ∃ ds, D9 X.K CL H A xs ds /\ AX (fun H => Rep X.K CL H A) W H (g ds) Q)
theorem KB{x:Aj}{id:Cv}{p:AJ}{g:Ac D -> R D}(hc : GX X CL W (.builtin id) g)(hg : Gl X x)(hm : X.mg x = Af)(hv : B7 x = Aa (.builtin id))(ha : SAT X CL W (e::es) fs)(hn : x ≠ "__name__")(hdb : (x==("__debug__" : Aj)) = Ad)(he : Ar (e::es) X.env = (Ad, eval e X.env)::Ar es X.env)(hpl : ∀ pos, (By pos (Ar es X.env)).any (·.1) = Ad):SE X CL W (.Call (.Name x p) (e::es) [] pos) (fun ρ =>(fs ρ).bind g) := fun A => PE.weak (HW (hc A) hg hm hv (ha A) hn hdb he (hpl _)) fun σ H Q ⟨hA, ρ, gd, q⟩ => ⟨hA, ρ, gd, Fq.bind q fun ds vs H1 _ s1 r1 p1 => ⟨hA.same s1, ds, r1, p1⟩⟩
theorem NP{x:Aj}{p:AJ}{g:Ac D -> R D}(hc : GX X CL W (.type T) g)(hg : Gl X x)(hm : X.mg x = Af)(hv : B7 x = Aa (.type T))(ha : SAT X CL W (e::es) fs)(hn : x ≠ "__name__")(hdb : (x==("__debug__" : Aj)) = Ad)(he : Ar (e::es) X.env = (Ad, eval e X.env)::Ar es X.env)(hpl : ∀ pos, (By pos (Ar es X.env)).any (·.1) = Ad):SE X CL W (.Call (.Name x p) (e::es) [] pos) (fun ρ =>(fs ρ).bind g) := fun A => PE.weak (Ma (hc A) hg hm hv (ha A) hn hdb he (hpl _)) fun σ H Q ⟨hA, ρ, gd, q⟩ => ⟨hA, ρ, gd, Fq.bind q fun ds vs H1 _ s1 r1 p1 => ⟨hA.same s1, ds, r1, p1⟩⟩
theorem We : GX X CL W (.builtin "len") (biD .len) := by
  intro A pI s σ H xs us Q I r ⟨hA, ds, rs, p⟩
  match ds, rs, p with
  |[.lst es], rs, p=>
    obtain⟨v, rfl, rv⟩ := rs.one;obtain⟨q, ys, rfl, sq, ry⟩ := rv.lst_of;exact LJ pI s σ H _ us Q I r ⟨q, ys, rfl, .inl sq, p _ H (Av.refl H) (by rw[ry.length];rfl)⟩
  |[.tup es], rs, p=>
    obtain⟨v, rfl, rv⟩ := rs.one;obtain⟨q, ys, rfl, _, sq, ry⟩ := rv.tup_of;exact LJ pI s σ H _ us Q I r ⟨q, ys, rfl, .inr sq, p _ H (Av.refl H) (by rw[ry.length];rfl)⟩
  |[.str x], rs, p=>
    obtain⟨v, rfl, rv⟩ := rs.one;have e := rv.str_of;subst e;have p' : AX (fun H => Rep X.K CL H A) W H (if C5 x.length = Ab then .ok (.int x.length) else .bad) Q := p
    split at p'
    · rename_i h;exact QH pI s σ H _ us Q I r ⟨x, rfl, G9 h, p' _ H (Av.refl H) rfl⟩
    · exact p'.elim
  |[], _, p => exact p.elim
  |[.non], _, p => exact p.elim
  |[.bl _], _, p => exact p.elim
  |[.int _], _, p => exact p.elim
  |[.obj _ _], _, p => exact p.elim
  |[.exc _ _], _, p => exact p.elim
  |[.dic _], rs, p => first|exact p.elim|(obtain⟨v, rfl, rv⟩ := rs.one;exact rv.plain.elim)
  |x::_::_, _, p => cases x <;> exact p.elim
theorem RD(ds : Ac D) : (∃ i j, ds = [.int i, .int j]) \/ biD .max ds = .bad := by
  match ds with
  |[.int i, .int j] => exact .inl ⟨i, j, rfl⟩
  |[] => exact .inr rfl
  |[x] => cases x <;> exact .inr rfl
  |x::y::z::r => cases x <;> cases y <;> exact .inr rfl
  |[x, .non] => cases x <;> exact .inr rfl
  |[x, .bl _] => cases x <;> exact .inr rfl
  |[x, .str _] => cases x <;> exact .inr rfl
  |[x, .tup _] => cases x <;> exact .inr rfl
  |[x, .lst _] => cases x <;> exact .inr rfl
  |[x, .obj _ _] => cases x <;> exact .inr rfl
  |[x, .exc _ _] => cases x <;> exact .inr rfl
  |[x, .dic _] => cases x <;> exact .inr rfl
  |[.non, .int _] => exact .inr rfl
  |[.bl _, .int _] => exact .inr rfl
  |[.str _, .int _] => exact .inr rfl
  |[.tup _, .int _] => exact .inr rfl
  |[.lst _, .int _] => exact .inr rfl
  |[.obj _ _, .int _] => exact .inr rfl
  |[.exc _ _, .int _] => exact .inr rfl
  |[.dic _, .int _] => exact .inr rfl
theorem Wd(hc : X.calm = Ab) : GX X CL W (.builtin "max") (biD .max) := by
 intro A pI s σ H xs us Q I r ⟨hA, ds, rs, p⟩;rcases RD ds with ⟨i, j, rfl⟩|e
 ·obtain⟨v, w', rfl, rv, rw'⟩ := rs.two;have e1 := rv.int_of;have e2 := rw'.int_of
  subst e1 e2;exact Ry hc pI s σ H _ us Q I r ⟨i, j, rfl, p _ H (Av.refl H) rfl⟩
 ·rw[e]at p;exact p.elim
theorem Wf : GX X CL W (.type "int") (biD .int) := by
  intro A pI s σ H xs us Q I r ⟨hA, ds, rs, p⟩
  match ds, rs, p with
  |[.int i], rs, p=>
    obtain⟨v, rfl, rv⟩ := rs.one;have e := rv.int_of;subst e;exact Mj pI s σ H _ us Q I r (.inl ⟨i, rfl, p _ H (Av.refl H) rfl⟩)
  |[.bl i], rs, p=>
    obtain⟨v, rfl, rv⟩ := rs.one;have e := rv.bl_of;subst e;exact Mj pI s σ H _ us Q I r (.inr ⟨i, rfl, p _ H (Av.refl H) rfl⟩)
  |[], _, p => exact p.elim
  |[.non], _, p => exact p.elim
  |[.str _], _, p => exact p.elim
  |[.tup _], _, p => exact p.elim
  |[.lst _], _, p => exact p.elim
  |[.obj _ _], _, p => exact p.elim
  |[.exc _ _], _, p => exact p.elim
  |[.dic _], rs, p => first|exact p.elim|(obtain⟨v, rfl, rv⟩ := rs.one;exact rv.plain.elim)
  |x::_::_, _, p => cases x <;> exact p.elim
theorem RY : GX X CL W (.type "tuple") (biD .tuple) := by
  intro A pI s σ H xs us Q I r ⟨hA, ds, rs, p⟩
  match ds, rs, p with
  |[.lst es], rs, p=>
    obtain⟨v, rfl, rv⟩ := rs.one;obtain⟨q, ys, rfl, sq, ry⟩ := rv.lst_of;exact LD pI s σ H _ us Q I r ⟨q, ys, rfl, .inl ⟨sq, fun l hl => p _ _ (EI hl _) (IZ hA hl ry)⟩⟩
  |[.tup es], rs, p=>
    obtain⟨v, rfl, rv⟩ := rs.one;obtain⟨q, ys, rfl, na, sq, ry⟩ := rv.tup_of;exact LD pI s σ H _ us Q I r ⟨q, ys, rfl, .inr ⟨sq, p _ H (Av.refl H) ⟨q, ys, rfl, na, sq, ry⟩⟩⟩
  |[], _, p => exact p.elim
  |[.non], _, p => exact p.elim
  |[.bl _], _, p => exact p.elim
  |[.int _], _, p => exact p.elim
  |[.str _], _, p => exact p.elim
  |[.obj _ _], _, p => exact p.elim
  |[.exc _ _], _, p => exact p.elim
  |[.dic _], rs, p => first|exact p.elim|(obtain⟨v, rfl, rv⟩ := rs.one;exact rv.plain.elim)
  |x::_::_, _, p => cases x <;> exact p.elim
end
section
variable{X : Cx}{CL : ClA}{W : XW}{a b c : Ao}{fa fb fc : Rho -> R D}{pos : AJ}
theorem SB.congr{g:Rho -> R An}(h : SB X CL W a f)(e : ∀ ρ, g ρ = f ρ) : SB X CL W a g := fun A => PT.weak (h A) fun σ H Q ⟨hA, ρ, q, p⟩ => ⟨hA, ρ, q, by rw[<-e];exact p⟩
theorem UQ(ha : SB X CL W a f) : SB X CL W (.UnaryOp .Not a pos) (fun ρ => (f ρ).bind fun b => .ok (!b)) := fun A => PT.weak (UC (ha A)) fun σ H Q ⟨hA, ρ, g, p⟩ => ⟨hA, ρ, g, Cc.bindB p fun b H1 _ s1 p1 => p1 H1 (Av.refl H1)⟩
noncomputable def SW(X : Cx)(CL : ClA)(W : XW)(e : Ao)(f : Rho -> R An) : Prop := ∀ A, PW X e (fun σ H Q => AOk H A /\ ∃ ρ, Good X.K CL A ρ σ H /\ Cc W H (f ρ) Q)
theorem PW.weak{t:TT}(h : PW X e t)(k : ∀ σ H Q, t' σ H Q -> t σ H Q) : PW X e t' := fun wh pI s σ H Q I q => h wh pI s σ H Q I (k _ _ _ q)
theorem SW.sb(h : SW X CL W a f) : SB X CL W a f := fun A => PW.pt (h A)
theorem SW.congr{g:Rho -> R An}(h : SW X CL W a f)(e : ∀ ρ, g ρ = f ρ) : SW X CL W a g := fun A => PW.weak (h A) fun σ H Q ⟨hA, ρ, q, p⟩ => ⟨hA, ρ, q, by rw[<-e];exact p⟩
theorem MO(ha : SB X CL W a f) : SW X CL W (.BoolOp .And [a] pos) f := fun A => TW (ha A)
theorem Np(ha : SB X CL W a f) : SW X CL W (.BoolOp .Or [a] pos) f := fun A => UA (ha A)
theorem Nq{g:Rho -> R An}{rest : Ac Ao}(ha : SB X CL W a f)(hb : SW X CL W (.BoolOp .And (b::rest) pos) g) : SW X CL W (.BoolOp .And (a::b::rest) pos) (fun ρ => (f ρ).bind fun c => if c = Ab then g ρ else .ok Ad):=
 fun A => PW.weak (UB (ha A) (hb A)) fun σ H Q ⟨hA, ρ, gd, p⟩ => ⟨hA, ρ, gd, Cc.bindB p fun c H1 _ s1 p1 => by
  cases c with
  |true => exact⟨hA.same s1, ρ, gd.same s1, p1⟩
  | false => exact p1 H1 (Av.refl H1)⟩
theorem Oj{g:Rho -> R An}{rest : Ac Ao}(ha : SB X CL W a f)(hb : SW X CL W (.BoolOp .Or (b::rest) pos) g) : SW X CL W (.BoolOp .Or (a::b::rest) pos) (fun ρ => (f ρ).bind fun c => if c = Ab then .ok Ab else g ρ):=
 fun A => PW.weak (WQ (ha A) (hb A)) fun σ H Q ⟨hA, ρ, gd, p⟩ => ⟨hA, ρ, gd, Cc.bindB p fun c H1 _ s1 p1 => by
  cases c with
  |false => exact⟨hA.same s1, ρ, gd.same s1, p1⟩
  | true => exact p1 H1 (Av.refl H1)⟩
theorem UR(ho : OpD X CL W (BN op) g)(ha : ST X CL W a fa)(hb : ST X CL W b fb)(hm : EZ op b = Ad) : SB X CL W (.Compare a [op] [b] pos) (fun ρ => (fa ρ).bind fun x => (fb ρ).bind fun y => (g x y).bind Cy):=
 fun A => PT.weak (TZ (ho A) (ha A) (hb A) hm) fun σ H Q ⟨hA, ρ, gd, p⟩ => ⟨hA, ρ, gd, Cc.bind p fun dx x H1 _ s1 r1 p1 => ⟨hA.same s1, ρ, gd.same s1, Cc.bind p1 fun dy y H2 _ s2 r2 p2=>
  ⟨(hA.same s1).same s2, dx, dy, r1.same s2, r2, Cc.bind p2 fun dz z H3 _ s3 r3 p3 => by
   cases dz with
   |bl k => exact⟨k, r3, p3 H3 (Av.refl H3)⟩
   | _ => exact p3.elim⟩⟩⟩
theorem Sa(hu : X.A.units+64<Bo)(ha : ST X CL W a fa)(hb : ST X CL W b fb)(hc : ST X CL W c fc)(hm : Gp [op, op'] [b, c] = Ad):SB X CL W (.Compare a [op,op'] [b,c] pos) (fun ρ =>(fa ρ).bind fun x =>(fb ρ).bind fun y =>(Bj op x y).bind fun z =>(Cy z).bind fun k =>if k = Ab then (fc ρ).bind fun u =>(Bj op' y u).bind Cy else .ok Ad):=
  fun A => PT.weak (Si (Hc hu op A) (Hc hu op' A) (ha A) (hb A) (hc A) hm) fun σ H Q ⟨hA, ρ, g, p⟩ => ⟨hA, ρ, g, Cc.bind p fun dx x H1 _ s1 r1 p1 => ⟨hA.same s1, ρ, g.same s1, Cc.bind p1 fun dy y H2 _ s2 r2 p2=>
    ⟨(hA.same s1).same s2, dx, dy, r1.same s2, r2, Cc.bind p2 fun dz z H3 _ s3 r3 p3 => by
      cases dz with
      |bl k=>
        refine⟨k, r3, ?_⟩;cases k with
        |false => exact⟨Ad, rfl, p3 H3 (Av.refl H3)⟩
        | true => exact⟨((hA.same s1).same s2).same s3, ρ, ((g.same s1).same s2).same s3, Cc.bind p3 fun du u H4 _ s4 r4 p5 => ⟨(((hA.same s1).same s2).same s3).same s4, dy, du, (r2.same s3).same s4, r4, Cc.bind p5 fun dv v H5 _ s5 r5 p6 => by
            cases dv with
            |bl k' => exact⟨k', r5, p6 H5 (Av.refl H5)⟩
            | _ => exact p6.elim⟩⟩
      | _ => exact p3.elim⟩⟩⟩
theorem Jg(ha : ST X CL W a fa)(he : ∀ whole, FQ a X.env whole = (do let v <-whole;GJ a.pos;holding [v] (truthy v))) : SB X CL W a (fun ρ => (fa ρ).bind Bc):=
 fun A => PT.weak (Sh (ha A) he) fun σ H Q ⟨hA, ρ, g, p⟩ => ⟨hA, ρ, g, Cc.bind p fun d v H1 _ s1 r1 p1 => by
  cases d with
  |non=>
   have e := r1.non_of;subst e;exact⟨Ad, rfl, p1 H1 (Av.refl H1)⟩
  |bl b=>
   have e := r1.bl_of;subst e;exact⟨b, rfl, p1 H1 (Av.refl H1)⟩
  |int i=>
   have e := r1.int_of;subst e;exact⟨_, rfl, p1 H1 (Av.refl H1)⟩
  |str x=>
   have e := r1.str_of;subst e;have p2 : Cc W H1 (if C5 x.length = Ab then .ok (x.length != 0) else .bad) Q := p1
   split at p2
   ·rename_i h;refine⟨_, ⟨G9 h, rfl⟩, ?_⟩;have e : ((x.length : Ag) != 0) = (x.length != 0) := by
     rw[CV];simp
    rw[e];exact p2 H1 (Av.refl H1)
   ·exact p2.elim
  |tup ds=>
   obtain⟨q, xs, rfl, _, sq, r⟩ := r1.tup_of;refine⟨_, .inr (.inl ⟨xs, sq, rfl⟩), ?_⟩;have e : xs.isEmpty = ds.isEmpty := by
    have := r.length;cases xs <;> cases ds <;> first|rfl|cases this
   rw[e];exact p1 H1 (Av.refl H1)
  |lst ds=>
   obtain⟨q, xs, rfl, sq, r⟩ := r1.lst_of;refine⟨_, .inl ⟨xs, sq, rfl⟩, ?_⟩;have e : xs.isEmpty = ds.isEmpty := by
    have := r.length;cases xs <;> cases ds <;> first|rfl|cases this
   rw[e];exact p1 H1 (Av.refl H1)
  | _ => exact p1.elim⟩
noncomputable def Yl(K : Fg)(CL : ClA)(H : Hp)(A : Ai -> Prop)(cls : Ah)(dx : Am Ai)(x : Ex) : Prop:=
 ∃ C, CL x.c = Aa C /\ cls = .ref C /\ (x.fs = [] \/ ∃ d vs, dx = Aa d /\ ¬ A d /\ H d = Aa (.xd vs) /\ Repf K CL H A vs x.fs)
noncomputable def EJ(K : Fg)(CL : ClA)(H : Hp)(cls : Ah)(dx : Am Ai)(x : Ex) : Prop := ∀ A, AOk H A -> Yl K CL H A cls dx x
end
noncomputable def Bg(B : Ai -> Prop)(ρ : Rho)(σ : L2.St) : Ai -> Prop := fun a => B a \/ ∃(j : Ae)(d : D), ρ[j]? = Aa (Aa (d, Ab)) /\ σ[j]? = Aa (Aa (.ref a))
structure Sx (K : Fg) (CL : ClA) (Fz : Ai -> HO -> Prop) (B : Ai -> Prop) (ρ : Rho) (σ : L2.St) (H : Hp) : Prop where
 good : Good K CL (Bg B ρ σ) ρ σ H
 aok : AOk H (Bg B ρ σ)
 new : ∀(j : Ae)(d : D)(a : Ai), ρ[j]? = Aa (Aa (d, Ab)) -> σ[j]? = Aa (Aa (.ref a)) -> (∀ o, ¬ Fz a o) /\ ¬ B a
 dis : ∀(i j : Ae)(d e : D)(a : Ai), ρ[i]? = Aa (Aa (d, Ab)) -> ρ[j]? = Aa (Aa (e, Ab)) -> σ[i]? = Aa (Aa (.ref a)) -> σ[j]? = Aa (Aa (.ref a)) -> i = j
 same : ∀ b o, Fz b o -> H b = Aa o
 len : ρ.length = σ.length
noncomputable def Bq(K : Fg)(CL : ClA)(Fz : Ai -> HO -> Prop)(B : Ai -> Prop)(W : XW)(o : O)(D : Ends) : Prop := match o with
  |.next ρ => ∀ σ H, Sx K CL Fz B ρ σ H -> D.nx σ H
  |.brk ρ => ∀ σ H, Sx K CL Fz B ρ σ H -> D.bk σ H
  |.cont ρ => ∀ σ H, Sx K CL Fz B ρ σ H -> D.ct σ H
  |.ret d fr => ∀ v H, (∀ b o, Fz b o -> H b = Aa o) -> Rep K CL H B v d -> (fr = Ab -> ∀ ds, d = .lst ds -> ∃ a xs, v = .ref a /\ (∀ o, ¬ Fz a o) /\ H a = Aa (.lst xs) /\ Reps K CL H (fun b => B b \/ b = a) xs ds) -> D.rt v H
  |.exn x _ => ∀ H, (∀ b o, Fz b o -> H b = Aa o) -> W x H
  |.bad => AH
section
variable{K : Fg}{CL : ClA}{Fz Fy : Ai -> HO -> Prop}{B : Ai -> Prop}{ρ : Rho}{σ : L2.St}{H H' : Hp}
theorem Sx.mono(k : ∀ b o, Fz b o -> Fy b o)(x : Sx K CL Fy B ρ σ H) : Sx K CL Fz B ρ σ H := ⟨x.good, x.aok, fun j d a h1 h2 => ⟨fun o z => (x.new j d a h1 h2).1 o (k _ _ z), (x.new j d a h1 h2).2⟩, x.dis, fun b o z => x.same b o (k _ _ z), x.len⟩
theorem Sx.grow(x : Sx K CL Fz B ρ σ H)(s : Av H H') : Sx K CL Fz B ρ σ H' := ⟨x.good.same s, x.aok.same s, x.new, x.dis, fun b o z => s _ _ (x.same b o z), x.len⟩
theorem BE{l : Ac α}{v : α}(h : i ≠ j) : (l.set i v)[j]? = l[j]? := by rw[Eh h]
theorem EH{l : Ac α}{v w' : α}(h : (l.set i v)[i]? = Aa w') : w' = v := by
 rw[DN]at h;cases e : l[i]? with
 |none => rw[e]at h;cases h
 |some x => rw[e]at h;cases h;rfl
theorem Sx.set(x : Sx K CL Fz B ρ σ H){v : V}{d : D}(i : Ae)(r : Rep K CL H (Bg B ρ σ) v d) : Sx K CL Fz B (ρ.set i (Aa (d, Ad))) (σ.set i (Aa v)) H := by
 have own : ∀(j : Ae)(e : D), (ρ.set i (Aa (d, Ad)))[j]? = Aa (Aa (e, Ab)) -> i ≠ j /\ ρ[j]? = Aa (Aa (e, Ab)) := fun j e h => by
  by_cases hj : i = j
  ·subst hj;have := EH h;cases this
  ·exact⟨hj, by rw[BE hj]at h;exact h⟩
 have sub : ∀ a, Bg B (ρ.set i (Aa (d, Ad))) (σ.set i (Aa v)) a -> Bg B ρ σ a := fun a h => by
  rcases h with h|⟨j, e, h1, h2⟩
  ·exact .inl h
  ·obtain⟨hj, h1⟩ := own j e h1;rw[BE hj]at h2;exact .inr ⟨j, e, h1, h2⟩
 refine⟨⟨fun j e h => ?_, fun j e h => ?_, by rw[AU, AU];exact x.len⟩, fun a h => x.aok a (sub a h), fun j e a h1 h2 => ?_, fun j k e f a h1 h2 h3 h4 => ?_, x.same, by rw[AU, AU];exact x.len⟩
 ·by_cases hj : i = j
  ·subst hj;have e1 := EH h;cases e1;refine⟨v, ?_, Rep.sub sub _ r⟩;have hl : i<σ.length := by
    rw[<-x.len];have := (AZ.mp h).1;simpa using this
   rw[B6 hl]
  ·rw[BE hj]at h;obtain⟨w', q, rw'⟩ := x.good.sh j e h;exact⟨w', by rw[BE hj];exact q, Rep.sub sub _ rw'⟩
 ·obtain⟨hj, h1⟩ := own j e h;obtain⟨a, xs, ds, q, z, ha, hh, rr⟩ := x.good.ow j e h1;exact⟨a, xs, ds, by rw[BE hj];exact q, z, .inr ⟨j, e, h, by rw[BE hj];exact q⟩, hh, Reps.sub sub _ rr⟩
 ·obtain⟨hj, h1⟩ := own j e h1;rw[BE hj]at h2;exact x.new j e a h1 h2
 ·obtain⟨hj, h1⟩ := own j e h1;obtain⟨hk, h2⟩ := own k f h2;rw[BE hj]at h3;rw[BE hk]at h4;exact x.dis j k e f a h1 h2 h3 h4
end
section
variable{X : Cx}{CL : ClA}{W : XW}{pos : AJ}{e : Ao}{fe : Rho -> R D}
noncomputable def SS(X : Cx)(CL : ClA)(W : XW)(st : A2)(f : Rho -> O) : Prop := ∀ Fz B, PS X st (fun D σ H => ∃ ρ, Sx X.K CL Fz B ρ σ H /\ Bq X.K CL Fz B W (f ρ) D)
noncomputable def SSs(X : Cx)(CL : ClA)(W : XW)(st : Ac A2)(f : Rho -> O) : Prop := ∀ Fz B, PSs X st (fun D σ H => ∃ ρ, Sx X.K CL Fz B ρ σ H /\ Bq X.K CL Fz B W (f ρ) D)
theorem PS.weak{e : A2}{t t':TS}(h : PS X e t)(k : ∀ D σ H, t' D σ H -> t D σ H) : PS X e t' := fun pI s σ H D I q => h pI s σ H D I (k _ _ _ q)
theorem PSs.weak{e : Ac A2}{t t':TS}(h : PSs X e t)(k : ∀ D σ H, t' D σ H -> t D σ H) : PSs X e t' := fun pI s σ H D I q => h pI s σ H D I (k _ _ _ q)
theorem Bq.ex{f:D -> O}(x : Sx X.K CL Fz B ρ σ H)(h : Bq X.K CL Fz B W (O.of ρ r f) D')(k : ∀ d v H', r = .ok d -> Av H H' -> Rp H' v d -> Sx X.K CL Fz B ρ σ H' -> Bq X.K CL Fz B W (f d) D' -> Q v H') : AX Rp W H r Q := by
 cases r with
 |ok d => exact fun v H' s r => k d v H' rfl s r (x.grow s) h
 |exn y => exact fun H' s => h H' fun b o z => s _ _ (x.same b o z)
 |bad => exact h
theorem Bq.exB{r:R An}{f:An -> O}{Q:An -> Hp -> Prop}(x : Sx X.K CL Fz B ρ σ H)(h : Bq X.K CL Fz B W (O.of ρ r f) D')(k : ∀ b H', r = .ok b -> Av H H' -> Sx X.K CL Fz B ρ σ H' -> Bq X.K CL Fz B W (f b) D' -> Q b H') : Cc W H r Q := by
 cases r with
 |ok d => exact fun H' s => k d H' rfl s (x.grow s) h
 |exn y => exact fun H' s => h H' fun b o z => s _ _ (x.same b o z)
 |bad => exact h
theorem Tw(he : SE X CL W e fe)(hs : Co e Af pos.line X.env = pure Ad) : SS X CL W (.Expr e pos) (fun ρ => O.of ρ (fe ρ) fun _ => .next ρ) := fun Fz B pI s σ H D I ⟨ρ, x, p⟩=>
 IV (he (Bg B ρ σ)) hs pI s σ H D I ⟨x.aok, ρ, x.good, Bq.ex x p fun d v H' _ s r x' q => q σ H' x'⟩
theorem Va{n:Aj}(hN : X.N.Nodup)(hi : X.N[i]? = Aa n)(hx : Loc X.env.scope n)(he : SE X CL W e fe)(hs : Co e (Aa (.Name n pos')) pos.line X.env = pure Ad)(hf : X.fn n = Ab \/ X.env.scope.names.lookup n = Aa .local):SS X CL W (.Assign [.Name n pos'] e pos) (fun ρ =>O.of ρ (fe ρ) fun d =>.next (ρ.set i (Aa (d,Ad)))) := fun Fz B pI s σ H D I ⟨ρ, x, p⟩=>
 Jh hN hi hx (he (Bg B ρ σ)) hs hf pI s σ H D I ⟨x.aok, ρ, x.good, Bq.ex x p fun d v H' _ s r x' q => q _ H' (x'.set i r)⟩
theorem MP(he : SE X CL W e fe) : SS X CL W (.Return (Aa e) pos) (fun ρ => O.of ρ (fe ρ) fun d => .ret d Ad) := fun Fz B pI s σ H D I ⟨ρ, x, p⟩=>
 Kt (he (Bg B ρ σ)) pI s σ H D I ⟨x.aok, ρ, x.good, Bq.ex x p fun d v H' _ s r x' q => q v H' x'.same (Rep.sub (fun a h => .inl h) _ r) fun z => nomatch z⟩
theorem Ol{a b:Ac A2}{fa fb:Rho -> O}(hc : SB X CL W c fc)(ha : SSs X CL W a fa)(hb : SSs X CL W b fb) : SS X CL W (.If c a b pos) (fun ρ => O.of ρ (fc ρ) fun k => if k = Ab then fa ρ else fb ρ) := fun Fz B pI s σ H D I ⟨ρ, x, p⟩=>
 WR (hc (Bg B ρ σ)) (ha Fz B) (hb Fz B) pI s σ H D I ⟨x.aok, ρ, x.good, Bq.exB x p fun k H' _ s x' q => by
  cases k with
  |true => exact⟨ρ, x', q⟩
  | false => exact⟨ρ, x', q⟩⟩
theorem Ke : SSs X CL W [] (fun ρ => .next ρ) := fun Fz B => PSs.weak T4 fun D σ H ⟨ρ, x, p⟩ => p σ H x
theorem IJ{st : A2}{rest : Ac A2}{f g:Rho -> O}(h1 : SS X CL W st f)(h2 : SSs X CL W rest g) : SSs X CL W (st::rest) (fun ρ => (f ρ).seq g) := fun Fz B => PSs.weak (Mv (h1 Fz B) (h2 Fz B)) fun D σ H ⟨ρ, x, p⟩ => ⟨ρ, x, by
 dsimp only at p;cases e : f ρ with
 |next ρ' => rw[e]at p;exact fun σ' H' x' => ⟨ρ', x', p⟩
 |ret d b => rw[e]at p;exact p
 |brk ρ' => rw[e]at p;exact p
 |cont ρ' => rw[e]at p;exact p
 |exn y ρ' => rw[e]at p;exact p
 | bad => rw[e]at p;exact p⟩
end
noncomputable def GY(K : Fg)(CL : ClA)(A : Ai -> Prop)(ds : Ac D)(J : It)(H1 : Hp) : Prop := ∀ H, Kp A H1 H -> ∀ i : Ae, (ds.length <= i -> J.stop i H) /\ ∀ d, ds[i]? = Aa d -> J.go i H /\ ∀ x H', J.yld i H x H' -> Av H H' /\ ∀ B, (∀ a, B a -> A a \/ H1 a = Af) -> AOk H B -> Rep K CL H' B x d
noncomputable def DU(K : Fg)(CL : ClA)(A : Ai -> Prop)(W : XW)(H : Hp)(r : R (Ac D))(Q : It -> Hp -> Prop) : Prop := match r with
  |.ok ds => ∀ J H', Av H H' -> GY K CL A ds J H' -> ds.length <= sizeLine -> Q J H'
  |.exn x => ∀ H', Av H H' -> W x H'
  |.bad => AH
noncomputable def SI(X : Cx)(CL : ClA)(W : XW)(tg iter : Ao)(f : Rho -> R (Ac D)) : Prop := ∀ A, PI X tg iter (fun σ H R => AOk H A /\ ∃ ρ, Good X.K CL A ρ σ H /\ DU X.K CL A W H (f ρ) R)
theorem PI.weak{t t':TI}(h : PI X tg e t)(k : ∀ σ H Q, t' σ H Q -> t σ H Q) : PI X tg e t' := fun pI s σ H Q I q => h pI s σ H Q I (k _ _ _ q)
section
variable{X : Cx}{CL : ClA}{W : XW}{pos p : AJ}{tg e a b : Ao}{fe fa fb : Rho -> R D}
theorem DU.ex{f:D -> R (Ac D)}{Q:It -> Hp -> Prop}{Q':VK}(h : DU X.K CL A W H (r.bind f) Q)(k : ∀ d v H', r = .ok d -> Av H H' -> Rp H' v d -> DU X.K CL A W H' (f d) Q -> Q' v H') : AX Rp W H r Q' := by
  cases r with
  | ok d => exact fun v H' s q => k d v H' rfl s q (by
      have h' : DU X.K CL A W H (f d) Q := h;cases e : f d with
      |ok ds => rw[e]at h';exact fun J H2 s2 y z => h' J H2 (s.trans s2) y z
      |exn y => rw[e]at h';exact fun H2 s2 => h' H2 (s.trans s2)
      | bad => rw[e]at h';exact h')
  |exn y => exact h
  |bad => exact h
theorem L7{x:V}(r : Rep K CL H1 A x d)(k : Kp A H1 H)(hB : ∀ a, B a -> A a \/ H1 a = Af) : Rep K CL H B x d := by
 have r1 : Rep K CL H1 (fun a => A a \/ B a) x d := Rep.wide (fun a ha => ha.elim .inl (hB a)) _ r
 have r2 : Rep K CL H (fun a => A a \/ B a) x d := Rep.kp (fun b o e na => k b o e fun z => na (.inl z)) _ r1
 exact Rep.sub (fun a ha => .inr ha) _ r2
theorem QK{ds : Ac D}(na : ¬ A q \/ KL K q xs)(s : SqL K H q xs)(r : Reps K CL H A xs ds) : GY K CL A ds (Itl K q) H := fun H' k i => by
 have s' := Ky k na s;refine⟨fun h => ⟨xs, s', by rw[r.length];exact h⟩, fun d hd => ?_⟩
 obtain⟨v, hv, rv⟩ := r.get hd;exact⟨⟨xs, v, s', hv⟩, fun x H2 ⟨e, y⟩ => by
  subst e;have := y xs s';rw[hv]at this;cases this;exact⟨Av.refl _, fun B hB _ => L7 rv k hB⟩⟩
theorem Rn{ds : Ac D}(na : ¬ A q \/ KT K q xs)(s : SqT K H q xs)(r : Reps K CL H A xs ds) : GY K CL A ds (Itt K q) H := fun H' k i => by
 have s' := Kx k na s;refine⟨fun h => ⟨xs, s', by rw[r.length];exact h⟩, fun d hd => ?_⟩
 obtain⟨v, hv, rv⟩ := r.get hd;exact⟨⟨xs, v, s', hv⟩, fun x H2 ⟨e, y⟩ => by
  subst e;have := y xs s';rw[hv]at this;cases this;exact⟨Av.refl _, fun B hB _ => L7 rv k hB⟩⟩
theorem MJ(lo : Ag)(n : Ae) : GY K CL A (DX lo n) (Itr lo n) H := fun H' k i => by
 refine⟨fun h => by rw[JO]at h;exact h, fun d hd => ?_⟩
 obtain⟨h1, rfl⟩ := RQ hd;exact⟨h1, fun x H2 ⟨e, y⟩ => by
  subst e y;exact⟨Av.refl _, fun _ _ _ => rfl⟩⟩
theorem UG{l:Ao}{tl:TE}(hl : PE X l tl) : PI X tg l (fun σ H R => tl σ H fun x H1 => (∃ a, x = .ref a /\ (∃ xs, SqL X.K H1 a xs /\ (xs.length <= sizeLine -> R (Itl X.K a) H1))) \/ ∃ a, x = .ref a /\ (∃ xs, SqT X.K H1 a xs /\ (xs.length <= sizeLine -> R (Itt X.K a) H1))) := by
 intro pI s σ H R I h;refine thn (hl pI s σ H _ I h) fun v s1 ⟨x, H1, I1, r1, q1⟩ => ?_
 rcases q1 with ⟨a, e, xs, hq, q⟩|⟨a, e, xs, hq, q⟩
 ·subst e;cases r1;obtain⟨its, rv, p, hz⟩ := I1.list hq;refine QB p.isList ?_;refine⟨s1.heap.objs.size, [s1.heap.objs.size], _, _, H1, rfl, I1.kept (t' := s1.toks) fun b o e => As _ e, QZ a _, ⟨_, Be _ rfl, rfl, rfl⟩, fun b hb => ?_, q hz⟩
  have e : b = s1.heap.objs.size := by simpa using hb
  subst e;exact I1.fpOk (AL _) (I1.hok.fresh (AL _))
 ·subst e;cases r1;obtain⟨its, rv, p, hz⟩ := I1.tuple hq;refine wpAny_pyIter_tuple (show s1.heap.IsTuple a its.toArray from p) ?_
  refine⟨s1.heap.objs.size, [s1.heap.objs.size], _, _, H1, rfl, I1.kept (t' := s1.toks) fun b o e => As _ e, QM a _, ⟨_, Be _ rfl, rfl, rfl⟩, fun b hb => ?_, q hz⟩
  have e : b = s1.heap.objs.size := by simpa using hb
  subst e;exact I1.fpOk (AL _) (I1.hok.fresh (AL _))
theorem XX(he : SE X CL W e fe) : SI X CL W tg e (fun ρ => (fe ρ).bind DI) := fun A => PI.weak (UG (he A)) fun σ H R ⟨hA, ρ, g, p⟩ => ⟨hA, ρ, g, DU.ex p fun d v H1 _ s1 r1 p1 => by
 cases d with
 |lst ds=>
  obtain⟨q, xs, rfl, na, sq, r⟩ := r1;exact .inl ⟨q, rfl, xs, sq, fun hz => p1 _ H1 (Av.refl H1) (QK na sq r) (by rw[<-r.length];exact hz)⟩
 |tup ds=>
  obtain⟨q, xs, rfl, na, sq, r⟩ := r1;exact .inr ⟨q, rfl, xs, sq, fun hz => p1 _ H1 (Av.refl H1) (Rn na sq r) (by rw[<-r.length];exact hz)⟩
 | _ => exact p1.elim⟩
theorem L8{ds : Ac D}(h : C4 lo hi = .ok ds) : (-(2 ^ 62) <= lo /\ lo<2 ^ 62) /\ (-(2 ^ 62) <= hi /\ hi<2 ^ 62) /\ ds = DX lo (hi-lo).toNat /\ (DX lo (hi-lo).toNat).length <= sizeLine := by
 unfold C4 at h;split at h
 ·rename_i q;cases h;exact⟨by omega, by omega, rfl, by rw[JO, Ct];omega⟩
 ·cases h
theorem LR(h : C4 lo hi = .exn x) : AH := by
 unfold C4 at h;split at h <;> cases h
theorem Vg(ha : ST X CL W a fa)(hg : Gl X "range")(hm : X.mg "range" = Af)(hs : Ar [a] X.env = [(Ad, eval a X.env)]) : SI X CL W tg (.Call (.Name "range" p) [a] [] pos) (fun ρ => (fa ρ).bind fun x => (Dq x).bind fun j => C4 0 j):=
 fun A => PI.weak (RB hg hm (DR (ha A) FG hs) hs) fun σ H R ⟨hA, ρ, g, q⟩ => ⟨hA, ρ, g, DU.ex q fun d v H1 _ s1 r1 p1 => by
  cases d with
  |int j=>
   have e := r1.int_of;subst e;have p2 : DU X.K CL A W H1 (C4 0 j) R := p1;cases e2 : C4 0 j with
   |ok ds=>
    rw[e2]at p2;obtain⟨_, h2, rfl, hz⟩ := L8 e2;exact⟨j, rfl, h2.1, h2.2, p2 _ H1 (Av.refl H1) (by rw[Ge];exact MJ 0 j.toNat) hz⟩
   |exn y => exact(LR e2).elim
   |bad => rw[e2]at p2;exact p2.elim
  | _ => exact p1.elim⟩
theorem TF(ha : ST X CL W a fa)(hb : ST X CL W b fb)(hg : Gl X "range")(hm : X.mg "range" = Af)(hs : Ar [a, b] X.env = [(Ad, eval a X.env), (Ad, eval b X.env)])(hs2 : Ar [b] X.env = [(Ad, eval b X.env)]):
  SI X CL W tg (.Call (.Name "range" p) [a, b] [] pos) (fun ρ => (fa ρ).bind fun x => (fb ρ).bind fun y => (Dq x).bind fun i => (Dq y).bind fun j => C4 i j):=
 fun A => PI.weak (RA hg hm (DR (ha A) (DR (hb A) FG hs2) (by rw[hs, hs2])) hs hs2) fun σ H R ⟨hA, ρ, g, q⟩ => ⟨hA, ρ, g, DU.ex q fun d v H1 _ s1 r1 p1 => ⟨hA.same s1, ρ, g.same s1, DU.ex p1 fun d2 v2 H2 _ s2 r2 p2 => by
  cases d with
  |int i=>
   cases d2 with
   |int j=>
    have e := r1.int_of;have e' := r2.int_of
    subst e e';have p3 : DU X.K CL A W H2 (C4 i j) R := p2;cases e2 : C4 i j with
    |ok ds=>
     rw[e2]at p3;obtain⟨h1, h2, rfl, hz⟩ := L8 e2;exact⟨i, j, rfl, ⟨h1.1, h1.2, h2.1, h2.2⟩, p3 _ H2 (Av.refl H2) (MJ _ _) hz⟩
    |exn y => exact(LR e2).elim
    |bad => rw[e2]at p3;exact p3.elim
   |_ => exact p2.elim
  | _ => exact p2.elim⟩⟩
theorem Bq.exI{r:R (Ac D)}{f:Ac D -> O}{Q:It -> Hp -> Prop}(x : Sx X.K CL Fz B ρ σ H)(h : Bq X.K CL Fz B W (O.of ρ r f) D')(k : ∀ ds J H', r = .ok ds -> Av H H' -> GY X.K CL A ds J H' -> ds.length <= sizeLine -> Sx X.K CL Fz B ρ σ H' -> Bq X.K CL Fz B W (f ds) D' -> Q J H') : DU X.K CL A W H r Q := by
 cases r with
 |ok d => exact fun J H' s y z => k d J H' rfl s y z (x.grow s) h
 |exn y => exact fun H' s => h H' fun b o z => s _ _ (x.same b o z)
 |bad => exact h
theorem Bq.turn{Fy:Ai -> HO -> Prop}{o:O}{g:Rho -> O}{N:L2.St -> Hp -> Prop}(hf : ∀ b q, Fz b q -> Fy b q)(h : Bq K CL Fz B W (o.turn g) D')(k : ∀ ρ' σ' H', Sx K CL Fy B ρ' σ' H' -> Bq K CL Fz B W (g ρ') D' -> N σ' H'):Bq K CL Fy B W o {D' with nx := N,ct := N,bk := D'.nx} := by
 cases o with
 |next ρ' => exact fun σ' H' x => k ρ' σ' H' x h
 |cont ρ' => exact fun σ' H' x => k ρ' σ' H' x h
 |brk ρ' => exact fun σ' H' x => h σ' H' (x.mono hf)
 |ret d b => exact fun v H' s r n => h v H' (fun b o z => s b o (hf b o z)) r fun z ds e => let ⟨a, xs, h1, h2, h3⟩ := n z ds e;⟨a, xs, h1, fun o q => h2 o (hf a o q), h3⟩
 |exn y ρ' => exact fun H' s => h H' (fun b o z => s b o (hf b o z))
 |bad => exact h
noncomputable def Ev(ts : Ac Ae)(ρ : Rho) : Rho := ts.foldl (fun ρ t => ρ.set t Af) ρ
noncomputable def GT(K : Fg)(CL : ClA)(as : D -> Rho -> R Rho)(g : TG) : Prop := ∀ Fz B ρ σ H v d ρ' Q, Sx K CL Fz B ρ σ H -> Rep K CL H (Bg B ρ σ) v d -> as d ρ = .ok ρ' -> (∀ σ', Sx K CL Fz B ρ' σ' H -> Q σ' H) -> g v σ H Q
theorem Ug(i : Ae) : GT K CL (fun d ρ => .ok (ρ.set i (Aa (d, Ad)))) (E3 i) := fun Fz B ρ σ H v d ρ' Q x r e k => by
 cases e;exact k _ (x.set i r)
theorem NY{K : Fg}{Fz : Ai -> HO -> Prop}{B : Ai -> Prop}{H : Hp} : ∀(ts : Ac Ae)(ds : Ac D)(vs : Ac V)(ρ ρ' : Rho)(σ : L2.St)(Q : L2.St -> Hp -> Prop), Sx K CL Fz B ρ σ H -> Reps K CL H (Bg B ρ σ) vs ds -> E1 ts ds ρ = Aa ρ' -> (∀ σ', Sx K CL Fz B ρ' σ' H -> Q σ' H) -> (ts.foldr (fun t u => Ip (E3 t) u) Iw) vs σ H Q
 |[], [], [], ρ, ρ', σ, Q, x, _, e, k => by
  cases e;exact⟨rfl, k σ x⟩
 |t::ts, d::ds, v::vs, ρ, ρ', σ, Q, x, r, e, k => by
  refine⟨v, vs, rfl, NY ts ds vs _ ρ' _ Q (x.set t r.1) (Reps.sub (fun a ha => ?_) ds r.2) e k⟩
  rcases ha with ha|⟨j, c, h1, h2⟩
  ·exact .inl ha
  ·by_cases hj : t = j
   ·subst hj;have := EH h1;cases this
   ·rw[BE hj]at h1 h2;exact .inr ⟨j, c, h1, h2⟩
 |[], _::_, _, _, _, _, _, _, _, e, _ => by cases e
 |_::_, [], _, _, _, _, _, _, _, e, _ => by cases e
 |[], [], _::_, _, _, _, _, _, r, _, _ => r.elim
 |_::_, _::_, [], _, _, _, _, _, r, _, _ => r.elim
theorem LQ : ∀(ts : Ac Ae)(ds : Ac D)(ρ ρ' : Rho), E1 ts ds ρ = Aa ρ' -> ds.length = ts.length
 |[], [], _, _, _ => rfl
 |_::ts, _::ds, _, _, e => congrArg (· + 1) (LQ ts ds _ _ e)
 |[], _::_, _, _, e => by cases e
 |_::_, [], _, _, e => by cases e
theorem Vz(ts : Ac Ae) : GT K CL (E2 ts) (Ls K ts.length (ts.foldr (fun t u => Ip (E3 t) u) Iw)) := fun Fz B ρ σ H v d ρ' Q x r e k => by
 cases d with
 |tup ds=>
  obtain⟨a, xs, rfl, na, sq, rs⟩ := r;rw[Re]at e;cases e2 : E1 ts ds ρ with
  |none => rw[e2]at e;cases e
  |some ρ2=>
   rw[e2]at e;cases e;exact⟨a, xs, rfl, sq, by rw[rs.length];exact LQ _ _ _ _ e2, NY ts ds xs ρ _ σ Q x rs e2 k⟩
 |_ => cases e
theorem Nt{body:Ac A2}{fbd:Rho -> O}{g:TG}(hp : DE (model X.prog X.w) X.A X.env X.xe)(hc : X.calm = Ab)(hGT : GT X.K CL as g)(hg : PG X tg g)(hit : SI X CL W tg iter fi)(hb : SSs X CL W body fbd)(hs : ∀ x, B2 iter X.env x = pure x)(hax : ∀ d ρ x, as d ρ ≠ .exn x):SS X CL W (.For tg iter body [] pos) (fun ρ =>O.of ρ (fi ρ) fun xs =>Dc (fun x ρ' =>O.of ρ' (as x ρ') fbd) xs ρ) := fun Fz B pI s σ H D I ⟨ρ, x, p⟩ => by
 refine UD hp hc (hit (Bg B ρ σ)) hg (tb := fun D σ H => ∃ Fy, (fun D σ H => ∃ ρ, Sx X.K CL Fy B ρ σ H /\ Bq X.K CL Fy B W (fbd ρ) D) D σ H) (fun pI s σ H D I ⟨Fy, q⟩ => hb Fy B pI s σ H D I q) hs pI s σ H D I ⟨x.aok, ρ, x.good, Bq.exI x p fun ds J H1 _ s1 y _ x1 q => ?_⟩
 let Fy : Ai -> HO -> Prop := fun b o => H1 b = Aa o /\ ¬ ∃(j : Ae)(d : Ov.D), ρ[j]? = Aa (Aa (d, Ab)) /\ σ[j]? = Aa (Aa (.ref b))
 have hfy : ∀ b o, Fz b o -> Fy b o := fun b o z => ⟨x1.same b o z, fun ⟨j, d, h1, h2⟩ => (x1.new j d b h1 h2).1 o z⟩
 have xy : Sx X.K CL Fy B ρ σ H1 := ⟨x1.good, x1.aok, fun j d a h1 h2 => ⟨fun o z => z.2 ⟨j, d, h1, h2⟩, (x1.new j d a h1 h2).2⟩, x1.dis, fun b o z => z.1, x1.len⟩
 refine⟨fun k m σ' H' => m = ds.length-k /\ k <= ds.length /\ ∃ ρ', Sx X.K CL Fy B ρ' σ' H' /\ Bq X.K CL Fz B W (Dc (fun x ρ' => O.of ρ' (as x ρ') fbd) (ds.drop k) ρ') D, ⟨ds.length, by simp, EN _, ρ, xy, q⟩, ?_⟩
 rintro k m σ' H' ⟨rfl, hk, ρ', x', q'⟩;have kp : Kp (Bg B ρ σ) H1 H' := fun b o e na => x'.same b o ⟨e, fun z => na (.inr z)⟩
 obtain⟨yst, ygo⟩ := y H' kp k;by_cases hlt : k<ds.length
 ·have hd : ds[k]? = Aa ds[k] := BV hlt;obtain⟨hgo, hyl⟩ := ygo _ hd;refine .inr ⟨hgo, fun σ'' H'' => ∃ ρ'', Sx X.K CL Fy B ρ'' σ'' H'' /\ Bq X.K CL Fz B W (Dc (fun x ρ' => O.of ρ' (as x ρ') fbd) (ds.drop (k+1)) ρ'') D, fun σ'' H'' z => ⟨ds.length-(k+1), by omega, rfl, hlt, z⟩, fun v H2 hv => ?_⟩
  obtain⟨e2, rv⟩ := hyl v H2 hv;rw[Po hlt]at q';have q2 : Bq X.K CL Fz B W ((O.of ρ' (as ds[k] ρ') fbd).turn (Dc (fun x ρ' => O.of ρ' (as x ρ') fbd) (ds.drop (k+1)))) D := q'
  have rv' : Rep X.K CL H2 (Bg B ρ' σ') v ds[k] := rv _ (fun a ha => by
    rcases ha with ha|⟨j, d, h1, h2⟩
    ·exact .inl (.inl ha)
    ·cases e : H1 a with
     |none => exact .inr rfl
     |some o=>
      by_cases ho : ∃(j : Ae)(d : Ov.D), ρ[j]? = Aa (Aa (d, Ab)) /\ σ[j]? = Aa (Aa (.ref a))
      ·exact .inl (.inr ho)
      ·exact absurd ⟨e, ho⟩ ((x'.new j d a h1 h2).1 o)) x'.aok
  cases ea : as ds[k] ρ' with
  |bad => rw[ea]at q2;exact q2.elim
  |exn z => exact absurd ea (hax _ _ z)
  |ok ρ2=>
   rw[ea, O.of_ok]at q2;exact hGT Fy B ρ' σ' H2 v ds[k] ρ2 _ (x'.grow e2) rv' ea fun σ3 x3 => ⟨Fy, ρ2, x3, Bq.turn hfy q2 fun ρ3 σ3 H3 x3 q3 => ⟨ρ3, x3, q3⟩⟩
 ·have hk' : ds.length <= k := by omega
  rw[Pp hk']at q';exact .inl ⟨yst hk', q' σ' H' (x'.mono hfy)⟩
end
section
variable{X : Cx}{CL : ClA}{W : XW}{a b c : Ao}{fa fb fc : Rho -> R D}{pos : AJ}
noncomputable def tyK : Ki -> Am Cv
 |.int => Aa "int"
 |.bool => Aa "bool"
 |.str => Aa "str"
 |.list => Aa "list"
 |.tuple => Aa "tuple"
 |_ => Af
noncomputable def Ku : D -> An
 |.obj _ _ => Ad
 |.exc _ _ => Ad
 |.dic _ => Ad
 |_ => Ab
theorem Vt{Q:Ah -> Al -> Prop}{E : Ah -> Al -> Prop}(I : Inv X pI σ H s)(r : BZ X.K CL H A v d)(q : A7 v u)(hT : tyK k = Aa T)(hd : Ku d = Ab)(h : ∀ s', Inv X pI σ H s' -> Q (.bool (kiD up k d)) s'):
  Au (model X.prog X.w) X.A (call (.builtin "isinstance") [u, .type T]) Q E s := by
 have r' := r.plain;have it := fun t => h _ (I.tok t)
 cases d with
 |obj => cases hd
 |exc => cases hd
 |dic => cases hd
 |non=>
  cases r';cases q;cases k <;> simp only[tyK]at hT <;> cases hT
  ·exact IsiPair.NoneType_int (it _)
  ·exact IsiPair.NoneType_bool (it _)
  ·exact IsiPair.NoneType_str (it _)
  ·exact IsiPair.NoneType_list (it _)
  ·exact IsiPair.NoneType_tuple (it _)
 |bl b=>
  cases r';cases q;cases k <;> simp only[tyK]at hT <;> cases hT
  ·exact IsiPair.bool_int (h _ I)
  ·exact IsiPair.bool_bool (h _ I)
  ·exact IsiPair.bool_str (it _)
  ·exact IsiPair.bool_list (it _)
  ·exact IsiPair.bool_tuple (it _)
 |int i=>
  cases r';obtain⟨t, rfl⟩ := q;cases k <;> simp only[tyK]at hT <;> cases hT
  ·exact IsiPair.int_int (h _ I)
  ·exact IsiPair.int_bool (it _)
  ·exact IsiPair.int_str (it _)
  ·exact IsiPair.int_list (it _)
  ·exact IsiPair.int_tuple (it _)
 |str x=>
  cases r';obtain⟨t, rfl⟩ := q;cases k <;> simp only[tyK]at hT <;> cases hT
  ·exact IsiPair.str_int (it _)
  ·exact IsiPair.str_bool (it _)
  ·exact IsiPair.str_str (h _ I)
  ·exact IsiPair.str_list (it _)
  ·exact IsiPair.str_tuple (it _)
 |tup ds=>
  obtain⟨p, xs, rfl, _, sq, rr⟩ := r';obtain⟨its, rv, pt, _⟩ := I.tuple sq;cases q;have pt' : s.heap.IsTuple p its.toArray := pt;cases k <;> simp only[tyK]at hT <;> cases hT
  ·exact IsiPair.isTuple_int pt' (fun _ _ e => e) (it _)
  ·exact IsiPair.isTuple_bool pt' (fun _ _ e => e) (it _)
  ·exact IsiPair.isTuple_str pt' (fun _ _ e => e) (it _)
  ·exact IsiPair.isTuple_list pt' (fun _ _ e => e) (it _)
  ·exact IsiPair.isTuple_tuple pt' (fun _ _ e => e) (h _ I)
 |lst ds=>
  obtain⟨p, xs, rfl, _, sq, rr⟩ := r';obtain⟨its, rv, pl, _⟩ := I.list sq;cases q;have pt' : s.heap.IsList p its.toArray := Hq pl;cases k <;> simp only[tyK]at hT <;> cases hT
  ·exact IsiPair.isList_int pt' (fun _ _ e => e) (it _)
  ·exact IsiPair.isList_bool pt' (fun _ _ e => e) (it _)
  ·exact IsiPair.isList_str pt' (fun _ _ e => e) (it _)
  ·exact IsiPair.isList_list pt' (fun _ _ e => e) (h _ I)
  ·exact IsiPair.isList_tuple pt' (fun _ _ e => e) (it _)
theorem RE(hT : tyK k = Aa T)(p : AX Rp W H (C7 up [k] d) Q) : Ku d = Ab /\ AX Rp W H (.ok (.bl (kiD up k d))) Q := by
 cases k <;> simp only[tyK]at hT <;> cases hT <;> cases d <;> first|exact p.elim|exact⟨rfl, by simpa using p⟩
theorem UL{x:Aj}{p:AJ}(hT : tyK k = Aa T)(hg : Gl X "isinstance")(hm : X.mg "isinstance" = Af)(hg2 : Gl X x)(hm2 : X.mg x = Af)(hv : B7 x = Aa (.type T))(hn : x ≠ "__name__")(hdb : (x==("__debug__" : Aj)) = Ad)(ha : ST X CL W a fa)(he : Ar [a, .Name x p2] X.env = (Ad, eval a X.env)::Ar [.Name x p2] X.env) : SE X CL W (.Call (.Name "isinstance" p) [a, .Name x p2] [] pos) (fun ρ => (fa ρ).bind fun x => C7 up [k] x) := fun A=>
 PE.weak (HW (r := fun xs H Q => ∃ y d, xs = [y, .ty T] /\ BZ X.K CL H A y d /\ Ku d = Ab /\ Q (.bl (kiD up k d)) H) (fun pI s σ H xs us Q I r ⟨y, d, e, ry, hd, q⟩ => by
   subst e;obtain⟨u, w', rfl, r1, r2⟩ := Hr r;cases r2;exact Vt I ry r1 hT hd fun s' I' => ⟨.bl _, H, I', rfl, q⟩)
  hg hm En (DR (ha A) (DR (Nc (v := .ty T) hg2 hm2 hv rfl hn hdb) FG rfl) he) (by decide) (by decide) he rfl) fun σ H Q ⟨hA, ρ, g, q⟩ => ⟨hA, ρ, g, AX.bind q fun d v H1 _ s1 r1 p1 => by
   obtain⟨hd, p2⟩ := RE hT p1;exact⟨v, d, rfl, r1, hd, p2 _ H1 (Av.refl H1) rfl⟩⟩
theorem SZ{b : An}{A':AN}{E : Ah -> Al -> Prop}{Q:An -> Al -> Prop}{prog:AD}{w:AO}(r : Rep X.K CL H A v d)(q : A7 v u)(h : Ez d = .ok b)(hq : Q b s) : Au (model prog w) A' (truthy u) Q E s := by
 cases d with
 |non=>
  cases r;cases q;cases h;exact truthy_none hq
 |bl k=>
  cases r;cases q;cases h;exact BO hq
 |int i=>
  cases r;obtain⟨t, rfl⟩ := q;cases h;exact truthy_int hq
 |_ => cases h
theorem LN : ∀{ds : Ac D}{b : An}, E4 ds = .ok b -> (∀ j, j<ds.length -> ∃ c, Ez (ds.getD j .non) = .ok c) /\ b = (Ca ds.length).all fun j => match Ez (ds.getD j .non) with
  |.ok c => c
  |_ => Ad
 |[], b, h => by cases h;exact⟨fun j hj => absurd hj (Nat.not_lt_zero _), rfl⟩
 |d::ds, b, h => by
  rw[JL]at h;cases e : Ez d with
  |bad => rw[e]at h;cases h
  |exn x => rw[e]at h;cases h
  |ok c=>
   rw[e, R.bind_ok]at h;cases e2 : E4 ds with
   |bad => rw[e2]at h;cases h
   |exn x => rw[e2]at h;cases h
   |ok c2=>
    rw[e2, R.bind_ok]at h;cases h;obtain⟨h1, h2⟩ := LN e2;refine⟨fun j hj => ?_, ?_⟩
    ·cases j with
     |zero => exact⟨c, e⟩
     |succ j => exact h1 j (by simpa using hj)
    ·rw[BW, LK, h2];show (c&&_) = ((match Ez d with | .ok c => c|_ => Ad)&&_)
     rw[e];rfl
theorem T9{ds : Ac D}(r : Reps X.K CL H A0 xs ds)(rv : AW xs its){v:Ah}(h : its.toArray[j]? = Aa v) : j<ds.length /\ ∃ x, Rep X.K CL H A0 x (ds.getD j .non) /\ A7 x v := by
 have h' : its[j]? = Aa v := by simpa using h
 obtain⟨hj, e⟩ := AZ.mp h';obtain⟨x, rx, q⟩ := GQ r rv hj;have l1 := rv.length;have l2 := r.length
 exact⟨by omega, x, rx, by rw[<-e];exact q⟩
theorem WM{o:AC}(k : ∀ b q, b ∉ [h.objs.size] -> (h.push o).get? b = Aa q -> h'.get? b = Aa q) : ∀ b q, h.get? b = Aa q -> h'.get? b = Aa q := fun b q e => k b q (by
 intro z;have := Bu.mp z;rw[this]at e;exact absurd (AA e) (A9 _)) (As _ e)
theorem Wg(hc : X.calm = Ab) : GX X CL W (.builtin "all") (biD .all) := by
  intro A pI s σ H xs us Q I r ⟨hA, ds, rs, p⟩
  match ds, rs, p with
  |[.lst es], rs, p=>
    obtain⟨v, rfl, rv⟩ := rs.one;obtain⟨q, ys, e, _, sq, ry⟩ := rv.plain;subst e;obtain⟨u, rfl, ru⟩ := GA r;cases ru;rw[XS]at p;cases e1 : E4 es with
    |bad => rw[e1]at p;exact p.elim
    |exn x=>
      exfalso
      have : ∀(es : Ac D) x, E4 es ≠ .exn x := by
        intro es
        induction es with
        |nil => intro x h;cases h
        |cons d ds ih=>
          intro x h;rw[JL]at h;cases e : Ez d with
          |bad => rw[e]at h;cases h
          |exn y => cases d <;> cases e
          |ok c=>
            rw[e, R.bind_ok]at h;cases e2 : E4 ds with
            |bad => rw[e2]at h;cases h
            |exn y => exact ih y e2
            |ok c2 => rw[e2]at h;cases h
      exact this es x e1
    |ok b=>
      rw[e1, R.bind_ok]at p;obtain⟨h1, h2⟩ := LN e1;obtain⟨its, rvv, pl, _⟩ := I.list sq;have hlt : q<s.heap.objs.size := by obtain⟨o, n, e, _⟩ := pl;exact AA e
      have hl : its.toArray.size = es.length := by rw[AG, <-rvv.length, ry.length]
      refine call_all_walk (QB (Hq pl) ⟨s.heap.objs.size, _, _, _, _, _, (fun j => match Ez (es.getD j .non) with | .ok c => c|_ => Ad), rfl, Walks.list (A := X.A.in1) (I.ok.hd hc) s.heap.objs.size q (Bl hlt) its.toArray, ⟨⟨_, Be _ rfl, rfl, rfl⟩, (Hq pl).push _⟩, fun j v s' Q' E' hv hQ => ?_, fun h' tk k => ?_⟩)
      · obtain⟨hj, x, rx, qx⟩ := T9 ry rvv hv;obtain⟨c, ec⟩ := h1 j hj;exact SZ rx qx ec (by dsimp only at hQ;rw[ec]at hQ;exact hQ)
      · rw[hl, <-h2];exact⟨.bl b, H, I.kept (WM k), rfl, p _ H (Av.refl H) rfl⟩
  |[], _, p => exact p.elim
  |[.non], _, p => exact p.elim
  |[.bl _], _, p => exact p.elim
  |[.int _], _, p => exact p.elim
  |[.str _], _, p => exact p.elim
  |[.tup _], _, p => exact p.elim
  |[.obj _ _], _, p => exact p.elim
  |[.exc _ _], _, p => exact p.elim
  |[.dic _], _, p => exact p.elim
  |x::_::_, _, p => cases x <;> exact p.elim
end
section
variable(K : Fg)(CL : ClA)
noncomputable def XU(H0 : Hp)(A : Ai -> Prop)(H : Hp)(v : V)(d : D) : Prop := ∀ ds, d = .lst ds -> ∃ a xs, v = .ref a /\ H0 a = Af /\ H a = Aa (.lst xs) /\ Reps K CL H (fun b => A b \/ b = a) xs ds
noncomputable def Cq(fr : An)(H0 : Hp)(A : Ai -> Prop)(H : Hp)(v : V)(d : D) : Prop := Rep K CL H A v d /\ (fr = Ab -> XU K CL H0 A H v d)
end
section
variable{X : Cx}{CL : ClA}{W : XW}{a b c : Ao}{fa fb fc : Rho -> R D}{pos : AJ}
noncomputable def SC(X : Cx)(CL : ClA)(W : XW)(fr : An)(e : Ao)(f : Rho -> R D) : Prop := ∀ A, PE X e (fun σ H Q => AOk H A /\ ∃ ρ, Good X.K CL A ρ σ H /\ AX (Cq X.K CL fr H A) W H (f ρ) Q)
theorem SC.se{fr : An}(h : SC X CL W fr a fa) : SE X CL W a fa := fun A => PE.weak (h A) fun σ H Q ⟨hA, ρ, g, p⟩ => ⟨hA, ρ, g, by
 cases e : fa ρ with
 |ok d => rw[e]at p;exact fun v H' s r => p v H' s r.1
 |exn x => rw[e]at p;exact p
 | bad => rw[e]at p;exact p⟩
theorem SE.sc(h : SE X CL W a fa) : SC X CL W Ad a fa := fun A => PE.weak (h A) fun σ H Q ⟨hA, ρ, g, p⟩ => ⟨hA, ρ, g, by
 cases e : fa ρ with
 |ok d => rw[e]at p;exact fun v H' s r => p v H' s ⟨r, fun z => nomatch z⟩
 |exn x => rw[e]at p;exact p
 | bad => rw[e]at p;exact p⟩
theorem SC.congr{fr : An}{f g:Rho -> R D}(h : SC X CL W fr a f)(e : ∀ ρ, g ρ = f ρ) : SC X CL W fr a g := fun A => PE.weak (h A) fun σ H Q ⟨hA, ρ, q, p⟩ => ⟨hA, ρ, q, by rw[<-e];exact p⟩
theorem Hf{ds : Ac D}(s : Av H0 H)(hA : AOk H A)(hp : H p = Af)(r : Reps K CL H A xs ds) : Cq K CL Ab H0 A (upd H p (.lst xs)) (.ref p) (.lst ds):=
 ⟨Ni hA hp r, fun _ ds' e => by
  cases e;exact⟨p, xs, rfl, s.free hp, DH, (Reps.wide (fun a ha => ha.imp id fun e => by rw[e];exact hp) _ r).same (EI hp _)⟩⟩
theorem ML{fr : An}(r : Rep K CL H A v d)(h : ∀ ds, d ≠ .lst ds) : Cq K CL fr H0 A H v d := ⟨r, fun _ ds e => absurd e (h ds)⟩
theorem Vc(hs : SA X CL W es fs)(hz : ∀ ρ ds, fs ρ = .ok ds -> ds.length <= 100000) : SC X CL W Ab (.List es pos) (fun ρ => (fs ρ).bind fun xs => .ok (.lst xs)):=
 fun A => PE.weak (VF (hs A)) fun σ H Q ⟨hA, ρ, g, p⟩ => ⟨hA, ρ, g, Fq.bind p fun ds vs H1 e s1 r1 p1 => ⟨by
  rw[r1.length, Ct];have := hz ρ ds e;omega, fun q hq => p1 _ _ (EI hq _) (Hf s1 (hA.same s1) hq r1)⟩⟩
theorem AX.bindF{fr : An}{f:D -> R D}{Q':VK}(h : AX (Cq K CL fr H A) W H (r.bind f) Q)(k : ∀ d v H', r = .ok d -> Av H H' -> Rp H' v d -> AX (Cq K CL fr H A) W H' (f d) Q -> Q' v H') : AX Rp W H r Q' := by
 cases r with
 |ok d => exact fun v H2 s2 q => k d v H2 rfl s2 q (AX.same s2 h)
 |exn x => exact h
 |bad => exact h
theorem Fq.bindF{Rp:Hp -> Ac V -> Ac D -> Prop}{r:R (Ac D)}{f:Ac D -> R D}{Q':Ac V -> Hp -> Prop}(h : AX Rq W H (r.bind f) Q)(k : ∀ d v H', r = .ok d -> Av H H' -> Rp H' v d -> AX Rq W H' (f d) Q -> Q' v H') : Fq Rp W H r Q' := by
 cases r with
 |ok d => exact fun v H2 s2 q => k d v H2 rfl s2 q (AX.same s2 h)
 |exn x => exact h
 |bad => exact h
theorem GW.bindF{r:R (Am Ag)}{f:Am Ag -> R D}(h : AX Rq W H (r.bind f) Q)(k : ∀ o H', r = .ok o -> Av H H' -> AX Rq W H' (f o) Q -> Q' o H') : GW W H r Q' := by
 cases r with
 |ok d => exact fun H2 s2 => k d H2 rfl s2 (AX.same s2 h)
 |exn x => exact h
 |bad => exact h
theorem Wr{lo hi:Am Ao}{fl fh:Rho -> R (Am Ag)}(ha : ST X CL W a fa)(hl : SO X CL W lo fl)(hh : SO X CL W hi fh) : SC X CL W Ab (.Subscript a (.Slice lo hi Af p2) pos) (fun ρ => (fa ρ).bind fun x => (fl ρ).bind fun l => (fh ρ).bind fun h => slD x l h):=
 fun A => PE.weak (So (r := fun x l h H Q => OT X.K x l h H Q \/ OS X.K x l h H Q) (fun pI s σ H x v vl vu lo hi sl Q I rx hs pl pu h => h.elim (TD pI s σ H x v vl vu lo hi sl Q I rx hs pl pu) (Vf pI s σ H x v vl vu lo hi sl Q I rx hs pl pu)) (ha A) (hl A) (hh A)) fun σ H Q ⟨hA, ρ, g, p⟩ => ⟨hA, ρ, g, AX.bindF p fun dx x H1 _ s1 r1 p1 => ⟨hA.same s1, ρ, g.same s1, GW.bindF p1 fun l H2 _ s2 p2 => ⟨(hA.same s1).same s2, ρ, (g.same s1).same s2, GW.bindF p2 fun h H3 _ s3 p3 => by
  cases dx with
  |lst ds=>
   obtain⟨q, xs, rfl, sq, r⟩ := ((r1.same s2).same s3).lst_of;exact .inl ⟨q, xs, rfl, sq, fun t ht => p3 _ _ (EI ht _) (Hf ((s1.trans s2).trans s3) (((hA.same s1).same s2).same s3) ht (M1 l h r))⟩
  |tup ds=>
   obtain⟨q, xs, rfl, _, sq, r⟩ := ((r1.same s2).same s3).tup_of;rw[XV]at p3;split at p3
   ·exact p3.elim
   ·rename_i hw;refine .inr ⟨q, xs, rfl, sq, ?_, fun t ht => p3 _ _ (EI ht _) (ML (IZ (((hA.same s1).same s2).same s3) ht (M1 l h r)) (by intro _ z;cases z))⟩
    rintro⟨h1, h2⟩;refine hw ?_;have e : ∀ d o, HT.sIx xs.length d o = FI ds.length d o := fun d o => by rw[r.length];cases o <;> rfl
    rw[e]at h1 h2;rw[r.length]at h2;simp[h1, h2]
  | _ => exact p3.elim⟩⟩⟩
noncomputable def OpN(X : Cx)(CL : ClA)(W : XW)(f : Ah -> Ah -> Sem Ah)(g : D -> D -> R D) : Prop:=
 ∀ A H0, OpR X f (fun x y H Q => Av H0 H /\ AOk H A /\ ∃ dx dy, BZ X.K CL H A x dx /\ BZ X.K CL H A y dy /\ AX (Cq X.K CL Ab H0 A) W H (g dx dy) Q)
theorem Th : OpN X CL W (Bp .Add) (Cw .Add) := by
 intro A H0 pI s σ H x y v u Q I rx ry ⟨s0, hA, dx, dy, hx, hy, p⟩;have key : (∀ ds, dx ≠ .lst ds) -> EP X pI σ Q = EP X pI σ Q -> Au (model X.prog X.w) X.A (Bp .Add v u) (EP X pI σ Q) X.xe s := fun hd _ => by
  refine Nf (W := W) A pI s σ H x y v u Q I rx ry ⟨hA, dx, dy, hx, hy, ?_⟩;cases e : Cw .Add dx dy with
  |bad => rw[e]at p;exact p
  |exn x => rw[e]at p;exact p
  |ok d=>
   rw[e]at p;refine fun v' H' s' r' => p v' H' s' (ML r' fun ds z => ?_)
   subst z;cases dx with
   |lst ds => exact hd _ rfl
   |_ => cases dy <;> first|(cases e;done)|(simp only[Cw]at e;split at e <;> cases e)
 cases dx with
 |lst ds=>
  cases dy with
  |lst es=>
   obtain⟨a, xs, rfl, s1, r1⟩ := hx.lst_of;obtain⟨b, ys, rfl, s2, r2⟩ := hy.lst_of;simp only[NI]at p;split at p
   ·rename_i h;refine Ng pI s σ H _ _ v u Q I rx ry ⟨a, b, xs, ys, rfl, rfl, s1, s2, by rw[r1.length, r2.length];exact G9 h, fun q hq => ?_⟩
    exact p _ _ (EI hq _) (Hf s0 hA hq (r1.append r2))
   ·exact p.elim
  |_ => exact p.elim
 |_ => exact key (by intro _ z;cases z) rfl
theorem Ve(ha : ST X CL W a fa)(hb : ST X CL W b fb) : SC X CL W Ab (.BinOp a .Add b pos) (fun ρ => (fa ρ).bind fun x => (fb ρ).bind fun y => Cw .Add x y):=
 fun A pI s σ H Q I h => by
  obtain⟨hA, ρ, g, p⟩ := h;exact OA (Th (W := W) A H) (ha A) (hb A) pI s σ H Q I ⟨hA, ρ, g, AX.bindF p fun dx x H1 _ s1 r1 p1 => ⟨hA.same s1, ρ, g.same s1, AX.bind (Rq := Cq X.K CL Ab H A) p1 fun dy y H2 _ s2 r2 p2 => ⟨s1.trans s2, (hA.same s1).same s2, dx, dy, r1.same s2, r2, p2⟩⟩⟩
noncomputable def OF(X : Cx)(CL : ClA)(W : XW)(f : Ah)(g : Ac D -> R D) : Prop := ∀ A H0, FH X f (fun xs H Q => Av H0 H /\ AOk H A /\ ∃ ds, D9 X.K CL H A xs ds /\ AX (Cq X.K CL Ab H0 A) W H (g ds) Q)
theorem Us : OF X CL W (.type "list") (biD .list) := by
  intro A H0 pI s σ H xs us Q I r ⟨s0, hA, ds, rs, p⟩
  match ds, rs, p with
  |[.lst es], rs, p=>
    obtain⟨v, rfl, rv⟩ := rs.one;obtain⟨q, ys, rfl, sq, ry⟩ := rv.lst_of;exact LI pI s σ H _ us Q I r ⟨q, ys, rfl, .inl sq, fun l hl => p _ _ (EI hl _) (Hf s0 hA hl ry)⟩
  |[.tup es], rs, p=>
    obtain⟨v, rfl, rv⟩ := rs.one;obtain⟨q, ys, rfl, _, sq, ry⟩ := rv.tup_of;exact LI pI s σ H _ us Q I r ⟨q, ys, rfl, .inr sq, fun l hl => p _ _ (EI hl _) (Hf s0 hA hl ry)⟩
  |[], _, p => exact p.elim
  |[.non], _, p => exact p.elim
  |[.bl _], _, p => exact p.elim
  |[.int _], _, p => exact p.elim
  |[.str _], _, p => exact p.elim
  |[.obj _ _], _, p => exact p.elim
  |[.exc _ _], _, p => exact p.elim
  |[.dic _], _, p => exact p.elim
  |x::_::_, _, p => cases x <;> exact p.elim
theorem Vd{x:Aj}{p:AJ}{g:Ac D -> R D}(hc : OF X CL W (.type T) g)(hg : Gl X x)(hm : X.mg x = Af)(hv : B7 x = Aa (.type T))(ha : SAT X CL W (e::es) fs)(hn : x ≠ "__name__")(hdb : (x==("__debug__" : Aj)) = Ad)(he : Ar (e::es) X.env = (Ad, eval e X.env)::Ar es X.env)(hpl : ∀ pos, (By pos (Ar es X.env)).any (·.1) = Ad):SC X CL W Ab (.Call (.Name x p) (e::es) [] pos) (fun ρ =>(fs ρ).bind g) := fun A pI s σ H Q I ⟨hA, ρ, gd, q⟩=>
 Ma (hc A H) hg hm hv (ha A) hn hdb he (hpl _) pI s σ H Q I ⟨hA, ρ, gd, Fq.bindF q fun ds vs H1 _ s1 r1 p1 => ⟨s1, hA.same s1, ds, r1, p1⟩⟩
mutual
theorem K0{K : Fg}{H : Hp}{A : Ai -> Prop}(hA : AOk H A) : ∀(n : Ae)(d : D){v : V}, nlD n d = Ab -> Rep K CL H A0 v d -> Rep K CL H A v d
 |_, .non, _, _, h => h
 |_, .bl _, _, _, h => h
 |_, .int _, _, _, h => h
 |_, .str _, _, _, h => h
 |0, .tup _, _, hn, _ => by cases hn
 |n+1, .tup ds, _, hn, h => by
  obtain⟨a, xs, e, _, s, r⟩ := h;refine⟨a, xs, e, ?_, s, nls_up hA n ds hn r⟩;rcases s with s|s
  ·refine .inl fun z => ?_
   obtain⟨ys, q⟩ := hA a z;rcases s with s|⟨o, s⟩ <;> rw[q]at s <;> cases s
  ·exact .inr s
 |n, .lst _, _, hn, _ => by cases n <;> cases hn
 |n, .obj _ _, _, hn, _ => by cases n <;> cases hn
 |n, .exc _ _, _, hn, _ => by cases n <;> cases hn
 |n, .dic _, _, hn, _ => by cases n <;> cases hn
theorem nls_up{K : Fg}{H : Hp}{A : Ai -> Prop}(hA : AOk H A) : ∀(n : Ae)(ds : Ac D){vs : Ac V}, ds.all (nlD n) = Ab -> Reps K CL H A0 vs ds -> Reps K CL H A vs ds
 |_, [], [], _, h => h
 |n, d::ds, _::_, hn, h => by
  simp only[D3, Ak]at hn;exact⟨K0 hA n d hn.1 h.1, nls_up hA n ds hn.2 h.2⟩
 |_, [], _::_, _, h => h.elim
 |_, _::_, [], _, h => h.elim
end
theorem KJ{fr : An}(hA0 : AOk H0 A)(s : Av H0 H)(hc : DY fr d = Ab)(r : Cq K CL fr H0 A0 H v d) : Cq K CL fr H0 A H v d := by
 have hA := hA0.same s;cases d with
 |lst ds=>
  have hc' : (fr&&ds.all (nlD 5)) = Ab := hc;rw[Ak]at hc';obtain⟨a, xs, e, h0, h1, rs⟩ := r.2 hc'.1 ds rfl;have hA2 : AOk H (fun b => A b \/ b = a) := fun b hb => hb.elim (hA b) fun e => by rw[e];exact⟨xs, h1⟩
  have rs' := nls_up hA2 5 ds hc'.2 (Reps.sub (fun _ z => z.elim) _ rs)
  refine⟨⟨a, xs, e, .inl (hA0.new h0), SqL.of h1, Reps.sub (fun _ z => .inl z) _ rs'⟩, fun _ ds' e' => ?_⟩
  cases e';exact⟨a, xs, e, h0, h1, rs'⟩
 |_ => exact⟨K0 hA 5 _ hc r.1, fun _ _ z => nomatch z⟩
noncomputable def spD(K : Fg)(CL : ClA)(n : Ae)(fr : An)(F : Ac D -> R D) : Sp := fun vs H Q E => ∃(ds : Ac D)(A : Ai -> Prop), vs.length = n /\ AOk H A /\ Reps K CL H A vs ds /\ (match F ds with
  |.ok d => ∀ v H', Av H H' -> Cq K CL fr H A H' v d -> Q v H'
  |.exn x => ∀ cls dx H', Av H H' -> EJ K CL H' cls dx x -> E cls dx H'
  | .bad => AH)
noncomputable def EKW(K : Fg)(CL : ClA)(A : Ai -> Prop)(W : XW) : XK := fun cls dx H' => ∃ x, EJ K CL H' cls dx x /\ W x H'
theorem D9.plain{K : Fg}{H : Hp}{A : Ai -> Prop} : ∀{vs : Ac V}{ds : Ac D}, D9 K CL H A vs ds -> Reps K CL H A0 vs ds
 |[], [], h => trivial
 |_::_, _::_, h => ⟨h.1.plain, D9.plain h.2⟩
 |[], _::_, h => h.elim
 |_::_, [], h => h.elim
theorem TK{CX:CXT}{k:Ae}{fr : An}{f:Ai}{fd:Bi}{ps:Ac Aj}{F:Ac D -> R D}{x:Aj}{p:AJ}{ft:Rho -> R (Ac D)}{sh : Rho -> An}(G : FnOk X.prog X.w X.K X.mg X.base CX k f fd ps (spD X.K CL n fr F))(hr : Room k X.A)(hg : Gl X x)(hm : X.mg x = Aa (.ref f))(hk : Bs X.K (.ref f) = Ab)(hb : DV X.K fd ps [])(hx : ∀ A, Hk CX X (EKW X.K CL A W))(ha : SA X CL W (e::es) fs)(hat : SAT X CL W (e::es) ft)(hst : ∀ ρ, sh ρ = Ab -> ft ρ = fs ρ)(hn : ∀ ρ ds, ft ρ = .ok ds -> ds.length = n)(hdb : (x==("__debug__" : Aj)) = Ad)(he : Ar (e::es) X.env = (Ad, eval e X.env)::Ar es X.env)(hpl : ∀ pos, (By pos (Ar es X.env)).any (·.1) = Ad):SC X CL W fr (.Call (.Name x p) (e::es) [] pos) (fun ρ =>(ft ρ).bind fun ds =>(F ds).bind fun d =>if sh ρ = Ab then .ok d else if DY fr d = Ab then .ok d else .bad) := fun A pI s σ H Q I ⟨hA, ρ, gd, q⟩ => by
 dsimp only at q;by_cases hs : sh ρ = Ab
 ·rw[hst ρ hs]at q;refine Nb G hr hg hm hk hb .nil (hx A) (ha A) hdb he (hpl _) pI s σ H Q I ⟨hA, ρ, gd, ?_⟩;cases e1 : fs ρ with
  |bad => rw[e1]at q;exact q
  |exn y => rw[e1]at q;exact q
  |ok ds=>
   rw[e1]at q;intro vs H1 s1 r1;refine⟨ds, A, by rw[BD, r1.length];exact hn ρ ds (by rw[hst ρ hs];exact e1), hA.same s1, by rw[BD];exact r1, ?_⟩
   have q' : AX (Cq X.K CL fr H A) W H ((F ds).bind fun d => if sh ρ = Ab then .ok d else if DY fr d = Ab then .ok d else .bad) Q := q
   cases e2 : F ds with
   |ok d=>
    rw[e2, R.bind_ok, AB hs]at q';exact fun v H2 s2 r2 => q' v H2 (s1.trans s2) ⟨r2.1, fun z ds' e' => let ⟨a, xs, z1, z2, z3⟩ := r2.2 z ds' e';⟨a, xs, z1, s1.free z2, z3⟩⟩
   |exn y => rw[e2]at q';exact fun cls dx H2 s2 xr => ⟨y, xr, q' H2 (s1.trans s2)⟩
   |bad => rw[e2]at q';exact q'.elim
 ·refine Nb G hr hg hm hk hb .nil (hx A0) (hat A) hdb he (hpl _) pI s σ H Q I ⟨hA, ρ, gd, ?_⟩;cases e1 : ft ρ with
  |bad => rw[e1]at q;exact q
  |exn y => rw[e1]at q;exact q
  |ok ds=>
   rw[e1]at q;intro vs H1 s1 r1;refine⟨ds, A0, by rw[BD, r1.plain.length];exact hn ρ ds e1, fun _ z => z.elim, by rw[BD];exact r1.plain, ?_⟩
   have q' : AX (Cq X.K CL fr H A) W H ((F ds).bind fun d => if sh ρ = Ab then .ok d else if DY fr d = Ab then .ok d else .bad) Q := q
   cases e2 : F ds with
   |ok d=>
    rw[e2, R.bind_ok, AE hs]at q';split at q'
    ·rename_i hc;exact fun v H2 s2 r2 => q' v H2 (s1.trans s2) (KJ hA (s1.trans s2) hc ⟨r2.1, fun z ds' e' => let ⟨a, xs, z1, z2, z3⟩ := r2.2 z ds' e';⟨a, xs, z1, s1.free z2, z3⟩⟩)
    ·exact q'.elim
   |exn y => rw[e2]at q';exact fun cls dx H2 s2 xr => ⟨y, xr, q' H2 (s1.trans s2)⟩
   |bad => rw[e2]at q';exact q'.elim
end
theorem JI(env : BB) : ∀(ns : Ac (Aj × CO))(acc : Ac (Aj × Ai)), (∀ x ∈ ns, x.2 = .free -> ∃ c, env.cells.lookup x.1 = Aa c) -> (∀ x c, acc.lookup x = Aa c -> env.cells.lookup x = Aa c) ->
  ∃ cl, (forIn ns acc fun(x : Aj × CO)(cs : Ac (Aj × Ai)) => (if (x.2==.free) = Ab then do let c <-cellOf env x.1;pure (CW ((x.1, c)::cs)) else pure (CW cs) : Sem (ForInStep (Ac (Aj × Ai))))) = pure cl /\
   (∀ x c, cl.lookup x = Aa c -> env.cells.lookup x = Aa c) /\ (∀ x, ((x, CB) ∈ ns \/ ∃ c, acc.lookup x = Aa c) -> ∃ c, cl.lookup x = Aa c)
 |[], acc, _, h2 => ⟨acc, by rw[Pq], h2, fun x hx => hx.elim (fun z => nomatch z) id⟩
 |(n, k)::r, acc, h1, h2 => by
  rw[List.forIn_cons];by_cases hk : k = .free
  ·subst hk;obtain⟨c, hc⟩ := h1 (n, .free) AI rfl;obtain⟨cl, e, p, q⟩ := JI env r ((n, c)::acc) (fun x hx => h1 x (Az _ hx)) (fun x d hd => by
    rw[Bw]at hd;split at hd
    ·rename_i hx;cases hd;rw[eq_of_beq hx];exact hc
    ·exact h2 x d hd)
   refine⟨cl, ?_, p, fun x hx => q x ?_⟩
   ·have e1 : cellOf env n = pure c := by unfold cellOf;dsimp only at hc;rw[hc]
    rw[AB (by rfl), e1]
    exact e
   ·rcases hx with hx|⟨d, hd⟩
    ·rcases AY.mp hx with z|z
     ·cases z;exact .inr ⟨c, by simp[Bw]⟩
     ·exact .inl z
    ·by_cases hxn : x = n
     ·exact .inr ⟨c, by subst hxn;simp[Bw]⟩
     ·exact .inr ⟨d, by rw[Bw];rw[Ds.mpr hxn];exact hd⟩
  ·obtain⟨cl, e, p, q⟩ := JI env r acc (fun x hx => h1 x (Az _ hx)) h2
   refine⟨cl, ?_, p, fun x hx => q x ?_⟩
   ·rw[AE (by simpa using hk)]
    exact e
   ·rcases hx with hx|hx
    ·rcases AY.mp hx with z|z
     ·cases z;exact absurd rfl hk
     ·exact .inl z
    ·exact .inr hx
theorem LL(h : ∀ x ∈ scope.names, x.2 = .free -> ∃ c, env.cells.lookup x.1 = Aa c):∃ cl,closureFor scope env = pure cl/\(∀ x c,cl.lookup x = Aa c->env.cells.lookup x = Aa c)/\∀ x,(x,CB) ∈ scope.names->∃ c,cl.lookup x = Aa c := by
 obtain⟨cl, e, p, q⟩ := JI env scope.names [] h (fun x c z => by simp at z)
 refine⟨cl, ?_, p, fun x hx => q x (.inl hx)⟩
 unfold closureFor
 first
  |exact e
  |(simp only[bind_pure];exact e)
  |(rw[show (forIn scope.names ([] : Ac (Aj × Ai)) _ : Sem _) = pure cl from e];rfl)
theorem J8 :∀(names :Ac (Aj × CO))(h :Ax)(acc :Ac (Aj × Ai))(x :Aj)(c :Ai),(BY h.objs.size names acc).lookup x = Aa c->acc.lookup x = Aa c\/((x,Bf) ∈ names/\h.objs.size <= c/\(EV h names).IsCell c Af)
 |[], _, _, _, _, e => .inl e
 |(n, k)::r, h, acc, x, c, e => by
  unfold BY at e;unfold EV;by_cases hk : (k==Bf) = Ab
  ·rw[AB hk]at e ⊢;have hs : h.objs.size+1 = (h.push { cls := .type "cell", data := .cell Af }).objs.size := (DL ..).symm;rw[hs]at e;rcases J8 r _ _ x c e with q|⟨q1, q2, q3⟩
   ·rw[Bw]at q;cases hx : x==n with
    |true=>
     rw[hx]at q;cases q;refine .inr ⟨?_, AL _, ?_⟩
     ·rw[eq_of_beq hx, eq_of_beq hk];exact AI
     ·exact⟨_, FC r _ _ _ (Be _ rfl), rfl⟩
    |false => rw[hx]at q;exact .inl q
   ·exact .inr ⟨Az _ q1, by omega, q3⟩
  ·rw[AE hk]at e ⊢;rcases J8 r h acc x c e with q|⟨q1, q2, q3⟩
   ·exact .inl q
   ·exact .inr ⟨Az _ q1, q2, q3⟩
theorem JR :∀(names :Ac (Aj × CO))(h :Ax)(acc :Ac (Aj × Ai)),(∀ x y c,acc.lookup x = Aa c->acc.lookup y = Aa c->x = y)->(∀ x c,acc.lookup x = Aa c->c<h.objs.size)->∀ x y c,(BY h.objs.size names acc).lookup x = Aa c->(BY h.objs.size names acc).lookup y = Aa c->x = y
 |[], _, _, i, _, x, y, c, e1, e2 => i x y c e1 e2
 |(n, k)::r, h, acc, i, b, x, y, c, e1, e2 => by
  unfold BY at e1 e2;by_cases hk : (k==Bf) = Ab
  ·rw[AB hk]at e1 e2;have hs : h.objs.size+1 = (h.push { cls := .type "cell", data := .cell Af }).objs.size := (DL ..).symm;rw[hs]at e1 e2;have look : ∀ z d, D0 z ((n, h.objs.size)::acc) = Aa d -> (z = n /\ d = h.objs.size) \/ (z ≠ n /\ acc.lookup z = Aa d) := fun z d q => by
    rw[Bw]at q;cases hx : z==n with
    |true => rw[hx]at q;cases q;exact .inl ⟨eq_of_beq hx, rfl⟩
    |false => rw[hx]at q;exact .inr ⟨fun e => by rw[e]at hx;simp at hx, q⟩
   refine JR r _ _ (fun z z' d q q' => ?_) (fun z d q => ?_) x y c e1 e2
   ·rcases look z d q with ⟨rfl, q1⟩|⟨_, q1⟩ <;> rcases look z' d q' with ⟨rfl, q2⟩|⟨_, q2⟩
    ·rfl
    ·exact absurd (b _ _ q2) (by rw[q1];exact A9 _)
    ·exact absurd (b _ _ q1) (by rw[q2];exact A9 _)
    ·exact i _ _ _ q1 q2
   ·rw[<-hs];rcases look z d q with ⟨_, q1⟩|⟨_, q1⟩
    ·rw[q1];exact PH _
    ·exact E5 (b _ _ q1)
  ·rw[AE hk]at e1 e2;exact JR r h acc i b x y c e1 e2
theorem JJ : ∀(names : Ac (Aj × CO))(n : Ae)(acc : Ac (Aj × Ai))(x : Aj), (x, Bf) ∉ names -> (BY n names acc).lookup x = acc.lookup x
 |[], _, _, _, _ => rfl
 |(m, k)::r, n, acc, x, hx => by
  unfold BY;have hr : (x, Bf) ∉ r := fun z => hx (Az _ z)
  by_cases hk : (k==Bf) = Ab
  ·rw[AB hk, JJ r _ _ x hr, Bw];cases q : x==m with
   |true => exact absurd (by rw[eq_of_beq q, eq_of_beq hk];exact AI) hx
   |false => rfl
  ·rw[AE hk];exact JJ r n acc x hr
theorem JS(n0 : Ae) : ∀(names : Ac (Aj × CO))(n : Ae)(acc : Ac (Aj × Ai))(x : Aj), n0 <= n -> ((x, Bf) ∈ names \/ ∃ c, acc.lookup x = Aa c /\ n0 <= c) -> ∃ c, (BY n names acc).lookup x = Aa c /\ n0 <= c
 |[], _, _, _, _, h => h.elim (fun z => nomatch z) id
 |(m, k)::r, n, acc, x, hn, h => by
  unfold BY;by_cases hk : (k==Bf) = Ab
  ·rw[AB hk];refine JS n0 r _ _ x (by omega) ?_
   by_cases hx : (x==m) = Ab
   ·exact .inr ⟨n, by rw[Bw, hx], hn⟩
   ·rcases h with h|⟨c, h, hc⟩
    ·rcases AY.mp h with z|z
     ·cases z;simp at hx
     ·exact .inl z
    ·exact .inr ⟨c, by rw[Bw];simp only[hx];exact h, hc⟩
  ·rw[AE hk];refine JS n0 r _ _ x hn (h.imp (fun h => ?_) id)
   rcases AY.mp h with z|z
   ·cases z;simp at hk
   ·exact z
theorem QE{M:EO}{A:AN}{E : Ah -> Al -> Prop}{globals:Ai}{qual:Aj}{Q:BB -> Al -> Prop}(hQ : Q (newEnv scope s.heap.objs.size globals (BY (s.heap.objs.size+1) scope.names cl) qual Af .none (Aa env) FX) { s with heap := EV (s.heap.push { cls := .type "dict", data := .dict #[] }) scope.names }):Au M A (FR scope globals cl [] qual Af .none (Aa env)) Q E s := by
 simp only[FR, Option.isSome_some, De];refine Ap (wpAny_alloc ?_);refine Ap (wpAny_layCells _ (fun name kind cells => by cases hkc : kind==Bf <;> simp[hkc]) _ _ _ _ ?_)
 rw[show ({ s with heap := s.heap.push { cls := .type "dict", data := .dict #[] } } : Al).heap.objs.size = s.heap.objs.size+1 from DL ..]
 rw[Pq];exact Ap (AS (AS hQ))
noncomputable def cxC(X : Cx)(scope : Bz)(cl : Ac (Aj × Ai))(C : Ai)(N' : Ac Aj)(s₀ : Al)(H₀ : Hp)(fp : Ac Ai) : Cx where
 prog := X.prog
 w := X.w
 K := X.K
 mg := X.mg
 base := X.base
 A := X.A
 N := N'
 s₀ := s₀
 H₀ := H₀
 env := compEnvC scope cl C X.env
 outer := X.stack
 stack := X.stack
 ex := fp
 fn := fun x => scope.names.lookup x==Aa Bf
 calm := X.calm
 pn := []
 xe := fun _ _ => AH
theorem II{env : BB} :∀{names :Ac (Aj × CO)}{x :Aj}{k :CO},(names.map fun (n,k) =>if (k==CB&&env.scope.kind==.function&&env.kindOf n==Aa .cell) then (n,Bf) else (n,k)).lookup x = Aa k->names.lookup x = Aa k\/(k = .cell/\names.lookup x = Aa .free)
 |[], _, _, h => by simp at h
 |(n, j)::r, x, k, h => by
  have ih := @II env r x k;have h' : D0 x ((if (j==CB&&env.scope.kind==.function&&env.kindOf n==Aa .cell) = Ab then (n, Bf) else (n, j))::(r.map fun (n, k) => if (k==CB&&env.scope.kind==.function&&env.kindOf n==Aa .cell) then (n, Bf) else (n, k))) = Aa k := h
  by_cases hc : (j==CB&&env.scope.kind==.function&&env.kindOf n==Aa .cell) = Ab
  ·rw[AB hc]at h';rw[Bw]at h' ⊢;cases hx : x==n with
   |true=>
    rw[hx]at h';cases h';simp only[Ak]at hc;exact .inr ⟨rfl, by rw[eq_of_beq hc.1.1]⟩
   |false => rw[hx]at h';exact ih h'
  ·rw[AE hc]at h';rw[Bw]at h' ⊢;cases hx : x==n with
   |true => rw[hx]at h';exact .inl h'
   |false => rw[hx]at h';exact ih h'
structure BlockOk (X : Cx) (scope : Bz) (N' : Ac Aj) (ts : Ac Ae) : Prop where
 kind : scope.kind = .function
 uniq : ∀ y ∈ scope.names, scope.names.lookup y.1 = Aa y.2
 names : ∀ y ∈ scope.names, y.2 = .local -> scope.names.lookup y.1 = Aa .local
 free : ∀ y ∈ scope.names, y.2 = .free -> X.env.scope.names.lookup y.1 = Aa .cell \/ X.env.scope.names.lookup y.1 = Aa .free
 len : N'.length = X.N.length
 same : ∀ i x, N'[i]? = Aa x -> scope.names.lookup x = Aa .free -> i ∉ ts -> X.N[i]? = Aa x
 loc : ∀ i x, N'[i]? = Aa x -> (scope.names.lookup x = Aa .local \/ scope.names.lookup x = Aa .cell) -> i ∈ ts
structure BCells (X : Cx) (scope : Bz) (cl : Ac (Aj × Ai)) (C : Ai) (h : Ax) : Prop where
 own : ∀ x c, cl.lookup x = Aa c -> X.env.cells.lookup x = Aa c \/ (scope.names.lookup x = Aa .cell /\ C<c /\ h.IsCell c Af)
 inj : ∀ x y c, cl.lookup x = Aa c -> cl.lookup y = Aa c -> x = y
 has : ∀ x, scope.names.lookup x = Aa .cell -> ∃ c, cl.lookup x = Aa c /\ C<c
 fr : ∀ x, (x, CB) ∈ scope.names -> ∃ c, cl.lookup x = Aa c /\ X.env.cells.lookup x = Aa c
section
variable{X : Cx}{pI : Ac (Ai × AC)}{σ : L2.St}{H : Hp}{s : Al}
noncomputable def hideT(ts : Ac Ae)(σ : L2.St) : L2.St := ts.foldl (fun σ t => σ.set t Af) σ
theorem J3 : ∀(ts : Ac Ae)(σ : L2.St), (hideT ts σ).length = σ.length
 |[], _ => rfl
 |t::ts, σ => by show (hideT ts (σ.set t Af)).length = _;rw[J3 ts, AU]
theorem Md : ∀(ts : Ac Ae)(σ : L2.St){i : Ae}{v : V}, (hideT ts σ)[i]? = Aa (Aa v) -> σ[i]? = Aa (Aa v) /\ i ∉ ts
 |[], _, _, _, h => ⟨h, by simp⟩
 |t::ts, σ, i, v, h => by
  obtain⟨h1, h2⟩ := Md ts (σ.set t Af) (i := i) (v := v) h;by_cases e : t = i
  ·subst e;have := EH h1;cases this
  ·rw[BE e]at h1;exact⟨h1, by simp only[AY, IF];exact⟨fun z => e z.symm, h2⟩⟩
theorem QS{tk:Ae}{C:Ai}{m:Aj -> Am Ah}(I : Inv X pI σ H s)(B : BlockOk X scope N' ts)(hf : ∀ b ∈ fp, FL X pI H b)(hfo : ∀ b ∈ fp, b<s.heap.objs.size)(hb : BCells X scope cl C h')(hk : ∀ b o, s.heap.get? b = Aa o -> h'.get? b = Aa o)(hC : s.heap.objs.size <= C)(hn : h'.Ns C m) : Inv (cxC X scope cl C N' s H fp) [] (hideT ts σ) H {s with heap := h', toks := tk} := by
 have stf : ∀ b ∈ fp, b ∉ frs X.stack := fun b hb z => by
  rcases AY.mp (I.stkSub b z) with e|e
  ·exact(hf b hb).2.1 e
  ·exact(hf b hb).2.2.1 e
 have frOf : ∀ x, ((relabel scope X.env).names.lookup x = Aa .cell \/ (relabel scope X.env).names.lookup x = Aa .free) -> scope.names.lookup x = Aa .free \/ scope.names.lookup x = Aa .cell := fun x hx => by
  rcases hx with z|z
  ·rcases II z with z|⟨_, z⟩
   ·exact .inr z
   ·exact .inl z
  ·rcases II z with z|⟨z, _⟩
   ·exact .inl z
   ·cases z
 have gtC : ∀ c : Ai, C<c -> s.heap.objs.size <= c := fun c z => BJ hC (El z)
 have cellK : ∀ c v, s.heap.IsCell c v -> h'.IsCell c v := fun c v ⟨o, ho, hd⟩ => ⟨o, hk _ _ ho, hd⟩
 refine⟨⟨I.ok.mod, B.kind, I.ok.glob, I.ok.blt, hC, hb.inj, fun x hx => ?_, fun x c h e => ?_, I.ok.hd, I.ok.frames, .inl rfl, fun b hbb => ⟨?_, fun x c e => ?_⟩, I.bs, BJ I.ok.bsz I.sz, fun b o e hbb => ?_, stf, I.stack, I.stkFree⟩, rfl, I.bare, Un.kept hk, ⟨m, hn, fun i x v h1 h2 h3 => ?_⟩, fun x c e => ?_, I.hok.fresh hC, fun x c e => (hb.own x c e).elim (I.freeC x c) (fun z => I.hok.fresh (gtC c z.2.1)), fun p hp => absurd (show p ∈ ([] : Ac (Ai × AC)) from hp) (by simp), I.hok.kept hk, ?_⟩
 ·rcases frOf x hx with z|z
  ·obtain⟨c, q, _⟩ := hb.fr x (BP z);exact⟨c, q⟩
  ·obtain⟨c, q, _⟩ := hb.has x z;exact⟨c, q⟩
 ·obtain⟨c', q, z⟩ := hb.has x (eq_of_beq h);have e' : cl.lookup x = Aa c := e;rw[q]at e';cases e';exact gtC _ z
 ·intro z;have z' : b = C := z;have := hfo b hbb;rw[z']at this;exact absurd (Ay this hC) (A9 _)
 ·rcases hb.own x c e with z|z
  ·exact(hf b hbb).2.2.2.2.1 x c z
  ·intro q;have := hfo b hbb;have := gtC c z.2.1;rw[q]at this;exact absurd ‹b<_› (PM.mpr this)
 ·rcases (hf b hbb).2.2.2.1 with z|z
  ·exact I.ok.noex b o e z
  ·exact absurd (Ay (AA e) (BJ I.ok.bsz z)) (A9 _)
 ·obtain⟨h2, hts⟩ := Md ts σ h2;have h3' : (relabel scope X.env).names.lookup x = Aa .local \/ (relabel scope X.env).names.lookup x = Aa .cell \/ (relabel scope X.env).names.lookup x = Aa .free := h3;have h1' : N'[i]? = Aa x := h1;rcases h3' with z|z
  ·rcases II z with z|⟨z, _⟩
   ·exact absurd (B.loc i x h1' (.inl z)) hts
   ·cases z
  ·have fr := (frOf x z).resolve_right fun q => hts (B.loc i x h1' (.inr q))
   have hm := BP fr;have hX := B.same i x h1' fr hts;obtain⟨m0, hn0, hl0⟩ := I.loc;obtain⟨u, ru, lk⟩ := hl0 i x v hX h2 (by
    rcases B.free _ hm rfl with q|q
    ·exact .inr (.inl q)
    ·exact .inr (.inr q))
   refine⟨u, ru, ?_⟩;obtain⟨c, hc, hcX⟩ := hb.fr x hm;rcases lk with ⟨q, _⟩|⟨_, c', hc', hcell⟩
   ·have q' : X.env.scope.names.lookup x = Aa .local := q;rcases B.free _ hm rfl with p|p
    ·rw[show X.env.scope.names.lookup x = _ from p]at q';cases q'
    ·rw[show X.env.scope.names.lookup x = _ from p]at q';cases q'
   ·have e := hcX;rw[hc']at e;cases e;exact .inr ⟨z, c, hc, cellK _ _ hcell⟩
 ·rcases hb.own x c e with z|z
  ·obtain⟨v, q⟩ := I.cell x c z;exact⟨v, cellK _ _ q⟩
  ·exact⟨_, z.2.2⟩
 ·show (hideT ts σ).length = N'.length;rw[J3, I.len, B.len]
theorem Mk{C D : Ai}{s':Al}{σ':L2.St}{pins':Ac (Ai × AC)}{h'':Ax}(I : Inv X pI σ H s)(hf : ∀ b ∈ fp, FL X pI H b)(I' : Inv (cxC X scope cl C N' s H fp) pins' σ' H' s')(hD : s.heap.objs.size <= D)(hDC : D ≠ C)(hC : s.heap.objs.size <= C)(hd : s'.heap.get? D = Aa { cls := .type "list", data := .seq ys.toArray n })(hDn : H' D = Af)(rv : AW xs ys)(hz : xs.length <= sizeLine)(hs : Fi C s'.heap h'') : Inv X pI σ (upd H' D (.lst xs)) {s' with heap := h''} := by
 have u : Un (frs X.stack) fp H H' s.heap s'.heap := I'.base;have lt : ∀ b o, s.heap.get? b = Aa o -> b ≠ C /\ b ≠ D := fun b o e => ⟨fun z => absurd (Ay (AA e) (z ▸ hC)) (A9 _), fun z => absurd (Ay (AA e) (z ▸ hD)) (A9 _)⟩
 have HD : H D = Af := I.hok.fresh hD;have hCn : H' C = Af := I'.free;have kb : ∀ b o, b ≠ C -> s'.heap.get? b = Aa o -> h''.get? b = Aa o := fun b o hb e => (hs.2 b hb).trans e
 have u2 : Un (frs X.stack) fp H (upd H' D (.lst xs)) s.heap h'' := ⟨fun b o e q hb hx => kb b o (lt b o e).1 (u.keep b o e q hb hx), fun b o e q hb hx => by
   obtain⟨sl, e1⟩ := u.slot b o e q hb hx;exact⟨sl, kb b _ (lt b o e).1 e1⟩, fun b o e q hx => by rw[A8 (lt b o e).2];exact u.free b o e q hx, fun b o e hx => by
   obtain⟨o', e1⟩ := u.there b o e hx;exact⟨o', kb b _ (lt b o e).1 e1⟩, fun b zs q => by rw[A8 (DQ q HD)];exact u.tups b zs q, fun b o zs q => by rw[A8 (DQ q HD)];exact u.frzs b o zs q, fun b ps q => by rw[A8 (DQ q HD)];exact u.tbls b ps q⟩
 have hok : HOk X.prog X.w (upd H' D (.lst xs)) h'' := fun b o e => by
  by_cases hb : b = D
  ·subst hb;rw[DH]at e;cases e;exact⟨hz, ys, n, rv, kb _ _ hDC hd⟩
  ·rw[A8 hb]at e;refine(I'.hok b o e).stay (fun c v hc q => kb c v ?_ q) (fun c q => by rw[A8 (DQ q hDn)];exact q) fun c zs q => by rw[A8 (DQ q hDn)];exact q
   rcases hc with rfl|hc
   ·exact DQ e hCn
   ·exact DQ hc hCn
 exact I.call' (s' := {s' with heap := h''}) (ch := fp) I'.os u2 hok I'.bare fun b hb => ⟨(hf b hb).2.2.2.1, (hf b hb).2.1, (hf b hb).2.2.2.2.1, (hf b hb).2.2.2.2.2⟩
end
noncomputable def PTs(X : Cx)(ifs : Ac Ao)(tt : TT) : Prop := ∀(pI : Ac (Ai × AC))(s : Al)(σ : L2.St)(H : Hp)(Q : An -> Hp -> Prop), Inv X pI σ H s -> tt σ H Q ->
 Au (model X.prog X.w) X.A (forIn ifs Ab fun c r => if r = Ab then do let ok <-FQ c X.env (eval c X.env);pure (CW ok) else pure (CW r)) (TP X pI σ Q) X.xe s
theorem TY : PTs X [] (fun σ H Q => Q Ab H) := fun pI s σ H Q I h => wpAny_tests_nil ⟨H, I, h⟩
theorem TX{t:TT}(h : PT X c t) : PTs X [c] t := fun pI s σ H Q I q => wpAny_tests_one (h pI s σ H Q I q)
theorem Rj{D : Ai}{y:Ah}{E : Ah -> Al -> Prop}{Q:Ah -> Al -> Prop}(I : Inv X ((D, { cls := .type "list", data := .seq ys.toArray n })::pI) σ H s)(hD : X.s₀.heap.objs.size <= D)(hp : ∀ p ∈ X.pn++pI, p.1 ≠ D)(hc : ∀ x c, X.env.cells.lookup x = Aa c -> c ≠ D)(hz : ys.length <= sizeLine)(h : ∀ s', Inv X ((D, { cls := .type "list", data := .seq (ys++[y]).toArray (n+1) })::pI) σ H s' -> (∀ b o, b ≠ D -> s.heap.get? b = Aa o -> s'.heap.get? b = Aa o) -> Q .none s') : Au (model X.prog X.w) X.A (call (.builtin "list.append") [.ref D, y]) Q E s := by
 obtain⟨e, hn, hL, hfs, _⟩ := I.pin (D, { cls := .type "list", data := .seq ys.toArray n }) (A3 _ AI);refine append_at (hsz := by rw[AG];exact hz) e fun h' hs hd => ?_
 have hd' : h'.get? D = Aa { cls := .type "list", data := .seq (ys++[y]).toArray (n+1) } := by rw[hd];simp
 have kb : ∀ b o, b ≠ D -> s.heap.get? b = Aa o -> h'.get? b = Aa o := fun b o hb q => (hs.2 b hb).trans q
 have I0 : Inv X pI σ H s := I.pins_of fun p hp => I.pin p (A3 _ (Az _ hp))
 have I1 : Inv X pI σ H {s with heap := h'} := I0.turned (t' := s.toks) kb hn hL (.inr hD) hc hp
 refine h _ (I1.pins_of fun p hp => ?_) kb
 rcases AY.mp hp with rfl|hp
 ·exact⟨hd', hn, hL, hfs, fun v z => by
   have z' : HI _ _ = HE v := z;cases z'⟩
 ·exact I1.pin p (A3 _ hp)
section
variable{prog : AD}{w : AO}{A : AN}{R : Gj -> Al -> Prop}{s : Al}
theorem QQ{target:Ao}{it acc:Ah}(I : Ae -> Al -> Prop)(turn : ∀ n s, I n s -> Au (model prog w) A (pyNext it) (fun r s₁ => match r with
      |none => R (.ok .next) s₁
      | some v => Au (model prog w) A (Er target it v) (fun _ s₁' => Au (model prog w) A (assign target env v) (fun _ s₂=>
          Au (model prog w) A (forIn ifs Ab fun c r => if r = Ab then do let ok <-FQ c env (eval c env);pure (CW ok) else pure (CW r)) (fun ok s₃=>
            if ok = Ab then Au (model prog w) A (eval elt env) (fun x s₄=>
              Au (model prog w) A (call (.builtin "list.append") [acc, x]) (fun _ s₅ => ∃ m, m<n /\ I m s₅) (FS (model prog w) A env fun e s' => R (.error e) s') s₄) (FS (model prog w) A env fun e s' => R (.error e) s') s₃
            else ∃ m, m<n /\ I m s₃) (FS (model prog w) A env fun e s' => R (.error e) s') s₂) (FS (model prog w) A env fun e s' => R (.error e) s') s₁') (FS (model prog w) A env fun e s' => R (.error e) s') s₁) (FS (model prog w) A env fun e s' => R (.error e) s') s)(n : Ae)(h : I n s):DM (model prog w) A (.compLoop (.ListComp elt [⟨target,iter,ifs,0⟩] scope pos) 0 it acc env) R s := by
  refine codeAny_loop rfl I (fun n s hI => ?_) n h
  show Au _ A ((compTurn (.ListComp elt [⟨target, iter, ifs, 0⟩] scope pos) 0 it acc env).onRaise (fun x => do EU x env;theTreesLotGoes x)) _ _ s
  refine wpAny_noted ?_;rw[compTurn_list];refine Ap (CU (Ap (AV (turn n s hI) (fun r s₁ h₁ => ?_) fun _ _ h' => h')))
  cases r with
  |none => exact AS h₁
  |some v=>
    refine Ap (AV h₁ (fun _ s₁' h₁' => ?_) fun _ _ h' => h')
    refine Ap (AV h₁' (fun _ s₂ h₂ => Ap (AV h₂ (fun ok s₃ h₃ => ?_) fun _ _ h' => h')) fun _ _ h' => h')
    cases ok with
    |false => exact AS ⟨rfl, h₃⟩
    |true=>
      exact Ap (Ap (AV h₃ (fun x s₄ h₄ => Ap (AV h₄ (fun _ s₅ h₅ => AS (AS ⟨rfl, h₅⟩)) fun _ _ h' => h')) fun _ _ h' => h'))
end
noncomputable def HU(J : It)(ts : Ac Ae)(g : TG)(tt : TT)(te : TE)(σ : L2.St)(H : Hp)(Q : VK) : Prop := ∃ W : Ae -> Ae -> Ac V -> L2.St -> Hp -> Prop, (∃ m, W 0 m [] (hideT ts σ) H) /\ ∀ i m xs σ H, W i m xs σ H ->
 (J.stop i H /\ ∀ p, H p = Af -> Q (.ref p) (upd H p (.lst xs))) \/
 (J.go i H /\ xs.length<sizeLine /\ ∀ x H', J.yld i H x H' -> g x σ H' fun σ2 H2 => tt σ2 H2 fun b H3 => if b = Ab then te σ2 H3 fun y H4 => ∃ m', m'<m /\ W (i+1) m' (xs++[y]) σ2 H4 else ∃ m', m'<m /\ W (i+1) m' xs σ2 H3)
theorem Mn{g:TG}{it:Ai}{tn:Ae -> Ax -> Prop}{E : Ah -> Al -> Prop}{RR:Ah -> Ai -> Gj -> Al -> Prop}(hc : X.calm = Ab)(B : BlockOk X scope N' ts)(I : Inv X pI σ H s)(T : Turn X.prog X.w X.K tg J fp it tn)(st : tn 0 s.heap)(hf : ∀ b ∈ fp, FL X pI H b)(hcl : ∀ x c, cl.lookup x = Aa c -> X.env.cells.lookup x = Aa c)(hcl2 : ∀ x, (x, CB) ∈ scope.names -> ∃ c, cl.lookup x = Aa c)(hg : ∀ cl C s H, PG (cxC X scope cl C N' s H fp) tg g)(ht : ∀ cl C s H, PTs (cxC X scope cl C N' s H fp) ifs tt)(he : ∀ cl C s H, PE (cxC X scope cl C N' s H fp) elt te)(h : HU J ts g tt te σ H Q)(hRR : ∀ cl D C s' H' σ' pins' xs ys n m, Inv (cxC X scope cl C N' s H fp) pins' σ' H' s' -> s'.heap.get? D = Aa { cls := .type "list", data := .seq (DA ys) n } -> H' D = Af -> AW xs ys -> xs.length <= sizeLine -> s.heap.objs.size <= D -> D ≠ C -> s.heap.objs.size <= C -> s'.heap.Ns C m -> Q (.ref D) (upd H' D (.lst xs)) -> RR (.ref D) C (.ok .next) s'):Au (model X.prog X.w) X.A (newList []) (fun acc s₃ =>Au (model X.prog X.w) X.A (FR scope X.env.globals cl [] X.env.qual Af .none (Aa X.env)) (fun cenv s₄=>DM (model X.prog X.w) X.A (.compStart (.ListComp elt [⟨tg,iter,ifs,0⟩] scope pos) 0 (.ref it) acc {cenv with scope := relabel scope X.env}) (RR acc cenv.locals) s₄) E s₃) E s := by
 refine CF (QE ?_);dsimp only;generalize hH2 : s.heap.push { cls := .type "list", dict := Af, data := .seq ([] : Ac Ah).toArray } = H2;have hns₁ : (EV (H2.push { cls := .type "dict", data := .dict #[] }) scope.names).Ns H2.objs.size (fun _ => Af) := (Heap.Ns.new H2 (.type "dict")).keeps (FC _ _)
 have hkp₁ : ∀ b o, H2.get? b = Aa o -> (EV (H2.push { cls := .type "dict", data := .dict #[] }) scope.names).get? b = Aa o := fun b o e => FC _ _ b o (As _ e)
 have hown := J8 scope.names (H2.push { cls := .type "dict", data := .dict #[] }) cl;have hinj := JR scope.names (H2.push { cls := .type "dict", data := .dict #[] }) cl;rw[DL]at hown hinj;generalize hcl' : BY (H2.objs.size+1) scope.names cl = cl' at hown hinj;have hcf : ∀ x, (x, Bf) ∉ scope.names -> cl'.lookup x = cl.lookup x := fun x hx => by rw[<-hcl'];exact JJ _ _ _ x hx
 have hch : ∀ x, (x, Bf) ∈ scope.names -> ∃ c, cl'.lookup x = Aa c /\ H2.objs.size+1 <= c := fun x hx => by rw[<-hcl'];exact JS _ _ _ _ x (AL _) (.inl hx)
 generalize hh₁ : EV (H2.push { cls := .type "dict", data := .dict #[] }) scope.names = h₁ at hns₁ hkp₁ hown;have hC : H2.objs.size = s.heap.objs.size+1 := by rw[<-hH2, DL]
 have hCle : s.heap.objs.size <= H2.objs.size := by rw[hC];exact PD _
 have hDC : s.heap.objs.size ≠ H2.objs.size := by rw[hC];exact Bl (PH _)
 have below : ∀ b, b<s.heap.objs.size -> b ≠ H2.objs.size := fun b hb => by rw[hC];exact Bl (E5 hb)
 have old : ∀ b o, s.heap.get? b = Aa o -> h₁.get? b = Aa o := fun b o e => hkp₁ b o (hH2 ▸ As _ e)
 have hacc : h₁.get? s.heap.objs.size = Aa { cls := .type "list", data := .seq ([] : Ac Ah).toArray 0 } := hkp₁ _ _ (hH2 ▸ Be _ rfl);have clt : ∀ x c, cl.lookup x = Aa c -> c<s.heap.objs.size := fun x c e => by
  obtain⟨v, q⟩ := I.cell x c (hcl x c e);exact q.lt
 have bc : BCells X scope cl' H2.objs.size h₁ := by
  refine⟨fun x c e => ?_, hinj (fun x y c e1 e2 => I.ok.inj x y c (hcl x c e1) (hcl y c e2)) (fun x c e => E5 (Ay (clt x c e) hCle)), fun x hx => ?_, fun x hx => ?_⟩
  ·rcases hown x c e with q|⟨q1, q2, q3⟩
   ·exact .inl (hcl x c q)
   ·exact .inr ⟨B.uniq _ q1, q2, q3⟩
  ·have hm := BP hx;obtain⟨c, e, hc⟩ := hch x hm;exact⟨c, e, hc⟩
  ·have hno : (x, Bf) ∉ scope.names := fun z => by
    have e1 := B.uniq _ hx;have e2 := B.uniq _ z;rw[show scope.names.lookup x = _ from e1]at e2
    cases e2
   obtain⟨c, e⟩ := hcl2 x hx;exact⟨c, by rw[hcf x hno];exact e, hcl x c e⟩
 have hfo : ∀ b ∈ fp, b<s.heap.objs.size := fun b hb => by
  obtain⟨o, e, _⟩ := T.obj 0 _ st b hb;exact AA e
 generalize hD : s.heap.objs.size = D at *;generalize hC' : H2.objs.size = C at *;have I0 : Inv (cxC X scope cl' C N' s H fp) [] (hideT ts σ) H {s with heap := h₁, toks := s.toks+([] : Ac (Aj × Ah)).length} := QS (tk := s.toks+([] : Ac (Aj × Ah)).length) I B hf (fun b hb => by rw[hD];exact hfo b hb) bc old (by rw[hD];exact hCle) hns₁
 have nD : H D = Af := I.hok.fresh (by rw[hD];exact AL _)
 have noD : ∀ b ∈ fp, b ≠ D := fun b hb => Bl (hfo b hb)
 have noC : ∀ b ∈ fp, b ≠ C := fun b hb => below b (hfo b hb)
 have stfs : D ∉ frs X.stack := fun z => by
  obtain⟨_, o, ho, _⟩ := I.stack.mem z;exact absurd (AA ho) (by rw[hD];exact A9 _)
 have cD : ∀ x c, cl'.lookup x = Aa c -> c ≠ D := fun x c e z => by
  rcases bc.own x c e with q|⟨_, q, _⟩
  ·obtain⟨v, q⟩ := I.cell x c q;exact absurd q.lt (by rw[z, hD];exact A9 _)
  ·rw[z]at q;exact absurd (Ay q hCle) (A9 _)
 have I1 : Inv (cxC X scope cl' C N' s H fp) [(D, { cls := .type "list", data := .seq ([] : Ac Ah).toArray 0 })] (hideT ts σ) H {s with heap := h₁, toks := s.toks+([] : Ac (Aj × Ah)).length} := I0.pins_of fun p hp => by
  have e := Bu.mp hp;subst e;exact⟨hacc, nD, hDC, stfs, fun v z => by
   have z' : HI _ _ = HE v := z;cases z'⟩
 have st1 : tn 0 h₁ := T.keep _ _ _ st fun b _ o e => old b o e
 obtain⟨W, ⟨m0, w0⟩, turn⟩ := h;have fpk : ∀{pl : Ac (Ai × AC)}{H' : Hp}, (∀ p ∈ pl, p.1 = D) -> (∀ b ∈ fp, H' b = Af) -> ∀ b ∈ fp, FL (cxC X scope cl' C N' s H fp) pl H' b := fun {pl H'} hp hn b hb=>
  ⟨hn b hb, noC b hb, fun z => by
   rcases AY.mp (I.stkSub b z) with e|e
   ·exact(hf b hb).2.1 e
   ·exact(hf b hb).2.2.1 e, .inl hb, fun x c e => (bc.own x c e).elim ((hf b hb).2.2.2.2.1 x c) (fun z q => absurd (PF hCle z.2.1) (PM.mpr (by rw[q];exact El (hfo b hb)))), fun p hp' => by
   have hp2 : p ∈ pl := hp';rw[hp p hp2];exact(noD b hb).symm⟩
 have loop : ∀ s₃ : Al, s₃ = {s with heap := h₁, toks := s.toks+([] : Ac (Aj × Ah)).length} ->
   DM (model X.prog X.w) X.A (.compLoop (.ListComp elt [⟨tg, iter, ifs, 0⟩] scope pos) 0 (.ref it) (.ref D) (compEnvC scope cl' C X.env)) (RR (.ref D) C) s₃ := by
  rintro s₃ rfl;refine QQ (fun k s' => ∃ i σ' H' xs ys n, Inv (cxC X scope cl' C N' s H fp) [(D, { cls := .type "list", data := .seq (DA ys) n })] σ' H' s' /\ tn i s'.heap /\ (∀ b ∈ fp, H' b = Af) /\ AW xs ys /\ xs.length <= sizeLine /\ W i k xs σ' H') ?_ m0
   ⟨0, _, H, [], [], 0, I1, st1, fun b hb => (hf b hb).1, .nil, EN _, w0⟩
  rintro k s' ⟨i, σ', H', xs, ys, n, I', st', fr', rv, hz, w'⟩;have one : ∀ p ∈ [((D, { cls := .type "list", data := .seq (DA ys) n }) : Ai × AC)], p.1 = D := fun p hp => by rw[Bu.mp hp]
  rcases turn i k xs σ' H' w' with ⟨stop, q⟩|⟨go, hlt, step⟩
  ·refine AV (T.done (cxC X scope cl' C N' s H fp) rfl rfl rfl hc i _ s' σ' H' (fun _ _ => AH) I' (fpk one fr') st' stop) (fun r s1 ⟨hr, J1⟩ => ?_) fun _ _ f => f.elim
   subst hr;obtain⟨e, hn, _⟩ := J1.pin _ (A3 _ AI);obtain⟨m, hm, _⟩ := J1.loc;exact hRR cl' D C s1 H' σ' _ xs ys n m J1 e hn rv hz (AL _) hDC hCle hm (q D hn)
  ·refine AV (T.item (cxC X scope cl' C N' s H fp) rfl rfl rfl hc i _ s' σ' H' (fun _ _ => AH) I' (fpk one fr') st' go) (fun r s1 ⟨u, hr, h4⟩ => ?_) fun _ _ f => f.elim
   subst hr;refine AV h4 (fun _ s5 ⟨x, H5, I5, r5, y5, st5, fr5⟩ => ?_) fun _ _ f => f.elim
   have I5' := I5.pinned (fpk one fr5) (T.obj _ _ st5);refine AV (hg cl' C s H _ s5 σ' H5 x u _ I5' r5 (step x H5 y5)) (fun _ s6 ⟨σ6, H6, I6, q6⟩ => ?_) fun _ _ f => f.elim
   refine AV (ht cl' C s H _ s6 σ6 H6 _ I6 q6) (fun ok s7 ⟨H7, I7, q7⟩ => ?_) fun _ _ f => f.elim
   have again : ∀{s8 : Al}{H8 : Hp}{ys' : Ac Ah}{n' : Ae}, Inv (cxC X scope cl' C N' s H fp) ((D, { cls := .type "list", data := .seq (DA ys') n' })::GR fp s5.heap) σ6 H8 s8 -> Inv (cxC X scope cl' C N' s H fp) [(D, { cls := .type "list", data := .seq (DA ys') n' })] σ6 H8 s8 /\ tn (i+1) s8.heap /\ ∀ b ∈ fp, H8 b = Af := fun {s8 H8 ys' n'} I8=>
    ⟨I8.pins_of fun p hp => I8.pin p (A3 _ (by rw[Bu.mp hp];exact AI)), T.keep _ _ _ st5 fun b hb o e => (I8.pin (b, o) (A3 _ (Az _ (IQ hb e)))).1, fun b hb => by
     obtain⟨o, e, d⟩ := T.obj _ _ st5 b hb;exact(I8.pin (b, o) (A3 _ (Az _ (IQ hb e)))).2.1⟩
   cases ok with
   |false=>
    rw[AE (by decide)]at q7
    obtain⟨m', hm, w7⟩ := q7;obtain⟨a1, a2, a3⟩ := again I7;rw[AE (by decide)]
    exact⟨m', hm, i+1, σ6, H7, xs, ys, n, a1, a2, a3, rv, hz, w7⟩
   |true=>
    rw[AB rfl]at q7;rw[AB rfl];refine AV (he cl' C s H _ s7 σ6 H7 _ I7 q7) (fun val s8 ⟨y, H8, I8, r8, m', hm, w8⟩ => ?_) fun _ _ f => f.elim
    have hl := rv.length;refine Rj (X := cxC X scope cl' C N' s H fp) (ys := ys) (n := n) (pI := GR fp s5.heap) I8 (by show s.heap.objs.size <= D;rw[hD];exact AL _) (fun p hp => ?_) cD (by omega) fun s9 I9 kb => ?_
    ·have hp2 : p ∈ GR fp s5.heap := hp;exact noD _ (Mb hp2).1
    ·obtain⟨a1, a2, a3⟩ := again I9;exact⟨m', hm, i+1, σ6, H8, xs++[y], ys++[val], n+1, a1, a2, a3, rv.append (.cons r8 .nil), by rw[Cu];exact hlt, w8⟩
 exact codeAny_compStart_list (loop _ rfl) (T.self _ 0 _ _ _ st1 (loop _ rfl))
theorem Te{g:TG}(hc : X.calm = Ab)(B : BlockOk X scope N' ts)(hi : PI X tg iter wi)(hg : ∀ cl C s H fp, PG (cxC X scope cl C N' s H fp) tg g)(ht : ∀ cl C s H fp, PTs (cxC X scope cl C N' s H fp) ifs tt)(he : ∀ cl C s H fp, PE (cxC X scope cl C N' s H fp) elt te)(hs : ∀ x, B2 iter X.env x = pure x):PE X (.ListComp elt [⟨tg,iter,ifs,0⟩] scope pos) (fun σ H Q =>wi σ H fun J H1 =>HU J ts g tt te σ H1 Q) := by
 intro pI s σ H Q I h;obtain⟨cl, hclos, hcl, hcl2⟩ := LL (scope := scope) (env := X.env) fun x hx hk => I.ok.has x.1 ((B.free x hx hk).imp id id)
 rw[eval_ListComp];refine QA (use := Af) rfl hs hclos B.kind B.names (thn (hi pI s σ H _ I h) fun v s1 h1 => thn h1 fun itv s2 h2 => ?_)
 obtain⟨it, fp, tn, J, H2, e, I2, T, st2, f2, h3⟩ := h2;subst e;refine Mn (RR := fun acc C => compPost (model X.prog X.w) X.A X.xe Af (EP X pI σ Q) acc C) hc B I2 T st2 f2 hcl hcl2 (fun cl C s H => hg cl C s H fp) (fun cl C s H => ht cl C s H fp) (fun cl C s H => he cl C s H fp) h3 fun cl' D C s' H' σ' pins' xs ys n m I' hd hDn rv hz hD hDC hC hm q => ?_
 exact⟨m, hm, fun h'' hs'' => ⟨.ref D, _, Mk I2 f2 I' hD hDC hC hd hDn rv hz hs'', rfl, q⟩⟩
theorem S8{n:Aj}{g:TG}(hc : X.calm = Ab)(B : BlockOk X scope N' ts)(hi : PI X tg iter wi)(hg : ∀ cl C s H fp, PG (cxC X scope cl C N' s H fp) tg g)(ht : ∀ cl C s H fp, PTs (cxC X scope cl C N' s H fp) ifs tt)(he : ∀ cl C s H fp, PE (cxC X scope cl C N' s H fp) elt te)(hs : ∀ x, B2 iter X.env x = pure x)(hN : X.N.Nodup)(hni : X.N[i]? = Aa n)(hx : X.env.scope.names.lookup n = Aa .local)(hsw : Co (.ListComp elt [⟨tg, iter, ifs, 0⟩] scope pos) (Aa (.Name n pos')) pos2.line X.env = pure Ab):PS X (.Assign [.Name n pos'] (.ListComp elt [⟨tg,iter,ifs,0⟩] scope pos) pos2) (Ju (fun σ H Q =>wi σ H fun J H1 =>HU J ts g tt te σ H1 Q) (E3 i)) := by
 intro pI s σ H Dn I h;obtain⟨cl, hclos, hcl, hcl2⟩ := LL (scope := scope) (env := X.env) fun x hx hk => I.ok.has x.1 ((B.free x hx hk).imp id id)
 rw[exec_Assign_Name_used _ _ _ _ hsw];refine Ap (CU (Ap ?_));show Au _ X.A (do let _ <-comprehension (.ListComp elt [⟨tg, iter, ifs, 0⟩] scope pos) scope X.env _ (newList []) Ad (eval iter X.env) (Aa (assign (.Name n pos') X.env))) _ _ s
 refine Ap (AV (QA (use := Aa (assign (.Name n pos') X.env)) (Q := fun _ s' => SP X pI Dn .next s') rfl hs hclos B.kind B.names
  (thn (hi pI s σ H _ I h) fun v s1 h1 => thn h1 fun itv s2 h2 => ?_)) (fun _ s' hq => AS (AS hq)) fun _ _ e => e)
 obtain⟨it, fp, tn, J, H2, e, I2, T, st2, f2, h3⟩ := h2;subst e;refine Mn (RR := fun acc C => compPost (model X.prog X.w) X.A X.xe (Aa (assign (.Name n pos') X.env)) (fun _ s' => SP X pI Dn .next s') acc C) hc B I2 T st2 f2 hcl hcl2 (fun cl C s H => hg cl C s H fp) (fun cl C s H => ht cl C s H fp) (fun cl C s H => he cl C s H fp) h3 fun cl' D C s' H' σ' pins' xs ys n' m I' hd hDn rv hz hD hDC hC hm q => ?_
 have J0 : Inv X pI σ (upd H' D (.lst xs)) s' := Mk I2 f2 I' hD hDC hC hd hDn rv hz (Heap.SameBut.refl ..);refine Qz (L5 J0 hN hni (.inl hx) (show A7 (.ref D) (.ref D) from rfl) (fun s'' J1 ⟨a, sb, ha⟩ => ?_) (.inr hx))
 have hC0 : X.s₀.heap.objs.size <= C := BJ I2.sz hC;have hL : C ≠ X.env.locals := fun z => absurd (Ay I2.lt (z ▸ hC)) (A9 _)
 have hcC : ∀ x c, X.env.cells.lookup x = Aa c -> c ≠ C := fun x c e z => by
  obtain⟨v, q'⟩ := I2.cell x c e;exact absurd (Ay q'.lt (by rw[z];exact hC)) (A9 _)
 have hp : ∀ p ∈ X.pn++pI, p.1 ≠ C := fun p hp z => absurd (Ay (AA (I2.pin p hp).1) (by rw[z];exact hC)) (A9 _)
 have hCn : upd H' D (.lst xs) C = Af := by rw[A8 hDC.symm];exact I'.free
 have hCa : C ≠ a := by
  rcases ha with rfl|ha
  ·exact hL
  ·exact fun z => hcC n a ha z.symm
 refine⟨m, hm.sameBut sb hCa, fun h'' hs'' => ⟨_, _, J1.turned (t' := s''.toks) (fun b o hb e => (hs''.2 b hb).trans e) hCn hL (.inr hC0) hcC hp, q⟩⟩
theorem J5 : ∀(ts : Ac Ae)(ρ : Rho)(j : Ae), (Ev ts ρ)[j]? = if j ∈ ts then (ρ[j]?).map (fun _ => Af) else ρ[j]?
 |[], ρ, j => by simp[Ev]
 |t::ts, ρ, j => by
  show (Ev ts (ρ.set t Af))[j]? = _;rw[J5 ts];by_cases h1 : j ∈ ts
  ·rw[AB h1, AB (Az _ h1)];by_cases h2 : t = j
   ·subst h2;rw[DN];cases ρ[t]? <;> rfl
   ·rw[BE h2]
  ·rw[AE h1];by_cases h2 : t = j
   ·subst h2;rw[AB AI, DN];cases ρ[t]? <;> rfl
   ·rw[BE h2, AE (by simp only[AY, IF];exact⟨fun z => h2 z.symm, h1⟩)]
theorem J4 : ∀(ts : Ac Ae)(ρ : Rho), (Ev ts ρ).length = ρ.length
 |[], _ => rfl
 |t::ts, ρ => by show (Ev ts (ρ.set t Af)).length = _;rw[J4 ts, AU]
theorem JH : ∀(ts : Ac Ae)(σ : L2.St){i : Ae}, i ∉ ts -> (hideT ts σ)[i]? = σ[i]?
 |[], _, _, _ => rfl
 |t::ts, σ, i, h => by
  simp only[AY, IF]at h;show (hideT ts (σ.set t Af))[i]? = _;rw[JH ts _ h.2, BE (fun z => h.1 z.symm)]
section
variable{K : Fg}{CL : ClA}{A : Ai -> Prop}{ρ ρ' : Rho}{σ : L2.St}{H : Hp}
theorem Good.less(g : Good K CL A ρ σ H)(hl : ρ'.length = ρ.length)(h : ∀(i : Ae)(d : D)(o : An), ρ'[i]? = Aa (Aa (d, o)) -> ρ[i]? = Aa (Aa (d, o))) : Good K CL A ρ' σ H := ⟨fun i d e => g.sh i d (h i d Ad e), fun i d e => g.ow i d (h i d Ab e), hl.trans g.len⟩
theorem Good.put(g : Good K CL A ρ σ H)(t : Ae)(r : Rep K CL H A v d) : Good K CL A (ρ.set t (Aa (d, Ad))) (σ.set t (Aa v)) H := by
 refine⟨fun j e h => ?_, fun j e h => ?_, by rw[AU, AU];exact g.len⟩
 ·by_cases hj : t = j
  ·subst hj;have e1 := EH h;cases e1;have hl : t<σ.length := by
    rw[<-g.len];have := (AZ.mp h).1;simpa using this
   exact⟨v, by rw[B6 hl], r⟩
  ·rw[BE hj]at h;obtain⟨w', q, rw'⟩ := g.sh j e h;exact⟨w', by rw[BE hj];exact q, rw'⟩
 ·have hj : t ≠ j := by
   rintro rfl;have := EH h;cases this
  rw[BE hj]at h;obtain⟨a, xs, ds, q, z⟩ := g.ow j e h;exact⟨a, xs, ds, by rw[BE hj];exact q, z⟩
theorem Good.hide(g : Good K CL A ρ σ H)(ts : Ac Ae) : Good K CL A (Ev ts ρ) σ H := g.less (J4 _ _) fun i d o e => by
 rw[J5]at e;split at e
 ·cases q : ρ[i]? with
  |none => rw[q]at e;cases e
  |some x => rw[q]at e;cases e
 ·exact e
theorem Good.hideT(g : Good K CL A ρ σ H)(ts : Ac Ae) : Good K CL A (Ev ts ρ) (hideT ts σ) H := by
 have key : ∀ i x, (Ev ts ρ)[i]? = Aa (Aa x) -> ρ[i]? = Aa (Aa x) /\ i ∉ ts := fun i x e => by
  rw[J5]at e;split at e
  ·cases q : ρ[i]? with
   |none => rw[q]at e;cases e
   |some x => rw[q]at e;cases e
  ·exact⟨e, by assumption⟩
 refine⟨fun i d e => ?_, fun i d e => ?_, by rw[J4, J3];exact g.len⟩
 ·obtain⟨e1, e2⟩ := key i _ e;obtain⟨v, q, r⟩ := g.sh i d e1;exact⟨v, by rw[JH _ _ e2];exact q, r⟩
 ·obtain⟨e1, e2⟩ := key i _ e;obtain⟨a, xs, ds, q, r⟩ := g.ow i d e1;exact⟨a, xs, ds, by rw[JH _ _ e2];exact q, r⟩
end
noncomputable def GG(K : Fg)(CL : ClA)(ts : Ac Ae)(as : D -> Rho -> R Rho)(g : TG) : Prop := ∀ A ρ σ H v d ρ' Q, Good K CL A (Ev ts ρ) σ H -> Rep K CL H A v d -> as d ρ = .ok ρ' -> (∀ σ', Good K CL A ρ' σ' H -> Good K CL A (Ev ts ρ) σ' H -> Q σ' H) -> g v σ H Q
theorem Uh(i : Ae) : GG K CL [i] (fun d ρ => .ok (ρ.set i (Aa (d, Ad)))) (E3 i) := fun A ρ σ H v d ρ' Q g r e k => by
 cases e;have g2 := g.put i r;have e1 : (Ev [i] ρ).set i (Aa (d, Ad)) = ρ.set i (Aa (d, Ad)) := by
  show (ρ.set i Af).set i (Aa (d, Ad)) = _;rw[PC]
 rw[e1]at g2;refine k _ g2 ?_;have := g2.hide [i];have e2 : Ev [i] (ρ.set i (Aa (d, Ad))) = Ev [i] ρ := by
  show (ρ.set i _).set i Af = ρ.set i Af;rw[PC]
 rw[e2]at this;exact this
noncomputable abbrev W0 : XW := fun _ _ => AH
noncomputable def STs(X : Cx)(CL : ClA)(ifs : Ac Ao)(f : Rho -> R An) : Prop := ∀ A, PTs X ifs (fun σ H Q => AOk H A /\ ∃ ρ, Good X.K CL A ρ σ H /\ Cc W0 H (f ρ) Q)
theorem SH : STs X CL [] (fun _ => .ok Ab) := fun A pI s σ H Q I ⟨hA, ρ, g, p⟩ => TY pI s σ H Q I (p H (Av.refl H))
theorem SG(h : SB X CL W0 c f) : STs X CL [c] f := fun A pI s σ H Q I q => TX (h A) pI s σ H Q I q
section
variable{X : Cx}{CL : ClA}{W : XW}{tg iter elt : Ao}{ifs : Ac Ao}{scope : Bz}{pos : AJ}{N' : Ac Aj}{ts : Ac Ae}{fi : Rho -> R (Ac D)}{fc : Rho -> R An}{fe : Rho -> R D}{as : D -> Rho -> R Rho}{g : TG}
theorem QI{g : D -> R An}{f:D -> R D}{x:D}{xs ys:Ac D}(h : B9 g f (x::xs) = .ok ys) : (g x = .ok Ad /\ B9 g f xs = .ok ys) \/ ∃ y r, g x = .ok Ab /\ f x = .ok y /\ B9 g f xs = .ok r /\ ys = y::r := by
 unfold B9 at h;cases e : g x with
 |bad => rw[e]at h;cases h
 |exn z => rw[e]at h;cases h
 |ok b=>
  rw[e, R.bind_ok]at h;cases b with
  |false => exact .inl ⟨rfl, h⟩
  |true=>
   rw[AB rfl]at h;cases e2 : f x with
   |bad => rw[e2]at h;cases h
   |exn z => rw[e2]at h;cases h
   |ok y=>
    rw[e2, R.bind_ok]at h;cases e3 : B9 g f xs with
    |bad => rw[e3]at h;cases h
    |exn z => rw[e3]at h;cases h
    |ok r=>
     rw[e3, R.bind_ok]at h;cases h;exact .inr ⟨y, r, rfl, rfl, rfl, rfl⟩
theorem GO{β:Type}{r : R α}{f : α -> R β}{b : β}(h : r.bind f = .ok b) : ∃ a, r = .ok a /\ f a = .ok b := by
 cases r with
 |ok a => exact⟨a, rfl, h⟩
 |exn x => cases h
 |bad => cases h
theorem Rx{ds ys : Ac D}(hGG : GG K CL ts as g)(hA : AOk H1 A)(gd : Good K CL A ρ σ H1)(yl : GY K CL A ds J H1)(hz : ds.length <= sizeLine)(hcp : B9 (fun x => (as x ρ).bind fc) (fun x => (as x ρ).bind fe) ds = .ok ys)(q : ∀ xs H2, Av H1 H2 -> Reps K CL H2 A xs ys -> ∀ p, H2 p = Af -> Q (.ref p) (upd H2 p (.lst xs))):HU J ts g (fun σ H Q =>AOk H A/\∃ ρ,Good K CL A ρ σ H/\Cc W0 H (fc ρ) Q) (fun σ H Q =>AOk H A/\∃ ρ,Good K CL A ρ σ H/\AX (fun H =>Rep K CL H A) W0 H (fe ρ) Q) σ H1 Q := by
 refine⟨fun i m xs σ' H' => m = ds.length-i /\ i <= ds.length /\ xs.length <= i /\ Av H1 H' /\ Good K CL A (Ev ts ρ) σ' H' /\ ∃ outs rest, Reps K CL H' A xs outs /\ B9 (fun x => (as x ρ).bind fc) (fun x => (as x ρ).bind fe) (ds.drop i) = .ok rest /\ ys = outs++rest,
  ⟨ds.length, by simp, EN _, AL _, Av.refl _, gd.hideT ts, [], ys, trivial, hcp, rfl⟩, ?_⟩
 rintro i m xs σ' H' ⟨rfl, hi, hxl, sm, g', outs, rest, rs, hc, e⟩;obtain⟨yst, ygo⟩ := yl H' (Kp.of sm) i;by_cases hlt : i<ds.length
 ·have hd : ds[i]? = Aa ds[i] := BV hlt;obtain⟨hgo, hyl⟩ := ygo _ hd;refine .inr ⟨hgo, by omega, fun x H2 hx => ?_⟩
  obtain⟨s2, rx⟩ := hyl x H2 hx;have rx' := rx A (fun a ha => .inl ha) (hA.same sm)
  rw[Po hlt]at hc;have sm2 := sm.trans s2;rcases QI hc with ⟨h1, h2⟩|⟨y, r, h1, h2, h3, h4⟩
  ·obtain⟨ρ', ea, ec⟩ := GO h1;refine hGG A ρ σ' H2 x ds[i] ρ' _ (g'.same s2) rx' ea fun σ3 g3 g4 => ⟨hA.same sm2, ρ', g3, ?_⟩
   rw[ec];exact fun H3 s3 => by
    dsimp only;rw[AE (by decide)]
    exact⟨ds.length-(i+1), by omega, rfl, hlt, by omega, sm2.trans s3, g4.same s3, outs, rest, (rs.same s2).same s3, h2, e⟩
  ·obtain⟨ρ', ea, ec⟩ := GO h1;obtain⟨ρ2, ea2, ee⟩ := GO h2;rw[ea]at ea2;cases ea2;refine hGG A ρ σ' H2 x ds[i] ρ' _ (g'.same s2) rx' ea fun σ3 g3 g4 => ⟨hA.same sm2, ρ', g3, ?_⟩
   rw[ec];exact fun H3 s3 => by
    dsimp only;rw[AB rfl];refine⟨(hA.same sm2).same s3, ρ', g3.same s3, ?_⟩;rw[ee];exact fun v H4 s4 r4 => ⟨ds.length-(i+1), by omega, rfl, hlt, by rw[Cu, List.length_singleton];omega, (sm2.trans s3).trans s4, (g4.same s3).same s4, outs++[y], r, (((rs.same s2).same s3).same s4).append ⟨r4, trivial⟩, h3, by rw[e, h4];simp⟩
 ·have hk' : ds.length <= i := by omega
  rw[Pp hk']at hc;have hr : rest = [] := by cases hc;rfl
  subst hr;rw[BD]at e;subst e;exact .inl ⟨yst hk', fun p hp => q xs H' sm rs p hp⟩
theorem DU.ok_of{r:R (Ac D)}{f:Ac D -> R D}{Q':It -> Hp -> Prop}(h : AX Rq W H (r.bind f) Q)(k : ∀ ds J H', r = .ok ds -> Av H H' -> GY K CL A ds J H' -> ds.length <= sizeLine -> AX Rq W H' (f ds) Q -> Q' J H') : DU K CL A W H r Q' := by
 cases r with
 |ok d => exact fun J H2 s2 y z => k d J H2 rfl s2 y z (AX.same s2 h)
 |exn x => exact h
 |bad => exact h
theorem VR{r : R α}{a : α}(h : noX r = .ok a) : r = .ok a := by
 cases r with
 |ok b => exact h
 |exn x => cases h
 |bad => cases h
theorem Mh(hGG : GG X.K CL ts as g)(hA : AOk H A)(gd : Good X.K CL A ρ σ H)(p : AX (Cq X.K CL Ab H A) W H ((fi ρ).bind fun xs => (noX (B9 (fun x => (as x ρ).bind fc) (fun x => (as x ρ).bind fe) xs)).bind fun ys => .ok (.lst ys)) Q):DU X.K CL A W H (fi ρ) (fun J H1 =>HU J ts g (fun σ H Q =>AOk H A/\∃ ρ,Good X.K CL A ρ σ H/\Cc W0 H (fc ρ) Q) (fun σ H Q =>AOk H A/\∃ ρ,Good X.K CL A ρ σ H/\AX (fun H =>Rep X.K CL H A) W0 H (fe ρ) Q) σ H1 Q):=
 DU.ok_of p fun ds J H1 e1 s1 yl hz p1 => by
  cases e2 : noX (B9 (fun x => (as x ρ).bind fc) (fun x => (as x ρ).bind fe) ds) with
  |ok ys=>
   rw[e2]at p1;exact Rx hGG (hA.same s1) (gd.same s1) yl hz (VR e2) fun xs H2 s2 rs q hq => p1 _ _ (s2.trans (EI hq _)) (Hf (s1.trans s2) ((hA.same s1).same s2) hq rs)
  |exn x => rw[e2]at p1;cases hq : B9 (fun x => (as x ρ).bind fc) (fun x => (as x ρ).bind fe) ds <;> rw[hq]at e2 <;> cases e2
  |bad => rw[e2]at p1;exact p1.elim
theorem TJ(hc : X.calm = Ab)(B : BlockOk X scope N' ts)(hi : SI X CL W tg iter fi)(hGG : GG X.K CL ts as g)(hg : ∀ cl C s H fp, PG (cxC X scope cl C N' s H fp) tg g)(ht : ∀ cl C s H fp, STs (cxC X scope cl C N' s H fp) CL ifs fc)(he : ∀ cl C s H fp, SE (cxC X scope cl C N' s H fp) CL W0 elt fe)(hs : ∀ x, B2 iter X.env x = pure x) : SC X CL W Ab (.ListComp elt [⟨tg, iter, ifs, 0⟩] scope pos) (fun ρ => (fi ρ).bind fun xs => (noX (B9 (fun x => (as x ρ).bind fc) (fun x => (as x ρ).bind fe) xs)).bind fun ys => .ok (.lst ys)) := fun A pI s σ H Q I ⟨hA, ρ, gd, p⟩=>
 Te hc B (hi A) hg (fun cl C s H fp => ht cl C s H fp A) (fun cl C s H fp => he cl C s H fp A) hs pI s σ H Q I ⟨hA, ρ, gd, Mh hGG hA gd p⟩
end
section
variable{K : Fg}{CL : ClA}{Fz : Ai -> HO -> Prop}{B : Ai -> Prop}{ρ : Rho}{σ : L2.St}{H H' : Hp}
theorem Sx.setF(x : Sx K CL Fz B ρ σ H)(s : Av H H'){ds : Ac D}(h0 : H a = Af)(h1 : H' a = Aa (.lst xs))(r : Reps K CL H' (fun b => Bg B ρ σ b \/ b = a) xs ds) : Sx K CL Fz B (ρ.set i (Aa (.lst ds, Ab))) (σ.set i (Aa (.ref a))) H' := by
 have nA : ¬ Bg B ρ σ a := x.aok.new h0;have own : ∀(j : Ae)(e : D), (ρ.set i (Aa (.lst ds, Ab)))[j]? = Aa (Aa (e, Ab)) -> (i = j /\ e = .lst ds) \/ (i ≠ j /\ ρ[j]? = Aa (Aa (e, Ab))) := fun j e h => by
  by_cases hj : i = j
  ·subst hj;have := EH h;cases this;exact .inl ⟨rfl, rfl⟩
  ·exact .inr ⟨hj, by rw[BE hj]at h;exact h⟩
 have atI : ∀{j : Ae}{y : Sl}, (ρ.set i (Aa (.lst ds, Ab)))[j]? = Aa y -> i = j -> (σ.set i (Aa (.ref a)))[j]? = Aa (Aa (.ref a)) := fun {j y} h e => by
  subst e;have hl : i<σ.length := by
   rw[<-x.len];have := (AZ.mp h).1;simpa using this
  rw[B6 hl]
 have sub : ∀ b, Bg B (ρ.set i (Aa (.lst ds, Ab))) (σ.set i (Aa (.ref a))) b -> Bg B ρ σ b \/ b = a := fun b h => by
  rcases h with h|⟨j, e, h1, h2⟩
  ·exact .inl (.inl h)
  ·rcases own j e h1 with ⟨hj, _⟩|⟨hj, h1'⟩
   ·rw[atI h1 hj]at h2;cases h2;exact .inr rfl
   ·rw[BE hj]at h2;exact .inl (.inr ⟨j, e, h1', h2⟩)
 have wide : ∀{v : V}{d : D}, Rep K CL H (Bg B ρ σ) v d -> Rep K CL H' (Bg B (ρ.set i (Aa (.lst ds, Ab))) (σ.set i (Aa (.ref a)))) v d := fun r => (Rep.wide (fun b hb => (sub b hb).imp id fun e => by rw[e];exact h0) _ r).same s
 have wides : ∀{v : Ac V}{d : Ac D}, Reps K CL H (Bg B ρ σ) v d -> Reps K CL H' (Bg B (ρ.set i (Aa (.lst ds, Ab))) (σ.set i (Aa (.ref a)))) v d := fun r => (Reps.wide (fun b hb => (sub b hb).imp id fun e => by rw[e];exact h0) _ r).same s
 refine⟨⟨fun j e h => ?_, fun j e h => ?_, by rw[AU, AU];exact x.len⟩, fun b h => ?_, fun j e b g1 g2 => ?_, fun j k e f b g1 g2 g3 g4 => ?_, fun b o z => s _ _ (x.same b o z), by rw[AU, AU];exact x.len⟩
 ·have hj : i ≠ j := by
   rintro rfl;have := EH h;cases this
  rw[BE hj]at h;obtain⟨w', q, rw'⟩ := x.good.sh j e h;exact⟨w', by rw[BE hj];exact q, wide rw'⟩
 ·rcases own j e h with ⟨hj, rfl⟩|⟨hj, h'⟩
  ·have q := atI h hj;exact⟨a, xs, ds, q, rfl, .inr ⟨j, _, h, q⟩, h1, Reps.sub sub _ r⟩
  ·obtain⟨b, ys, es, q, z, ha, hh, rr⟩ := x.good.ow j e h';have q' : (σ.set i (Aa (.ref a)))[j]? = Aa (Aa (.ref b)) := by rw[BE hj];exact q
   exact⟨b, ys, es, q', z, .inr ⟨j, e, h, q'⟩, s _ _ hh, wides rr⟩
 ·rcases sub b h with z|z
  ·obtain⟨ys, q⟩ := x.aok b z;exact⟨ys, s _ _ q⟩
  ·rw[z];exact⟨xs, h1⟩
 ·rcases own j e g1 with ⟨hj, _⟩|⟨hj, h'⟩
  ·rw[atI g1 hj]at g2;cases g2;refine⟨fun o z => ?_, fun z => nA (.inl z)⟩
   have := x.same a o z;rw[h0]at this;cases this
  ·rw[BE hj]at g2;exact x.new j e b h' g2
 ·rcases own j e g1 with ⟨hj, _⟩|⟨hj, h'⟩
  ·rw[atI g1 hj]at g3;cases g3;rcases own k f g2 with ⟨hk, _⟩|⟨hk, h''⟩
   ·exact hj.symm.trans hk
   ·rw[BE hk]at g4;exact absurd (.inr ⟨k, f, h'', g4⟩) nA
  ·rw[BE hj]at g3;rcases own k f g2 with ⟨hk, _⟩|⟨hk, h''⟩
   ·rw[atI g2 hk]at g4;cases g4;exact absurd (.inr ⟨j, e, h', g3⟩) nA
   ·rw[BE hk]at g4;exact x.dis j k e f b h' h'' g3 g4
theorem Sx.upd(x : Sx K CL Fz B ρ σ H){i : Ae}{d : D}{a : Ai}{xs : Ac V}{ds : Ac D}(hi : ρ[i]? = Aa (Aa (d, Ab)))(ha : σ[i]? = Aa (Aa (.ref a)))(r : Reps K CL H (Bg B ρ σ) xs ds) : Sx K CL Fz B (ρ.set i (Aa (.lst ds, Ab))) σ (L2.upd H a (.lst xs)) := by
 have oa : Bg B ρ σ a := .inr ⟨i, d, hi, ha⟩;have hil : i<ρ.length := (AZ.mp hi).1;have get : ∀(j : Ae)(e : D), (ρ.set i (Aa (.lst ds, Ab)))[j]? = Aa (Aa (e, Ab)) ↔ (i = j /\ e = .lst ds) \/ (i ≠ j /\ ρ[j]? = Aa (Aa (e, Ab))) := fun j e => by
  by_cases hj : i = j
  ·subst hj;rw[B6 hil];simp;exact⟨fun z => z.symm, fun z => z.symm⟩
  ·rw[BE hj];simp[hj]
 have same : ∀ b, Bg B (ρ.set i (Aa (.lst ds, Ab))) σ b ↔ Bg B ρ σ b := fun b => by
  constructor
  ·rintro (h|⟨j, e, h1, h2⟩)
   ·exact .inl h
   ·rcases (get j e).mp h1 with ⟨rfl, _⟩|⟨_, h1⟩
    ·exact .inr ⟨i, d, hi, h2⟩
    ·exact .inr ⟨j, e, h1, h2⟩
  ·rintro (h|⟨j, e, h1, h2⟩)
   ·exact .inl h
   ·by_cases hj : i = j
    ·subst hj;exact .inr ⟨i, .lst ds, (get i _).mpr (.inl ⟨rfl, rfl⟩), h2⟩
    ·exact .inr ⟨j, e, (get j e).mpr (.inr ⟨hj, h1⟩), h2⟩
 have kp : Kp (Bg B ρ σ) H (L2.upd H a (.lst xs)) := fun b o e na => by
  have hne : b ≠ a := by
   rintro rfl;exact na oa
  rw[A8 hne];exact e
 refine⟨⟨fun j e h => ?_, fun j e h => ?_, by rw[AU];exact x.len⟩, fun b h => ?_, fun j e b g1 g2 => ?_, fun j k e f b g1 g2 g3 g4 => ?_, fun b o z => ?_, by rw[AU];exact x.len⟩
 ·have hj : i ≠ j := by
   rintro rfl;have := EH h;cases this
  rw[BE hj]at h;obtain⟨w', q, rw'⟩ := x.good.sh j e h;exact⟨w', q, Rep.sub (fun b hb => (same b).mp hb) _ (Rep.kp kp _ rw')⟩
 ·rcases (get j e).mp h with ⟨rfl, rfl⟩|⟨hj, h'⟩
  ·exact⟨a, xs, ds, ha, rfl, (same a).mpr oa, DH, Reps.sub (fun b hb => (same b).mp hb) _ (Reps.kp kp _ r)⟩
  ·obtain⟨b, ys, es, q, z, hb, hh, rr⟩ := x.good.ow j e h';have hne : b ≠ a := fun z => hj (x.dis i j d e a hi h' ha (z ▸ q))
   exact⟨b, ys, es, q, z, (same b).mpr hb, by rw[A8 hne];exact hh, Reps.sub (fun b hb => (same b).mp hb) _ (Reps.kp kp _ rr)⟩
 ·obtain⟨ys, q⟩ := x.aok b ((same b).mp h);by_cases e : b = a
  ·rw[e];exact⟨xs, DH⟩
  ·exact⟨ys, by rw[A8 e];exact q⟩
 ·rcases (get j e).mp g1 with ⟨rfl, _⟩|⟨_, h'⟩
  ·exact x.new i d b hi g2
  ·exact x.new j e b h' g2
 ·rcases (get j e).mp g1 with ⟨rfl, _⟩|⟨hj, h'⟩
  ·rcases (get k f).mp g2 with ⟨rfl, _⟩|⟨hk, h''⟩
   ·rfl
   ·exact x.dis i k d f b hi h'' g3 g4
  ·rcases (get k f).mp g2 with ⟨rfl, _⟩|⟨hk, h''⟩
   ·exact x.dis j i e d b h' hi g3 g4
   ·exact x.dis j k e f b h' h'' g3 g4
 ·have hne : b ≠ a := fun e => (x.new i d a hi ha).1 o (e ▸ z)
  rw[A8 hne];exact x.same b o z
theorem Sx.rel(x : Sx K CL Fz B ρ σ H)(hi : ρ[i]? = Aa (Aa (d, Ab))) : Sx K CL Fz B (ρ.set i (Aa (d, Ad))) σ H := by
 obtain⟨a, xs, ds, q, rfl, oa, hh, rr⟩ := x.good.ow i d hi;have own : ∀(j : Ae)(e : D), (ρ.set i (Aa (.lst ds, Ad)))[j]? = Aa (Aa (e, Ab)) -> i ≠ j /\ ρ[j]? = Aa (Aa (e, Ab)) := fun j e h => by
  by_cases hj : i = j
  ·subst hj;have := EH h;cases this
  ·exact⟨hj, by rw[BE hj]at h;exact h⟩
 have sub : ∀ b, Bg B (ρ.set i (Aa (.lst ds, Ad))) σ b -> Bg B ρ σ b := fun b h => by
  rcases h with h|⟨j, e, h1, h2⟩
  ·exact .inl h
  ·exact .inr ⟨j, e, (own j e h1).2, h2⟩
 have na : ¬ Bg B (ρ.set i (Aa (.lst ds, Ad))) σ a := fun h => by
  rcases h with h|⟨j, e, h1, h2⟩
  ·exact(x.new i _ a hi q).2 h
  ·obtain⟨hj, h1⟩ := own j e h1;exact hj (x.dis i j _ e a hi h1 q h2)
 refine⟨⟨fun j e h => ?_, fun j e h => ?_, by rw[AU];exact x.len⟩, fun b h => x.aok b (sub b h), fun j e b g1 g2 => x.new j e b (own j e g1).2 g2, fun j k e f b g1 g2 g3 g4 => x.dis j k e f b (own j e g1).2 (own k f g2).2 g3 g4, x.same, by rw[AU];exact x.len⟩
 ·by_cases hj : i = j
  ·subst hj;have e1 := EH h;cases e1;exact⟨_, q, a, xs, rfl, .inl na, SqL.of hh, Reps.sub sub _ rr⟩
  ·rw[BE hj]at h;obtain⟨w', q', rw'⟩ := x.good.sh j e h;exact⟨w', q', Rep.sub sub _ rw'⟩
 ·obtain⟨hj, h'⟩ := own j e h;obtain⟨b, ys, es, q', z, hb, hh', rr'⟩ := x.good.ow j e h';exact⟨b, ys, es, q', z, .inr ⟨j, e, h, q'⟩, hh', Reps.sub sub _ rr'⟩
end
section
variable{X : Cx}{CL : ClA}{W : XW}{pos : AJ}{e : Ao}{fe : Rho -> R D}{fr : An}
theorem Bq.exC{f:D -> O}(x : Sx X.K CL Fz B ρ σ H)(h : Bq X.K CL Fz B W (O.of ρ r f) D')(k : ∀ d v H', r = .ok d -> Av H H' -> Cq X.K CL fr H A H' v d -> Sx X.K CL Fz B ρ σ H' -> Bq X.K CL Fz B W (f d) D' -> Q v H') : AX (Cq X.K CL fr H A) W H r Q := by
 cases r with
 |ok d => exact fun v H' s r => k d v H' rfl s r (x.grow s) h
 |exn y => exact fun H' s => h H' fun b o z => s _ _ (x.same b o z)
 |bad => exact h
noncomputable def SAs(X : Cx)(CL : ClA)(W : XW)(fr : An)(i : Ae)(st : A2)(f : Rho -> R D) : Prop := ∀ A, PS X st (Ju (fun σ H Q => AOk H A /\ ∃ ρ, Good X.K CL A ρ σ H /\ AX (Cq X.K CL fr H A) W H (f ρ) Q) (E3 i))
theorem SC.sas{n:Aj}(hN : X.N.Nodup)(hi : X.N[i]? = Aa n)(hx : Loc X.env.scope n)(he : SC X CL W fr e fe)(hs : Co e (Aa (.Name n pos')) pos.line X.env = pure Ad)(hf : X.fn n = Ab \/ X.env.scope.names.lookup n = Aa .local) : SAs X CL W fr i (.Assign [.Name n pos'] e pos) fe:=
 fun A => Jh hN hi hx (he A) hs hf
theorem Sb{n:Aj}{fe:Rho -> R D}{g:TG}(hc : X.calm = Ab)(B : BlockOk X scope N' ts)(hi : SI X CL W tg iter fi)(hGG : GG X.K CL ts as g)(hg : ∀ cl C s H fp, PG (cxC X scope cl C N' s H fp) tg g)(ht : ∀ cl C s H fp, STs (cxC X scope cl C N' s H fp) CL ifs fc)(he : ∀ cl C s H fp, SE (cxC X scope cl C N' s H fp) CL W0 elt fe)(hs : ∀ x, B2 iter X.env x = pure x)(hN : X.N.Nodup)(hni : X.N[i]? = Aa n)(hx : X.env.scope.names.lookup n = Aa .local)(hsw : Co (.ListComp elt [⟨tg, iter, ifs, 0⟩] scope pos) (Aa (.Name n pos')) pos2.line X.env = pure Ab):SAs X CL W Ab i (.Assign [.Name n pos'] (.ListComp elt [⟨tg,iter,ifs,0⟩] scope pos) pos2) (fun ρ =>(fi ρ).bind fun xs =>(noX (B9 (fun x =>(as x ρ).bind fc) (fun x =>(as x ρ).bind fe) xs)).bind fun ys =>.ok (.lst ys)) := fun A pI s σ H Dn I ⟨hA, ρ, gd, p⟩=>
 S8 hc B (hi A) hg (fun cl C s H fp => ht cl C s H fp A) (fun cl C s H fp => he cl C s H fp A) hs hN hni hx hsw pI s σ H Dn I ⟨hA, ρ, gd, Mh hGG hA gd p⟩
theorem Nu{st : A2}(h : SAs X CL W fr i st fe) : SS X CL W st (fun ρ => O.of ρ (fe ρ) fun d => .next (ρ.set i (Aa (d, Ad)))) := fun Fz B pI s σ H D I ⟨ρ, x, p⟩=>
 h (Bg B ρ σ) pI s σ H D I ⟨x.aok, ρ, x.good, Bq.exC x p fun d v H' _ s r x' q => q _ H' (x'.set i r.1)⟩
theorem Tx{st : A2}(h : SAs X CL W Ab i st fe) : SS X CL W st (fun ρ => O.of ρ (fe ρ) fun d => setF ρ i d) := fun Fz B pI s σ H D I ⟨ρ, x, p⟩=>
 h (Bg B ρ σ) pI s σ H D I ⟨x.aok, ρ, x.good, Bq.exC x p fun d v H' _ s r x' q => by
  cases d with
  |lst ds=>
   obtain⟨a, xs, rfl, h0, h1, rs⟩ := r.2 rfl ds rfl;exact q _ H' (x.setF s h0 h1 rs)
  |dic ds => exact r.1.elim
  | _ => exact q.elim⟩
theorem Tv(he : SC X CL W Ab e fe) : SS X CL W (.Return (Aa e) pos) (fun ρ => O.of ρ (fe ρ) fun d => .ret d Ab) := fun Fz B pI s σ H D I ⟨ρ, x, p⟩=>
 Kt (he (Bg B ρ σ)) pI s σ H D I ⟨x.aok, ρ, x.good, Bq.exC x p fun d v H' _ s r x' q => q v H' x'.same (Rep.sub (fun a h => .inl h) _ r.1) fun _ ds e => by
  obtain⟨a, xs, h0, h1, h2, h3⟩ := r.2 rfl ds e;refine⟨a, xs, h0, fun o z => ?_, h2, Reps.sub (fun b hb => hb.imp .inl id) _ h3⟩
  have := x.same a o z;rw[h1]at this;cases this⟩
noncomputable def Lm(ρ : Rho)(i : Ae) : An := match ρ[i]? with
  |some (Aa (_, o)) => o
  |_ => Ad
theorem SM(he : PE X e (EK i)) : SS X CL W (.Return (Aa e) pos) (fun ρ => O.of ρ (DJ ρ i) fun d => .ret d (Lm ρ i)) := fun Fz B pI s σ H D I ⟨ρ, x, p⟩=>
 Kt he pI s σ H D I (by
  dsimp only at p;cases e : DJ ρ i with
  |bad => rw[e]at p;exact p.elim
  |exn z => exact(MK e).elim
  |ok d=>
   rw[e]at p;obtain⟨o, e⟩ := MM e;have eo : Lm ρ i = o := by unfold Lm;rw[e]
   rw[O.of_ok, eo]at p;cases o with
   |false=>
    obtain⟨v, q, r⟩ := x.good.sh i d e;exact⟨v, q, p v H x.same (Rep.sub (fun a h => .inl h) _ r) fun z => nomatch z⟩
   |true=>
    obtain⟨a, xs, ds, q, rfl, ha, hh, r⟩ := x.good.ow i d e;obtain⟨n1, n2⟩ := x.new i _ a e q;refine⟨_, q, p _ H x.same ⟨a, xs, rfl, .inl n2, SqL.of hh, Reps.sub (fun a h => .inl h) _ r⟩ fun _ ds' e' => ?_⟩
    cases e';exact⟨a, xs, rfl, n1, hh, Reps.sub (fun b hb => hb.elim .inl fun z => z ▸ ha) _ r⟩)
theorem Tg{ds : Ac D}(h : Dj ρ i = .ok ds) : ρ[i]? = Aa (Aa (.lst ds, Ab)) := by
 unfold Dj at h;split at h
 ·rename_i e;cases h;exact e
 ·cases h
theorem Su(h : Dj ρ i = .exn x) : AH := by
 unfold Dj at h;split at h <;> cases h
variable{o : Ao}{i : Ae}{apos cpos : AJ}
theorem Vb{k:Ao}{fk:Rho -> R Ov.D}{spos:AJ}(ho : PE X o (EK i))(hk : ST X CL W k fk)(he : SE X CL W e fe)(ha : ∀ v, assign (.Subscript o k spos) X.env v = (do
      let ov <-holding [v] (eval o X.env)
      let iv <-holding [v, ov] (eval k X.env)
      GJ spos
      holding [v, ov, iv] (setItem ov iv v)
      release [v, ov, iv] []))(hs : Gb [.Subscript o k spos] e pos.line X.env = pure Ad)(hw : swappedStores [.Subscript o k spos] e X.env = pure Af)(h1 : (Cj [.Subscript o k spos] X.env).map (·.2) = [assign (.Subscript o k spos) X.env]):
    SS X CL W (.Assign [.Subscript o k spos] e pos) (fun ρ => O.of ρ (fe ρ) fun d => O.of ρ (Dj ρ i) fun xs => O.of ρ ((fk ρ).bind Dq) fun j => match plD xs.length j with
      |some n => .next (ρ.set i (Aa (.lst (xs.set n d), Ab)))
      | none => .bad) := fun Fz B pI s σ H D I ⟨ρ, x, p⟩=>
  UE (he (Bg B ρ σ)) (VB ho (hk (Bg B ρ σ)) R7 ha) hs hw h1 pI s σ H D I ⟨x.aok, ρ, x.good, Bq.ex x p fun d v H' _ s rv x' q' => by
    cases e1 : Dj ρ i with
    |bad => rw[e1]at q';exact q'.elim
    |exn z => exact(Su e1).elim
    |ok ds=>
      rw[e1, O.of_ok]at q';have hi := Tg e1;obtain⟨a, xs, ds', q, e2, ha, hh, r⟩ := x'.good.ow i _ hi;cases e2;refine⟨_, q, x'.aok, ρ, x'.good, ?_⟩;cases e3 : fk ρ with
      |bad => rw[e3]at q';exact q'.elim
      |exn z => rw[e3]at q';exact fun H2 s2 => q' H2 fun b o z => s2 _ _ (x'.same b o z)
      |ok dk=>
        rw[e3]at q';intro y H2 s2 ry;cases dk with
        |int j=>
          have ey := ry.int_of;subst ey;rw[R.bind_ok, Rz, O.of_ok]at q';cases e4 : plD ds.length j with
          |none => rw[e4]at q';exact q'.elim
          |some n=>
            rw[e4]at q';refine⟨a, xs, j, n, rfl, rfl, s2 _ _ hh, ?_, q' _ _ ((x'.grow s2).upd hi q (Reps.set (rv.same s2) n (r.same s2)))⟩;rw[r.length];exact e4
        | _ => exact q'.elim⟩
theorem SL{rest : Ac A2}{f:Rho -> O}(i : Ae)(h : SSs X CL W rest f) : SSs X CL W rest (fun ρ => (match ρ[i]? with
   |some (Aa (d, Ab)) => O.next (ρ.set i (Aa (d, Ad)))
   | _ => O.next ρ).seq f) := fun Fz B => PSs.weak (h Fz B) fun D σ H ⟨ρ, x, p⟩ => by
 dsimp only at p;split at p
 ·rename_i d e;exact⟨_, x.rel e, p⟩
 ·exact⟨ρ, x, p⟩
end
section
variable{prog : AD}{w : AO}{A : AN}{E : Ah -> Al -> Prop}{s : Al}
end
noncomputable def Hv(t : An)(h : Ax)(j l : Ai)(i : Ae) : Prop := match t with
  |true => h.IsTupleIter j l i
  |false => h.IsListIter j l i
noncomputable def IA(t : An)(h : Ax)(l : Ai)(its : A5 Ah) : Prop := match t with
  |true => h.IsTuple l its
  |false => h.IsList l its
theorem nb2{I l c : Ae}(b : l<I)(h : c ∈ [I+1, l]) : c ≠ I /\ c ≠ I+3 /\ c ≠ I+4 := by
 have h' : c = I+1 \/ c = l := by simpa using h
 omega
section
variable{prog : AD}{w : AO}{A : AN}{E : Ah -> Al -> Prop}{s : Al}
end
section
variable{prog : AD}{w : AO}{A : AN}{E : Ah -> Al -> Prop}{s : Al}
theorem IA.push{its:A5 Ah}(z : IA t h l its)(o : AC) : IA t (h.push o) l its := by
 cases t with
 |true => exact PySem.Heap.IsTuple.at z fun _ e => As _ e
 |false => exact PySem.Heap.IsList.at z fun _ e => As _ e
end
theorem IA.lt{its:A5 Ah}(z : IA t h a its) : a<h.objs.size := by
 cases t with
 |true => obtain⟨o, e, _⟩ := z;exact AA e
 |false => obtain⟨o, e, _⟩ := z;exact AA e
section
variable{X : Cx}{CL : ClA}{W : XW}{pos p : AJ}{a b : Ao}{fa fb : Rho -> R D}
end
theorem Hv.keep{h2:Ax}{l:Ae}(z : Hv t h j l i)(k : ∀ o, h.get? j = Aa o -> h2.get? j = Aa o) : Hv t h2 j l i := by
 cases t with
 |true => exact PySem.Heap.IsTupleIter.at z k
 |false => exact PySem.Heap.IsListIter.at z k
section
variable{prog : AD}{w : AO}{A : AN}{E : Ah -> Al -> Prop}{s : Al}
end
section
variable{X : Cx}{CL : ClA}{W : XW}{pos p : AJ}{a : Ao}{fa : Rho -> R D}
end
noncomputable abbrev O5(h : Ax)(z TI TO : Ai)(f0 f1 : Ah) : Prop := h.get? z = Aa { cls := .type "zip", dict := Af, data := .fields #[f0, f1, .bool Ad, .ref TI, .ref TO], slots := #[] }
noncomputable abbrev O6(h : Ax)(T : Ai)(a b c : Ah) : Prop := h.get? T = Aa { cls := .type "tuple", data := .seq #[a, b, c] }
section
variable{prog : AD}{w : AO}{A : AN}{E : Ah -> Al -> Prop}{s : Al}
noncomputable def Z3(t1 t2 t3 : An)(I l1 l2 l3 i : Ae)(h : Ax) : Prop := O6 h (I+3) (.ref (I+0)) (.ref (I+1)) (.ref (I+2)) /\ Hv t1 h (I+0) l1 i /\ Hv t2 h (I+1) l2 i /\ Hv t3 h (I+2) l3 i /\ (∃ a b c, O6 h (I+4) a b c) /\
 (O5 h (I+5) (I+3) (I+4) .none (.bool Ad) \/ ∃(T1 : Ae)(f1 : An), O5 h (I+5) (I+3) (I+4) (EW T1) (.bool f1))
end
section
variable{prog : AD}{w : AO}{A : AN}{R : Gj -> Al -> Prop}
end
section
variable{prog : AD}{w : AO}{A : AN}{E : Ah -> Al -> Prop}{s : Al}
end
theorem Z3.ty{t1 t2 t3 : An}{I l1 l2 l3 i : Ae}(z : Z3 t1 t2 t3 I l1 l2 l3 i s.heap) : s.TypeIs (.ref (I+5)) "zip" := by
 obtain⟨_, _, _, _, _, hz|⟨_, _, hz⟩⟩ := z
 ·exact⟨_, hz, rfl⟩
 ·exact⟨_, hz, rfl⟩
theorem Z3.lt{t1 t2 t3 : An}{I l1 l2 l3 i : Ae}(z : Z3 t1 t2 t3 I l1 l2 l3 i s.heap) : I+5<s.heap.objs.size := by
 obtain⟨o, h, _⟩ := z.ty;exact AA h
section
variable{prog : AD}{w : AO}{A : AN}{E : Ah -> Al -> Prop}{s : Al}
end
section
variable{X : Cx}{CL : ClA}{W : XW}{pos p pos' p' : AJ}{a b c : Ao}{fa fb fc : Rho -> R D}
end
section
variable{X : Cx}{CL : ClA}{W : XW}{pos p tpos : AJ}{a b c : Ao}{fa fb fc : Rho -> R D}{x : Aj}
end
section
variable{X : Cx}{CL : ClA}{W : XW}{a : Ao}{fa : Rho -> R D}
end
section
variable{X : Cx}{CL : ClA}{W : XW}{o o' e : Ao}{fe : Rho -> R D}{i j : Ae}{apos cpos apos' cpos' pos : AJ}
end
section
variable{X : Cx}{CL : ClA}{W : XW}
end
section
variable{X : Cx}
variable{CL : ClA}{W : XW}{pos p pos' p' : AJ}{a b : Ao}{fa fb : Rho -> R D}
end
section
variable{X : Cx}{CL : ClA}{W : XW}{e o o' k l : Ao}{fe : Rho -> R Ov.D}{i ik il : Ae}{pos spos spos' tpos : AJ}{kt : Ae}
end
section
variable{prog : AD}{w : AO}{A : AN}{E : Ah -> Al -> Prop}{s : Al}
end
section
variable{X : Cx}{pos : AJ}{CL : ClA}
end
section
variable{X : Cx}{CL : ClA}{W : XW}
end
end Ov
namespace Ov
open PySem PySem.W PyProof.Rows
variable{p:A5 Ae}{m:Ae}
def Kr{α : Type}(lt : Ae -> Ae -> An)(n : Ae) : KasT α -> (α -> Prop) -> Prop
 |.ret a, Q => Q a
 |.ask i j k, Q => i<n /\ j<n /\ Kr lt n (k (lt i j)) Q
theorem Kr.mono{α : Type}{lt : Ae -> Ae -> An}{n : Ae}{Q Q' : α -> Prop} : ∀{t : KasT α}, Kr lt n t Q -> (∀ a, Q a -> Q' a) -> Kr lt n t Q'
 |.ret _, h, k => k _ h
 |.ask i j f, h, k => ⟨h.1, h.2.1, Kr.mono (t := f (lt i j)) h.2.2 k⟩
theorem Kr.bind{α β : Type}{lt : Ae -> Ae -> An}{n : Ae}{f : α -> KasT β}{Q : β -> Prop} : ∀{t : KasT α}, Kr lt n t (fun a => Kr lt n (f a) Q) -> Kr lt n (t.bind f) Q
 |.ret _, h => h
 |.ask i j k, h => ⟨h.1, h.2.1, Kr.bind (t := k (lt i j)) h.2.2⟩
structure Sto (lt : Ae -> Ae -> An) (n : Ae) : Prop where
 tr : ∀ i j k, i<n -> j<n -> k<n -> lt i j = Ab -> lt j k = Ab -> lt i k = Ab
 tot : ∀ i j, i<n -> j<n -> i ≠ j -> lt i j = Ad -> lt j i = Ab
 asy : ∀ i j, i<n -> j<n -> lt i j = Ab -> lt j i = Ad
noncomputable def at0(p : A5 Ae)(x : Ae) : Ae := p.getD x 0
structure Pm (n : Ae) (p : A5 Ae) : Prop where
 sz : p.size = n
 lt : ∀ x, x<n -> at0 p x<n
 inj : ∀ x y, x<n -> y<n -> at0 p x = at0 p y -> x = y
section
variable{lt : Ae -> Ae -> An}{n : Ae}
noncomputable def Ly(lt : Ae -> Ae -> An)(p : A5 Ae)(m : Ae) : Prop := ∀ x y, x<y -> y<m -> lt (at0 p x) (at0 p y) = Ab
noncomputable def LA(lt : Ae -> Ae -> An)(p : A5 Ae)(m : Ae) : Prop := ∀ x y, x<y -> y<m -> lt (at0 p y) (at0 p x) = Ab
theorem Ly.succ(S : Sto lt n)(hp : Pm n p)(h1 : 1 <= m)(hm : m<n)(h : Ly lt p m)(e : lt (at0 p (m-1)) (at0 p m) = Ab) : Ly lt p (m+1) := fun x y hxy hy => by
 by_cases hym : y<m
 ·exact h x y hxy hym
 ·have : y = m := by omega
  subst this;by_cases hx : x = y-1
  ·rw[hx];exact e
  ·exact S.tr _ _ _ (hp.lt _ (by omega)) (hp.lt _ (by omega)) (hp.lt _ hm) (h x (y-1) (by omega) (by omega)) e
theorem LA.succ(S : Sto lt n)(hp : Pm n p)(h1 : 1 <= m)(hm : m<n)(h : LA lt p m)(e : lt (at0 p m) (at0 p (m-1)) = Ab) : LA lt p (m+1) := fun x y hxy hy => by
 by_cases hym : y<m
 ·exact h x y hxy hym
 ·have : y = m := by omega
  subst this;by_cases hx : x = y-1
  ·rw[hx];exact e
  ·exact S.tr _ _ _ (hp.lt _ hm) (hp.lt _ (by omega)) (hp.lt _ (by omega)) e (h x (y-1) (by omega) (by omega))
end
section
variable{prog : AD}{w : AO}{A : AN}{E : Ah -> Al -> Prop}{κ : SortKind}{it : A5 Keyed}
end
section
variable{lt : Ae -> Ae -> An}{n : Ae}
end
noncomputable def Km(h : Ax)(v : Ah)(r : Ac Ag) : Prop := ∃ a its, v = .ref a /\ GZ h a its /\ FN its.toList r /\ r ≠ []
theorem Km.kept{h h':Ax}{v:Ah}{r:Ac Ag}(t : Km h v r)(k : ∀ b o, h.get? b = Aa o -> h'.get? b = Aa o) : Km h' v r := by
 obtain⟨a, its, e, ⟨o, ho, q⟩, i, n⟩ := t;exact⟨a, its, e, ⟨o, k _ _ ho, q⟩, i, n⟩
section
variable{prog : AD}{w : AO}{A : AN}{E : Ah -> Al -> Prop}{s : Al}
end
end Ov
section
namespace Ov
theorem Q4{α : Type}[DecidableEq α]{l m : Ac α}(hl : l.Nodup)(hm : m.Nodup)(h : ∀ x, x ∈ l ↔ x ∈ m) : l.Perm m := by
 rw[List.perm_iff_count];intro a;rw[hl.count, hm.count];simp[h]
open PySem PySem.Spec PyProof.Rows L2
section
variable{X : Cx}{CL : ClA}{W : XW}
end
end Ov
end
namespace Ov
open PySem PySem.Spec PyProof.Rows L2
variable{h h1 h2 h' h0:Ax}{P:AD}{w:AO}{H:Hp}{a T' C C' OV:Ai}{oe:AC}{vs:A5 Ah}{Q:EF -> Al -> Prop}{a0 oc:Ah}{X:Cx}{pI:Ac (Ai × AC)}{σ σ0:L2.St}{K:Fg}{m:Aj -> Am Ah}{x n g name qual z x0 x1:Aj}{v:Am Ah}{M:EO}{tk:B1}{fill expr fr:An}{φ:Ax -> Prop}{CL:ClA}{B A:Ai -> Prop}{W:XW}{up:Ae -> Ac Ae}{body:Ac A2}{pos p pos' np cpos:AJ}{CX:CXT}{k c kk l id:Ae}{fd:Bi}{ps:Ac Aj}{sp:Sp}{F:Ac D -> R D}{fs ft:Rho -> R (Ac D)}{Xw:Ah -> Al -> Prop}{xn:Ae -> Ac D -> R Ex}{d:D}{scope:Bz}{an od:Am Ai}{osl:A5 (Am Ah)}{xs ys:Ac Ao}{env:BB}{y:Ao}{ts:Ac Ae}{as:Es}{α:Type}
section
variable{X : Cx}
variable{CL : ClA}{W : XW}{pos p pos' p' : AJ}{a : Ao}{fa : Rho -> R D}
end
section
end
section
variable{X : Cx}
variable{CL : ClA}{W : XW}{o e : Ao}{fe : Rho -> R D}{i : Ae}{apos cpos pos : AJ}
end
section
open PySem.AutoSeq1 (wpAny_loadPart')
end
section
variable{prog : AD}{w : AO}{A : AN}{R : Gj -> Al -> Prop}{I S T : Ai}{u v : Ah}{c : Ae}{P : Ae -> Ah -> Prop}{St : Ae -> Ax -> Prop}{s : Al}{r q : Ac Ag}
end
section
variable{X : Cx}{CL : ClA}{W : XW}
end
noncomputable def Jz(e T : Ai)(cls : Ah)(dx : Am Ai)(fl : Ah)(h : Ax) : Prop := ∃ oe vs oT ts a0, h.get? e = Aa oe /\ oe.cls = cls /\ oe.dict = dx /\ vs[0]? = Aa a0 /\ oe.data = .fields vs /\ vs[1]? = Aa (.ref T) /\ T ≠ e /\ h.get? T = Aa oT /\ oT.data = .fields ts /\ ts[3]? = Aa fl
noncomputable abbrev Fly(e T : Ai)(cls : Ah)(dx : Am Ai)(h : Ax) : Prop := Jz e T cls dx Cr h
noncomputable def D8(C : Ai)(dx : Am Ai)(t : Ai) : AC := {cls := .ref C, dict := dx, data := .fields #[.ref t, .none, .none, .none, .bool Ad, .none]}
structure Shift (ex fs : Ac Ai) (h h' : Ax) : Prop where
 keep : ∀ b o, h.get? b = Aa o -> b ∉ ex -> b ∉ fs -> h'.get? b = Aa o
 slot : ∀ b o, h.get? b = Aa o -> b ∈ fs -> ∃ sl, h'.get? b = Aa {o with slots := sl}
theorem Shift.trans{ex fs : Ac Ai}(a : Shift ex fs h h1)(b : Shift ex fs h1 h2) : Shift ex fs h h2:=
 ⟨fun c o q n m => b.keep c o (a.keep c o q n m) n m, fun c o q m => by
  obtain⟨sl, e1⟩ := a.slot c o q m;obtain⟨sl', e2⟩ := b.slot c _ e1 m;exact⟨sl', e2⟩⟩
theorem ObjOk.isThere : ∀(o : HO), L2.ObjOk P w H h a o -> ∃ ob, h.get? a = Aa ob
 |.lst _, x => by obtain⟨_, _, _, _, e⟩ := x;exact⟨_, e⟩
 |.tup _, x => by obtain⟨_, _, _, p⟩ := x;obtain⟨o, e, _⟩ := p;exact⟨_, e⟩
 |.dK _, x => by obtain⟨_, _, _, _, o, _, _, e, _⟩ := x;exact⟨_, e⟩
 |.dT _, x => by obtain⟨_, _, _, _, o, _, _, e, _⟩ := x;exact⟨_, e⟩
 |.set _ _, x => by obtain⟨o, _, _, _, e, _⟩ := x;exact⟨_, e⟩
 |.ins _ _ _, x => by obtain⟨_, _, _, e, _⟩ := x;exact⟨_, e⟩
 |.own _, x => x
 |.xd _, x => by obtain⟨_, ⟨_, _, _, e, _⟩, _⟩ := x;exact⟨_, e⟩
 |.met _ _, x => ⟨_, x⟩
 |.rng _ _, x => by obtain⟨_, _, _, e⟩ := x;exact⟨_, e⟩
 |.frz _ _, x => ⟨_, x.1⟩
 |.tbl _, x => ⟨_, x⟩
 |.ext _, x => x.2.1
theorem Hi(x : HOk P w H h)(e : h.get? a = Af) : H a = Af := by
 cases q : H a with
 |none => rfl
 |some o=>
  obtain⟨ob, z⟩ := ObjOk.isThere o (x a o q);rw[e]at z;cases z
theorem HOk.shift{ex fs : Ac Ai}(x : HOk P w H h)(sh : Shift ex fs h h')(h1 : ∀ b ∈ ex, H b = Af)(h2 : ∀ b ∈ fs, H b = Af) : HOk P w H h' := fun a o e=>
 (x a o e).stay (fun b u hb q => by
  have hs : ∃ v, H b = Aa v := by
   rcases hb with rfl|hb
   ·exact⟨_, e⟩
   ·exact⟨_, hb⟩
  obtain⟨v, hv⟩ := hs;exact sh.keep b u q (fun z => by rw[h1 b z]at hv;cases hv) (fun z => by rw[h2 b z]at hv;cases hv)) (fun _ q => q) fun _ _ q => q
theorem Un.shift{fs0 fs ex : Ac Ai}{H':Hp}(u : Un fs0 [] H H' h0 h)(sh : Shift ex fs h h')(h1 : ∀ b ∈ ex, h0.get? b = Af)(h2 : ∀ b ∈ fs, b ∈ fs0 \/ h0.get? b = Af) : Un fs0 [] H H' h0 h' where
 keep := fun b o q n hb hx => sh.keep b o (u.keep b o q n hb hx) (fun z => by rw[h1 b z]at q;cases q) fun z => (h2 b z).elim hb fun e => by rw[e]at q;cases q
 slot := fun b o q n hb hx => by
  obtain⟨sl, e1⟩ := u.slot b o q n hb hx;by_cases hf : b ∈ fs
  ·obtain⟨sl', e2⟩ := sh.slot b _ e1 hf;exact⟨sl', e2⟩
  ·exact⟨sl, sh.keep b _ e1 (fun z => by rw[h1 b z]at q;cases q) hf⟩
 free := u.free
 there := fun b o q hx => by
  obtain⟨o', e1⟩ := u.there b o q hx;by_cases hf : b ∈ fs
  ·obtain⟨sl', e2⟩ := sh.slot b _ e1 hf;exact⟨_, e2⟩
  ·exact⟨o', sh.keep b _ e1 (fun z => by rw[h1 b z]at q;cases q) hf⟩
 tups := u.tups
 frzs := u.frzs
 tbls := u.tbls
theorem Up(f : A5 Ah -> A5 Ah)(o : AC) : (D4 f o).dict = o.dict := by
 obtain⟨c, d, dt, sl⟩ := o;cases dt <;> rfl
section
variable{M : EO}{A : AN}{E : Ah -> Al -> Prop}{s : Al}{env : BB}{outer : Ac BB}{L e T : Ai}{cls : Ah}{dx : Am Ai}{base h : Ax}
theorem L9{hd:Ah}{nx:An}(hfr : A.frames = Aa (env::outer))(hf : env.frame = Aa L)(ff : s.heap.FunFrames base (env::outer))(he : s.heap.get? e = Aa oe)(dt : oe.data = .fields vs)(hz : 1<vs.size)(hQ : ∀ h' T' oT ts, h'.get? e = Aa (D4 (·.setIfInBounds 1 (.ref T')) oe) -> T' ≠ e -> s.heap.get? T' = Af -> h'.get? T' = Aa oT -> oT.data = .fields ts -> ts[3]? = Aa (EW L) -> Shift [e] (frs (env::outer)) s.heap h' -> Q () {s with heap := h'}):
  Au M A (do
   let fr <-frameOf env
   let pl <-entryPlaceOf L nx
   let en <-P6 hd fr .none (EW L) .none pl
   setField (.ref e) 1 en) Q E s := by
 have nf : e ∉ frs (env::outer) := fun z => by
  obtain⟨_, o, q, n⟩ := ff.mem z;rw[he]at q;cases q;exact n vs dt
 refine Ap (wpAny_frameOf_fun hfr ff hf fun k1 so => Ap (wpAny_entryPlaceOf fun pl ip => ?_))
 obtain⟨sz, sm, sl⟩ := so;have e1 : k1.get? e = Aa oe := (sm e nf).trans he;unfold P6;unfold newFields;refine Ap (CF ?_ (ip.sizeOk5 _ _ _ _ _));generalize hX : ({ cls := .type "traceback", dict := Af, data := .fields ([hd, .ref L, .none, EW L, .none]++(if pl.isEmpty then ED 6 Cr else pl)).toArray } : AC) = ob
 have od : ob.data = .fields ([hd, .ref L, .none, EW L, .none]++(if pl.isEmpty then ED 6 Cr else pl)).toArray := by rw[<-hX]
 have nl : k1.objs.size ≠ e := PK (AA e1);have e2 := As ob e1;refine FT e2 dt hz ?_;have up : ∀ b, b ≠ e -> ((k1.push ob).update e (D4 (·.setIfInBounds 1 (.ref k1.objs.size)))).get? b = (k1.push ob).get? b := fun b nb => BM _ _ (CJ nb)
 have lf : ob.isFreed = Ad := by rw[<-hX];rfl
 refine hQ _ k1.objs.size ob _ (Cd _ e2 (Ef (C1 dt _))) nl ?_ ((up _ nl).trans (Be k1 lf)) od ?_ ⟨fun b o q n1 n2 => ?_, fun b o q hb => ?_⟩
 ·rw[sz];exact Ci (AL _)
 ·simp
 ·have nb : b ≠ e := fun z => n1 (by rw[z];exact AI)
  rw[up b nb];exact As ob ((sm b n2).trans q)
 ·obtain⟨sl', q'⟩ := sl b o q;have nb : b ≠ e := fun z => nf (z ▸ hb)
  exact⟨sl', (up b nb).trans (As ob q')⟩
theorem Mf{oT:AC}{ts:A5 Ah}{fl:Ah}(hc : oe.cls = cls)(hx : oe.dict = dx)(h0 : vs[0]? = Aa a0)(dt : oe.data = .fields vs)(hz : 1<vs.size)(g : h'.get? e = Aa (D4 (·.setIfInBounds 1 (.ref T')) oe))(ne : T' ≠ e)(gT : h'.get? T' = Aa oT)(dT : oT.data = .fields ts)(f3 : ts[3]? = Aa fl) : Jz e T' cls dx fl h':=
 ⟨_, _, oT, ts, a0, g, (Obj.cls_mapFields _ _).trans hc, (Up _ _).trans hx, by rw[Array.getElem?_setIfInBounds_ne (by decide)];exact h0, C1 dt _, by simp[hz], ne, gT, dT, f3⟩
theorem Ha{i : Ae}{v:Ah}(q : vs[i]? = Aa v) : i<vs.size := (Array.getElem?_eq_some_iff.mp q).1
theorem MF(hfr : A.frames = Aa (env::outer))(hf : env.frame = Aa L)(ff : s.heap.FunFrames base (env::outer))(fl : Fly e T cls dx s.heap)(hQ : ∀ h' T', Jz e T' cls dx (EW L) h' -> Shift [e, T] (frs (env::outer)) s.heap h' -> s.heap.get? T' = Af -> Q () {s with heap := h'}) : Au M A (EU (.ref e) env) Q E s := by
 obtain⟨oe, vs, oT, ts, a0, he, hc, hx, h0, dt, h1, ne, hT, dT, h3⟩ := fl;have z3 := Ha h3;unfold EU;simp only[hf];refine Ap (Do he dt h1 ?_);rw[AB (by simp : (BF T != Cr) = Ab)]
 refine Ap (Do hT dT h3 ?_);rw[AE (by simp[EW] : ¬ (Cr==EW L) = Ab)]
 refine Ap (FT hT dT z3 ?_);have up : ∀ b, b ≠ T -> (s.heap.update T (D4 (·.setIfInBounds 3 Cr))).get? b = s.heap.get? b := fun b nb => BM _ _ (CJ nb)
 have rcd : ∀ b o, s.heap.get? b = Aa o -> (∀ us, o.data ≠ .fields us) -> b ≠ T := fun b o q n z => by
  rw[z, hT]at q;cases q;exact n ts dT
 refine L9 (base := base) hfr hf (ff.of_keeps fun b o q n => ⟨o, (up b (rcd b o q n)).trans q, rfl⟩) ((up e (CJ ne)).trans he) dt (Ha h1) fun h' T' oT' ts' g nT gn gT dT' f3 sh => ?_
 have T0 : s.heap.get? T' = Af := by
  by_cases z : T' = T
  ·rw[z]at gn;rw[Cd _ hT (Ef (C1 dT _))]at gn;cases gn
  ·rw[<-up T' z];exact gn
 refine hQ h' T' (Mf hc hx h0 dt (Ha h1) g nT gT dT' f3) ⟨fun b o q n1 n2 => ?_, fun b o q hb => ?_⟩ T0
 ·simp only[AY, Pz, or_false, IF]at n1;exact sh.keep b o ((up b n1.2).trans q) (by simp[n1.1]) n2
 ·obtain⟨_, o', q', n⟩ := ff.mem hb;rw[q]at q';cases q';exact sh.slot b o ((up b (rcd b o q n)).trans q) hb
theorem Ja{fv:Ah}(fl : Jz e T cls dx fv s.heap)(hQ : ∀ h', Fly e T cls dx h' -> (∀ b o, b ≠ T -> s.heap.get? b = Aa o -> h'.get? b = Aa o) -> Q () {s with heap := h'}) : Au M A (FD (.ref e) Af) Q E s := by
 obtain⟨oe, vs, oT, ts, a0, he, hc, hx, h0, dt, h1, ne, hT, dT, h3⟩ := fl;have z3 := Ha h3;unfold FD;refine Ap (Do he dt h1 ?_);rw[AB (by simp : (BF T != Cr) = Ab)]
 refine FT hT dT z3 (hQ _ ?_ fun b o nb q => (BM _ _ (CJ nb)).trans q)
 exact⟨oe, vs, _, _, a0, (BM _ _ ne).trans he, hc, hx, h0, dt, h1, ne, Cd _ hT (Ef (C1 dT _)), C1 dT _, by simp[z3]⟩
theorem JW{ex : Ac Ai}(ff : s.heap.FunFrames base (env::outer))(sh : Shift ex (frs (env::outer)) s.heap h1)(hT : s.heap.get? T' = Af)(k : ∀ b o, b ≠ T' -> h1.get? b = Aa o -> h2.get? b = Aa o) : Shift ex (frs (env::outer)) s.heap h2:=
 ⟨fun b o q n1 n2 => k b o (fun z => by rw[z, hT]at q;cases q) (sh.keep b o q n1 n2), fun b o q hb => let ⟨sl, q'⟩ := sh.slot b o q hb;⟨sl, k b _ (fun z => by rw[z, hT]at q;cases q) q'⟩⟩
theorem Ru(hfr : A.frames = Aa (env::outer))(hf : env.frame = Aa L)(ff : s.heap.FunFrames base (env::outer))(fl : Fly e T cls dx s.heap)(hQ : ∀ h' T', Fly e T' cls dx h' -> Shift [e, T] (frs (env::outer)) s.heap h' -> (T' = T \/ s.heap.get? T' = Af) -> Q () {s with heap := h'}) : Au M A (leaving env (.ref e)) Q E s := by
 unfold leaving;exact Ap (MF hfr hf ff fl fun h1 T' f1 sh hT => Ja f1 fun h2 f2 k => hQ h2 T' f2 (JW ff sh hT k) (.inr hT))
theorem Rb(hfr : A.frames = Aa (env::outer))(hf : env.frame = Aa L)(ff : s.heap.FunFrames base (env::outer))(he : s.heap.get? e = Aa oe)(hc : oe.cls = cls)(hx : oe.dict = dx)(dt : oe.data = .fields vs)(h0 : vs[0]? = Aa a0)(h1 : vs[1]? = Aa .none)(hQ : ∀ h' T', Fly e T' cls dx h' -> Shift [e] (frs (env::outer)) s.heap h' -> s.heap.get? T' = Af -> Q () {s with heap := h'}) : Au M A (leaving env (.ref e)) Q E s := by
 unfold leaving EU;simp only[hf];refine Ap (Ap (Do he dt h1 ?_));rw[AE (by decide)]
 exact L9 (base := base) hfr hf ff he dt (Ha h1) fun h' T' oT ts g nT gn gT dT f3 sh => Ja (Mf hc hx h0 dt (Ha h1) g nT gT dT f3) fun h2 f2 k => hQ h2 T' f2 (JW ff sh gn k) gn
theorem RT(hfr : A.frames = Aa (env::outer))(hf : env.frame = Aa L)(ff : s.heap.FunFrames base (env::outer))(fl : Fly e T cls dx s.heap)(hQ : ∀ h' T', Fly e T' cls dx h' -> Shift [e, T] (frs (env::outer)) s.heap h' -> (T' = T \/ s.heap.get? T' = Af) -> Q () {s with heap := h'}) : Au M A (EU (.ref e) env) (fun _ s2 => Au M A (FD (.ref e) Af) Q E s2) E s:=
 MF hfr hf ff fl fun h1 T' f1 sh hT => Ja f1 fun h2 f2 k => hQ h2 T' f2 (JW ff sh hT k) (.inr hT)
theorem Rv{l:Ac BB}{A':AN}(ff : s.heap.FunFrames base l)(fl : Fly e T cls dx s.heap)(hQ : ∀ h' T', Fly e T' cls dx h' -> Shift [e, T] (frs l) s.heap h' -> (T' = T \/ s.heap.get? T' = Af) -> Q () {s with heap := h'}) : Au M A' (FD (.ref e) Af) Q E s := by
 obtain⟨oe, vs, oT, ts, a0, he, hc, hx, h0, dt, h1, ne, hT, dT, h3⟩ := id fl;refine Ja fl fun h' f' k => hQ h' T f' ⟨fun b o q n1 n2 => k b o (fun z => n1 (by rw[z];simp)) q, fun b o q hb => ⟨o.slots, k b o (fun z => ?_) q⟩⟩ (.inl rfl)
 obtain⟨_, o', q', n⟩ := ff.mem hb;rw[z, hT]at q';cases q';exact n ts dT
end
noncomputable def CXR(P : AD)(w : AO) : CXT := fun outer H s E ev s' => ∃ e T cls dx H', ev = .ref e /\ s'.os = s.os /\ DK s'.gens /\ Un (frs outer) [] H H' s.heap s'.heap /\ HOk P w H' s'.heap /\ Fly e T cls dx s'.heap /\ H' e = Af /\ H' T = Af /\ s.heap.get? e = Af /\ s.heap.get? T = Af /\ E cls dx H'
noncomputable def Ix(X : Cx)(CL : ClA)(W : XW) : Prop := ∀ pI σ H s e C dx t x, Inv X pI σ H s -> (X.ex = [] -> X.s₀.heap.get? e = Af) -> H e = Af -> s.heap.get? e = Aa (D8 C dx t) -> EJ X.K CL H (.ref C) dx x -> W x H -> X.xe (.ref e) s
section
variable{P : AD}{w : AO}{K : Fg}{mg : Aj -> Am Ah}{base : Ax}{N : Ac Aj}{qual : Aj}{scope : Bz}{f : Ai}{cd : Ah}{A : AN}{outer : Ac BB}{s : Al}{H : Hp}{E : XK}{CL : ClA}{W : XW}
theorem Kl{s : Al}(I : Inv X pI σ H s) : ∀ b ∈ frs X.stack, b ∈ X.fs \/ X.s₀.heap.get? b = Af := fun b hb => by
 rcases AY.mp (I.stkSub b hb) with z|z
 ·exact .inr (by rw[z];exact Ci I.ok.above)
 ·exact .inl z
theorem GM{s : Al}{b : Ai}(I : Inv X pI σ H s)(hx : X.ex = [])(h : s.heap.get? b = Af) : X.s₀.heap.get? b = Af := by
 cases q : X.s₀.heap.get? b with
 |none => rfl
 |some o=>
  obtain⟨o', z⟩ := I.base.there b o q (by rw[hx];simp)
  rw[h]at z;cases z
theorem WX(hE : ∀ x cls dx H', W x H' -> EJ K CL H' cls dx x -> E cls dx H') : ∀ A', Hk (CXR P w) (Db (CXR P w) P w K mg base N qual scope f cd A outer s H E) (EKW K CL A' W) := by
 intro A' pI σ H1 s1 ev s2 I h;obtain⟨e, T, cls, dx, H', rfl, os, bare, un, hok, fl, he, hT, ne, nT, x, xr, wx⟩ := h;have I' := I.call' (s' := s2) (ch := []) os un hok bare (fun b z => absurd z (by simp))
 have hb0 : Un (frs outer) [] H H' s.heap s2.heap := I'.base;show Au (model P w) (A.deeper (C9 qual scope s.heap.objs.size f cd)) (leaving (C9 qual scope s.heap.objs.size f cd) (.ref e)) _ _ s2;refine Ru (L := s.heap.objs.size) I'.ok.frames rfl I'.stack fl fun h' T' fl' sh hT' => ?_
 have e0 : s.heap.get? e = Af := GM I rfl ne;have T0 : s.heap.get? T = Af := GM I rfl nT;refine⟨e, T', cls, dx, H', rfl, I'.os, bare, Un.shift hb0 sh ?_ (Kl I'), HOk.shift hok sh ?_ I'.stkFree, fl', he, ?_, e0, ?_, ?_⟩
 ·intro b hb;rcases AY.mp hb with rfl|hb
  ·exact e0
  ·rw[Bu.mp hb];exact T0
 ·intro b hb;rcases AY.mp hb with rfl|hb
  ·exact he
  ·rw[Bu.mp hb];exact hT
 ·rcases hT' with rfl|z
  ·exact hT
  ·exact Hi hok z
 ·rcases hT' with rfl|z
  ·exact T0
  ·exact GM I' rfl z
 ·exact hE x cls dx H' wx xr
theorem rzR(hE : ∀ x cls dx H', W x H' -> EJ K CL H' cls dx x -> E cls dx H') : Ix (Db (CXR P w) P w K mg base N qual scope f cd A outer s H E) CL W := by
 intro pI σ H1 s1 e C dx t x I e0 he ge xr hw;have hb0 : Un (frs outer) [] H H1 s.heap s1.heap := I.base;have e0' : s.heap.get? e = Af := e0 rfl;show Au (model P w) (A.deeper (C9 qual scope s.heap.objs.size f cd)) (leaving (C9 qual scope s.heap.objs.size f cd) (.ref e)) _ _ s1;refine Rb (cls := .ref C) (dx := dx) (L := s.heap.objs.size) I.ok.frames rfl I.stack ge rfl rfl rfl (a0 := .ref t) rfl rfl fun h' T' fl' sh hT' => ?_
 have one : ∀{Z : Ai -> Prop}, Z e -> ∀ b ∈ [e], Z b := fun {Z} z b hb => by rw[Bu.mp hb];exact z
 exact⟨e, T', .ref C, dx, H1, rfl, I.os, I.bare, Un.shift hb0 sh (one e0') (Kl I), HOk.shift I.hok sh (one (Z := fun b => H1 b = Af) he) I.stkFree, fl', he, Hi I.hok hT', e0', GM I rfl hT', hE x _ dx H1 hw xr⟩
theorem ownR : DE (model P w) (Db (CXR P w) P w K mg base N qual scope f cd A outer s H E).A (Db (CXR P w) P w K mg base N qual scope f cd A outer s H E).env (Db (CXR P w) P w K mg base N qual scope f cd A outer s H E).xe := Qf
end
noncomputable def veB : Ac Ah := [.type "ValueError", .type "Exception", .type "BaseException", .type "object"]
noncomputable def CQ(K : Fg)(C : Ai)(v : Am Ah) : An := match K.lookup C with
  | some ⟨.type "type", _, .cls c, z⟩ => (match c.mro, z.toList with
    |.ref c0::tl, [_, _, _, _, Aa (.builtin nw), _] => c0==C&&(nw == "ValueError.__new__" && (!c.hasDel&&(PySem.W.tailIn K veB tl&&(Qu K c.ns&&A6 K c.ns "__init__" == Aa v))))
    | _, _ => Ad)
  |_ => Ad
theorem MW(q : EY K C veB "ValueError.__new__" = Ab) : CQ K C Af = Ab := by
 unfold EY at q;unfold CQ;split at q
 ·rename_i dd cd sl ho;split at q
  ·rename_i C' bm k0 k1 k2 k3 n k5 hm hs;simp only[Ak]at q;obtain⟨⟨⟨⟨⟨h1, h2⟩, h3⟩, h4⟩, h5⟩, h6⟩ := q;simp only[ho, hm, hs, Ak];exact⟨h1, h2, h3, h4, h5, h6⟩
  ·cases q
 ·cases q
structure XcOk (K : Fg) (C : Ai) : Prop where
 exc : ∃ v, CQ K C v = Ab
 ga : At K (.ref C) "__getattribute__" = Aa (Aa (.builtin "BaseException.__getattribute__"))
 gt : At K (.ref C) "__getattr__" = Aa Af
 cl : At K (.ref C) "__class__" = Aa (Aa (.builtin "object.__class__"))
 ob : Bk K C (.type "object") = Aa Ab
 be : AF K (.ref C) (.type "BaseException") = Aa Ab
 cs : (Cn K C).isSome = Ab
 ve : Ce K (.ref C) (.type "ValueError") = Aa Ab
noncomputable def XAt(e C : Ai)(h : Ax) : Prop := ∃ o, h.get? e = Aa o /\ o.cls = .ref C
theorem VQ{N : Ai}{v:Ah}(X : K.In h)(G : h.Ns N m)(q : A6 K N x = Aa (Aa v)) : m x = Aa v := by
 obtain⟨ob, es, ep, g, dt, _, fd⟩ := G;unfold A6 at q;split at q
 ·rename_i es' n' sl lk;have g' := X _ _ lk;rw[g]at g';cases g';cases dt;split at q
  ·rename_i hf;cases q;rw[<-fd];unfold nsFind findBy;rw[<-Array.find?_toList, hf];rfl
  ·by_cases z : (es.toList.any fun y => y.refKey) = Ab
   ·rw[AB z]at q;cases q
   ·rw[AE z]at q;cases q
 ·cases q
theorem Kc(X0 : K.In h0)(q : CQ K C v = Ab):
  ∃ bm N nm qn bs hd sn sub ab col dd k0 k1 k2 k3 k5 mN, (∀ h : Ax, K.In h -> h.get? C = Aa (Bx nm qn C N bs bm hd sn sub ab col dd k0 k1 k2 k3 k5 "ValueError.__new__") /\ h.Ns N mN /\ CK h veB bm) /\ mN "__init__" = v /\ bm.contains (.type "BaseException") = Ab := by
 unfold CQ at q;split at q
 ·rename_i dd cd sl ho;split at q
  ·rename_i C' bm k0 k1 k2 k3 n k5 hm hs;simp only[Ak, AM, A4]at q;obtain⟨rfl, rfl, hdel, ht, hok, hni⟩ := q;obtain⟨nm, bs, mro, ns, qn, hd, sn, sub, ab, col, del⟩ := cd;dsimp only at hm hdel hok hni;subst hm hdel;have hsl : sl = #[k0, k1, k2, k3, Aa (.builtin "ValueError.__new__"), k5] := by
    obtain⟨l⟩ := sl;simp only at hs;rw[hs]
   subst hsl;have kN : ∃ o, K.lookup ns = Aa o := by
    unfold Qu at hok;split at hok
    ·rename_i z;exact⟨_, z⟩
    ·cases hok
   obtain⟨oN, hoN⟩ := kN;have nsAt : ∀ h : Ax, K.In h -> h.Ns ns (h0.nsMap ns) := fun h X => by
    obtain⟨o, es, ep, e1, r⟩ := Heap.Ns.of_isNs (Qq X0 hok);have e2 := X0 _ _ hoN;rw[e1]at e2;cases e2;exact⟨_, es, ep, X _ _ hoN, r⟩
   refine⟨bm, ns, nm, qn, bs, hd, sn, sub, ab, col, dd, k0, k1, k2, k3, k5, h0.nsMap ns, fun h X => ⟨X _ _ ho, nsAt h X, Qv X ht⟩, ?_, (Qv X0 ht).hasType (by decide)⟩
   cases v with
   |none => exact PySem.W.nsMap_none_of_in X0 hok hni
   |some u => exact VQ X0 (.of_isNs (Qq X0 hok)) hni
  ·cases q
 ·cases q
theorem Ul(X : K.In h)(q : CQ K C v = Ab):
  ∃ bm N nm qn bs hd sn sub ab col dd k0 k1 k2 k3 k5 mN, h.get? C = Aa (Bx nm qn C N bs bm hd sn sub ab col dd k0 k1 k2 k3 k5 "ValueError.__new__") /\ h.Ns N mN /\ mN "__init__" = v /\ CK h veB bm := by
 obtain⟨bm, N, nm, qn, bs, hd, sn, sub, ab, col, dd, k0, k1, k2, k3, k5, mN, ho, hi, _⟩ := Kc X q;obtain⟨o1, o2, o3⟩ := ho h X;exact⟨bm, N, nm, qn, bs, hd, sn, sub, ab, col, dd, k0, k1, k2, k3, k5, mN, o1, o2, hi, o3⟩
section
variable{prog : AD}{w : AO}{A : AN}{E : Ah -> Al -> Prop}{h : Ax}{g : A5 DD}{d : FA}{t : Ae}{os : E9}{K : Fg}{e C : Ai}
theorem Gu(p : XAt e C h) : PySem.W.Looks M h (typeOf (.ref e)) (.ref C) := by
 obtain⟨o, h1, h2⟩ := p;exact h2 ▸ (PySem.W.Looks.ld h1).andThen .now
theorem Rs{R : Gj -> Al -> Prop}{tp:Ah}(X : K.In h)(p : XAt e C h)(hm : Bk K C (.type "object") = Aa Ab)(hq : R (.ok (.ret (.ref C))) ⟨h, g, d, t, os⟩):
  DM (model prog w) A (.call (.builtin "getset_descriptor.__get__") ⟨[.builtin "object.__class__", .ref e, tp], []⟩) R ⟨h, g, d, t, os⟩ := by
 have L0 := Gu (M := model prog w) p;have L1 := PySem.W.looks_mroIn (M := model prog w) X hm;refine CH PySem.W.KF.slot_gs.plain PySem.W.KF.entry_gs (PySem.W.KF.slot_gs.check _ _ _ _ _ _ _ _ PySem.W.KF.type_class (PySem.W.KF.args_gs _ _ _) ?_);unfold Builtin.«getset_descriptor.__get__» Builtin.Getset_descriptor.descrGet;rw[PySem.W.dga_obj];refine Ap (AS ?_);unfold Builtin.Getset_descriptor.descrGetter Builtin.Getset_descriptor.descrCheckInstance Builtin.Getset_descriptor.descrNameAndClass FY;simp only[PySem.W.KF.owner_class]
 repeat lk
 refine⟨ER _ (by decide +kernel), codeAny_builtin PySem.W.KF.entry_class ?_⟩
 unfold Builtin.«object.__class__» shownTypeOf
 repeat lk
 exact hq
theorem QL{Q:Fin -> Al -> Prop}(X : K.In h)(x : XcOk K C)(p : XAt e C h)(hq : Q (.done (.ret (.ref C))) ⟨h, g, d, t, os⟩):
  Au (model prog w) A (Builtin.«object.__getattribute__» ⟨[.ref e, .str "__class__" tk], []⟩) Q E ⟨h, g, d, t, os⟩ := by
 have L0 := Gu (M := model prog w) p;have L1 := BH (M := model prog w) X x.cl;have hT5 : (⟨h, g, d, t, os⟩ : Al).TypeIs (.builtin "object.__class__") "getset_descriptor" := Qb;have f5 := Qb;have f6 := F.slot_gs_get.lookup;have f7 := F.slot_gs_set.lookup
 repeat (any_goals (first|assumption|with_reducible refine L0.at ?_|with_reducible refine L1.at ?_|wp_step))
 refine Rs X p x.ob ?_
 repeat (any_goals (first|assumption|wp_step))
theorem LO{nameV:Ah}(X : K.In h)(x : XcOk K C)(p : XAt e C h)(hq : Q () ⟨h, g, d, t, os⟩) : Au M A (D5 "BaseException.__getattribute__" ⟨[.ref e, nameV], []⟩) Q E ⟨h, g, d, t, os⟩ := by
 have hk : builtinKind "BaseException.__getattribute__" = Aa .slot := by decide +kernel
 have hsplit : splitId "BaseException.__getattribute__" = Aa ("BaseException", "__getattribute__") := by decide +kernel
 have L0 := Gu (M := M) p;have L1 := Qt (M := M) X x.be;have ha := F.args_bexc_ga (.ref e) nameV;simp only[D5, hk, hsplit];refine Ap ?_
 ·unfold FY
  repeat (first|(with_reducible refine Ap (L0.at ?_))|(with_reducible refine L1.at ?_)|wp_step)
  exact hq
theorem SR{Q:Ah -> Al -> Prop}(X : K.In h)(x : XcOk K C)(p : XAt e C h)(hq : Q (.ref C) ⟨h, g, d, t, os⟩) : Au (model prog w) A (getAttrBy (.ref e) (.str "__class__" tk) fill expr) Q E ⟨h, g, d, t, os⟩ := by
 have L0 := Gu (M := model prog w) p;have L1 := BH (M := model prog w) X x.ga;have L2 := BH (M := model prog w) X x.gt;have f3 := DP.ga.bind (.ref e);have hx0 : (expr&&Gq (Cb "BaseException.__getattribute__")) = Ad := by cases expr <;> rfl
 have hx2 : (Cb "BaseException.__getattribute__" == Cb "object.__getattribute__") = Ad := by decide +kernel
 have hx1 : (Gq (BF C)&&Cb "BaseException.__getattribute__" == Cb "object.__getattribute__") = Ad := by rw[hx2];rfl
 repeat (any_goals (first|assumption|with_reducible refine L0.at ?_|with_reducible refine L1.at ?_|with_reducible refine L2.at ?_|wp_step))
 refine CH DP.ga.plain P8 (LO X x p (QL X x p ?_))
 repeat (any_goals (first|assumption|wp_step))
theorem Rl{Q:Am Ah -> Al -> Prop}(X : K.In h)(x : XcOk K C)(p : XAt e C h)(hq : Q (Aa (.ref C)) ⟨h, g, d, t+1, os⟩) : Au (model prog w) A (getAttr? (.ref e) "__class__") Q E ⟨h, g, d, t, os⟩ := by
 unfold getAttr? getAttrBy?
 repeat (any_goals (first|assumption|with_reducible apply SR X x p|wp_step))
end
theorem MB{e C : Ai}(x : XcOk K C) : PySem.W.KitX K (.ref e) (.ref C) (XAt e C) where
 ty := fun M h _ p => Gu p
 it := fun M h X _ => by
  obtain⟨cd, hc⟩ := DB.mp x.cs;unfold Cn at hc;split at hc
  ·rename_i c' d' cd' sl' ho;intro A' Q' E' s' k q;unfold isType loadHead;exact Ap (wpAny_loadPart (k _ _ (X _ _ ho)) (AS q))
  ·cases hc
 ne := fun h tp dd its n sl X htp => by
  obtain⟨cd, hc⟩ := DB.mp x.cs;refine Bool.eq_false_iff.mpr fun q => ?_
  have e : C = tp := Ga (AM.mp q);subst e;unfold Cn at hc;split at hc
  ·rename_i c' d' cd' sl' ho;have z := (X _ _ ho).symm.trans htp;cases z
  ·cases hc
 ca := fun {_ _ _ _ _ s} X p k => by
  obtain⟨h, g, d, t, os⟩ := s;exact Rl X x p k
theorem Rt{A:AN}{E : Ah -> Al -> Prop}{g:A5 DD}{d:FA}{t : Ae}{os:E9}{e C C' : Ai}{b : An}{Q:An -> Al -> Prop}(X : K.In h)(p : XAt e C h)(x' : XcOk K C')(hs : AF K (.ref C) (.ref C') = Aa b)(hq : Q b ⟨h, g, d, t, os⟩):Au M A (excMatches (.ref e) (.ref C')) Q E ⟨h,g,d,t,os⟩ := by
 obtain⟨bm, N, nm, qn, bs, hd, sn, sub, ab, col, dd, k0, k1, k2, k3, k5, mN, hC', _, _, T⟩ := Ul X x'.exc.choose_spec;have hcB : (BF C'::bm).contains (.type "BaseException") = Ab := by rw[EQ, T.hasType (show veB.contains (.type "BaseException") = Ab by decide), Gc]
 have L0 := Gu (M := M) p;have L1 := Qt (M := M) X hs;have f := tc_notTuple;unfold excMatches
 repeat (first|(with_reducible refine Ap (L0.at ?_))|(with_reducible refine L1.at ?_)|(with_reducible refine Ap (L1.at ?_))|with_reducible refine Bm hC' ?_|(with_reducible refine Dp hC' ?_;rw[hcB])|wp_step)
 all_goals first|exact hq|(cases b <;> (wp_walk;exact hq))
noncomputable def F4(X : Cx)(pI : Ac (Ai × AC))(e : Ai) : Prop := e ≠ X.env.locals /\ (∀ x c, X.env.cells.lookup x = Aa c -> c ≠ e) /\ (∀ p ∈ X.pn++pI, p.1 ≠ e) /\ X.s₀.heap.get? e = Af
section
variable{X : Cx}{pI : Ac (Ai × AC)}{σ : L2.St}{H : Hp}{s : Al}{e : Ai}
theorem HS(I : Inv X pI σ H s)(hx : X.ex = [])(h : s.heap.get? e = Af) : F4 X pI e := by
 refine⟨?_, fun x c q z => ?_, fun p hp z => ?_, GM I hx h⟩
 ·rintro rfl;obtain⟨m, ⟨o, _, _, ho, _⟩, _⟩ := I.loc;rw[h]at ho;cases ho
 ·obtain⟨v, o, ho, _⟩ := I.cell x c q;rw[z, h]at ho;cases ho
 ·obtain⟨q, _⟩ := I.pin p hp;rw[z, h]at q;cases q
theorem Mc{ex : Ac Ai}(I : Inv X pI σ H s)(hx : X.ex = [])(sh : Shift ex (frs X.stack) s.heap h')(ha : ∀ b ∈ ex, F4 X pI b)(hH : ∀ b ∈ ex, H b = Af) : Inv X pI σ H {s with heap := h'} := by
 have kp : ∀ b o, s.heap.get? b = Aa o -> b ∉ ex -> ∃ sl, h'.get? b = Aa {o with slots := sl} := fun b o q n => by
  by_cases hb : b ∈ frs X.stack
  ·exact sh.slot b o q hb
  ·exact⟨o.slots, sh.keep b o q n hb⟩
 have cellK : ∀ x c, X.env.cells.lookup x = Aa c -> ∀ v, s.heap.IsCell c v -> h'.IsCell c v := fun x c q v ⟨o, ho, hd⟩ => by
  obtain⟨sl, z⟩ := kp c o ho fun z => (ha c z).2.1 x c q rfl
  exact⟨_, z, hd⟩
 refine⟨I.ok, I.os, I.bare, ?_, ?_, fun x c q => ?_, I.free, I.freeC, fun p hp => ?_, HOk.shift I.hok sh hH I.stkFree, I.len⟩
 ·have b0 := I.base;rw[hx]at b0 ⊢;exact Un.shift b0 sh (fun b hb => (ha b hb).2.2.2) (Kl I)
 ·obtain⟨m, ⟨o, es, ep, ho, r⟩, hl⟩ := I.loc;obtain⟨sl, z⟩ := kp _ o ho fun z => (ha _ z).1 rfl
  refine⟨m, ⟨_, es, ep, z, r⟩, fun i x v e1 e2 e3 => ?_⟩
  obtain⟨u, ru, l⟩ := hl i x v e1 e2 e3;refine⟨u, ru, ?_⟩;rcases l with l|⟨k, c, q, z⟩
  ·exact .inl l
  ·exact .inr ⟨k, c, q, cellK x c q _ z⟩
 ·obtain⟨v, z⟩ := I.cell x c q;exact⟨v, cellK x c q v z⟩
 ·obtain⟨q, n, ne, nf, d⟩ := I.pin p hp;exact⟨sh.keep p.1 p.2 q (fun z => (ha p.1 z).2.2.1 p hp rfl) (fun z => (AY.mp (I.stkSub p.1 z)).elim ne nf), n, ne, nf, d⟩
theorem RG(I : Inv X pI σ H s)(hx : X.ex = [])(ha : F4 X pI e)(hH : H e = Af)(ho : ∃ o, s.heap.get? e = Aa o)(p : φ s.heap)(hφ : ∀ h1 h2 : Ax, φ h1 -> (∀ o, h1.get? e = Aa o -> h2.get? e = Aa o) -> φ h2) : Inv X pI σ (upd H e (.ext φ)) s := by
 have ne : ∀ b o, H b = Aa o -> b ≠ e := fun b o q z => by rw[z, hH]at q;cases q
 refine⟨I.ok, I.os, I.bare, ⟨I.base.keep, I.base.slot, fun b o q n hb => ?_, I.base.there, fun b xs q => ?_, fun b o u q => ?_, fun b ps q => ?_⟩, I.loc, I.cell, ?_, fun x c q => ?_, fun p hp => ?_, fun b o q => ?_, I.len⟩
 ·rw[A8 fun z => by rw[z, ha.2.2.2]at q;cases q]
  exact I.base.free b o q n hb
 ·have := I.base.tups b xs q;rw[A8 (ne _ _ this)];exact this
 ·have := I.base.frzs b o u q;rw[A8 (ne _ _ this)];exact this
 ·obtain⟨more, this⟩ := I.base.tbls b ps q;exact⟨more, by rw[A8 (ne _ _ this)];exact this⟩
 ·rw[A8 fun z => ha.1 z.symm];exact I.free
 ·rw[A8 (ha.2.1 x c q)];exact I.freeC x c q
 ·obtain⟨q, n, r⟩ := I.pin p hp;exact⟨q, by rw[A8 (ha.2.2.1 p hp)];exact n, r⟩
 ·by_cases hb : b = e
  ·subst hb;rw[DH]at q;cases q;exact⟨p, ho, hφ⟩
  ·rw[A8 hb]at q;exact(I.hok b o q).stay (fun c v hc z => z) (fun c z => by rw[A8 (ne _ _ z)];exact z) fun c zs z => by rw[A8 (ne _ _ z)];exact z
theorem RF{i : Ae}{tk:Ae}(I : Inv X pI σ H s)(hN : X.N.Nodup)(hi : X.N[i]? = Aa n)(hn : s.heap.Ns X.env.locals m)(hn' : h'.Ns X.env.locals (fun x => if x = n then v else m x))(hs : Fi X.env.locals s.heap h') : Inv X pI (σ.set i Af) H {s with heap := h', toks := tk} := by
 obtain⟨m0, hn0, hl⟩ := I.loc;have em : m0 = m := by
  obtain⟨o, es, ep, h1, h2, _, h3⟩ := hn0;obtain⟨o', es', ep', h1', h2', _, h3'⟩ := hn;rw[h1]at h1';cases h1';rw[h2]at h2';cases h2'
  funext y
  rw[<-h3, <-h3']
 subst em;obtain⟨oL, _, _, hoL, _⟩ := id hn;have lt : ∀ b o, X.s₀.heap.get? b = Aa o -> b ≠ X.env.locals := fun b o q => Bl (Ay (AA q) I.ok.above)
 refine⟨I.ok, I.os, I.bare, ⟨fun b o q n hb hx => ?_, fun b o q n hb hx => ?_, I.base.free, fun b o q hx => ?_, I.base.tups, I.base.frzs, I.base.tbls⟩, ⟨_, hn', fun j y v' e1 e2 e3 => ?_⟩, fun y c q => ?_, I.free, I.freeC, fun p hp => ?_, fun b ob q => ?_, by rw[AU];exact I.len⟩
 ·exact(hs.2 b (lt b o q)).trans (I.base.keep b o q n hb hx)
 ·obtain⟨sl, e1⟩ := I.base.slot b o q n hb hx;exact⟨sl, (hs.2 b (lt b o q)).trans e1⟩
 ·obtain⟨o', e1⟩ := I.base.there b o q hx;exact⟨o', (hs.2 b (lt b o q)).trans e1⟩
 ·by_cases hj : i = j
  ·subst hj;have := EH e2;cases this
  ·rw[BE hj]at e2;obtain⟨u', r', q⟩ := hl j y v' e1 e2 e3;refine⟨u', r', ?_⟩;rcases q with ⟨k, e⟩|⟨k, c, e, z⟩
   ·refine .inl ⟨k, ?_⟩;have : y ≠ n := fun e => hj (J9 hN hi (e ▸ e1))
    simp[this, e]
   ·exact .inr ⟨k, c, e, z.sameBut hs (I.cne y c e)⟩
 ·obtain⟨w', z⟩ := I.cell y c q;exact⟨w', z.sameBut hs (I.cne y c q)⟩
 ·obtain⟨q, n, ne, nf, d⟩ := I.pin p hp;exact⟨(hs.2 p.1 ne).trans q, n, ne, nf, d⟩
 ·refine(I.hok b ob q).stay (fun c w' hc z => (hs.2 c ?_).trans z) (fun _ q => q) fun _ _ q => q
  rintro rfl;have hfree := I.free;rcases hc with z|hc
  ·rw[<-z, hfree]at q;cases q
  ·rw[hfree]at hc;cases hc
end
noncomputable def Cx.hot(X : Cx)(e : Ai) : Cx := {X with A := X.A.mark (Aa (.ref e)), calm := Ad, xe := fun _ _ => AH}
section
variable{X : Cx}{pI : Ac (Ai × AC)}{σ : L2.St}{H : Hp}{s : Al}{e : Ai}
theorem VO(ok : X.Ok) : (Cx.hot X e).Ok := ⟨ok.mod, ok.kind, ok.glob, ok.blt, ok.above, ok.inj, ok.has, ok.cab, fun z => (nomatch z), ok.frames, ok.stk, ok.exf, ok.bs, ok.bsz, ok.noex, ok.exfs, ok.funs, ok.frf⟩
theorem Kk(I : Inv X pI σ H s)(e : Ai) : Inv (Cx.hot X e) pI σ H s := ⟨VO I.ok, I.os, I.bare, I.base, I.loc, I.cell, I.free, I.freeC, I.pin, I.hok, I.len⟩
theorem RO(ok : X.Ok)(I : Inv (Cx.hot X e) pI σ H s) : Inv X pI σ H s := ⟨ok, I.os, I.bare, I.base, I.loc, I.cell, I.free, I.freeC, I.pin, I.hok, I.len⟩
theorem Sx.unset{Fz:Ai -> HO -> Prop}{ρ:Rho}(x : Sx K CL Fz B ρ σ H)(i : Ae) : Sx K CL Fz B (ρ.set i Af) (σ.set i Af) H := by
 have get : ∀(j : Ae)(y : D × An), (ρ.set i Af)[j]? = Aa (Aa y) -> i ≠ j /\ ρ[j]? = Aa (Aa y) := fun j y h => by
  by_cases hj : i = j
  ·subst hj;have := EH h;cases this
  ·exact⟨hj, by rw[BE hj]at h;exact h⟩
 have sub : ∀ a, Bg B (ρ.set i Af) (σ.set i Af) a -> Bg B ρ σ a := fun a h => by
  rcases h with h|⟨j, d, h1, h2⟩
  ·exact .inl h
  ·obtain⟨hj, h1⟩ := get j _ h1;rw[BE hj]at h2;exact .inr ⟨j, d, h1, h2⟩
 refine⟨⟨fun j d h => ?_, fun j d h => ?_, by rw[AU, AU];exact x.len⟩, fun a h => x.aok a (sub a h), fun j d a h1 h2 => ?_, fun j k d f a h1 h2 h3 h4 => ?_, x.same, by rw[AU, AU];exact x.len⟩
 ·obtain⟨hj, h1⟩ := get j _ h;obtain⟨v, q, r⟩ := x.good.sh j d h1;exact⟨v, by rw[BE hj];exact q, Rep.sub sub _ r⟩
 ·obtain⟨hj, h1⟩ := get j _ h;obtain⟨a, xs, ds, q, z, ha, hh, rr⟩ := x.good.ow j d h1;exact⟨a, xs, ds, by rw[BE hj];exact q, z, .inr ⟨j, d, h, by rw[BE hj];exact q⟩, hh, Reps.sub sub _ rr⟩
 ·obtain⟨hj, h1⟩ := get j _ h1;rw[BE hj]at h2;exact x.new j d a h1 h2
 ·obtain⟨hj, h1⟩ := get j _ h1;obtain⟨hk, h2⟩ := get k _ h2;rw[BE hj]at h3;rw[BE hk]at h4;exact x.dis j k d f a h1 h2 h3 h4
end
noncomputable def F8(e C : Ai)(dx : Am Ai)(h : Ax) : Prop := ∃ o, h.get? e = Aa o /\ o.cls = .ref C /\ o.dict = dx /\ ∃ us, o.data = .fields us
noncomputable def Hu(X : Cx)(CL : ClA)(pI : Ac (Ai × AC))(σ : L2.St)(H : Hp)(y : Ex)(Xw : Ah -> Al -> Prop) : Prop:=
 ∀ s' H' e T cls dx, Inv X pI σ H' s' -> Av H H' -> Fly e T cls dx s'.heap -> H' e = Af -> H' T = Af -> F4 X pI e -> F4 X pI T -> EJ X.K CL H' cls dx y -> Xw (.ref e) s'
noncomputable def STB(X : Cx)(CL : ClA)(body : Ac A2)(f : Rho -> O) : Prop := ∀ Fz B pI s σ H D ρ (Xw : Ah -> Al -> Prop), DE (model X.prog X.w) X.A X.env Xw -> Inv X pI σ H s -> Sx X.K CL Fz B ρ σ H ->
  (match f ρ with
   |.exn y ρ' => ρ' = ρ -> Hu X CL pI σ H y Xw
   | o => Bq X.K CL Fz B (fun _ _ => AH) o D) -> (∀ y ρ', f ρ = .exn y ρ' -> ρ' = ρ) -> Au (model X.prog X.w) X.A (execs body X.env) (SP X pI D) Xw s
noncomputable def OX(up : Ae -> Ac Ae)(c i : Ae)(o : O)(fh : Rho -> O) : O := match o with
  | .exn y ρ' => if (up y.c).contains c = Ab then (match fh (ρ'.set i (Aa (.exc y.c y.fs, Ad))) with
      |.next ρ'' => .next (ρ''.set i Af)
      |.ret d f => .ret d f
      | _ => .bad) else .bad
  |o => o
theorem U9{c i : Ae}{hs:Ac A2}{h0:A2}{p1 hp:AJ}{fb fh:Rho -> O}(hx : X.ex = [])(hst : X.stack = X.env::X.outer)(hfm : X.env.frame = Aa X.env.locals)(hN : X.N.Nodup)(hi : X.N[i]? = Aa n)(hl : X.env.scope.names.lookup n = Aa .local)(hg : Gl X g)(hm : X.mg g = Aa (.ref C'))(hdb : (g==("__debug__" : Aj)) = Ad)(xc : XcOk X.K C')(hup : ∀ c' C, (up c').contains c = Ab -> CL c' = Aa C -> AF X.K (.ref C) (.ref C') = Aa Ab)(hb : STB X CL body fb)(hρ : ∀ ρ y ρ', fb ρ = .exn y ρ' -> ρ' = ρ)(hh : ∀ e, SSs (Cx.hot X e) CL (fun _ _ => AH) (h0::hs) fh):SS X CL W (.Try body [.ExceptHandler (Aa (.Name g p1)) (Aa n) (h0::hs) hp] [] [] pos) (fun ρ =>OX up c i (fb ρ) fh) := fun Fz B pI s σ H D I ⟨ρ, x, p⟩ => by
  refine wpAny_Try_except (AV (hb Fz B pI s σ H D ρ (fun ev s1 => Au (model X.prog X.w) X.A (EU ev X.env) (fun _ s2 => Au (model X.prog X.w) X.A (FD ev Af) (fun _ s3 => Au (model X.prog X.w) X.A (handleBy ev X.env [.ExceptHandler (Aa (.Name g p1)) (Aa n) (h0::hs) hp]) (SP X pI D) X.xe s3) X.xe s2) X.xe s1) PassesOwn.looking I x ?_ (hρ ρ)) (fun f s1 hf => ?_) fun _ _ z => z)
  · dsimp only at p;cases eb : fb ρ with
    |exn y ρ'=>
      rw[eb]at p;intro e0;subst e0;have p2 : Bq X.K CL Fz B W (if (up y.c).contains c = Ab then (match fh (ρ'.set i (Aa (.exc y.c y.fs, Ad))) with
        |.next ρ'' => .next (ρ''.set i Af)
        |.ret d f => .ret d f
        | _ => .bad) else .bad) D := p
      by_cases hc : (up y.c).contains c = Ab
      · rw[AB hc]at p2;intro s' H' e T cls dx I' sm fl he hT ae aT xr;have gx := x.grow sm;obtain⟨C, hcl, ecl, hfs⟩ := xr (Bg B ρ' σ) gx.aok;subst ecl;have two : ∀{T : Ai}{Z : Ai -> Prop}, Z e -> Z T -> ∀ b ∈ [e, T], Z b := fun {T Z} h1 h2 b hb => by
          rcases AY.mp hb with rfl|hb
          · exact h1
          · rw[Bu.mp hb];exact h2
        have hfr : X.A.frames = Aa (X.env::X.outer) := by rw[<-hst];exact I'.ok.frames
        refine RT (base := X.base) hfr hfm (by rw[<-hst];exact I'.stack) fl fun h1 T1 fl1 sh1 hT1 => ?_
        rw[<-hst]at sh1;have I1 := Mc I' hx sh1 (two ae aT) (two (Z := fun b => H' b = Af) he hT)
        have aT1 : F4 X pI T1 := hT1.elim (fun z => z ▸ aT) fun z => HS I' hx z
        have HT1 : H' T1 = Af := hT1.elim (fun z => z ▸ hT) fun z => Hi I'.hok z
        have xat : ∀{h : Ax}{T : Ai}, Fly e T (.ref C) dx h -> XAt e C h := fun {h T} z => by
          obtain⟨oe, _, _, _, _, z1, z2, _⟩ := z;exact⟨oe, z1, z2⟩
        have xad : ∀{h : Ax}{T : Ai}, Fly e T (.ref C) dx h -> F8 e C dx h := fun {h T} z => by
          obtain⟨oe, vs, _, _, _, z1, z2, z3, _, z4, _⟩ := z;exact⟨oe, z1, z2, z3, vs, z4⟩
        refine wpAny_handleBy_cons (codeAny_handlers_test (Gw (X := Cx.hot X e) (Kk I1 e) hg hm ?_ hdb)) (by intro q;cases q)
        refine Rt (K := X.K) I1.kIn (xat fl1) xc (hup y.c C hc hcl) ?_;refine codeAny_handlers_suite_as ?_;refine Rv (base := X.base) (l := X.stack) I1.stack fl1 fun h3 T3 fl3 sh3 hT3 => ?_
        have I3 := Mc I1 hx sh3 (two ae aT1) (two (Z := fun b => H' b = Af) he HT1)
        obtain⟨oe, oeg, oec⟩ := xad fl3;have I3' := RG (φ := F8 e C dx) I3 hx ae he ⟨oe, oeg⟩ ⟨oe, oeg, oec⟩ fun h1 h2 ⟨o, q1, q2⟩ k => ⟨o, k o q1, q2⟩
        have sm3 : Av H' (upd H' e (.ext (F8 e C dx))) := fun b o q => by rw[A8 fun z => by rw[z, he]at q;cases q];exact q
        refine JQ (X := Cx.hot X e) (i := i) (v := .ref e) (Kk I3' e) hN hi (.inl hl) rfl (fun s4 I4 => ?_) (.inr hl)
        have x3 := gx.grow sm3;have nA : ¬ Bg B ρ' σ e := fun z => by
          obtain⟨xs, q⟩ := x3.aok e z;rw[DH]at q;cases q
        have rp : Rep X.K CL (upd H' e (.ext (F8 e C dx))) (Bg B ρ' σ) (.ref e) (.exc y.c y.fs) := by
          refine⟨e, C, F8 e C dx, rfl, nA, hcl, DH, fun h ⟨o, z1, z2, _⟩ => ⟨o, z1, z2⟩, ?_⟩
          rcases hfs with z|⟨d, vs, ed, nd, hd, rf⟩
          · exact .inl z
          · exact .inr ⟨d, vs, nd, sm3 _ _ hd, Repf.kp (Kp.of sm3) _ rf, fun h ⟨o, z1, _, z3, z4⟩ => ⟨o, z1, z3.trans ed, z4⟩⟩
        have x4 := x3.set i rp;have fin : ∀{s5 : Al}{σ5 : L2.St}{H5 : Hp}{Q : EF -> Al -> Prop}, Inv (Cx.hot X e) pI σ5 H5 s5 -> (∀ s6, Inv X pI (σ5.set i Af) H5 s6 -> Q () s6) -> Au (model X.prog X.w) X.A (do bindName X.env n .none;unbindBehindTheSuite X.env n hp) Q X.xe s5 := fun {s5 σ5 H5 Q} I5 k => by
          have I5' := RO I.ok I5;obtain⟨m, hn, _⟩ := id I5'.loc;refine wpAny_nameGoes_keeps hl hn (by rw[I.ok.kind];rfl) fun h6 v6 hn6 sb6 => ?_
          exact k _ (RF I5' hN hi hn hn6 sb6)
        refine AV (hh e Fz B pI s4 _ _ {nx := fun σ5 H5 => D.nx (σ5.set i Af) H5, rt := D.rt} I4 ⟨_, x4, ?_⟩) (fun f s5 hf => ?_) fun _ _ z => AT z
        · cases ef : fh (ρ'.set i (Aa (.exc y.c y.fs, Ad))) with
          |next ρ'' => rw[ef]at p2;exact fun σ5 H5 x5 => p2 _ _ (x5.unset i)
          |ret d b => rw[ef]at p2;exact p2
          |brk _ => rw[ef]at p2;exact p2.elim
          |cont _ => rw[ef]at p2;exact p2.elim
          |exn _ _ => rw[ef]at p2;exact p2.elim
          |bad => rw[ef]at p2;exact p2.elim
        · cases f with
          |next=>
            obtain⟨σ5, H5, I5, q⟩ := hf;exact fin I5 fun s6 I6 => ⟨_, H5, I6, q⟩
          |ret u=>
            obtain⟨v, σ5, H5, I5, r, q⟩ := hf;exact fin I5 fun s6 I6 => ⟨v, _, H5, I6, r, q⟩
          |brk => obtain⟨_, _, _, q⟩ := hf;exact AT q
          |cont => obtain⟨_, _, _, q⟩ := hf;exact AT q
      · rw[AE hc]at p2;exact p2.elim
    |next ρ' => rw[eb]at p;exact p
    |ret d b => rw[eb]at p;exact p
    |brk ρ' => rw[eb]at p;exact p
    |cont ρ' => rw[eb]at p;exact p
    |bad => rw[eb]at p;exact p.elim
  · cases f with
    |next => exact Dx hf
    |ret u => exact hf
    |brk => exact hf
    |cont => exact hf
theorem Mw{f : Ai}{E : XK}{e : Ao}{es : Ac Ao}{t : TA}(F : FnOk X.prog X.w X.K X.mg X.base CX k f fd ps sp)(hr : Room k X.A)(hg : Gl X x)(hm : X.mg x = Aa (.ref f))(hk : Bs X.K (.ref f) = Ab)(hb : DV X.K fd ps [])(hx : ∀ pI H s e s', Inv X pI σ0 H s -> CX X.stack H s E e s' -> X.xe e s')(ha : PA X (e::es) t)(hdb : (x==("__debug__" : Aj)) = Ad)(he : Ar (e::es) X.env = (Ad, eval e X.env)::Ar es X.env)(hpl : (By pos (Ar es X.env)).any (·.1) = Ad):PE X (.Call (.Name x p) (e::es) [] pos) (fun σ H Q =>σ = σ0/\t σ H fun vs H1 =>sp vs H1 Q E) := by
 intro pI s σ H Q I ⟨e0, h⟩;subst e0;refine C2 (Gw I hg hm ?_ hdb);refine ES (h₀ := X.base) I.ok.mod.kin hk (thn (ha pos pI s σ H _ I h) fun us s1 ⟨vs, H1, I1, r, q⟩ => ⟨I1.kIn, ?_⟩) he hpl
 have hl : us.length = ps.length := by rw[<-r.length];exact F.len _ _ _ _ q
 have hb' : Ee s1 fd ⟨us, []⟩ (ps.zip us) := by
  have := hb s1 us I1.kIn (by rw[BD];exact hl)
  rw[BD]at this;exact this
 refine Et (DF (F.run X.A X.stack s1 H1 ⟨us, []⟩ us vs Q E hr I1.env0 hb' r q) fun r s' hq => ?_)
 cases r with
 |error e => exact hx pI H1 s1 e s' I1 hq
 |ok fl=>
  cases fl with
  |ret u => exact I1.after hq
  |next => exact AT hq
  |brk => exact AT hq
  |cont => exact AT hq
noncomputable def Lc(K : Fg)(CL : ClA)(Rp : Hp -> V -> D -> Prop)(E0 : XK)(H : Hp)(r : R D)(Q : VK) : Prop := match r with
  |.ok d => ∀ v H', Av H H' -> Rp H' v d -> Q v H'
  |.exn y => ∀ cls dx H', Av H H' -> EJ K CL H' cls dx y -> E0 cls dx H'
  |.bad => AH
theorem IL{n:Ae}{f : Ai}{e : Ao}{es : Ac Ao}{sh : Rho -> An}{E0 : XK}(G : FnOk X.prog X.w X.K X.mg X.base CX k f fd ps (spD X.K CL n fr F))(hr : Room k X.A)(hg : Gl X x)(hm : X.mg x = Aa (.ref f))(hk : Bs X.K (.ref f) = Ab)(hb : DV X.K fd ps [])(hx : ∀ pI H s e s', Inv X pI σ0 H s -> CX X.stack H s E0 e s' -> X.xe e s')(ha : SA X CL (fun _ _ => AH) (e::es) fs)(hat : SAT X CL (fun _ _ => AH) (e::es) ft)(hst : ∀ ρ, sh ρ = Ab -> ft ρ = fs ρ)(hn : ∀ ρ ds, ft ρ = .ok ds -> ds.length = n)(hnx : ∀ ρ y, ft ρ ≠ .exn y)(hdb : (x==("__debug__" : Aj)) = Ad)(he : Ar (e::es) X.env = (Ad, eval e X.env)::Ar es X.env)(hpl : ∀ pos, (By pos (Ar es X.env)).any (·.1) = Ad)(A : Ai -> Prop):PE X (.Call (.Name x p) (e::es) [] pos) (fun σ H Q =>σ = σ0/\AOk H A/\∃ ρ,Good X.K CL A ρ σ H/\Lc X.K CL (Cq X.K CL fr H A) E0 H ((ft ρ).bind fun ds =>(F ds).bind fun d =>if sh ρ = Ab then .ok d else if DY fr d = Ab then .ok d else .bad) Q) := fun pI s σ H Q I ⟨e0, hA, ρ, gd, q⟩ => by
 by_cases hs : sh ρ = Ab
 ·rw[hst ρ hs]at q;refine Mw G hr hg hm hk hb hx (ha A) hdb he (hpl _) pI s σ H Q I ⟨e0, hA, ρ, gd, ?_⟩;cases e1 : fs ρ with
  |bad => rw[e1]at q;exact q
  |exn y => exact absurd (by rw[hst ρ hs];exact e1) (hnx ρ y)
  |ok ds=>
   rw[e1]at q;intro vs H1 s1 r1;refine⟨ds, A, by rw[r1.length];exact hn ρ ds (by rw[hst ρ hs];exact e1), hA.same s1, r1, ?_⟩
   have q' : Lc X.K CL (Cq X.K CL fr H A) E0 H ((F ds).bind fun d => if sh ρ = Ab then .ok d else if DY fr d = Ab then .ok d else .bad) Q := q
   cases e2 : F ds with
   |ok d=>
    rw[e2, R.bind_ok, AB hs]at q';exact fun v H2 s2 r2 => q' v H2 (s1.trans s2) ⟨r2.1, fun z ds' e' => let ⟨a, xs, z1, z2, z3⟩ := r2.2 z ds' e';⟨a, xs, z1, s1.free z2, z3⟩⟩
   |exn y=>
    rw[e2]at q';exact fun cls dx H2 s2 xr => q' cls dx H2 (s1.trans s2) xr
   |bad => rw[e2]at q';exact q'.elim
 ·refine Mw G hr hg hm hk hb hx (hat A) hdb he (hpl _) pI s σ H Q I ⟨e0, hA, ρ, gd, ?_⟩;cases e1 : ft ρ with
  |bad => rw[e1]at q;exact q
  |exn y => exact absurd e1 (hnx ρ y)
  |ok ds=>
   rw[e1]at q;intro vs H1 s1 r1;refine⟨ds, A0, by rw[r1.plain.length];exact hn ρ ds e1, fun _ z => z.elim, r1.plain, ?_⟩
   have q' : Lc X.K CL (Cq X.K CL fr H A) E0 H ((F ds).bind fun d => if sh ρ = Ab then .ok d else if DY fr d = Ab then .ok d else .bad) Q := q
   cases e2 : F ds with
   |ok d=>
    rw[e2, R.bind_ok, AE hs]at q';split at q'
    ·rename_i hc;exact fun v H2 s2 r2 => q' v H2 (s1.trans s2) (KJ hA (s1.trans s2) hc ⟨r2.1, fun z ds' e' => let ⟨a, xs, z1, z2, z3⟩ := r2.2 z ds' e';⟨a, xs, z1, s1.free z2, z3⟩⟩)
    ·exact q'.elim
   |exn y=>
    rw[e2]at q';exact fun cls dx H2 s2 xr => q' cls dx H2 (s1.trans s2) xr
   |bad => rw[e2]at q';exact q'.elim
noncomputable def Cx.pw(X : Cx)(pI : Ac (Ai × AC))(Xw : Ah -> Al -> Prop) : Cx := {X with pn := X.pn++pI, xe := Xw}
section
variable{X : Cx}{pI pins' : Ac (Ai × AC)}{σ : L2.St}{H : Hp}{s : Al}{Xw : Ah -> Al -> Prop}
theorem W5(ok : X.Ok) : (Cx.pw X pI Xw).Ok := ⟨ok.mod, ok.kind, ok.glob, ok.blt, ok.above, ok.inj, ok.has, ok.cab, ok.hd, ok.frames, ok.stk, ok.exf, ok.bs, ok.bsz, ok.noex, ok.exfs, ok.funs, ok.frf⟩
theorem Ii(I : Inv X pI σ H s)(Xw : Ah -> Al -> Prop) : Inv (Cx.pw X pI Xw) [] σ H s := ⟨W5 I.ok, I.os, I.bare, I.base, I.loc, I.cell, I.free, I.freeC, fun p hp => I.pin p (by
 rcases Fw.mp hp with z|z
 ·exact z
 ·exact absurd z (by simp)), I.hok, I.len⟩
theorem Hh(ok : X.Ok)(I : Inv (Cx.pw X pI Xw) pins' σ H s) : Inv X pI σ H s := ⟨ok, I.os, I.bare, I.base, I.loc, I.cell, I.free, I.freeC, fun p hp => I.pin p (Ei _ hp), I.hok, I.len⟩
theorem IT(ok : X.Ok){D : Ends}{f : Flow}{s':Al}(h : SP (Cx.pw X pI Xw) pins' D f s') : SP X pI D f s' := by
 cases f with
 |next => obtain⟨σ', H', I, q⟩ := h;exact⟨σ', H', Hh ok I, q⟩
 |brk => obtain⟨σ', H', I, q⟩ := h;exact⟨σ', H', Hh ok I, q⟩
 |cont => obtain⟨σ', H', I, q⟩ := h;exact⟨σ', H', Hh ok I, q⟩
 |ret u => obtain⟨v, σ', H', I, r, q⟩ := h;exact⟨v, σ', H', Hh ok I, r, q⟩
end
section
variable{X : Cx}{CL : ClA}{k n : Ae}{fr : An}{f : Ai}{fd : Bi}{ps : Ac Aj}{F : Ac D -> R D}{x : Aj}{p pos pos2 : AJ}{e : Ao}{es : Ac Ao}{fs ft : Rho -> R (Ac D)}{sh : Rho -> An}
theorem MX{y:Ex}(hx : X.ex = [])(ok : X.Ok)(q : Hu X CL pI σ H y Xw):∀ pins' H1 s1 e s',Inv (Cx.pw X pI Xw) pins' σ H1 s1->CXR X.prog X.w (Cx.pw X pI Xw).stack H1 s1 (fun cls dx H' =>EJ X.K CL H' cls dx y/\Av H H') e s'->(Cx.pw X pI Xw).xe e s' := by
 intro pins' H1 s1 ev s' J h;obtain⟨e, T, cls, dx, H', rfl, os, bare, un, hok, fl, he, hT, ne, nT, xr, sm⟩ := h;have J' := Hh ok J;have J2 := J'.call' (s' := s') (ch := []) os un hok bare (fun b z => absurd z (by simp))
 exact q s' H' e T cls dx J2 sm fl he hT (HS J' hx ne) (HS J' hx nT) xr
theorem MY:∀ pins' H1 s1 e s',Inv (Cx.pw X pI Xw) pins' σ H1 s1->CXR X.prog X.w (Cx.pw X pI Xw).stack H1 s1 (fun _ _ _ =>AH) e s'->(Cx.pw X pI Xw).xe e s' := by
 intro pins' H1 s1 ev s' J h;obtain⟨e, T, cls, dx, H', rfl, os, bare, un, hok, fl, he, hT, ne, nT, w⟩ := h;exact w.elim
variable(hx0 : X.ex = [])(G : FnOk X.prog X.w X.K X.mg X.base (CXR X.prog X.w) k f fd ps (spD X.K CL n fr F))(hr : Room k X.A)(hg : Gl X x)(hm : X.mg x = Aa (.ref f))
    (hk : Bs X.K (.ref f) = Ab) (hb : DV X.K fd ps []) (hst : ∀ ρ, sh ρ = Ab -> ft ρ = fs ρ) (hn : ∀ ρ ds, ft ρ = .ok ds -> ds.length = n) (hnx : ∀ ρ y, ft ρ ≠ .exn y)
    (hdb : (x==("__debug__" : Aj)) = Ad) (he : Ar (e::es) X.env = (Ad, eval e X.env)::Ar es X.env) (hpl : ∀ pos, (By pos (Ar es X.env)).any (·.1) = Ad)
    (ha : ∀ pI Xw, DE (model X.prog X.w) X.A X.env Xw -> SA (Cx.pw X pI Xw) CL (fun _ _ => AH) (e::es) fs /\ SAT (Cx.pw X pI Xw) CL (fun _ _ => AH) (e::es) ft)
include hx0 G hr hg hm hk hb hst hn hnx hdb he hpl ha
theorem R1(hs : Co (.Call (.Name x p) (e::es) [] pos) Af pos2.line X.env = pure Ad) : STB X CL [.Expr (.Call (.Name x p) (e::es) [] pos) pos2] (fun ρ => O.of ρ ((ft ρ).bind fun ds => (F ds).bind fun d => if sh ρ = Ab then .ok d else if DY fr d = Ab then .ok d else .bad) fun _ => .next ρ) := by
 intro Fz B pI s σ H D ρ Xw own I sx q _;obtain⟨ha1, ha2⟩ := ha pI Xw own;dsimp only at q;cases er : (ft ρ).bind fun ds => (F ds).bind fun d => if sh ρ = Ab then .ok d else if DY fr d = Ab then .ok d else .bad with
 |bad => rw[er]at q;exact q.elim
 |exn y=>
  rw[er]at q;have key := IL (X := Cx.pw X pI Xw) (p := p) (pos := pos) (σ0 := σ) (fr := fr) (F := F) (n := n) (sh := sh) G hr hg hm hk hb (MX hx0 I.ok (q rfl)) ha1 ha2 hst hn hnx hdb he hpl (Bg B ρ σ);refine AV (HY (IV (pos := pos2) key hs) [] s σ H D (Ii I Xw) ⟨rfl, sx.aok, ρ, sx.good, ?_⟩) (fun _ _ z => IT I.ok z) fun _ _ z => z
  rw[er];exact fun cls dx H' sm xr => ⟨xr, sm⟩
 |ok d=>
  rw[er]at q;have key := IL (X := Cx.pw X pI Xw) (p := p) (pos := pos) (σ0 := σ) (fr := fr) (F := F) (n := n) (sh := sh) (E0 := fun _ _ _ => AH) G hr hg hm hk hb MY ha1 ha2 hst hn hnx hdb he hpl (Bg B ρ σ)
  refine AV (HY (IV (pos := pos2) key hs) [] s σ H D (Ii I Xw) ⟨rfl, sx.aok, ρ, sx.good, ?_⟩) (fun _ _ z => IT I.ok z) fun _ _ z => z
  rw[er];exact fun v H' sm r => q σ H' (sx.grow sm)
theorem SK{i : Ae}{m:Aj}(hN : X.N.Nodup)(hi : X.N[i]? = Aa m)(hl : Loc X.env.scope m)(hf : X.fn m = Ab \/ X.env.scope.names.lookup m = Aa .local)(hs : Co (.Call (.Name x p) (e::es) [] pos) (Aa (.Name m pos')) pos2.line X.env = pure Ad) : STB X CL [.Assign [.Name m pos'] (.Call (.Name x p) (e::es) [] pos) pos2] (fun ρ => O.of ρ ((ft ρ).bind fun ds => (F ds).bind fun d => if sh ρ = Ab then .ok d else if DY fr d = Ab then .ok d else .bad) fun d => .next (ρ.set i (Aa (d, Ad)))) := by
 intro Fz B pI s σ H D ρ Xw own I sx q _;obtain⟨ha1, ha2⟩ := ha pI Xw own;dsimp only at q;cases er : (ft ρ).bind fun ds => (F ds).bind fun d => if sh ρ = Ab then .ok d else if DY fr d = Ab then .ok d else .bad with
 |bad => rw[er]at q;exact q.elim
 |exn y=>
  rw[er]at q;have key := IL (X := Cx.pw X pI Xw) (p := p) (pos := pos) (σ0 := σ) (fr := fr) (F := F) (n := n) (sh := sh) G hr hg hm hk hb (MX hx0 I.ok (q rfl)) ha1 ha2 hst hn hnx hdb he hpl (Bg B ρ σ);refine AV (HY (Jh (X := Cx.pw X pI Xw) (i := i) (pos := pos2) hN hi hl key hs hf) [] s σ H D (Ii I Xw) ⟨rfl, sx.aok, ρ, sx.good, ?_⟩) (fun _ _ z => IT I.ok z) fun _ _ z => z
  rw[er];exact fun cls dx H' sm xr => ⟨xr, sm⟩
 |ok d=>
  rw[er]at q;have key := IL (X := Cx.pw X pI Xw) (p := p) (pos := pos) (σ0 := σ) (fr := fr) (F := F) (n := n) (sh := sh) (E0 := fun _ _ _ => AH) G hr hg hm hk hb MY ha1 ha2 hst hn hnx hdb he hpl (Bg B ρ σ)
  refine AV (HY (Jh (X := Cx.pw X pI Xw) (i := i) (pos := pos2) hN hi hl key hs hf) [] s σ H D (Ii I Xw) ⟨rfl, sx.aok, ρ, sx.good, ?_⟩) (fun _ _ z => IT I.ok z) fun _ _ z => z
  rw[er];exact fun v H' sm r => q _ H' ((sx.grow sm).set i r.1)
end
section
variable{X : Cx}{CL : ClA}{W : XW}
theorem R4{e : Ao}{es : Ac Ao}(hcalm : X.calm = Ab)(rz : Ix X CL W)(hg : Gl X g)(hm : X.mg g = Aa (.ref C))(hdb : (g==("__debug__" : Aj)) = Ad)(xc : CQ X.K C Af = Ab)(hcl : CL c = Aa C)(ha : SA X CL W (e::es) fs)(hxn : ∀ ds, xn c ds = .bad \/ xn c ds = .ok ⟨c, []⟩)(he : Ar (e::es) X.env = (Ad, eval e X.env)::Ar es X.env)(hpl : ∀ pos, (By pos (Ar es X.env)).any (·.1) = Ad)(hz : ∀ ρ ds, fs ρ = .ok ds -> ds.length <= 100000):SS X CL W (.Raise (Aa (.Call (.Name g np) (e::es) [] cpos)) Af pos) (fun ρ =>O.of ρ (noX (fs ρ)) fun xs =>O.of ρ (xn c xs) fun x =>.exn x ρ) := fun Fz B pI s σ H D I ⟨ρ, x, p⟩ => by
 dsimp only at p;cases e1 : fs ρ with
 |bad => rw[e1]at p;exact p.elim
 |exn y => rw[e1]at p;exact p.elim
 |ok ds=>
  rw[e1]at p;have p2 : Bq X.K CL Fz B W (O.of ρ (xn c ds) fun x => .exn x ρ) D := p
  rcases hxn ds with e2|e2
  ·rw[e2]at p2;exact p2.elim
  ·rw[e2]at p2;have p3 : ∀ H, (∀ b o, Fz b o -> H b = Aa o) -> W ⟨c, []⟩ H := p2;obtain⟨bm, N, nm, qn, bs, hd, sn, sub, ab, col, dd, k0, k1, k2, k3, k5, mN, hob, hni, hbase⟩ := Kc I.kIn xc;refine wpAny_Raise_call_subT (bmB := veB) (nm := nm) (q := qn) (C := C) (N := N) (bs := bs) (bm := bm) (hdct := hd) (sn := sn) (sub := sub) (ab := ab) (col := col) (dd := dd) (k0 := k0) (k1 := k1) (k2 := k2) (k3 := k3) (k5 := k5) (mN := mN) Dk hbase (I.ok.hd hcalm) (by rw[he];show (Ad||(By cpos (Ar es X.env)).any (·.1)) = Ad;rw[hpl];rfl) hni ?_
   refine Gw I hg hm ⟨rfl, ?_⟩ hdb;have q1 := ha (Bg B ρ σ) cpos pI s σ H (fun vs H1 => Av H H1 /\ vs.length = ds.length) I ⟨x.aok, ρ, x.good, by rw[e1];exact fun vs H1 s1 r1 => ⟨s1, r1.length⟩⟩
   rw[he]at q1 ⊢;refine Eo (AV q1 (fun us s2 ⟨vs, H2, I2, r2, s2', hl⟩ => ⟨rfl, ?_⟩) fun _ _ z => z)
   obtain⟨o1, o2, o3⟩ := hob _ I2.kIn;refine⟨?_, o1, o2, o3, fun h' ev hmade => ?_⟩
   ·rw[<-r2.length, hl, Ct];have := hz ρ ds e1;omega
   ·obtain⟨t, ge, _⟩ := hmade.there;have I3 : Inv X pI σ H2 {s2 with heap := h'} := I2.kept (t' := s2.toks) hmade.keeps
    exact rz pI σ H2 _ ev C Af t ⟨c, []⟩ I3 (fun hx => GM I2 hx hmade.new) (Hi I2.hok hmade.new) ge (fun A _ => ⟨C, hcl, rfl, .inl rfl⟩) (p3 H2 fun b o z => s2' _ _ (x.same b o z))
noncomputable def Ig(K : Fg)(CL : ClA)(up : Ae -> Ac Ae)(c' : Ae)(C' : Ai) : Prop := ∀ c C, CL c = Aa C -> Ce K (.ref C) (.ref C') = Aa ((up c).contains c')
theorem MC{s : Al}{cv:Ah}{b : An}{Q:VK}(I : Inv X pI σ H s)(ha : H a = Aa (.ext φ))(hφ : ∀ h, φ h -> ∃ o, h.get? a = Aa o /\ o.cls = .ref C)(xc : XcOk X.K C)(e : Ce X.K (.ref C) cv = Aa b)(q : Q (.bl b) H):
  Au (model X.prog X.w) X.A (call (.builtin "isinstance") [.ref a, cv]) (EP X pI σ Q) X.xe s := by
 have p : XAt a C s.heap := hφ _ (I.hok a _ ha).1;exact PySem.W.kia_one (MB xc) I.kIn p e (by intro z;cases z) fun tk => ⟨.bl b, H, I.tok tk, rfl, q⟩
theorem Ml : ∀(Cs : Ac Ai){its : Ac Ah}, AW (Cs.map V.ref) its -> its = Cs.map BF
 |[], _, rv => by cases rv;rfl
 |c::cs, _, rv => by
  cases rv with
  |cons h1 h2 => rw[Ml cs h2];cases h1;rfl
theorem S5{s : Al}{tp:Ai}{Cs:Ac Ai}{b : An}{Q:VK}(I : Inv X pI σ H s)(ha : H a = Aa (.ext φ))(hφ : ∀ h, φ h -> ∃ o, h.get? a = Aa o /\ o.cls = .ref C)(xc : XcOk X.K C)(ht : H tp = Aa (.tup (Cs.map V.ref)))(e : FP X.K (.ref C) (Cs.map BF) = Aa b)(q : Q (.bl b) H):
  Au (model X.prog X.w) X.A (call (.builtin "isinstance") [.ref a, .ref tp]) (EP X pI σ Q) X.xe s := by
 have p : XAt a C s.heap := hφ _ (I.hok a _ ha).1;obtain⟨_, its, rv, ⟨o, ho, hc, n, hd⟩⟩ := I.hok tp _ ht;have ei : its = Cs.map BF := Ml Cs rv;subst ei;obtain⟨cls, dd, dat, sl⟩ := o;have hc' : cls = .type "tuple" := hc;have hd' : dat = .seq (DA (Cs.map BF)) n := hd;subst hc' hd';exact PySem.W.kia_tup (MB xc) I.kIn p ho e (by intro z;cases z) fun tk => ⟨.bl b, H, I.tok tk, rfl, q⟩
theorem Nj{K : Fg}{up : Ae -> Ac Ae}{c : Ae}{C : Ai}(h : CL c = Aa C) : ∀(cs : Ac (Ae × Ai)), (∀ p ∈ cs, Ig K CL up p.1 p.2) -> FP K (.ref C) ((cs.map fun q : Ae × Ai => q.2).map BF) = Aa (cs.any fun p => (up c).contains p.1)
  |[], _ => rfl
  |p::cs, hk => by
    have h1 := hk p AI c C h;have h2 := Nj h cs fun q hq => hk q (Az _ hq)
    show (match Ce K (.ref C) (.ref p.2) with
      |some Ab => Aa Ab
      |some Ad => FP K (.ref C) ((cs.map fun q : Ae × Ai => q.2).map BF)
      | none => Af) = _
    rw[h1, Pk];cases (up c).contains p.1 with
    |true => rfl
    |false => rw[h2];rfl
theorem Kb{ks:Ac Ki}{Rp:Hp -> V -> D -> Prop}{Q:VK}(hk : ks.all CI = Ab)(hne : ks ≠ [])(p : AX Rp W H (C7 up ks d) Q) : ∃ c fs, d = .exc c fs /\ AX Rp W H (.ok (.bl (ks.any fun k => kiD up k d))) Q := by
 have ha : ks.any CI = Ab := by
  cases ks with
  |nil => exact absurd rfl hne
  |cons k ks => simp only[D3, Ak]at hk;simp[Pk, hk.1]
 cases d with
 | exc c fs => exact⟨c, fs, rfl, by
   have p' : AX Rp W H (if ks.all CI = Ab then .ok (.bl (ks.any fun k => kiD up k (.exc c fs))) else .bad) Q := p
   rw[AB hk]at p';exact p'⟩
 |obj c fs => exact AT p
 |dic _ => exact AT p
 |non => simp only[C7, ha, De]at p;exact AT p
 |bl _ => simp only[C7, ha, De]at p;exact AT p
 |int _ => simp only[C7, ha, De]at p;exact AT p
 |str _ => simp only[C7, ha, De]at p;exact AT p
 |tup _ => simp only[C7, ha, De]at p;exact AT p
 |lst _ => simp only[C7, ha, De]at p;exact AT p
theorem Kf{v:V}{fs:Ac (Aj × D)}(r : BZ K CL H A v (.exc c fs)) : ∃ a C φ, v = .ref a /\ CL c = Aa C /\ H a = Aa (.ext φ) /\ ∀ h, φ h -> ∃ o, h.get? a = Aa o /\ o.cls = .ref C := by
 rcases r with ⟨a, C, φ, e, _, hc, hH, hφ, _⟩|⟨a, xs, ds, _, z, _⟩
 ·exact⟨a, C, φ, e, hc, hH, hφ⟩
 ·cases z
variable{a : Ao}{fa : Rho -> R D}{up : Ae -> Ac Ae}{x : Aj}{p p2 pos : AJ}
theorem UM{c':Ae}(hxc : ∀ c C, CL c = Aa C -> XcOk X.K C)(hg : Gl X "isinstance")(hm : X.mg "isinstance" = Af)(hg2 : Gl X x)(hm2 : X.mg x = Aa (.ref C'))(hkit : Ig X.K CL up c' C')(hdb : (x==("__debug__" : Aj)) = Ad)(ha : ST X CL W a fa)(he : Ar [a, .Name x p2] X.env = (Ad, eval a X.env)::Ar [.Name x p2] X.env) : SE X CL W (.Call (.Name "isinstance" p) [a, .Name x p2] [] pos) (fun ρ => (fa ρ).bind fun x => C7 up [.cls c'] x) := fun A=>
 PE.weak (HW (r := fun xs H Q => ∃ a C φ c, xs = [.ref a, .ref C'] /\ CL c = Aa C /\ H a = Aa (.ext φ) /\ (∀ h, φ h -> ∃ o, h.get? a = Aa o /\ o.cls = .ref C) /\ Q (.bl ((up c).contains c')) H) (fun pI s σ H xs us Q I r ⟨b, C, φ, c, e, hc, hH, hφ, q⟩ => by
   subst e;obtain⟨u, w', rfl, r1, r2⟩ := Hr r;cases r1;cases r2;exact MC I hH hφ (hxc c C hc) (hkit c C hc) q)
  hg hm En (DR (ha A) (DR (Na (v := .ref C') hg2 hm2 rfl hdb) FG rfl) he) (by decide) (by decide) he rfl) fun σ H Q ⟨hA, ρ, g, q⟩ => ⟨hA, ρ, g, AX.bind q fun d v H1 _ s1 r1 p1 => by
   obtain⟨c, fs, rfl, p2⟩ := Kb (by rfl) (by simp) p1
   obtain⟨b, C, φ, rfl, hc, hH, hφ⟩ := Kf r1;refine⟨b, C, φ, c, rfl, hc, hH, hφ, p2 _ H1 (Av.refl H1) ?_⟩;show V.bl _ = V.bl _;simp[kiD]⟩
theorem UJ(hxc : ∀ c C, CL c = Aa C -> XcOk X.K C)(hg : Gl X "isinstance")(hm : X.mg "isinstance" = Af)(hg2 : Gl X "ValueError")(hm2 : X.mg "ValueError" = Af)(ha : ST X CL W a fa)(he : Ar [a, .Name "ValueError" p2] X.env = (Ad, eval a X.env)::Ar [.Name "ValueError" p2] X.env) : SE X CL W (.Call (.Name "isinstance" p) [a, .Name "ValueError" p2] [] pos) (fun ρ => (fa ρ).bind fun x => C7 up [.verr] x) := fun A=>
 PE.weak (HW (r := fun xs H Q => ∃ a C φ c, xs = [.ref a, .ty "ValueError"] /\ CL c = Aa C /\ H a = Aa (.ext φ) /\ (∀ h, φ h -> ∃ o, h.get? a = Aa o /\ o.cls = .ref C) /\ Q (.bl Ab) H) (fun pI s σ H xs us Q I r ⟨b, C, φ, c, e, hc, hH, hφ, q⟩ => by
   subst e;obtain⟨u, w', rfl, r1, r2⟩ := Hr r;cases r1;cases r2;exact MC I hH hφ (hxc c C hc) (hxc c C hc).ve q)
  hg hm En (DR (ha A) (DR (Nc (v := .ty "ValueError") hg2 hm2 PyProof.Rows.Boot.«ValueError» rfl (by decide) (by decide)) FG rfl) he) (by decide) (by decide) he rfl) fun σ H Q ⟨hA, ρ, g, q⟩ => ⟨hA, ρ, g, AX.bind q fun d v H1 _ s1 r1 p1 => by
   obtain⟨c, fs, rfl, p2⟩ := Kb (by rfl) (by simp) p1
   obtain⟨b, C, φ, rfl, hc, hH, hφ⟩ := Kf r1;refine⟨b, C, φ, c, rfl, hc, hH, hφ, p2 _ H1 (Av.refl H1) ?_⟩;show V.bl _ = V.bl _;simp[kiD]⟩
noncomputable def OO(Cs : Ac Ai) : TA := fun _ H Q => Q (Cs.map V.ref) H
theorem UK{ts:Ac Ao}{cs : Ac (Ae × Ai)}(hxc : ∀ c C, CL c = Aa C -> XcOk X.K C)(hg : Gl X "isinstance")(hm : X.mg "isinstance" = Af)(hts : PA X ts (OO (cs.map fun q : Ae × Ai => q.2)))(hne : cs ≠ [])(hl : cs.length <= 1000)(hkit : ∀ q ∈ cs, Ig X.K CL up q.1 q.2)(ha : ST X CL W a fa)(he : Ar [a, .Tuple ts kk p2] X.env = (Ad, eval a X.env)::Ar [.Tuple ts kk p2] X.env) : SE X CL W (.Call (.Name "isinstance" p) [a, .Tuple ts kk p2] [] pos) (fun ρ => (fa ρ).bind fun x => C7 up (cs.map fun q => .cls q.1) x) := fun A=>
 PE.weak (HW (r := fun xs H Q => ∃ a C φ c tp, xs = [.ref a, .ref tp] /\ CL c = Aa C /\ H a = Aa (.ext φ) /\ (∀ h, φ h -> ∃ o, h.get? a = Aa o /\ o.cls = .ref C) /\ H tp = Aa (.tup ((cs.map fun q : Ae × Ai => q.2).map V.ref)) /\ Q (.bl (cs.any fun q => (up c).contains q.1)) H) (fun pI s σ H xs us Q I r ⟨b, C, φ, c, tp, e, hc, hH, hφ, ht, q⟩ => by
   subst e;obtain⟨u, w', rfl, r1, r2⟩ := Hr r;cases r1;cases r2;exact S5 I hH hφ (hxc c C hc) ht (Nj hc cs hkit) q)
  hg hm En (DR (ha A) (DR (NU hts) FG rfl) he) (by decide) (by decide) he rfl) fun σ H Q ⟨hA, ρ, g, q⟩ => ⟨hA, ρ, g, AX.bind q fun d v H1 _ s1 r1 p1 => by
   have hk : (cs.map fun q => Ki.cls q.1).all CI = Ab := by simp[Pj, CI]
   obtain⟨c, fs, rfl, p2⟩ := Kb hk (by simpa using hne) p1
   obtain⟨b, C, φ, rfl, hc, hH, hφ⟩ := Kf r1;refine⟨by rw[CY, CY, Ct];omega, fun t ht => ?_⟩
   have hbt : b ≠ t := DQ hH ht;refine⟨b, C, φ, c, t, rfl, hc, by rw[A8 hbt];exact hH, hφ, DH, p2 _ _ (EI ht _) ?_⟩
   show V.bl _ = V.bl _;simp[kiD, List.any_map, Pd]⟩
end
theorem N6(q : CQ K C v = Ab) : ∃ dd cd sl bm, K.lookup C = Aa ⟨.type "type", dd, .cls cd, sl⟩ /\ cd.mro = .ref C::bm := by
 unfold CQ at q;split at q
 ·rename_i dd cd sl ho;split at q
  ·rename_i C' bm k0 k1 k2 k3 n k5 hm hs;simp only[Ak, AM, A4]at q;obtain⟨rfl, _⟩ := q;exact⟨dd, cd, sl, bm, ho, hm⟩
  ·cases q
 ·cases q
theorem Jb(q : CQ K C v = Ab) : ∃ cd bm, Cn K C = Aa cd /\ cd.mro = .ref C::bm := by
 obtain⟨dd, cd, sl, bm, h1, h2⟩ := N6 q;exact⟨cd, bm, by unfold Cn;rw[h1], h2⟩
theorem Vh(q : CQ K C v = Ab) : B0 K (.ref C) = Aa (.type "type") := by
 obtain⟨dd, cd, sl, bm, h1, h2⟩ := N6 q;show (K.lookup C).map _ = _;rw[h1];rfl
theorem Hd{v:An}{i i' : Am Ah}(q : CQ K C i = Ab)(q' : CQ K C' i' = Ab)(su : AF K (.ref C) (.ref C') = Aa v) : Ce K (.ref C) (.ref C') = Aa v := by
 unfold Ce;by_cases e : C = C'
 ·subst e;obtain⟨cd, bm, h1, h2⟩ := Jb q;have su' : Bk K C (.ref C) = Aa v := su;have : v = Ab := by
   unfold Bk at su';rw[h1, PN, h2, AE (by simp)]at su'
   rw[<-Bv su'];simp
  rw[AB (by simp), this]
 ·rw[AE (fun z => e (Ga (AM.mp z)))]
  obtain⟨cd, bm, h1, h2⟩ := Jb q';show (if ((Cn K C').isSome&&B0 K (.ref C')==Aa (.type "type")) = Ab then AF K (.ref C) (.ref C') else Af) = _
  rw[h1, Vh q', AB (by simp), su]
theorem KW(exc : CQ K C v = Ab)(ga : At K (.ref C) "__getattribute__" = Aa (Aa (.builtin "BaseException.__getattribute__")))(gt : At K (.ref C) "__getattr__" = Aa Af)(cl : At K (.ref C) "__class__" = Aa (Aa (.builtin "object.__class__")))(ob : Bk K C (.type "object") = Aa Ab)(be : AF K (.ref C) (.type "BaseException") = Aa Ab)(sv : AF K (.ref C) (.type "ValueError") = Aa Ab) : XcOk K C := by
 obtain⟨cd, bm, h1, h2⟩ := Jb exc;refine⟨⟨v, exc⟩, ga, gt, cl, ob, be, by rw[h1];rfl, ?_⟩
 unfold Ce;rw[AE (fun z => by cases AM.mp z)]
 have hm : Qs "ValueError" = Ab := by decide +kernel
 show (if Qs "ValueError" = Ab then AF K (.ref C) (.type "ValueError") else Af) = _
 rw[AB hm, sv]
noncomputable abbrev F9 : CXT := fun _ _ _ _ _ _ => AH
structure HotOk (P : AD) (w : AO) (K : Fg) (mg : Aj -> Am Ah) (base : Ax) (k : Ae) (f : Ai) (fd : Bi) (ps : Ac Aj) (sp : Sp) : Prop where
 len : ∀ vs H Q E, sp vs H Q E -> vs.length = ps.length
 run : ∀(A : AN)(ev : Ai)(outer : Ac BB)(s : Al)(H : Hp)(args : Args)(us : Ac Ah)(vs : Ac V)(Q : VK)(E : XK), Room k A -> Env0 P w K mg base (A.mark (Aa (.ref ev))) outer s H -> Ee s fd args (ps.zip us) -> AW vs us -> sp vs H Q E ->
  DM (model P w) (A.mark (Aa (.ref ev))) (.call (.ref f) args) (CR F9 outer P w H s Q E) s
theorem Vw{mg:Aj -> Am Ah}{base:Ax}{f : Ai}{params:HC}{dV kV doc pm cdv ct oc : Ah}{N ps : Ac Aj}(lk : K.lookup f = Aa ⟨oc, od, .func (BX name qual params body scope dV kV doc pm an cdv ct), osl⟩)(hcd : Da K cdv qual = Ab)(S : FnScope N ps scope)(len : ∀ vs H Q E, sp vs H Q E -> vs.length = ps.length)(hbody : ∀(A : AN)(ev : Ai)(outer : Ac BB)(s : Al)(H : Hp)(vs : Ac V)(Q : VK)(E : XK), Room k (A.deeper (C9 qual scope s.heap.objs.size f cdv)) -> sp vs H Q E ->
   ∃ t, PSs (Cx.hot (Db F9 P w K mg base N qual scope f cdv A outer s H E) ev) body t /\ t {nx := fun _ H' => Q .non H', rt := Q} (start N vs) H):HotOk P w K mg base (k+1) f (BX name qual params body scope dV kV doc pm an cdv ct) ps sp := by
 refine⟨len, fun A ev outer s H args us vs Q E hr e0 hb r hsp => ?_⟩
 have hl := len _ _ _ _ hsp;have e1 : Env0 P w K mg base A outer s H := ⟨e0.frames, e0.mod, e0.bs, e0.bsz, e0.funs, e0.frf, e0.hok, e0.bare⟩;have KX : K.In s.heap := e0.mod.kin.keeps fun b o e => (e0.bs b o e).1
 have lim : s.heap.NoLimit := e0.mod.nolimit.keeps fun b o e => (e0.bs b o e).1
 have hkind : ∀ y ∈ ps.zip us, scope.names.lookup y.1 = Aa .local \/ (scope.names.lookup y.1 = Aa .cell /\ ((BY (s.heap.objs.size+1) scope.names []).lookup y.1).isSome = Ab) := fun ⟨n, v⟩ hy => by
  rcases S.par n (Ek hy).1 with q|q
  ·exact .inl q
  ·exact .inr ⟨q, D2 _ _ _ (.inl q)⟩
 have hdp : (A.mark (Aa (.ref ev))).depth<EE := hr.depth;refine Eg hdp (KX _ _ lk) rfl S.co S.gen rfl (ET KX hcd) (hb _ _ _ _ ?_);refine Dl S.kind hkind fun env he s1 x => ?_
 subst he;refine⟨lim.keeps x.toInCall.keep, Gn ?_⟩;obtain⟨t, ht, hq⟩ := hbody A ev outer s H vs Q E (hr.deeper _) hsp;have I : Inv (Db F9 P w K mg base N qual scope f cdv A outer s H E) [] (start N vs) H s1 := JZ S hr.hd e1 hl r x;refine AV (ht [] s1 (start N vs) H _ (Kk I ev) hq) (fun fl s' hs => ?_) fun e s' hs => hs.elim
 have fin : ∀{σ' : L2.St}{H' : Hp}{v : V}{u : Ah}, Inv (Cx.hot (Db F9 P w K mg base N qual scope f cdv A outer s H E) ev) [] σ' H' s' -> A7 v u -> Q v H' -> CE outer P w H s Q u s':=
  fun {σ' H' v u} J rv q => ⟨v, H', J.os, J.bare, J.base, J.hok, rv, q⟩
 cases fl with
 |ret u=>
  obtain⟨v, σ', H', J, rv, q⟩ := hs;exact fin J rv q
 |next=>
  obtain⟨σ', H', J, q⟩ := hs;exact fin (v := V.non) (u := Cr) J rfl q
 |brk=>
  obtain⟨_, _, _, q⟩ := hs;exact AT q
 |cont=>
  obtain⟨_, _, _, q⟩ := hs;exact AT q
theorem FZ{v:An}{i : Am Ah}(q : CQ K C i = Ab)(mr : Bk K C' (.type "object") = Aa Ab)(ty : B0 K (.ref C') = Aa (.type "type"))(su : AF K (.ref C) (.ref C') = Aa v) : Ce K (.ref C) (.ref C') = Aa v := by
 unfold Ce;by_cases e : C = C'
 ·subst e;obtain⟨cd, bm, h1, h2⟩ := Jb q;have su' : Bk K C (.ref C) = Aa v := su;have : v = Ab := by
   unfold Bk at su';rw[h1, PN, h2, AE (by simp)]at su'
   rw[<-Bv su'];simp
  rw[AB (by simp), this]
 ·rw[AE (fun z => e (Ga (AM.mp z)))]
  show (if ((Cn K C').isSome&&B0 K (.ref C')==Aa (.type "type")) = Ab then AF K (.ref C) (.ref C') else Af) = _
  have cs : (Cn K C').isSome = Ab := by
   unfold Bk at mr;cases e1 : Cn K C' with
   |none => rw[e1]at mr;cases mr
   |some cd => rfl
  rw[cs, ty, AB (by simp), su]
noncomputable def spH(K : Fg)(CL : ClA)(n : Ae)(fr : An)(F : Ac D -> R D) : Sp := fun vs H Q _ => ∃(ds : Ac D)(A : Ai -> Prop), vs.length = n /\ AOk H A /\ Reps K CL H A vs ds /\ (match F ds with
  |.ok d => ∀ v H', Av H H' -> Cq K CL fr H A H' v d -> Q v H'
  |.exn _ => AH
  | .bad => AH)
section
variable{X : Cx}{CL : ClA}{ev : Ai}
theorem Mx{f : Ai}{E : XK}{e : Ao}{es : Ac Ao}{t : TA}(F : HotOk X.prog X.w X.K X.mg X.base k f fd ps sp)(hr : Room k X.A)(hg : Gl X x)(hm : X.mg x = Aa (.ref f))(hk : Bs X.K (.ref f) = Ab)(hb : DV X.K fd ps [])(ha : PA (Cx.hot X ev) (e::es) t)(hdb : (x==("__debug__" : Aj)) = Ad)(he : Ar (e::es) X.env = (Ad, eval e X.env)::Ar es X.env)(hpl : (By pos (Ar es X.env)).any (·.1) = Ad):PE (Cx.hot X ev) (.Call (.Name x p) (e::es) [] pos) (fun σ H Q =>t σ H fun vs H1 =>sp vs H1 Q E) := by
 intro pI s σ H Q I h;refine C2 (Gw (X := Cx.hot X ev) I hg hm ?_ hdb);refine ES (h₀ := X.base) I.ok.mod.kin hk (thn (ha pos pI s σ H _ I h) fun us s1 ⟨vs, H1, I1, r, q⟩ => ⟨I1.kIn, ?_⟩) he hpl
 have hl : us.length = ps.length := by rw[<-r.length];exact F.len _ _ _ _ q
 have hb' : Ee s1 fd ⟨us, []⟩ (ps.zip us) := by
  have := hb s1 us I1.kIn (by rw[BD];exact hl)
  rw[BD]at this;exact this
 refine Et (DF (F.run X.A ev X.stack s1 H1 ⟨us, []⟩ us vs Q E hr I1.env0 hb' r q) fun r s' hq => ?_)
 cases r with
 |error e => exact AT hq
 |ok fl=>
  cases fl with
  |ret u => exact I1.after hq
  |next => exact AT hq
  |brk => exact AT hq
  |cont => exact AT hq
theorem R9{n:Ae}{f : Ai}{e : Ao}{es : Ac Ao}{sh : Rho -> An}(G : HotOk X.prog X.w X.K X.mg X.base k f fd ps (spH X.K CL n fr F))(hr : Room k X.A)(hg : Gl X x)(hm : X.mg x = Aa (.ref f))(hk : Bs X.K (.ref f) = Ab)(hb : DV X.K fd ps [])(ha : SA (Cx.hot X ev) CL (fun _ _ => AH) (e::es) fs)(hat : SAT (Cx.hot X ev) CL (fun _ _ => AH) (e::es) ft)(hst : ∀ ρ, sh ρ = Ab -> ft ρ = fs ρ)(hn : ∀ ρ ds, ft ρ = .ok ds -> ds.length = n)(hdb : (x==("__debug__" : Aj)) = Ad)(he : Ar (e::es) X.env = (Ad, eval e X.env)::Ar es X.env)(hpl : ∀ pos, (By pos (Ar es X.env)).any (·.1) = Ad):SC (Cx.hot X ev) CL (fun _ _ =>AH) fr (.Call (.Name x p) (e::es) [] pos) (fun ρ =>(ft ρ).bind fun ds =>(F ds).bind fun d =>if sh ρ = Ab then .ok d else if DY fr d = Ab then .ok d else .bad) := fun A pI s σ H Q I ⟨hA, ρ, gd, q⟩ => by
 dsimp only at q;by_cases hs : sh ρ = Ab
 ·rw[hst ρ hs]at q;refine Mx (E := fun _ _ _ => AH) G hr hg hm hk hb (ha A) hdb he (hpl _) pI s σ H Q I ⟨hA, ρ, gd, ?_⟩
  cases e1 : fs ρ with
  |bad => rw[e1]at q;exact q
  |exn y => rw[e1]at q;exact q
  |ok ds=>
   rw[e1]at q;intro vs H1 s1 r1;refine⟨ds, A, by rw[r1.length];exact hn ρ ds (by rw[hst ρ hs];exact e1), hA.same s1, r1, ?_⟩
   have q' : AX (Cq X.K CL fr H A) (fun _ _ => AH) H ((F ds).bind fun d => if sh ρ = Ab then .ok d else if DY fr d = Ab then .ok d else .bad) Q := q
   cases e2 : F ds with
   |ok d=>
    rw[e2, R.bind_ok, AB hs]at q';exact fun v H2 s2 r2 => q' v H2 (s1.trans s2) ⟨r2.1, fun z ds' e' => let ⟨a, xs, z1, z2, z3⟩ := r2.2 z ds' e';⟨a, xs, z1, s1.free z2, z3⟩⟩
   |exn y => rw[e2]at q';exact(q' H (Av.refl H)).elim
   |bad => rw[e2]at q';exact q'.elim
 ·refine Mx (E := fun _ _ _ => AH) G hr hg hm hk hb (hat A) hdb he (hpl _) pI s σ H Q I ⟨hA, ρ, gd, ?_⟩
  cases e1 : ft ρ with
  |bad => rw[e1]at q;exact q
  |exn y => rw[e1]at q;exact q
  |ok ds=>
   rw[e1]at q;intro vs H1 s1 r1;refine⟨ds, A0, by rw[r1.plain.length];exact hn ρ ds e1, fun _ z => z.elim, r1.plain, ?_⟩
   have q' : AX (Cq X.K CL fr H A) (fun _ _ => AH) H ((F ds).bind fun d => if sh ρ = Ab then .ok d else if DY fr d = Ab then .ok d else .bad) Q := q
   cases e2 : F ds with
   |ok d=>
    rw[e2, R.bind_ok, AE hs]at q';split at q'
    ·rename_i hc;exact fun v H2 s2 r2 => q' v H2 (s1.trans s2) (KJ hA (s1.trans s2) hc ⟨r2.1, fun z ds' e' => let ⟨a, xs, z1, z2, z3⟩ := r2.2 z ds' e';⟨a, xs, z1, s1.free z2, z3⟩⟩)
    ·exact q'.elim
   |exn y => rw[e2]at q';exact(q' H (Av.refl H)).elim
   |bad => rw[e2]at q';exact q'.elim
theorem SJ{t : Ao}{xs ys:Ac A2}{fc:Rho -> R An}{fx fy:Rho -> O}(hc : ∀ pI Xw, DE (model X.prog X.w) X.A X.env Xw -> SB (Cx.pw X pI Xw) CL (fun _ _ => AH) t fc)(hnx : ∀ ρ y, fc ρ ≠ .exn y)(hx : STB X CL xs fx)(hy : STB X CL ys fy) : STB X CL [.If t xs ys pos] (fun ρ => O.of ρ (fc ρ) fun b => if b = Ab then fx ρ else fy ρ) := by
  intro Fz B pI s σ H D ρ Xw own I sx q hρ;dsimp only at q hρ;cases ec : fc ρ with
  |bad => rw[ec]at q;exact q.elim
  |exn y => exact absurd ec (hnx ρ y)
  |ok b=>
    rw[ec]at q hρ;have key := hc pI Xw own (Bg B ρ σ) [] s σ H (fun b' H' => b' = b /\ Av H H') (Ii I Xw) ⟨sx.aok, ρ, sx.good, by rw[ec];exact fun H' sm => ⟨rfl, sm⟩⟩
    refine Fm (thn (wpAny_If (Q := SP X pI D) (thn key fun b' s1 ⟨H1, I1, e, sm⟩ => ?_)) (fun f s1 z => by
      cases f with
      |next => exact Dx z
      |ret v => exact z
      |brk => exact z
      | cont => exact z))
    subst e;have J := Hh I.ok I1;have up : ∀{y : Ex}, Hu X CL pI σ H y Xw -> Hu X CL pI σ H1 y Xw := fun {y} w s' H' e T cls dx a1 a2 => w s' H' e T cls dx a1 (sm.trans a2)
    have lift : ∀{o : O}, (match o with
       |.exn y ρ' => ρ' = ρ -> Hu X CL pI σ H y Xw
       |o => Bq X.K CL Fz B (fun _ _ => AH) o D) -> (match o with
       |.exn y ρ' => ρ' = ρ -> Hu X CL pI σ H1 y Xw
       | o => Bq X.K CL Fz B (fun _ _ => AH) o D) := fun {o} z => by
      cases o with
      |exn y ρ' => exact fun e => up (z e)
      |next _ => exact z
      |ret _ _ => exact z
      |brk _ => exact z
      |cont _ => exact z
      |bad => exact z
    cases b' with
    |true => exact hx Fz B pI s1 σ H1 D ρ Xw own J (sx.grow sm) (lift q) hρ
    |false => exact hy Fz B pI s1 σ H1 D ρ Xw own J (sx.grow sm) (lift q) hρ
end
section
variable{M : EO}{A : AN}{E : Ah -> Al -> Prop}{s : Al}{env : BB}{nm q : Aj}{C N : Ai}{bs bm bmB : Ac Ah}{hdct : An}{sn : Ac Aj}{sub : Ac Ah}{ab : An}{col : Am An}{dd : Am Ai}{k0 k1 k2 k3 k5 : Am Ah}{B newId initId : Cv}
theorem TL{x:Sem Ah}{Q:Flow -> Al -> Prop}(hb : bm.contains (.type "BaseException") = Ab)(hh : A.handled = Af)(h : Au M A x (fun v s' => ∃ e t dx, v = .ref e /\ s'.heap.get? C = Aa (Bx nm q C N bs bm hdct sn sub ab col dd k0 k1 k2 k3 k5 newId) /\ s'.heap.get? e = Aa (D8 C dx t) /\ E (.ref e) s') E s) : Au M A (raiseStmt env (Aa x) Af) Q E s := by
 have hB : (BF C::bm).contains (.type "BaseException") = Ab := by rw[EQ, hb, Gc]
 unfold raiseStmt;refine Ap (AV h (fun v s' z => ?_) fun _ _ z => z)
 obtain⟨e, t, dx, rfl, gC, ge, hE⟩ := z;obtain⟨hp, g, d, tk, os⟩ := s';unfold D8 at ge
 repeat (first|(with_reducible refine Bm ge ?_)|(with_reducible refine Bm gC ?_)|(with_reducible refine Dp gC ?_;rw[hB])|wp_step)
 exact wpAny_raiseNew_none hh hE
end
section
variable{prog : AD}{w : AO}{A : AN}{E : Ah -> Al -> Prop}{h : Ax}{g : A5 DD}{d : FA}{t : Ae}{os : E9}
variable{nm q : Aj}{C N fI : Ai}{bs bm bmB : Ac Ah}{hdct : An}{sn : Ac Aj}{sub : Ac Ah}{ab : An}{col : Am An}{dd : Am Ai}{k0 k1 k2 k3 k5 : Am Ah}{B newId initId : Cv}{mN : Aj -> Am Ah}{rest : Ac Ah}{oI : AC}
theorem SN{Q:Fin -> Al -> Prop}(F : Fh B newId initId bmB)(T : CK h bmB bm)(gC : h.get? C = Aa (Bx nm q C N bs bm hdct sn sub ab col dd k0 k1 k2 k3 k5 newId))(hn : h.Ns N mN)(hi : mN "__init__" = Aa (.ref fI))(gI : h.get? fI = Aa oI)(cI : oI.cls = .type "function")(hl : rest.length <= sizeLine)(hq : ∀ h' e, FO h h' e (.ref C) rest -> Au (model prog w) A (call (.ref fI) (.ref e::rest)) (fun r s' => r = .none /\ Q (.done (.ret (.ref e))) s') E ⟨h', g, d, t, os⟩) : Au (model prog w) A (Builtin.«type.__call__» ⟨.ref C::rest, []⟩) Q E ⟨h, g, d, t, os⟩ := by
 repeat (first|(with_reducible refine Bm gC ?_)|(with_reducible refine wpAny_madeBy_exc gC ?_)|wp_step)
 refine codeAny_call_builtin_code (ER _ F.quiet) (wpAny_check_new_subT F T gC (codeAny_exc_new_subT F T gC ?_ hl));show Au _ _ _ _ _ _;have kp : ∀ b o, h.get? b = Aa o -> ((h.push { cls := .type "tuple", data := .seq rest.toArray }).push {cls := .ref C, data := .fields #[.ref h.objs.size, .none, .none, .none, .bool Ad, .none]}).get? b = Aa o := fun b o z => As _ (As _ z)
 have ge : ((h.push { cls := .type "tuple", data := .seq rest.toArray }).push {cls := .ref C, data := .fields #[.ref h.objs.size, .none, .none, .none, .bool Ad, .none]}).get? (h.objs.size+1) = Aa {cls := .ref C, data := .fields #[.ref h.objs.size, .none, .none, .none, .bool Ad, .none]} := by heap_get
 have gt : ((h.push { cls := .type "tuple", data := .seq rest.toArray }).push {cls := .ref C, data := .fields #[.ref h.objs.size, .none, .none, .none, .bool Ad, .none]}).get? h.objs.size = Aa { cls := .type "tuple", data := .seq rest.toArray } := As _ (Qc rfl rfl);generalize (h.push { cls := .type "tuple", data := .seq rest.toArray }).push {cls := .ref C, data := .fields #[.ref h.objs.size, .none, .none, .none, .bool Ad, .none]} = h2 at *;have gC2 := kp _ _ gC;have gI2 := kp _ _ gI;have hn2 : h2.Ns N mN := let ⟨o, es, ep, z, r⟩ := hn;⟨o, es, ep, kp _ _ z, r⟩
 have T2 := T.keeps (h' := h2) kp;have cC : (BF C::bm).contains (.ref C) = Ab := by simp
 unfold FY
 repeat (first|(with_reducible refine Bm ge ?_)|(with_reducible refine Dp gC2 ?_;rw[cC])|wp_step)
 show Au _ _ (typeLookup (.ref C) _) _ _ _;refine wpAny_typeLookup_tail gC2 hn2 T2 F.mroIs F.init.lookup ?_;rw[hi];refine CC (Ap ?_);unfold bindSpecial;refine Ap (wpAny_typeOf (T := "function") ⟨_, gI2, cI⟩ ?_);rw[AB (by decide)]
 refine AS (Ap (AV (hq h2 (h.objs.size+1) ⟨kp, Ci (PD _), h.objs.size, ge, Ci (AL _), gt⟩) (fun r s' z => ?_) fun _ _ z => z))
 obtain⟨rfl, z⟩ := z
 wp_walk
 exact z
theorem SQ{Q:Ah -> Al -> Prop}(F : Fh B newId initId bmB)(T : CK h bmB bm)(gC : h.get? C = Aa (Bx nm q C N bs bm hdct sn sub ab col dd k0 k1 k2 k3 k5 newId))(hn : h.Ns N mN)(hi : mN "__init__" = Aa (.ref fI))(gI : h.get? fI = Aa oI)(cI : oI.cls = .type "function")(hl : rest.length <= sizeLine)(hq : ∀ h' e, FO h h' e (.ref C) rest -> Au (model prog w) (A.under (.builtin "type.__call__" ⟨.ref C::rest, []⟩)) (call (.ref fI) (.ref e::rest)) (fun r s' => r = .none /\ Q (.ref e) s') E ⟨h', g, d, t, os⟩) : Au (model prog w) A (call (.ref C) rest) Q E ⟨h, g, d, t, os⟩ := by
 have l1 := tc_lookup;have l2 := tc_bind (.ref C);have ty : (⟨h, g, d, t, os⟩ : Al).TypeIs (.ref C) "type" := ⟨_, gC, rfl⟩;refine Et (codeAny_of_tree ?_);show Au _ _ (callAny (.ref C) _) _ _ _
 repeat (any_goals (first|assumption|(with_reducible refine Bm gC ?_)|wp_step))
 refine⟨rfl, codeAny_call_builtin_at (ER _ (by decide +kernel)) entry_typeCall (wpAny_check_type_call_sub gC (SN F T gC hn hi gI cI hl fun h' e m => ?_))⟩
 exact hq h' e m
end
section
variable{prog : AD}{w : AO}{A : AN}{E : Ah -> Al -> Prop}{s : Al}{env : BB}
variable{nm q : Aj}{C N fI : Ai}{bs bm bmB : Ac Ah}{hdct : An}{sn : Ac Aj}{sub : Ac Ah}{ab : An}{col : Am An}{dd : Am Ai}{k0 k1 k2 k3 k5 : Am Ah}{B newId initId : Cv}{mN : Aj -> Am Ah}
theorem Ro{Q:Flow -> Al -> Prop}{args:Ac Ao}(F : Fh B newId initId bmB)(hb : bm.contains (.type "BaseException") = Ab)(hh : A.handled = Af)(hp : (By cpos (Ar args env)).any (·.1) = Ad)(hi : mN "__init__" = Aa (.ref fI))(h : Au (model prog w) A (eval (.Name x np) env) (fun f s1 => f = .ref C /\ Au (model prog w) A (evalArgs (.ref C) Ab (By cpos (Ar args env)) [])
   (fun a s2 => a.kw = [] /\ a.pos.length <= sizeLine /\ s2.heap.get? C = Aa (Bx nm q C N bs bm hdct sn sub ab col dd k0 k1 k2 k3 k5 newId) /\ s2.heap.Ns N mN /\ CK s2.heap bmB bm /\ (∃ oI, s2.heap.get? fI = Aa oI /\ oI.cls = .type "function") /\
    ∀ h' e, FO s2.heap h' e (.ref C) a.pos -> Au (model prog w) (A.under (.builtin "type.__call__" ⟨.ref C::a.pos, []⟩)) (call (.ref fI) (.ref e::a.pos)) (fun r s' => r = .none /\ ∃ t dx, s'.heap.get? C = Aa (Bx nm q C N bs bm hdct sn sub ab col dd k0 k1 k2 k3 k5 newId) /\ s'.heap.get? e = Aa (D8 C dx t) /\ E (.ref e) s') E {s2 with heap := h'}) E s1) E s):Au (model prog w) A (exec (.Raise (Aa (.Call (.Name x np) args [] cpos)) Af pos) env) Q E s := by
 rw[arm_exec_Raise]
 try simp only[evalOpt, Option.map]
 refine Ap (CU (TL (nm := nm) (q := q) (C := C) (N := N) (bs := bs) (bm := bm) (hdct := hdct) (sn := sn) (sub := sub) (ab := ab) (col := col) (dd := dd) (k0 := k0) (k1 := k1) (k2 := k2) (k3 := k3) (k5 := k5) (newId := newId) hb hh ?_));refine Ap (AV (wpAny_Call_ofName (AV h (fun f s1 z => ?_) fun _ _ z => z)) (fun v s3 z => Ap (CU (AS z))) fun _ _ z => z)
 obtain⟨rfl, z⟩ := z;unfold callWith;refine Ap (CC (AV z (fun a s2 y => Ap (CU ?_)) fun _ _ y => y))
 obtain⟨us, kw⟩ := a;obtain⟨hk, hl, gC, hn, T, ⟨oI, gI, cI⟩, k⟩ := y;obtain rfl : kw = [] := hk;obtain⟨hp2, g, d, tk, os⟩ := s2;simp only[hp];refine Ap (wpAny_keeperOf_exc gC (Ap (SQ F T gC hn hi gI cI hl fun h' e m => AV (k h' e m) (fun r s' y => ?_) fun _ _ y => y)))
 obtain⟨rfl, t, dx, c1, c2, c3⟩ := y;exact⟨rfl, Ap (CC (wpAny_point (AS ⟨e, t, dx, rfl, c1, c2, c3⟩)))⟩
end
section
variable{prog : AD}{w : AO}{A : AN}{E : Ah -> Al -> Prop}{h : Ax}{g : A5 DD}{d : FA}{tk0 : Ae}{os : E9}
variable{nm q : Aj}{C N e t : Ai}{dx : Am Ai}{bs bm bmB : Ac Ah}{hdct : An}{sn : Ac Aj}{sub : Ac Ah}{ab : An}{col : Am An}{dd : Am Ai}{k0 k1 k2 k3 k5 : Am Ah}{B newId initId : Cv}
theorem U1{Q:Ah -> Al -> Prop}(F : Fh B newId initId bmB)(T : CK h bmB bm)(gC : h.get? C = Aa (Bx nm q C N bs bm hdct sn sub ab col dd k0 k1 k2 k3 k5 newId))(ge : h.get? e = Aa (D8 C dx t))(hq : ∀ h' t', (∀ b o, b ≠ e -> h.get? b = Aa o -> h'.get? b = Aa o) -> h'.get? e = Aa (D8 C dx t') -> Q .none ⟨h', g, d, tk0, os⟩) : Au (model prog w) A (call (.builtin initId) [.ref e, .str z tk]) Q E ⟨h, g, d, tk0, os⟩ := by
 refine Et (CH F.init.plain F.initEntry (wpAny_check_init_subT F T gC ge rfl ?_));unfold D8 at ge
 wp_walk
 refine hq _ h.objs.size (fun b o nb z => (BM _ _ (CJ nb)).trans (As _ z)) ?_
 rw[Cd _ (As _ ge) rfl];rfl
end
noncomputable def xbd : Ae -> Ae
 |0 => 4
 |n+1 => 8*xbd n+19
theorem Uc : ∀ n : Fin 100, (CP (toString ((n.val : Ae) : Ag))).length <= 4 := by decide +kernel
theorem Nr{α : Type}(f : α -> Ae){m : Ae} : ∀ l : Ac α, (∀ x ∈ l, f x <= m) -> (l.map f).sum <= l.length*m
 |[], _ => by simp
 |x::l, h => by
  have h1 := h x AI;have h2 := Nr f l fun y hy => h y (Az _ hy)
  rw[Cm, List.sum_cons, BW, Nat.succ_mul];omega
section
variable{X : Cx}{CL : ClA}{pI : Ac (Ai × AC)}{σ : L2.St}{H : Hp}{s : Al}
structure Shw (h : Ax) (n : Ae) (u : Ah) (pd : G0) : Prop where
 rd : Reads h u pd []
 sh : pd.showable = Ab
 nd : pd.hasDict = Ad
 dp : pd.depth <= n
 ln : pd.shown.length <= xbd n
inductive ShwA (h : Ax) (n : Ae) : Ac Ah -> Ac G0 -> Prop where
 |nil : ShwA h n [] []
 |cons {u : Ah} {pd : G0} {us : Ac Ah} {pds : Ac G0} : Shw h n u pd -> ShwA h n us pds -> ShwA h n (u::us) (pd::pds)
theorem MR{h : Ax}{n : Ae} : ∀{us : Ac Ah}{pds : Ac G0}, ShwA h n us pds -> ReadsAll h us pds [] /\ Qh pds = Ab /\ Qg pds = Ad /\ FB pds <= n /\ (∀ t ∈ Cz pds, t.length <= xbd n) /\ (Cz pds).length = us.length
 |[], [], _ => ⟨.nil, rfl, rfl, EN _, (fun _ h => nomatch h), rfl⟩
 |u::us, pd::pds, .cons h1 h2 => by
  obtain⟨a, b, c, d, e, f⟩ := MR h2;refine⟨.cons h1.rd a, ?_, ?_, ?_, ?_, ?_⟩
  ·show (pd.showable&&Qh pds) = Ab;rw[h1.sh, b];rfl
  ·show (pd.hasDict||Qg pds) = Ad;rw[h1.nd, c];rfl
  ·show max pd.depth (FB pds) <= n;exact Nat.max_le.mpr ⟨h1.dp, d⟩
  ·intro t ht;rcases AY.mp ht with rfl|ht
   ·exact h1.ln
   ·exact e t ht
  ·show (Cz pds).length+1 = us.length+1;rw[f]
theorem Od(I : Inv X pI σ H s){A : Ai -> Prop} : ∀(n : Ae){d : D}{v : V}{u : Ah}, xfD n d = Ab -> Rep X.K CL H A v d -> A7 v u -> ∃ pd, Shw s.heap n u pd
 |0, .int i, v, u, hx, r, rv => by
  have e : v = .int i := r;subst e;obtain⟨t, rfl⟩ := rv;simp only[xfD, Ak, AK]at hx;refine⟨.int i, .int i t, ?_, rfl, AL _, ?_⟩
  ·show decide (i.natAbs.log2<1920) = Ab;refine FU (PF (Nat.log2_le_self _) (by omega))
  ·have := Uc ⟨i.toNat, by omega⟩
   rw[show ((i.toNat : Ae) : Ag) = i by omega]at this
   exact this
 |n+1, .tup ds, v, u, hx, r, rv => by
  obtain⟨a, xs, rfl, _, sq, rs⟩ := r;cases rv;obtain⟨its, vs, ⟨o, ho, hc, m, hd⟩, hz⟩ := I.tuple sq;simp only[xfD, Ak, CM]at hx;have key : ∀{xs : Ac V}{ds : Ac D}{its : Ac Ah}, (∀ d ∈ ds, xfD n d = Ab) -> Reps X.K CL H A xs ds -> AW xs its -> ∃ pds, ShwA s.heap n its pds := fun {xs} => by
   induction xs with
   |nil=>
    intro ds its _ rs vs;cases vs;exact⟨[], .nil⟩
   |cons x xs ih=>
    intro ds its hd rs vs;cases ds with
    |nil => exact rs.elim
    |cons d ds=>
     cases vs with
     |cons v1 v2=>
      obtain⟨pd, h1⟩ := Od I n (hd d AI) rs.1 v1;obtain⟨pds, h2⟩ := ih (fun e he => hd e (Az _ he)) rs.2 v2
      exact⟨pd::pds, .cons h1 h2⟩
  obtain⟨pds, hf⟩ := key hx.2 rs vs;obtain⟨p1, p2, p3, p4, p5, p6⟩ := MR hf;have l8 : its.length <= 8 := by
   have h8 := Nat.ble_eq.mp hx.1;rw[<-vs.length, rs.length];exact h8
  refine⟨.tuple pds, .tuple ho hc hd (by simpa using p1), p2, p3, ?_, ?_⟩
  ·show FB pds+1 <= n+1;omega
  ·show (tupleText (Cz pds)).length <= 8*xbd n+19;have h1 := tupleText_len_le (Cz pds);have h2 := Nr (fun t : Aj => t.length) (Cz pds) p5
   have h3 : (Cz pds).length*xbd n <= 8*xbd n := Nat.mul_le_mul_right _ (by omega)
   omega
end
section
variable{X : Cx}{CL : ClA}
noncomputable def tFs(K : Fg)(CL : ClA)(i : Ae) : TE := fun σ H Q => ∃ v d A n, σ[i]? = Aa (Aa v) /\ Rep K CL H A v d /\ xfD (n+1) d = Ab /\ n <= 1 /\ ∀ t : Aj, Q (.str t) H
theorem Td{e : Ao}{i : Ae}{p1 p2 p3:AJ}(hu : X.A.units+64<Bo)(hg : X.A.guards = Aa [])(hz : z.length <= 1000)(he : PE X e (EK i)) : PE X (.JoinedStr [.FormattedValue e (-1) Af p1, .Constant (.str z) k p2] p3) (tFs X.K CL i) := by
 intro pI s σ H Q I ⟨v, d, A, n, hv, r, hx, hn, q⟩;refine wpAny_JoinedStr ?_;show Au (model X.prog X.w) X.A (eval (.FormattedValue e (-1) Af p1) X.env) (fun v s1 => ∃ y t, v = .str y t /\ (Gm++y).length <= sizeLine /\ Joins (model X.prog X.w) X.A X.xe [eval (.Constant (.str z) k p2) X.env] (Gm++y) _ s1) X.xe s
 refine wpAny_FormattedValue_plain (thn (he pI s σ H (fun x H1 => x = v /\ H1 = H) I ⟨v, hv, rfl, rfl⟩) fun u s1 ⟨x, H1, I1, r1, e1, e2⟩ => ?_)
 subst e1 e2;have zl : sizeLine ≥ 2000 := by decide
 obtain⟨pd, sw⟩ := Od I1 (n+1) hx r r1;cases d with
 |tup ds=>
  obtain⟨a, xs, rfl, _, sq, rs⟩ := r;cases r1;have xb : xbd (n+1) <= 500 := by
   have : n = 0 \/ n = 1 := by omega
   rcases this with rfl|rfl <;> decide
  have ln := sw.ln;have dp := sw.dp;refine formatField_of_reads sw.rd sw.sh (fun z => by rw[sw.nd]at z;cases z) hg (by omega) (fun _ _ z => z) (fun h' tk1 tk2 kp => ?_) (by omega)
  have l0 : (Gm++pd.shown).length <= 500 := by
   rw[strLen_append];have : Str.empty.length = 0 := rfl;omega
  refine⟨pd.shown, tk1, rfl, by omega, ?_⟩
  have I2 : Inv X pI σ H1 {s1 with heap := h', toks := tk2} := I1.kept kp
  show Au (model X.prog X.w) X.A (eval (.Constant (.str z) k p2) X.env) _ X.xe {s1 with heap := h', toks := tk2}
  refine thn (NV (X := X) pI _ σ H1 (fun x H2 => x = .str z /\ H2 = H1) I2 ⟨rfl, rfl⟩) fun u2 s2 ⟨x2, H2, I3, r3, e3, e4⟩ => ?_
  subst e3 e4;obtain⟨t3, rfl⟩ := r3;have l1 : (Gm++pd.shown++z).length <= sizeLine := by
   rw[strLen_append];omega
  exact⟨z, t3, rfl, l1, l1, ⟨.str _, H2, I3.tok _, ⟨_, rfl⟩, q _⟩⟩
 |_ => cases hx
end
noncomputable def XEx(e C : Ai)(dx : Am Ai)(t : Ai) : Ax -> Prop := fun h => h.get? e = Aa (D8 C dx t)
theorem KG{e C : Ai}{dx:Am Ai}{t : Ai} : ∀ h1 h2 : Ax, XEx e C dx t h1 -> (∀ o, h1.get? e = Aa o -> h2.get? e = Aa o) -> XEx e C dx t h2 := fun _ _ p k => k _ p
section
variable{X : Cx}{CL : ClA}{C : Ai}{nm q : Aj}{N : Ai}{bs bm : Ac Ah}{hdct : An}{sn : Ac Aj}{sub : Ac Ah}{ab : An}{col : Am An}{dd : Am Ai}{k0 k1 k2 k3 k5 : Am Ah}
theorem Sq{apos:AJ}{es ej : Ao}{i j : Ae}(hob : ∀ h : Ax, X.K.In h -> h.get? C = Aa (Bx nm q C N bs bm hdct sn sub ab col dd k0 k1 k2 k3 k5 "ValueError.__new__") /\ CK h veB bm)(hg : Gl X g)(hm : X.mg g = Aa (.ref OV))(hdb : (g==("__debug__" : Aj)) = Ad)(s1 : C8 X.K (.ref OV) "__getattribute__" = Aa (Aa (.builtin "type.__getattribute__")))(s2 : Dw X.K OV (.type "type") = Ab)(s3 : Dv X.K (.ref OV) (.type "type") "__init__" = Aa (.val (.builtin "ValueError.__init__")))(hline : (apos.endLine==cpos.line) = Ab)(he : PE X es (EK i))(hj : PE X ej (tFs X.K CL j))(sA : Ar [es, ej] X.env = (Ad, eval es X.env)::Ar [ej] X.env)(sB : Ar [ej] X.env = [(Ad, eval ej X.env)]):
  PE X (.Call (.Attribute (.Name g np) "__init__" apos) [es, ej] [] cpos) (fun σ H Q => ∃ e dx t v d A n, σ[i]? = Aa (Aa (.ref e)) /\ H e = Aa (.ext (XEx e C dx t)) /\ σ[j]? = Aa (Aa v) /\ Rep X.K CL H A v d /\ xfD (n+1) d = Ab /\ n <= 1 /\ ∀ t', Q .non (upd H e (.ext (XEx e C dx t')))) := by
 have st1 : Ar [es, ej] X.env = [(Ad, eval es X.env), (Ad, eval ej X.env)] := by rw[sA, sB]
 intro pI s σ H Q I ⟨e, dx, t, v, d, A, n, h1, h2, h3, r, hx, hn, hq⟩;rw[arm_eval_Call];refine Ap (show Au (model X.prog X.w) X.A (eval (.Name g np) X.env) _ X.xe s from Gw I hg hm ?_ hdb)
 refine Ap (CU ?_);have form : methodCallForm ([es, ej].length+([] : Ac Keyword).length) (By cpos (Ar [es, ej] X.env)) (backToKw cpos (keywordEach [] X.env)) = Ab := by
  rw[st1];rfl
 have mpos : methodCallPos Ab (.Name g np) X.env apos cpos = pure cpos := by
  unfold methodCallPos;simp[hline]
 unfold methodCall;rw[form];refine Ap (CC (PySem.W.method_cls I.kIn s1 (PySem.W.cls_value I.kIn s2 s3 rfl ?_)));refine Ap (wpAny_of_eq mpos ?_);have I1 := I.tok (s.toks+1);have pa : PA X [es, ej] _ := DR he (DR hj FG sB) sA;have hA := pa cpos pI {s with toks := s.toks+1} σ H (fun xs H' => H' = H /\ ∃ z, xs = [.ref e, .str z]) I1 ⟨_, h1, ⟨v, d, A, n, h3, r, hx, hn, fun z => ⟨rfl, z, rfl⟩⟩⟩
 rw[st1]at hA ⊢;refine Calls.callWith_builtin rfl (Eo (thn hA fun us s2 ⟨xs, H2, I2, rv, e2, z, ex⟩ => ?_))
 subst e2 ex;obtain⟨u1, u2, rfl, ru1, ru2⟩ := Hr rv;cases ru1;obtain⟨tk, rfl⟩ := ru2;obtain⟨gC, T⟩ := hob _ I2.kIn;have ge : XEx e C dx t s2.heap := (I2.hok e _ h2).1;obtain⟨hp, g2, d2, tk2, os2⟩ := s2;refine U1 Dk T gC ge fun h' t' kp ge' => ?_
 refine⟨.non, _, I2.write (x := e) (e := e) (o := .ext (XEx e C dx t')) (t' := tk2) (by rw[h2];exact trivial) (.inl rfl) kp ⟨_, ge'⟩ ⟨ge', ⟨_, ge'⟩, KG⟩, rfl, hq t'⟩
end
theorem QO{bmB bm:Ac Ah}(T : CK h bmB bm){self:Ah}{what:Aj}(hb : refuseLoop self what bmB = pure ()) : refuseLoop self what bm = pure () := by
 induction T with
 |base => exact hb
 |own _ _ _ _ ih => rw[Qx];exact ih
section
variable{prog : AD}{w : AO}{A : AN}{E : Ah -> Al -> Prop}{h : Ax}{g : A5 DD}{d : FA}{tk0 : Ae}{os : E9}{K : Fg}
variable{nm q : Aj}{C N e t : Ai}{bs bm bmB : Ac Ah}{sn : Ac Aj}{sub : Ac Ah}{ab : An}{col : Am An}{dd : Am Ai}{k0 k1 k2 k3 k5 : Am Ah}{B newId sa owner : Cv}
theorem SU{Q:Fin -> Al -> Prop}{v:Ah}(X : K.In h)(SF : G2 B bmB sa owner)(T : CK h bmB bm)(gC : h.get? C = Aa (Bx nm q C N bs bm Ab sn sub ab col dd k0 k1 k2 k3 k5 newId))(hf : At K (.ref C) name = Aa Af)(ge : h.get? e = Aa (D8 C Af t))(hq : ∀ h' dx tk', (∀ b o, b ≠ e -> h.get? b = Aa o -> h'.get? b = Aa o) -> h'.get? e = Aa (D8 C (Aa dx) t) -> h.get? dx = Af -> h'.Ns1 dx (fun y => if y = name then Aa v else Af) -> Q (.done (.ret .none)) ⟨h', g, d, tk', os⟩):Au (model prog w) A (Builtin.«object.__setattr__» ⟨[.ref e,.str name tk,v],[]⟩) Q E ⟨h,g,d,tk0,os⟩ := by
 have pass := QO T (SF.passes (.ref e));have L1 := BH (M := model prog w) X hf;obtain⟨o, ho⟩ : ∃ o, D8 C Af t = o := ⟨_, rfl⟩;rw[ho]at ge;have oc : o.cls = .ref C := by rw[<-ho];rfl
 unfold Builtin.«object.__setattr__»
 repeat (first|rw[refuse_eq]|(rw[Qx, pass])|(with_reducible refine Bm ge ?_;rw[oc])|(with_reducible refine wpAny_mroOf_exc gC ?_)|(with_reducible refine L1.at ?_)|(with_reducible refine Ap (L1.at ?_))|wp_step)
 have od : o.dict = Af := by rw[<-ho];rfl
 have odt : o.data = .fields #[.ref t, .none, .none, .none, .bool Ad, .none] := by rw[<-ho];rfl
 rw[od, odt, AE (by simp[typeHasDict])]
 let D : AC := { cls := .type "dict", data := .dict #[] }
 have g1 : (h.push D).get? e = Aa o := As _ ge;have ne : e ≠ h.objs.size := Bl (AA ge);refine Ap (wpAny_alloc' ?_);refine Ap (wpAny_update' g1 ?_);refine AS ?_
 let U : AC -> AC := fun o => {cls := o.cls, dict := Aa h.objs.size, data := o.data, slots := o.slots}
 have gD : ((h.push D).update e U).get? h.objs.size = Aa D := (Qd _ _ _ _ ne.symm).trans (Qc rfl rfl);have nD : ((h.push D).update e U).Ns h.objs.size (fun _ => Af) := ⟨_, #[], _, gD, rfl, fun z hz => absurd hz (by simp), fun _ => rfl⟩
 change Au _ _ (P1 h.objs.size (.str name tk) name v) _ _ _;unfold P1 Builtin.ObjectAttr.newKeyGuard;refine Ap (AS (Ap (wpAny_nsSet1 (Heap.Ns1.of_empty nD) fun k hk hs => ?_)))
 obtain⟨oD, eD, pD, q1, q2, q3⟩ := hk.count (Within.cons name v Within.nil);have le : oD.data.pastItsLine = Af := by
  rw[q2];refine pastItsLine_dict (BJ q3 ?_);rw[BW, List.length_nil, Ct];omega
 refine Ap (wpAny_lookBehind q1 le ?_)
 wp_walk
 refine hq k h.objs.size _ (fun b ob nb hb => ?_) ?_ (Ci (AL _)) hk
 ·rw[hs.2 b (Bl (AA hb)), Qd _ _ _ _ nb];exact As _ hb
 ·rw[hs.2 e ne];have : Aa (D8 C (Aa h.objs.size) t) = Aa (U o) := by rw[<-ho];rfl
  rw[this];exact Cd _ g1 (by rw[<-ho];rfl)
end
section
variable{prog : AD}{w : AO}{A : AN}{E : Ah -> Al -> Prop}{h : Ax}{g : A5 DD}{d : FA}{tk0 : Ae}{os : E9}{K : Fg}
variable{nm q : Aj}{C N e t : Ai}{bs bm bmB : Ac Ah}{sn : Ac Aj}{sub : Ac Ah}{ab : An}{col : Am An}{dd : Am Ai}{k0 k1 k2 k3 k5 : Am Ah}{B newId sa owner : Cv}
theorem SV{o : AC}{a b : Ah}(SF : G2 B bmB sa owner)(T : CK h bmB bm)(gC : h.get? C = Aa (Bx nm q C N bs bm Ab sn sub ab col dd k0 k1 k2 k3 k5 newId))(ge : h.get? e = Aa o)(hc : o.cls = .ref C)(hq : Q () ⟨h, g, d, tk0, os⟩) : Au M A (D5 sa ⟨[.ref e, a, b], []⟩) Q E ⟨h, g, d, tk0, os⟩ := by
 have hb : (BF C::bm).contains (.type owner) = Ab := by rw[EQ, T.hasType SF.hasOwner, Gc]
 have ha := SF.args (.ref e) a b;simp only[D5, SF.kind, SF.split];refine Ap ?_;unfold FY
 repeat (first|(with_reducible refine Bm ge ?_;rw[hc])|(with_reducible refine Dp gC ?_;rw[hb])|wp_step)
 unfold argsOk at ha;split
 ·rename_i sig hs;rw[hs]at ha;refine wpAny_of_eq ha ?_;exact hq
 ·exact AS hq
theorem T7{v:Ah}(X : K.In h)(SF : G2 B bmB sa owner)(T : CK h bmB bm)(gC : h.get? C = Aa (Bx nm q C N bs bm Ab sn sub ab col dd k0 k1 k2 k3 k5 newId))(hf : At K (.ref C) name = Aa Af)(hs : At K (.ref C) "__setattr__" = Aa (Aa (.builtin sa)))(ge : h.get? e = Aa (D8 C Af t))(hq : ∀ h' dx tk', (∀ b o, b ≠ e -> h.get? b = Aa o -> h'.get? b = Aa o) -> h'.get? e = Aa (D8 C (Aa dx) t) -> h.get? dx = Af -> h'.Ns1 dx (fun y => if y = name then Aa v else Af) -> Q () ⟨h', g, d, tk', os⟩) : Au (model prog w) A (setAttr (.ref e) name v) Q E ⟨h, g, d, tk0, os⟩ := by
 have f3 := SF.slot.bind (.ref e);have L1 := BH (M := model prog w) X hs;obtain⟨o, ho⟩ : ∃ o, D8 C Af t = o := ⟨_, rfl⟩;have oc : o.cls = .ref C := by rw[<-ho];rfl
 have ge' := ge;rw[ho]at ge';unfold setAttr callSpecial? specialOf
 repeat (any_goals (first|assumption|(with_reducible refine Bm ge' ?_;rw[oc])|(with_reducible refine Ap (L1.at ?_))|(with_reducible refine L1.at ?_)|wp_step))
 refine CH SF.slot.plain SF.entry (SV SF T gC ge' oc (SU X SF T gC hf ge fun h' dx tk' k1 k2 k3 k4 => ?_))
 repeat (any_goals (first|assumption|wp_step))
 exact hq h' dx tk' k1 k2 k3 k4
end
section
variable{X : Cx}{pI : Ac (Ai × AC)}{σ : L2.St}{H : Hp}{s : Al}{e : Ai}
theorem Nm{o : HO}(I : Inv X pI σ H s)(ha : F4 X pI e)(hH : H e = Af)(ho : ObjOk X.prog X.w (upd H e o) s.heap e o) : Inv X pI σ (upd H e o) s := by
 have ne : ∀ b o, H b = Aa o -> b ≠ e := fun b o q z => by rw[z, hH]at q;cases q
 refine⟨I.ok, I.os, I.bare, ⟨I.base.keep, I.base.slot, fun b o q n hb => ?_, I.base.there, fun b xs q => ?_, fun b o u q => ?_, fun b ps q => ?_⟩, I.loc, I.cell, ?_, fun x c q => ?_, fun p hp => ?_, fun b o q => ?_, I.len⟩
 ·rw[A8 fun z => by rw[z, ha.2.2.2]at q;cases q]
  exact I.base.free b o q n hb
 ·have := I.base.tups b xs q;rw[A8 (ne _ _ this)];exact this
 ·have := I.base.frzs b o u q;rw[A8 (ne _ _ this)];exact this
 ·obtain⟨more, this⟩ := I.base.tbls b ps q;exact⟨more, by rw[A8 (ne _ _ this)];exact this⟩
 ·rw[A8 fun z => ha.1 z.symm];exact I.free
 ·rw[A8 (ha.2.1 x c q)];exact I.freeC x c q
 ·obtain⟨q, n, r⟩ := I.pin p hp;exact⟨q, by rw[A8 (ha.2.2.1 p hp)];exact n, r⟩
 ·by_cases hb : b = e
  ·subst hb;rw[DH]at q;cases q;exact ho
  ·rw[A8 hb]at q;exact(I.hok b o q).stay (fun c v hc z => z) (fun c z => by rw[A8 (ne _ _ z)];exact z) fun c zs z => by rw[A8 (ne _ _ z)];exact z
theorem RN(I : Inv X pI σ H s)(hH : H e = Aa (.ext φ))(h0 : X.s₀.heap.get? e = Af)(h1 : X.ex = [] -> FF) : Inv X pI σ (fun b => if b = e then Af else H b) s := by
 have get : ∀ b o, (if b = e then Af else H b) = Aa o -> b ≠ e /\ H b = Aa o := fun b o q => by
  by_cases z : b = e
  ·rw[AB z]at q;cases q
  ·rw[AE z]at q;exact⟨z, q⟩
 have put : ∀ b o, H b = Aa o -> o ≠ .ext φ -> (if b = e then Af else H b) = Aa o := fun b o q n => by
  by_cases z : b = e
  ·rw[z, hH]at q;cases q;exact absurd rfl n
  ·rw[AE z];exact q
 have non : ∀ b, H b = Af -> (if b = e then Af else H b) = Af := fun b q => by
  by_cases z : b = e
  ·rw[AB z]
  ·rw[AE z];exact q
 refine⟨I.ok, I.os, I.bare, ⟨fun b o q n hb hx => ?_, I.base.slot, fun b o q n hb => ?_, I.base.there, fun b xs q => ?_, fun b o u q => ?_, fun b ps q => ?_⟩, I.loc, I.cell, non _ I.free, fun x c q => non _ (I.freeC x c q), fun p hp => ?_, fun b o q => ?_, I.len⟩
 ·exact I.base.keep b o q n hb hx
 ·exact non b (I.base.free b o q n hb)
 ·exact put b _ (I.base.tups b xs q) (by intro z;cases z)
 ·exact put b _ (I.base.frzs b o u q) (by intro z;cases z)
 ·obtain⟨more, this⟩ := I.base.tbls b ps q;exact⟨more, put b _ this (by intro z;cases z)⟩
 ·obtain⟨q, n, r⟩ := I.pin p hp;exact⟨q, non _ n, r⟩
 ·obtain⟨nb, q⟩ := get b o q;exact(I.hok b o q).stay (fun c v hc z => z) (fun c z => put c _ z (by intro z;cases z)) fun c zs z => put c _ z (by intro z;cases z)
end
section
variable{X : Cx}{C : Ai}{nm q : Aj}{N : Ai}{bs bm : Ac Ah}{sn : Ac Aj}{sub : Ac Ah}{ab : An}{col : Am An}{dd : Am Ai}{k0 k1 k2 k3 k5 : Am Ah}
theorem S7{i j : Ae}{f : Aj}{eo ev:Ao}{p8 p10:AJ}(hob : ∀ h : Ax, X.K.In h -> h.get? C = Aa (Bx nm q C N bs bm Ab sn sub ab col dd k0 k1 k2 k3 k5 "ValueError.__new__") /\ CK h veB bm)(hx : X.ex = [])(hf : At X.K (.ref C) f = Aa Af)(hs : At X.K (.ref C) "__setattr__" = Aa (Aa (.builtin "object.__setattr__")))(he : PE X eo (EK i))(hv : PE X ev (EK j))(sw : Co ev (Aa (.Attribute eo f p8)) p10.line X.env = pure Ad):PS X (.Assign [.Attribute eo f p8] ev p10) (fun D σ H =>∃ e t v,σ[i]? = Aa (Aa (.ref e))/\H e = Aa (.ext (XEx e C Af t))/\σ[j]? = Aa (Aa v)/\∀ dx,H dx = Af->dx ≠ e->D.nx σ (upd (upd H e (.ext (XEx e C (Aa dx) t))) dx (.xd [(f,v)]))) := by
 intro pI s σ H D I ⟨e, t, v, h1, h2, h3, hq⟩;refine plainObj_wpAny_Assign_Attribute (thn (hv pI s σ H (fun x H1 => x = v /\ H1 = H) I ⟨v, h3, rfl, rfl⟩) fun u s1 ⟨x, H1, I1, r1, e1, e2⟩ => ?_) sw
 subst e1 e2;refine thn (he pI s1 σ H1 (fun x H2 => x = .ref e /\ H2 = H1) I1 ⟨_, h1, rfl, rfl⟩) fun u2 s2 ⟨x2, H2, I2, r2, e3, e4⟩ => ?_
 subst e3 e4;cases r2;obtain⟨gC, T⟩ := hob _ I2.kIn;have ge : XEx e C Af t s2.heap := (I2.hok e _ h2).1;obtain⟨hp, g2, d2, tk2, os2⟩ := s2;refine T7 I2.kIn PySem.F.store_ValueError T gC hf hs ge fun h' dx tk' kp ge' nd ns => ?_
 have nH : H2 dx = Af := Hi I2.hok nd;have nde : dx ≠ e := fun z => by rw[z, h2]at nH;cases nH
 have ap : F4 X pI dx := HS I2 hx nd;have I3 := I2.write (x := e) (e := e) (o := .ext (XEx e C (Aa dx) t)) (t' := tk') (by rw[h2];exact trivial) (.inl rfl) kp ⟨_, ge'⟩ ⟨ge', ⟨_, ge'⟩, KG⟩
 have I4 := Nm (o := .xd [(f, x)]) I3 ap (by rw[A8 nde];exact nH) ⟨_, ns, fun y => by
  by_cases z : y = f
  ·subst z;rw[AB rfl];simp only[D0, Fv];exact r1
  ·rw[AE z];have : (y==f) = Ad := by simp[z]
   simp only[D0, this]
   trivial⟩
 exact⟨σ, _, I4, hq dx nH nde⟩
end
noncomputable def Ey(K : Fg)(C : Ai) : An := match K.lookup C with
  |some ⟨_, _, .cls c, _⟩ => c.hasDict
  |_ => Ad
noncomputable def Lr(g par f z : Aj)(k : Ae)(np apos p1 p2 p3 p4 p5 cpos p6 p7 p8 p9 p10 : AJ) : Ac A2:=
 [.Expr (.Call (.Attribute (.Name g np) "__init__" apos) [.Name "self" p1, .JoinedStr [.FormattedValue (.Name par p2) (-1) Af p3, .Constant (.str z) k p4] p5] [] cpos) p6, .Assign [.Attribute (.Name "self" p7) f p8] (.Name par p9) p10]
inductive XIn (K : Fg) (mg : Aj -> Am Ah) (C : Ai) (f : Aj) : Prop
 |mk {fI OV : Ai} {x qual g par z : Aj} {st : A2} {fd : Bi} {k : Ae} {np apos p1 p2 p3 p4 p5 cpos p6 p7 p8 p9 p10 : AJ} (xc : CQ K C (Aa (.ref fI)) = Ab) (dc : Ey K C = Ab) (fn : Fun K x qual st fI fd) (ty : B0 K (.ref fI) = Aa (.type "function"))
  (S : FnScope ["self", par] ["self", par] (BL st)) (l1 : (BL st).names.lookup ("self" : Aj) = Aa .local) (l2 : (BL st).names.lookup par = Aa .local) (bd : DV K fd ["self", par] []) (body : DS st = Lr g par f z k np apos p1 p2 p3 p4 p5 cpos p6 p7 p8 p9 p10)
  (gl : (BL st).names.lookup g = Aa .globalImplicit) (mo : mg g = Aa (.ref OV)) (dg : (g==("__debug__" : Aj)) = Ad) (dp : (par==("__debug__" : Aj)) = Ad) (dq : (par==("__classdict__" : Aj)) = Ad)
  (s1 : C8 K (.ref OV) "__getattribute__" = Aa (Aa (.builtin "type.__getattribute__"))) (s2 : Dw K OV (.type "type") = Ab) (s3 : Dv K (.ref OV) (.type "type") "__init__" = Aa (.val (.builtin "ValueError.__init__")))
  (hl : (apos.endLine==cpos.line) = Ab) (hz : z.length <= 1000) (hf : At K (.ref C) f = Aa Af) (hs : At K (.ref C) "__setattr__" = Aa (Aa (.builtin "object.__setattr__"))) : XIn K mg C f
section
variable{P : AD}{w : AO}{K : Fg}{mg : Aj -> Am Ah}{base : Ax}{CL : ClA}{C fI OV : Ai}{x qual g par z f : Aj}{st : A2}{fd : Bi}{k : Ae}{np apos p1 p2 p3 p4 p5 cpos p6 p7 p8 p9 p10 : AJ}
variable{nm q : Aj}{N : Ai}{bs bm : Ac Ah}{sn : Ac Aj}{sub : Ac Ah}{ab : An}{col : Am An}{dd : Am Ai}{k0 k1 k2 k3 k5 : Am Ah}
theorem Ud(hob : ∀ h : Ax, K.In h -> h.get? C = Aa (Bx nm q C N bs bm Ab sn sub ab col dd k0 k1 k2 k3 k5 "ValueError.__new__") /\ CK h veB bm)(fn : Fun K x qual st fI fd)(S : FnScope ["self", par] ["self", par] (BL st))(l1 : (BL st).names.lookup ("self" : Aj) = Aa .local)(l2 : (BL st).names.lookup par = Aa .local)(bd : DV K fd ["self", par] [])(body : DS st = Lr g par f z k np apos p1 p2 p3 p4 p5 cpos p6 p7 p8 p9 p10)(gl : (BL st).names.lookup g = Aa .globalImplicit)(mo : mg g = Aa (.ref OV))(dg : (g==("__debug__" : Aj)) = Ad)(dp : (par==("__debug__" : Aj)) = Ad)(dq : (par==("__classdict__" : Aj)) = Ad)(s1 : C8 K (.ref OV) "__getattribute__" = Aa (Aa (.builtin "type.__getattribute__")))(s2 : Dw K OV (.type "type") = Ab)(s3 : Dv K (.ref OV) (.type "type") "__init__" = Aa (.val (.builtin "ValueError.__init__")))(hl : (apos.endLine==cpos.line) = Ab)(hz : z.length <= 1000)(hf : At K (.ref C) f = Aa Af)(hs : At K (.ref C) "__setattr__" = Aa (Aa (.builtin "object.__setattr__"))){A:AN}{outer:Ac BB}{s : Al}{E : XK}{e t : Ai}{v:V}{u:Ah}{n:Ae}(hh : A.handled = Af)(hdp : A.depth<EE)(hun : A.units+70<Bo)(hgd : A.guards = Aa [])(e0 : Env0 P w K mg base A outer s H)(he : H e = Aa (.ext (XEx e C Af t)))(rp : Rep K CL H B v d)(hx : xfD (n+1) d = Ab)(hn : n <= 1)(r : A7 v u):DM (model P w) A (.call (.ref fI) ⟨[.ref e,u],[]⟩) (CR F9 outer P w H s (fun y H' =>y = .non/\∃ t' dx,H dx = Af/\dx ≠ e/\H' = upd (upd H e (.ext (XEx e C (Aa dx) t'))) dx (.xd [(f,v)])) E) s := by
 obtain⟨oc, od, kV, doc, pm, an, cdv, ct, osl, rfl, lk, hcd⟩ := fn.ex;have KX : K.In s.heap := e0.mod.kin.keeps fun b o e => (e0.bs b o e).1
 have lim : s.heap.NoLimit := e0.mod.nolimit.keeps fun b o e => (e0.bs b o e).1
 have hkind : ∀ y ∈ (["self", par] : Ac Aj).zip [BF e, u], (BL st).names.lookup y.1 = Aa .local \/ ((BL st).names.lookup y.1 = Aa .cell /\ ((BY (s.heap.objs.size+1) (BL st).names []).lookup y.1).isSome = Ab) := fun y hy => by
  refine .inl ?_;rcases AY.mp hy with rfl|hy
  ·exact l1
  ·rw[Bu.mp hy];exact l2
 have rv : AW [.ref e, v] [.ref e, u] := .cons rfl (.cons r .nil);refine Eg hdp (KX _ _ lk) rfl S.co S.gen rfl (ET KX hcd) (bd s [.ref e, u] KX rfl _ _ _ _ ?_);refine Dl S.kind hkind fun env hen s1' x => ?_
 subst hen;refine⟨lim.keeps x.toInCall.keep, Gn ?_⟩;have I : Inv (Db F9 P w K mg base ["self", par] qual (BL st) fI cdv A outer s H E) [] (start ["self", par] [.ref e, v]) H s1' := JZ S hh e0 rfl rv x;generalize hX : Db F9 P w K mg base ["self", par] qual (BL st) fI cdv A outer s H E = X at I;have pself : ∀ p, PE X (.Name "self" p) (EK 0) := fun p => by rw[<-hX];exact Ji rfl (.inl l1)
 have ppar : ∀ p, PE X (.Name par p) (EK 1) := fun p => by rw[<-hX];exact Ji rfl (.inl l2) dp dq
 have st1 := Sq (X := X) (CL := CL) (C := C) (g := g) (np := np) (apos := apos) (cpos := cpos) (i := 0) (j := 1) (OV := OV) (by rw[<-hX];exact hob) (by rw[<-hX];exact gl) (by rw[<-hX];exact mo) dg (by rw[<-hX];exact s1) (by rw[<-hX];exact s2) (by rw[<-hX];exact s3) hl (pself p1)
  (Td (k := k) (p1 := p3) (p2 := p4) (p3 := p5) (by rw[<-hX];show A.units+3+64<Bo;omega) (by rw[<-hX];exact hgd) hz (ppar p2)) rfl rfl
 have st2 := S7 (X := X) (p8 := p8) (p10 := p10) (by rw[<-hX];exact hob) (by rw[<-hX];rfl) (by rw[<-hX];exact hf) (by rw[<-hX];exact hs) (pself p7) (ppar p9) rfl
 have all := Mv (IV (pos := p6) st1 rfl) (HY st2);have hk := all [] s1' _ H {nx := fun _ H' => ∃ t' dx, H dx = Af /\ dx ≠ e /\ H' = upd (upd H e (.ext (XEx e C (Aa dx) t'))) dx (.xd [(f, v)]), rt := fun _ _ => AH} I ⟨e, Af, t, v, d, B, n, rfl, he, rfl, by rw[<-hX];exact rp, hx, hn, fun t' => ⟨e, t', v, rfl, DH, rfl, fun dx h1 h2 => ⟨t', dx, by rw[A8 h2]at h1;exact h1, h2, by rw[MN]⟩⟩⟩
 rw[body];refine AV (by rw[<-hX]at hk;exact hk) (fun fl s' hfl => ?_) fun ev s' hev => hev
 cases fl with
 |next=>
  obtain⟨σ', H', J, w'⟩ := hfl;exact⟨.non, H', J.os, J.bare, J.base, J.hok, rfl, rfl, w'⟩
 |ret y => obtain⟨_, _, _, _, _, w'⟩ := hfl;exact w'.elim
 |brk => obtain⟨_, _, _, w'⟩ := hfl;exact w'.elim
 |cont => obtain⟨_, _, _, w'⟩ := hfl;exact w'.elim
end
theorem Oc : ∀(n m : Ae)(d : D), xfD n d = Ab -> n+1 <= m -> nlD m d = Ab
 |0, m+1, .int i, _, _ => rfl
 |n+1, m+1, .tup ds, h, hm => by
  have h' : (CT ds.length 8&&ds.all (xfD n)) = Ab := h;rw[Ak]at h';show ds.all (nlD m) = Ab;rw[CM]at h' ⊢;exact fun x hx => Oc n m x (h'.2 x hx) (by omega)
 |0, _, .tup _, h, _ => nomatch h
 |n+1, _, .int _, h, _ => nomatch h
section
variable{X : Cx}{CL : ClA}{W : XW}
noncomputable def Js(xn : Ae -> Ac D -> R Ex)(c : Ae)(f : Aj)(ds : Ac D) : Prop := ∃ d n, ds = [d] /\ xfD (n+1) d = Ab /\ n <= 1 /\ xn c ds = .ok ⟨c, [(f, d)]⟩
theorem Q1{e : Ao}{es : Ac Ao}(hcalm : X.calm = Ab)(hx : X.ex = [])(hr : Room k X.A)(rz : Ix X CL W)(hg : Gl X g)(hm : X.mg g = Aa (.ref C))(hdb : (g==("__debug__" : Aj)) = Ad)(hcl : CL c = Aa C)(ha : SA X CL W (e::es) fs)(hxn : ∀ ds, xn c ds = .bad \/ (xn c ds = .ok ⟨c, []⟩ /\ CQ X.K C Af = Ab) \/ ∃ f, XIn X.K X.mg C f /\ Js xn c f ds)(he : Ar (e::es) X.env = (Ad, eval e X.env)::Ar es X.env)(hpl : ∀ pos, (By pos (Ar es X.env)).any (·.1) = Ad)(hz : ∀ ρ ds, fs ρ = .ok ds -> ds.length <= 100000):SS X CL W (.Raise (Aa (.Call (.Name g np) (e::es) [] cpos)) Af pos) (fun ρ =>O.of ρ (noX (fs ρ)) fun xs =>O.of ρ (xn c xs) fun x =>.exn x ρ) := fun Fz B pI s σ H D I ⟨ρ, x, p⟩ => by
 have hpl' : (By cpos (Ar (e::es) X.env)).any (·.1) = Ad := by rw[he];show (Ad||(By cpos (Ar es X.env)).any (·.1)) = Ad;rw[hpl];rfl
 cases e1 : fs ρ with
 |bad => dsimp only at p;rw[e1]at p;exact p.elim
 |exn y => dsimp only at p;rw[e1]at p;exact p.elim
 |ok ds=>
  rcases hxn ds with e2|⟨e2, xc⟩|⟨f, xi, d, n, rfl, xf, hn, e2⟩
  ·dsimp only at p;rw[e1]at p;have p2 : Bq X.K CL Fz B W (O.of ρ (xn c ds) fun x => .exn x ρ) D := p
   rw[e2]at p2;exact p2.elim
  ·refine R4 (fs := fs) (xn := fun _ ds' => match xn c ds' with | .ok ⟨_, []⟩ => .ok ⟨c, []⟩|_ => .bad) hcalm rz hg hm hdb xc hcl ha (fun ds' => by
    split
    ·exact .inr rfl
    ·exact .inl rfl) he hpl hz Fz B pI s σ H D I ⟨ρ, x, ?_⟩
   dsimp only at p ⊢;rw[e1]at p ⊢;have p2 : Bq X.K CL Fz B W (O.of ρ (xn c ds) fun x => .exn x ρ) D := p
   rw[e2]at p2;show Bq X.K CL Fz B W (O.of ρ (match xn c ds with | .ok ⟨_, []⟩ => (.ok ⟨c, []⟩ : R Ex)|_ => .bad) fun x => .exn x ρ) D
   rw[e2];exact p2
  ·dsimp only at p;rw[e1]at p;have p2 : Bq X.K CL Fz B W (O.of ρ (xn c [d]) fun x => .exn x ρ) D := p
   rw[e2]at p2;have p3 : ∀ H, (∀ b o, Fz b o -> H b = Aa o) -> W ⟨c, [(f, d)]⟩ H := p2;cases xi with
   |mk xc dc fn ty S l1 l2 bd body gl mo dg dp dq w1 w2 w3 hl hz0 hf hs=>
    rename_i fI OV x0 qual g0 par z st fd k0' np0 apos q1 q2 q3 q4 q5 cpos0 q6 q7 q8 q9 q10;obtain⟨bm, N, nm, qn, bs, hd, sn, sub, ab, col, dd, k0, k1, k2, k3, k5, mN, hob, hni, hbase⟩ := Kc I.kIn xc;have hdt : hd = Ab := by
     unfold Ey at dc;split at dc
     ·rename_i c0 d0 cd sl lk;have g1 := I.kIn _ _ lk;rw[(hob _ I.kIn).1]at g1;unfold Bx at g1;cases g1;exact dc
     ·cases dc
    subst hdt;have hob2 : ∀ h : Ax, X.K.In h -> h.get? C = Aa (Bx nm qn C N bs bm Ab sn sub ab col dd k0 k1 k2 k3 k5 "ValueError.__new__") /\ CK h veB bm := fun h z => ⟨(hob h z).1, (hob h z).2.2⟩
    refine Ro (bmB := veB) (nm := nm) (q := qn) (C := C) (N := N) (fI := fI) (bs := bs) (bm := bm) (hdct := Ab) (sn := sn) (sub := sub) (ab := ab) (col := col) (dd := dd) (k0 := k0) (k1 := k1) (k2 := k2) (k3 := k3) (k5 := k5) (mN := mN) Dk hbase (I.ok.hd hcalm) hpl' hni ?_;refine Gw I hg hm ⟨rfl, ?_⟩ hdb;have q1 := ha (Bg B ρ σ) cpos pI s σ H (fun vs H1 => Av H H1 /\ Reps X.K CL H1 (Bg B ρ σ) vs [d]) I ⟨x.aok, ρ, x.good, by rw[e1];exact fun vs H1 s1 r1 => ⟨s1, r1⟩⟩
    rw[he]at q1 ⊢;refine Eo (AV q1 (fun us s2 ⟨vs, H2, I2, r2, sm2, rps⟩ => ⟨rfl, ?_⟩) fun _ _ z => z)
    cases vs with
    |nil => exact rps.elim
    |cons v vs=>
     cases vs with
     |cons => exact rps.2.elim
     |nil=>
      obtain⟨u, rfl, ru⟩ := GA r2;obtain⟨o1, o2, o3⟩ := hob _ I2.kIn;obtain⟨oc, od, kV, doc, pm, an, cdv, ct, osl, efd, lk, hcd⟩ := fn.ex;have coc : oc = .type "function" := by
       have ty' : (X.K.lookup fI).map _ = _ := ty;rw[lk]at ty';exact Bv ty'
      refine⟨by rw[Ct];show 1 <= _;omega, o1, o2, o3, ⟨_, I2.kIn _ _ lk, coc⟩, fun h' e0 made => ?_⟩
      obtain⟨t, ge, _⟩ := made.there;have I3 : Inv X pI σ H2 {s2 with heap := h'} := I2.kept (t' := s2.toks) made.keeps
      have ap : F4 X pI e0 := HS I2 hx made.new;have n0 : H2 e0 = Af := Hi I2.hok made.new;have I4 := Nm (o := .ext (XEx e0 C Af t)) I3 ap n0 ⟨ge, ⟨_, ge⟩, KG⟩;have sm4 : Av H2 (upd H2 e0 (.ext (XEx e0 C Af t))) := fun b o z => by rw[A8 fun y => by rw[y, n0]at z;cases z];exact z
      have ru0 := hr.mono (EN k);have run := Ud (P := X.prog) (w := X.w) (mg := X.mg) (base := X.base) (CL := CL) (E := fun _ _ _ => AH) (B := Bg B ρ σ) (H := upd H2 e0 (.ext (XEx e0 C Af t))) (t := t) hob2 fn S l1 l2 bd body gl mo dg dp dq w1 w2 w3 hl hz0 hf hs (A := X.A.under (.builtin "type.__call__" ⟨.ref C::[u], []⟩)) (outer := X.stack) hr.hd (by rw[Ra];have := ru0.dp;omega) (by rw[Q9];have := ru0.un;omega) hr.gd (I4.env0.make C [u] []) DH (Rep.same sm4 rps.1) xf hn ru
      refine Et (DF run fun r s' hq => ?_)
      cases r with
      |error _ => exact AT hq
      |ok fl=>
       cases fl with
       |next => exact AT hq
       |brk => exact AT hq
       |cont => exact AT hq
       |ret u'=>
        obtain⟨v', H5, I5, rr, ev, t', dx, ndx, dne, eH⟩ := I4.after hq;subst ev;cases rr;have nd2 : H2 dx = Af := by rw[A8 dne]at ndx;exact ndx
        rw[MN]at eH;have H5e : H5 e0 = Aa (.ext (XEx e0 C (Aa dx) t')) := by rw[eH, A8 (CJ dne), DH]
        have ge5 : XEx e0 C (Aa dx) t' s'.heap := (I5.hok e0 _ H5e).1;have I6 := RN I5 H5e ap.2.2.2 fun _ => trivial
        have H6d : (if dx = e0 then Af else H5 dx) = Aa (.xd [(f, v)]) := by rw[AE dne, eH, DH]
        have sm6 : Av H2 (fun b => if b = e0 then Af else H5 b) := fun b o z => by
         have nb : b ≠ e0 := fun y => by rw[y, n0]at z;cases z
         have nb2 : b ≠ dx := fun y => by rw[y, nd2]at z;cases z
         show (if b = e0 then Af else H5 b) = Aa o
         rw[AE nb, eH, A8 nb2, A8 nb];exact z
        refine⟨rfl, t', Aa dx, (hob2 _ I6.kIn).1, ge5, rz pI σ _ s' e0 C (Aa dx) t' ⟨c, [(f, d)]⟩ I6 (fun hx => GM I2 hx made.new) (AB rfl) ge5 (fun A hA => ⟨C, hcl, rfl, .inr ⟨dx, [(f, v)], rfl, fun z => ?_, H6d, ⟨rfl, ?_⟩, trivial⟩⟩) (p3 _ fun b o z => sm6 _ _ (sm2 _ _ (x.same b o z)))⟩
        ·obtain⟨ys, q⟩ := hA dx z;have q' : (if dx = e0 then Af else H5 dx) = Aa (.lst ys) := q
         rw[H6d]at q';cases q'
        ·exact K0 hA 5 d (Oc (n+1) 5 d xf (by omega)) (Rep.sub (fun _ z => z.elim) _ (Rep.same sm6 rps.1))
end
section
variable{prog : AD}{w : AO}{A : AN}{E : Ah -> Al -> Prop}{h : Ax}{g : A5 DD}{d : FA}{t : Ae}{os : E9}{K : Fg}{e C dx : Ai}{f : Aj}{mA : Aj -> Am Ah}{v : Ah}
theorem KH(p : F8 e C (Aa dx) h) : XAt e C h := let ⟨o, a, b, _⟩ := p;⟨o, a, b⟩
theorem Rk{Q:Fin -> Al -> Prop}(X : K.In h)(hf : At K (.ref C) f = Aa Af)(hd : Ey K C = Ab)(p : F8 e C (Aa dx) h)(hn : h.Ns1 dx mA)(hv : mA f = Aa v)(hq : Q (.done (.ret v)) ⟨h, g, d, t, os⟩):Au (model prog w) A (Builtin.«object.__getattribute__» ⟨[.ref e,.str f tk],[]⟩) Q E ⟨h,g,d,t,os⟩ := by
 have L0 := Gu (M := model prog w) (KH p);have L1 := BH (M := model prog w) X hf;obtain⟨o, ge, oc, od, us, dt⟩ := p;unfold Ey at hd;split at hd
 ·rename_i c' d' cd' sl' lk;have gC := X _ _ lk;unfold Builtin.«object.__getattribute__»
  repeat (any_goals (first|assumption|with_reducible refine L0.at ?_|with_reducible refine L1.at ?_|wp_step))
  rw[dt];unfold instanceDict
  repeat (first|(with_reducible refine Bm ge ?_;rw[oc])|with_reducible refine Bm gC ?_|wp_step)
  rw[od]
  repeat (first|(with_reducible refine wpAny_nsGet hn.ns ?_;rw[hv])|wp_step)
  exact hq
 ·cases hd
theorem T6{Q:Ah -> Al -> Prop}(X : K.In h)(x : XcOk K C)(hf : At K (.ref C) f = Aa Af)(hd : Ey K C = Ab)(p : F8 e C (Aa dx) h)(hn : h.Ns1 dx mA)(hv : mA f = Aa v)(hh : handedOut v = pure v)(hq : Q v ⟨h, g, d, t, os⟩) : Au (model prog w) A (getAttrBy (.ref e) (.str f tk) fill expr) Q E ⟨h, g, d, t, os⟩ := by
 have L0 := Gu (M := model prog w) (KH p);have L1 := BH (M := model prog w) X x.ga;have L2 := BH (M := model prog w) X x.gt;have f3 := DP.ga.bind (.ref e);have hx0 : (expr&&Gq (Cb "BaseException.__getattribute__")) = Ad := by cases expr <;> rfl
 have hx2 : (Cb "BaseException.__getattribute__" == Cb "object.__getattribute__") = Ad := by decide +kernel
 have hx1 : (Gq (BF C)&&Cb "BaseException.__getattribute__" == Cb "object.__getattribute__") = Ad := by rw[hx2];rfl
 repeat (any_goals (first|assumption|with_reducible refine L0.at ?_|with_reducible refine L1.at ?_|with_reducible refine L2.at ?_|wp_step))
 refine CH DP.ga.plain P8 (LO X x (KH p) (Rk X hf hd p hn hv ?_))
 repeat (any_goals (first|assumption|wp_step))
 all_goals trace_state
theorem Rr{b : An}{Q:Ah -> Al -> Prop}(X : K.In h)(x : XcOk K C)(hf : At K (.ref C) f = Aa Af)(hd : Ey K C = Ab)(p : F8 e C (Aa dx) h)(hn : h.Ns1 dx mA)(hv : mA f = Aa v)(hh : handedOut v = pure v)(hq : Q v ⟨h, g, d, t+1, os⟩) : Au (model prog w) A (getAttr (.ref e) f b) Q E ⟨h, g, d, t, os⟩ := by
 unfold getAttr
 repeat (any_goals (first|assumption|with_reducible apply T6 X x hf hd p hn hv hh|wp_step))
end
section
variable{X : Cx}{CL : ClA}{W : XW}{K : Fg}{H : Hp}{A : Ai -> Prop}
theorem Mt{f : Aj}{d : D} : ∀{vs : Ac (Aj × V)}{fs : Ac (Aj × D)}, Repf K CL H A vs fs -> fs.lookup f = Aa d -> ∃ v, vs.lookup f = Aa v /\ Rep K CL H A v d
 |[], [], _, q => nomatch q
 |(n, v)::vs, (m, d')::fs, ⟨⟨e, r⟩, rs⟩, q => by
  have e' : n = m := e;subst e';by_cases z : (f==n) = Ab
  ·simp only[D0, z]at q ⊢;cases q;exact⟨v, rfl, r⟩
  ·simp only[D0, z]at q ⊢;exact Mt rs q
theorem TH{a:Ao}{fa:Rho -> R D}{f : Aj}(hxc : ∀ c C, CL c = Aa C -> XcOk X.K C)(hnf : ∀ c C, CL c = Aa C -> Ey X.K C = Ab /\ At X.K (.ref C) f = Aa Af)(ha : ST X CL W a fa)(hb : attributeBase a f X.env (eval a X.env) = eval a X.env):SE X CL W (.Attribute a f pos) (fun ρ =>(fa ρ).bind fun x =>Iv x f) := fun A => by
 intro pI s σ H Q I ⟨hA, ρ, gd, q⟩;refine T8 hb (thn (ha A pI s σ H _ I ⟨hA, ρ, gd, AX.bind q (Q' := fun v H1 => ∃ d, BZ X.K CL H1 A v d /\ AX (fun H2 => Rep X.K CL H2 A) W H1 (Iv d f) Q) fun d v H1 _ s1 r1 p1 => ⟨d, r1, p1⟩⟩) fun u s1 ⟨v, H1, I1, rv, d, rp, p1⟩ => ?_)
 cases d with
 |exc c fs=>
  have p2 : AX (fun H2 => Rep X.K CL H2 A) W H1 (match fs.lookup f with|some d => .ok d|none => .bad) Q := p1
  cases el : fs.lookup f with
  |none => rw[el]at p2;exact p2.elim
  |some d=>
   rw[el]at p2;rcases rp with ⟨e, C, φ, rfl, _, hc, hH, hφ, hfs⟩|⟨a, xs, ds, _, z, _⟩
   ·rcases hfs with z|⟨dx, vs, nd, hd, rf, hφ2⟩
    ·rw[z]at el;cases el
    ·obtain⟨y, l, ry⟩ := Mt rf el;cases rv;have ph := (I1.hok e _ hH).1;obtain⟨o, ge, oc⟩ := hφ _ ph;obtain⟨o', ge', od, us, odt⟩ := hφ2 _ ph;rw[ge]at ge';cases ge';obtain⟨mA, hn, rel⟩ := I1.hok dx _ hd;obtain⟨u', hu, ru⟩ := Iz.some_of (v := y) (o := mA f) (by rw[<-l];exact rel f)
     obtain⟨k1, k2⟩ := hnf c C hc;obtain⟨hp, g2, d2, tk2, os2⟩ := s1;exact Rr I1.kIn (hxc c C hc) k2 k1 ⟨o, ge, oc, od, us, odt⟩ hn hu (PySem.W.handedOut_of (RJ ru)) ⟨y, H1, I1.tok _, ru, p2 y H1 (Av.refl H1) ry⟩
   ·cases z
 |_ => exact p1.elim
end
structure Tc where
 sc : Bz
 N : Ac Aj
 /-- a def's name, its number, how many parameters it has -/
 fns : Ac (Aj × Ae × Ae)
 /-- built-in names that the text does not hide -/
 bl : Ac Aj
 /-- exceptions' classes by their names: those that are raised, all that are asked for -/
 rzs : Ac (Aj × Ae)
 exs : Ac (Aj × Ae)
 /-- the text's constants -/
 gls : Ac (Aj × Ae)
noncomputable def Li(T : Tc)(x : Aj) : An := match T.sc.names.lookup x with
  |some .local => Ab
  |some .cell => Ab
  |some .free => Ab
  |_ => Ad
noncomputable def GE(T : Tc)(x : Aj) : An := match T.sc.names.lookup x with
  |some .local => Ab
  |some .cell => Ab
  |_ => Ad
noncomputable def glB(T : Tc)(x : Aj) : An := T.sc.names.lookup x==Aa .globalImplicit
noncomputable def Fu(x : Aj) : An := !(x==("__debug__" : Aj)) && !(x==("__classdict__" : Aj)) && !(x==("__name__" : Aj))
noncomputable def isV(T : Tc)(x : Aj)(i : Ae) : An := T.N[i]? == Aa x&&Li T x&&Fu x
noncomputable def isB(T : Tc)(x : Aj) : An := T.bl.contains x&&glB T x&&Fu x
noncomputable def D6 : Ao -> An
 |.Starred _ _ => Ad
 |_ => Ab
noncomputable def Kg : Ao -> An
 |.Slice _ _ _ _ => Ad
 |_ => Ab
noncomputable def Jn : Ao -> An
 |.Set _ _ _ => Ad
 |_ => Ab
noncomputable def GU : Ao -> An
 |.ListComp _ _ _ _ => Ad
 |.SetComp _ _ _ _ => Ad
 |.DictComp _ _ _ _ _ => Ad
 |_ => Ab
noncomputable def ON(tu : An) : Ao -> An
 |.Tuple .. => tu
 |.Name .. => !tu
 |_ => Ad
noncomputable def XB : Ao -> An
 |.Tuple _ _ _ => Ab
 |_ => Ad
noncomputable def HV : Ao -> An
 |.UnaryOp _ _ _ => Ad
 |.BoolOp _ _ _ => Ad
 |.IfExp _ _ _ _ => Ad
 |.Compare _ _ _ _ => Ad
 |_ => Ab
noncomputable def K2 : Ki -> Am Aj
 |.int => Aa "int"
 |.bool => Aa "bool"
 |.str => Aa "str"
 |.list => Aa "list"
 |.tuple => Aa "tuple"
 |_ => Af
noncomputable def K3 : BI -> Am Aj
 |.len => Aa "len"
 |.abs => Af
 |.max => Aa "max"
 |.min => Af
 |.int => Aa "int"
 |.list => Aa "list"
 |.tuple => Aa "tuple"
 |.all => Aa "all"
 |.any => Af
 |.sum => Af
 |.sorted => Af
 |.tmin => Af
 |.tmax => Af
 |_ => Af
noncomputable def K5(o scope : Bz) : Bz := {scope with names := scope.names.map fun (n, k) => if (k==.free&&o.kind==.function&&o.names.lookup n==Aa .cell) then (n, .cell) else (n, k)}
noncomputable def Ir : Ac Ae -> Ac Aj -> Ac Aj -> Ac Aj
 |t::ts, x::xs, N => Ir ts xs ((N.map fun y => if y==x then N.getD t x else y).set t x)
 |_, _, N => N
noncomputable def Hm : Ac Aj -> An
 |[] => Ab
 |x::xs => !xs.contains x&&Hm xs
noncomputable def Jx(T : Tc)(scope : Bz)(ts : Ac Ae)(N' : Ac Aj) : An:=
  scope.kind==.function&&scope.names.all (fun y => scope.names.lookup y.1==Aa y.2) &&
  scope.names.all (fun y => y.2 != .free||T.sc.names.lookup y.1==Aa .cell||T.sc.names.lookup y.1==Aa .free) &&
  N'.length==T.N.length&&Hm N' &&
  (Ca N'.length).all fun i => ts.contains i||(match N'[i]? with
    |some x => (scope.names.lookup x != Aa .local&&scope.names.lookup x != Aa .cell)&&(scope.names.lookup x != Aa .free||T.N[i]? == Aa x)
    | none => Ab)
noncomputable def Fn : Ac Ao -> Am (Ac Aj)
 |[] => Aa []
 |.Name x _::r => (Fn r).map (x :: ·)
 |_ => Af
noncomputable def tgN(ys : Ac Ao) : Ac Aj := (Fn ys).getD []
noncomputable def tgO(T : Tc)(scope : Bz)(t : Ae)(x : Aj) : An := T.N[t]? == Aa x&&(T.sc.names.lookup x==Aa .local||(T.sc.names.lookup x==Aa .cell&&scope.names.lookup x==Aa .cell))
noncomputable def tgC(T : Tc) : Ac Ae -> Ac Aj -> An
 |[], [] => Ab
 |t::ts, x::xs => T.N[t]? == Aa x&&GE T x&&tgC T ts xs
 |_, _ => Ad
noncomputable def Tc.blk(T : Tc)(scope : Bz)(ts : Ac Ae)(xs : Ac Aj) : Tc := {T with sc := K5 T.sc scope, N := Ir ts xs T.N}
noncomputable def inX(l : Ac (Aj × Ae))(g : Aj)(c : Ae) : An := l.any fun p => p.1==g&&p.2==c
noncomputable def O2 : Ao -> Am (Ao × Ao × AJ)
  | .Compare x ops ys p => (match ops with
    | [.Lt] => (match ys with
      |[y] => Aa (x, y, p)
      | _ => Af)
    | _ => Af)
  |_ => Af
noncomputable def K7(_ : Es) : Am (E × E) := Af
noncomputable def OM(_ : Tc)(_ : Tc -> Ao -> E -> An)(_ : Ao)(_ : Ac CZ)(_ : Ac Ao)(_ : BI)(_ : Es) : An := Ad
noncomputable def OY(T : Tc)(e : Ao)(b : BI)(as : Es) : An := Ad
noncomputable def NG : Ao -> Am (Aj × AJ)
 |.Name x p => Aa (x, p)
 |_ => Af
noncomputable def NH : Ao -> Am (Ao × Ac Ao × Ac Keyword × AJ)
 |.Call f as ks p => Aa (f, as, ks, p)
 |_ => Af
noncomputable def XO : Ao -> Am (Ac Ao × Ae × AJ)
 |.Tuple es k p => Aa (es, k, p)
 |_ => Af
noncomputable def one{α : Type} : Ac α -> Am α
 |[a] => Aa a
 |_ => Af
noncomputable def OZ(e : Ao) : Am (Aj × Aj × Ac Ao) := (NH e).bind fun c => (NG c.1).bind fun g => (one c.2.1).bind fun a => (NH a).bind fun d => (NG d.1).bind fun h => if (c.2.2.1.isEmpty&&d.2.2.1.isEmpty) = Ab then Aa (g.1, h.1, d.2.1) else Af
noncomputable def O7(e : Ao) : Am (Aj × Aj × Ao × Ao) := match OZ e with
  | some (g, h, bs) => (match bs with
    |[x, y] => Aa (g, h, x, y)
    | _ => Af)
  |none => Af
noncomputable def Lb(_ : Es) : Am (E × E) := Af
noncomputable def OK(e : Ao) : Am (Aj × Aj × Ao) := match OZ e with
  | some (g, h, bs) => (match bs with
    |[x] => Aa (g, h, x)
    | _ => Af)
  |none => Af
noncomputable def K9(_ : Es) : Am E := Af
noncomputable def two(e : Ao) : Am (Ao × Ao) := (XO e).bind fun t => match t.1 with
  |[a, b] => Aa (a, b)
  |_ => Af
noncomputable def Lw(_ : Es) : Am E := Af
noncomputable def OR(_ : Ao) : Am Ao := Af
noncomputable def OP : Ao -> Am (Ao × Ag)
  | .Subscript v s _ => (match s with
    | .Slice lo hi st _ => (match lo with
      | some (.Constant (.int k) _ _) => (match hi with
        | none => (match st with
          |some (.Constant (.int j) _ _) => if j = 2 then Aa (v, k) else Af
          | _ => Af)
        | some _ => Af)
      | _ => Af)
    | _ => Af)
  |_ => Af
noncomputable def K8(_ : Es) : Am (E × Ag) := Af
mutual
noncomputable def A1 : Ae -> Tc -> Ao -> E -> An
  |0, _, _, _ => Ad
  |n+1, T, e, c => match c with
    |.non => (match e with | .Constant .none _ _ => Ab|_ => Ad)
    |.bl b => (match e with | .Constant (.bool b') _ _ => b' == b|_ => Ad)
    |.int i => (match e with | .Constant (.int j) _ _ => decide (j = i)|_ => Ad)
    |.str x => (match e with | .Constant (.str y) _ _ => decide (y = x)|_ => Ad)
    |.var i => (match e with | .Name x _ => isV T x i|_ => Ad)
    |.glob g => Ad
    |.bin op a b => (match e with | .BinOp x op' y _ => decide (op' = op)&&A1 n T x a&&A1 n T y b|_ => Ad)
    |.un op a => Ad
    |.no a => (match e with | .UnaryOp .Not x _ => A1 n T x a|_ => Ad)
    |.and es => (match e with | .BoolOp .And xs _ => chkEs n T xs es && !xs.isEmpty|_ => Ad)
    |.or es => (match e with | .BoolOp .Or xs _ => chkEs n T xs es && !xs.isEmpty|_ => Ad)
    |.cmp op a b => (match e with | .Compare x [op'] [y] _ => decide (op' = op) && !behindInMarks op y&&A1 n T x a&&A1 n T y b|_ => Ad)
    |.cmp2 op1 op2 a b c => (match e with | .Compare x [o1, o2] [y, z] _ => decide (o1 = op1)&&decide (o2 = op2) && !lastMarks [op1, op2] [y, z]&&A1 n T x a&&A1 n T y b&&A1 n T z c|_ => Ad)
    |.ite c a b => Ad
    |.call f as => (match e with | .Call (.Name g _) (x::xs) [] _ => (T.fns.any fun p => p.1==g&&p.2.1==f&&p.2.2==xs.length+1)&&decide (xs.length<900)&&glB T g&&Fu g&&chkEs n T (x::xs) as|_ => Ad)
    |.bi b as => (match e with | .Call (.Name g _) (x::xs) [] _ => K3 b==Aa g&&isB T g&&chkEs n T (x::xs) as|_ => Ad)||OY T e b as||(match Lb as with|some (a, c) => (match O7 e with|some (g, h, x, y) => decide (b = .list)&&g==("list" : Aj)&&h==("range" : Aj)&&isB T g&&isB T h&&D6 x&&D6 y&&A1 n T x a&&A1 n T y c|none => Ad)|none => Ad)||(match K8 as with|some (a, k) => (match OP e with|some (x, j) => decide (b = .stp)&&decide (j = k)&&decide (0 <= k)&&A1 n T x a|none => Ad)|none => Ad)||(match K9 as with|some a => (match OK e with|some (g, h, x) => decide (b = .lset)&&g==("len" : Aj)&&h==("set" : Aj)&&isB T g&&isB T h&&D6 x&&A1 n T x a|none => Ad)|none => Ad)||(match K7 as with|some (a, c) => (match O2 e with|some (x, y, _) => decide (b = .tlt) && !behindInMarks .Lt y&&A1 n T x a&&A1 n T y c|none => Ad)|none => Ad)||(match Lw as with|some a => (match OR e with|some x => decide (b = .rvs)&&A1 n T x a|none => Ad)|none => Ad)
    |.isi a ks => (match ks with | [k] => (match e with | .Call (.Name g _) [x, .Name t _] [] _ => g==("isinstance" : Aj)&&isB T g&&K2 k==Aa t&&isB T t&&D6 x&&A1 n T x a|_ => Ad)|_ => Ad)
    |.idx a i => (match e with | .Subscript x y _ => Kg y&&A1 n T x a&&A1 n T y i|_ => Ad)
    |.sl a lo hi => (match e with | .Subscript x (.Slice l h Af _) _ => A1 n T x a&&chkO n T l lo&&chkO n T h hi|_ => Ad)
    |.tup es => (match e with | .Tuple xs _ _ => chkEs n T xs es&&decide (xs.length <= 1000)|_ => Ad)
    |.lst es => (match e with | .List xs _ => chkEs n T xs es&&decide (xs.length <= 1000)|_ => Ad)
    |.comp elt t it c => (match e with | .ListComp x [⟨.Name y _, iter, ifs, 0⟩] scope _ => chkI n T Ad iter it&&Jn iter&&Jx T scope [t] (Ir [t] [y] T.N)&&tgO (T.blk scope [t] [y]) scope t y&&chkT n (T.blk scope [t] [y]) ifs c&&A1 n (T.blk scope [t] [y]) x elt|_ => Ad)
    |.compT elt ts it c => Ad
    |.tupI _ => Ad
    |.dnew => Ad
    |.fld _ _ => Ad
noncomputable def GC : Ae -> Tc -> Ao -> E -> An
  |0, _, _, _ => Ad
  |n+1, T, e, c => match e with
    |.UnaryOp .Not x _ => (match c with | .no a => GC n T x a|_ => Ad)
    |.BoolOp .And xs _ => (match c with | .and es => chkBs n T xs es && !xs.isEmpty|_ => Ad)
    |.BoolOp .Or xs _ => (match c with | .or es => chkBs n T xs es && !xs.isEmpty|_ => Ad)
    | .Compare x ops ys _ => (match c with
      |.cmp op a b => (match ops, ys with | [op'], [y] => decide (op' = op) && !behindInMarks op y&&A1 n T x a&&A1 n T y b|_, _ => Ad)
      |.cmp2 op1 op2 a b c => (match ops, ys with | [o1, o2], [y, z] => decide (o1 = op1)&&decide (o2 = op2) && !lastMarks [op1, op2] [y, z]&&A1 n T x a&&A1 n T y b&&A1 n T z c|_, _ => Ad)
      |.bi b as => OM T (A1 n) x ops ys b as
      | _ => Ad)
    |e => HV e&&A1 n T e c
noncomputable def chkBs : Ae -> Tc -> Ac Ao -> Es -> An
  |0, _, _, _ => Ad
  |n+1, T, xs, es => match xs, es with
    |[], .nil => Ab
    |x::xs, .cons e es => GC n T x e&&chkBs n T xs es
    |_, _ => Ad
noncomputable def chkEs : Ae -> Tc -> Ac Ao -> Es -> An
  |0, _, _, _ => Ad
  |n+1, T, xs, es => match xs, es with
    |[], .nil => Ab
    |x::xs, .cons e es => D6 x&&A1 n T x e&&chkEs n T xs es
    |_, _ => Ad
noncomputable def chkO : Ae -> Tc -> Am Ao -> E -> An
  |0, _, _, _ => Ad
  |n+1, T, x, e => match x with
    |none => (match e with | .non => Ab|_ => Ad)
    |some x => (match e with | .non => Ad|e => A1 n T x e)
noncomputable def chkT : Ae -> Tc -> Ac Ao -> E -> An
  |0, _, _, _ => Ad
  |n+1, T, xs, e => match xs with
    |[] => (match e with | .bl Ab => Ab|_ => Ad)
    |[x] => GC n T x e
    |_ => Ad
noncomputable def chkI : Ae -> Tc -> An -> Ao -> I -> An
  |0, _, _, _, _ => Ad
  |n+1, T, tu, e, i => match i with
    |.e a => A1 n T e a
    |.rng a => (match e with | .Call (.Name g _) [x] [] _ => g==("range" : Aj)&&isB T g&&D6 x&&A1 n T x a|_ => Ad)
    |.enm a => Ad
    |.zip a b => Ad
    |.rng2 a b => (match e with | .Call (.Name g _) [x, y] [] _ => g==("range" : Aj)&&isB T g&&D6 x&&D6 y&&A1 n T x a&&A1 n T y b|_ => Ad)
    |.zip3 a b c => Ad
end
noncomputable def Jv : E -> An
 |.var _ => Ab
 |.int _ => Ab
 |.bl _ => Ab
 |.str _ => Ab
 |.non => Ab
 |_ => Ad
noncomputable def Hs : Es -> An
 |.nil => Ab
 |.cons e es => Jv e&&Hs es
noncomputable def Gz(T : Tc) : Ac Ao -> Ac Ki -> An
 |[], [] => Ab
 |.Name t _::r, .cls c::ks => inX T.exs t c&&glB T t&&Fu t&&Gz T r ks
 |_, _ => Ad
noncomputable def O9(T : Tc)(g : Aj)(f : Ae) : An := (T.fns.any fun p => p.1==g&&p.2.1==f&&p.2.2==1001)&&glB T g&&Fu g
noncomputable def Eu : Ae -> Tc -> Ae -> Ao -> E -> An
  |0, _, _, _, _ => Ad
  |n+1, T, x, e, c => match c with
    |.bl b => (match e with | .Constant (.bool b') _ _ => b' == b|_ => Ad)
    |.no a => (match e with | .UnaryOp .Not y _ => Eu n T x y a|_ => Ad)
    |.and (.cons a .nil) => (match e with | .BoolOp .And [y] _ => Eu n T x y a|_ => Ad)
    |.and (.cons a (.cons a' as)) => (match e with | .BoolOp .And (y::z::zs) p => Eu n T x y a&&Eu n T x (.BoolOp .And (z::zs) p) (.and (.cons a' as))|_ => Ad)
    |.isi (.var i) [.verr] => (match e with | .Call (.Name g _) [.Name v _, .Name t _] [] _ => i==x&&g==("isinstance" : Aj)&&isB T g&&isV T v x&&t==("ValueError" : Aj)&&isB T t|_ => Ad)
    | .isi (.var i) [.cls c] => (match e with
      |.Call (.Name g _) [.Name v _, .Name t _] [] _ => i==x&&g==("isinstance" : Aj)&&isB T g&&isV T v x&&inX T.exs t c&&glB T t&&Fu t
      | _ => Ad)
    | .isi (.var i) (.cls c::k::ks) => (match e with
      |.Call (.Name g _) [.Name v _, .Tuple ts _ _] [] _ => i==x&&g==("isinstance" : Aj)&&isB T g&&isV T v x&&Gz T ts (.cls c::k::ks)&&decide (ts.length <= 1000)
      | _ => Ad)
    | .call f (.cons (.var i) .nil) => (match e with
      |.Call (.Name g _) [.Name v _] [] _ => O9 T g f&&isV T v i
      | _ => Ad)
    |.str s => (match e with | .Constant (.str s') _ _ => s' == s|_ => Ad)
    | .fld (.var i) f => (match e with
      |.Attribute (.Name v _) g _ => i==x&&g==f&&(f==("triple" : Aj)||f==("points" : Aj))&&isV T v x
      | _ => Ad)
    |_ => Ad
noncomputable def EG(n : Ae)(T : Tc)(x : Ae) : Ac Ao -> Es -> An
 |[], .nil => Ab
 |y::ys, .cons e es => HV y&&Eu n T x y e&&EG n T x ys es
 |_, _ => Ad
noncomputable def Lf(n : Ae)(T : Tc)(x : Ae)(e : Ao)(c : E) : An := match e with
  |.BoolOp .Or ys _ => (match c with | .or es => EG n T x ys es && !ys.isEmpty|_ => Ad)
  |.BoolOp .And ys _ => (match c with | .and es => EG n T x ys es && !ys.isEmpty|_ => Ad)
  |e => HV e&&Eu n T x e c
noncomputable def Yg : E -> An
 |.isi _ _ => Ab
 |.bl _ => Ab
 |_ => Ad
noncomputable def F2 : Ae -> Tc -> Ae -> Ac A2 -> Ss -> An
  |0, _, _, _, _ => Ad
  |n+1, T, x, sts, ss => match ss with
    |.nil => sts.isEmpty
    | .cons (.asg i Ad e) ss => (match sts with
      |.Assign [.Name y _] v _::r => T.N[i]? == Aa y&&GE T y&&GU v&&Eu n T x v e&&F2 n T x r ss
      | _ => Ad)
    | .cons (.ife c a .nil) ss => (match sts with
      |.If t xs [] _::r => Lf n T x t c&&F2 n T x xs a&&F2 n T x r ss
      | _ => Ad)
    | .cons (.ret e) ss => (match sts with
      |.Return (Aa v) _::r => Yg e&&Eu n T x v e&&F2 n T x r ss
      | _ => Ad)
    |_ => Ad
noncomputable def Ll : E -> An
 |.var _ => Ab
 |.cmp _ a b => Jv a&&Jv b
 |_ => Ad
noncomputable def Jf(n : Ae)(T : Tc)(st : A2)(s : S) : An := match s with
  |.expr (.call f as) => (match st with | .Expr v _ => A1 n T v (.call f as)&&Hs as|_ => Ad)
  |.asg i Ad (.call f as) => (match st with | .Assign [.Name y _] v _ => T.N[i]? == Aa y&&GE T y&&A1 n T v (.call f as)&&Hs as|_ => Ad)
  |_ => Ad
noncomputable def Ht : Ae -> Ae -> Tc -> A2 -> S -> An
  |0, n, T, st, s => Jf n T st s
  | m+1, n, T, st, s => Jf n T st s||(match s with
    | .ife c (.cons a .nil) (.cons b .nil) => (match st with
      |.If t [xs] [ys] _ => GC n T t c&&Ll c&&Ht m n T xs a&&Ht m n T ys b
      | _ => Ad)
    | _ => Ad)
mutual
noncomputable def EM : Ae -> Tc -> A2 -> S -> An
  |0, _, _, _ => Ad
  |n+1, T, st, s => match s with
    |.pass => Ad
    |.brk => Ad
    |.cont => Ad
    |.asg i _ e => (match st with | .Assign [.Name x _] v _ => T.N[i]? == Aa x&&GE T x&&A1 n T v e|_ => Ad)
    |.asgT ts e => Ad
    |.expr e => (match st with | .Expr v _ => GU v&&A1 n T v e|_ => Ad)
    |.ret e => (match st with | .Return (Aa v) _ => A1 n T v e|_ => Ad)
    |.retN => Ad
    |.ife c a b => (match st with | .If t xs ys _ => GC n T t c&&chkSs n T xs a&&chkSs n T ys b|_ => Ad)
    |.fors t it body => (match st with | .For (.Name x _) iter xs [] _ => tgC T [t] [x]&&Jn iter&&chkI n T Ad iter it&&chkSs n T xs body|_ => Ad)
    |.forT ts it body => (match st with | .For (.Tuple ys _ _) iter xs [] _ => (Fn ys).isSome&&tgC T ts (tgN ys)&&Jn iter&&chkI n T Ab iter it&&chkSs n T xs body|_ => Ad)
    |.whl c body => Ad
    |.rais c as => !(T.rzs.any fun p => p.2==c)||(match st with | .Raise (Aa (.Call (.Name g _) (x::xs) [] _)) Af _ => inX T.rzs g c&&glB T g&&Fu g&&decide (xs.length <= 1000)&&chkEs n T (x::xs) as|_ => Ad)
    |.tryx bs c x h => (match bs with | .cons b .nil => (match st with | .Try [bt] [.ExceptHandler (Aa (.Name g _)) (Aa m) (h0::hs) _] [] [] _ => inX T.exs g c&&inX T.rzs g c&&glB T g&&Fu g&&T.N[x]? == Aa m&&T.sc.names.lookup m==Aa .local&&Ht 6 n T bt b&&F2 n T x (h0::hs) h|_ => Ad)|_ => Ad)
    |.app i e => Ad
    |.ext i e => Ad
    |.rev i => Ad
    |.clr i => Ad
    |.put i k e => (match st with | .Assign [.Subscript (.Name x _) y _] v _ => isV T x i&&Kg y&&A1 n T y k&&A1 n T v e|_ => Ad)
    |.swp _ _ _ => Ad
    |.apop _ _ _ => Ad
    |.ins _ _ _ => Ad
    |.dput _ _ _ => Ad
    |.dsd _ _ _ => Ad
    |.rel _ => Ad
noncomputable def chkSs : Ae -> Tc -> Ac A2 -> Ss -> An
  |0, _, _, _ => Ad
  |n+1, T, sts, ss => match ss with
    |.nil => sts.isEmpty
    |.cons (.rel i) ss => chkSs n T sts ss
    | .cons s ss => (match sts with
      |st::r => EM n T st s&&chkSs n T r ss
      | [] => Ad)
end
noncomputable def FK(fuel : Ae)(hot : An)(fns : Ac (Aj × Ae × Ae))(bl : Ac Aj)(rzs exs gls : Ac (Aj × Ae))(ps N : Ac Aj)(st : A2)(df : Df) : An:=
  let sc := BL st
  sc.kind==.function && !sc.isCoroutine && !sc.isGenerator&&Hm N&&N.take ps.length==ps&&ps.all (fun x => sc.names.lookup x==Aa .local||sc.names.lookup x==Aa .cell)&&sc.names.all (fun y => y.2 != .free)&&N.length==df.n &&
  (match hot with
  |true => F2 fuel ⟨sc, N, fns, bl, rzs, exs, gls⟩ 0 (DS st) df.body
  | false => chkSs fuel ⟨sc, N, fns, bl, rzs, exs, gls⟩ (DS st) df.body)
structure XT (up : Ae -> Ac Ae) (xn : Ae -> Ac D -> R Ex) (CL : ClA) (rzs exs : Ac (Aj × Ae)) (K : Fg) (mg : Aj -> Am Ah) : Prop where
 xc : ∀ c C, CL c = Aa C -> XcOk K C
 rz : ∀ p ∈ rzs, ∃ C, CL p.2 = Aa C /\ mg p.1 = Aa (.ref C)
 ex : ∀ p ∈ exs, ∃ C, mg p.1 = Aa (.ref C) /\ Ig K CL up p.2 C /\ ∀ c D, CL c = Aa D -> AF K (.ref D) (.ref C) = Aa ((up c).contains p.2)
 made : ∀ c C ds, CL c = Aa C -> xn c ds = .bad \/ (xn c ds = .ok ⟨c, []⟩ /\ CQ K C Af = Ab) \/ ∃ f, XIn K mg C f /\ Js xn c f ds
 nf : ∀ c C, CL c = Aa C -> ∀ f : Aj, (f==("triple" : Aj)||f==("points" : Aj)) = Ab -> Ey K C = Ab /\ At K (.ref C) f = Aa Af
 xb : ∀ c, (∀ p ∈ rzs, p.2 ≠ c) -> ∀ ds, xn c ds = .bad
noncomputable def Jy(K : Fg)(mg : Aj -> Am Ah)(CL : ClA)(x : Aj)(d : D) : Prop := ∃ u v, mg x = Aa u /\ A7 v u /\ ∀ H A, Rep K CL H A v d
structure VX (Γ : Gam) (CL : ClA) (k : Ae) (W : XW) (T : Tc) (X : Cx) : Prop where
 sc : X.env.scope = T.sc
 kd : T.sc.kind = .function
 N : X.N = T.N
 nd : T.N.Nodup
 calm : X.calm = Ab
 room : Room k X.A
 bl : ∀ x, x ∈ T.bl -> X.mg x = Af
 fn : ∀ p ∈ T.fns, ∃ f fd ps, X.mg p.1 = Aa (.ref f) /\ Bs X.K (.ref f) = Ab /\ DV X.K fd ps [] /\ ps.length = p.2.2%1000 /\ (p.2.2<1000 -> FnOk X.prog X.w X.K X.mg X.base (CXR X.prog X.w) k f fd ps (spD X.K CL (p.2.2%1000) (Γ.fr p.2.1) (Γ.F p.2.1))) /\ (1000 <= p.2.2 -> HotOk X.prog X.w X.K X.mg X.base k f fd ps (spH X.K CL (p.2.2%1000) (Γ.fr p.2.1) (Γ.F p.2.1)))
 own : DE (model X.prog X.w) X.A X.env X.xe
 px : ∀ A, Hk (CXR X.prog X.w) X (EKW X.K CL A W)
 rz : Ix X CL W
 xt : XT Γ.up Γ.xn CL T.rzs T.exs X.K X.mg
 gl : ∀ p ∈ T.gls, Jy X.K X.mg CL p.1 (Γ.G p.2)
theorem KS : ∀ A, Hk (CXR X.prog X.w) X (EKW X.K CL A W0) := fun A pI σ H s ev s' I h => by
 obtain⟨e, T, cls, dx, H', _, _, _, _, _, _, _, _, _, _, x, _, w⟩ := h;exact w.elim
theorem Lj : Ix X CL W0 := fun _ _ _ _ _ _ _ _ _ _ _ _ _ _ z => z.elim
noncomputable def Rf{α : Type}(g f : Rho -> R α) : Prop := ∀ ρ, g ρ = .bad \/ g ρ = f ρ
section
variable{X : Cx}{CL : ClA}{W : XW}{a : Ao}{f g : Rho -> R D}
theorem SE.ref(h : SE X CL W a f)(r : Rf g f) : SE X CL W a g := fun A => PE.weak (h A) fun σ H Q ⟨hA, ρ, q, p⟩ => ⟨hA, ρ, q, by
 rcases r ρ with e|e
 ·rw[e]at p;exact p.elim
 ·rw[e]at p;exact p⟩
theorem SB.ref{f g : Rho -> R An}(h : SB X CL W a f)(r : Rf g f) : SB X CL W a g := fun A => PT.weak (h A) fun σ H Q ⟨hA, ρ, q, p⟩ => ⟨hA, ρ, q, by
 rcases r ρ with e|e
 ·rw[e]at p;exact p.elim
 ·rw[e]at p;exact p⟩
theorem SW.ref{f g : Rho -> R An}(h : SW X CL W a f)(r : Rf g f) : SW X CL W a g := fun A => PW.weak (h A) fun σ H Q ⟨hA, ρ, q, p⟩ => ⟨hA, ρ, q, by
 rcases r ρ with e|e
 ·rw[e]at p;exact p.elim
 ·rw[e]at p;exact p⟩
theorem SC.ref(h : SC X CL W fr a f)(r : Rf g f) : SC X CL W fr a g := fun A => PE.weak (h A) fun σ H Q ⟨hA, ρ, q, p⟩ => ⟨hA, ρ, q, by
 rcases r ρ with e|e
 ·rw[e]at p;exact p.elim
 ·rw[e]at p;exact p⟩
theorem SS.ref{st : A2}{f g : Rho -> O}(h : SS X CL W st f)(r : ∀ ρ, g ρ = .bad \/ g ρ = f ρ) : SS X CL W st g := fun Fz B => PS.weak (h Fz B) fun D σ H ⟨ρ, x, p⟩ => ⟨ρ, x, by
 rcases r ρ with e|e
 ·rw[e]at p;exact p.elim
 ·rw[e]at p;exact p⟩
end
theorem GP : ∀{l : Ac Aj}, Hm l = Ab -> l.Nodup
 |[], _ => List.nodup_nil
 |x::xs, h => by
  unfold Hm at h;simp only[Ak, A4, Pn, decide_eq_false_iff_not]at h;exact List.nodup_cons.mpr ⟨h.1, GP h.2⟩
section
variable{T : Tc}{X : Cx}{Γ : Gam}{CL : ClA}{k : Ae}{W : XW}
theorem MZ(h : Li T x = Ab) : Vis T.sc x := by
 unfold Li at h;split at h
 ·exact .inl (by assumption)
 ·exact .inr (.inl (by assumption))
 ·exact .inr (.inr (by assumption))
 ·cases h
theorem H9(h : GE T x = Ab) : Loc T.sc x := by
 unfold GE at h;split at h
 ·exact .inl (by assumption)
 ·exact .inr (by assumption)
 ·cases h
theorem Fo(h : Fu x = Ab) : (x==("__debug__" : Aj)) = Ad /\ (x==("__classdict__" : Aj)) = Ad /\ x ≠ "__name__" := by
 unfold Fu at h;simp only[Ak, A4]at h;exact⟨h.1.1, h.1.2, fun e => by subst e;exact absurd h.2 (by simp)⟩
theorem Jj{i : Ae}(v : VX Γ CL k W T X)(h : isV T x i = Ab) : PE X (.Name x pos) (EK i) := by
 unfold isV at h;simp only[Ak, AM]at h;obtain⟨h2, h3, _⟩ := Fo h.2;exact Ji (by rw[v.N];exact h.1.1) (by rw[v.sc];exact MZ h.1.2) h2 h3
theorem F1(v : VX Γ CL k W T X)(h : isB T x = Ab) : Gl X x /\ X.mg x = Af /\ x ≠ "__name__" /\ (x==("__debug__" : Aj)) = Ad := by
 unfold isB glB at h;simp only[Ak, AM, Pn, AK]at h;obtain⟨h2, h3, h4⟩ := Fo h.2;exact⟨by show X.env.scope.names.lookup x = _;rw[v.sc];exact h.1.2, v.bl x h.1.1, h4, h2⟩
theorem Dr{x:Ao}(h : D6 x = Ab) : Ar (x::xs) env = (Ad, eval x env)::Ar xs env := by
 cases x <;> first|rfl|cases h
theorem R6(h : Kg y = Ab) : Kq y := by
 intro o i;cases y <;> first|rfl|cases h
theorem Kz{e : Ao}(h : Jn e = Ab) : ∀ x, B2 e env x = pure x := by
 intro x;cases e <;> first|rfl|cases h
theorem Ic{e : Ao}{t : Am Ao}(h : GU e = Ab) : Co e t l env = pure Ad := by
 cases e <;> first|rfl|cases h
theorem IS{e : Ao}(h : HV e = Ab) : ∀ whole, FQ e env whole = (do let v <-whole;GJ e.pos;holding [v] (truthy v)) := by
 intro whole;cases e <;> first|rfl|cases h
theorem Q5(v : VX Γ CL k W T X)(scope : Bz) : relabel scope X.env = K5 T.sc scope := by
 unfold relabel K5;have : ∀ n, X.env.kindOf n = T.sc.names.lookup n := fun n => by show X.env.scope.names.lookup n = _;rw[v.sc]
 simp only[this, v.sc]
theorem ND{N':Ac Aj}(v : VX Γ CL k W T X)(h : Jx T scope ts N' = Ab) : BlockOk X scope N' ts /\ N'.Nodup /\ scope.kind = .function := by
 unfold Jx at h;simp only[Ak, AM, CM, BR, E8, HH]at h;obtain⟨⟨⟨⟨⟨h1, h2⟩, h4⟩, h5⟩, h6⟩, h7⟩ := h;have at7 : ∀ i x, N'[i]? = Aa x -> i ∈ ts \/ ((scope.names.lookup x ≠ Aa .local /\ scope.names.lookup x ≠ Aa .cell) /\ (scope.names.lookup x ≠ Aa .free \/ T.N[i]? = Aa x)) := fun i x e => by
  have hi := (AZ.mp e).1;have := h7 i (Cp.mpr hi);rcases this with z|z
  ·exact .inl (by simpa using z)
  ·rw[e]at z;simp only[Ak, E8, HH, BR, AM]at z;exact .inr z
 refine⟨⟨h1, h2, fun y hy hl => by rw[h2 y hy, hl], fun y hy hf => ?_, by rw[v.N];exact h5, fun i x e hf hn => ?_, fun i x e hl => ?_⟩, GP h6, h1⟩
 ·rw[v.sc];rcases h4 y hy with (z|z)|z
  ·exact absurd hf z
  ·exact .inl z
  ·exact .inr z
 ·rw[v.N];rcases at7 i x e with z|⟨_, z⟩
  ·exact absurd z hn
  ·exact z.resolve_left fun q => q hf
 ·rcases at7 i x e with z|⟨z, _⟩
  ·exact z
  ·exact hl.elim (fun q => absurd q z.1) (fun q => absurd q z.2)
theorem VX.blk{xs:Ac Aj}{cl : Ac (Aj × Ai)}{s : Al}{fp:Ac Ai}(v : VX Γ CL k W T X)(h : Jx T scope ts (Ir ts xs T.N) = Ab) : VX Γ CL k W0 (T.blk scope ts xs) (cxC X scope cl C (Ir ts xs T.N) s H fp) := by
 obtain⟨_, h2, h3⟩ := ND v h;exact⟨Q5 v scope, h3, rfl, h2, v.calm, v.room, v.bl, v.fn, PassesOwn.never, KS, Lj, v.xt, v.gl⟩
theorem S1{t : Ae}(v : VX Γ CL k W T X)(hfn : scope.names.lookup x = Aa .cell -> X.fn x = Ab)(h : tgO T scope t x = Ab) : PG X (.Name x pos) (E3 t) := by
 unfold tgO at h;simp only[Ak, BR, AM]at h;rcases h with ⟨h1, h2|h2⟩
 ·exact IW (by rw[v.N];exact v.nd) (by rw[v.N];exact h1) (by rw[v.sc];exact .inl h2) (.inr (by rw[v.sc];exact h2))
 ·exact IW (by rw[v.N];exact v.nd) (by rw[v.N];exact h1) (by rw[v.sc];exact .inr h2.1) (.inl (hfn h2.2))
theorem LH{r:Ac Ao}{zs:Ac Aj}(h : Fn (y::r) = Aa zs) : ∃ x p ws, y = .Name x p /\ Fn r = Aa ws /\ zs = x::ws := by
 cases y with
 |Name x p=>
  have h' : (Fn r).map (x :: ·) = Aa zs := h;cases e : Fn r with
  |none => rw[e]at h';cases h'
  |some ws => rw[e]at h';cases h';exact⟨x, p, ws, rfl, rfl, rfl⟩
 |_ => cases h
theorem Mg(x : Aj)(p : AJ)(r : Ac Ao)(env : BB) : Cj (.Name x p::r) env = (Ad, assign (.Name x p) env)::Cj r env := rfl
theorem QJ : ∀(ys : Ac Ao)(zs : Ac Aj), Fn ys = Aa zs -> (Cj ys env).length = ys.length /\ (Cj ys env).findIdx? (·.1) = Af /\ (Cj ys env).map (·.2) = ys.map fun y => assign y env := by
 intro ys
 induction ys with
 |nil => intro _ _;exact⟨rfl, rfl, rfl⟩
 |cons y r ih=>
  intro zs h;obtain⟨x, p, ws, rfl, e, rfl⟩ := LH h;obtain⟨h1, h2, h3⟩ := ih ws e;rw[Mg];refine⟨?_, ?_, ?_⟩
  ·rw[BW, BW, h1]
  ·rw[List.findIdx?_cons, h2];simp
  ·rw[Cm, Cm, h3]
end
noncomputable def Es.len : Es -> Ae
 |.nil => 0
 |.cons _ es => es.len+1
theorem Jc(Γ : Gam)(ρ : Rho) : ∀(es : Es)(ds : Ac D), evA Γ ρ es = .ok ds -> ds.length = es.len
 |.nil, ds, h => by cases h;rfl
 |.cons e es, ds, h => by
  obtain⟨x, h1, h2⟩ := GO (MH Γ ρ e es ▸ h);obtain⟨xs, h3, h4⟩ := GO h2;cases h4;exact congrArg (· + 1) (Jc Γ ρ es xs h3)
theorem Ib(Γ : Gam)(ρ : Rho) : ∀(es : Es)(ds : Ac D), evB Γ ρ es = .ok ds -> ds.length = es.len
 |.nil, ds, h => by cases h;rfl
 |.cons e es, ds, h => by
  obtain⟨x, h1, h2⟩ := GO (Kd Γ ρ e es ▸ h);obtain⟨xs, h3, h4⟩ := GO h2;cases h4;exact congrArg (· + 1) (Ib Γ ρ es xs h3)
theorem Ny(Γ : Gam)(ρ : Rho)(e : E)(h : shE ρ e = Ab) : top ρ e (evE Γ ρ e) = evE Γ ρ e := by
 cases e with
 |var i=>
  show DJ ρ i = DW ρ i;have h' : shV ρ i = Ab := h;unfold shV at h';unfold DJ DW;cases q : ρ[i]? with
  |none => rfl
  |some x=>
   cases x with
   |none => rfl
   |some y=>
    obtain⟨d, o⟩ := y;cases o with
    |true => rw[q]at h';cases h'
    |false => rfl
 |_ => rfl
theorem Il(Γ : Gam)(ρ : Rho) : ∀(es : Es), Fs ρ es = Ab -> evB Γ ρ es = evA Γ ρ es
 |.nil, _ => rfl
 |.cons e es, h => by
  simp only[Q2, Ak]at h;rw[MH, Kd, Ny Γ ρ e h.1, Il Γ ρ es h.2]
theorem Kv(Γ : Gam)(c : E) : Rf (fun ρ => evE Γ ρ c) (fun ρ => top ρ c (evE Γ ρ c)) := fun ρ => by
 by_cases h : shE ρ c = Ab
 ·exact .inr (Ny Γ ρ c h).symm
 ·cases c with
  |var i=>
   refine .inl ?_;show DW ρ i = .bad;have h' : ¬ shV ρ i = Ab := h;unfold shV at h';unfold DW;cases q : ρ[i]? with
   |none => rfl
   |some x=>
    cases x with
    |none => rfl
    |some y=>
     obtain⟨d, o⟩ := y;cases o with
     |true => rfl
     |false => rw[q]at h';exact absurd rfl h'
  |_ => exact absurd rfl h
noncomputable def Pcs(X : Cx)(CL : ClA)(W : XW)(e : Ao)(f : Rho -> R D) : Prop := ∃ tg iter elt ifs scope pos N' ts fi fc fe as g, e = .ListComp elt [⟨tg, iter, ifs, 0⟩] scope pos /\ BlockOk X scope N' ts /\ SI X CL W tg iter fi /\ GG X.K CL ts as g /\
 (∀ cl C s H fp, PG (cxC X scope cl C N' s H fp) tg g) /\ (∀ cl C s H fp, STs (cxC X scope cl C N' s H fp) CL ifs fc) /\ (∀ cl C s H fp, SE (cxC X scope cl C N' s H fp) CL W0 elt fe) /\ (∀ x, B2 iter X.env x = pure x) /\
 ∀ ρ, f ρ = (fi ρ).bind fun xs => (noX (B9 (fun x => (as x ρ).bind fc) (fun x => (as x ρ).bind fe) xs)).bind fun ys => .ok (.lst ys)
theorem Pcs.sc{e : Ao}{f : Rho -> R D}(hc : X.calm = Ab)(h : Pcs X CL W e f) : SC X CL W Ab e f := by
 obtain⟨tg, iter, elt, ifs, scope, pos, N', ts, fi, fc, fe, as, g, rfl, B, hi, hGG, hg, ht, he, hs, ef⟩ := h;exact SC.congr (TJ hc B hi hGG hg ht he hs) ef
structure OkE (Γ : Gam) (CL : ClA) (W : XW) (X : Cx) (e : Ao) (c : E) : Prop where
 se : SE X CL W e (fun ρ => evE Γ ρ c)
 st : ST X CL W e (fun ρ => top ρ c (evE Γ ρ c))
 nw : EL Γ c = Ab -> SC X CL W Ab e (fun ρ => evE Γ ρ c)
 cp : GU e = Ad -> Pcs X CL W e (fun ρ => evE Γ ρ c)
section
variable{Γ : Gam}{CL : ClA}{W : XW}{X : Cx}{e : Ao}{c : E}
theorem DG(h : SE X CL W e (fun ρ => evE Γ ρ c))(ht : ∀ ρ r, top ρ c r = r)(hn : EL Γ c = Ad)(hc : GU e = Ab) : OkE Γ CL W X e c:=
 ⟨h, by simp only[ht];exact h.st, fun z => absurd z (by rw[hn];decide), fun z => absurd z (by rw[hc];decide)⟩
theorem KU(h : SC X CL W Ab e (fun ρ => evE Γ ρ c))(ht : ∀ ρ r, top ρ c r = r)(hc : GU e = Ab) : OkE Γ CL W X e c:=
 ⟨h.se, by simp only[ht];exact h.se.st, fun _ => h, fun z => absurd z (by rw[hc];decide)⟩
theorem W6(hc : X.calm = Ab)(h : Pcs X CL W e (fun ρ => evE Γ ρ c))(ht : ∀ ρ r, top ρ c r = r) : OkE Γ CL W X e c:=
 ⟨(h.sc hc).se, by simp only[ht];exact(h.sc hc).se.st, fun _ => h.sc hc, fun _ => h⟩
end
theorem XM{k:Ki}(h : K2 k = Aa x) : ∃ T, tyK k = Aa T /\ B7 x = Aa (.type T) := by
 cases k <;> simp only[K2]at h <;> cases h
 ·exact⟨_, rfl, PR⟩
 ·exact⟨_, rfl, PyProof.Rows.boot_bool⟩
 ·exact⟨_, rfl, PyProof.Rows.boot_str⟩
 ·exact⟨_, rfl, PU⟩
 ·exact⟨_, rfl, PV⟩
structure Snd (Γ : Gam) (CL : ClA) (k : Ae) (n : Ae) : Prop where
 e : ∀(W : XW)(T : Tc)(X : Cx)(x : Ao)(c : E), VX Γ CL k W T X -> A1 n T x c = Ab -> OkE Γ CL W X x c
 b : ∀(W : XW)(T : Tc)(X : Cx)(x : Ao)(c : E), VX Γ CL k W T X -> GC n T x c = Ab -> SB X CL W x (fun ρ => (top ρ c (evE Γ ρ c)).bind Bc)
 bs : ∀(W : XW)(T : Tc)(X : Cx)(xs : Ac Ao)(es : Es)(pos : AJ), VX Γ CL k W T X -> chkBs n T xs es = Ab -> xs ≠ [] -> SW X CL W (.BoolOp .And xs pos) (fun ρ => (evN Γ ρ es).bind Bc) /\ SW X CL W (.BoolOp .Or xs pos) (fun ρ => (evO Γ ρ es).bind Bc)
 es : ∀(W : XW)(T : Tc)(X : Cx)(xs : Ac Ao)(es : Es), VX Γ CL k W T X -> chkEs n T xs es = Ab -> SA X CL W xs (fun ρ => evA Γ ρ es) /\ SAT X CL W xs (fun ρ => evB Γ ρ es) /\ xs.length = es.len /\ (∀ pos, xs ≠ [] -> SE X CL W (.BoolOp .And xs pos) (fun ρ => evN Γ ρ es) /\ SE X CL W (.BoolOp .Or xs pos) (fun ρ => evO Γ ρ es)) /\ (∀ pos, (By pos (Ar xs X.env)).any (·.1) = Ad)
 o : ∀(W : XW)(T : Tc)(X : Cx)(x : Am Ao)(c : E), VX Γ CL k W T X -> chkO n T x c = Ab -> SO X CL W x (fun ρ => (top ρ c (evE Γ ρ c)).bind (slE c))
 t : ∀(T : Tc)(X : Cx)(xs : Ac Ao)(c : E), VX Γ CL k W0 T X -> chkT n T xs c = Ab -> STs X CL xs (fun ρ => (top ρ c (evE Γ ρ c)).bind Bc)
 i : ∀(W : XW)(T : Tc)(X : Cx)(tu : An)(tg x : Ao)(i : I), VX Γ CL k W T X -> ON tu tg = Ab -> chkI n T tu x i = Ab -> SI X CL W tg x (fun ρ => evI Γ ρ i)
section
variable{Γ : Gam}{CL : ClA}{W : XW}{k n : Ae}{T : Tc}{X : Cx}
theorem R5 : Snd Γ CL k 0 := ⟨fun _ _ _ _ _ _ h => absurd (show Ad = Ab from h) Aq, fun _ _ _ _ _ _ h => absurd (show Ad = Ab from h) Aq, fun _ _ _ _ _ _ _ h => absurd (show Ad = Ab from h) Aq, fun _ _ _ _ _ _ h => absurd (show Ad = Ab from h) Aq, fun _ _ _ _ _ _ h => absurd (show Ad = Ab from h) Aq, fun _ _ _ _ _ h => absurd (show Ad = Ab from h) Aq, fun _ _ _ _ _ _ _ _ _ h => absurd (show Ad = Ab from h) Aq⟩
theorem LC{x:Ao}(h : D6 x = Ab)(hx : (By pos (Ar xs env)).any (·.1) = Ad) : (By pos (Ar (x::xs) env)).any (·.1) = Ad := by
 rw[Dr h];show (Ad||(By pos (Ar xs env)).any (·.1)) = Ad;rw[hx];rfl
theorem U7(S : Snd Γ CL k n)(W : XW)(T : Tc)(X : Cx)(xs : Ac Ao)(es : Es)(v : VX Γ CL k W T X)(h : chkEs (n+1) T xs es = Ab) : SA X CL W xs (fun ρ => evA Γ ρ es) /\ SAT X CL W xs (fun ρ => evB Γ ρ es) /\ xs.length = es.len /\ (∀ pos, xs ≠ [] -> SE X CL W (.BoolOp .And xs pos) (fun ρ => evN Γ ρ es) /\ SE X CL W (.BoolOp .Or xs pos) (fun ρ => evO Γ ρ es)) /\ (∀ pos, (By pos (Ar xs X.env)).any (·.1) = Ad) := by
 cases xs with
 |nil=>
  cases es with
  |nil => exact⟨NS, MU, rfl, fun _ z => absurd rfl z, fun _ => rfl⟩
  |cons => simp[chkEs]at h
 |cons x xs=>
  cases es with
  |nil => simp[chkEs]at h
  |cons e es=>
   simp only[chkEs, Ak]at h;obtain⟨⟨h0, h1⟩, h2⟩ := h;have he := S.e W T X x e v h1;obtain⟨a1, a2, a3, a4, a5⟩ := S.es W T X xs es v h2;refine⟨MV he.se a1 (Dr h0), Ms he.st a2 (Dr h0), congrArg (· + 1) a3, fun pos _ => ?_, fun pos => LC h0 (a5 pos)⟩
   cases xs with
   |nil=>
    cases es with
    |nil => exact⟨KA he.se, KA he.se⟩
    |cons => cases a3
   |cons y ys=>
    cases es with
    |nil => cases a3
    |cons e' es'=>
     obtain⟨b1, b2⟩ := a4 pos (by simp)
     exact⟨NQ he.se b1, Ws he.se b2⟩
theorem WD(S : Snd Γ CL k n)(W : XW)(T : Tc)(X : Cx)(x : Am Ao)(c : E)(v : VX Γ CL k W T X)(h : chkO (n+1) T x c = Ab) : SO X CL W x (fun ρ => (top ρ c (evE Γ ρ c)).bind (slE c)) := by
 cases x with
 |none=>
  simp only[chkO]at h;split at h
  ·exact TC
  ·cases h
 |some x=>
  simp only[chkO]at h;split at h
  ·cases h
  ·rename_i hne;have q := TB (S.e W T X x c v h).st;have e : slE c = fun d => (Dq d).bind fun i => .ok (Aa i) := by
    funext d
    cases c <;> first|rfl|exact absurd rfl hne
   rw[e];exact q
theorem WB(S : Snd Γ CL k n)(T : Tc)(X : Cx)(xs : Ac Ao)(c : E)(v : VX Γ CL k W0 T X)(h : chkT (n+1) T xs c = Ab) : STs X CL xs (fun ρ => (top ρ c (evE Γ ρ c)).bind Bc) := by
 cases xs with
 |nil=>
  simp only[chkT]at h;split at h
  ·exact SH
  ·cases h
 |cons x xs=>
  cases xs with
  |nil=>
   simp only[chkT]at h;exact SG (S.b W0 T X x c v h)
  |cons y ys => simp[chkT]at h
theorem WE(S : Snd Γ CL k n)(W : XW)(T : Tc)(X : Cx)(tu : An)(tg x : Ao)(i : I)(v : VX Γ CL k W T X)(ht' : ON tu tg = Ab)(h : chkI (n+1) T tu x i = Ab) : SI X CL W tg x (fun ρ => evI Γ ρ i) := by
 have ht : tu = Ab -> XB tg = Ab := fun z => by
  subst z;cases tg <;> first|rfl|cases ht'
 cases i with
 |e a=>
  simp only[chkI]at h;exact XX (S.e W T X x a v h).se
 |rng a=>
  simp only[chkI]at h;split at h
  ·simp only[Ak, AM]at h;obtain⟨⟨⟨rfl, h1⟩, h2⟩, h3⟩ := h;obtain⟨g1, g2, _, _⟩ := F1 v h1;exact Vg (S.e W T X _ a v h3).st g1 g2 (Dr h2)
  ·cases h
 |rng2 a b=>
  simp only[chkI]at h;split at h
  ·simp only[Ak, AM]at h;obtain⟨⟨⟨⟨⟨rfl, h1⟩, h2⟩, h3⟩, h4⟩, h5⟩ := h;obtain⟨g1, g2, _, _⟩ := F1 v h1;exact TF (S.e W T X _ a v h4).st (S.e W T X _ b v h5).st g1 g2 (by rw[Dr h2, Dr h3];rfl) (by rw[Dr h3];rfl)
  ·cases h
 |zip a b => simp[chkI]at h
 |zip3 a b c => simp[chkI]at h
 |enm a => simp[chkI]at h
theorem Hg{c:Prop}[Dz c]{b : An} : (if c then R.ok (D.bl b) else .bad) = .bad \/ ∃ b', (if c then R.ok (D.bl b) else .bad) = .ok (.bl b') := by
 by_cases h : c
 ·rw[AB h];exact .inr ⟨_, rfl⟩
 ·rw[AE h];exact .inl rfl
theorem RW(op : CZ)(d d' : D) : Bj op d d' = .bad \/ ∃ b, Bj op d d' = .ok (.bl b) := by
 cases op with
 |Eq => exact Hg
 |NotEq => exact Hg
 |In=>
  cases d' with
  |lst ys => exact Hg
  |tup ys => exact Hg
  |dic kvs=>
   show (match GF d with|some k => R.ok (D.bl (kvs.any fun p => p.1==k))|none => .bad) = .bad \/ ∃ b, (match GF d with|some k => R.ok (D.bl (kvs.any fun p => p.1==k))|none => .bad) = .ok (.bl b)
   cases GF d with
   |some k => exact .inr ⟨_, rfl⟩
   |none => exact .inl rfl
  |_ => cases d <;> exact .inl rfl
 |NotIn=>
  cases d' with
  |lst ys => exact Hg
  |tup ys => exact Hg
  |_ => cases d <;> exact .inl rfl
 |Is=>
  cases d' with
  |non => cases d <;> first|exact .inr ⟨_, rfl⟩|exact .inl rfl
  |_ => cases d <;> first|exact .inl rfl|exact .inr ⟨_, rfl⟩
 |IsNot=>
  cases d' with
  |non => cases d <;> first|exact .inr ⟨_, rfl⟩|exact .inl rfl
  |_ => cases d <;> first|exact .inl rfl|exact .inr ⟨_, rfl⟩
 |_=>
  cases d with
  |int i => cases d' <;> first|exact .inr ⟨_, rfl⟩|exact .inl rfl
  |_ => exact .inl rfl
theorem M3(op : CZ)(d d' : D) : (Bj op d d').bind Bc = .bad \/ (Bj op d d').bind Bc = (Bj op d d').bind Cy := by
 rcases RW op d d' with h|⟨b, h⟩
 ·rw[h];exact .inl rfl
 ·rw[h];exact .inr rfl
theorem NC(e e' : E)(es : Es) : Rf (fun ρ => (evN Γ ρ (.cons e (.cons e' es))).bind Bc) (fun ρ => ((top ρ e (evE Γ ρ e)).bind Bc).bind fun c => if c = Ab then (evN Γ ρ (.cons e' es)).bind Bc else .ok Ad) := fun ρ => by
 have e0 : evN Γ ρ (.cons e (.cons e' es)) = (evE Γ ρ e).bind fun x => (Cy x).bind fun c => if c = Ab then evN Γ ρ (.cons e' es) else .ok (.bl Ad) := rfl
 dsimp only;rw[e0];rcases Kv Γ e ρ with z|z <;> dsimp only at z
 ·rw[z];exact .inl rfl
 ·rw[<-z];cases evE Γ ρ e with
  |bad => exact .inl rfl
  |exn x => exact .inr rfl
  |ok d=>
   cases d with
   |bl b => cases b <;> exact .inr rfl
   |_ => exact .inl rfl
theorem NB(e e' : E)(es : Es) : Rf (fun ρ => (evO Γ ρ (.cons e (.cons e' es))).bind Bc) (fun ρ => ((top ρ e (evE Γ ρ e)).bind Bc).bind fun c => if c = Ab then .ok Ab else (evO Γ ρ (.cons e' es)).bind Bc) := fun ρ => by
 have e0 : evO Γ ρ (.cons e (.cons e' es)) = (evE Γ ρ e).bind fun x => (Cy x).bind fun c => if c = Ab then .ok (.bl Ab) else evO Γ ρ (.cons e' es) := rfl
 dsimp only;rw[e0];rcases Kv Γ e ρ with z|z <;> dsimp only at z
 ·rw[z];exact .inl rfl
 ·rw[<-z];cases evE Γ ρ e with
  |bad => exact .inl rfl
  |exn x => exact .inr rfl
  |ok d=>
   cases d with
   |bl b => cases b <;> exact .inr rfl
   |_ => exact .inl rfl
theorem Rf.tru(e : E) : Rf (fun ρ => (evE Γ ρ e).bind Bc) (fun ρ => (top ρ e (evE Γ ρ e)).bind Bc) := fun ρ => by
 rcases Kv Γ e ρ with z|z <;> dsimp only at z ⊢
 ·rw[z];exact .inl rfl
 ·rw[<-z];exact .inr rfl
theorem U8(S : Snd Γ CL k n)(W : XW)(T : Tc)(X : Cx)(xs : Ac Ao)(es : Es)(pos : AJ)(v : VX Γ CL k W T X)(h : chkBs (n+1) T xs es = Ab)(hne : xs ≠ []) : SW X CL W (.BoolOp .And xs pos) (fun ρ => (evN Γ ρ es).bind Bc) /\ SW X CL W (.BoolOp .Or xs pos) (fun ρ => (evO Γ ρ es).bind Bc) := by
 cases xs with
 |nil => exact absurd rfl hne
 |cons x xs=>
  cases es with
  |nil => simp[chkBs]at h
  |cons e es=>
   simp only[chkBs, Ak]at h;obtain⟨h1, h2⟩ := h;have he := S.b W T X x e v h1;cases xs with
   |nil=>
    cases es with
    |nil => exact⟨SW.ref (MO he) (Rf.tru e), SW.ref (Np he) (Rf.tru e)⟩
    |cons=>
     cases n with
     |zero => simp[chkBs]at h2
     |succ n => simp[chkBs]at h2
   |cons y ys=>
    cases es with
    |nil=>
     cases n with
     |zero => simp[chkBs]at h2
     |succ n => simp[chkBs]at h2
    |cons e' es'=>
     obtain⟨b1, b2⟩ := S.bs W T X (y::ys) (.cons e' es') pos v h2 (by simp)
     exact⟨SW.ref (Nq he b1) (NC e e' es'), SW.ref (Oj he b2) (NB e e' es')⟩
theorem S0(S : Snd Γ CL k n){x:Ao}{ops:Ac CZ}{b : BI}(v : VX Γ CL k W T X)(h : OM T (A1 n) x ops ys b as = Ab) : SB X CL W (.Compare x ops ys pos) (fun ρ => (top ρ (.bi b as) (evE Γ ρ (.bi b as))).bind Bc) := by
 exact absurd (show Ad = Ab from h) Aq
theorem WG(S : Snd Γ CL k n)(W : XW)(T : Tc)(X : Cx)(x : Ao)(c : E)(v : VX Γ CL k W T X)(h : GC (n+1) T x c = Ab) : SB X CL W x (fun ρ => (top ρ c (evE Γ ρ c)).bind Bc) := by
 have plain : ∀ e, HV e = Ab -> A1 n T e c = Ab -> SB X CL W e (fun ρ => (top ρ c (evE Γ ρ c)).bind Bc) := fun e h1 h2 => Jg (S.e W T X e c v h2).st (IS h1)
 simp only[GC]at h;split at h
 ·split at h
  ·rename_i a;refine SB.ref (UQ (S.b W T X _ a v h)) fun ρ => ?_
   show ((top ρ a (evE Γ ρ a)).bind fun x => (Cy x).bind fun b => .ok (.bl (!b))).bind Bc = .bad \/ ((top ρ a (evE Γ ρ a)).bind fun x => (Cy x).bind fun b => .ok (.bl (!b))).bind Bc = _
   cases top ρ a (evE Γ ρ a) with
   |bad => exact .inl rfl
   |exn x => exact .inr rfl
   |ok d => cases d <;> first|exact .inr rfl|exact .inl rfl
  ·cases h
 ·split at h
  ·simp only[Ak, A4, BU]at h;exact(S.bs W T X _ _ _ v h.1 h.2).1.sb
  ·cases h
 ·split at h
  ·simp only[Ak, A4, BU]at h;exact(S.bs W T X _ _ _ v h.1 h.2).2.sb
  ·cases h
 ·split at h
  ·split at h
   ·rename_i op a b _ _ op' y;simp only[Ak, A4, AK]at h;obtain⟨⟨⟨rfl, h1⟩, h2⟩, h3⟩ := h;refine SB.ref (UR (Hc v.room.units _) (S.e W T X _ a v h2).st (S.e W T X _ b v h3).st h1) fun ρ => ?_
    show ((top ρ a (evE Γ ρ a)).bind fun x => (top ρ b (evE Γ ρ b)).bind fun y => Bj op' x y).bind Bc = .bad \/ ((top ρ a (evE Γ ρ a)).bind fun x => (top ρ b (evE Γ ρ b)).bind fun y => Bj op' x y).bind Bc = _
    cases top ρ a (evE Γ ρ a) with
    |bad => exact .inl rfl
    |exn x => exact .inr rfl
    |ok d=>
     cases top ρ b (evE Γ ρ b) with
     |bad => exact .inl rfl
     |exn x => exact .inr rfl
     |ok d'=>
      dsimp only[R.bind];exact M3 _ d d'
   ·cases h
  ·split at h
   ·rename_i op1 op2 a b c _ _ o1 o2 y z;simp only[Ak, A4, AK]at h;obtain⟨⟨⟨⟨⟨rfl, rfl⟩, h1⟩, h2⟩, h3⟩, h4⟩ := h;refine SB.ref (Sa v.room.units (S.e W T X _ a v h2).st (S.e W T X _ b v h3).st (S.e W T X _ c v h4).st h1) fun ρ => ?_
    show ((top ρ a (evE Γ ρ a)).bind fun x => (top ρ b (evE Γ ρ b)).bind fun y => (Bj o1 x y).bind fun z => (Cy z).bind fun k => if k = Ab then (top ρ c (evE Γ ρ c)).bind fun u => Bj o2 y u else .ok (.bl Ad)).bind Bc = .bad \/ ((top ρ a (evE Γ ρ a)).bind fun x => (top ρ b (evE Γ ρ b)).bind fun y => (Bj o1 x y).bind fun z => (Cy z).bind fun k => if k = Ab then (top ρ c (evE Γ ρ c)).bind fun u => Bj o2 y u else .ok (.bl Ad)).bind Bc = _
    cases top ρ a (evE Γ ρ a) with
    |bad => exact .inl rfl
    |exn x => exact .inr rfl
    |ok d=>
     cases top ρ b (evE Γ ρ b) with
     |bad => exact .inl rfl
     |exn x => exact .inr rfl
     |ok d'=>
      dsimp only[R.bind];cases Bj o1 d d' with
      |bad => exact .inl rfl
      |exn x => exact .inr rfl
      |ok d3=>
       cases d3 with
       |bl k=>
        cases k with
        |false => exact .inr rfl
        |true=>
         dsimp only[R.bind, Cy];rw[AB rfl, AB rfl];cases top ρ c (evE Γ ρ c) with
         |bad => exact .inl rfl
         |exn x => exact .inr rfl
         |ok d4 => exact M3 _ d' d4
       |_ => exact .inl rfl
   ·cases h
  ·exact S0 S v h
  ·cases h
 ·simp only[Ak]at h;exact plain _ h.1 h.2
end
section
variable{Γ : Gam}{CL : ClA}{W : XW}{k n : Ae}{T : Tc}{X : Cx}
theorem XN{b : BI}{x:Ao}(v : VX Γ CL k W T X)(hb : K3 b = Aa g)(hg : isB T g = Ab)(hs : SAT X CL W (x::xs) (fun ρ => evB Γ ρ as))(h0 : D6 x = Ab)(hpl : ∀ pos, (By pos (Ar xs X.env)).any (·.1) = Ad) : OkE Γ CL W X (.Call (.Name g p) (x::xs) [] pos) (.bi b as) := by
 obtain⟨g1, g2, g3, g4⟩ := F1 v hg;cases b <;> simp only[K3]at hb <;> cases hb
 ·exact DG (KB We g1 g2 PySem.boot_len hs g3 g4 (Dr h0) hpl) (fun _ _ => rfl) rfl rfl
 ·exact DG (KB (Wd v.calm) g1 g2 PyProof.Rows.boot_max hs g3 g4 (Dr h0) hpl) (fun _ _ => rfl) rfl rfl
 ·exact DG (NP Wf g1 g2 PR hs g3 g4 (Dr h0) hpl) (fun _ _ => rfl) rfl rfl
 ·exact KU (Vd Us g1 g2 PU hs g3 g4 (Dr h0) hpl) (fun _ _ => rfl) rfl
 ·exact DG (NP RY g1 g2 PV hs g3 g4 (Dr h0) hpl) (fun _ _ => rfl) rfl rfl
 ·exact DG (KB (Wg v.calm) g1 g2 PyProof.Rows.boot_all hs g3 g4 (Dr h0) hpl) (fun _ _ => rfl) rfl rfl
theorem Ik{l:Ac (Aj × Ae)}(h : inX l g c = Ab) : (g, c) ∈ l := by
 unfold inX at h;simp only[Dh, Ak, AM]at h;obtain⟨p, hp, rfl, rfl⟩ := h;exact hp
theorem G8{x:Ao}{es : Es}(h : chkEs n T (x::xs) es = Ab) : D6 x = Ab /\ ∃ e es', es = .cons e es' /\ ∃ m, n = m+1 /\ chkEs m T xs es' = Ab := by
 cases n with
 |zero => simp[chkEs]at h
 |succ m=>
  cases es with
  |nil => simp[chkEs]at h
  |cons e es=>
   simp only[chkEs, Ak]at h;exact⟨h.1.1, e, es, rfl, m, rfl, h.2⟩
theorem HL : ∀(m : Ae)(xs : Ac Ao)(es : Es), chkEs m T xs es = Ab -> ∀ pos, (By pos (Ar xs X.env)).any (·.1) = Ad := by
 intro m
 induction m with
 |zero => intro xs es h;simp[chkEs]at h
 |succ m ih=>
  intro xs es h pos;cases xs with
  |nil => rfl
  |cons x xs=>
   obtain⟨h0, e, es', rfl, m', e1, h1⟩ := G8 h;cases e1;exact LC h0 (ih xs es' h1 pos)
theorem UT(S : Snd Γ CL k n){x:Ao}{b : BI}(v : VX Γ CL k W T X)(h : (match Lw as with|some a => (match OR x with|some y => decide (b = .rvs)&&A1 n T y a|none => Ad)|none => Ad) = Ab) : OkE Γ CL W X x (.bi b as) := by
 simp[Lw]at h
theorem U4(S : Snd Γ CL k n){x:Ao}{b : BI}(v : VX Γ CL k W T X)(h : (match K7 as with|some (a, c) => (match O2 x with|some (y, z, _) => decide (b = .tlt) && !behindInMarks .Lt z&&A1 n T y a&&A1 n T z c|none => Ad)|none => Ad) = Ab) : OkE Γ CL W X x (.bi b as) := by
 simp[K7]at h
theorem V2{x:Ao}{b : BI}(v : VX Γ CL k W T X)(h : OY T x b as = Ab) : OkE Γ CL W X x (.bi b as) := by
 exact absurd h Aq
theorem U5(S : Snd Γ CL k n){x:Ao}{b : BI}(v : VX Γ CL k W T X)(h : (match K8 as with|some (a, k) => (match OP x with|some (y, j) => decide (b = .stp)&&decide (j = k)&&decide (0 <= k)&&A1 n T y a|none => Ad)|none => Ad) = Ab) : OkE Γ CL W X x (.bi b as) := by
 simp[K8]at h
theorem Vm(S : Snd Γ CL k n){x:Ao}{b : BI}(v : VX Γ CL k W T X)(h : (match Lb as with|some (a, c) => (match O7 x with|some (g, h, y, z) => decide (b = .list)&&g==("list" : Aj)&&h==("range" : Aj)&&isB T g&&isB T h&&D6 y&&D6 z&&A1 n T y a&&A1 n T z c|none => Ad)|none => Ad) = Ab) : OkE Γ CL W X x (.bi b as) := by
 simp[Lb]at h
theorem S3(S : Snd Γ CL k n){x:Ao}{b : BI}(v : VX Γ CL k W T X)(h : (match K9 as with|some a => (match OK x with|some (g, h, y) => decide (b = .lset)&&g==("len" : Aj)&&h==("set" : Aj)&&isB T g&&isB T h&&D6 y&&A1 n T y a|none => Ad)|none => Ad) = Ab) : OkE Γ CL W X x (.bi b as) := by
 simp[K9]at h
theorem WF(S : Snd Γ CL k n)(W : XW)(T : Tc)(X : Cx)(x : Ao)(c : E)(v : VX Γ CL k W T X)(h : A1 (n+1) T x c = Ab) : OkE Γ CL W X x c := by
 cases c with
 |non=>
  unfold A1 at h;dsimp only at h;split at h
  ·exact DG UI (fun _ _ => rfl) rfl rfl
  ·cases h
 |bl b=>
  unfold A1 at h;dsimp only at h;split at h
  ·have e := eq_of_beq h;subst e;exact DG Of (fun _ _ => rfl) rfl rfl
  ·cases h
 |int i=>
  unfold A1 at h;dsimp only at h;split at h
  ·have e := Yr h;subst e;exact DG UN (fun _ _ => rfl) rfl rfl
  ·cases h
 |str i=>
  unfold A1 at h;dsimp only at h;split at h
  ·have e := Yr h;subst e;exact DG Nw (fun _ _ => rfl) rfl rfl
  ·cases h
 |var i=>
  unfold A1 at h;dsimp only at h;split at h
  ·exact⟨Nv (Jj v h), Hl (Jj v h), fun z => (nomatch z), fun z => (nomatch z)⟩
  ·cases h
 |glob g => exact absurd (show Ad = Ab from h) Aq
 |bin op a b=>
  unfold A1 at h;dsimp only at h;split at h
  ·simp only[Ak, AK]at h;obtain⟨⟨rfl, h1⟩, h2⟩ := h;have ha := (S.e W T X _ a v h1).st;have hb := (S.e W T X _ b v h2).st;refine⟨NO (Nd _) ha hb, (NO (Nd _) ha hb).st, fun z => ?_, fun z => nomatch z⟩
   rename_i op' _ _;cases op' <;> first|exact Ve ha hb|cases z
  ·cases h
 |un op a => exact absurd (show Ad = Ab from h) Aq
 |no a=>
  unfold A1 at h;dsimp only at h;split at h
  ·exact DG (Nx (S.e W T X _ a v h).st) (fun _ _ => rfl) rfl rfl
  ·cases h
 |and es=>
  unfold A1 at h;dsimp only at h;split at h
  ·simp only[Ak, A4, BU]at h;exact DG ((S.es W T X _ es v h.1).2.2.2.1 _ h.2).1 (fun _ _ => rfl) rfl rfl
  ·cases h
 |or es=>
  unfold A1 at h;dsimp only at h;split at h
  ·simp only[Ak, A4, BU]at h;exact DG ((S.es W T X _ es v h.1).2.2.2.1 _ h.2).2 (fun _ _ => rfl) rfl rfl
  ·cases h
 |cmp op a b=>
  unfold A1 at h;dsimp only at h;split at h
  ·simp only[Ak, A4, AK]at h;obtain⟨⟨⟨rfl, h1⟩, h2⟩, h3⟩ := h;exact DG (UP (Hc v.room.units _) (S.e W T X _ a v h2).st (S.e W T X _ b v h3).st h1) (fun _ _ => rfl) rfl rfl
  ·cases h
 |cmp2 op1 op2 a b c=>
  unfold A1 at h;dsimp only at h;split at h
  ·simp only[Ak, A4, AK]at h;obtain⟨⟨⟨⟨⟨rfl, rfl⟩, h1⟩, h2⟩, h3⟩, h4⟩ := h;exact DG (R8 v.room.units (S.e W T X _ a v h2).st (S.e W T X _ b v h3).st (S.e W T X _ c v h4).st h1) (fun _ _ => rfl) rfl rfl
  ·cases h
 |ite c a b => exact absurd (show Ad = Ab from h) Aq
 |call f as=>
  unfold A1 at h;dsimp only at h;split at h
  ·rename_i g pp y ys qq;simp only[Ak, Dh, AM, AK]at h;obtain⟨⟨⟨⟨⟨p, hp, ⟨rfl, rfl⟩, hl⟩, h900⟩, h1⟩, h2⟩, h3⟩ := h;obtain⟨fa, fd, ps, m1, m2, m3, m4, m5, _⟩ := v.fn p hp;have hlt : p.2.2<1000 := by omega
   rw[Ff hlt]at m4 m5;have m5 := m5 hlt;obtain⟨n2, n3, n4⟩ := Fo h2;obtain⟨a1, a2, a3, a4, a5⟩ := S.es W T X _ as v h3;obtain⟨s0, e, es', rfl, m, rfl, s1⟩ := G8 h3;have q : SC X CL W (Γ.fr p.2.1) (.Call (.Name p.1 pp) (y::ys) [] qq) (fun ρ => evE Γ ρ (.call p.2.1 (.cons e es'))) := TK (sh := fun ρ => Fs ρ (.cons e es')) m5 v.room (by unfold glB at h1;show X.env.scope.names.lookup p.1 = _;rw[v.sc];exact eq_of_beq h1) m1 m2 m3 v.px a1 a2 (fun ρ z => Il Γ ρ _ z) (fun ρ ds z => by rw[Ib Γ ρ _ _ z, <-a3, hl];rfl) n2 (Dr s0) (HL m ys es' s1)
   exact⟨q.se, q.se.st, fun z => by
    have z' : Γ.fr p.2.1 = Ab := z;rw[z']at q;exact q, fun z => nomatch z⟩
  ·cases h
 |bi b as=>
  unfold A1 at h;dsimp only at h;simp only[BR]at h;rcases h with (((((h|h)|h)|h)|h)|h)|h
  ·split at h
   ·simp only[Ak, AM]at h;obtain⟨⟨h1, h2⟩, h3⟩ := h;obtain⟨s0, e, es', rfl, m, rfl, s1⟩ := G8 h3;exact XN v h1 h2 (S.es W T X _ _ v h3).2.1 s0 (HL m _ es' s1)
   ·cases h
  ·exact V2 v h
  ·exact Vm S v h
  ·exact U5 S v h
  ·exact S3 S v h
  ·exact U4 S v h
  ·exact UT S v h
 |isi a ks=>
  cases ks with
  |nil => exact absurd (show Ad = Ab from h) Aq
  |cons k' ks=>
   cases ks with
   |cons => exact absurd (show Ad = Ab from h) Aq
   |nil=>
    unfold A1 at h;dsimp only at h;split at h
    ·simp only[Ak, AM]at h;obtain⟨⟨⟨⟨⟨rfl, h1⟩, h2⟩, h3⟩, h4⟩, h5⟩ := h;obtain⟨g1, g2, _, _⟩ := F1 v h1;obtain⟨b1, b2, b3, b4⟩ := F1 v h3;obtain⟨ty, t1, t2⟩ := XM h2;exact DG (UL t1 g1 g2 b1 b2 t2 b3 b4 (S.e W T X _ a v h5).st (Dr h4)) (fun _ _ => rfl) rfl rfl
    ·cases h
 |idx a i=>
  unfold A1 at h;dsimp only at h;split at h
  ·simp only[Ak]at h;obtain⟨⟨h1, h2⟩, h3⟩ := h;exact DG (UO (R6 h1) (S.e W T X _ a v h2).st (S.e W T X _ i v h3).st) (fun _ _ => rfl) rfl rfl
  ·cases h
 |sl a lo hi=>
  unfold A1 at h;dsimp only at h;split at h
  ·simp only[Ak]at h;obtain⟨⟨h1, h2⟩, h3⟩ := h;refine KU (SC.congr (Wr (S.e W T X _ a v h1).st (S.o W T X _ lo v h2) (S.o W T X _ hi v h3)) fun ρ => ?_) (fun _ _ => rfl) rfl
   show ((top ρ a (evE Γ ρ a)).bind fun x => (top ρ lo (evE Γ ρ lo)).bind fun l => (slE lo l).bind fun l' => (top ρ hi (evE Γ ρ hi)).bind fun h => (slE hi h).bind fun h' => slD x l' h') = _
   simp only[R.bind_assoc]
  ·cases h
 |tup es=>
  unfold A1 at h;dsimp only at h;split at h
  ·simp only[Ak, AK]at h;have q := S.es W T X _ es v h.1;exact DG (UH q.1 fun ρ ds z => by rw[Jc Γ ρ _ _ z, <-q.2.2.1];omega) (fun _ _ => rfl) rfl rfl
  ·cases h
 |lst es=>
  unfold A1 at h;dsimp only at h;split at h
  ·simp only[Ak, AK]at h;have q := S.es W T X _ es v h.1;exact KU (Vc q.1 fun ρ ds z => by rw[Jc Γ ρ _ _ z, <-q.2.2.1];omega) (fun _ _ => rfl) rfl
  ·cases h
 |comp elt t it c=>
  unfold A1 at h;dsimp only at h;split at h
  ·simp only[Ak]at h;obtain⟨⟨⟨⟨⟨h1, h2⟩, h3⟩, h4⟩, h5⟩, h6⟩ := h;refine W6 v.calm ⟨_, _, _, _, _, _, _, _, _, _, _, _, _, rfl, (ND v h3).1, S.i W T X Ad _ _ it v rfl h1, Uh t, fun cl C s H fp => S1 (v.blk h3) (fun z => AM.mpr z) h4, fun cl C s H fp => S.t _ _ _ c (v.blk h3) h5, fun cl C s H fp => (S.e W0 _ _ _ elt (v.blk h3) h6).se, Kz h2, fun ρ => rfl⟩ (fun _ _ => rfl)
  ·cases h
 |compT elt ts it c => exact absurd (show Ad = Ab from h) Aq
 |tupI it => exact absurd (show Ad = Ab from h) Aq
 |dnew => exact absurd (show Ad = Ab from h) Aq
 |fld o f => exact absurd (show Ad = Ab from h) Aq
theorem snd : ∀ n, Snd Γ CL k n
 |0 => R5
 |n+1 => ⟨WF (snd n), WG (snd n), U8 (snd n), U7 (snd n), WD (snd n), WB (snd n), WE (snd n)⟩
end
section
variable{Γ : Gam}{CL : ClA}{W : XW}{k n : Ae}{T : Tc}{X : Cx}
theorem Sy{t : Ae}(v : VX Γ CL k W T X)(hf : ∀ x, X.fn x = Ab)(h : tgC T [t] [x] = Ab) : PG X (.Name x pos) (E3 t) := by
 unfold tgC at h;simp only[Ak, AM]at h;exact IW (by rw[v.N];exact v.nd) (by rw[v.N];exact h.1.1) (by rw[v.sc];exact H9 h.1.2) (.inl (hf x))
theorem Sz(v : VX Γ CL k W T X)(hf : ∀ x, X.fn x = Ab) : ∀(ys : Ac Ao)(ts : Ac Ae)(zs : Ac Aj), Fn ys = Aa zs -> tgC T ts zs = Ab -> PGs X ys (ts.foldr (fun t u => Ip (E3 t) u) Iw) /\ ts.length = ys.length := by
 intro ys
 induction ys with
 |nil=>
  intro ts zs e h;cases e;cases ts with
  |nil => exact⟨Tb, rfl⟩
  |cons t ts => cases h
 |cons y r ih=>
  intro ts zs e h;obtain⟨x, p, ws, rfl, e2, rfl⟩ := LH e;cases ts with
  |nil => cases h
  |cons t ts=>
   have h' : (T.N[t]? == Aa x&&GE T x&&tgC T ts ws) = Ab := h;simp only[Ak, AM]at h';obtain⟨h1, h2⟩ := ih ts ws e2 h'.2;exact⟨Sk (IW (by rw[v.N];exact v.nd) (by rw[v.N];exact h'.1.1) (by rw[v.sc];exact H9 h'.1.2) (.inl (hf x))) h1 (by rw[Mg];rfl), congrArg (· + 1) h2⟩
theorem Sw(v : VX Γ CL k W T X)(hf : ∀ x, X.fn x = Ab)(hn : (Fn ys).isSome = Ab)(h : tgC T ts (tgN ys) = Ab) : PG X (.Tuple ys kk pos) (Ls X.K ts.length (ts.foldr (fun t u => Ip (E3 t) u) Iw)) := by
 cases e : Fn ys with
 |none => rw[e]at hn;cases hn
 |some zs=>
  have e2 : tgN ys = zs := by unfold tgN;rw[e];rfl
  rw[e2]at h;obtain⟨h1, h2⟩ := Sz v hf ys ts zs e h;obtain⟨h3, h4, _⟩ := QJ (env := X.env) ys zs e;exact VA v.calm h1 (by rw[h3, h2]) h4
theorem Rg(ts : Ac Ae) : ∀ d ρ x, E2 ts d ρ ≠ .exn x := fun d ρ x h => by
 unfold E2 at h;cases d with
 |tup xs=>
  dsimp only at h;cases e : E1 ts xs ρ with
  |some r => rw[e]at h;cases h
  |none => rw[e]at h;cases h
 |_ => cases h
theorem R0{elt:Ao}{gs:Ac Comprehension} : ∃ b, Co (.ListComp elt gs scope pos) (Aa (.Name x pos')) l env = pure b /\ (b = Ab -> env.scope.names.lookup x = Aa .local) := by
 refine⟨_, rfl, fun h => ?_⟩
 simp only[Ak, AM]at h;exact h.1.1.2
theorem KD{v0:Ao}{i : Ae}{e : E}(v : VX Γ CL k W T X)(hf : ∀ x, X.fn x = Ab)(hi : T.N[i]? = Aa x)(hl : GE T x = Ab)(o : OkE Γ CL W X v0 e)(hfr : fr = Ab -> EL Γ e = Ab) : SAs X CL W fr i (.Assign [.Name x p] v0 pos) (fun ρ => evE Γ ρ e) := by
 have hN : X.N.Nodup := by rw[v.N];exact v.nd
 have hi' : X.N[i]? = Aa x := by rw[v.N];exact hi
 have hx : Loc X.env.scope x := by rw[v.sc];exact H9 hl
 have sc : SC X CL W fr v0 (fun ρ => evE Γ ρ e) := by
  cases fr with
  |false => exact o.se.sc
  |true => exact o.nw (hfr rfl)
 cases hc : GU v0 with
 |true => exact SC.sas hN hi' hx sc (Ic hc) (.inl (hf x))
 |false=>
  obtain⟨tg, iter, elt, ifs, scope, pos2, N', ts, fi, fc, fe, as, g, rfl, B, h2, hGG, hg, ht, he, hs, ef⟩ := o.cp hc;obtain⟨b, hb, hb'⟩ := R0 (elt := elt) (gs := [⟨tg, iter, ifs, 0⟩]) (scope := scope) (pos := pos2) (pos' := p) (x := x) (l := pos.line) (env := X.env);cases b with
  |false => exact SC.sas hN hi' hx sc hb (.inl (hf x))
  |true=>
   have q := Sb (pos2 := pos) v.calm B h2 hGG hg ht he hs hN hi' (hb' rfl) hb;have q' : SAs X CL W Ab i (.Assign [.Name x p] (.ListComp elt [⟨tg, iter, ifs, 0⟩] scope pos2) pos) (fun ρ => evE Γ ρ e) := by
    have : (fun ρ => evE Γ ρ e) = _ := funext ef
    rw[this];exact q
   cases fr with
   |true => exact q'
   | false => exact fun A => PS.weak (q' A) fun D σ H ⟨hA, ρ, gd, z⟩ => ⟨hA, ρ, gd, by
     dsimp only at z ⊢;cases e0 : evE Γ ρ e with
     |ok d=>
      rw[e0]at z;exact fun v' H' s' r' => z v' H' s' ⟨r'.1, fun _ => r'.2 rfl⟩
     |exn y => rw[e0]at z;exact z
     | bad => rw[e0]at z;exact z⟩
theorem Tz{e t : Ao}(h : ∀ x p, t ≠ .Name x p) : Gb [t] e l env = pure Ad := by
 show Co e (Aa t) l env = pure Ad;cases e <;> first|rfl|(cases t <;> first|rfl|exact absurd rfl (h _ _))
theorem Me(ρ : Rho)(e : E)(h : ∀ i, e ≠ .var i) : evS Γ ρ (.ret e) = O.of ρ (evE Γ ρ e) fun d => .ret d (EL Γ e) := by
 cases e <;> first|exact absurd rfl (h _)|(simp only[evS, top, Bool.or_false])
structure DefX (X : Cx) : Prop where
 fn : ∀ x, X.fn x = Ab
 ex : X.ex = []
 st : X.stack = X.env::X.outer
 fm : X.env.frame = Aa X.env.locals
structure SndS (Γ : Gam) (CL : ClA) (k : Ae) (n : Ae) : Prop where
 s : ∀(W : XW)(T : Tc)(X : Cx)(x : A2)(c : S), VX Γ CL k W T X -> DefX X -> EM n T x c = Ab -> SS X CL W x (fun ρ => evS Γ ρ c)
 ss : ∀(W : XW)(T : Tc)(X : Cx)(x : Ac A2)(c : Ss), VX Γ CL k W T X -> DefX X -> chkSs n T x c = Ab -> SSs X CL W x (fun ρ => evSs Γ ρ c)
theorem IK(Γ : Gam)(ρ : Rho)(e : E)(h : Jv e = Ab)(y : Ex) : top ρ e (evE Γ ρ e) ≠ .exn y := by
 cases e with
 |var i=>
  intro z;have z' : DJ ρ i = .exn y := z;unfold DJ at z';split at z' <;> cases z'
 |int i => intro z;cases z
 |bl i => intro z;cases z
 |str i => intro z;cases z
 |non => intro z;cases z
 |_ => cases h
theorem JV(Γ : Gam)(ρ : Rho) : ∀(es : Es), Hs es = Ab -> ∀ y, evB Γ ρ es ≠ .exn y
 |.nil, _, y => fun z => by cases z
 |.cons e es, h, y => fun z => by
  unfold Hs at h;rw[Ak]at h;rw[Kd]at z;cases e1 : top ρ e (evE Γ ρ e) with
  |bad => rw[e1]at z;cases z
  |exn w => exact IK Γ ρ e h.1 w e1
  |ok d=>
   rw[e1, R.bind_ok]at z;cases e2 : evB Γ ρ es with
   |bad => rw[e2]at z;cases z
   |exn w => exact JV Γ ρ es h.2 w e2
   |ok ds => rw[e2]at z;cases z
theorem VX.pw(v : VX Γ CL k W T X)(own : DE (model X.prog X.w) X.A X.env Xw) : VX Γ CL k W0 T (Cx.pw X pI Xw) := ⟨v.sc, v.kd, v.N, v.nd, v.calm, v.room, v.bl, v.fn, own, KS, Lj, v.xt, v.gl⟩
theorem L6(o : O) : (o.seq fun ρ' => O.next ρ') = o := by cases o <;> rfl
theorem STB.congr{st : Ac A2}{f g : Rho -> O}(h : STB X CL st f)(e : ∀ ρ, g ρ = f ρ) : STB X CL st g := by
 have : g = f := funext e;rw[this];exact h
theorem Nn(Sn : Snd Γ CL k n)(v : VX Γ CL k W T X)(hf : DefX X){st : A2}{s : S}(h : Jf n T st s = Ab) : STB X CL [st] (fun ρ => evSs Γ ρ (.cons s .nil)) /\ ∀ ρ y ρ', evSs Γ ρ (.cons s .nil) = .exn y ρ' -> ρ' = ρ := by
 have seq : ∀ ρ, evSs Γ ρ (.cons s .nil) = evS Γ ρ s := fun ρ => L6 _
 have ofn : ∀{r : R D}{f : D -> Rho}{ρ ρ' : Rho}{y : Ex}, (O.of ρ r fun d => O.next (f d)) = .exn y ρ' -> ρ' = ρ := fun {r f ρ ρ' y} z => by
  cases r with
  |ok d => cases z
  |exn w => cases z;rfl
  |bad => cases z
 have call : ∀{e : Ao}{f : Ae}{as : Es}, A1 n T e (.call f as) = Ab -> Hs as = Ab -> ∃ g pp y ys qq, e = .Call (.Name g pp) (y::ys) [] qq /\ ∃ p ∈ T.fns, g = p.1 /\ f = p.2.1 /\ p.2.2 = ys.length+1 /\ ys.length<900 /\ glB T g = Ab /\ Fu g = Ab /\ ∃ m, n = m+1 /\ chkEs m T (y::ys) as = Ab := fun {e f as} h _ => by
  cases n with
  |zero => exact absurd (show Ad = Ab from h) Aq
  |succ m=>
   unfold A1 at h;dsimp only at h;split at h
   ·rename_i g pp y ys qq;simp only[Ak, Dh, AM, AK]at h;obtain⟨⟨⟨⟨⟨p, hp, ⟨e1, e2⟩, hl⟩, h900⟩, h1⟩, h2⟩, h3⟩ := h;exact⟨g, pp, y, ys, qq, rfl, p, hp, e1.symm, e2.symm, hl, h900, h1, h2, m, rfl, h3⟩
   ·cases h
 unfold Jf at h;split at h
 ·split at h
  ·rename_i f as v0 pos;rw[Ak]at h;obtain⟨g, pp, y, ys, qq, rfl, p, hp, rfl, rfl, hl, h900, h1, h2, m, rfl, h3⟩ := call h.1 h.2;obtain⟨fa, fd, ps, m1, m2, m3, m4, m5, _⟩ := v.fn p hp;have hlt : p.2.2<1000 := by omega
   rw[Ff hlt]at m4 m5;have m5 := m5 hlt;obtain⟨n2, n3, n4⟩ := Fo h2;obtain⟨s0, e, es', rfl, m', rfl, s1⟩ := G8 h3;have hlen : ys.length+1 = (Es.cons e es').len := (snd (Γ := Γ) (CL := CL) (k := k) (m'+1)).es W T X _ _ v h3 |>.2.2.1;refine⟨STB.congr (R1 (X := X) (fs := fun ρ => evA Γ ρ (.cons e es')) (sh := fun ρ => Fs ρ (.cons e es')) hf.ex m5 v.room (by unfold glB at h1;show X.env.scope.names.lookup p.1 = _;rw[v.sc];exact eq_of_beq h1) m1 m2 m3 (fun ρ z => Il Γ ρ _ z) (fun ρ ds z => by rw[Ib Γ ρ _ _ z, <-hlen, hl]) (fun ρ => JV Γ ρ _ h.2) n2 (Dr s0) (HL m' ys es' s1) (fun pI Xw own => by
    obtain⟨a1, a2, _⟩ := (snd (Γ := Γ) (CL := CL) (k := k) (m'+1)).es W0 T (Cx.pw X pI Xw) _ _ (v.pw own) h3;exact⟨a1, a2⟩) (Ic rfl)) fun ρ => seq ρ, fun ρ y ρ' z => ?_⟩
   rw[seq]at z;exact ofn (f := fun _ => ρ) z
  ·cases h
 ·split at h
  ·skip
   rename_i i f as st0 y0 p0 v0 pos;simp only[Ak, AM]at h;obtain⟨⟨⟨i1, i2⟩, hc⟩, hsim⟩ := h;obtain⟨g, pp, y, ys, qq, rfl, p, hp, rfl, rfl, hl, h900, h1, h2, m, rfl, h3⟩ := call hc hsim;obtain⟨fa, fd, ps, m1, m2, m3, m4, m5, _⟩ := v.fn p hp;have hlt : p.2.2<1000 := by omega
   rw[Ff hlt]at m4 m5;have m5 := m5 hlt;obtain⟨n2, n3, n4⟩ := Fo h2;obtain⟨s0, e, es', rfl, m', rfl, s1⟩ := G8 h3;have hlen : ys.length+1 = (Es.cons e es').len := (snd (Γ := Γ) (CL := CL) (k := k) (m'+1)).es W T X _ _ v h3 |>.2.2.1;refine⟨STB.congr (SK (X := X) (fs := fun ρ => evA Γ ρ (.cons e es')) (sh := fun ρ => Fs ρ (.cons e es')) (i := i) hf.ex m5 v.room (by unfold glB at h1;show X.env.scope.names.lookup p.1 = _;rw[v.sc];exact eq_of_beq h1) m1 m2 m3 (fun ρ z => Il Γ ρ _ z) (fun ρ ds z => by rw[Ib Γ ρ _ _ z, <-hlen, hl]) (fun ρ => JV Γ ρ _ hsim) n2 (Dr s0) (HL m' ys es' s1) (fun pI Xw own => by
    obtain⟨a1, a2, _⟩ := (snd (Γ := Γ) (CL := CL) (k := k) (m'+1)).es W0 T (Cx.pw X pI Xw) _ _ (v.pw own) h3;exact⟨a1, a2⟩) (by rw[v.N];exact v.nd) (by rw[v.N];exact i1) (by rw[v.sc];exact H9 i2) (.inl (hf.fn _)) (Ic rfl)) fun ρ => seq ρ, fun ρ y ρ' z => ?_⟩
   rw[seq]at z;exact ofn (f := fun d => ρ.set i (Aa (d, Ad))) z
  ·cases h
 ·cases h
theorem He{c:Prop}[Dz c]{e : Ex} : (if c then R.ok d else .bad) ≠ .exn e := by
 by_cases h : c
 ·rw[AB h];intro z;cases z
 ·rw[AE h];intro z;cases z
theorem Ut(op : CZ)(x y : D)(e : Ex) : Bj op x y ≠ .exn e := by
 cases op with
 |Eq => exact He
 |NotEq => exact He
 |In=>
  cases y with
  |lst ys => exact He
  |tup ys => exact He
  |dic kvs=>
   intro z;have z' : (match GF x with|some k => R.ok (D.bl (kvs.any fun p => p.1==k))|none => .bad) = .exn e := z
   cases h : GF x with
   |none => rw[h]at z';cases z'
   |some k => rw[h]at z';cases z'
  |_ => intro z;cases z
 |NotIn=>
  cases y with
  |lst ys => exact He
  |tup ys => exact He
  |_ => intro z;cases z
 |_ => cases x <;> first|(intro z;cases z;done)|(cases y <;> (intro z;cases z))
theorem SY(x : D)(e : Ex) : Bc x ≠ .exn e := by
 unfold Bc;split <;> first|(intro z;cases z;done)|(split <;> intro z <;> cases z)
theorem Mr(Γ : Gam)(ρ : Rho)(c : E)(h : Ll c = Ab)(y : Ex) : (top ρ c (evE Γ ρ c)).bind Bc ≠ .exn y := by
 have key : ∀ e, top ρ c (evE Γ ρ c) ≠ .exn e := by
  cases c with
  |var i => exact IK Γ ρ (.var i) rfl
  |cmp op a b=>
   unfold Ll at h;rw[Ak]at h;intro e z;have z' : ((top ρ a (evE Γ ρ a)).bind fun x => (top ρ b (evE Γ ρ b)).bind fun y => Bj op x y) = .exn e := by
    have e0 : evE Γ ρ (.cmp op a b) = ((top ρ a (evE Γ ρ a)).bind fun x => (top ρ b (evE Γ ρ b)).bind fun y => Bj op x y) := Uo Γ ρ op a b
    rw[<-e0];exact z
   cases e1 : top ρ a (evE Γ ρ a) with
   |bad => rw[e1]at z';cases z'
   |exn w => exact IK Γ ρ a h.1 w e1
   |ok d=>
    rw[e1, R.bind_ok]at z';cases e2 : top ρ b (evE Γ ρ b) with
    |bad => rw[e2]at z';cases z'
    |exn w => exact IK Γ ρ b h.2 w e2
    |ok d2 => rw[e2, R.bind_ok]at z';exact Ut _ _ _ _ z'
  |_ => cases h
 intro z;cases e1 : top ρ c (evE Γ ρ c) with
 |bad => rw[e1]at z;cases z
 |exn w => exact key w e1
 |ok d => rw[e1, R.bind_ok]at z;exact SY _ _ z
theorem Wt(Sn : Snd Γ CL k n)(v : VX Γ CL k W T X)(hf : DefX X) : ∀(m : Ae){st : A2}{s : S}, Ht m n T st s = Ab -> STB X CL [st] (fun ρ => evSs Γ ρ (.cons s .nil)) /\ ∀ ρ y ρ', evSs Γ ρ (.cons s .nil) = .exn y ρ' -> ρ' = ρ := by
 intro m
 induction m with
 |zero => intro st s h;unfold Ht at h;exact Nn Sn v hf h
 |succ m ih=>
  intro st s h;unfold Ht at h;rw[BR]at h;rcases h with h|h
  ·exact Nn Sn v hf h
  ·split at h
   ·split at h
    ·rename_i c a b st0 t xs ys pos;simp only[Ak]at h;obtain⟨⟨⟨h1, h2⟩, h3⟩, h4⟩ := h;obtain⟨a1, a2⟩ := ih h3;obtain⟨b1, b2⟩ := ih h4;have ev : ∀ ρ, evSs Γ ρ (.cons (.ife c (.cons a .nil) (.cons b .nil)) .nil) = O.of ρ ((top ρ c (evE Γ ρ c)).bind Bc) fun k => if k = Ab then evSs Γ ρ (.cons a .nil) else evSs Γ ρ (.cons b .nil) := fun ρ => L6 _
     refine⟨STB.congr (SJ (fun pI Xw own => (Sn.b W0 T (Cx.pw X pI Xw) _ _ (v.pw own) h1)) (fun ρ y => Mr Γ ρ c h2 y) a1 b1) fun ρ => ev ρ, fun ρ y ρ' z => ?_⟩
     rw[ev]at z;cases e1 : (top ρ c (evE Γ ρ c)).bind Bc with
     |bad => rw[e1]at z;cases z
     |exn w => exact absurd e1 (Mr Γ ρ c h2 w)
     |ok k=>
      rw[e1, O.of_ok]at z;cases k with
      |true => exact a2 ρ y ρ' z
      |false => exact b2 ρ y ρ' z
    ·cases h
   ·cases h
theorem Ia{i : Ae}{e : Ai}(v : VX Γ CL k W T X)(h : isV T x i = Ab) : PE (Cx.hot X e) (.Name x pos) (EK i) := by
 unfold isV at h;simp only[Ak, AM]at h;obtain⟨h2, h3, _⟩ := Fo h.2;exact Ji (by show X.N[i]? = _;rw[v.N];exact h.1.1) (by show Vis X.env.scope x;rw[v.sc];exact MZ h.1.2) h2 h3
theorem Jl{x:Ae}{t : Ao}{c:E} : ∀{n : Ae}, Eu n T x t c = Ab -> ∀ ρ r, top ρ c r = r := fun {n} h => by
 cases n with
 |zero => simp[Eu]at h
 |succ n=>
  cases c with
  |var i => simp[Eu]at h
  |_ => exact fun _ _ => rfl
theorem RX(v : VX Γ CL k W T X)(e : Ai) : ∀(ts : Ac Ao)(ks : Ac Ki), Gz T ts ks = Ab -> ∃ cs : Ac (Ae × Ai), ks = cs.map (fun q => Ki.cls q.1) /\ cs.length = ts.length /\ PA (Cx.hot X e) ts (OO (cs.map fun q : Ae × Ai => q.2)) /\ ∀ q ∈ cs, Ig X.K CL Γ.up q.1 q.2 := by
 intro ts
 induction ts with
 |nil=>
  intro ks h;cases ks with
  |nil => exact⟨[], rfl, rfl, FG, fun q hq => nomatch hq⟩
  |cons k ks => simp[Gz]at h
 |cons t ts ih=>
  intro ks h;cases t with
  |Name t p=>
   cases ks with
   |nil => simp[Gz]at h
   |cons kk ks=>
    cases kk with
    |cls c=>
     simp only[Gz, Ak]at h;obtain⟨⟨⟨h1, h2⟩, h3⟩, h4⟩ := h;obtain⟨cs, e1, e2, e3, e4⟩ := ih ks h4;obtain⟨C, m1, m3, _⟩ := v.xt.ex _ (Ik h1);obtain⟨n2, _, _⟩ := Fo h3;refine⟨(c, C)::cs, by rw[e1];rfl, by rw[BW, BW, e2], ?_, fun q hq => ?_⟩
     ·exact DR (Na (X := Cx.hot X e) (v := .ref C) (by unfold glB at h2;show X.env.scope.names.lookup t = _;rw[v.sc];exact eq_of_beq h2) m1 rfl n2) e3 rfl
     ·rcases AY.mp hq with rfl|hq
      ·exact m3
      ·exact e4 q hq
    |_ => simp[Gz]at h
  |_ => simp[Gz]at h
theorem Iq(v : VX Γ CL k W T X)(e : Ai)(x : Ae) : ∀(n : Ae)(t : Ao)(c : E), Eu n T x t c = Ab -> SE (Cx.hot X e) CL W0 t (fun ρ => evE Γ ρ c) := by
 intro n
 induction n with
 |zero => intro t c h;simp[Eu]at h
 |succ n ih=>
  intro t c h;unfold Eu at h;split at h
  ·split at h
   ·have e0 := eq_of_beq h;subst e0;exact Of
   ·cases h
  ·split at h
   ·rename_i a _ _ _;have q := (ih _ _ h).st;refine SE.congr (Nx q) fun ρ => ?_
    show ((top ρ a (evE Γ ρ a)).bind fun x => (Cy x).bind fun b => R.ok (D.bl (!b))) = _
    rw[Jl h]
   ·cases h
  ·split at h
   ·have q := ih _ _ h;exact SE.congr (KA q) fun ρ => rfl
   ·cases h
  ·split at h
   ·rw[Ak]at h;have q1 := ih _ _ h.1;have q2 := ih _ _ h.2;exact SE.congr (NQ q1 q2) fun ρ => rfl
   ·cases h
  ·split at h
   ·simp only[Ak, AM]at h;obtain⟨⟨⟨⟨⟨rfl, rfl⟩, h3⟩, h4⟩, rfl⟩, h6⟩ := h;obtain⟨g1, g2, _, _⟩ := F1 v h3;obtain⟨b1, b2, _, _⟩ := F1 v h6;exact UJ (X := Cx.hot X e) v.xt.xc g1 g2 b1 b2 (Hl (Ia v h4)) rfl
   ·cases h
  ·split at h
   ·simp only[Ak, AM]at h;obtain⟨⟨⟨⟨⟨⟨rfl, rfl⟩, h3⟩, h4⟩, h5⟩, h6⟩, h7⟩ := h;obtain⟨g1, g2, _, _⟩ := F1 v h3;obtain⟨C, m1, m3, _⟩ := v.xt.ex _ (Ik h5);obtain⟨n2, _, _⟩ := Fo h7;exact UM (X := Cx.hot X e) v.xt.xc g1 g2 (by unfold glB at h6;show X.env.scope.names.lookup _ = _;rw[v.sc];exact eq_of_beq h6) m1 m3 n2 (Hl (Ia v h4)) rfl
   ·cases h
  ·split at h
   ·simp only[Ak, AM, AK]at h;obtain⟨⟨⟨⟨⟨rfl, rfl⟩, h3⟩, h4⟩, h5⟩, h6⟩ := h;obtain⟨g1, g2, _, _⟩ := F1 v h3;obtain⟨cs, e1, e2, e3, e4⟩ := RX v e _ _ h5;have hne : cs ≠ [] := by rintro rfl;cases e1
    rw[e1];exact UK (X := Cx.hot X e) (W := W0) (up := Γ.up) v.xt.xc g1 g2 e3 hne (by rw[e2];exact h6) e4 (Hl (Ia v h4)) rfl
   ·cases h
  ·split at h
   ·rename_i f i t0 g p0 w0 p1 p2;rw[Ak]at h;obtain⟨h1, h4⟩ := h;unfold O9 at h1;simp only[Ak, Dh, AM]at h1;obtain⟨⟨⟨p, hp, ⟨rfl, rfl⟩, hl⟩, g1⟩, g2⟩ := h1;obtain⟨fa, fd, ps, m1, m2, m3, m4, _, m5⟩ := v.fn p hp;have m5 := m5 (by omega)
    obtain⟨n2, _, _⟩ := Fo g2;have hv := Ia (e := e) (pos := p1) v h4;have a1 : SA (Cx.hot X e) CL W0 [.Name w0 p1] (fun ρ => evA Γ ρ (.cons (.var i) .nil)) := MV (Nv hv) NS rfl
    have a2 : SAT (Cx.hot X e) CL W0 [.Name w0 p1] (fun ρ => evB Γ ρ (.cons (.var i) .nil)) := Ms (Hl hv) MU rfl
    exact(R9 (X := X) (ev := e) (sh := fun ρ => Fs ρ (.cons (.var i) .nil)) m5 v.room (by unfold glB at g1;show X.env.scope.names.lookup p.1 = _;rw[v.sc];exact eq_of_beq g1) m1 m2 m3 a1 a2 (fun ρ z => Il Γ ρ _ z) (fun ρ ds z => by rw[Ib Γ ρ _ _ z, hl];rfl) n2 rfl (fun _ => rfl)).se
   ·cases h
  ·split at h
   ·have e0 := eq_of_beq h;subst e0;exact Nw
   ·cases h
  ·split at h
   ·simp only[Ak, AM]at h;obtain⟨⟨⟨rfl, rfl⟩, h3⟩, h4⟩ := h;exact TH (X := Cx.hot X e) v.xt.xc (fun c C z => v.xt.nf c C z _ h3) (Hl (Ia v h4)) rfl
   ·cases h
  ·cases h
theorem Vx(v : VX Γ CL k W T X)(e : Ai)(x n : Ae)(pos : AJ) : ∀(ys : Ac Ao)(es : Es), EG n T x ys es = Ab -> ys ≠ [] -> SW (Cx.hot X e) CL W0 (.BoolOp .Or ys pos) (fun ρ => (evO Γ ρ es).bind Bc) := by
 intro ys
 induction ys with
 |nil => intro es _ h;exact absurd rfl h
 |cons y ys ih=>
  intro es h _;cases es with
  |nil => simp[EG]at h
  |cons c es=>
   simp only[EG, Ak]at h;obtain⟨⟨h1, h2⟩, h3⟩ := h;have he : SB (Cx.hot X e) CL W0 y (fun ρ => (top ρ c (evE Γ ρ c)).bind Bc) := by
    have q := Jg ((Iq v e x n y c h2).st) (IS h1);exact SB.congr q fun ρ => by rw[Jl h2]
   cases ys with
   |nil=>
    cases es with
    |nil => exact SW.ref (Np he) (Rf.tru c)
    |cons => simp[EG]at h3
   |cons z zs=>
    cases es with
    |nil => simp[EG]at h3
    |cons c' es' => exact SW.ref (Oj he (ih (.cons c' es') h3 (by simp))) (NB c c' es')
theorem Vy(v : VX Γ CL k W T X)(e : Ai)(x n : Ae)(pos : AJ) : ∀(ys : Ac Ao)(es : Es), EG n T x ys es = Ab -> ys ≠ [] -> SW (Cx.hot X e) CL W0 (.BoolOp .And ys pos) (fun ρ => (evN Γ ρ es).bind Bc) := by
 intro ys
 induction ys with
 |nil => intro es _ h;exact absurd rfl h
 |cons y ys ih=>
  intro es h _;cases es with
  |nil => simp[EG]at h
  |cons c es=>
   simp only[EG, Ak]at h;obtain⟨⟨h1, h2⟩, h3⟩ := h;have he : SB (Cx.hot X e) CL W0 y (fun ρ => (top ρ c (evE Γ ρ c)).bind Bc) := by
    have q := Jg ((Iq v e x n y c h2).st) (IS h1);exact SB.congr q fun ρ => by rw[Jl h2]
   cases ys with
   |nil=>
    cases es with
    |nil => exact SW.ref (MO he) (Rf.tru c)
    |cons => simp[EG]at h3
   |cons z zs=>
    cases es with
    |nil => simp[EG]at h3
    |cons c' es' => exact SW.ref (Nq he (ih (.cons c' es') h3 (by simp))) (NC c c' es')
theorem XG(v : VX Γ CL k W T X)(e : Ai)(x n : Ae)(t : Ao)(c : E)(h : Lf n T x t c = Ab) : SB (Cx.hot X e) CL W0 t (fun ρ => (top ρ c (evE Γ ρ c)).bind Bc) := by
 unfold Lf at h;split at h
 ·split at h
  ·simp only[Ak, A4, BU]at h;exact(Vx v e x n _ _ _ h.1 h.2).sb
  ·cases h
 ·split at h
  ·simp only[Ak, A4, BU]at h;exact(Vy v e x n _ _ _ h.1 h.2).sb
  ·cases h
 ·rw[Ak]at h;have q := Jg ((Iq v e x n _ c h.2).st) (IS h.1);exact SB.congr q fun ρ => by rw[Jl h.2]
theorem Oq(v : VX Γ CL k W T X)(hf : DefX X)(e : Ai)(x : Ae) : ∀(n : Ae)(sts : Ac A2)(ss : Ss), F2 n T x sts ss = Ab -> SSs (Cx.hot X e) CL W0 sts (fun ρ => evSs Γ ρ ss) := by
 intro n
 induction n with
 |zero => intro t c h;simp[F2]at h
 |succ n ih=>
  intro sts ss h;unfold F2 at h;split at h
  ·rw[Pu]at h;subst h;exact Ke
  ·split at h
   ·simp only[Ak, AM]at h;obtain⟨⟨⟨⟨h1, h2⟩, h3⟩, h4⟩, h5⟩ := h;exact IJ (Va (X := Cx.hot X e) (by show X.N.Nodup;rw[v.N];exact v.nd) (by show X.N[_]? = _;rw[v.N];exact h1) (by show Loc X.env.scope _;rw[v.sc];exact H9 h2) (Iq v e x n _ _ h4) (Ic h3) (.inl (hf.fn _))) (ih _ _ h5)
   ·cases h
  ·split at h
   ·simp only[Ak]at h;obtain⟨⟨h1, h2⟩, h3⟩ := h;exact IJ (Ol (X := Cx.hot X e) (XG v e x n _ _ h1) (ih _ _ h2) Ke) (ih _ _ h3)
   ·cases h
  ·split at h
   ·rename_i e0 ss0 st0 v0 pos r;simp only[Ak]at h;obtain⟨⟨h0, h1⟩, h2⟩ := h;have q := IJ (MP (X := Cx.hot X e) (pos := pos) (Iq v e x n _ _ h1)) (ih _ _ h2);have ef : (fun ρ => evSs Γ ρ (.cons (.ret e0) ss0)) = fun ρ => (O.of ρ (evE Γ ρ e0) fun d => O.ret d Ad).seq fun ρ => evSs Γ ρ ss0 := by
     funext ρ
     cases e0 <;> first|rfl|(cases h0;done)
    rw[ef];exact q
   ·cases h
  ·cases h
theorem WC(Z : SndS Γ CL k n)(W : XW)(T : Tc)(X : Cx)(st : A2)(c : S)(v : VX Γ CL k W T X)(hf : DefX X)(h : EM (n+1) T st c = Ab) : SS X CL W st (fun ρ => evS Γ ρ c) := by
  have E := snd (Γ := Γ) (CL := CL) (k := k) n;cases c with
  |pass => exact absurd (show Ad = Ab from h) Aq
  |brk => exact absurd (show Ad = Ab from h) Aq
  |cont => exact absurd (show Ad = Ab from h) Aq
  |asg i fresh e=>
    unfold EM at h;dsimp only at h;split at h
    · simp only[Ak, AM]at h;obtain⟨⟨h1, h2⟩, h3⟩ := h;have o := E.e W T X _ e v h3;cases fresh with
      |false => exact Nu (KD (fr := Ad) v hf.fn h1 h2 o (fun z => nomatch z))
      |true=>
        cases hn : EL Γ e with
        |true=>
          refine SS.ref (Tx (KD (fr := Ab) v hf.fn h1 h2 o (fun _ => hn))) fun ρ => .inr ?_
          show O.of ρ (evE Γ ρ e) (fun d => if Ab = Ab then (if EL Γ e = Ab then (match d with
            |.lst xs => .next (ρ.set i (Aa (.lst xs, Ab)))
            |.dic xs => .next (ρ.set i (Aa (.dic xs, Ab)))
            | _ => .bad) else .bad) else .next (ρ.set i (Aa (d, Ad)))) = _
          rw[hn];rfl
        |false=>
          refine SS.ref (Nu (KD (fr := Ad) v hf.fn h1 h2 o (fun z => nomatch z))) fun ρ => ?_
          have e0 : evS Γ ρ (.asg i Ab e) = O.of ρ (evE Γ ρ e) (fun d => if Ab = Ab then (if EL Γ e = Ab then (match d with
            |.lst xs => .next (ρ.set i (Aa (.lst xs, Ab)))
            |.dic xs => .next (ρ.set i (Aa (.dic xs, Ab)))
            | _ => .bad) else .bad) else .next (ρ.set i (Aa (d, Ad)))) := rfl
          rw[e0, hn];cases evE Γ ρ e with
          |ok d => exact .inl rfl
          |exn y => exact .inr rfl
          |bad => exact .inl rfl
    · cases h
  |asgT ts e => exact absurd (show Ad = Ab from h) Aq
  |expr e=>
    unfold EM at h;dsimp only at h;split at h
    · simp only[Ak]at h;exact Tw (E.e W T X _ e v h.2).se (Ic h.1)
    · cases h
  |ret e=>
    unfold EM at h;dsimp only at h;split at h
    · have o := E.e W T X _ e v h;cases hv : EL Γ e with
      |true=>
        refine SS.ref (Tv (o.nw hv)) fun ρ => .inr ?_
        rw[Me ρ e (fun i z => by subst z;cases hv), hv]
      |false=>
        cases e with
        |var i=>
          cases n with
          |zero => exact absurd (show Ad = Ab from h) Aq
          |succ n=>
            unfold A1 at h;dsimp only at h;split at h
            · exact SM (Jj v h)
            · cases h
        |_=>
          refine SS.ref (MP o.se) fun ρ => .inr ?_
          rw[Me ρ _ (by intro i z;cases z), hv]
    · cases h
  |retN => exact absurd (show Ad = Ab from h) Aq
  |ife c a b=>
    unfold EM at h;dsimp only at h;split at h
    · simp only[Ak]at h;exact Ol (E.b W T X _ c v h.1.1) (Z.ss W T X _ a v hf h.1.2) (Z.ss W T X _ b v hf h.2)
    · cases h
  |fors t it body=>
    unfold EM at h;dsimp only at h;split at h
    · simp only[Ak]at h;obtain⟨⟨⟨h1, h2⟩, h3⟩, h4⟩ := h;exact Nt v.own v.calm (Ug t) (Sy v hf.fn h1) (E.i W T X Ad _ _ it v rfl h3) (Z.ss W T X _ body v hf h4) (Kz h2) (fun _ _ _ z => nomatch z)
    · cases h
  |forT ts it body=>
    unfold EM at h;dsimp only at h;split at h
    · simp only[Ak]at h;obtain⟨⟨⟨⟨h0, h1⟩, h2⟩, h3⟩, h4⟩ := h;exact Nt v.own v.calm (Vz ts) (Sw v hf.fn h0 h1) (E.i W T X Ab _ _ it v rfl h3) (Z.ss W T X _ body v hf h4) (Kz h2) (Rg ts)
    · cases h
  |whl c body => exact absurd (show Ad = Ab from h) Aq
  |rais c as=>
    unfold EM at h;dsimp only at h;cases hc : T.rzs.any (fun p => p.2==c) with
    |false=>
      have hb : ∀ ds, Γ.xn c ds = .bad := v.xt.xb c fun p hp z => by
        have : T.rzs.any (fun p => p.2==c) = Ab := List.any_eq_true.mpr ⟨p, hp, AM.mpr z⟩
        rw[hc]at this;cases this
      intro Fz B pI s σ H D I ⟨ρ, x, p⟩;have p' : Bq X.K CL Fz B W (O.of ρ (noX (evA Γ ρ as)) fun xs => O.of ρ (Γ.xn c xs) fun x => .exn x ρ) D := p
      cases e1 : evA Γ ρ as with
      |bad => rw[e1]at p';exact p'.elim
      |exn y => rw[e1]at p';exact p'.elim
      |ok ds=>
        rw[e1]at p';have p2 : Bq X.K CL Fz B W (O.of ρ (Γ.xn c ds) fun x => .exn x ρ) D := p'
        rw[hb ds]at p2;exact p2.elim
    |true=>
      rw[hc, Bool.not_true, Bool.false_or]at h;split at h
      · rename_i g np x xs cpos pos;simp only[Ak, AK]at h;obtain⟨⟨⟨⟨h1, h2⟩, h3⟩, h4⟩, h5⟩ := h;obtain⟨C, m1, m2⟩ := v.xt.rz _ (Ik h1);obtain⟨n2, _, _⟩ := Fo h3;obtain⟨s0, e, es', rfl, m, rfl, s1⟩ := G8 h5;have q := E.es W T X _ _ v h5;exact Q1 v.calm hf.ex v.room v.rz (by unfold glB at h2;show X.env.scope.names.lookup g = _;rw[v.sc];exact eq_of_beq h2) m2 n2 m1 q.1 (fun ds => v.xt.made c C ds m1) (Dr s0) (HL m xs es' s1) (fun ρ ds z => by rw[Jc Γ ρ _ _ z, <-q.2.2.1, BW];omega)
      · cases h
  |app i e => exact absurd (show Ad = Ab from h) Aq
  |ext i e => exact absurd (show Ad = Ab from h) Aq
  |rev i => exact absurd (show Ad = Ab from h) Aq
  |clr i => exact absurd (show Ad = Ab from h) Aq
  |put i k e=>
    unfold EM at h;dsimp only at h;split at h
    · simp only[Ak]at h;obtain⟨⟨⟨h1, h2⟩, h4⟩, h5⟩ := h;rename_i x p y sp v0 pos;exact Vb (Jj v h1) (E.e W T X _ k v h4).st (E.e W T X _ e v h5).se (fun w => by cases y <;> first|rfl|cases h2) (Tz (fun _ _ z => by cases z)) rfl rfl
    · cases h
  |tryx body c x hd=>
    cases body with
    |nil => exact absurd (show Ad = Ab from h) Aq
    |cons b bs=>
      cases bs with
      |cons => exact absurd (show Ad = Ab from h) Aq
      |nil=>
        unfold EM at h;dsimp only at h;split at h
        · rename_i bt g p1 m h0 hs hp pos;simp only[Ak, AM, AK]at h;obtain⟨⟨⟨⟨⟨⟨⟨i1, i0⟩, i2⟩, i3⟩, i4⟩, i5⟩, i6⟩, i7⟩ := h;obtain⟨C, m1, m3, m4⟩ := v.xt.ex _ (Ik i1);obtain⟨C0, r1, r2⟩ := v.xt.rz _ (Ik i0);have m2 : XcOk X.K C := by
            have e0 := m1.symm.trans r2;cases e0;exact v.xt.xc _ _ r1
          obtain⟨n2, _, _⟩ := Fo i3;obtain⟨t1, t2⟩ := Wt E v hf 6 i6;refine SS.ref (U9 (up := Γ.up) (c := c) (i := x) hf.ex hf.st hf.fm (by rw[v.N];exact v.nd) (by rw[v.N];exact i4) (by rw[v.sc];exact i5) (by unfold glB at i2;show X.env.scope.names.lookup g = _;rw[v.sc];exact eq_of_beq i2) m1 n2 m2 (fun c' D hc hD => by rw[m4 c' D hD, hc]) t1 t2 (fun e => Oq v hf e x n _ _ i7)) fun ρ => .inr ?_
          rw[RU];unfold OX;cases evSs Γ ρ (.cons b .nil) <;> rfl
        · cases h
  |swp i k l => exact absurd (show Ad = Ab from h) Aq
  |apop j i e => exact absurd (show Ad = Ab from h) Aq
  |ins => exact absurd (show Ad = Ab from h) Aq
  |dput => exact absurd (show Ad = Ab from h) Aq
  |dsd => exact absurd (show Ad = Ab from h) Aq
  |rel => exact absurd (show Ad = Ab from h) Aq
theorem U6(Z : SndS Γ CL k n)(W : XW)(T : Tc)(X : Cx)(xs : Ac A2)(c : Ss)(v : VX Γ CL k W T X)(hf : DefX X)(h : chkSs (n+1) T xs c = Ab) : SSs X CL W xs (fun ρ => evSs Γ ρ c) := by
 cases c with
 |nil=>
  simp only[chkSs, Pu]at h;subst h;exact Ke
 |cons s ss=>
  by_cases hr : ∃ i, s = .rel i
  ·obtain⟨i, rfl⟩ := hr;simp only[chkSs]at h;exact SL i (Z.ss W T X xs ss v hf h)
  ·cases xs with
   |nil => cases s <;> first|(simp[chkSs]at h;done)|exact absurd ⟨_, rfl⟩ hr
   |cons st r=>
    have h' : EM n T st s = Ab /\ chkSs n T r ss = Ab := by
     cases s <;> first|(simp only[chkSs, Ak]at h;exact h)|exact absurd ⟨_, rfl⟩ hr
    exact IJ (Z.s W T X st s v hf h'.1) (Z.ss W T X r ss v hf h'.2)
theorem Lk : ∀ n, SndS Γ CL k n
 |0 => ⟨fun _ _ _ _ _ _ _ h => absurd (show Ad = Ab from h) Aq, fun _ _ _ _ _ _ _ h => absurd (show Ad = Ab from h) Aq⟩
 |n+1 => ⟨WC (Lk n), U6 (Lk n)⟩
end
theorem HP{n:Ae}{ds : Ac D}{i : Ae}{o : An}(h : (B8 n ds)[i]? = Aa (Aa (d, o))) : o = Ad /\ ds[i]? = Aa d := by
 unfold B8 at h;by_cases hi : i<ds.length
 ·rw[Dt (by simpa using hi), DO]at h
  cases e : ds[i]? with
  |none => rw[e]at h;cases h
  |some x => rw[e]at h;cases h;exact⟨rfl, rfl⟩
 ·rw[Ps (by simpa using Nat.le_of_not_lt hi), Pt]at h
  split at h <;> cases h
theorem Q0{N : Ac Aj}{vs:Ac V}{i : Ae}{v:V}(h : vs[i]? = Aa v) : (L2.start N vs)[i]? = Aa (Aa v) := by
 unfold L2.start;have hi := (AZ.mp h).1;rw[Dt (by simpa using hi), DO, h]
 rfl
theorem Mq{N : Ac Aj}{n:Ae}{vs:Ac V}{ds : Ac D}(hn : N.length = n)(hA : AOk H A)(r : Reps K CL H A vs ds) : Sx K CL (fun b o => H b = Aa o) A (B8 n ds) (L2.start N vs) H := by
 have own : ∀ a, Bg A (B8 n ds) (L2.start N vs) a -> A a := fun a h => by
  rcases h with h|⟨j, d, h, _⟩
  ·exact h
  ·exact absurd (HP h).1 (by decide)
 have hlen : (B8 n ds).length = (L2.start N vs).length := by
  unfold B8 L2.start;simp only[Cu, CY, Pw, r.length, hn]
 refine⟨⟨fun i d h => ?_, fun i d h => absurd (HP h).1 (by decide), hlen⟩, fun a h => hA a (own a h), fun j d a h _ => absurd (HP h).1 (by decide), fun i j d e a h _ _ _ => absurd (HP h).1 (by decide), fun b o h => h, hlen⟩
 obtain⟨v, h1, h2⟩ := r.get (HP h).2;exact⟨v, Q0 h1, Rep.sub own _ h2⟩
noncomputable def Iy(K : Fg)(mg : Aj -> Am Ah)(fns : Ac (Aj × Ae × Ae))(bl : Ac Aj)(rzs exs gls : Ac (Aj × Ae))(Pg : Prg)(fuel : Ae)(p : Aj × Ae × Ae) : Prop := ∃ f fd ps qual st N, mg p.1 = Aa (.ref f) /\ Fun K p.1 qual st f fd /\ DV K fd ps [] /\ ps.length = p.2.2%1000 /\ FK fuel (CT 1000 p.2.2) fns bl rzs exs gls ps N st (Pg.defs p.2.1) = Ab
structure Tab (K : Fg) (mg : Aj -> Am Ah) (CL : ClA) (fns : Ac (Aj × Ae × Ae)) (bl : Ac Aj) (rzs exs gls : Ac (Aj × Ae)) (Pg : Prg) (fuel : Ae) : Prop where
 xt : XT Pg.up Pg.xn CL rzs exs K mg
 bln : ∀ x, x ∈ bl -> mg x = Af
 gl : ∀ p ∈ gls, Jy K mg CL p.1 (Pg.G p.2)
 fn : ∀ p ∈ fns, Iy K mg fns bl rzs exs gls Pg fuel p
theorem N3(Pg : Prg)(n i : Ae) : (gam Pg n).fr i = (Pg.defs i).fr := by cases n <;> rfl
theorem N2(Pg : Prg)(n : Ae) : (gam Pg n).up = Pg.up := by cases n <;> rfl
theorem Ot(Pg : Prg)(n : Ae) : (gam Pg n).G = Pg.G := by cases n <;> rfl
theorem NZ(Pg : Prg)(n : Ae) : (gam Pg n).xn = Pg.xn := by cases n <;> rfl
section
variable{P : AD}{w : AO}{K : Fg}{mg : Aj -> Am Ah}{base : Ax}{CL : ClA}{fns : Ac (Aj × Ae × Ae)}{bl : Ac Aj}{rzs exs gls : Ac (Aj × Ae)}{Pg : Prg}{fuel : Ae}
noncomputable def Lvl(P : AD)(w : AO)(K : Fg)(mg : Aj -> Am Ah)(base : Ax)(CL : ClA)(Pg : Prg)(n : Ae)(p : Aj × Ae × Ae) : Prop := ∃ f fd ps, mg p.1 = Aa (.ref f) /\ Bs K (.ref f) = Ab /\ DV K fd ps [] /\ ps.length = p.2.2%1000 /\ (p.2.2<1000 -> FnOk P w K mg base (CXR P w) n f fd ps (spD K CL (p.2.2%1000) ((gam Pg n).fr p.2.1) ((gam Pg n).F p.2.1))) /\ (1000 <= p.2.2 -> HotOk P w K mg base n f fd ps (spH K CL (p.2.2%1000) ((gam Pg n).fr p.2.1) ((gam Pg n).F p.2.1)))
theorem N9(t : Tab K mg CL fns bl rzs exs gls Pg fuel){n:Ae}(hlv : ∀ q ∈ fns, Lvl P w K mg base CL Pg n q){st : A2}{f : Ai}{ps N : Ac Aj}{m:Ae}(h2 : Fun K x qual st f fd)(h4 : ps.length = m)(h5 : FK fuel Ad fns bl rzs exs gls ps N st (Pg.defs id) = Ab):FnOk P w K mg base (CXR P w) (n+1) f fd ps (spD K CL m ((gam Pg (n+1)).fr id) ((gam Pg (n+1)).F id)) := by
  unfold FK at h5;simp only[Ak, AM, A4, CM, BR, E8, HH]at h5;obtain⟨⟨⟨⟨⟨⟨⟨⟨c1, c2⟩, c3⟩, c4⟩, c5⟩, c6⟩, c7⟩, c8⟩, c9⟩ := h5;obtain⟨oc, od, kV, doc, pm, an, cdv, ct, osl, rfl, lk, hcd⟩ := h2.ex;refine Oz (N := N) lk hcd ⟨c1, c2, c3, GP c4, c5, c6, c7⟩ (fun vs H Q E ⟨ds, A, z, _⟩ => z.trans h4.symm) fun A outer s H vs Q E hr ⟨ds, B, hl, hA, hreps, hpost⟩ => ?_
  have xt : XT (gam Pg n).up (gam Pg n).xn CL rzs exs K mg := by rw[N2, NZ];exact t.xt
  have gl : ∀ p ∈ gls, Jy K mg CL p.1 ((gam Pg n).G p.2) := by rw[Ot];exact t.gl
  have key : ∀ W : XW, (∀ x cls dx H', W x H' -> EJ K CL H' cls dx x -> E cls dx H') -> Bq K CL (fun b o => H b = Aa o) B W (evSs (gam Pg n) (B8 (Pg.defs id).n ds) (Pg.defs id).body) {nx := fun _ H' => Q .non H', rt := Q} ->
      ∃ t, PSs (Db (CXR P w) P w K mg base N qual (BL st) f cdv A outer s H E) (DS st) t /\ t {nx := fun _ H' => Q .non H', rt := Q} (start N vs) H := fun W hW hp => by
    have v : VX (gam Pg n) CL n W ⟨BL st, N, fns, bl, rzs, exs, gls⟩ (Db (CXR P w) P w K mg base N qual (BL st) f cdv A outer s H E) := ⟨rfl, c1, rfl, GP c4, rfl, hr, t.bln, hlv, ownR, WX hW, rzR hW, xt, gl⟩;exact⟨_, (Lk fuel).ss W _ _ _ (Pg.defs id).body v ⟨fun _ => rfl, rfl, rfl, rfl⟩ c9 (fun b o => H b = Aa o) B, _, Mq c8 hA hreps, hp⟩
  have no : ∀ x cls dx H', W0 x H' -> EJ K CL H' cls dx x -> E cls dx H' := fun _ _ _ _ z => z.elim
  have e : (gam Pg (n+1)).F id ds = CS Pg.xs ((evSs (gam Pg n) (B8 (Pg.defs id).n ds) (Pg.defs id).body).ans (Pg.defs id).fr) := rfl;rw[e, N3]at hpost;have cutO : ∀ r : R D, (∀ x, r ≠ .exn x) -> CS Pg.xs r = r := fun r hr => by
    cases Pg.xs <;> cases r <;> first|rfl|exact absurd rfl (hr _)
  cases eo : evSs (gam Pg n) (B8 (Pg.defs id).n ds) (Pg.defs id).body with
  |next ρ'=>
    refine key W0 no ?_;rw[eo]at hpost ⊢;cases ef : (Pg.defs id).fr with
    |true => rw[ef]at hpost;rw[cutO _ (by intro x z;cases z)]at hpost;exact hpost.elim
    |false=>
      rw[ef]at hpost;rw[cutO _ (by intro x z;cases z)]at hpost
      exact fun σ' H' x' => hpost .non H' (fun b o z => x'.same b o z) ⟨rfl, fun z => nomatch z⟩
  |ret d b=>
    refine key W0 no ?_;rw[eo]at hpost ⊢;intro v H' sm rp fr;have hp2 : (match CS Pg.xs (if ((Pg.defs id).fr&&(!b&&isL d)) = Ab then R.bad else R.ok d) with
      |.ok d => ∀ v H', Av H H' -> Cq K CL (Pg.defs id).fr H B H' v d -> Q v H'
      |.exn x => ∀ cls dx H', Av H H' -> EJ K CL H' cls dx x -> E cls dx H'
      | .bad => AH) := hpost
    cases ec : ((Pg.defs id).fr&&(!b&&isL d)) with
    |true => rw[ec, AB rfl, cutO _ (by intro x z;cases z)]at hp2;exact hp2.elim
    |false=>
      rw[ec, AE (by decide), cutO _ (by intro x z;cases z)]at hp2
      refine hp2 v H' sm ⟨rp, fun efr es hd => ?_⟩
      subst hd;have eb : b = Ab := by
        cases b with
        |true => rfl
        |false => rw[efr]at ec;cases ec
      obtain⟨a, xs, h1, h2, h3, h4⟩ := fr eb es rfl;refine⟨a, xs, h1, ?_, h3, h4⟩;cases ha : H a with
      |none => rfl
      |some o => exact absurd ha (h2 o)
  |brk ρ' => rw[eo]at hpost;have hp2 : (match CS Pg.xs (R.bad : R D) with | .ok _ => _ | .exn _ => _ | .bad => AH) := hpost;rw[cutO _ (by intro x z;cases z)]at hp2;exact hp2.elim
  |cont ρ' => rw[eo]at hpost;have hp2 : (match CS Pg.xs (R.bad : R D) with | .ok _ => _ | .exn _ => _ | .bad => AH) := hpost;rw[cutO _ (by intro x z;cases z)]at hp2;exact hp2.elim
  |bad => rw[eo]at hpost;have hp2 : (match CS Pg.xs (R.bad : R D) with | .ok _ => _ | .exn _ => _ | .bad => AH) := hpost;rw[cutO _ (by intro x z;cases z)]at hp2;exact hp2.elim
  |exn x ρ'=>
    rw[eo]at hpost;have hp2 : (match CS Pg.xs (R.exn x : R D) with
      |.ok d => ∀ v H', Av H H' -> Cq K CL (Pg.defs id).fr H B H' v d -> Q v H'
      |.exn x => ∀ cls dx H', Av H H' -> EJ K CL H' cls dx x -> E cls dx H'
      | .bad => AH) := hpost
    cases ex : Pg.xs with
    |false => rw[ex]at hp2;exact hp2.elim
    |true=>
      rw[ex]at hp2;have hp3 : ∀ cls dx H', Av H H' -> EJ K CL H' cls dx x -> E cls dx H' := hp2;refine key (fun y H' => y = x /\ Av H H') (fun y cls dx H' ⟨e1, sm⟩ xr => ?_) ?_
      · subst e1;exact hp3 cls dx H' sm xr
      · rw[eo];exact fun H' sm => ⟨rfl, sm⟩
theorem Vv(t : Tab K mg CL fns bl rzs exs gls Pg fuel){n:Ae}(hlv : ∀ q ∈ fns, Lvl P w K mg base CL Pg n q){st : A2}{f : Ai}{ps N : Ac Aj}{m:Ae}(h2 : Fun K x qual st f fd)(h4 : ps.length = m)(h5 : FK fuel Ab fns bl rzs exs gls ps N st (Pg.defs id) = Ab):HotOk P w K mg base (n+1) f fd ps (spH K CL m ((gam Pg (n+1)).fr id) ((gam Pg (n+1)).F id)) := by
  unfold FK at h5;simp only[Ak, AM, A4, CM, BR, E8, HH]at h5;obtain⟨⟨⟨⟨⟨⟨⟨⟨c1, c2⟩, c3⟩, c4⟩, c5⟩, c6⟩, c7⟩, c8⟩, c9⟩ := h5;obtain⟨oc, od, kV, doc, pm, an, cdv, ct, osl, rfl, lk, hcd⟩ := h2.ex;refine Vw (N := N) lk hcd ⟨c1, c2, c3, GP c4, c5, c6, c7⟩ (fun vs H Q E ⟨ds, A, z, _⟩ => z.trans h4.symm) fun A ev outer s H vs Q E hr ⟨ds, B, hl, hA, hreps, hpost⟩ => ?_
  have xt : XT (gam Pg n).up (gam Pg n).xn CL rzs exs K mg := by rw[N2, NZ];exact t.xt
  have gl : ∀ p ∈ gls, Jy K mg CL p.1 ((gam Pg n).G p.2) := by rw[Ot];exact t.gl
  have key : Bq K CL (fun b o => H b = Aa o) B W0 (evSs (gam Pg n) (B8 (Pg.defs id).n ds) (Pg.defs id).body) {nx := fun _ H' => Q .non H', rt := Q} ->
      ∃ t, PSs (Cx.hot (Db F9 P w K mg base N qual (BL st) f cdv A outer s H E) ev) (DS st) t /\ t {nx := fun _ H' => Q .non H', rt := Q} (start N vs) H := fun hp => by
    have v : VX (gam Pg n) CL n W0 ⟨BL st, N, fns, bl, rzs, exs, gls⟩ (Db F9 P w K mg base N qual (BL st) f cdv A outer s H E) := ⟨rfl, c1, rfl, GP c4, rfl, hr, t.bln, hlv, Qf, KS, Lj, xt, gl⟩;exact⟨_, Oq v ⟨fun _ => rfl, rfl, rfl, rfl⟩ ev 0 fuel _ (Pg.defs id).body c9 (fun b o => H b = Aa o) B, _, Mq c8 hA hreps, hp⟩
  have e : (gam Pg (n+1)).F id ds = CS Pg.xs ((evSs (gam Pg n) (B8 (Pg.defs id).n ds) (Pg.defs id).body).ans (Pg.defs id).fr) := rfl;rw[e, N3]at hpost;have cutO : ∀ r : R D, (∀ x, r ≠ .exn x) -> CS Pg.xs r = r := fun r hr => by
    cases Pg.xs <;> cases r <;> first|rfl|exact absurd rfl (hr _)
  refine key ?_;cases eo : evSs (gam Pg n) (B8 (Pg.defs id).n ds) (Pg.defs id).body with
  |next ρ'=>
    rw[eo]at hpost;cases ef : (Pg.defs id).fr with
    |true => rw[ef]at hpost;rw[cutO _ (by intro x z;cases z)]at hpost;exact hpost.elim
    |false=>
      rw[ef]at hpost;rw[cutO _ (by intro x z;cases z)]at hpost
      exact fun σ' H' x' => hpost .non H' (fun b o z => x'.same b o z) ⟨rfl, fun z => nomatch z⟩
  |ret d b=>
    rw[eo]at hpost;intro v H' sm rp fr;have hp2 : (match CS Pg.xs (if ((Pg.defs id).fr&&(!b&&isL d)) = Ab then R.bad else R.ok d) with
      |.ok d => ∀ v H', Av H H' -> Cq K CL (Pg.defs id).fr H B H' v d -> Q v H'
      |.exn x => AH
      | .bad => AH) := hpost
    cases ec : ((Pg.defs id).fr&&(!b&&isL d)) with
    |true => rw[ec, AB rfl, cutO _ (by intro x z;cases z)]at hp2;exact hp2.elim
    |false=>
      rw[ec, AE (by decide), cutO _ (by intro x z;cases z)]at hp2
      refine hp2 v H' sm ⟨rp, fun efr es hd => ?_⟩
      subst hd;have eb : b = Ab := by
        cases b with
        |true => rfl
        |false => rw[efr]at ec;cases ec
      obtain⟨a, xs, h1, h2, h3, h4⟩ := fr eb es rfl;refine⟨a, xs, h1, ?_, h3, h4⟩;cases ha : H a with
      |none => rfl
      |some o => exact absurd ha (h2 o)
  |brk ρ' => rw[eo]at hpost;have hp2 : (match CS Pg.xs (R.bad : R D) with | .ok _ => _ | .exn _ => _ | .bad => AH) := hpost;rw[cutO _ (by intro x z;cases z)]at hp2;exact hp2.elim
  |cont ρ' => rw[eo]at hpost;have hp2 : (match CS Pg.xs (R.bad : R D) with | .ok _ => _ | .exn _ => _ | .bad => AH) := hpost;rw[cutO _ (by intro x z;cases z)]at hp2;exact hp2.elim
  |bad => rw[eo]at hpost;have hp2 : (match CS Pg.xs (R.bad : R D) with | .ok _ => _ | .exn _ => _ | .bad => AH) := hpost;rw[cutO _ (by intro x z;cases z)]at hp2;exact hp2.elim
  |exn x ρ'=>
    rw[eo]at hpost;have hp2 : (match CS Pg.xs (R.exn x : R D) with
      |.ok d => ∀ v H', Av H H' -> Cq K CL (Pg.defs id).fr H B H' v d -> Q v H'
      |.exn x => AH
      | .bad => AH) := hpost
    exfalso
    cases ex : Pg.xs with
    |false => rw[ex]at hp2;exact hp2
    |true=>
      rw[ex]at hp2;exact hp2
theorem Kw(t : Tab K mg CL fns bl rzs exs gls Pg fuel) : ∀ n, ∀ p ∈ fns, Lvl P w K mg base CL Pg n p
 |0, p, hp => by
  obtain⟨f, fd, ps, qual, st, N, h1, h2, h3, h4, h5⟩ := t.fn p hp;exact⟨f, fd, ps, h1, h2.kp, h3, h4, fun _ => ⟨fun vs H Q E ⟨ds, A, _, _, _, z⟩ => z.elim, fun A outer s H args us vs Q E _ _ _ _ ⟨ds, A, _, _, _, z⟩ => z.elim⟩, fun _ => ⟨fun vs H Q E ⟨ds, A, _, _, _, z⟩ => z.elim, fun A ev outer s H args us vs Q E _ _ _ _ ⟨ds, A, _, _, _, z⟩ => z.elim⟩⟩
 |n+1, p, hp => by
  obtain⟨f, fd, ps, qual, st, N, h1, h2, h3, h4, h5⟩ := t.fn p hp;refine⟨f, fd, ps, h1, h2.kp, h3, h4, fun hlt => ?_, fun hge => ?_⟩
  ·have eb : CT 1000 p.2.2 = Ad := by
    cases e : CT 1000 p.2.2 with
    |false => rfl
    |true => exact absurd (Ed e) (by omega)
   rw[eb]at h5;exact N9 t (fun q hq => Kw t n q hq) h2 h4 h5
  ·rw[Nat.ble_eq_true_of_le hge]at h5;exact Vv t (fun q hq => Kw t n q hq) h2 h4 h5
theorem Vk{s s' : Al}{e : Ah}(h : CXR P w [] H s (fun _ _ _ => AH) e s') : AH := by
 obtain⟨_, _, _, _, _, _, _, _, _, _, _, _, _, _, _, z⟩ := h;exact z
noncomputable def Lq(g par f : Aj)(b : Ac A2) : An := match b with
  |[.Expr (.Call (.Attribute (.Name g1 _) i1 apos) [.Name s1 _, .JoinedStr [.FormattedValue (.Name q1 _) n Af _, .Constant (.str z) _ _] _] [] cpos) _, .Assign [.Attribute (.Name s2 _) f1 _] (.Name q2 _) _]=>
    g1==g&&(i1==("__init__" : Aj)&&(s1==("self" : Aj)&&(q1==par&&(decide (n = -1)&&(s2==("self" : Aj)&&(f1==f&&(q2==par&&(apos.endLine==cpos.line&&CT z.length 1000))))))))
  |_ => Ad
theorem Ue{g par f : Aj}{b : Ac A2}(h : Lq g par f b = Ab) : ∃ z k np apos p1 p2 p3 p4 p5 cpos p6 p7 p8 p9 p10, b = Lr g par f z k np apos p1 p2 p3 p4 p5 cpos p6 p7 p8 p9 p10 /\ (apos.endLine==cpos.line) = Ab /\ z.length <= 1000 := by
 unfold Lq at h;split at h
 ·simp only[Ak, AM, AK]at h;obtain⟨rfl, rfl, rfl, rfl, rfl, rfl, rfl, rfl, h1, h2⟩ := h;exact⟨_, _, _, _, _, _, _, _, _, _, _, _, _, _, _, rfl, by rw[AM];exact h1, Ed h2⟩
 ·cases h
noncomputable def Lp(g par f : Aj)(st : A2) : An:=
 (BL st).kind==.function&&((BL st).isCoroutine==Ad&&((BL st).isGenerator==Ad&&(Hm ["self", par]&&((BL st).names.lookup ("self" : Aj)==Aa .local&&((BL st).names.lookup par==Aa .local&&(((BL st).names.all fun y => y.2 != .free) &&
  ((BL st).names.lookup g==Aa .globalImplicit&&(g != ("__debug__" : Aj)&&(par != ("__debug__" : Aj)&&(par != ("__classdict__" : Aj)&&Lq g par f (DS st)))))))))))
noncomputable def Op(s : A2) : A2 := match s with
  |.ClassDef _ _ _ (b::_) _ _ _ _ _ _ _ => b
  |s => s
noncomputable def InI(K : Fg)(f : Ai)(qual : Aj)(st : A2) : Prop := ∃ fd, Fun K "__init__" qual st f fd
theorem ini_mk{st : A2}{f : Ai}{kV doc pm cdv ct : Ah}(l : K.lookup f = Aa ⟨oc, od, .func (BX "__init__" qual (Gx st) (DS st) (BL st) .none kV doc pm an cdv ct), osl⟩)(c : Da K cdv qual = Ab)(k : Bs K (.ref f) = Ab) : InI K f qual st := ⟨_, N4 l c k⟩
theorem T5{fI:Ai}{g par f qual : Aj}{st : A2}(a : InI K fI qual st)(hk : Lp g par f st = Ab)(hb : ∀(u0 u1 kV doc pm : Ah)(an : Am Ai)(cdv ct : Ah), GL (BX "__init__" qual (Gx st) (DS st) (BL st) .none kV doc pm an cdv ct) ⟨[u0, u1], []⟩ = pure ((["self", par] : Ac Aj).zip [u0, u1]))(xc : CQ K C (Aa (.ref fI)) = Ab)(dc : Ey K C = Ab)(ty : B0 K (.ref fI) = Aa (.type "function"))(mo : mg g = Aa (.ref OV))(s1 : C8 K (.ref OV) "__getattribute__" = Aa (Aa (.builtin "type.__getattribute__")))(s2 : Dw K OV (.type "type") = Ab)(s3 : Dv K (.ref OV) (.type "type") "__init__" = Aa (.val (.builtin "ValueError.__init__")))(hf : At K (.ref C) f = Aa Af)(hs : At K (.ref C) "__setattr__" = Aa (Aa (.builtin "object.__setattr__"))) : XIn K mg C f := by
 obtain⟨fd, fn⟩ := a;unfold Lp at hk;simp only[Ak, AM, CM, E8, HH]at hk;obtain⟨c1, c2, c3, c4, c5, c6, c7, c8, c9, c10, c11, c12⟩ := hk;obtain⟨z, k, np, apos, p1, p2, p3, p4, p5, cpos, p6, p7, p8, p9, p10, eb, hl, hz⟩ := Ue c12;exact .mk xc dc fn ty ⟨c1, c2, c3, GP c4, rfl, fun x hx => by
  rcases AY.mp hx with rfl|hx
  ·exact .inl c5
  ·rw[Bu.mp hx];exact .inl c6, c7⟩ c5 c6 (fn.binds fun kV doc pm an cdv ct us hu => match us, hu with | [u0, u1], _ => hb u0 u1 kV doc pm an cdv ct) eb c8 mo (by simpa using c9) (by simpa using c10) (by simpa using c11) s1 s2 s3 hl hz hf hs
theorem OC(h : ∀ ds, xn c ds = .bad \/ xn c ds = .ok ⟨c, []⟩)(e : CQ K C Af = Ab)(ds : Ac D) : xn c ds = .bad \/ (xn c ds = .ok ⟨c, []⟩ /\ CQ K C Af = Ab) \/ ∃ f, XIn K mg C f /\ Js xn c f ds := (h ds).imp id fun z => .inl ⟨z, e⟩
theorem WJ{f : Aj}(h : ∀ ds, xn c ds = mkX c f ds)(x : XIn K mg C f)(ds : Ac D) : xn c ds = .bad \/ (xn c ds = .ok ⟨c, []⟩ /\ CQ K C Af = Ab) \/ ∃ f, XIn K mg C f /\ Js xn c f ds := by
  have e := h ds
  match ds, e with
  |[], e => exact .inl e
  |_::_::_, e => exact .inl e
  |[d], e=>
    have e' : xn c [d] = if (xfD 1 d||xfD 2 d) = Ab then .ok ⟨c, [(f, d)]⟩ else .bad := e
    by_cases z : (xfD 1 d||xfD 2 d) = Ab
    · rw[AB z]at e';refine .inr (.inr ⟨f, x, d, ?_⟩);rw[BR]at z;rcases z with z|z
      · exact⟨0, rfl, z, by decide, e'⟩
      · exact⟨1, rfl, z, by decide, e'⟩
    · rw[AE z]at e';exact .inl e'
theorem K1(dc : Ey K C = Ab)(h1 : At K (.ref C) "triple" = Aa Af)(h2 : At K (.ref C) "points" = Aa Af)(f : Aj)(h : (f==("triple" : Aj)||f==("points" : Aj)) = Ab) : Ey K C = Ab /\ At K (.ref C) f = Aa Af := by
 rw[BR]at h;rcases h with h|h
 ·rw[eq_of_beq h];exact⟨dc, h1⟩
 ·rw[eq_of_beq h];exact⟨dc, h2⟩
noncomputable def Jo(K : Fg) : Sp := fun vs H Q _ => ∃(a : Ai)(ns : Ac Ag), vs = [.ref a] /\ ns.length <= 63 /\ SqL K H a (ns.map V.int) /\ ∀ v H', v = V.bl Ab -> Q v H'
theorem law_fn{f : Ai}(G : FnOk P w K mg base CX k f fd ps (spD K CL 1 Ad F))(h : ∀ ns : Ac Ag, F [.lst (ns.map .int)] = .ok (.bl Ab)) : FnOk P w K mg base CX k f fd ps (Jo K) := G.imp fun vs H Q E ⟨a, ns, e, hl, hS, q⟩ => by
 subst e;have rs : ∀ l : Ac Ag, Reps K CL H A0 (l.map V.int) (l.map D.int) := fun l => by
  induction l with
  |nil => trivial
  |cons x l ih => exact⟨rfl, ih⟩
 refine⟨[.lst (ns.map .int)], A0, rfl, fun _ z => z.elim, ⟨⟨a, _, rfl, .inl (fun z => z), hS, rs ns⟩, trivial⟩, ?_⟩
 rw[h ns];exact fun v H' _ r => q v H' r.1
theorem HX{Q : α -> Prop} : ∀ x ∈ ([] : Ac α), Q x := fun _ h => nomatch h
theorem all_cons{Q : α -> Prop}{a : α}{l : Ac α}(h1 : Q a)(h2 : ∀ x ∈ l, Q x) : ∀ x ∈ a::l, Q x := List.forall_mem_cons.2 ⟨h1, h2⟩
noncomputable def FnI(K : Fg)(f : Ai)(n : Aj)(st : A2) : Prop := ∃ fd, Fun K n n st f fd /\ A6 K AR n = Aa (Aa (.ref f))
theorem fni{st : A2}{f : Ai}{kV doc pm cdv ct : Ah}(a : A6 K AR n = Aa (Aa (.ref f)))(l : K.lookup f = Aa ⟨oc, od, .func (BX n n (Gx st) (DS st) (BL st) .none kV doc pm an cdv ct), osl⟩)(c : Da K cdv n = Ab)(k : Bs K (.ref f) = Ab) : FnI K f n st := ⟨_, N4 l c k, a⟩
noncomputable def Bd(n : Aj)(st : A2)(ps : Ac Aj)(us : Ac Ah) : Prop := ∀(kV doc pm : Ah)(an : Am Ai)(cdv ct : Ah), GL (BX n n (Gx st) (DS st) (BL st) .none kV doc pm an cdv ct) ⟨us, []⟩ = pure (ps.zip us)
theorem Ks{f : Ai}{st : A2}{ps N : Ac Aj}(m id : Ae)(X : K.In h)(G : h.Ns AR mg)(A : FnI K f n st)(hl : ps.length = m%1000)(hc : FK fuel (CT 1000 m) fns bl rzs exs gls ps N st (Pg.defs id) = Ab)(hb : ∀ us : Ac Ah, us.length = ps.length -> Bd n st ps us) : Iy K mg fns bl rzs exs gls Pg fuel (n, id, m) := by
 obtain⟨fd, F, a⟩ := A;exact⟨_, _, _, _, _, _, BK X G a, F, F.binds fun kV doc pm an cdv ct us hu => hb us hu kV doc pm an cdv ct, hl, hc⟩
theorem XY{f : Ai}{st : A2}{N : Ac Aj}(m id : Ae)(X : K.In h)(G : h.Ns AR mg)(A : FnI K f n st)(hl : 1 = m%1000)(hc : FK fuel (CT 1000 m) fns bl rzs exs gls [x0] N st (Pg.defs id) = Ab)(hb : ∀ u0, Bd n st [x0] [u0]) : Iy K mg fns bl rzs exs gls Pg fuel (n, id, m):=
 Ks (ps := [x0]) m id X G A hl hc fun us hu => match us, hu with | [u0], _ => hb u0
theorem GD{f : Ai}{st : A2}{N : Ac Aj}(m id : Ae)(X : K.In h)(G : h.Ns AR mg)(A : FnI K f n st)(hl : 2 = m%1000)(hc : FK fuel (CT 1000 m) fns bl rzs exs gls [x0, x1] N st (Pg.defs id) = Ab)(hb : ∀ u0 u1, Bd n st [x0, x1] [u0, u1]) : Iy K mg fns bl rzs exs gls Pg fuel (n, id, m):=
 Ks (ps := [x0, x1]) m id X G A hl hc fun us hu => match us, hu with | [u0, u1], _ => hb u0 u1
theorem Hy{f : Ai}{st : A2}{N : Ac Aj}{x2:Aj}(m id : Ae)(X : K.In h)(G : h.Ns AR mg)(A : FnI K f n st)(hl : 3 = m%1000)(hc : FK fuel (CT 1000 m) fns bl rzs exs gls [x0, x1, x2] N st (Pg.defs id) = Ab)(hb : ∀ u0 u1 u2, Bd n st [x0, x1, x2] [u0, u1, u2]) : Iy K mg fns bl rzs exs gls Pg fuel (n, id, m):=
 Ks (ps := [x0, x1, x2]) m id X G A hl hc fun us hu => match us, hu with | [u0, u1, u2], _ => hb u0 u1 u2
end
end Ov
namespace OvC
open PySem Ov
variable{x p k:Ag}{m n:Ae}{Γ:Gam}
noncomputable abbrev tr(a b c : Ag) : D := .tup [.int a, .int b, .int c]
noncomputable def det(a0 a1 a2 b0 b1 b2 c0 c1 c2 : Ag) : Ag := a0*(b1*c2-b2*c1)-a1*(b0*c2-b2*c0)+a2*(b0*c1-b1*c0)
noncomputable def Sm(x : Ag) : Prop := 0 <= x /\ x<11
theorem mo(h : Sm x)(y : Ag) : DT x y = Ab := HZ (by have := h.1;omega) (by have := h.2;omega)
theorem Sm.of(h : P4 p)(x : Ag) : Sm (x%p) := ⟨BS _ (by have := h.pos;omega), by have := Bt x h.pos;have := h.hi;omega⟩
theorem LV{body : D -> Rho -> O}(I : Rho -> Prop)(g : Ag -> An) :∀(L :Ac Ag),(∀ t ∈ L,∀ ρ,I ρ->(g t = Ab/\body (.int t) ρ = .ret (.int t) Ad)\/(g t = Ad/\∃ ρ',body (.int t) ρ = .next ρ'/\I ρ'))->∀ ρ,I ρ->(∃ t ∈ L,g t = Ab/\Dc body (L.map D.int) ρ = .ret (.int t) Ad)\/((∀ t ∈ L,g t = Ad)/\∃ ρ',Dc body (L.map D.int) ρ = .next ρ'/\I ρ')
 |[], _, ρ, i => .inr ⟨(fun _ h => nomatch h), ρ, rfl, i⟩
 |m::L, h, ρ, i => by
  rcases h m (AI ..) ρ i with ⟨e1, e2⟩|⟨e1, ρ', e2, i'⟩
  ·refine .inl ⟨m, AI .., e1, ?_⟩;show (body (.int m) ρ).turn _ = _;rw[e2];rfl
  ·rcases LV I g L (fun m' h' => h m' (Az _ h')) ρ' i' with ⟨t, ht, a, b⟩|⟨a, r, b, c⟩
   ·refine .inl ⟨t, Az _ ht, a, ?_⟩;show (body (.int m) ρ).turn _ = _;rw[e2];exact b
   ·refine .inr ⟨fun t ht => ?_, r, ?_, c⟩
    ·rcases AY.mp ht with rfl|ht
     ·exact e1
     ·exact a t ht
    ·show (body (.int m) ρ).turn _ = _;rw[e2];exact b
noncomputable def Hb : Ss := (.cons (.ife (.cmp .Eq (.call 1 (.cons (.var 0) (.cons (.bin .Mult (.var 1) (.var 2)) .nil))) (.int 1)) (.cons (.ret (.var 2)) .nil) .nil) .nil)
noncomputable def IG : Df := ⟨3, Ad, (.cons (.fors 2 (.rng2 (.int 1) (.var 0)) Hb) (.cons (.rais 2 (.cons (.str (CP "a number with the rest 0 is not turned over")) .nil)) .nil))⟩
noncomputable def Hx(p : Ag) : Ac Ag := (Ca (p-1).toNat).map fun(k : Ae) => 1+(k : Ag)
theorem Ka{t:Ag} : t ∈ Hx p ↔ 1 <= t /\ t<p := by
 unfold Hx;rw[List.mem_map];constructor
 ·rintro⟨k, hk, rfl⟩;have := Cp.mp hk;omega
 ·rintro⟨h1, h2⟩;exact⟨(t-1).toNat, Cp.mpr (by omega), by omega⟩
theorem Se(h : P4 p) : C4 1 p = .ok ((Hx p).map D.int) := by
 rcases h with rfl|rfl|rfl|rfl <;> rfl
theorem S6 : ∀ p : Fin 12, (p.val = 3 \/ p.val = 5 \/ p.val = 7 \/ p.val = 11) -> ∀ r : Fin 12, r.val<p.val -> r.val ≠ 0 -> ∃ t : Fin 12, 1 <= t.val /\ t.val<p.val /\ r.val*t.val%p.val = 1 := by decide +kernel
theorem Ij{n:Ag}(h : P4 p)(hn : n%p ≠ 0) : ∃ t, 1 <= t /\ t<p /\ n*t%p = 1 := by
 have p0 : 0<p /\ p<12 := by rcases h with rfl|rfl|rfl|rfl <;> decide
 obtain⟨q, rfl⟩ : ∃ q : Ae, p = q := ⟨p.toNat, by omega⟩
 have h0 := BS n (b := (q : Ag)) (by omega)
 have h1 := Bt n p0.1;obtain⟨r, hr⟩ : ∃ r : Ae, n%(q : Ag) = r := ⟨(n%(q : Ag)).toNat, by omega⟩
 obtain⟨t, t1, t2, t3⟩ := S6 ⟨q, by omega⟩ (by rcases h with e|e|e|e <;> simp <;> omega) ⟨r, by omega⟩ (by show r<q;omega) (by show r ≠ 0;omega)
 refine⟨(t.val : Ag), by omega, by show (t.val : Ag)<q;exact Int.ofNat_lt.mpr t2, ?_⟩
 have e : ((r*t.val%q : Ae) : Ag) = 1 := by rw[show r*t.val%q = 1 from t3];rfl
 rw[<-e, Int.natCast_emod, Int.natCast_mul, <-hr];exact(BA n _ _).trans (by rw[BA (n%(q : Ag)) (t.val : Ag) (q : Ag), Bh n (Ch _)])
theorem D7{r:R D}{d:D}(h : r = .ok d) : CS Ab r = .ok d := by rw[h];rfl
noncomputable def Hw(p n t : Ag) : Prop := 1 <= t /\ t<p /\ n*t%p = 1
theorem RH{n t u:Ag}(h1 : Hw p n t)(h2 : Hw p n u) : t = u := by
 have hp : 1<p := by have := h1.1;have := h1.2.1;omega
 have e : t%p = u%p := by
  have a : t%p = t*(n*u)%p := by rw[BA, h2.2.2, C3, Bh _ (Ch p)]
  have b : u%p = (n*t)*u%p := by rw[BA (n*t) u p, h1.2.2, Cf, Bh _ (Ch p)]
  rw[a, b]
  congr 1
  rw[<-EX, B5 t n]
 rw[AQ (by have := h1.1;omega) h1.2.1, AQ (by have := h2.1;omega) h2.2.1]at e
 exact e
theorem GS{c:Ag}(hp : P4 p)(hc : c%p ≠ 0)(hx : x%p ≠ 0) : c*x%p ≠ 0 := fun z => by
 obtain⟨t, _, _, e⟩ := Ij hp hc;refine hx ?_;have e1 : x%p = (c*t)*x%p := by rw[BA (c*t) x p, e, Cf, Bh _ (Ch p)]
 rw[e1, show c*t*x = t*(c*x) by rw[B5 c t, EX], BA, z, Gd, Br]
noncomputable def Ba(p : Ag) : Ac Ag -> Am Ag
 |[] => Af
 |x::xs => if x%p = 0 then Ba p xs else Aa (x%p)
theorem JY{p : Ag} : ∀{xs : Ac Ag}, Ba p xs = Af ↔ ∀ x ∈ xs, x%p = 0
 |[] => by simp[Ba]
 |x::xs => by
  unfold Ba;by_cases h : x%p = 0
  ·rw[AB h, JY (xs := xs)];simp[h]
  ·rw[AE h];simp[h]
theorem JX{p l : Ag}(hp : 0<p) : ∀{xs : Ac Ag}, Ba p xs = Aa l -> l%p ≠ 0 /\ 0<l /\ l<p
 |[], h => by cases h
 |x::xs, h => by
  unfold Ba at h;by_cases hx : x%p = 0
  ·rw[AB hx]at h;exact JX hp h
  ·rw[AE hx]at h;cases h;have h0 := BS x (b := p) (by omega)
   have h1 := Bt x hp;exact⟨by rw[Bh _ (Ch p)];exact hx, by omega, h1⟩
theorem IN{p c : Ag}(hp : P4 p)(hc : c%p ≠ 0){f : Ag -> Ag}(hf : ∀ x, f x%p = c*x%p) : ∀ xs : Ac Ag, Ba p (xs.map f) = (Ba p xs).map fun l => c*l%p
 |[] => rfl
 |x::xs => by
  rw[Cm];unfold Ba;rw[hf x];by_cases hx : x%p = 0
  ·rw[AB hx, AB (by rw[BA, hx, Gd, Br]), IN hp hc hf xs]
  ·rw[AE hx, AE (GS hp hc hx), Fx]
   congr 1
   rw[BA c (x%p), Bh _ (Ch p), <-BA]
noncomputable def ds(xs : Ac Ag) : Ac D := xs.map D.int
noncomputable def Di(b : An)(xs : Ac Ag) : D := if b = Ab then .tup (ds xs) else .lst (ds xs)
theorem Rh(b xs) : DI (Di b xs) = .ok (ds xs) := by unfold Di;cases b <;> rfl
theorem J7{g : D -> R An}{f : D -> R D}{φ : Ag -> Ag} : ∀(xs : Ac Ag), (∀ x ∈ xs, g (.int x) = .ok Ab /\ f (.int x) = .ok (.int (φ x))) -> B9 g f (ds xs) = .ok (ds (xs.map φ))
 |[], _ => rfl
 |x::xs, h => by
  obtain⟨h1, h2⟩ := h x (AI ..);show (g (.int x)).bind _ = _;rw[h1, R.bind_ok, AB rfl, h2, R.bind_ok];show (B9 g f (ds xs)).bind _ = _;rw[J7 xs fun y hy => h y (Az _ hy)]
  rfl
noncomputable def LG : E := (.bl Ab)
noncomputable def JC : E := (.call 1 (.cons (.var 0) (.cons (.var 5) .nil)))
noncomputable def LF : E := (.bl Ab)
noncomputable def JB : E := (.call 1 (.cons (.var 0) (.cons (.bin .Mult (.var 4) (.var 6)) .nil)))
noncomputable def Fp : Ss := (.cons (.ife (.cmp .NotEq (.var 3) (.int 0)) (.cons (.asg 4 Ad (.call 9 (.cons (.var 0) (.cons (.var 3) .nil)))) (.cons (.ret (.bi .tuple (.cons (.comp JB 6 (.e (.var 2)) LF) .nil))) .nil)) .nil) .nil)
noncomputable def IR : Df := ⟨7, Ad, (.cons (.asg 2 Ad (.comp JC 5 (.e (.var 1)) LG)) (.cons (.fors 3 (.e (.var 2)) Fp) (.cons (.rais 3 (.cons (.str (CP "all the numbers have the rest 0")) .nil)) .nil)))⟩
noncomputable def fmI(p t : Ag)(xs : Ac Ag) : Ac Ag := xs.map fun x => t*(x%p)%p
section
variable{Γ : Gam}{p : Ag}{xs : Ac Ag}{b : An}
end
noncomputable def LB : E := (.bl Ab)
noncomputable def JG : E := (.and (.cons (.isi (.var 2) [.int]) (.cons (.no (.isi (.var 2) [.bool])) .nil)))
noncomputable def JE : Df := ⟨3, Ad, (.cons (.ife (.or (.cons (.no (.isi (.var 0) [.tuple])) (.cons (.cmp .NotEq (.var 0) (.var 1)) .nil))) (.cons (.ret (.bl Ad)) .nil) .nil) (.cons (.ret (.bi .all (.cons (.comp JG 2 (.e (.var 0)) LB) .nil))) .nil))⟩
theorem XJ(n : Ae)(xs : Ac Ag) : (ds xs).all (flD n) = Ab := by simp[ds]
theorem KI : ∀ xs : Ac Ag, eqDs (ds xs) (ds xs) = Ab
 |[] => rfl
 |x::xs => by
  show (eqD (.int x) (.int x)&&eqDs (ds xs) (ds xs)) = Ab;rw[KI xs];simp
noncomputable def KP(Γ : Gam) : Prop := ∀ xs : Ac Ag, Γ.F 19 [.tup (ds xs), .tup (ds xs)] = .ok (.bl Ab)
theorem Mp : ∀ xs : Ac Ag, E4 (xs.map fun _ => D.bl Ab) = .ok Ab
 |[] => rfl
 |x::xs => by
  rw[Cm, JL, Mp xs];rfl
theorem M2{g : D -> R An}{f : D -> R D} : ∀(xs : Ac Ag), (∀ x ∈ xs, g (.int x) = .ok Ab /\ f (.int x) = .ok (.bl Ab)) -> B9 g f (ds xs) = .ok (xs.map fun _ => D.bl Ab)
 |[], _ => rfl
 |x::xs, h => by
  obtain⟨h1, h2⟩ := h x (AI ..);show (g (.int x)).bind _ = _;rw[h1, R.bind_ok, AB rfl, h2, R.bind_ok];show (B9 g f (ds xs)).bind _ = _;rw[M2 xs fun y hy => h y (Az _ hy)]
  rfl
theorem UX(Γ : Gam)(xs : Ac Ag) : JE.run Γ [.tup (ds xs), .tup (ds xs)] = .ok (.bl Ab) := by
 have c1 : B9 (cG Γ [sh (.tup (ds xs)), sh (.tup (ds xs)), Af] 2 LB) (cF Γ [sh (.tup (ds xs)), sh (.tup (ds xs)), Af] 2 JG) (ds xs) = .ok (xs.map fun _ => D.bl Ab) := by
  refine M2 xs fun x _ => ⟨rfl, ?_⟩
  simp[cF, JG, kiD, CI]
 simp[JE, Df.run, B8, kiD, CI, XJ, KI, c1, Mp]
noncomputable abbrev own(xs : Ac Ag) : Sl := Aa (.lst (ds xs), Ab)
section
variable{Γ : Gam}{ns : Ac Ag}{a1 a2 a4 a6 a7 a8 a9 b0 b1 b2 b3 b4 : Sl}{p : Ag}
end
section
variable{Γ : Gam}{ns : Ac Ag}{a1 a4 a6 a7 a8 a9 b2 b3 b4 : Sl}{p m : Ag}{xs : Ac Ag}
end
noncomputable def Cg(p x y : Ag) : Prop := x%p = y%p
section
variable{p a b c d : Ag}
theorem Cg.rfl : Cg p a a := Eq.refl _
theorem Cg.of(h : a = b) : Cg p a b := by unfold Cg;rw[h]
theorem Cg.trans{a b c : Ag}(h : Cg p a b)(g : Cg p b c) : Cg p a c := Eq.trans h g
theorem Cg.symm(h : Cg p a b) : Cg p b a := Eq.symm h
theorem Cg.add(h : Cg p a b)(g : Cg p c d) : Cg p (a+c) (b+d) := by unfold Cg at *;rw[Pe, h, g, <-Pe]
theorem Cg.sub(h : Cg p a b)(g : Cg p c d) : Cg p (a-c) (b-d) := by unfold Cg at *;rw[Pi, h, g, <-Pi]
theorem Cg.mul(h : Cg p a b)(g : Cg p c d) : Cg p (a*c) (b*d) := by unfold Cg at *;rw[BA, h, g, <-BA]
theorem Cg.md(h : a = b%p) : Cg p a b := by unfold Cg;rw[h, Bh _ (Ch p)]
end
theorem P4.m1(h : P4 p) : (-1 : Ag)%p ≠ 0 := by rcases h with rfl|rfl|rfl|rfl <;> decide
theorem P4.o1(h : P4 p) : (1 : Ag)%p ≠ 0 := by rcases h with rfl|rfl|rfl|rfl <;> decide
noncomputable abbrev R3 := Ag × Ag × Ag
variable{a y g:R3}
noncomputable def Ln(a : R3) : D := .lst [.int a.1, .int a.2.1, .int a.2.2]
noncomputable def Ft(a b c : R3) : Ag := det a.1 a.2.1 a.2.2 b.1 b.2.1 b.2.2 c.1 c.2.1 c.2.2
noncomputable def In3(p : Ag)(a : R3) : Prop := (0 <= a.1 /\ a.1<p) /\ (0 <= a.2.1 /\ a.2.1<p) /\ (0 <= a.2.2 /\ a.2.2<p)
structure GoodR (p : Ag) (a b c : R3) : Prop where
 p4 : P4 p
 ia : In3 p a
 ib : In3 p b
 ic : In3 p c
 nz : Ft a b c%p ≠ 0
theorem GoodR.of{a b c a' b' c' : R3}(h : GoodR p a b c)(hk : k%p ≠ 0)(e : Cg p (Ft a' b' c') (k*Ft a b c))(hin : In3 p a' /\ In3 p b' /\ In3 p c') : GoodR p a' b' c' := ⟨h.p4, hin.1, hin.2.1, hin.2.2, by rw[show Ft a' b' c'%p = _ from e];exact GS h.p4 hk h.nz⟩
noncomputable abbrev ownR(a b c : R3) : Sl := Aa (.lst [Ln a, Ln b, Ln c], Ab)
section
variable{Γ : Gam}{ns : Ac Ag}{at_ many s5 s0 s1 s2 : Sl}{p t m : Ag}{a b c : R3}
end
section
variable{Γ : Gam}{ns : Ac Ag}{many s5 s6 s7 s8 s9 s0 s1 s2 : Sl}{p : Ag}{a b c : R3}
end
noncomputable def fmR(p t : Ag)(a : R3) : R3 := (t*(a.1%p)%p, t*(a.2.1%p)%p, t*(a.2.2%p)%p)
noncomputable def Bd(n : Ae)(x : Ag) : Prop := x.natAbs<2 ^ n
theorem Bd.mul{y:Ag}(h : Bd m x)(g : Bd n y) : Bd (m+n) (x*y) := by
 unfold Bd at *;rw[Int.natAbs_mul, Nat.pow_add];exact Nat.mul_lt_mul'' h g
theorem KO{y:Ag}(h : Bd m x)(g : Bd n y)(hm : m <= 2000)(hn : n <= 2000) : F3 x y = Ab := by
 unfold F3 Bd at *;rw[Ak, AK, AK];exact⟨Ay h (Em (by decide) hm), Ay g (Em (by decide) hn)⟩
noncomputable def B3(a : R3) : Prop := Bd 300 a.1 /\ Bd 300 a.2.1 /\ Bd 300 a.2.2
noncomputable def Aw(q : An)(a : R3) : D := Di q [a.1, a.2.1, a.2.2]
theorem Ho(q : An)(a : R3) : F6 (Aw q a) (.int 0) = .ok (.int a.1) /\ F6 (Aw q a) (.int 1) = .ok (.int a.2.1) /\ F6 (Aw q a) (.int 2) = .ok (.int a.2.2) := by cases q <;> exact⟨rfl, rfl, rfl⟩
section
variable{Γ : Gam}{ns : Ac Ag}{p t : Ag}{a b c r : R3}{made s6 s7 : Sl}
end
theorem LS{p : Ag} : ∀{xs ys : Ac Ag}, xs.map (fun x => x%p) = ys.map (fun x => x%p) -> Ba p xs = Ba p ys
 |[], [], _ => rfl
 |x::xs, y::ys, h => by
  rw[Cm, Cm, Pl]at h;unfold Ba;rw[h.1, LS h.2]
 |[], _::_, h => by simp at h
 |_::_, [], h => by simp at h
theorem XH(hp : 0<p)(t : Ag)(a : R3) : In3 p (fmR p t a) := ⟨⟨BS _ (by omega), Bt _ hp⟩, ⟨BS _ (by omega), Bt _ hp⟩, ⟨BS _ (by omega), Bt _ hp⟩⟩
section
variable{Γ : Gam}{ns : Ac Ag}{p m : Ag}{a b c : R3}{fa fb fc : R3}{q : An}{s9 s0 s1 s2 : Sl}
end
noncomputable def JU(Γ : Gam) : Prop := ∀ p n : Ag, P4 p -> n%p ≠ 0 -> ∃ t, 1 <= t /\ t<p /\ n*t%p = 1 /\ Γ.F 9 [.int p, .int n] = .ok (.int t)
noncomputable def Kn(Γ : Gam) : Prop := ∀(p : Ag)(b : An)(xs : Ac Ag)(l t : Ag), P4 p -> Ba p xs = Aa l -> Hw p l t -> Γ.F 17 [.int p, Di b xs] = .ok (.tup (ds (fmI p t xs)))
theorem QW(hr : Ie Γ)(p n : Ag)(hp : P4 p)(z : n%p ≠ 0):∃ t,1 <= t/\t<p/\n*t%p = 1/\IG.run Γ [.int p,.int n] = .ok (.int t) := by
 have p0 := hp.pos;have ph := hp.hi;have body : ∀ t ∈ Hx p, ∀ ρ, (∃ s, ρ = [si p, si n, s]) -> (decide (n*t%p = 1) = Ab /\ Dd Γ 2 Hb (.int t) ρ = .ret (.int t) Ad) \/ (decide (n*t%p = 1) = Ad /\ ∃ ρ', Dd Γ 2 Hb (.int t) ρ = .next ρ' /\ ∃ s, ρ' = [si p, si n, s]) := by
  rintro t ht ρ ⟨s, rfl⟩;obtain⟨t1, t2⟩ := Ka.mp ht;have m : DT n t = Ab := Ts (by omega) (by omega)
  by_cases e : n*t%p = 1
  ·exact .inl ⟨by simp[e], by simp[Dd, Hb, hr p (n*t) p0, m, e, EL]⟩
  ·exact .inr ⟨by simp[e], _, by simp[Dd, Hb, hr p (n*t) p0, m, e];rfl, _, rfl⟩
 have run : ∀ o, Dc (Dd Γ 2 Hb) ((Hx p).map D.int) [si p, si n, Af] = o -> IG.run Γ [.int p, .int n] = (Ea Γ (.cons (.rais 2 (.cons (.str (CP "a number with the rest 0 is not turned over")) .nil)) .nil) o).ans Ad := by
  rintro o rfl;simp[IG, Df.run, B8, Se hp]
 rcases LV (fun ρ => ∃ s, ρ = [si p, si n, s]) (fun t => decide (n*t%p = 1)) (Hx p) body [si p, si n, Af] ⟨_, rfl⟩ with ⟨t, ht, a, b⟩|⟨a, r, b, s, rfl⟩
 ·obtain⟨t1, t2⟩ := Ka.mp ht;have a' : n*t%p = 1 := by simpa using a
  exact⟨t, t1, t2, a', by rw[run _ b];rfl⟩
 ·obtain⟨t, t1, t2, e⟩ := Ij hp z;have := a t (Ka.mpr ⟨t1, t2⟩);simp[e]at this
section
variable{Γ : Gam}{p : Ag}{xs : Ac Ag}{b : An}
theorem Mz(hr : Ie Γ)(ht : JU Γ)(hp : P4 p)(rs : Ac Ag) :∀(ys :Ac Ag),(∀ y ∈ ys,0 <= y/\y<p)->∀ s3,(Ba p ys = Af->∃ s3',Dc (Dd Γ 3 Fp) (ds ys) [si p,sh (Di b xs),sh (.lst (ds rs)),s3,Af,Af,Af] = .next [si p,sh (Di b xs),sh (.lst (ds rs)),s3',Af,Af,Af])/\(∀ l t,Ba p ys = Aa l->Hw p l t->Dc (Dd Γ 3 Fp) (ds ys) [si p,sh (Di b xs),sh (.lst (ds rs)),s3,Af,Af,Af] = .ret (.tup (ds (rs.map fun r =>t*r%p))) Ad)
 |[], _, s3 => ⟨fun _ => ⟨s3, rfl⟩, (fun l t h => nomatch h)⟩
 |y::ys, hy, s3 => by
  obtain⟨y0, y1⟩ := hy y (AI ..);have ym : y%p = y := AQ y0 y1;have ih := Mz hr ht hp rs ys (fun z hz => hy z (Az _ hz)) (si y)
  have step : ∀ o, Dd Γ 3 Fp (.int y) [si p, sh (Di b xs), sh (.lst (ds rs)), s3, Af, Af, Af] = o -> Dc (Dd Γ 3 Fp) (ds (y::ys)) [si p, sh (Di b xs), sh (.lst (ds rs)), s3, Af, Af, Af] = o.turn (Dc (Dd Γ 3 Fp) (ds ys)) := by
   rintro o rfl;rfl
  unfold Ba;rw[ym];by_cases hz : y = 0
  ·have e : Dd Γ 3 Fp (.int y) [si p, sh (Di b xs), sh (.lst (ds rs)), s3, Af, Af, Af] = .next [si p, sh (Di b xs), sh (.lst (ds rs)), si y, Af, Af, Af] := by
    simp[Dd, Fp, hz]
   rw[AB hz, step _ e];exact ih
  ·rw[AE hz];refine⟨(fun z => nomatch z), fun l t e it => ?_⟩
   cases e;obtain⟨u, u1, u2, u3, u4⟩ := ht p y hp (by rw[ym];exact hz)
   have : t = u := RH it ⟨u1, u2, u3⟩;subst this;have p0 := hp.pos;have ph := hp.hi;have cp : B9 (cG Γ [si p, sh (Di b xs), sh (.lst (ds rs)), si y, si t, Af, Af] 6 LF) (cF Γ [si p, sh (Di b xs), sh (.lst (ds rs)), si y, si t, Af, Af] 6 JB) (ds rs) = .ok (ds (rs.map fun r => t*r%p)) := by
    refine J7 rs fun r _ => ⟨rfl, ?_⟩
    have m : DT t r = Ab := HZ (by omega) (by omega)
    simp[cF, JB, m, hr p (t*r) p0]
   have e : Dd Γ 3 Fp (.int y) [si p, sh (Di b xs), sh (.lst (ds rs)), s3, Af, Af, Af] = .ret (.tup (ds (rs.map fun r => t*r%p))) Ad := by
    simp[Dd, Fp, hz, u4, cp, EL]
   rw[step _ e];rfl
theorem TU(hr : Ie Γ)(ht : JU Γ)(hp : P4 p){l t : Ag}(e : Ba p xs = Aa l)(it : Hw p l t) : IR.run Γ [.int p, Di b xs] = .ok (.tup (ds (fmI p t xs))) := by
 have p0 := hp.pos;have cp : B9 (cG Γ [si p, sh (Di b xs), Af, Af, Af, Af, Af] 5 LG) (cF Γ [si p, sh (Di b xs), Af, Af, Af, Af, Af] 5 JC) (ds xs) = .ok (ds (xs.map fun x => x%p)) := by
  refine J7 xs fun x _ => ⟨rfl, ?_⟩
  simp[cF, JC, hr p x p0]
 have run : ∀ o, Dc (Dd Γ 3 Fp) (ds (xs.map fun x => x%p)) [si p, sh (Di b xs), sh (.lst (ds (xs.map fun x => x%p))), Af, Af, Af, Af] = o -> IR.run Γ [.int p, Di b xs] = (Ea Γ (.cons (.rais 3 (.cons (.str (CP "all the numbers have the rest 0")) .nil)) .nil) o).ans Ad := by
  rintro o rfl;simp[IR, Df.run, B8, Rh, cp]
 have le : Ba p (xs.map fun x => x%p) = Ba p xs := by
  have := IN (c := 1) hp (by rcases hp with rfl|rfl|rfl|rfl <;> decide) (f := fun x => x%p) (fun x => by rw[Cf, Bh _ (Ch p)]) xs
  rw[this];cases e : Ba p xs with
  |none => rfl
  |some l=>
   obtain⟨_, l0, l1⟩ := JX p0 e;simp[AQ (Int.le_of_lt l0) l1]
 obtain⟨a, c⟩ := Mz (b := b) (xs := xs) hr ht hp (xs.map fun x => x%p) (xs.map fun x => x%p) (fun y hy => by
  obtain⟨x, _, rfl⟩ := Gg.mp hy;exact⟨BS _ (by omega), Bt _ p0⟩) Af
 rw[le]at a c;rw[run _ (c l t e it)];simp[fmI, List.map_map, Pd]
end
noncomputable def ID(a b c : R3) : R3 := (a.1, b.1, c.1)
noncomputable def IC(a b c : R3) : R3 := (a.2.1, b.2.1, c.2.1)
noncomputable def IB(a b c : R3) : R3 := (a.2.2, b.2.2, c.2.2)
noncomputable def Bb(a x : R3) : Ag := a.1*x.1+a.2.1*x.2.1+a.2.2*x.2.2
noncomputable def crs(a b : R3) : R3 := (a.2.1*b.2.2-a.2.2*b.2.1, a.2.2*b.1-a.1*b.2.2, a.1*b.2.1-a.2.1*b.1)
theorem M0 : ∀ xs ys : Ac Ag, eqDs (ds xs) (ds ys) = decide (xs = ys)
 |[], [] => rfl
 |[], _::_ => rfl
 |_::_, [] => rfl
 |x::xs, y::ys => by
  show ((x==y)&&eqDs (ds xs) (ds ys)) = _;rw[M0 xs ys, CV];simp
theorem N7(a b : R3) : eqD (Aw Ab a) (Aw Ab b) = decide (a = b) := by
 show eqDs (ds [a.1, a.2.1, a.2.2]) (ds [b.1, b.2.1, b.2.2]) = _;rw[M0, CV];simp only[Pl, and_true, AK];exact⟨fun ⟨h1, h2, h3⟩ => by obtain⟨a1, a2, a3⟩ := a;obtain⟨b1, b2, b3⟩ := b;simp at h1 h2 h3;rw[h1, h2, h3], fun h => by rw[h];exact⟨rfl, rfl, rfl⟩⟩
noncomputable def Ko(Γ : Gam) : Prop := ∀ a b : R3, B3 a -> B3 b -> a ≠ b -> Γ.F 23 [Aw Ab a, Aw Ab b] = .ok (Aw Ab (crs a b))
theorem Jp(hp : P4 p)(h0 : 0 <= x)(h1 : x<p) : Bd 10 x := by
 unfold Bd;have := hp.hi;omega
theorem Bd.mono(h : Bd m x)(hm : m <= n) : Bd n x := Ay h (Em (by decide) hm)
noncomputable def Bn(n : Ae)(a : R3) : Prop := Bd n a.1 /\ Bd n a.2.1 /\ Bd n a.2.2
theorem Bn.b3(h : Bn n a)(hn : n <= 300) : B3 a := ⟨h.1.mono hn, h.2.1.mono hn, h.2.2.mono hn⟩
theorem Hz(hp : P4 p)(h : In3 p a) : Bn 10 a := ⟨Jp hp h.1.1 h.1.2, Jp hp h.2.1.1 h.2.1.2, Jp hp h.2.2.1 h.2.2.2⟩
noncomputable def CD(k : Ag)(a : R3) : R3 := (k*a.1, k*a.2.1, k*a.2.2)
noncomputable def fk0(p : Ag)(a b c d : R3) : Ag := Ft d b c%p
noncomputable def fs0(p : Ag)(a b c d : R3) : R3 := CD (fk0 p a b c d) a
noncomputable def CgR(p : Ag)(x y : R3) : Prop := Cg p x.1 y.1 /\ Cg p x.2.1 y.2.1 /\ Cg p x.2.2 y.2.2
section
variable{p : Ag}{a b c a' b' c' x y z x' : R3}{k l m k' : Ag}
theorem CgR.rfl : CgR p a a := ⟨Cg.rfl, Cg.rfl, Cg.rfl⟩
theorem CgR.of(h : a = b) : CgR p a b := by rw[h];exact CgR.rfl
theorem CgR.trans(h : CgR p a b)(g : CgR p b c) : CgR p a c := ⟨h.1.trans g.1, h.2.1.trans g.2.1, h.2.2.trans g.2.2⟩
theorem CgR.symm(h : CgR p a b) : CgR p b a := ⟨h.1.symm, h.2.1.symm, h.2.2.symm⟩
theorem CgR.sc(hk : Cg p k k')(h : CgR p a b) : CgR p (CD k a) (CD k' b) := ⟨hk.mul h.1, hk.mul h.2.1, hk.mul h.2.2⟩
theorem Gv(ha : CgR p a a')(hb : CgR p b b') : Cg p (Bb a b) (Bb a' b') := ((ha.1.mul hb.1).add (ha.2.1.mul hb.2.1)).add (ha.2.2.mul hb.2.2)
theorem Vl(ha : CgR p a a')(hb : CgR p b b')(hc : CgR p c c') : CgR p (ID a b c) (ID a' b' c') /\ CgR p (IC a b c) (IC a' b' c') /\ CgR p (IB a b c) (IB a' b' c') := ⟨⟨ha.1, hb.1, hc.1⟩, ⟨ha.2.1, hb.2.1, hc.2.1⟩, ⟨ha.2.2, hb.2.2, hc.2.2⟩⟩
theorem NA(ha : CgR p a a')(hb : CgR p b b') : CgR p (crs a b) (crs a' b'):=
 ⟨(ha.2.1.mul hb.2.2).sub (ha.2.2.mul hb.2.1), (ha.2.2.mul hb.1).sub (ha.1.mul hb.2.2), (ha.1.mul hb.2.1).sub (ha.2.1.mul hb.1)⟩
theorem XI(p t : Ag)(a : R3) : CgR p (fmR p t a) (CD t a) := by
 have key : ∀ x : Ag, Cg p (t*(x%p)%p) (t*x) := fun x => (Cg.md _root_.rfl).trans (Cg.rfl.mul (Cg.md _root_.rfl))
 exact⟨key _, key _, key _⟩
noncomputable def ap(a b c x : R3) : R3 := (Bb a x, Bb b x, Bb c x)
theorem Og(k l : Ag)(x : R3) : CD k (CD l x) = CD (k*l) x := by
 unfold CD;simp only[EX]
theorem XQ(a b c x : R3)(k : Ag) : ap a b c (CD k x) = CD k (ap a b c x) := by
 unfold ap CD Bb;refine DC ?_ (DC ?_ ?_) <;> (simp only;grind)
end
section
variable{p : Ag}{a b c f0 f1 f2 f3 g0 g1 g2 g3 : R3}{d0 d1 d2 d3 : Ag}
end
section
variable{Γ : Gam}{ns : Ac Ag}
end
section
variable{Γ : Gam}{ns : Ac Ag}{many s5 s6 s7 s8 s9 s0 s1 s2 : Sl}{p : Ag}{a b c : R3}
end
noncomputable def InL(p : Ag)(xs : Ac Ag) : Prop := ∀ x ∈ xs, 0 <= x /\ x<p
theorem InL.set{xs:Ac Ag}(h : InL p xs)(k : Ae){v:Ag}(h0 : 0 <= v)(h1 : v<p) : InL p (xs.set k v) := fun x hx => by
 rcases List.mem_or_eq_of_mem_set hx with z|rfl
 ·exact h x z
 ·exact⟨h0, h1⟩
section
variable{Γ : Gam}{ns : Ac Ag}{p at_ : Ag}
end
section
variable{Γ : Gam}{ns : Ac Ag}{p t : Ag}
end
structure C6 where
 c0 : Ag
 c1 : Ag
 c2 : Ag
 c3 : Ag
 c4 : Ag
 c5 : Ag
noncomputable def C6.l(C : C6) : Ac Ag := [C.c0, C.c1, C.c2, C.c3, C.c4, C.c5]
noncomputable def vI(C : C6)(x : R3) : Ag := C.c0*x.1*x.1+C.c1*x.2.1*x.2.1+C.c2*x.2.2*x.2.2+(C.c3*x.1*x.2.1+C.c4*x.1*x.2.2+C.c5*x.2.1*x.2.2)
noncomputable def tw0(C : C6) : R3 := (2*C.c0, C.c3, C.c4)
noncomputable def tw1(C : C6) : R3 := (C.c3, 2*C.c1, C.c5)
noncomputable def tw2(C : C6) : R3 := (C.c4, C.c5, 2*C.c2)
noncomputable def bI(C : C6)(x y : R3) : Ag := Bb (ap (tw0 C) (tw1 C) (tw2 C) x) y
noncomputable def scC(k : Ag)(C : C6) : C6 := ⟨k*C.c0, k*C.c1, k*C.c2, k*C.c3, k*C.c4, k*C.c5⟩
noncomputable def CgC(p : Ag)(C D : C6) : Prop := Cg p C.c0 D.c0 /\ Cg p C.c1 D.c1 /\ Cg p C.c2 D.c2 /\ Cg p C.c3 D.c3 /\ Cg p C.c4 D.c4 /\ Cg p C.c5 D.c5
noncomputable def pb(C : C6)(a b c : R3) : C6 := ⟨vI C (ID a b c), vI C (IC a b c), vI C (IB a b c), bI C (ID a b c) (IC a b c), bI C (ID a b c) (IB a b c), bI C (IC a b c) (IB a b c)⟩
section
variable{p : Ag}{C D E : C6}{a b c a' b' c' x y x' y' : R3}{k k' : Ag}
theorem C6.ext'(h0 : C.c0 = D.c0)(h1 : C.c1 = D.c1)(h2 : C.c2 = D.c2)(h3 : C.c3 = D.c3)(h4 : C.c4 = D.c4)(h5 : C.c5 = D.c5) : C = D := by
 cases C;cases D;simp_all
theorem CgC.rfl : CgC p C C := ⟨Cg.rfl, Cg.rfl, Cg.rfl, Cg.rfl, Cg.rfl, Cg.rfl⟩
theorem CgC.of(h : C = D) : CgC p C D := by rw[h];exact CgC.rfl
theorem CgC.symm(h : CgC p C D) : CgC p D C := ⟨h.1.symm, h.2.1.symm, h.2.2.1.symm, h.2.2.2.1.symm, h.2.2.2.2.1.symm, h.2.2.2.2.2.symm⟩
theorem CgC.trans(h : CgC p C D)(g : CgC p D E) : CgC p C E := ⟨h.1.trans g.1, h.2.1.trans g.2.1, h.2.2.1.trans g.2.2.1, h.2.2.2.1.trans g.2.2.2.1, h.2.2.2.2.1.trans g.2.2.2.2.1, h.2.2.2.2.2.trans g.2.2.2.2.2⟩
theorem CgC.sc(hk : Cg p k k')(h : CgC p C D) : CgC p (scC k C) (scC k' D) := ⟨hk.mul h.1, hk.mul h.2.1, hk.mul h.2.2.1, hk.mul h.2.2.2.1, hk.mul h.2.2.2.2.1, hk.mul h.2.2.2.2.2⟩
theorem KY(h : CgC p C D)(hx : CgR p x x') : Cg p (vI C x) (vI D x'):=
 (((((h.1.mul hx.1).mul hx.1).add ((h.2.1.mul hx.2.1).mul hx.2.1)).add ((h.2.2.1.mul hx.2.2).mul hx.2.2))).add ((((h.2.2.2.1.mul hx.1).mul hx.2.1).add ((h.2.2.2.2.1.mul hx.1).mul hx.2.2)).add ((h.2.2.2.2.2.mul hx.2.1).mul hx.2.2))
theorem Wh(h : CgC p C D) : CgR p (tw0 C) (tw0 D) /\ CgR p (tw1 C) (tw1 D) /\ CgR p (tw2 C) (tw2 D):=
 ⟨⟨Cg.rfl.mul h.1, h.2.2.2.1, h.2.2.2.2.1⟩, ⟨h.2.2.2.1, Cg.rfl.mul h.2.1, h.2.2.2.2.2⟩, ⟨h.2.2.2.2.1, h.2.2.2.2.2, Cg.rfl.mul h.2.2.1⟩⟩
theorem VY(ha : CgR p a a')(hb : CgR p b b')(hc : CgR p c c')(hx : CgR p x x') : CgR p (ap a b c x) (ap a' b' c' x') := ⟨Gv ha hx, Gv hb hx, Gv hc hx⟩
theorem K6(h : CgC p C D)(hx : CgR p x x')(hy : CgR p y y') : Cg p (bI C x y) (bI D x' y'):=
 let ⟨t0, t1, t2⟩ := Wh h
 Gv (VY t0 t1 t2 hx) hy
theorem WW(h : CgC p C D)(ha : CgR p a a')(hb : CgR p b b')(hc : CgR p c c') : CgC p (pb C a b c) (pb D a' b' c'):=
 let ⟨s0, s1, s2⟩ := Vl ha hb hc
 ⟨KY h s0, KY h s1, KY h s2, K6 h s0 s1, K6 h s0 s2, K6 h s1 s2⟩
theorem NR(k l : Ag)(C : C6) : scC k (scC l C) = scC (k*l) C := by
 unfold scC;simp only[EX]
theorem MT(C : C6) : scC 1 C = C := by unfold scC;simp only[Cf]
theorem WV(k : Ag)(C : C6)(a b c : R3) : pb (scC k C) a b c = scC k (pb C a b c) := by
 unfold pb scC vI bI ap tw0 tw1 tw2 Bb;refine C6.ext' ?_ ?_ ?_ ?_ ?_ ?_ <;> (simp only;grind)
noncomputable def PrC(p : Ag)(C D : C6) : Prop := ∃ d, d%p ≠ 0 /\ CgC p C (scC d D)
theorem PrC.rfl(hp : P4 p) : PrC p C C := ⟨1, hp.o1, CgC.of (MT C).symm⟩
theorem PrC.trans(hp : P4 p)(i : PrC p C D)(j : PrC p D E) : PrC p C E := by
 obtain⟨d, dz, e⟩ := i;obtain⟨d', dz', e'⟩ := j;exact⟨d*d', GS hp dz dz', e.trans ((CgC.sc Cg.rfl e').trans (CgC.of (NR _ _ _)))⟩
theorem Vu(hp : P4 p)(dz : k%p ≠ 0) : ∃ u, u%p ≠ 0 /\ Cg p (u*k) 1 := by
 obtain⟨u, u1, u2, u3⟩ := Ij hp dz;refine⟨u, by rw[AQ (by omega) u2];omega, ?_⟩
 show u*k%p = 1%p;rw[B5, u3, AQ (by decide) (by have := hp.lo;omega)]
theorem PrC.symm(hp : P4 p)(i : PrC p C D) : PrC p D C := by
 obtain⟨d, dz, e⟩ := i;obtain⟨u, uz, o⟩ := Vu hp dz;refine⟨u, uz, ?_⟩;have q := CgC.sc (k := u) (k' := u) Cg.rfl e;rw[NR]at q;exact(q.trans ((CgC.sc o CgC.rfl).trans (CgC.of (MT D)))).symm
theorem PrC.pb(i : PrC p C D) : PrC p (OvC.pb C a b c) (OvC.pb D a b c) := by
 obtain⟨d, dz, e⟩ := i;exact⟨d, dz, (WW e CgR.rfl CgR.rfl CgR.rfl).trans (CgC.of (WV d D a b c))⟩
noncomputable def InC(p : Ag)(C : C6) : Prop := ∀ x ∈ C.l, 0 <= x /\ x<p
end
structure BC (C : C6) : Prop where
 b0 : Bd 10 C.c0
 b1 : Bd 10 C.c1
 b2 : Bd 10 C.c2
 b3 : Bd 10 C.c3
 b4 : Bd 10 C.c4
 b5 : Bd 10 C.c5
theorem InC.b{C:C6}(hp : P4 p)(h : InC p C) : BC C := by
 have k : ∀ x ∈ C.l, Bd 10 x := fun x hx => Jp hp (h x hx).1 (h x hx).2
 exact⟨k _ (by simp[C6.l]), k _ (by simp[C6.l]), k _ (by simp[C6.l]), k _ (by simp[C6.l]), k _ (by simp[C6.l]), k _ (by simp[C6.l])⟩
noncomputable def t0(p : Ag)(C : C6) : R3 := (2*C.c0%p, C.c3, C.c4)
noncomputable def t1(p : Ag)(C : C6) : R3 := (C.c3, 2*C.c1%p, C.c5)
noncomputable def t2(p : Ag)(C : C6) : R3 := (C.c4, C.c5, 2*C.c2%p)
section
variable{Γ : Gam}{ns : Ac Ag}{p at_ : Ag}{φ : Ag -> Ag}
end
noncomputable def Pr(p : Ag)(x y : R3) : Prop := ∃ d, d%p ≠ 0 /\ CgR p x (CD d y)
section
variable{p : Ag}{a b c x y z f g h : R3}{k : Ag}
theorem KC(x : R3) : CD 1 x = x := by unfold CD;simp only[Cf]
theorem Pr.rfl(hp : P4 p) : Pr p x x := ⟨1, hp.o1, CgR.of (KC x).symm⟩
theorem Pr.trans(hp : P4 p)(i : Pr p x y)(j : Pr p y z) : Pr p x z := by
 obtain⟨d, dz, e⟩ := i;obtain⟨d', dz', e'⟩ := j;exact⟨d*d', GS hp dz dz', e.trans ((CgR.sc Cg.rfl e').trans (CgR.of (Og _ _ _)))⟩
theorem Pr.symm(hp : P4 p)(i : Pr p x y) : Pr p y x := by
 obtain⟨d, dz, e⟩ := i;obtain⟨u, u1, u2, u3⟩ := Ij hp dz;have uz : u%p ≠ 0 := by rw[AQ (by omega) u2];omega
 have o : Cg p (u*d) 1 := by
  show u*d%p = 1%p;rw[B5, u3, AQ (by decide) (by have := hp.lo;omega)]
 refine⟨u, uz, ?_⟩;have q := CgR.sc (k := u) (k' := u) Cg.rfl e;rw[Og]at q;exact(q.trans ((CgR.sc o CgR.rfl).trans (CgR.of (KC y)))).symm
theorem XR{a' b' c' x':R3}(ha : CgR p a a')(hb : CgR p b b')(hc : CgR p c c')(hx : CgR p x x') : CgR p (ap a b c x) (ap a' b' c' x') := ⟨Gv ha hx, Gv hb hx, Gv hc hx⟩
theorem Pr.ap(i : Pr p x y) : Pr p (OvC.ap a b c x) (OvC.ap a b c y) := by
 obtain⟨d, dz, e⟩ := i;exact⟨d, dz, (XR CgR.rfl CgR.rfl CgR.rfl e).trans (CgR.of (XQ a b c y d))⟩
end
noncomputable def tri(g : R3) : Ac Ag := [g.1, g.2.1, g.2.2]
theorem Nh{x:R3}(hp : P4 p)(ix : In3 p x)(iy : In3 p y)(lx : Ba p (tri x) = Aa 1)(ly : Ba p (tri y) = Aa 1)(h : Pr p x y) : x = y := by
 obtain⟨d, dz, e⟩ := h;have p1 : 1<p := by have := hp.lo;omega
 have rs : (tri x).map (fun x => x%p) = ((tri y).map fun x => d*x).map (fun x => x%p) := by
  simp only[tri, Cm, Px];rw[show x.1%p = d*y.1%p from e.1, show x.2.1%p = d*y.2.1%p from e.2.1, show x.2.2%p = d*y.2.2%p from e.2.2]
 have el := IN hp dz (f := fun x => d*x) (fun _ => rfl) (tri y)
 rw[ly, <-LS rs, lx, Fx, Ck, C3]at el;have o : Cg p d 1 := by
  show d%p = 1%p;rw[<-el, AQ (by decide) p1]
 have q := e.trans ((CgR.sc o CgR.rfl).trans (CgR.of (KC y)));have same : ∀{u v : Ag}, (0 <= u /\ u<p) -> (0 <= v /\ v<p) -> Cg p u v -> u = v := fun hu hv huv => by
  have := show _%p = _%p from huv
  rwa [AQ hu.1 hu.2, AQ hv.1 hv.2]at this
 exact DC (same ix.1 iy.1 q.1) (DC (same ix.2.1 iy.2.1 q.2.1) (same ix.2.2 iy.2.2 q.2.2))
section
variable{p : Ag}{a b c a' b' c' f0 f1 f2 f3 g0 g1 g2 g3 h0 h1 h2 h3 : R3}
end
section
variable{Γ : Gam}{ns : Ac Ag}{p : Ag}
end
section
variable{Γ : Gam}{ns : Ac Ag}{mid : Ae}{p : Ag}{a b c : R3}{s2 s4 s5 s6 s7 s8 : Sl}
end
theorem QT{lo hi:Ag}(h1 : -1000 <= lo)(h2 : lo <= 1000)(h3 : -1000 <= hi)(h4 : hi <= 1000) : C4 lo hi = .ok (DX lo (hi-lo).toNat) := by
 unfold C4;rw[AB (by refine⟨⟨by omega, by omega⟩, ⟨by omega, by omega⟩, ?_⟩;omega)]
theorem Vn(h : 1<p) : Ba p [0, 0, 1] = Aa 1 := by
 simp[Ba, AQ (by decide : (0 : Ag) <= 1) h]
theorem WK(h : 1<p)(z : Ag) : Ba p [0, 1, z] = Aa 1 := by
 simp[Ba, AQ (by decide : (0 : Ag) <= 1) h]
theorem Yd(h : 1<p)(y z : Ag) : Ba p [1, y, z] = Aa 1 := by
 simp[Ba, AQ (by decide : (0 : Ag) <= 1) h]
theorem Sd{p l : Ag}{r:R3}(hp : P4 p)(el : Ba p (tri r) = Aa l) : ∃ u, Hw p l u /\ In3 p (fmR p u r) /\ Ba p (tri (fmR p u r)) = Aa 1 /\ Pr p (fmR p u r) r /\ fmI p u (tri r) = tri (fmR p u r) := by
 have p0 := hp.pos;obtain⟨lz, _, _⟩ := JX p0 el;obtain⟨t, t1, t2, t3⟩ := Ij hp lz;have tz : t%p ≠ 0 := by rw[AQ (by omega) t2];omega
 have ff : ∀ x, (t*(x%p)%p)%p = t*x%p := fun x => by rw[Bh _ (Ch p), BA t (x%p) p, Bh _ (Ch p), <-BA]
 have lv := IN hp tz (f := fun x => t*(x%p)%p) ff (tri r)
 rw[el, Fx, B5, t3]at lv;exact⟨t, ⟨t1, t2, t3⟩, XH p0 t r, lv, ⟨t, tz, XI p t r⟩, rfl⟩
theorem Rm(h : Ba p (tri g) = Af) : CgR p g (0, 0, 0) := by
 have hz := JY.mp h;have k : ∀ x ∈ tri g, Cg p x 0 := fun x hx => by show x%p = 0%p;rw[hz x hx, Br]
 exact⟨k _ (by simp[tri]), k _ (by simp[tri]), k _ (by simp[tri])⟩
theorem Sc(h : CgR p g (0, 0, 0)) : Ba p (tri g) = Af := by
 refine JY.mpr fun x hx => ?_
 have k : ∀{x : Ag}, Cg p x 0 -> x%p = 0 := fun {x} h => by rw[show x%p = _ from h, Br]
 simp only[tri, AY, Pz, or_false]at hx;rcases hx with rfl|rfl|rfl
 ·exact k h.1
 ·exact k h.2.1
 ·exact k h.2.2
theorem Jm(x : R3) : flD 5 (Aw Ab x) = Ab /\ eqD (Aw Ab x) (Aw Ab x) = Ab := by
 refine⟨rfl, ?_⟩;show eqDs (ds [x.1, x.2.1, x.2.2]) (ds [x.1, x.2.1, x.2.2]) = Ab;rw[KI]
section
variable{Γ : Gam}{ns : Ac Ag}{p : Ag}{C : C6}{s3 s4 s5 s6 s7 s8 : Sl}
end
section
variable{Γ : Gam}{ns : Ac Ag}
end
noncomputable def Hj : Df := ⟨3, Ad, (.cons (.ret (.call 17 (.cons (.var 0) (.cons (.call 23 (.cons (.var 1) (.cons (.var 2) .nil))) .nil)))) .nil)⟩
theorem MI{a b : R3}(hp : P4 p)(h : CgR p (crs a b) (0, 0, 0))(la : Ba p (tri a) = Aa 1)(lb : Ba p (tri b) = Aa 1) : Pr p b a := by
 obtain⟨h0, h1, h2⟩ := h;have p1 : 1<p := by have := hp.lo;omega
 have sw : ∀{x y : Ag}, Cg p (x-y) 0 -> Cg p x y := fun {x y} h => by
  have := h.add (Cg.rfl (a := y))
  rwa [Int.sub_add_cancel, Gf]at this
 have e0 : Cg p (a.2.1*b.2.2) (a.2.2*b.2.1) := sw h0;have e1 : Cg p (a.2.2*b.1) (a.1*b.2.2) := sw h1;have e2 : Cg p (a.1*b.2.1) (a.2.1*b.1) := sw h2;have one : ∀{x : Ag}, x%p = 1 -> Cg p x 1 := fun {x} h => by show x%p = 1%p;rw[h, AQ (by decide) p1]
 have fin : ∀ k, CgR p b (CD k a) -> Pr p b a := fun k hk => by
  refine⟨k, fun z => ?_, hk⟩
  have : CgR p b (0, 0, 0) := by
   have kz : Cg p k 0 := by show k%p = 0%p;rw[z, Br]
   refine hk.trans ((CgR.sc kz CgR.rfl).trans (CgR.of ?_));unfold CD;simp
  rw[Sc this]at lb;cases lb
 unfold tri Ba at la;by_cases z0 : a.1%p = 0
 ·rw[AB z0]at la;have c0 : Cg p a.1 0 := by show a.1%p = 0%p;rw[z0, Br]
  unfold Ba at la;by_cases z1 : a.2.1%p = 0
  ·rw[AB z1]at la;have c1 : Cg p a.2.1 0 := by show a.2.1%p = 0%p;rw[z1, Br]
   unfold Ba at la;by_cases z2 : a.2.2%p = 0
   ·rw[AB z2]at la;cases la
   ·rw[AE z2, Ck]at la;have c2 := one la;refine fin b.2.2 ⟨?_, ?_, ?_⟩
    ·have := (c2.symm.mul (Cg.rfl (a := b.1))).trans e1;rw[Cf]at this;exact this.trans (Cg.of (B5 _ _))
    ·have := (c2.symm.mul (Cg.rfl (a := b.2.1))).trans e0.symm;rw[Cf]at this;exact this.trans (Cg.of (B5 _ _))
    ·have := (Cg.rfl (a := b.2.2)).mul c2;rw[C3]at this;exact this.symm
  ·rw[AE z1, Ck]at la;have c1 := one la;refine fin b.2.1 ⟨?_, ?_, ?_⟩
   ·have := (c1.symm.mul (Cg.rfl (a := b.1))).trans e2.symm;rw[Cf]at this;exact this.trans (Cg.of (B5 _ _))
   ·have := (Cg.rfl (a := b.2.1)).mul c1;rw[C3]at this;exact this.symm
   ·have := (c1.symm.mul (Cg.rfl (a := b.2.2))).trans e0;rw[Cf]at this;exact this.trans (Cg.of (B5 _ _))
 ·rw[AE z0, Ck]at la;have c0 := one la;refine fin b.1 ⟨?_, ?_, ?_⟩
  ·have := (Cg.rfl (a := b.1)).mul c0;rw[C3]at this;exact this.symm
  ·have := (c0.symm.mul (Cg.rfl (a := b.2.1))).trans e2;rw[Cf]at this;exact this.trans (Cg.of (B5 _ _))
  ·have := (c0.symm.mul (Cg.rfl (a := b.2.2))).trans e1.symm;rw[Cf]at this;exact this.trans (Cg.of (B5 _ _))
noncomputable def KR(Γ : Gam) : Prop := ∀(p : Ag)(a b : R3), P4 p -> In3 p a -> In3 p b -> Ba p (tri a) = Aa 1 -> Ba p (tri b) = Aa 1 -> a ≠ b -> ∃ y, In3 p y /\ Ba p (tri y) = Aa 1 /\ Pr p y (crs a b) /\ Γ.F 57 [.int p, Aw Ab a, Aw Ab b] = .ok (Aw Ab y)
theorem NT(hc : Ko Γ)(hf : Kn Γ)(p : Ag)(a b : R3)(hp : P4 p)(ia : In3 p a)(ib : In3 p b)(la : Ba p (tri a) = Aa 1)(lb : Ba p (tri b) = Aa 1)(ne : a ≠ b) : ∃ y, In3 p y /\ Ba p (tri y) = Aa 1 /\ Pr p y (crs a b) /\ Hj.run Γ [.int p, Aw Ab a, Aw Ab b] = .ok (Aw Ab y) := by
 have e1 := hc a b ((Hz hp ia).b3 (by decide)) ((Hz hp ib).b3 (by decide)) ne
 cases el : Ba p (tri (crs a b)) with
 |none => exact absurd (Nh hp ib ia lb la (MI hp (Rm el) la lb)).symm ne
 |some l=>
  obtain⟨u, iu, j, l1, pr, ef⟩ := Sd hp el;have e2 := hf p Ab _ l u hp el iu;rw[ef]at e2;have e2' : Γ.F 17 [.int p, Aw Ab (crs a b)] = .ok (Aw Ab (fmR p u (crs a b))) := e2;refine⟨_, j, l1, pr, ?_⟩;generalize Aw Ab (fmR p u (crs a b)) = Y at *;simp[Hj, Df.run, B8, e1, e2']
theorem VP(hp : P4 p)(kz : k%p ≠ 0) : k*x%p = 0 ↔ x%p = 0 := by
 constructor
 ·intro z;exact Classical.byContradiction fun n => GS hp kz n z
 ·intro z;rw[BA, z, Gd, Br]
theorem W4{x x' y':R3}(hp : P4 p)(hx : Pr p x x')(hy : Pr p y y') : (Bb x y%p = 0) ↔ (Bb x' y'%p = 0) := by
 obtain⟨d, dz, e⟩ := hx;obtain⟨d', dz', e'⟩ := hy;have q : Cg p (Bb x y) (d*d'*Bb x' y') := (Gv e e').trans (Cg.of (by unfold Bb CD;simp only;grind))
 rw[show Bb x y%p = _ from q]
 exact VP hp (GS hp dz dz')
section
variable{Γ : Gam}{ns : Ac Ag}{p : Ag}{C : C6}{s3 s4 s5 s6 s7 s8 : Sl}
end
noncomputable def NF(p : Ag)(x : R3) : Prop := In3 p x /\ Ba p (tri x) = Aa 1
noncomputable def ptI(p n : Ag) : R3 := if n = 0 then (0, 0, 1) else if n <= p then (0, 1, n-1) else (1, (n-p-1) / p, (n-p-1)%p)
noncomputable def DZ(p : Ag) : Ac R3 := (Ca (p*p+p+1).toNat).map fun(n : Ae) => ptI p n
theorem Oe{n:Ag}(hp : P4 p)(h0 : 0 <= n)(h1 : n<p*p+p+1) : NF p (ptI p n) := by
 have p1 : 1<p := by have := hp.lo;omega
 have p0 := hp.pos;unfold ptI;by_cases z : n = 0
 ·rw[AB z];exact⟨⟨⟨by decide, p0⟩, ⟨by decide, p0⟩, ⟨by decide, p1⟩⟩, Vn p1⟩
 ·rw[AE z];by_cases z1 : n <= p
  ·rw[AB z1];exact⟨⟨⟨Pf 0, p0⟩, ⟨(by decide : (0 : Ag) <= 1), p1⟩, ⟨by show 0 <= n-1;omega, by show n-1<p;omega⟩⟩, WK p1 _⟩
  ·rw[AE z1];have d0 : 0 <= (n-p-1) / p := Int.ediv_nonneg (by omega) (by omega)
   have d1 : (n-p-1) / p<p := by rw[Int.ediv_lt_iff_lt_mul p0];omega
   exact⟨⟨⟨(by decide : (0 : Ag) <= 1), p1⟩, ⟨d0, d1⟩, ⟨BS _ (by omega), Bt _ p0⟩⟩, Yd p1 _ _⟩
theorem WH{x:R3}(hp : P4 p)(h : NF p x) : ∃ n : Ag, 0 <= n /\ n<p*p+p+1 /\ x = ptI p n := by
 obtain⟨⟨i0, i1, i2⟩, l⟩ := h;have p1 : 1<p := by have := hp.lo;omega
 have p0 := hp.pos;have pp := FE p0 p0;obtain⟨x0, x1, x2⟩ := x;simp only at i0 i1 i2;unfold tri Ba at l;simp only at l;rw[AQ i0.1 i0.2]at l;by_cases z0 : x0 = 0
 ·rw[AB z0]at l;unfold Ba at l;rw[AQ i1.1 i1.2]at l;by_cases z1 : x1 = 0
  ·rw[AB z1]at l;unfold Ba at l;rw[AQ i2.1 i2.2]at l;by_cases z2 : x2 = 0
   ·rw[AB z2]at l;cases l
   ·rw[AE z2, Ck]at l;exact⟨0, Pf 0, by omega, by rw[z0, z1, l];rfl⟩
  ·rw[AE z1, Ck]at l;refine⟨x2+1, by omega, by omega, ?_⟩
   unfold ptI;rw[AE (by omega), AB (by omega), z0, l, Int.add_sub_cancel]
 ·rw[AE z0, Ck]at l;have m1 : p*x1 <= p*(p-1) := Int.mul_le_mul_of_nonneg_left (by omega) (by omega)
  have m0 : 0 <= p*x1 := Int.mul_nonneg (by omega) i1.1
  rw[Int.mul_sub, C3]at m1;refine⟨p+1+p*x1+x2, by omega, by omega, ?_⟩
  unfold ptI;have e : p+1+p*x1+x2-p-1 = x2+p*x1 := by omega
  rw[AE (by omega), AE (by omega), e, Int.add_mul_ediv_left _ _ (by omega), Int.ediv_eq_zero_of_lt i2.1 i2.2, Int.add_mul_emod_self_left, AQ i2.1 i2.2, Gf, l]
theorem Kj{x:R3}(hp : P4 p) : x ∈ DZ p ↔ NF p x := by
 have p0 := hp.pos;have pp := FE p0 p0;constructor
 ·intro h;obtain⟨n, hn, rfl⟩ := Gg.mp h;have := Cp.mp hn;exact Oe hp (by omega) (by omega)
 ·intro h;obtain⟨n, n0, n1, rfl⟩ := WH hp h;refine List.mem_map.mpr ⟨n.toNat, Cp.mpr (by omega), ?_⟩
  rw[Int.toNat_of_nonneg n0]
theorem RC(hp : P4 p) : (DZ p).Nodup := by
 rcases hp with rfl|rfl|rfl|rfl <;> decide +kernel
theorem VS{x:R3}(hp : P4 p)(hx : NF p x)(hy : NF p y)(h : Pr p x y) : x = y := Nh hp hx.1 hy.1 hx.2 hy.2 h
noncomputable def q4(w : Ae)(k : Ag)(y : R3) : Ag := match w with
  |0 => y.1*y.2.2-y.2.1*y.2.1
  |1 => y.1*y.1
  |2 => y.1*y.2.1
  |_ => y.1*y.1-k*(y.2.1*y.2.1)
noncomputable def GV(pts : Ac R3) : D := .lst (pts.map (Aw Ab))
theorem Mi{g : D -> R An}{f : D -> R D}{q : R3 -> An} : ∀(xs : Ac R3), (∀ x ∈ xs, g (Aw Ab x) = .ok (q x) /\ f (Aw Ab x) = .ok (Aw Ab x)) -> B9 g f (xs.map (Aw Ab)) = .ok ((xs.filter q).map (Aw Ab))
 |[], _ => rfl
 |x::xs, h => by
  obtain⟨h1, h2⟩ := h x (AI ..);have ih := Mi xs fun y hy => h y (Az _ hy)
  show (g (Aw Ab x)).bind _ = _;rw[h1, R.bind_ok, List.filter_cons];cases hq : q x with
  |true=>
   rw[AB rfl, AB rfl, h2, R.bind_ok, show B9 g f (List.map (Aw Ab) xs) = _ from ih]
   rfl
  |false=>
   rw[AE (by decide), AE (by decide)]
   exact ih
theorem Uq(a b c : R3) : Bb (crs a b) c = Ft a b c := by
 unfold Bb crs Ft det;grind
section
variable{Γ : Gam}{p i j k d N : Ag}{PP x y u : D}{RL : Ac D}{s t s' t' v : Sl}
end
section
variable{Γ : Gam}{p : Ag}{pts : Ac R3}
end
theorem QP{α:Type}[DecidableEq α]{l : Ac α}{q : α -> An}{y : α}(nd : l.Nodup)(hy : y ∈ l)(h : ∀ x ∈ l, q x = Ab ↔ x = y) : l.filter q = [y] := by
 have hm : ∀ x, x ∈ l.filter q ↔ x ∈ [y] := fun x => by
  rw[List.mem_filter, List.mem_singleton];constructor
  ·rintro⟨h1, h2⟩;exact(h x h1).mp h2
  ·rintro rfl;exact⟨hy, (h x hy).mpr rfl⟩
 exact List.perm_singleton.mp (Q4 (nd.filter _) (by simp) hm)
theorem Ur(u v x : R3) : crs (crs u v) x = (v.1*Bb u x-u.1*Bb v x, v.2.1*Bb u x-u.2.1*Bb v x, v.2.2*Bb u x-u.2.2*Bb v x) := by
 unfold crs Bb;simp only;refine DC ?_ (DC ?_ ?_) <;> (simp only;grind)
theorem Nz(k l : Ag)(a b : R3) : crs (CD k a) (CD l b) = CD (k*l) (crs a b) := by
 unfold crs CD;simp only;refine DC ?_ (DC ?_ ?_) <;> (simp only;grind)
theorem Pr.crs{a b a' b' : R3}(hp : P4 p)(h : Pr p a a')(g : Pr p b b') : Pr p (OvC.crs a b) (OvC.crs a' b') := by
 obtain⟨d, dz, e⟩ := h;obtain⟨d', dz', e'⟩ := g;exact⟨d*d', GS hp dz dz', (NA e e').trans (CgR.of (Nz ..))⟩
theorem MA{u v x:R3}(hp : P4 p)(hy : NF p y)(hx : NF p x)(py : Pr p y (crs u v))(h1 : Bb u x%p = 0)(h2 : Bb v x%p = 0) : x = y := by
 refine VS hp hx hy (MI hp ?_ hy.2 hx.2);obtain⟨d, dz, e⟩ := py;have c1 : Cg p (Bb u x) 0 := by show _%p = 0%p;rw[h1, Br]
 have c2 : Cg p (Bb v x) 0 := by show _%p = 0%p;rw[h2, Br]
 have key : ∀ s t : Ag, Cg p (d*(s*Bb u x-t*Bb v x)) 0 := fun s t => ((Cg.rfl (a := d)).mul (((Cg.rfl (a := s)).mul c1).sub ((Cg.rfl (a := t)).mul c2))).trans (Cg.of (by simp))
 refine(NA e CgR.rfl).trans ?_;have e2 : crs (CD d (crs u v)) x = CD d (crs (crs u v) x) := by
  have := Nz d 1 (crs u v) x
  rwa [show CD 1 x = x by unfold CD;simp, C3]at this
 rw[e2, Ur];exact⟨key _ _, key _ _, key _ _⟩
theorem Rw(a b : R3) : Bb a b = Bb b a := by
 unfold Bb;grind
noncomputable def KN : Df := ⟨3, Ad, (.cons (.ret (.cmp .Eq (.call 1 (.cons (.var 0) (.cons (.bin .Add (.bin .Add (.bin .Mult (.idx (.var 1) (.int 0)) (.idx (.var 2) (.int 0))) (.bin .Mult (.idx (.var 1) (.int 1)) (.idx (.var 2) (.int 1)))) (.bin .Mult (.idx (.var 1) (.int 2)) (.idx (.var 2) (.int 2)))) .nil))) (.int 0))) .nil)⟩
noncomputable def NL(Γ : Gam) : Prop := ∀(p : Ag)(x y : R3), P4 p -> In3 p x -> In3 p y -> Γ.F 24 [.int p, Aw Ab x, Aw Ab y] = .ok (.bl (decide (Bb x y%p = 0)))
theorem Uy(hr : Ie Γ)(p : Ag)(x y : R3)(hp : P4 p)(ix : In3 p x)(iy : In3 p y) : KN.run Γ [.int p, Aw Ab x, Aw Ab y] = .ok (.bl (decide (Bb x y%p = 0))) := by
 have p0 := hp.pos;have bx := Hz hp ix;have by_ := Hz hp iy;have k : ∀ {u v}, Bd 10 u -> Bd 10 v -> F3 u v = Ab := fun hu hv => KO hu hv (by decide) (by decide)
 have k0 := k bx.1 by_.1;have k1 := k bx.2.1 by_.2.1;have k2 := k bx.2.2 by_.2.2;obtain⟨x0, x1, x2⟩ := Ho Ab x;obtain⟨y0, y1, y2⟩ := Ho Ab y;have e := hr p (Bb x y) p0;unfold Bb at *;generalize x.1 = a0 at *;generalize x.2.1 = a1 at *;generalize x.2.2 = a2 at *;generalize y.1 = b0 at *;generalize y.2.1 = b1 at *;generalize y.2.2 = b2 at *;generalize Aw Ab x = xx at *;generalize Aw Ab y = yy at *;generalize hs : (a0*b0+a1*b1+a2*b2)%p = s at *;simp[KN, Df.run, B8, x0, x1, x2, y0, y1, y2, k0, k1, k2, e];rw[CV];simp
noncomputable def Lu : Df := ⟨3, Ad, (.cons (.ret (.call 24 (.cons (.var 0) (.cons (.var 1) (.cons (.var 2) .nil))))) .nil)⟩
noncomputable def NK(Γ : Gam) : Prop := ∀(p : Ag)(x y : R3), P4 p -> In3 p x -> In3 p y -> Γ.F 56 [.int p, Aw Ab x, Aw Ab y] = .ok (.bl (decide (Bb x y%p = 0)))
theorem UZ(h : NL Γ)(p : Ag)(x y : R3)(hp : P4 p)(ix : In3 p x)(iy : In3 p y) : Lu.run Γ [.int p, Aw Ab x, Aw Ab y] = .ok (.bl (decide (Bb x y%p = 0))) := by
 have e := h p x y hp ix iy;generalize Aw Ab x = xx at *;generalize Aw Ab y = yy at *;simp[Lu, Df.run, B8, e]
noncomputable def Io : Df := ⟨3, Ad, (.cons (.ret (.call 17 (.cons (.var 0) (.cons (.call 23 (.cons (.var 1) (.cons (.var 2) .nil))) .nil)))) .nil)⟩
noncomputable def KQ(Γ : Gam) : Prop := ∀(p : Ag)(a b : R3), P4 p -> In3 p a -> In3 p b -> Ba p (tri a) = Aa 1 -> Ba p (tri b) = Aa 1 -> a ≠ b -> ∃ y, In3 p y /\ Ba p (tri y) = Aa 1 /\ Pr p y (crs a b) /\ Γ.F 58 [.int p, Aw Ab a, Aw Ab b] = .ok (Aw Ab y)
theorem U0(hc : Ko Γ)(hf : Kn Γ)(p : Ag)(a b : R3)(hp : P4 p)(ia : In3 p a)(ib : In3 p b)(la : Ba p (tri a) = Aa 1)(lb : Ba p (tri b) = Aa 1)(ne : a ≠ b) : ∃ y, In3 p y /\ Ba p (tri y) = Aa 1 /\ Pr p y (crs a b) /\ Io.run Γ [.int p, Aw Ab a, Aw Ab b] = .ok (Aw Ab y) := NT hc hf p a b hp ia ib la lb ne
noncomputable def HM : Df := ⟨2, Ad, (.cons (.asg 0 Ad (.bin .Mod (.var 0) (.bin .Add (.bin .Add (.bin .Mult (.var 1) (.var 1)) (.var 1)) (.int 1)))) (.cons (.ife (.cmp .Eq (.var 0) (.int 0)) (.cons (.ret (.tup (.cons (.int 0) (.cons (.int 0) (.cons (.int 1) .nil))))) .nil) .nil) (.cons (.ife (.cmp .LtE (.var 0) (.var 1)) (.cons (.ret (.tup (.cons (.int 0) (.cons (.int 1) (.cons (.bin .Sub (.var 0) (.int 1)) .nil))))) .nil) .nil) (.cons (.ret (.tup (.cons (.int 1) (.cons (.bin .FloorDiv (.bin .Sub (.bin .Sub (.var 0) (.var 1)) (.int 1)) (.var 1)) (.cons (.bin .Mod (.bin .Sub (.bin .Sub (.var 0) (.var 1)) (.int 1)) (.var 1)) .nil))))) .nil))))⟩
theorem Nk(h : KR Γ){a b : R3}(hp : P4 p)(ha : NF p a)(hb : NF p b)(ne : a ≠ b) : ∃ y, NF p y /\ Pr p y (crs a b) /\ Γ.F 57 [.int p, Aw Ab a, Aw Ab b] = .ok (Aw Ab y) := by
 obtain⟨y, h1, h2, h3, e⟩ := h p a b hp ha.1 hb.1 ha.2 hb.2 ne;exact⟨y, ⟨h1, h2⟩, h3, e⟩
theorem S2(h : KQ Γ){a b : R3}(hp : P4 p)(ha : NF p a)(hb : NF p b)(ne : a ≠ b) : ∃ y, NF p y /\ Pr p y (crs a b) /\ Γ.F 58 [.int p, Aw Ab a, Aw Ab b] = .ok (Aw Ab y) := by
 obtain⟨y, h1, h2, h3, e⟩ := h p a b hp ha.1 hb.1 ha.2 hb.2 ne;exact⟨y, ⟨h1, h2⟩, h3, e⟩
theorem IY{a b x l : R3}(hp : P4 p)(pl : Pr p l (crs a b)) : Bb x l%p = 0 ↔ Ft a b x%p = 0 := by
 rw[Rw, W4 hp pl (Pr.rfl hp (x := x)), Uq]
theorem Jd(a b : R3) : Ft a b a = 0 /\ Ft a b b = 0 := by
 unfold Ft det;constructor <;> grind
noncomputable def G7 : Df := ⟨2, Ad, (.cons (.ife (.cmp .Eq (.var 0) (.var 1)) (.cons (.rais 107 (.cons (.var 0) .nil)) .nil) .nil) (.cons (.ret (.tup (.cons (.bin .Sub (.bin .Mult (.idx (.var 0) (.int 1)) (.idx (.var 1) (.int 2))) (.bin .Mult (.idx (.var 0) (.int 2)) (.idx (.var 1) (.int 1)))) (.cons (.bin .Sub (.bin .Mult (.idx (.var 0) (.int 2)) (.idx (.var 1) (.int 0))) (.bin .Mult (.idx (.var 0) (.int 0)) (.idx (.var 1) (.int 2)))) (.cons (.bin .Sub (.bin .Mult (.idx (.var 0) (.int 0)) (.idx (.var 1) (.int 1))) (.bin .Mult (.idx (.var 0) (.int 1)) (.idx (.var 1) (.int 0)))) .nil))))) .nil))⟩
theorem QX(Γ : Gam)(a b : R3)(ha : B3 a)(hb : B3 b)(ne : a ≠ b) : G7.run Γ [Aw Ab a, Aw Ab b] = .ok (Aw Ab (crs a b)) := by
 obtain⟨x0, x1, x2⟩ := Ho Ab a;obtain⟨y0, y1, y2⟩ := Ho Ab b;have k : ∀ {u v}, Bd 300 u -> Bd 300 v -> F3 u v = Ab := fun hu hv => KO hu hv (by decide) (by decide)
 have f : ∀ r : R3, flD 5 (Aw Ab r) = Ab := fun _ => rfl
 have e : eqD (Aw Ab a) (Aw Ab b) = Ad := by rw[N7];exact B4 ne
 simp[G7, Df.run, B8, f, e, x0, x1, x2, y0, y1, y2, k ha.2.1 hb.2.2, k ha.2.2 hb.2.1, k ha.2.2 hb.1, k ha.1 hb.2.2, k ha.1 hb.2.1, k ha.2.1 hb.1];rfl
noncomputable def alk(a : R3) : Ex := ⟨107, [(CP "triple", Aw Ab a)]⟩
theorem VV(hp : P4 p)(h : In3 p a) : mkX 107 "triple" [Aw Ab a] = .ok (alk a) := by
 have ph := hp.hi;obtain⟨⟨x0, x1⟩, ⟨y0, y1⟩, z0, z1⟩ := h;have e : xfD 1 (Aw Ab a) = Ab := by
  show (CT 3 8&&([D.int a.1, .int a.2.1, .int a.2.2].all (xfD 0))) = Ab;simp[xfD];omega
 show (if (xfD 1 (Aw Ab a)||xfD 2 (Aw Ab a)) = Ab then R.ok (alk a) else .bad) = _
 rw[e];rfl
theorem TV(Γ : Gam)(a : R3)(hx : Γ.xn 107 [Aw Ab a] = .ok (alk a)) : G7.run Γ [Aw Ab a, Aw Ab a] = .exn (alk a) := by
 obtain⟨f, e⟩ := Jm a;generalize Aw Ab a = ra at *;simp[G7, Df.run, B8, f, e, hx]
noncomputable def Je(Γ : Gam)(i : Ae) : Prop := ∀(p : Ag)(a : R3), P4 p -> In3 p a -> Γ.F i [.int p, Aw Ab a, Aw Ab a] = .exn (alk a)
theorem Sg(p : Ag)(h : Γ.F 23 [Aw Ab a, Aw Ab a] = .exn (alk a)) : Hj.run Γ [.int p, Aw Ab a, Aw Ab a] = .exn (alk a) := by
 simp[Hj, Df.run, B8, h]
theorem Sf(p : Ag)(h : Γ.F 23 [Aw Ab a, Aw Ab a] = .exn (alk a)) : Io.run Γ [.int p, Aw Ab a, Aw Ab a] = .exn (alk a) := by
 simp[Io, Df.run, B8, h]
noncomputable def JF : Df := ⟨6, Ad, (.cons (.asg 3 Ad .non) (.cons (.asg 4 Ad (.bl Ad)) (.cons (.tryx (.cons (.ife (.var 2) (.cons (.expr (.call 58 (.cons (.var 0) (.cons (.var 1) (.cons (.var 1) .nil))))) .nil) (.cons (.expr (.call 57 (.cons (.var 0) (.cons (.var 1) (.cons (.var 1) .nil))))) .nil)) .nil) 107 5 (.cons (.asg 3 Ad (.fld (.var 5) (CP "triple"))) (.cons (.asg 4 Ad (.and (.cons (.isi (.var 5) [.cls 0]) (.cons (.isi (.var 5) [.verr]) (.cons (.no (.isi (.var 5) [.cls 108, .cls 118, .cls 3])) .nil))))) .nil))) (.cons (.ret (.and (.cons (.var 4) (.cons (.call 19 (.cons (.var 3) (.cons (.var 1) .nil))) .nil)))) .nil))))⟩
noncomputable def Ub(Γ : Gam) : Prop := ∀(p : Ag)(a : R3)(b : An), P4 p -> In3 p a -> Γ.F 59 [.int p, Aw Ab a, .bl b] = .ok (.bl Ab)
theorem TQ(hj : Je Γ 57)(hm : Je Γ 58)(hs : KP Γ)(hu : Γ.up 107 = [107, 0])(p : Ag)(a : R3)(b : An)(hp : P4 p)(ia : In3 p a) : JF.run Γ [.int p, Aw Ab a, .bl b] = .ok (.bl Ab) := by
 have e1 := hj p a hp ia;have e2 := hm p a hp ia;have e3 : Γ.F 19 [Aw Ab a, Aw Ab a] = .ok (.bl Ab) := hs [a.1, a.2.1, a.2.2];unfold alk at e1 e2;generalize Aw Ab a = ra at *;cases b <;> simp[JF, Df.run, B8, e1, e2, e3, hu, kiD, CI, Iv]
noncomputable def JK : Df := ⟨3, Ad, (.cons (.ret (.cmp .Eq (.bin .Mod (.bin .Add (.bin .Add (.bin .Mult (.idx (.var 0) (.int 0)) (.idx (.var 1) (.int 0))) (.bin .Mult (.idx (.var 0) (.int 1)) (.idx (.var 1) (.int 1)))) (.bin .Mult (.idx (.var 0) (.int 2)) (.idx (.var 1) (.int 2)))) (.var 2)) (.int 0))) .nil)⟩
noncomputable def V1(Γ : Gam) : Prop := ∀(p : Ag)(x y : R3), P4 p -> In3 p x -> In3 p y -> Γ.F 29 [Aw Ab x, Aw Ab y, .int p] = .ok (.bl (decide (Bb x y%p = 0)))
theorem UV(Γ : Gam)(p : Ag)(x y : R3)(hp : P4 p)(ix : In3 p x)(iy : In3 p y) : JK.run Γ [Aw Ab x, Aw Ab y, .int p] = .ok (.bl (decide (Bb x y%p = 0))) := by
 have p0 := hp.pos;have bx := Hz hp ix;have by_ := Hz hp iy;have k : ∀ {u v}, Bd 10 u -> Bd 10 v -> F3 u v = Ab := fun hu hv => KO hu hv (by decide) (by decide)
 have k0 := k bx.1 by_.1;have k1 := k bx.2.1 by_.2.1;have k2 := k bx.2.2 by_.2.2;obtain⟨x0, x1, x2⟩ := Ho Ab x;obtain⟨y0, y1, y2⟩ := Ho Ab y;unfold Bb at *;generalize x.1 = a0 at *;generalize x.2.1 = a1 at *;generalize x.2.2 = a2 at *;generalize y.1 = b0 at *;generalize y.2.1 = b1 at *;generalize y.2.2 = b2 at *;generalize Aw Ab x = xx at *;generalize Aw Ab y = yy at *;generalize hs : (a0*b0+a1*b1+a2*b2) = s at *;simp[JK, Df.run, B8, x0, x1, x2, y0, y1, y2, k0, k1, k2, hs, p0];rw[CV];simp
noncomputable def NJ(Γ : Gam) : Prop := ∀(p n : Ag), P4 p -> Γ.F 40 [.int n, .int p] = .ok (Aw Ab (ptI p (n%(p*p+p+1))))
theorem UW(Γ : Gam)(p n : Ag)(hp : P4 p) : HM.run Γ [.int n, .int p] = .ok (Aw Ab (ptI p (n%(p*p+p+1)))) := by
 have pp : DT p p = Ab := HZ (by have := hp.lo;omega) (by have := hp.hi;omega)
 have p0 := hp.pos;have ph := hp.hi;have N0 : 0<p*p+p+1 := by have := FE p0 p0;omega
 have pb : p<1073741824 := by omega
 generalize hr : n%(p*p+p+1) = r at *;unfold ptI;by_cases z0 : r = 0
 ·rw[AB z0];simp[HM, Df.run, B8, pp, N0, hr, z0];rfl
 ·rw[AE z0];by_cases z1 : r <= p
  ·rw[AB z1];simp[HM, Df.run, B8, pp, N0, hr, z0, z1];rfl
  ·rw[AE z1];simp[HM, Df.run, B8, pp, N0, hr, z0, z1, p0, pb];rfl
theorem OB(hp : P4 p)(n : Ag) : NF p (ptI p (n%(p*p+p+1))) := by
 have p0 := hp.pos;have N0 : 0<p*p+p+1 := by have := FE p0 p0;omega
 exact Oe hp (BS n (Ph N0)) (Bt n N0)
theorem LX{g : D -> R An}{f : D -> R D}{φ : Ae -> R3} : ∀ L : Ac Ae, (∀ k ∈ L, g (.int (0+(k : Ag))) = .ok Ab /\ f (.int (0+(k : Ag))) = .ok (Aw Ab (φ k))) -> B9 g f (L.map fun(k : Ae) => D.int (0+(k : Ag))) = .ok ((L.map φ).map (Aw Ab))
 |[], _ => rfl
 |k::L, h => by
  obtain⟨h1, h2⟩ := h k (AI ..);have ih := LX L fun m hm => h m (Az _ hm)
  show (g (.int (0+(k : Ag)))).bind _ = _;rw[h1, R.bind_ok, AB rfl, h2, R.bind_ok, show B9 g f (List.map _ L) = _ from ih]
  rfl
noncomputable def IH : E := (.bl Ab)
noncomputable def HN : E := (.call 40 (.cons (.var 9) (.cons (.var 3) .nil)))
noncomputable def JM : E := (.and (.cons (.call 29 (.cons (.var 4) (.cons (.var 10) (.cons (.var 3) .nil)))) (.cons (.call 29 (.cons (.var 5) (.cons (.var 10) (.cons (.var 3) .nil)))) .nil)))
noncomputable def JN : E := (.var 10)
noncomputable def Gs : Ss := (.cons (.asg 2 Ad (.call 3 (.cons (.var 0) (.cons (.var 1) .nil)))) (.cons (.asg 3 Ad (.idx (.lst (.cons (.int 3) (.cons (.int 5) (.cons (.int 7) (.cons (.int 11) .nil))))) (.bin .Mod (.var 2) (.int 4)))) (.cons (.asg 4 Ad (.call 40 (.cons (.bin .FloorDiv (.var 2) (.int 4)) (.cons (.var 3) .nil)))) (.cons (.asg 5 Ad (.call 40 (.cons (.bin .Add (.bin .FloorDiv (.bin .FloorDiv (.var 2) (.int 4)) (.int 133)) (.bin .Mult (.bin .FloorDiv (.call 3 (.cons (.var 0) (.cons (.bin .Add (.var 1) (.int 40)) .nil))) (.int 16)) (.bi .int (.cons (.cmp .Gt (.bin .Mod (.var 2) (.int 5)) (.int 0)) .nil)))) (.cons (.var 3) .nil)))) (.cons (.asg 6 Ad (.call 56 (.cons (.var 3) (.cons (.var 4) (.cons (.var 5) .nil))))) (.cons (.ife (.or (.cons (.no (.isi (.var 6) [.bool])) (.cons (.cmp .NotEq (.var 6) (.call 29 (.cons (.var 4) (.cons (.var 5) (.cons (.var 3) .nil))))) .nil))) (.cons (.ret (.bl Ad)) .nil) .nil) (.cons (.ife (.no (.call 59 (.cons (.var 3) (.cons (.var 4) (.cons (.cmp .Eq (.bin .Mod (.bin .FloorDiv (.var 2) (.int 4)) (.int 2)) (.int 1)) .nil))))) (.cons (.ret (.bl Ad)) .nil) .nil) (.cons (.ife (.cmp .NotEq (.var 4) (.var 5)) (.cons (.asg 7 Ad (.comp HN 9 (.rng (.bin .Add (.bin .Add (.bin .Mult (.var 3) (.var 3)) (.var 3)) (.int 1))) IH)) (.cons (.asg 8 Ad (.comp JN 10 (.e (.var 7)) JM)) (.cons (.ife (.or (.cons (.cmp .NotEq (.bi .len (.cons (.var 8) .nil)) (.int 1)) (.cons (.no (.call 19 (.cons (.call 57 (.cons (.var 3) (.cons (.var 4) (.cons (.var 5) .nil)))) (.cons (.idx (.var 8) (.int 0)) .nil)))) .nil))) (.cons (.ret (.bl Ad)) .nil) .nil) (.cons (.ife (.or (.cons (.no (.call 19 (.cons (.call 58 (.cons (.var 3) (.cons (.var 5) (.cons (.var 4) .nil)))) (.cons (.idx (.var 8) (.int 0)) .nil)))) (.cons (.cmp .NotEq (.call 57 (.cons (.var 3) (.cons (.var 5) (.cons (.var 4) .nil)))) (.idx (.var 8) (.int 0))) .nil))) (.cons (.ret (.bl Ad)) .nil) .nil) .nil)))) .nil) .nil))))))))
noncomputable def JT : Df := ⟨11, Ad, (.cons (.fors 1 (.rng (.bi .max (.cons (.int 1) (.cons (.bi .len (.cons (.sl (.var 0) .non (.int 30)) .nil)) .nil)))) Gs) (.cons (.ret (.bl Ab)) .nil))⟩
structure H11 (Γ : Gam) : Prop where
 mix : M9 Γ
 tr : NJ Γ
 on : NK Γ
 zero : V1 Γ
 ref : Ub Γ
 join : KR Γ
 meet : KQ Γ
 same : KP Γ
section
variable{Γ : Gam}{ns : Ac Ag}
theorem W3{a b l : R3}(hp : P4 p)(nl : NF p l)(pl : Pr p l (crs a b)) : (DZ p).filter (fun x => decide (Bb a x%p = 0)&&decide (Bb b x%p = 0)) = [l] := by
 refine QP (RC hp) ((Kj hp).mpr nl) fun x hx => ?_
 rw[Ak, AK, AK];constructor
 ·rintro⟨h1, h2⟩;exact MA hp nl ((Kj hp).mp hx) pl h1 h2
 ·rintro rfl;exact⟨(IY hp pl).mpr (by rw[(Jd a b).1, Br]), (IY hp pl).mpr (by rw[(Jd a b).2, Br])⟩
theorem NE{a b l y : R3}(hp : P4 p)(nl : NF p l)(pl : Pr p l (crs a b))(ny : NF p y)(py : Pr p y (crs b a)) : y = l:=
 MA hp nl ny pl ((IY hp py).mpr (by rw[(Jd b a).2, Br])) ((IY hp py).mpr (by rw[(Jd b a).1, Br]))
theorem Um(h : NJ Γ)(hp : P4 p){ρ:Rho}(c0 : ∀ n : Ag, cG Γ ρ 9 IH (.int n) = .ok Ab)(c1 : ∀ n : Ag, cF Γ ρ 9 HN (.int n) = Γ.F 40 [.int n, .int p]) : B9 (cG Γ ρ 9 IH) (cF Γ ρ 9 HN) (DX 0 (p*p+p+1).toNat) = .ok ((DZ p).map (Aw Ab)) := by
 have e := LX (g := cG Γ ρ 9 IH) (f := cF Γ ρ 9 HN) (φ := fun k => ptI p k) (Ca (p*p+p+1).toNat) fun k hk => ⟨c0 _, by
  have hk' := Cp.mp hk;rw[c1, h p _ hp, Gf, AQ (by omega) (by omega)]⟩
 exact e
theorem in1(b : An) : biD .int [.bl b] = .ok (.int (if b = Ab then 1 else 0)) := by cases b <;> rfl
theorem U2(h : H11 Γ)(k0 : 0 <= k){s1 s2 s3 s4 s5 s6 s7 s8:Sl} : ∃ v2 v3 v4 v5 v6 v7 v8, Dd Γ 1 Gs (.int k) [sh (scr ns), s1, s2, s3, s4, s5, s6, s7, s8, Af, Af] = .next [sh (scr ns), si k, v2, v3, v4, v5, v6, v7, v8, Af, Af] := by
 have e1 := h.mix ns k;have e2 := h.mix ns (k+40);have m0 := NW ns k;have m1 := NW ns (k+40);have m2 := VW ns (k+40);generalize F5 ns k = m at *;generalize F5 ns (k+40) = n at *;have mu : ∀ y, DT (n / 16) y = Ab := fun y => HZ (by omega) (by omega)
 obtain⟨p, hp, e3⟩ : ∃ p, P4 p /\ F6 (.lst [.int 3, .int 5, .int 7, .int 11]) (.int (m%4)) = .ok (.int p) := by
  have : m%4 = 0 \/ m%4 = 1 \/ m%4 = 2 \/ m%4 = 3 := by omega
  rcases this with z|z|z|z <;> rw[z]
  ·exact⟨3, .inl rfl, rfl⟩
  ·exact⟨5, .inr (.inl rfl), rfl⟩
  ·exact⟨7, .inr (.inr (.inl rfl)), rfl⟩
  ·exact⟨11, .inr (.inr (.inr rfl)), rfl⟩
 have p0 := hp.pos;have ph := hp.hi;have pp : DT p p = Ab := HZ (by have := hp.lo;omega) (by omega)
 have N1 : p*p+p+1 <= 1000 := by rcases hp with rfl|rfl|rfl|rfl <;> decide
 have N0 : 0 <= p*p+p+1 := by rcases hp with rfl|rfl|rfl|rfl <;> decide
 have e4 := h.tr p (m / 4) hp;have na := OB hp (m / 4);generalize ptI p (m / 4%(p*p+p+1)) = a at *;have e5 := fun z => h.tr p (m / 4 / 133+n / 16*z) hp
 have nb := fun z => OB hp (m / 4 / 133+n / 16*z)
 generalize hz : (if decide (m%5 > 0) = Ab then (1 : Ag) else 0) = z at *
 replace e5 := e5 z;replace nb := nb z;generalize ptI p ((m / 4 / 133+n / 16*z)%(p*p+p+1)) = b at *;have e6 := h.on p a b hp na.1 nb.1;have e7 := h.zero p a b hp na.1 nb.1;have e8 := fun c => h.ref p a c hp na.1
 have fa := (Jm a).1;have fb := (Jm b).1;have q := N7 a b;have hd : evSs Γ [sh (scr ns), si k, s2, s3, s4, s5, s6, s7, s8, Af, Af] (Gs.take 7) = .next [sh (scr ns), si k, si m, si p, sh (Aw Ab a), sh (Aw Ab b), sh (.bl (decide (Bb a b%p = 0))), s7, s8, Af, Af] := by
  have iz := in1 (decide (m%5 > 0));rw[hz]at iz
  clear q fa fb
  generalize decide (Bb a b%p = 0) = c at *;generalize Aw Ab a = ra at *;generalize Aw Ab b = rb at *;generalize scr ns = S at *;cases c <;> simp[Gs, Ss.take, e1, e2, e3, e4, e5, e6, e7, e8, mu, iz]
 unfold Dd;show ∃ v2 v3 v4 v5 v6 v7 v8, evSs Γ [sh (scr ns), si k, s2, s3, s4, s5, s6, s7, s8, Af, Af] Gs = _;rw[MG Γ 7, hd];by_cases ne : a = b
 ·rw[FU ne]at q;refine⟨si m, si p, sh (Aw Ab a), sh (Aw Ab b), sh (.bl (decide (Bb a b%p = 0))), s7, s8, ?_⟩;generalize Aw Ab a = ra at *;generalize Aw Ab b = rb at *;generalize scr ns = S at *;simp[Gs, Ss.drop, fa, fb, q]
 ·rw[B4 ne]at q;obtain⟨l, nl, pl, j1⟩ := Nk h.join hp na nb ne;obtain⟨l2, nl2, pl2, j2⟩ := S2 h.meet hp nb na (CJ ne);obtain⟨l3, nl3, pl3, j3⟩ := Nk h.join hp nb na (CJ ne);rw[NE hp nl pl nl2 pl2]at j2;rw[NE hp nl pl nl3 pl3]at j3;have sm : Γ.F 19 [Aw Ab l, Aw Ab l] = .ok (.bl Ab) := h.same [l.1, l.2.1, l.2.2];obtain⟨fl, ql⟩ := Jm l;have rg : C4 0 (p*p+p+1) = .ok (DX 0 (p*p+p+1-0).toNat) := QT (by decide) (by decide) (by omega) (by omega)
  rw[Ge]at rg;refine⟨si m, si p, sh (Aw Ab a), sh (Aw Ab b), sh (.bl (decide (Bb a b%p = 0))), sh (GV (DZ p)), sh (.lst [Aw Ab l]), ?_⟩;generalize hc : (D.bl (decide (Bb a b%p = 0))) = cc at *;have ev := Um h.tr hp (ρ := [sh (scr ns), si k, si m, si p, sh (Aw Ab a), sh (Aw Ab b), sh cc, s7, s8, Af, Af]) (fun _ => rfl) (fun n => by simp[cF, HN];cases Γ.F 40 [.int n, .int p] <;> rfl)
  have cm : B9 (cG Γ [sh (scr ns), si k, si m, si p, sh (Aw Ab a), sh (Aw Ab b), sh cc, sh (GV (DZ p)), s8, Af, Af] 10 JM) (cF Γ [sh (scr ns), si k, si m, si p, sh (Aw Ab a), sh (Aw Ab b), sh cc, sh (GV (DZ p)), s8, Af, Af] 10 JN) ((DZ p).map (Aw Ab)) = .ok [Aw Ab l] := by
   refine(Mi (q := fun x => decide (Bb a x%p = 0)&&decide (Bb b x%p = 0)) (DZ p) fun x hx => ⟨?_, ?_⟩).trans (by rw[W3 hp nl pl];rfl)
   ·have nx := (Kj hp).mp hx;have za := h.zero p a x hp na.1 nx.1;have zb := h.zero p b x hp nb.1 nx.1;generalize decide (Bb a x%p = 0) = A at *;generalize decide (Bb b x%p = 0) = B at *;generalize Aw Ab a = ra at *;generalize Aw Ab b = rb at *;generalize Aw Ab x = rx at *;generalize GV (DZ p) = PP at *;generalize scr ns = S at *;cases A <;> cases B <;> simp[cG, JM, za, zb]
   ·simp[cF, JN]
  have sq : DI (GV (DZ p)) = .ok ((DZ p).map (Aw Ab)) := rfl;have pt : D.lst ((DZ p).map (Aw Ab)) = GV (DZ p) := rfl;have g0 : Ew [Aw Ab l] 0 = .ok (Aw Ab l) := rfl
  clear hc e1 e2 e3 e4 e5 e6 e7 e8 hd
  generalize DX 0 (p*p+p+1).toNat = RL at *;generalize hN : p*p+p+1 = NN at *;generalize GV (DZ p) = PP at *;generalize (DZ p).map (Aw Ab) = PL at *;generalize Aw Ab a = ra at *;generalize Aw Ab b = rb at *;generalize Aw Ab l = rl at *;generalize scr ns = S at *;simp[Gs, Ss.drop, fa, fb, q, pp, hN, rg, ev, pt, sq, cm, j1, j2, j3, sm, fl, ql, g0]
theorem Vi(h : H11 Γ) : JT.run Γ [scr ns] = .ok (.bl Ab) := by
 have hl : (Ov.cutD (ns.map D.int) Af (Aa 30)).length <= 30 := by simp[Ov.cutD, FI];omega
 obtain⟨ρ', e, x⟩ := ME (body := Dd Γ 1 Gs) (fun ρ => ∃ s1 s2 s3 s4 s5 s6 s7 s8, ρ = [sh (scr ns), s1, s2, s3, s4, s5, s6, s7, s8, Af, Af]) (DX 0 (if (1 : Ag)<((Ov.cutD (ns.map D.int) Af (Aa 30)).length : Ag) then ((Ov.cutD (ns.map D.int) Af (Aa 30)).length : Ag) else 1).toNat)
  [sh (scr ns), Af, Af, Af, Af, Af, Af, Af, Af, Af, Af] ⟨_, _, _, _, _, _, _, _, rfl⟩ (by
   rintro x hx ρ ⟨s1, s2, s3, s4, s5, s6, s7, s8, rfl⟩;obtain⟨k, _, rfl⟩ := RK hx;obtain⟨v2, v3, v4, v5, v6, v7, v8, e⟩ := U2 (ns := ns) (s1 := s1) (s2 := s2) (s3 := s3) (s4 := s4) (s5 := s5) (s6 := s6) (s7 := s7) (s8 := s8) h (k := 0+(k : Ag)) (by omega)
   exact⟨_, e, _, _, _, _, _, _, _, _, rfl⟩)
 simp[JT, Df.run, B8];rw[QV (by split <;> omega) (by split <;> omega)]
 rw[Uj, e];obtain⟨s1, s2, s3, s4, s5, s6, s7, s8, rfl⟩ := x;simp
end
noncomputable def XZ : Ae -> Ac Ae
 |2 => [2, 0]
 |3 => [3, 0]
 |107 => [107, 0]
 |_ => []
noncomputable def GB : Ae -> Ac D -> R Ex
 |2, _ => .ok ⟨2, []⟩
 |3, _ => .ok ⟨3, []⟩
 |107, ds => mkX 107 "triple" ds
 |_, _ => .bad
noncomputable def Q11 : Prg := ⟨Ab, fun
 |1 => KM
 |9 => IG
 |17 => IR
 |23 => G7
 |24 => KN
 |56 => Lu
 |57 => Hj
 |58 => Io
 |2 => JD
 |3 => JP
 |4 => QR
 |40 => HM
 |19 => JE
 |29 => JK
 |59 => JF
 |60 => JT
 | _ => ⟨0, Ad, .nil⟩, fun _ => .non, XZ, GB⟩
theorem WL(ns : Ac Ag) : (gam Q11 7).F 60 [scr ns] = .ok (.bl Ab) := by
 have rs : ∀ n, Ie (gam Q11 (n+1)) := fun n p m hp => D7 (UY _ p m hp)
 have ce : ∀ n, NM (gam Q11 (n+1)) := fun n ns k => D7 (Uz _ ns k)
 have mi : ∀ n, M9 (gam Q11 (n+2)) := fun n ns k => D7 (TR (ce n) ns k)
 have tu : ∀ n, JU (gam Q11 (n+2)) := fun n p m hp z => let ⟨t, t1, t2, t3, e⟩ := QW (rs n) p m hp z;⟨t, t1, t2, t3, D7 e⟩
 have fo : ∀ n, Kn (gam Q11 (n+3)) := fun n p b xs l t hp e it => D7 (TU (rs (n+1)) (tu n) hp e it)
 have cr : ∀ n, Ko (gam Q11 (n+1)) := fun n a b ha hb ne => D7 (QX _ a b ha hb ne)
 have jo : ∀ n, KR (gam Q11 (n+4)) := fun n p a b hp ia ib la lb ne => let ⟨y, h1, h2, h3, e⟩ := NT (cr (n+2)) (fo n) p a b hp ia ib la lb ne;⟨y, h1, h2, h3, D7 e⟩
 have mt : ∀ n, KQ (gam Q11 (n+4)) := fun n p a b hp ia ib la lb ne => let ⟨y, h1, h2, h3, e⟩ := U0 (cr (n+2)) (fo n) p a b hp ia ib la lb ne;⟨y, h1, h2, h3, D7 e⟩
 have li : ∀ n, NL (gam Q11 (n+2)) := fun n p x y hp ix iy => D7 (Uy (rs n) p x y hp ix iy)
 have on : ∀ n, NK (gam Q11 (n+3)) := fun n p x y hp ix iy => D7 (UZ (li n) p x y hp ix iy)
 have al : ∀ n p a, P4 p -> In3 p a -> (gam Q11 (n+1)).F 23 [Aw Ab a, Aw Ab a] = .exn (alk a) := fun n p a hp ia => by
  have hx : (gam Q11 n).xn 107 [Aw Ab a] = .ok (alk a) := by
   have : (gam Q11 n).xn = GB := by cases n <;> rfl
   rw[this];exact VV hp ia
  show CS Ab (G7.run (gam Q11 n) [Aw Ab a, Aw Ab a]) = _;rw[TV _ a hx];rfl
 have ja : ∀ n, Je (gam Q11 (n+2)) 57 := fun n p a hp ia => by
  show CS Ab (Hj.run (gam Q11 (n+1)) [.int p, Aw Ab a, Aw Ab a]) = _;rw[Sg p (al n p a hp ia)];rfl
 have ma : ∀ n, Je (gam Q11 (n+2)) 58 := fun n p a hp ia => by
  show CS Ab (Io.run (gam Q11 (n+1)) [.int p, Aw Ab a, Aw Ab a]) = _;rw[Sf p (al n p a hp ia)];rfl
 have sa : ∀ n, KP (gam Q11 (n+1)) := fun n xs => D7 (UX _ xs)
 have h : H11 (gam Q11 6) := ⟨mi 4, fun p n hp => D7 (UW _ p n hp), on 3, fun p x y hp ix iy => D7 (UV _ p x y hp ix iy), fun p a b hp ia => D7 (TQ (ja 3) (ma 3) (sa 4) rfl p a b hp ia), jo 2, mt 2, sa 5⟩
 exact D7 (Vi h)
end OvC
namespace OvC
open PySem PySem.Spec PyProof.Rows Ov L2
variable{l:D1}
noncomputable def tp11(i : Ae) : A2 := PySem.Challenge.pw_ovalfield_k11_joins_and_meets.main.body.getD i (.Pass ⟨0, 0, 0, 0⟩)
noncomputable def Oy : Ac (Aj × Ae × Ae) := ([("rest", 1, 2), ("turned_over", 9, 2), ("one_form", 17, 2), ("crossed", 23, 2), ("lies", 24, 3), ("on", 56, 3), ("join", 57, 3), ("meet", 58, 3), ("_law_cell_at", 2, 2), ("_law_mixed", 3, 2), ("_law_triple", 40, 2), ("_law_same_tuple", 19, 2), ("_law_zero", 29, 3), ("_law_refused", 59, 3), ("law", 60, 1)] : Ac (Aj × Ae × Ae))
noncomputable def O0 : Ac Aj := ["ValueError", "all", "bool", "int", "isinstance", "len", "max", "range", "tuple"]
noncomputable def K4 : Ac (Aj × Ae) := [("NoOver", 2), ("NoTriple", 3), ("Alike", 107)]
noncomputable def Le : Ac (Aj × Ae) := [("Alike", 107), ("OvalError", 0), ("NotOn", 108), ("OnLine", 118), ("NoTriple", 3)]
noncomputable def Os : Ac (Aj × Ae) := []
noncomputable abbrev C11(h : An)(ps N : Ac Aj)(i d : Ae) : An := FK 80 h Oy O0 K4 Le Os ps N (tp11 i) (Q11.defs d)
theorem Wc : C11 Ad ["p", "n"] ["p", "n"] 8 1 = Ab := by decide +kernel
theorem Wb : C11 Ad ["p", "n"] ["p", "n", "turned"] 9 9 = Ab := by decide +kernel
theorem Wa : C11 Ad ["p", "numbers"] ["p", "numbers", "rests", "first", "factor", "#5", "#6"] 11 17 = Ab := by decide +kernel
theorem V9 : C11 Ad ["one", "other"] ["one", "other"] 12 23 = Ab := by decide +kernel
theorem V8 : C11 Ad ["p", "point", "line"] ["p", "point", "line"] 13 24 = Ab := by decide +kernel
theorem V7 : C11 Ad ["p", "point", "line"] ["p", "point", "line"] 15 56 = Ab := by decide +kernel
theorem V6 : C11 Ad ["p", "one", "other"] ["p", "one", "other"] 16 57 = Ab := by decide +kernel
theorem V5 : C11 Ad ["p", "one", "other"] ["p", "one", "other"] 17 58 = Ab := by decide +kernel
theorem V4 : C11 Ad ["_law_script", "_law_k"] ["_law_script", "_law_k"] 19 2 = Ab := by decide +kernel
theorem V3 : C11 Ad ["_law_script", "_law_k"] ["_law_script", "_law_k"] 20 3 = Ab := by decide +kernel
theorem Ux : C11 Ad ["_law_n", "_law_p"] ["_law_n", "_law_p"] 22 40 = Ab := by decide +kernel
theorem Uw : C11 Ad ["_law_found", "_law_due"] ["_law_found", "_law_due", "#2"] 23 19 = Ab := by decide +kernel
theorem Uv : C11 Ad ["_law_one", "_law_other", "_law_p"] ["_law_one", "_law_other", "_law_p"] 24 29 = Ab := by decide +kernel
theorem Uu : C11 Ad ["_law_p", "_law_one", "_law_lines"] ["_law_p", "_law_one", "_law_lines", "_law_told", "_law_plain", "e"] 25 59 = Ab := by decide +kernel
theorem M5 : C11 Ad ["_law_script"] ["_law_script", "_law_k", "_law_mix", "_law_p", "_law_one", "_law_other", "_law_found", "_law_every", "_law_common", "#9", "#10"] 26 60 = Ab := by decide +kernel
theorem Uf : Lp "OvalError" "triple" "triple" (Op (tp11 4)) = Ab := by decide +kernel
noncomputable def Eb(x0 x1 x2 : Ai) : ClA
 |2 => Aa x0
 |3 => Aa x1
 |107 => Aa x2
 |_ => Af
set_option maxHeartbeats 0 in
theorem all11{w:AO}{K:Fg}{h:Ax}{mg:Aj -> Am Ah}{fa f0 f1 f2 f3 f4 f5 f6 f7 f8 f9 f10 f11 f12 f13 f14 x0 x1 x2 x3 x4 x5 ix2:Ai}(X : K.In h)(G : h.Ns AR mg)(hfa : mg "law" = Aa (.ref fa))(a0 : FnI K f0 "rest" (tp11 8))(a1 : FnI K f1 "turned_over" (tp11 9))(a2 : FnI K f2 "one_form" (tp11 11))(a3 : FnI K f3 "crossed" (tp11 12))(a4 : FnI K f4 "lies" (tp11 13))(a5 : FnI K f5 "on" (tp11 15))(a6 : FnI K f6 "join" (tp11 16))(a7 : FnI K f7 "meet" (tp11 17))(a8 : FnI K f8 "_law_cell_at" (tp11 19))(a9 : FnI K f9 "_law_mixed" (tp11 20))(a10 : FnI K f10 "_law_triple" (tp11 22))(a11 : FnI K f11 "_law_same_tuple" (tp11 23))(a12 : FnI K f12 "_law_zero" (tp11 24))(a13 : FnI K f13 "_law_refused" (tp11 25))(a14 : FnI K f14 "law" (tp11 26))(nx0 : A6 K AR "NoOver" = Aa (Aa (.ref x0)))(dcx0 : Ey K x0 = Ab)(ftx0 : At K (.ref x0) "triple" = Aa Af)(fpx0 : At K (.ref x0) "points" = Aa Af)(ex0 : EY K x0 [.type "ValueError", .type "Exception", .type "BaseException", .type "object"] "ValueError.__new__" = Ab)(gax0 : At K (.ref x0) "__getattribute__" = Aa (Aa (.builtin "BaseException.__getattribute__")))(gtx0 : At K (.ref x0) "__getattr__" = Aa Af)(clx0 : At K (.ref x0) "__class__" = Aa (Aa (.builtin "object.__class__")))(obx0 : Bk K x0 (.type "object") = Aa Ab)(bex0 : AF K (.ref x0) (.type "BaseException") = Aa Ab)(svx0 : AF K (.ref x0) (.type "ValueError") = Aa Ab)(nx1 : A6 K AR "NoTriple" = Aa (Aa (.ref x1)))(dcx1 : Ey K x1 = Ab)(ftx1 : At K (.ref x1) "triple" = Aa Af)(fpx1 : At K (.ref x1) "points" = Aa Af)(ex1 : EY K x1 [.type "ValueError", .type "Exception", .type "BaseException", .type "object"] "ValueError.__new__" = Ab)(gax1 : At K (.ref x1) "__getattribute__" = Aa (Aa (.builtin "BaseException.__getattribute__")))(gtx1 : At K (.ref x1) "__getattr__" = Aa Af)(clx1 : At K (.ref x1) "__class__" = Aa (Aa (.builtin "object.__class__")))(obx1 : Bk K x1 (.type "object") = Aa Ab)(bex1 : AF K (.ref x1) (.type "BaseException") = Aa Ab)(svx1 : AF K (.ref x1) (.type "ValueError") = Aa Ab)(nx2 : A6 K AR "Alike" = Aa (Aa (.ref x2)))(dcx2 : Ey K x2 = Ab)(ftx2 : At K (.ref x2) "triple" = Aa Af)(fpx2 : At K (.ref x2) "points" = Aa Af)(fix2 : At K (.ref x2) "__init__" = Aa (Aa (.ref ix2)))(iix2 : InI K ix2 "Alike.__init__" (Op (tp11 4)))(tix2 : B0 K (.ref ix2) = Aa (.type "function"))(ex2 : CQ K x2 (Aa (.ref ix2)) = Ab)(snx2 : At K (.ref x2) "__setattr__" = Aa (Aa (.builtin "object.__setattr__")))(gax2 : At K (.ref x2) "__getattribute__" = Aa (Aa (.builtin "BaseException.__getattribute__")))(gtx2 : At K (.ref x2) "__getattr__" = Aa Af)(clx2 : At K (.ref x2) "__class__" = Aa (Aa (.builtin "object.__class__")))(obx2 : Bk K x2 (.type "object") = Aa Ab)(bex2 : AF K (.ref x2) (.type "BaseException") = Aa Ab)(svx2 : AF K (.ref x2) (.type "ValueError") = Aa Ab)(nx3 : A6 K AR "OvalError" = Aa (Aa (.ref x3)))(sax3 : C8 K (.ref x3) "__getattribute__" = Aa (Aa (.builtin "type.__getattribute__")))(sbx3 : Dw K x3 (.type "type") = Ab)(scx3 : Dv K (.ref x3) (.type "type") "__init__" = Aa (.val (.builtin "ValueError.__init__")))(csx3 : Bk K x3 (.type "object") = Aa Ab)(tyx3 : B0 K (.ref x3) = Aa (.type "type"))(nx4 : A6 K AR "NotOn" = Aa (Aa (.ref x4)))(csx4 : Bk K x4 (.type "object") = Aa Ab)(tyx4 : B0 K (.ref x4) = Aa (.type "type"))(nx5 : A6 K AR "OnLine" = Aa (Aa (.ref x5)))(csx5 : Bk K x5 (.type "object") = Aa Ab)(tyx5 : B0 K (.ref x5) = Aa (.type "type"))(sux0x2 : AF K (.ref x0) (.ref x2) = Aa Ad)(sux0x3 : AF K (.ref x0) (.ref x3) = Aa Ab)(sux0x4 : AF K (.ref x0) (.ref x4) = Aa Ad)(sux0x5 : AF K (.ref x0) (.ref x5) = Aa Ad)(sux0x1 : AF K (.ref x0) (.ref x1) = Aa Ad)(sux1x2 : AF K (.ref x1) (.ref x2) = Aa Ad)(sux1x3 : AF K (.ref x1) (.ref x3) = Aa Ab)(sux1x4 : AF K (.ref x1) (.ref x4) = Aa Ad)(sux1x5 : AF K (.ref x1) (.ref x5) = Aa Ad)(sux1x1 : AF K (.ref x1) (.ref x1) = Aa Ab)(sux2x2 : AF K (.ref x2) (.ref x2) = Aa Ab)(sux2x3 : AF K (.ref x2) (.ref x3) = Aa Ab)(sux2x4 : AF K (.ref x2) (.ref x4) = Aa Ad)(sux2x5 : AF K (.ref x2) (.ref x5) = Aa Ad)(sux2x1 : AF K (.ref x2) (.ref x1) = Aa Ad)(z0 : A6 K AR "ValueError" = Aa Af)(z1 : A6 K AR "all" = Aa Af)(z2 : A6 K AR "bool" = Aa Af)(z3 : A6 K AR "int" = Aa Af)(z4 : A6 K AR "isinstance" = Aa Af)(z5 : A6 K AR "len" = Aa Af)(z6 : A6 K AR "max" = Aa Af)(z7 : A6 K AR "range" = Aa Af)(z8 : A6 K AR "tuple" = Aa Af):
    ∃ fd : Bi, (∀(s : Al)(v : Ah), Ee s fd ⟨[v], []⟩ [("_law_script", v)]) /\ ∀ base : Ax, K.In base -> base.Ns AR mg -> FnOk l.prog w K mg base (CXR l.prog w) 7 fa fd ["_law_script"] (Jo K) := by
  obtain⟨_, F, e⟩ := a14;obtain⟨_, _, _, _, _, _, _, _, _, rfl, _, _⟩ := F.ex;cases hfa.symm.trans (BK X G e);have yx0 := MW ex0;have Xx0 : XcOk K x0 := KW yx0 gax0 gtx0 clx0 obx0 bex0 svx0;have yx1 := MW ex1;have Xx1 : XcOk K x1 := KW yx1 gax1 gtx1 clx1 obx1 bex1 svx1;have yx2 := ex2;have Xx2 : XcOk K x2 := KW yx2 gax2 gtx2 clx2 obx2 bex2 svx2;have Ix2 : XIn K mg x2 "triple" := T5 iix2 Uf (fun _ _ _ _ _ _ _ _ => rfl) yx2 dcx2 tix2 (BK X G nx3) sax3 sbx3 scx3 ftx2 snx2
  have XT11 : XT Q11.up Q11.xn (Eb x0 x1 x2) K4 Le K mg := by
    refine⟨?_, all_cons ⟨_, rfl, BK X G nx0⟩ (all_cons ⟨_, rfl, BK X G nx1⟩ (all_cons ⟨_, rfl, BK X G nx2⟩ (HX))), all_cons ⟨_, BK X G nx2, ?kx2, ?sx2⟩ (all_cons ⟨_, BK X G nx3, ?kx3, ?sx3⟩ (all_cons ⟨_, BK X G nx4, ?kx4, ?sx4⟩ (all_cons ⟨_, BK X G nx5, ?kx5, ?sx5⟩ (all_cons ⟨_, BK X G nx1, ?kx1, ?sx1⟩ (HX))))), ?_, ?_, ?_⟩
    case refine_1=>
      intro c C q;unfold Eb at q;split at q
      · cases q;exact Xx0
      · cases q;exact Xx1
      · cases q;exact Xx2
      · cases q
    case refine_2=>
      intro c C ds q;unfold Eb at q;split at q
      · cases q;exact OC (fun ds => by show GB 2 ds = .bad \/ GB 2 ds = .ok ⟨2, []⟩;first|exact .inr rfl|exact .inl rfl) yx0 ds
      · cases q;exact OC (fun ds => by show GB 3 ds = .bad \/ GB 3 ds = .ok ⟨3, []⟩;first|exact .inr rfl|exact .inl rfl) yx1 ds
      · cases q;exact WJ (fun _ => rfl) Ix2 ds
      · cases q
    case refine_3=>
      intro c C q;unfold Eb at q;split at q
      · cases q;exact K1 dcx0 ftx0 fpx0
      · cases q;exact K1 dcx1 ftx1 fpx1
      · cases q;exact K1 dcx2 ftx2 fpx2
      · cases q
    case refine_4=>
      intro c q ds;show GB c ds = .bad;unfold GB;split <;> first|rfl|exact absurd rfl (q ("NoOver", 2) (by decide))|exact absurd rfl (q ("NoTriple", 3) (by decide))|exact absurd rfl (q ("Alike", 107) (by decide))
    case kx2=>
      intro c C q;unfold Eb at q;split at q
      · cases q;exact Hd yx0 yx2 sux0x2
      · cases q;exact Hd yx1 yx2 sux1x2
      · cases q;exact Hd yx2 yx2 sux2x2
      · cases q
    case sx2=>
      intro c C q;unfold Eb at q;split at q
      · cases q;exact sux0x2
      · cases q;exact sux1x2
      · cases q;exact sux2x2
      · cases q
    case kx3=>
      intro c C q;unfold Eb at q;split at q
      · cases q;exact FZ yx0 csx3 tyx3 sux0x3
      · cases q;exact FZ yx1 csx3 tyx3 sux1x3
      · cases q;exact FZ yx2 csx3 tyx3 sux2x3
      · cases q
    case sx3=>
      intro c C q;unfold Eb at q;split at q
      · cases q;exact sux0x3
      · cases q;exact sux1x3
      · cases q;exact sux2x3
      · cases q
    case kx4=>
      intro c C q;unfold Eb at q;split at q
      · cases q;exact FZ yx0 csx4 tyx4 sux0x4
      · cases q;exact FZ yx1 csx4 tyx4 sux1x4
      · cases q;exact FZ yx2 csx4 tyx4 sux2x4
      · cases q
    case sx4=>
      intro c C q;unfold Eb at q;split at q
      · cases q;exact sux0x4
      · cases q;exact sux1x4
      · cases q;exact sux2x4
      · cases q
    case kx5=>
      intro c C q;unfold Eb at q;split at q
      · cases q;exact FZ yx0 csx5 tyx5 sux0x5
      · cases q;exact FZ yx1 csx5 tyx5 sux1x5
      · cases q;exact FZ yx2 csx5 tyx5 sux2x5
      · cases q
    case sx5=>
      intro c C q;unfold Eb at q;split at q
      · cases q;exact sux0x5
      · cases q;exact sux1x5
      · cases q;exact sux2x5
      · cases q
    case kx1=>
      intro c C q;unfold Eb at q;split at q
      · cases q;exact Hd yx0 yx1 sux0x1
      · cases q;exact Hd yx1 yx1 sux1x1
      · cases q;exact Hd yx2 yx1 sux2x1
      · cases q
    case sx1=>
      intro c C q;unfold Eb at q;split at q
      · cases q;exact sux0x1
      · cases q;exact sux1x1
      · cases q;exact sux2x1
      · cases q
  have T : Tab K mg (Eb x0 x1 x2) Oy O0 K4 Le Os Q11 80 := ⟨XT11, all_cons (BG X G z0) (all_cons (BG X G z1) (all_cons (BG X G z2) (all_cons (BG X G z3) (all_cons (BG X G z4) (all_cons (BG X G z5) (all_cons (BG X G z6) (all_cons (BG X G z7) (all_cons (BG X G z8) (HX))))))))), HX, all_cons (GD 2 1 X G a0 rfl Wc fun _ _ _ _ _ _ _ _ => rfl) (all_cons (GD 2 9 X G a1 rfl Wb fun _ _ _ _ _ _ _ _ => rfl) (all_cons (GD 2 17 X G a2 rfl Wa fun _ _ _ _ _ _ _ _ => rfl) (all_cons (GD 2 23 X G a3 rfl V9 fun _ _ _ _ _ _ _ _ => rfl) (all_cons (Hy 3 24 X G a4 rfl V8 fun _ _ _ _ _ _ _ _ _ => rfl) (all_cons (Hy 3 56 X G a5 rfl V7 fun _ _ _ _ _ _ _ _ _ => rfl) (all_cons (Hy 3 57 X G a6 rfl V6 fun _ _ _ _ _ _ _ _ _ => rfl) (all_cons (Hy 3 58 X G a7 rfl V5 fun _ _ _ _ _ _ _ _ _ => rfl) (all_cons (GD 2 2 X G a8 rfl V4 fun _ _ _ _ _ _ _ _ => rfl) (all_cons (GD 2 3 X G a9 rfl V3 fun _ _ _ _ _ _ _ _ => rfl) (all_cons (GD 2 40 X G a10 rfl Ux fun _ _ _ _ _ _ _ _ => rfl) (all_cons (GD 2 19 X G a11 rfl Uw fun _ _ _ _ _ _ _ _ => rfl) (all_cons (Hy 3 29 X G a12 rfl Uv fun _ _ _ _ _ _ _ _ _ => rfl) (all_cons (Hy 3 59 X G a13 rfl Uu fun _ _ _ _ _ _ _ _ _ => rfl) (all_cons (XY 1 60 X G ⟨_, F, e⟩ rfl M5 fun _ _ _ _ _ _ _ => rfl) (HX)))))))))))))))⟩
  exact⟨_, fun s v => .of_eq rfl, fun base _ _ => law_fn (N9 T (Kw T 6) F rfl M5) WL⟩
theorem walk11{q:AD}{loose:Ac Aj}{XP:(Aj -> Am Ah) -> Ax -> Prop}{YP:AO -> Ax -> Prop}{d:DefRec}{K:HK -> Fg}(hn : l.most = Aa 63)(hdf : d.params.defaults = [])(hY : ∀(w : AO)(h : Ax), YP w h -> (K w.params).In h)(F : ∀(w : AO)(mg : Aj -> Am Ah)(fa : Ai)(h : Ax), (K w.params).In h -> h.Ns AR mg -> mg d.name = Aa (.ref fa) ->
   ∃ fd : Bi, (∀(s : Al)(u : Ah), Ee s fd ⟨[u], []⟩ [("_law_script", u)]) /\ ∀ base : Ax, (K w.params).In base -> base.Ns AR mg -> FnOk l.prog w (K w.params) mg base (CXR l.prog w) 7 fa fd ["_law_script"] (Jo (K w.params))):Qp q loose XP YP l.row.toRowW d [] (fun f vs =>G4 f vs):=
 L2.walk_of (n := 63) (k := 7) (x := "_law_script") (CX := fun w => CXR l.prog w) (sp := fun w => Jo (K w.params)) hn (by decide) hdf ⟨rfl, by decide, by decide, rfl⟩ hY F (fun _ H a ns hl _ hS => ⟨a, ns, rfl, hl, hS, fun _ _ z => z⟩) fun _ _ _ _ _ z => Vk z
end OvC
open PySem PySem.W PyProof.Rows
noncomputable def OvC.view11 : PySem.Program := { PySem.Challenge.pw_ovalfield_k11_joins_and_meets with main := {PySem.Challenge.pw_ovalfield_k11_joins_and_meets.main with body := [OvC.tp11 1, OvC.tp11 2, OvC.tp11 3, OvC.tp11 4, OvC.tp11 5, OvC.tp11 6, OvC.tp11 8, OvC.tp11 9, OvC.tp11 11, OvC.tp11 12, OvC.tp11 13, OvC.tp11 15, OvC.tp11 16, OvC.tp11 17, OvC.tp11 19, OvC.tp11 20, OvC.tp11 21, OvC.tp11 22, OvC.tp11 23, OvC.tp11 24, OvC.tp11 25, OvC.tp11 26]} }
set_option hygiene false
local macro_rules | `(tactic| o_head $H) => `(tactic| refine holds_open (q := OvC.view11) (loose := []) (Xt := fun s => xlAt OvC.view11 [] s&&recOk (RowW.records (OpenRow.toRowW (PySem.Challenge.rw_ovalfield_k11_joins_and_meets.row))) s) (XP := XL OvC.view11 []) (Yf := Hook.obs $H) (Ya := Hook.val $H) (YP := Hook.says $H) (N := 3866) ?hl (Hook.of $H) (Hook.keeps $H) (fun s e => xl_of s (Bool.and_eq_true_iff.mp e).1) XL.keeps (by rfl) (by rfl) (by rfl) (fun s e => recFacts_of (Bool.and_eq_true_iff.mp e).2) (by rfl) (by first|assumption|decide +kernel) (by decide +kernel) ⟨rfl, rfl, rfl, rfl, rfl, by decide +kernel⟩ ?hw ?hc)
set_option maxRecDepth 100000 in
set_option maxHeartbeats 0 in
theorem PySem.Challenge.cw_ovalfield_k11_joins_and_meets_holds : PySem.Challenge.rw_ovalfield_k11_joins_and_meets.Holds := by
 w_on;refine holds_law (by decide +kernel) fun said => ?_;k_head
 (case hl => intro w;unfold openEnds fencedOpening topFrom;rw[PySem.W.Fast.te10274390034422433532, PySem.W.Fast.te14364793385576792824, PySem.W.Fast.te1435165496053646825, PySem.W.Fast.te14289696077712309145, PySem.W.Fast.te14082659384304107361, PySem.W.Fast.te4187177175401517315];kernel_rfl)
 (case hw => w_witness2)
 k_fill
 refine OvC.walk11 (l := PySem.Challenge.rw_ovalfield_k11_joins_and_meets) rfl rfl (fun w h Y => Qr Y) ?F
 case F=>
  intro w mg fa h KX G hmg
  refine' OvC.all11 KX G hmg ?a0 ?a1 ?a2 ?a3 ?a4 ?a5 ?a6 ?a7 ?a8 ?a9 ?a10 ?a11 ?a12 ?a13 ?a14 ?nx0 ?dcx0 ?ftx0 ?fpx0 ?ex0 ?gax0 ?gtx0 ?clx0 ?obx0 ?bex0 ?svx0 ?nx1 ?dcx1 ?ftx1 ?fpx1 ?ex1 ?gax1 ?gtx1 ?clx1 ?obx1 ?bex1 ?svx1 ?nx2 ?dcx2 ?ftx2 ?fpx2 ?fix2 ?iix2 ?tix2 ?ex2 ?snx2 ?gax2 ?gtx2 ?clx2 ?obx2 ?bex2 ?svx2 ?nx3 ?sax3 ?sbx3 ?scx3 ?csx3 ?tyx3 ?nx4 ?csx4 ?tyx4 ?nx5 ?csx5 ?tyx5 ?sux0x2 ?sux0x3 ?sux0x4 ?sux0x5 ?sux0x1 ?sux1x2 ?sux1x3 ?sux1x4 ?sux1x5 ?sux1x1 ?sux2x2 ?sux2x3 ?sux2x4 ?sux2x5 ?sux2x1 ?z0 ?z1 ?z2 ?z3 ?z4 ?z5 ?z6 ?z7 ?z8
  case a0|a1|a2|a3|a4|a5|a6|a7|a8|a9|a10|a11|a12|a13|a14 => (refine' Ov.fni ?a ?l ?c ?k;(case a => k_is);(case l => k_is);(case c => k_is);(case k => k_is))
  (case nx0 => k_is)
  (case dcx0 => kernel_rfl)
  (case ftx0 => k_is)
  (case fpx0 => k_is)
  (case ex0 => k_exc)
  (case gax0 => k_is)
  (case gtx0 => k_is)
  (case clx0 => k_is)
  (case obx0 => k_is)
  (case bex0 => k_is)
  (case svx0 => k_is)
  (case nx1 => k_is)
  (case dcx1 => kernel_rfl)
  (case ftx1 => k_is)
  (case fpx1 => k_is)
  (case ex1 => k_exc)
  (case gax1 => k_is)
  (case gtx1 => k_is)
  (case clx1 => k_is)
  (case obx1 => k_is)
  (case bex1 => k_is)
  (case svx1 => k_is)
  (case nx2 => k_is)
  (case dcx2 => kernel_rfl)
  (case ftx2 => k_is)
  (case fpx2 => k_is)
  (case fix2 => k_is)
  (case iix2 => (refine' Ov.ini_mk ?l ?c ?k;(case l => k_is);(case c => k_is);(case k => k_is)))
  (case tix2 => k_is)
  (case ex2 => kernel_rfl)
  (case snx2 => k_is)
  (case gax2 => k_is)
  (case gtx2 => k_is)
  (case clx2 => k_is)
  (case obx2 => k_is)
  (case bex2 => k_is)
  (case svx2 => k_is)
  (case nx3 => k_is)
  (case sax3 => k_is)
  (case sbx3 => k_is)
  (case scx3 => k_is)
  (case csx3 => k_is)
  (case tyx3 => k_is)
  (case nx4 => k_is)
  (case csx4 => k_is)
  (case tyx4 => k_is)
  (case nx5 => k_is)
  (case csx5 => k_is)
  (case tyx5 => k_is)
  (case sux0x2 => k_is)
  (case sux0x3 => k_is)
  (case sux0x4 => k_is)
  (case sux0x5 => k_is)
  (case sux0x1 => k_is)
  (case sux1x2 => k_is)
  (case sux1x3 => k_is)
  (case sux1x4 => k_is)
  (case sux1x5 => k_is)
  (case sux1x1 => k_is)
  (case sux2x2 => k_is)
  (case sux2x3 => k_is)
  (case sux2x4 => k_is)
  (case sux2x5 => k_is)
  (case sux2x1 => k_is)
  (case z0 => k_is)
  (case z1 => k_is)
  (case z2 => k_is)
  (case z3 => k_is)
  (case z4 => k_is)
  (case z5 => k_is)
  (case z6 => k_is)
  (case z7 => k_is)
  (case z8 => k_is)
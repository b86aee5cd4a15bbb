import PyProof.Rows.All
import Wide.All
import OpenK.AllK
import Wide.FinOn
import PyProof.EqAt
import KE.KSortTup
import PyProof.EqKinds
import PyProof.TupleCall
import Lean
import PySem.Challenge.RW_ovalfield_k22_points_led
set_option Elab.async false
set_option linter.all false
set_option maxRecDepth 100000
set_option maxHeartbeats 4000000
open Option renaming some→Aa,none→Af,bind_eq_some_iff→Cu,map_some→C4,getD_none→Nw
open _root_ renaming List→Ab,Int→Ae,Nat→Ag,Option→Al,Bool→An,if_pos→AE,if_neg→AJ,False→AW,decide_eq_true_eq→A1,Array→A4,beq_iff_eq→Bc,String→Cc,decide_eq_false→Cd,beq_eq_false_iff_ne→C2,beq_self_eq_true→Dw,Decidable→Dx,True→EJ,if_true→EY,Unit→FJ,bne_iff_ne→F5,if_false→G7,not_or→G8,of_decide_eq_true→Wf
open Bool renaming true→Ac,false→Ad,and_eq_true→Am,false_ne_true→Ap,not_eq_true'→Bf,or_eq_true→Cy,eq_iff_iff→EF,and_false→ER,and_true→MX
open PySem renaming Value→Ah,Addr→Ai,Str→Aj,Shared→Ak,Expr→Ao,wpAny_bind→As,Obj→Ay,Program→Az,Heap→AB,starEach→AC,wpAny→AD,World→AF,Pos→AH,Around→AI,mainGlobals→AS,wpAny_pure→AV,Stmt→A7,binaryOp→Bg,cLine→Bl,FuncData→Bp,Scope→Br,wpAny_mono→Bu,compareOp→Bw,wpAny_truthy_bool→Bx,mem_of_lookup→By,Env→BD,foldedSetIterable→BM,bootBuiltins→BR,cellsFrom→BX,assignEach→B2,Tok→B6,backTo→Ck,wpAny_newObj_type→Cm,NameKind→Cq,CmpOp→CF,swapsWith→CO,sliceBounds→CV,wpAny_field→CW,wpAny_passesOwn→C7,sizeLine_eq→Dm,GenState→Dq,PassesOwn→DA,letOwnedTupleGo→DK,codeAny→DU,pushCells→D0,rawInt→D1,wpAny_Call_Name_kw→D2,behindInMarks→D6,wpAny_holding→D7,BindsTo→Eh,callerA→Ei,IsPart→Eo,Operator→Ep,Paired→Er,pushCells_keeps→EH,OsState→ET,isTrue→EU,newFunctionEnv→EV,notedBy→EW,wpAny_setField→EX,Drawn→EZ,bindC→E0,bindL→E1,builtinsNs→E2,numAt→E3,sysModules→E4,swapsWithSole→Fd,wpAny_standAt→Fe,codeAny_mono→Fm,concat_meets→Fn,lastMarks→Fo,noteFrame→Fp,seqIndex_neg→Fq,Model→FC,getItem→FD,standAt→FE,seqIndex_of→FI,Result→F1,call→F3,wpAny_Name→F4,IntMulOk→GA,Params→GB,bindArgs→GC,intItems→GD,noFill_tuple_add→NX,recursionLimit→NY,slot_list_getitem→NZ,wpAny_assign_Name→N2,wpAny_comprehension_free→N3,wpAny_execs_nil→N4,wpAny_pyIter_list→N5
open List renaming mem_cons_of_mem→Aq,mem_cons_self→At,size_toArray→AA,mem_cons→AK,getElem?_eq_some_iff→AR,mem_append_right→AU,length_set→AX,getElem?_set_ne→Bi,getElem?_set_self→Bj,lookup_cons→Bk,mem_singleton→Bs,getElem?_eq_getElem→BG,length_append→BW,append_nil→BZ,length_map→B0,range→B1,map_cons→B5,mem_range→B8,getD_eq_getElem?_getD→Ce,isEmpty_eq_false_iff→Cn,mem_map→CH,getElem?_append_left→C3,getElem?_set_self'→Dc,getElem?_map→Dd,length_cons→Dp,mem_append→DB,mem_filter→DC,nodup_cons→DD,toArray→DE,filterMap_cons→DQ,getElem_of_mem→DR,replicate→DS,all_cons→D5,filter_cons→El,getElem_mem→Em,length_take→En,of_mem_zip→EG,map_nil→Fi,all_eq_true→M6,any_eq_true→M7,contains_eq_mem→M8,drop_eq_getElem_cons→M9,drop_eq_nil_of_le→Na,forIn_nil→Nb,getElem?_append_right→Nc,getElem?_replicate→Nd,length→Nf,length_drop→Ng,length_replicate→Nh,length_singleton→Ni,lookup→Nj,map_map→Nk,mem_append_left→Nl,mem_of_getElem?→Nm,not_mem_nil→Nn,reverse_cons→No,set_set→Np
open Nat renaming lt_of_lt_of_le→Au,le_refl→AG,lt_irrefl→A3,ne_of_lt→Bv,le_trans→BH,ble→CU,ble_eq_true_of_le→Dy,le_of_lt→DF,pow_le_pow_right→DG,lt_succ_of_lt→Ee,zero_le→FH,le_of_ble_eq_true→Nq,lt_succ_self→Nr,min_self→Nt,ne_of_gt→Nu,not_lt→Nv
open Int renaming emod_eq_of_lt→Av,emod_emod_of_dvd→AZ,emod_lt_of_pos→A2,emod_nonneg→A8,mul_emod→Bh,dvd_refl→BF,mul_comm→Cb,one_mul→DZ,mul_assoc→D3,zero_emod→D4,mul_one→EI,sub_zero→Fh,le_refl→FF,mul_pos→FG,add_emod→M0,le_trans→M1,mul_zero→M2,sub_emod→M3,toNat_of_nonneg→M4,zero_add→M5
open PySem.Heap renaming lt_size→Aw,get?_push_of_some→Ax,get?_push_size→A9,get?_update_other→BQ,get?_update_self→CI,size_push→Db,get?_none_of_le→DH,SameBut→Fj
open PySem.NameKind renaming cell→Ba,free→Cf
open PySem.W renaming mg_none_of→Bt,nsIn→BJ,keepIn→B9,fnOf→Cr,findIn→CJ,OpenLaw→Dl,codeIn→DT,methodObj→Ef,mg_of→Fc,WalkO→NS,cellsFrom_some→NT,kIn_of→NU,kitOne→NV,subIn→NW
open Option.some renaming inj→BP,injEq→De
open PySem.Builtin.Slice renaming slicePlaces→Co,sliceAdjust→C5,sliceApplied→ND
open PySem.Builtin.Tuple renaming tupleExact→Cp
open False renaming elim→Cz
open ForInStep renaming yield→CA
open PySem.Obj renaming data_mapFields→CB,mapFields→Do,isFreed_of_fields→Dz,mapSeq→Eg
open PySem.Value renaming none→CC,ref→Fl,bool→NN,int→NO,str→NP
open Prod renaming ext→CD
open Classical renaming choose_spec→CG,choose→MY
open PyProof.Rows renaming callWith_type1→CN,envOfC→CT,AllBare→Da,IntsAre→ES,IsTup→F0,boot_list→Nx,boot_tuple→Ny,slicePart_none→Nz,slot_tuple_getitem→NA,subscriptTail_builtinR→NB
open Ne renaming symm→C9
open PySem.SeqAt renaming EqAt→DI,RcNeAt→Fk,RcAt→F2
open PySem.Str renaming ofString→DJ
open Array renaming length_toList→DP,toList→Ff,getElem?_eq_getElem→MW
open Sum renaming inl→Ej,inr→Ek
open NeZero renaming ne→Gw
open PyProof.Rows.IsTup renaming new→Gx
open PySem.Data renaming cell→Gy,seq→Gz
open Function renaming comp_def→MZ
open PySem.Builtin.Int renaming intBits→NC
open PySem.Calls renaming Name_function_global→NE
open PySem.EntryCells renaming newEntry→NG
open PySem.F renaming args_tuple_add_2→NH,entry_tuple_add→NI,slot_tuple_add→NJ
open PySem.Paired renaming length→NK
open PySem.SeqAt.EqAt renaming of_refs→NL,same→NM
open PySem.W.WData renaming int→NQ
open PySem.W.WShape renaming has→NR
abbrev Fg:=PySem.W.Frag
set_option genSizeOfSpec false
-- CHANGE: your row's module here, as the last of these rows
namespace L2
open PySem PySem.Spec PyProof.Rows
noncomputable abbrev Key := Sum Ae Aj
noncomputable def Mc : Key -> Ah -> An
 |.inl k, v => Value.isInt k v
 |.inr x, v => Value.isStrOf x v
noncomputable def V9(w : AF) : Key -> Ae
 |.inl k => hashInt k
 |.inr x => hashStr w x
theorem E5 : ∀{k : Key}{v : Ah}, Mc k v = Ac -> (∃ i t, k = Ej i /\ v = NO i t) \/ (∃ x t, k = Ek x /\ v = NP x t)
 |.inl i, v, h => by
  obtain⟨t, e⟩ := Value.isInt_shape (k := i) (v := v) h;exact .inl ⟨i, t, rfl, e⟩
 |.inr x, v, h => by
  obtain⟨t, e⟩ := Value.isStrOf_shape (x := x) (v := v) h;exact .inr ⟨x, t, rfl, e⟩
theorem Tl(a b : Ae) : decide ((Ej a : Key) = Ej b) = (a==b) := by
 by_cases e : a = b
 ·subst e;simp
 ·have h : ¬ (Ej a : Key) = Ej b := fun q => e (Sum.inl.inj q)
  rw[Cd h];exact(C2.mpr e).symm
theorem Ti(a b : Aj) : decide ((Ek a : Key) = Ek b) = decide (a = b) := by
 by_cases e : a = b
 ·subst e;simp
 ·have h : ¬ (Ek a : Key) = Ek b := fun q => e (Sum.inr.inj q)
  rw[Cd h, Cd e]
theorem Tk(a : Ae)(b : Aj) : decide ((Ej a : Key) = Ek b) = Ad := Cd (fun q => nomatch q)
theorem Tj(a : Aj)(b : Ae) : decide ((Ek a : Key) = Ej b) = Ad := Cd (fun q => nomatch q)
noncomputable def IM(prog : Az)(w : AF) : PySem.KeyKind prog w Key where
 is := Mc
 hash := V9 w
 inj := fun v a b ha hb => by
  rcases E5 ha with ⟨i, t, rfl, rfl⟩|⟨x, t, rfl, rfl⟩
  ·rcases E5 hb with ⟨j, u, rfl, e⟩|⟨y, u, rfl, e⟩
   ·injection e with e1 _;rw[e1]
   ·exact nomatch e
  ·rcases E5 hb with ⟨j, u, rfl, e⟩|⟨y, u, rfl, e⟩
   ·exact nomatch e
   ·injection e with e1 _;rw[e1]
 byValue := fun k v h => by
  rcases E5 h with ⟨i, t, rfl, rfl⟩|⟨x, t, rfl, rfl⟩ <;> rfl
 pyHash := fun hv h => by
  rcases E5 hv with ⟨i, t, rfl, rfl⟩|⟨x, t, rfl, rfl⟩
  ·exact wpAny_pyHash_int h
  ·exact wpAny_pyHash_str h
 eqBool := fun hu hv h => by
  rcases E5 hu with ⟨i, t, rfl, rfl⟩|⟨x, t, rfl, rfl⟩
  ·rcases E5 hv with ⟨j, u, rfl, rfl⟩|⟨y, u, rfl, rfl⟩
   ·rw[Tl]at h;exact wpAny_eqBool_int h
   ·rw[Tk]at h;exact SeqAt.EqAt.int_str i t y u _ _ _ _ h
  ·rcases E5 hv with ⟨j, u, rfl, rfl⟩|⟨y, u, rfl, rfl⟩
   ·rw[Tj]at h;exact SeqAt.EqAt.str_int x t j u _ _ _ _ h
   ·rw[Ti]at h;exact wpAny_eqBool_str h
 «strs» := fun k x t v h => by
  rcases E5 h with ⟨i, u, rfl, e⟩|⟨y, u, rfl, e⟩
  ·exact nomatch e
  ·injection e with e1 _
   subst e1;cases v <;> rfl
end L2
namespace L2
open PySem PySem.Spec PyProof.Rows
variable{us:Ab Ah}{a b it:Ai}{P:Az}{h:AB}{o:Ay}{g':A4 Dq}{t' i j k n:Ag}{d':EZ}{ch fp:Ab Ai}{x qual:Aj}{M:FC}{u:Ah}{Q:FJ -> Ak -> Prop}{e tg:Ao}{s:Ak}{pos:AH}{pI:Ab (Ai × Ay)}{es:Ab Ao}{body:Ab A7}{f:Ah -> Ah -> Sem Ah}{g:Ae -> Ae -> Ae}{op op':CF}{fd:Bp}{ps:Ab Aj}{scope:Br}
inductive V where
 |non|bl (b : An)|int (i : Ae)|str (x : Aj)|byt (b : A4 UInt8)|flt (b : UInt64)|ref (a : Ai)|ty (n : Cc)
 deriving DecidableEq
variable{xs vs:Ab V}{v y:V}
def A6 : V -> Ah -> Prop
 |.non, u => u = CC
 |.bl b, u => u = NN b
 |.int i, u => ∃ t, u = NO i t
 |.str x, u => ∃ t, u = NP x t
 |.byt b, u => ∃ t, u = Value.bytes b t
 |.flt b, u => ∃ t, u = Value.float b t
 |.ref a, u => u = Fl a
 |.ty n, u => u = Value.type n
noncomputable abbrev AN : Ab V -> Ab Ah -> Prop := Er A6
theorem AN.length(r : AN xs us) : xs.length = us.length := NK r
theorem AN.get : ∀{xs : Ab V}{us : Ab Ah}{i : Ag}{x : V}, AN xs us -> xs[i]? = Aa x -> ∃ u, us[i]? = Aa u /\ A6 x u
 |_, _, _, _, .nil, e => by simp at e
 |_, _, 0, _, .cons r _, e => by simp at e;subst e;exact⟨_, rfl, r⟩
 |_, _, i+1, x, .cons _ t, e => by
  obtain⟨u, h1, h2⟩ := AN.get (i := i) (x := x) t (by simpa using e)
  exact⟨u, by simpa using h1, h2⟩
theorem AN.set{x : V}{u : Ah}(r : A6 x u) : ∀{xs : Ab V}{us : Ab Ah}(i : Ag), AN xs us -> AN (xs.set i x) (us.set i u)
 |_, _, _, .nil => .nil
 |_, _, 0, .cons _ t => .cons r t
 |_, _, i+1, .cons q t => .cons q (AN.set r i t)
theorem AN.append : ∀{xs ys : Ab V}{us ws : Ab Ah}, AN xs us -> AN ys ws -> AN (xs++ys) (us++ws)
 |_, _, _, _, .nil, s => s
 |_, _, _, _, .cons r t, s => .cons r (AN.append t s)
theorem AN.take : ∀{xs : Ab V}{us : Ab Ah}(n : Ag), AN xs us -> AN (xs.take n) (us.take n)
 |_, _, 0, _ => .nil
 |_, _, _+1, .nil => .nil
 |_, _, n+1, .cons r t => .cons r (AN.take n t)
theorem AN.drop : ∀{xs : Ab V}{us : Ab Ah}(n : Ag), AN xs us -> AN (xs.drop n) (us.drop n)
 |_, _, 0, r => r
 |_, _, _+1, .nil => .nil
 |_, _, n+1, .cons _ t => AN.drop n t
def MM : Al V -> Al Ah -> Prop
 |some v, Aa u => A6 v u
 |none, Af => EJ
 |_, _ => AW
noncomputable def KV{κ : Type} : Ab (κ × V) -> Ab (κ × Ah) -> Prop := Er fun(p : κ × V)(q : κ × Ah) => p.1 = q.1 /\ A6 p.2 q.2
noncomputable def kV : Key -> V
 |.inl i => .int i
 |.inr x => .str x
inductive HO where
 /-- a list -/
 |lst (xs : Ab V)
 /-- a tuple (never changes) -/
 |tup (xs : Ab V)
 /-- a dict whose keys are ints and texts;one whose keys are tuples of ints and texts (the empty one is both) -/
 |dK (kvs : Ab (Key × V))|dT (kvs : Ab (Ab Key × V))
 /-- a set of ints: its members, its size -/
 |set (S : Ae -> An) (n : Ag)
 /-- an instance of the class at C, its dict at dx, its attributes -/
 |ins (C dx : Ai) (fs : Ab (Aj × V))
 /-- the dict of the instance at x -/
 |own (x : Ai)
 /-- the dict of an exception -/
 |xd (fs : Ab (Aj × V))
 /-- a bound method, f of x -/
 |met (f x : Ai)
 /-- a range object lo, lo+1, .. below hi -/
 |rng (lo hi : Ae)
 /-- a thing that is known to the object (the script;a dict while a loop walks it): read, never written while it is so -/
 |frz (o : Ay) (u : HO)
 /-- a code object's table -/
 |tbl (ps : A4 Ah)
 /-- any other thing, by what is Ac of its one object (a def of one's own: SetO a S n := HO.ext fun h => ..) -/
 |ext (φ : AB -> Prop)
noncomputable abbrev Hp := Ai -> Al HO
variable{H:Hp}
noncomputable def upd(H : Hp)(a : Ai)(o : HO) : Hp := fun b => if b = a then Aa o else H b
theorem Fs{o:HO} : upd H a o a = Aa o := by unfold upd;rw[AE rfl]
theorem B4{o:HO}(h : b ≠ a) : upd H a o b = H b := by unfold upd;rw[AJ h]
theorem Ds{o:HO}(h : H a = Aa o)(h' : H b = Af) : a ≠ b := by
 intro e;subst e;rw[h]at h';cases h'
section
variable(P : Az)(w : AF)
def ObjOk(H : Hp)(h : AB)(a : Ai) : HO -> Prop
  |.lst xs => xs.length <= sizeLine /\ ∃(its : Ab Ah)(n : Ag), AN xs its /\ h.get? a = Aa { cls := .type "list", data := .seq its.toArray n }
  |.tup xs => xs.length <= sizeLine /\ ∃ its : Ab Ah, AN xs its /\ F0 h a its.toArray
  |.dK kvs => kvs.length <= sizeLine /\ (a==E4) = Ad /\ ∃ vs, KV kvs vs /\ h.DictOf (IM P w) a vs
  |.dT kvs => kvs.length <= sizeLine /\ (a==E4) = Ad /\ ∃ xs : Ab (Ab Key × Ai × Ah),
      Er (fun(p : Ab Key × V)(q : Ab Key × Ai × Ah) => p.1 = q.1 /\ H q.2.1 = Aa (.tup (p.1.map kV)) /\ A6 p.2 q.2.2) kvs xs /\
      ∃ o es ep, h.get? a = Aa o /\ o.ExactDict /\ o.data = .dict es ep /\ es.toList = xs.map (entryOfKey (tupleKind (IM P w))) /\ (xs.map (·.1)).Nodup
  |.set S n => h.SetOf (intKind P w) a S n
  |.ins C dx fs => H dx = Aa (.own a) /\ fs.length <= 1000 /\ dx ≠ a /\ h.get? a = Aa (PySem.W.instObj C dx) /\
      ∃ mA, h.Ns1 dx mA /\ (∀ f, MM (fs.lookup f) (mA f)) /\ PySem.Within mA (fs.map (·.1))
  |.own _ => ∃ o, h.get? a = Aa o
  |.xd fs => ∃ mA, h.Ns1 a mA /\ ∀ f, MM (fs.lookup f) (mA f)
  |.rng lo hi => ∃ t u v, h.get? a = Aa { cls := .type "range", data := .fields #[.int lo t, .int hi u, .int 1 v] }
  |.frz o u => h.get? a = Aa o /\ ObjOk H h a u
  |.tbl ps => h.get? a = Aa {cls := .none, data := .fields ps}
  |.met f x => h.get? a = Aa (Ef (.ref f) (.ref x))
  |.ext φ => φ h /\ (∃ o, h.get? a = Aa o) /\ ∀ h1 h2 : AB, φ h1 -> (∀ o, h1.get? a = Aa o -> h2.get? a = Aa o) -> φ h2
noncomputable def HOk(H : Hp)(h : AB) : Prop := ∀ a o, H a = Aa o -> ObjOk P w H h a o
end
section
variable{P : Az}{w : AF}{H H' : Hp}{h h' : AB}{a : Ai}{o : HO}
theorem ObjOk.lt(x : ObjOk P w H h a o) : a<h.objs.size := by
 cases o with
 |lst xs => obtain⟨_, _, _, _, e⟩ := x;exact Aw e
 |tup xs => obtain⟨_, _, _, p⟩ := x;exact p.lt
 |dK kvs => obtain⟨_, _, _, _, o, _, _, e, _⟩ := x;exact Aw e
 |dT kvs => obtain⟨_, _, _, _, o, _, _, e, _⟩ := x;exact Aw e
 |set S n => obtain⟨o, _, _, _, e, _⟩ := x;exact Aw e
 |ins C dx fs => obtain⟨_, _, _, e, _⟩ := x;exact Aw e
 |own y => obtain⟨_, e⟩ := x;exact Aw e
 |xd fs => obtain⟨_, ⟨_, _, _, e, _⟩, _⟩ := x;exact Aw e
 |rng lo hi => obtain⟨_, _, _, e⟩ := x;exact Aw e
 |frz ob u => obtain⟨e, _⟩ := x;exact Aw e
 |tbl ps => exact Aw (show h.get? a = Aa _ from x)
 |met f y => exact Aw (show h.get? a = Aa _ from x)
 |ext φ => obtain⟨_, ⟨_, e⟩, _⟩ := x;exact Aw e
theorem Er.mapP{α β : Type}{F G : α -> β -> Prop} : ∀{l₁ : Ab α}{l₂ : Ab β}, Er F l₁ l₂ -> (∀ a b, F a b -> G a b) -> Er G l₁ l₂
 |_, _, .nil, _ => .nil
 |_, _, .cons r t, f => .cons (f _ _ r) (Er.mapP t f)
theorem ObjOk.stay(x : ObjOk P w H h a o)(k : ∀ b u, (b = a \/ H b = Aa (.own a)) -> h.get? b = Aa u -> h'.get? b = Aa u)(ho : ∀ b, H b = Aa (.own a) -> H' b = Aa (.own a))(ht : ∀ b xs, H b = Aa (.tup xs) -> H' b = Aa (.tup xs)) : ObjOk P w H' h' a o := by
 induction o with
 |lst xs => obtain⟨z, its, n, r, e⟩ := x;exact⟨z, its, n, r, k _ _ (.inl rfl) e⟩
 |tup xs => obtain⟨z, its, r, ob, e, c⟩ := x;exact⟨z, its, r, ob, k _ _ (.inl rfl) e, c⟩
 |dK kvs => obtain⟨z, y, vs, r, ob, es, ep, e, c⟩ := x;exact⟨z, y, vs, r, ob, es, ep, k _ _ (.inl rfl) e, c⟩
 |dT kvs=>
  obtain⟨z, y, xs, r, ob, es, ep, e, c⟩ := x;exact⟨z, y, xs, Er.mapP r fun p q z => ⟨z.1, ht _ _ z.2.1, z.2.2⟩, ob, es, ep, k _ _ (.inl rfl) e, c⟩
 |set S n => obtain⟨ob, es, ep, t, e, c⟩ := x;exact⟨ob, es, ep, t, k _ _ (.inl rfl) e, c⟩
 |ins C dx fs=>
  obtain⟨d, z, ne, e, mA, ⟨od, es, ep, e2, c⟩, r⟩ := x;exact⟨ho _ d, z, ne, k _ _ (.inl rfl) e, mA, ⟨od, es, ep, k _ _ (.inr d) e2, c⟩, r⟩
 |own y => obtain⟨ob, e⟩ := x;exact⟨ob, k _ _ (.inl rfl) e⟩
 |xd fs => obtain⟨mA, ⟨od, es, ep, e, c⟩, r⟩ := x;exact⟨mA, ⟨od, es, ep, k _ _ (.inl rfl) e, c⟩, r⟩
 |rng lo hi => obtain⟨t, u, v, e⟩ := x;exact⟨t, u, v, k _ _ (.inl rfl) e⟩
 |frz ob u ih => obtain⟨e, q⟩ := x;exact⟨k _ _ (.inl rfl) e, ih q⟩
 |tbl ps=>
  have e : h.get? a = Aa {cls := .none, data := .fields ps} := x;show h'.get? a = Aa {cls := .none, data := .fields ps};exact k a _ (.inl rfl) e
 |met f y=>
  have e : h.get? a = Aa (Ef (.ref f) (.ref y)) := x;show h'.get? a = Aa (Ef (.ref f) (.ref y));exact k a _ (.inl rfl) e
 |ext φ => obtain⟨p, ⟨o, e⟩, st⟩ := x;exact⟨st _ _ p fun o q => k _ _ (.inl rfl) q, ⟨o, k _ _ (.inl rfl) e⟩, st⟩
theorem HOk.lt(x : HOk P w H h)(e : H a = Aa o) : a<h.objs.size := (x a o e).lt
theorem HOk.fresh(x : HOk P w H h)(e : h.objs.size <= a) : H a = Af := by
 cases q : H a with
 |none => rfl
 |some u => exact absurd (Au (x.lt q) e) (A3 _)
theorem HOk.kept(x : HOk P w H h)(k : ∀ b u, h.get? b = Aa u -> h'.get? b = Aa u) : HOk P w H h' := fun a o e=>
 (x a o e).stay (fun b u _ q => k b u q) (fun _ q => q) fun _ _ q => q
theorem HOk.laid(x : HOk P w H h)(k : ∀ b u, h.get? b = Aa u -> h'.get? b = Aa u)(hp : h.objs.size <= a)(new : ObjOk P w (upd H a o) h' a o) : HOk P w (upd H a o) h' := fun b u e => by
 have hn := x.fresh hp;by_cases hb : b = a
 ·subst hb;rw[Fs]at e;cases e;exact new
 ·rw[B4 hb]at e;exact(x b u e).stay (fun c v _ q => k c v q) (fun c q => by rw[B4 (Ds q hn)];exact q) fun c xs q => by rw[B4 (Ds q hn)];exact q
end
noncomputable def Rd(H : Hp)(a : Ai)(u : HO) : Prop := H a = Aa u \/ ∃ o, H a = Aa (.frz o u)
theorem Rd.ok{w : AF}{u:HO}(r : Rd H a u)(x : HOk P w H h) : ObjOk P w H h a u := by
 rcases r with r|⟨o, r⟩
 ·exact x a u r
 ·obtain⟨_, q⟩ := x a _ r;exact q
def Mut : Al HO -> Prop
 |some (.lst _) => EJ
 |some (.dK _) => EJ
 |some (.dT _) => EJ
 |some (.set _ _) => EJ
 |some (.ins _ _ _) => EJ
 |some (.ext _) => EJ
 |_ => AW
section
variable{P : Az}{w : AF}{H : Hp}{h h' : AB}{x e : Ai}{o' : HO}
theorem HOk.write(ok : HOk P w H h)(mu : Mut (H x))(he : e = x \/ H e = Aa (.own x))(k : ∀ b u, b ≠ e -> h.get? b = Aa u -> h'.get? b = Aa u)(heo : ∃ u, h'.get? e = Aa u)(new : ObjOk P w (upd H x o') h' x o') : HOk P w (upd H x o') h' := fun b u q => by
 have nown : ∀ c y, H c = Aa (.own y) -> c ≠ x := fun c y r z => by subst z;rw[r]at mu;exact mu
 have ntup : ∀ c xs, H c = Aa (.tup xs) -> c ≠ x := fun c xs r z => by subst z;rw[r]at mu;exact mu
 by_cases hb : b = x
 ·subst hb;rw[Fs]at q;cases q;exact new
 ·rw[B4 hb]at q;by_cases hbe : b = e
  ·have q' : H b = Aa (.own x) := by
    rcases he with z|z
    ·exact absurd (hbe.trans z) hb
    ·rw[hbe];exact z
   rw[q]at q';cases q';obtain⟨v, hv⟩ := heo;exact⟨v, by rw[hbe];exact hv⟩
  ·refine(ok b u q).stay (fun c v hc r => k c v ?_ r) (fun c r => by rw[B4 (nown c b r)];exact r) fun c xs r => by rw[B4 (ntup c xs r)];exact r
   rcases hc with rfl|hc
   ·exact hbe
   ·rintro rfl;rcases he with z|z
    ·exact nown c b hc z
    ·rw[hc]at z;cases z;exact hb rfl
end
structure Un (fs ex : Ab Ai) (H H' : Hp) (h h' : AB) : Prop where
 keep : ∀ b o, h.get? b = Aa o -> H b = Af -> b ∉ fs -> b ∉ ex -> h'.get? b = Aa o
 slot : ∀ b o, h.get? b = Aa o -> H b = Af -> b ∈ fs -> b ∉ ex -> ∃ sl, h'.get? b = Aa {o with slots := sl}
 free : ∀ b o, h.get? b = Aa o -> H b = Af -> b ∉ ex -> H' b = Af
 there : ∀ b o, h.get? b = Aa o -> b ∉ ex -> ∃ o', h'.get? b = Aa o'
 tups : ∀ b xs, H b = Aa (.tup xs) -> H' b = Aa (.tup xs)
 frzs : ∀ b o u, H b = Aa (.frz o u) -> H' b = Aa (.frz o u)
 tbls : ∀ b ps, H b = Aa (.tbl ps) -> ∃ more, H' b = Aa (.tbl (ps++more))
section
variable{fs fs' ex ex' : Ab Ai}{H H1 H2 : Hp}{h h1 h2 h' : AB}{a x e : Ai}{o : HO}
theorem Un.any(u : Un fs ex H H1 h h1){ob:Ay}(q : h.get? b = Aa ob)(n : H b = Af)(hx : b ∉ ex) : ∃ sl, h1.get? b = Aa {ob with slots := sl} := by
 by_cases hb : b ∈ fs
 ·exact u.slot b ob q n hb hx
 ·exact⟨ob.slots, u.keep b ob q n hb hx⟩
theorem Un.kept(k : ∀ b u, h.get? b = Aa u -> h'.get? b = Aa u) : Un fs ex H H h h':=
 ⟨fun b ob q _ _ _ => k b ob q, fun b ob q _ _ _ => ⟨ob.slots, k b ob q⟩, fun _ _ _ n _ => n, fun b ob q _ => ⟨ob, k b ob q⟩, fun _ _ q => q, fun _ _ _ q => q, fun _ ps q => ⟨#[], by rw[q];simp⟩⟩
theorem Un.refl : Un fs ex H H h h := Un.kept fun _ _ q => q
theorem Un.laid(k : ∀ b u, h.get? b = Aa u -> h'.get? b = Aa u)(hp : h.objs.size <= a)(hn : H a = Af) : Un fs ex H (upd H a o) h h' where
 keep := fun b u q _ _ _ => k b u q
 slot := fun b u q _ _ _ => ⟨u.slots, k b u q⟩
 free := fun b u q n _ => by rw[B4 (Bv (Au (Aw q) hp))];exact n
 there := fun b u q _ => ⟨u, k b u q⟩
 tups := fun b xs q => by rw[B4 (Ds q hn)];exact q
 frzs := fun b u xs q => by rw[B4 (Ds q hn)];exact q
 tbls := fun b ps q => ⟨#[], by rw[B4 (Ds q hn), q];simp⟩
theorem Un.write(mu : Mut (H x))(he : e = x \/ H e = Aa (.own x))(k : ∀ b u, b ≠ e -> h.get? b = Aa u -> h'.get? b = Aa u)(heo : ∃ u, h'.get? e = Aa u) : Un fs ex H (upd H x o) h h' := by
 have hx : ∀ b, H b = Af -> b ≠ x := fun b n z => by subst z;rw[n]at mu;exact mu
 have hb : ∀ b, H b = Af -> b ≠ e := fun b n z => by
  subst z;rcases he with r|r
  ·exact hx b n r
  ·rw[n]at r;cases r
 have hm : ∀ b u, H b = Aa u -> ¬ Mut (Aa u) -> b ≠ x := fun b u q nm z => by subst z;rw[q]at mu;exact nm mu
 refine⟨fun b u q n _ _ => k b u (hb b n) q, fun b u q n _ _ => ⟨u.slots, k b u (hb b n) q⟩, fun b u q n _ => by rw[B4 (hx b n)];exact n, fun b u q _ => ?_,
  fun b xs q => by rw[B4 (hm b _ q fun z => z)];exact q, fun b u xs q => by rw[B4 (hm b _ q fun z => z)];exact q, fun b ps q => ⟨#[], by rw[B4 (hm b _ q fun z => z), q];simp⟩⟩
 by_cases hbe : b = e
 ·subst hbe;exact heo
 ·exact⟨u, k b u hbe q⟩
end
noncomputable def trk(h : AB)(H : Hp) : Ab Ai := (B1 h.objs.size).filter fun a => (H a).isSome
noncomputable def E6(h : AB)(H : Hp) : AB := PySem.W.hideAll h (trk h H)
theorem OG(h : AB)(H : Hp) : (E6 h H).objs.size = h.objs.size := PySem.W.hideAll_size _ _
theorem O8(e : h.get? b = Aa o)(n : H b = Af) : (E6 h H).get? b = Aa o:=
 PySem.W.hideAll_get _ e fun hm => by
  have q : (H b).isSome = Ac := (DC.mp hm).2;rw[n]at q;simp at q
theorem QA(e : (E6 h H).get? b = Aa o) : h.get? b = Aa o /\ H b = Af := by
 have e' : h.get? b = Aa o := PySem.W.of_hideAll (trk h H) e;refine⟨e', ?_⟩;cases q : H b with
 |none => rfl
 |some x=>
  have hm : b ∈ trk h H := DC.mpr ⟨B8.mpr (Aw e'), by simp[q]⟩
  have z : (E6 h H).get? b = Af := PySem.W.hideAll_none (trk h H) hm;rw[z]at e;cases e
noncomputable def RD(g h : AB)(L : Ai) : Ab (Ai × Ay) := (B1 h.objs.size).filterMap fun a => if a = L \/ (g.get? a).isSome = Ac then Af else (h.get? a).map fun o => (a, o)
noncomputable def rest(g h : AB)(L d : Ai) : Ab (Ai × Ay) := (RD g h L).filter fun p => decide (p.1 ≠ d)
structure Mod (K : Fg) (mg : Aj -> Al Ah) (base : AB) : Prop where
 kin : K.In base
 glob : base.Ns AS mg
 blt : ∃ mb, base.Ns E2 mb /\ ∀ x : Aj, x ≠ "__name__" -> mb x = BR x
 nolimit : base.NoLimit
structure Cx where
 prog : Az
 w : AF
 K : Fg
 mg : Aj -> Al Ah
 base : AB
 A : AI
 N : Ab Aj
 s₀ : Ak
 H₀ : Hp
 env : BD
 outer : Ab BD
 stack : Ab BD
 ex : Ab Ai
 fn : Aj -> An
 calm : An
 pn : Ab (Ai × Ay)
 xe : Ah -> Ak -> Prop
variable{X:Cx}
noncomputable def frs(l : Ab BD) : Ab Ai := l.filterMap (·.frame)
noncomputable abbrev Cx.fs(X : Cx) : Ab Ai := frs X.outer
noncomputable def Vis(sc : Br)(x : Aj) : Prop := sc.names.lookup x = Aa .local \/ sc.names.lookup x = Aa .cell \/ sc.names.lookup x = Aa .free
noncomputable def Loc(sc : Br)(x : Aj) : Prop := sc.names.lookup x = Aa .local \/ sc.names.lookup x = Aa .cell
noncomputable def VZ(env : BD)(h : AB)(m : Aj -> Al Ah)(x : Aj)(u : Ah) : Prop:=
 (env.kindOf x = Aa .local /\ m x = Aa u) \/ ((env.kindOf x = Aa .cell \/ env.kindOf x = Aa .free) /\ ∃ c, env.cells.lookup x = Aa c /\ h.IsCell c (Aa u))
structure Cx.Ok (X : Cx) : Prop where
 mod : Mod X.K X.mg X.base
 kind : X.env.scope.kind = .function
 glob : X.env.globals = AS
 blt : X.env.builtins = E2
 above : X.s₀.heap.objs.size <= X.env.locals
 inj : ∀ x y c, X.env.cells.lookup x = Aa c -> X.env.cells.lookup y = Aa c -> x = y
 has : ∀ x, (X.env.kindOf x = Aa .cell \/ X.env.kindOf x = Aa .free) -> ∃ c, X.env.cells.lookup x = Aa c
 cab : ∀ x c, X.fn x = Ac -> X.env.cells.lookup x = Aa c -> X.s₀.heap.objs.size <= c
 hd : X.calm = Ac -> X.A.handled = Af
 frames : X.A.frames = Aa X.stack
 stk : X.stack = X.outer \/ (X.stack = X.env::X.outer /\ X.env.frame = Aa X.env.locals)
 exf : ∀ b ∈ X.ex, b ≠ X.env.locals /\ ∀ x c, X.env.cells.lookup x = Aa c -> c ≠ b
 bs : ∀ b o, X.base.get? b = Aa o -> X.s₀.heap.get? b = Aa o /\ X.H₀ b = Af
 bsz : X.base.objs.size <= X.s₀.heap.objs.size
 noex : ∀ b o, X.base.get? b = Aa o -> b ∉ X.ex
 exfs : ∀ b ∈ X.ex, b ∉ X.fs
 funs : X.s₀.heap.FunFrames X.base X.outer
 frf : ∀ b ∈ X.fs, X.H₀ b = Af
structure Inv (X : Cx) (pI : Ab (Ai × Ay)) (σ : Ab (Al V)) (H : Hp) (s : Ak) : Prop where
 ok : X.Ok
 os : s.os = X.s₀.os
 bare : Da s.gens
 base : Un X.fs X.ex X.H₀ H X.s₀.heap s.heap
 loc : ∃ m, s.heap.Ns X.env.locals m /\ ∀(i : Ag)(x : Aj)(v : V), X.N[i]? = Aa x -> σ[i]? = Aa (Aa v) -> Vis X.env.scope x -> ∃ u, A6 v u /\ VZ X.env s.heap m x u
 cell : ∀ x c, X.env.cells.lookup x = Aa c -> ∃ v, s.heap.IsCell c v
 free : H X.env.locals = Af
 freeC : ∀ x c, X.env.cells.lookup x = Aa c -> H c = Af
 pin : ∀ p ∈ X.pn++pI, s.heap.get? p.1 = Aa p.2 /\ H p.1 = Af /\ p.1 ≠ X.env.locals /\ p.1 ∉ X.fs /\ ∀ v, p.2.data ≠ .cell v
 hok : HOk X.prog X.w H s.heap
 len : σ.length = X.N.length
section
variable{X : Cx}{pI : Ab (Ai × Ay)}{σ : Ab (Al V)}{H H' : Hp}{s : Ak}{h' : AB}
theorem Cx.Ok.nofr(ok : X.Ok)(e : X.base.get? b = Aa o) : b ∉ X.fs := fun hb => by
 have := (ok.funs.mem hb).1;rw[e]at this;cases this
theorem Inv.bs(I : Inv X pI σ H s) : ∀ b o, X.base.get? b = Aa o -> s.heap.get? b = Aa o /\ H b = Af := fun b o e=>
 ⟨I.base.keep b o (I.ok.bs b o e).1 (I.ok.bs b o e).2 (I.ok.nofr e) (I.ok.noex b o e), I.base.free b o (I.ok.bs b o e).1 (I.ok.bs b o e).2 (I.ok.noex b o e)⟩
theorem Inv.bk(I : Inv X pI σ H s) : ∀ b o, X.base.get? b = Aa o -> s.heap.get? b = Aa o := fun b o e => (I.bs b o e).1
theorem Inv.mod(I : Inv X pI σ H s) : Mod X.K X.mg X.base := I.ok.mod
theorem Inv.kIn(I : Inv X pI σ H s) : X.K.In s.heap := I.ok.mod.kin.keeps I.bk
theorem Inv.lt(I : Inv X pI σ H s) : X.env.locals<s.heap.objs.size := let ⟨_, hn, _⟩ := I.loc;hn.lt
theorem Inv.sz(I : Inv X pI σ H s) : X.s₀.heap.objs.size <= s.heap.objs.size := BH I.ok.above (DF I.lt)
theorem Inv.nofs(I : Inv X pI σ H s)(h : s.heap.objs.size <= a) : a ∉ X.fs := fun hb => by
 obtain⟨_, o, ho, _⟩ := I.ok.funs.mem hb;exact absurd (Au (Aw ho) (BH I.sz h)) (A3 _)
theorem Inv.cne(I : Inv X pI σ H s) : ∀ x c, X.env.cells.lookup x = Aa c -> c ≠ X.env.locals := fun x c e z => by
 obtain⟨v, o, ho, hd⟩ := I.cell x c e;obtain⟨m, ⟨o', es, ep, ho', hd', _⟩, _⟩ := I.loc;rw[z, ho']at ho;cases ho;rw[hd']at hd;cases hd
theorem Inv.funs(I : Inv X pI σ H s) : s.heap.FunFrames X.base X.outer := by
 have all : ∀(l : Ab BD), (∀ b ∈ frs l, b ∈ X.fs) -> X.s₀.heap.FunFrames X.base l -> s.heap.FunFrames X.base l := by
  intro l
  induction l with
  |nil => intro _ _;trivial
  |cons env r ih=>
   intro hs hl;obtain⟨hk, ⟨L, o, hf, hn, ho, hd⟩, hr⟩ := hl;have hL : L ∈ X.fs := hs L (by unfold frs;rw[DQ, hf];exact At)
   obtain⟨sl, e⟩ := I.base.slot L o ho (I.ok.frf L hL) hL fun z => I.ok.exfs L z hL
   exact⟨hk, ⟨L, _, hf, hn, e, hd⟩, ih (fun b hb => hs b (by unfold frs;rw[DQ, hf];exact Aq _ hb)) hr⟩
 exact all X.outer (fun _ hb => hb) I.ok.funs
theorem Inv.stack(I : Inv X pI σ H s) : s.heap.FunFrames X.base X.stack := by
 rcases I.ok.stk with e|⟨e, hf⟩
 ·rw[e];exact I.funs
 ·rw[e];obtain⟨m, hn, _⟩ := I.loc;refine .cons (by rw[I.ok.kind];decide) hf hn ?_ I.funs
  exact DH (BH I.ok.bsz I.ok.above)
theorem Inv.stkSub(I : Inv X pI σ H s) : ∀ b ∈ frs X.stack, b ∈ X.env.locals::X.fs := fun b hb => by
 rcases I.ok.stk with e|⟨e, hf⟩
 ·rw[e]at hb;exact Aq _ hb
 ·rw[e]at hb;unfold frs at hb;rw[DQ, hf]at hb;exact hb
theorem Inv.stkFree(I : Inv X pI σ H s) : ∀ b ∈ frs X.stack, H b = Af := fun b hb => by
 rcases AK.mp (I.stkSub b hb) with e|hb
 ·rw[e];exact I.free
 ·obtain⟨_, o, ho, _⟩ := I.ok.funs.mem hb;exact I.base.free b o ho (I.ok.frf b hb) fun z => I.ok.exfs b z hb
theorem Inv.step(I : Inv X pI σ H s)(hch : ∀ b ∈ ch, (b ∈ X.ex \/ X.s₀.heap.objs.size <= b) /\ b ≠ X.env.locals /\ (∀ x c, X.env.cells.lookup x = Aa c -> c ≠ b) /\ ∀ p ∈ X.pn++pI, p.1 ≠ b)(keep : ∀ b o, b ≠ X.env.locals -> b ∉ X.fs -> b ∉ ch -> s.heap.get? b = Aa o -> H b = Af -> h'.get? b = Aa o)(slot : ∀ b o, b ≠ X.env.locals -> b ∈ X.fs -> b ∉ ch -> s.heap.get? b = Aa o -> H b = Af -> ∃ sl, h'.get? b = Aa {o with slots := sl})(free : ∀ b o, b ∉ ch -> s.heap.get? b = Aa o -> H b = Af -> H' b = Af)(there : ∀ b o, b ∉ ch -> s.heap.get? b = Aa o -> ∃ o', h'.get? b = Aa o')(tups : ∀ b xs, H b = Aa (.tup xs) -> H' b = Aa (.tup xs))(frzs : ∀ b o u, H b = Aa (.frz o u) -> H' b = Aa (.frz o u))(tbls : ∀ b ps, H b = Aa (.tbl ps) -> ∃ more, H' b = Aa (.tbl (ps++more)))(ns : ∀ m, s.heap.Ns X.env.locals m -> h'.Ns X.env.locals m)(hok : HOk X.prog X.w H' h')(hg : Da g'):Inv X pI σ H' {s with heap := h',gens := g',drawn := d',toks := t'} := by
 have neL : ∀ b o, X.s₀.heap.get? b = Aa o -> b ≠ X.env.locals := fun b o e => Bv (Au (Aw e) I.ok.above)
 have neC : ∀ b o, X.s₀.heap.get? b = Aa o -> b ∉ X.ex -> b ∉ ch := fun b o e hx hb => by
  rcases (hch b hb).1 with z|z
  ·exact hx z
  ·exact absurd (Au (Aw e) z) (A3 _)
 have cellK : ∀ x c, X.env.cells.lookup x = Aa c -> ∀ v, s.heap.IsCell c v -> h'.IsCell c v := fun x c e v ⟨o, ho, hd⟩ => by
  have nch : c ∉ ch := fun z => (hch c z).2.2.1 x c e rfl
  by_cases hc : c ∈ X.fs
  ·obtain⟨sl, q⟩ := slot c o (I.cne x c e) hc nch ho (I.freeC x c e);exact⟨_, q, hd⟩
  ·exact⟨o, keep c o (I.cne x c e) hc nch ho (I.freeC x c e), hd⟩
 refine⟨I.ok, I.os, hg, ⟨fun b o e n hb hx => ?_, fun b o e n hb hx => ?_, fun b o e n hx => ?_, fun b o e hx => ?_, fun b xs e => tups b xs (I.base.tups b xs e), fun b o xs e => frzs b o xs (I.base.frzs b o xs e), fun b ps e => ?_⟩, ?_, fun x c e => ?_, ?_, fun x c e => ?_, fun p hp => ?_, hok, I.len⟩
 ·exact keep b o (neL b o e) hb (neC b o e hx) (I.base.keep b o e n hb hx) (I.base.free b o e n hx)
 ·obtain⟨sl, e1⟩ := I.base.slot b o e n hb hx;obtain⟨sl', e2⟩ := slot b _ (neL b o e) hb (neC b o e hx) e1 (I.base.free b o e n hx);exact⟨sl', e2⟩
 ·obtain⟨o', e1⟩ := I.base.there b o e hx;exact free b o' (neC b o e hx) e1 (I.base.free b o e n hx)
 ·obtain⟨o', e1⟩ := I.base.there b o e hx;exact there b o' (neC b o e hx) e1
 ·obtain⟨m1, e1⟩ := I.base.tbls b ps e;obtain⟨m2, e2⟩ := tbls b _ e1;exact⟨m1++m2, by rw[e2, Array.append_assoc]⟩
 ·obtain⟨m, hn, hl⟩ := I.loc;refine⟨m, ns m hn, fun i x v e1 e2 e3 => ?_⟩
  obtain⟨u, r, l⟩ := hl i x v e1 e2 e3;refine⟨u, r, ?_⟩;rcases l with l|⟨k, c, e, z⟩
  ·exact .inl l
  ·exact .inr ⟨k, c, e, cellK x c e _ z⟩
 ·obtain⟨v, z⟩ := I.cell x c e;exact⟨v, cellK x c e v z⟩
 ·obtain⟨m, ⟨o, _, _, ho, _⟩, _⟩ := I.loc;exact free _ o (fun z => (hch _ z).2.1 rfl) ho I.free
 ·obtain⟨v, o, ho, hd⟩ := I.cell x c e;exact free c o (fun z => (hch c z).2.2.1 x c e rfl) ho (I.freeC x c e)
 ·obtain⟨e, n, ne, nf, d⟩ := I.pin p hp;have nch : p.1 ∉ ch := fun z => (hch p.1 z).2.2.2 p hp rfl
  exact⟨keep p.1 p.2 ne nf nch e n, free p.1 p.2 nch e n, ne, nf, d⟩
theorem Inv.un(I : Inv X pI σ H s)(u : Un X.fs [] H H' s.heap h')(hok : HOk X.prog X.w H' h') : Inv X pI σ H' {s with heap := h', toks := t'} := by
 obtain⟨m, ⟨o, es, ep, ho, r⟩, _⟩ := id I.loc;obtain⟨sl, hL⟩ := u.any ho I.free (by simp)
 exact I.step (g' := s.gens) (d' := s.drawn) (ch := []) (fun _ z => nomatch z) (fun b o _ hb _ e n => u.keep b o e n hb (by simp)) (fun b o _ hb _ e n => u.slot b o e n hb (by simp)) (fun b o _ e n => u.free b o e n (by simp)) (fun b o _ e => u.there b o e (by simp)) u.tups u.frzs u.tbls (fun m' hm => by
  obtain⟨o', es', ep', ho', r'⟩ := hm;rw[ho]at ho';cases ho';exact⟨_, es', ep', hL, r'⟩) hok I.bare
theorem Inv.call(I : Inv X pI σ H s)(u : Un (frs X.stack) ch H H' s.heap h')(hok : HOk X.prog X.w H' h')(hg : Da g')(hch : ∀ b ∈ ch, (b ∈ X.ex \/ X.s₀.heap.objs.size <= b) /\ b ≠ X.env.locals /\ (∀ x c, X.env.cells.lookup x = Aa c -> c ≠ b) /\ ∀ p ∈ X.pn++pI, p.1 ≠ b):Inv X pI σ H' {s with heap := h',gens := g',drawn := d',toks := t'} := by
 obtain⟨m, ⟨o, es, ep, ho, r⟩, _⟩ := id I.loc;obtain⟨sl, hL⟩ := u.any ho I.free fun z => (hch _ z).2.1 rfl
 exact I.step (ch := ch) hch (fun b o hL hb hc e n => u.keep b o e n (fun z => (AK.mp (I.stkSub b z)).elim hL hb) hc) (fun b o _ _ hc e n => u.any e n hc) (fun b o hc e n => u.free b o e n hc) (fun b o hc e => u.there b o e hc) u.tups u.frzs u.tbls (fun m' hm => by
  obtain⟨o', es', ep', ho', r'⟩ := hm;rw[ho]at ho';cases ho';exact⟨_, es', ep', hL, r'⟩) hok hg
theorem Inv.turned(I : Inv X pI σ H s)(k : ∀ b o, b ≠ it -> s.heap.get? b = Aa o -> h'.get? b = Aa o)(hn : H it = Af)(hL : it ≠ X.env.locals)(h1 : it ∈ X.ex \/ X.s₀.heap.objs.size <= it)(h2 : ∀ x c, X.env.cells.lookup x = Aa c -> c ≠ it)(h3 : ∀ p ∈ X.pn++pI, p.1 ≠ it) : Inv X pI σ H {s with heap := h', toks := t'} := by
 have nit : ∀ b u, H b = Aa u -> b ≠ it := fun b u e z => by rw[z, hn]at e;cases e
 refine I.step (g' := s.gens) (d' := s.drawn) (ch := [it]) (fun b hb => ?_) (fun b o _ _ hc e _ => k b o (fun z => hc (by simp[z])) e) (fun b o _ _ hc e _ => ⟨o.slots, k b o (fun z => hc (by simp[z])) e⟩) (fun _ _ _ _ n => n)
  (fun b o hc e => ⟨o, k b o (fun z => hc (by simp[z])) e⟩) (fun _ _ e => e) (fun _ _ _ e => e) (fun b ps e => ⟨#[], by rw[e];simp⟩) (fun m hm => ?_) (fun b u e => ?_) I.bare
 ·have e : b = it := by simpa using hb
  subst e;exact⟨h1, hL, h2, h3⟩
 ·obtain⟨o, es, ep, ho, r⟩ := hm;exact⟨o, es, ep, k _ o (C9 hL) ho, r⟩
 ·refine(I.hok b u e).stay (fun c v hc q => k c v ?_ q) (fun _ q => q) fun _ _ q => q
  rcases hc with z|z
  ·rw[z];exact nit b u e
  ·exact nit c _ z
theorem Inv.tok(I : Inv X pI σ H s)(t : Ag) : Inv X pI σ H {s with toks := t} := I.un (h' := s.heap) (t' := t) Un.refl I.hok
theorem Inv.kept{t' : Ag}(I : Inv X pI σ H s)(k : ∀ b u, s.heap.get? b = Aa u -> h'.get? b = Aa u) : Inv X pI σ H {s with heap := h', toks := t'} := I.un (Un.kept k) (I.hok.kept k)
theorem Inv.laid{a : Ai}{o : HO}{t' : Ag}(I : Inv X pI σ H s)(k : ∀ b u, s.heap.get? b = Aa u -> h'.get? b = Aa u)(hp : s.heap.objs.size <= a)(new : ObjOk X.prog X.w (upd H a o) h' a o):Inv X pI σ (upd H a o) {s with heap := h',toks := t'} := I.un (Un.laid k hp (I.hok.fresh hp)) (I.hok.laid k hp new)
theorem Inv.write{x e : Ai}{o : HO}{t' : Ag}(I : Inv X pI σ H s)(mu : Mut (H x))(he : e = x \/ H e = Aa (.own x))(k : ∀ b u, b ≠ e -> s.heap.get? b = Aa u -> h'.get? b = Aa u)(heo : ∃ u, h'.get? e = Aa u)(new : ObjOk X.prog X.w (upd H x o) h' x o) : Inv X pI σ (upd H x o) {s with heap := h', toks := t'} := I.un (Un.write mu he k heo) (I.hok.write mu he k heo new)
theorem Inv.pins_of{pins':Ab (Ai × Ay)}(I : Inv X pI σ H s)(h : ∀ p ∈ pins', s.heap.get? p.1 = Aa p.2 /\ H p.1 = Af /\ p.1 ≠ X.env.locals /\ p.1 ∉ X.fs /\ ∀ v, p.2.data ≠ .cell v) : Inv X pins' σ H s:=
 ⟨I.ok, I.os, I.bare, I.base, I.loc, I.cell, I.free, I.freeC, fun p hp => (DB.mp hp).elim (fun z => I.pin p (Nl _ z)) (h p), I.hok, I.len⟩
theorem K2{N : Ab Aj}(hN : N.Nodup)(a : N[i]? = Aa x)(b : N[j]? = Aa x) : i = j := by
 obtain⟨h1, e1⟩ := AR.mp a;obtain⟨h2, e2⟩ := AR.mp b;exact(List.getElem_inj hN).mp (e1.trans e2.symm)
theorem Kz{A : AI}{E : Ah -> Ak -> Prop}(I : Inv X pI σ H s)(hN : X.N.Nodup)(hi : X.N[i]? = Aa x)(hx : Loc X.env.scope x)(r : A6 v u)(h : ∀ s', Inv X pI (σ.set i (Aa v)) H s' -> (∃ a, Fj a s.heap s'.heap /\ (a = X.env.locals \/ X.env.cells.lookup x = Aa a)) -> Q () s')(hf : X.fn x = Ac \/ X.env.scope.names.lookup x = Aa .local := by first|exact .inl rfl|exact .inr rfl|assumption) : AD M A (storeName X.env x u) Q E s := by
 obtain⟨m, hn, hl⟩ := id I.loc;have hcls : (X.env.scope.kind==.class||(X.env.scope.kind==.module&&X.env.locals != X.env.globals)) = Ad := by rw[I.ok.kind];rfl
 have hiσ : i<σ.length := by rw[I.len];exact(AR.mp hi).1
 have cne := I.cne;have tracked : ∀{a : Ai}{h' : AB}, (∃ o, s.heap.get? a = Aa o /\ H a = Af) -> Fj a s.heap h' -> HOk X.prog X.w H h' := fun {a h'} ha hs b ob e => by
  obtain⟨_, _, hfree⟩ := ha;refine(I.hok b ob e).stay (fun c w' hc q => (hs.2 c ?_).trans q) (fun _ q => q) fun _ _ q => q
  rintro rfl;rcases hc with rfl|hc
  ·rw[hfree]at e;cases e
  ·rw[hfree]at hc;cases hc
 rcases hx with hk|hk
 ·refine wpAny_storeName_local hk hn (fun h' hn' hs => ?_) hcls
  obtain⟨oL, _, _, hoL, _⟩ := id hn;refine h _ ⟨I.ok, I.os, I.bare, ⟨fun b o e n hb hx => ?_, fun b o e n hb hx => ?_, I.base.free, fun b o e hx => ?_, I.base.tups, I.base.frzs, I.base.tbls⟩, ⟨_, hn', fun j y v' e1 e2 e3 => ?_⟩, fun y c e => ?_, I.free, I.freeC, fun p hp => ?_, tracked ⟨oL, hoL, I.free⟩ hs, by simpa using I.len⟩ ⟨_, hs, .inl rfl⟩
  ·exact(hs.2 b (Bv (Au (Aw e) I.ok.above))).trans (I.base.keep b o e n hb hx)
  ·obtain⟨sl, e1⟩ := I.base.slot b o e n hb hx;exact⟨sl, (hs.2 b (Bv (Au (Aw e) I.ok.above))).trans e1⟩
  ·obtain⟨o', e1⟩ := I.base.there b o e hx;exact⟨o', (hs.2 b (Bv (Au (Aw e) I.ok.above))).trans e1⟩
  ·by_cases hj : j = i
   ·subst hj;rw[hi]at e1;cases e1;rw[Bj hiσ]at e2;cases e2;exact⟨u, r, .inl ⟨hk, by simp⟩⟩
   ·rw[Bi (C9 hj)]at e2;obtain⟨u', r', q⟩ := hl j y v' e1 e2 e3;refine⟨u', r', ?_⟩;rcases q with ⟨k, e⟩|⟨k, c, e, z⟩
    ·refine .inl ⟨k, ?_⟩;have : y ≠ x := fun e => hj (K2 hN e1 (e ▸ hi))
     simp[this, e]
    ·exact .inr ⟨k, c, e, z.sameBut hs (cne y c e)⟩
  ·obtain⟨w', z⟩ := I.cell y c e;exact⟨w', z.sameBut hs (cne y c e)⟩
  ·obtain⟨e, n, ne, nf, d⟩ := I.pin p hp;exact⟨(hs.2 p.1 ne).trans e, n, ne, nf, d⟩
 ·have hfn : X.fn x = Ac := by
   rcases hf with z|z
   ·exact z
   ·rw[z]at hk;cases hk
  obtain⟨c, hc⟩ := I.ok.has x (.inl hk);obtain⟨w', z⟩ := I.cell x c hc;refine wpAny_storeName_cell I.ok.kind hk hc z (fun h' hc' hs => ?_)
  obtain⟨oc, hoc, hocd⟩ := id z;refine h {s with heap := h'} ⟨I.ok, I.os, I.bare, ⟨fun b o e n hb hx => ?_, fun b o e n hb hx => ?_, I.base.free, fun b o e hx => ?_, I.base.tups, I.base.frzs, I.base.tbls⟩, ⟨m, hn.sameBut hs (C9 (cne x c hc)), fun j y v' e1 e2 e3 => ?_⟩, fun y c' e => ?_, I.free, I.freeC, fun p hp => ?_, tracked ⟨oc, hoc, I.freeC x c hc⟩ hs, by simpa using I.len⟩ ⟨c, hs, .inr hc⟩
  ·exact(hs.2 b (Bv (Au (Aw e) (I.ok.cab x c hfn hc)))).trans (I.base.keep b o e n hb hx)
  ·obtain⟨sl, e1⟩ := I.base.slot b o e n hb hx;exact⟨sl, (hs.2 b (Bv (Au (Aw e) (I.ok.cab x c hfn hc)))).trans e1⟩
  ·obtain⟨o', e1⟩ := I.base.there b o e hx;exact⟨o', (hs.2 b (Bv (Au (Aw e) (I.ok.cab x c hfn hc)))).trans e1⟩
  ·by_cases hj : j = i
   ·subst hj;rw[hi]at e1;cases e1;rw[Bj hiσ]at e2;cases e2;exact⟨u, r, .inr ⟨.inl hk, c, hc, hc'⟩⟩
   ·rw[Bi (C9 hj)]at e2;obtain⟨u', r', q⟩ := hl j y v' e1 e2 e3;refine⟨u', r', ?_⟩;rcases q with q|⟨k, c', e, z'⟩
    ·exact .inl q
    ·refine .inr ⟨k, c', e, z'.sameBut hs ?_⟩;rintro rfl;exact hj (K2 hN e1 (I.ok.inj _ _ _ e hc ▸ hi))
  ·by_cases hcc : c' = c
   ·subst hcc;exact⟨_, hc'⟩
   ·obtain⟨w2, z2⟩ := I.cell y c' e;exact⟨w2, z2.sameBut hs hcc⟩
  ·obtain⟨e, n, ne, nf, d⟩ := I.pin p hp;refine⟨(hs.2 p.1 ?_).trans e, n, ne, nf, d⟩;intro q;rw[q, hoc]at e;have q' : oc = p.2 := BP e;exact d w' (by rw[<-q'];exact hocd)
theorem KW{A : AI}{E : Ah -> Ak -> Prop}(I : Inv X pI σ H s)(hN : X.N.Nodup)(hi : X.N[i]? = Aa x)(hx : Loc X.env.scope x)(r : A6 v u)(h : ∀ s', Inv X pI (σ.set i (Aa v)) H s' -> Q () s')(hf : X.fn x = Ac \/ X.env.scope.names.lookup x = Aa .local := by first|exact .inl rfl|exact .inr rfl|assumption) : AD M A (storeName X.env x u) Q E s:=
 Kz I hN hi hx r (fun s' I' _ => h s' I') hf
theorem Inv.call'{s':Ak}(I : Inv X pI σ H s)(ho : s'.os = s.os)(u : Un (frs X.stack) ch H H' s.heap s'.heap)(hok : HOk X.prog X.w H' s'.heap)(hg : Da s'.gens)(hch : ∀ b ∈ ch, (b ∈ X.ex \/ X.s₀.heap.objs.size <= b) /\ b ≠ X.env.locals /\ (∀ x c, X.env.cells.lookup x = Aa c -> c ≠ b) /\ ∀ p ∈ X.pn++pI, p.1 ≠ b) : Inv X pI σ H' s' := by
 obtain⟨h', g', d', t', o'⟩ := s';have e : o' = s.os := ho;subst e;exact I.call (g' := g') (t' := t') (d' := d') u hok hg hch
end
noncomputable abbrev XK := Ah -> Al Ai -> Hp -> Prop
noncomputable abbrev St := Ab (Al V)
variable{σ:St}
noncomputable abbrev VK := V -> Hp -> Prop
noncomputable abbrev TE := St -> Hp -> VK -> Prop
variable{te:TE}
noncomputable abbrev TT := St -> Hp -> (An -> Hp -> Prop) -> Prop
noncomputable abbrev TA := St -> Hp -> (Ab V -> Hp -> Prop) -> Prop
variable{ta:TA}
structure Ends where
 nx : St -> Hp -> Prop
 rt : VK
 bk : St -> Hp -> Prop := fun _ _ => AW
 ct : St -> Hp -> Prop := fun _ _ => AW
noncomputable abbrev TS := Ends -> St -> Hp -> Prop
noncomputable def EP(X : Cx)(pI : Ab (Ai × Ay))(σ : St)(Q : VK)(u : Ah)(s' : Ak) : Prop := ∃ v H', Inv X pI σ H' s' /\ A6 v u /\ Q v H'
noncomputable def TP(X : Cx)(pI : Ab (Ai × Ay))(σ : St)(Q : An -> Hp -> Prop)(b : An)(s' : Ak) : Prop := ∃ H', Inv X pI σ H' s' /\ Q b H'
noncomputable def AP(X : Cx)(pI : Ab (Ai × Ay))(σ : St)(Q : Ab V -> Hp -> Prop)(us : Ab Ah)(s' : Ak) : Prop := ∃ vs H', Inv X pI σ H' s' /\ AN vs us /\ Q vs H'
noncomputable def SP(X : Cx)(pI : Ab (Ai × Ay))(D : Ends)(f : Flow)(s' : Ak) : Prop:=
  match f with
  |.next => ∃ σ' H', Inv X pI σ' H' s' /\ D.nx σ' H'
  |.brk => ∃ σ' H', Inv X pI σ' H' s' /\ D.bk σ' H'
  |.cont => ∃ σ' H', Inv X pI σ' H' s' /\ D.ct σ' H'
  |.ret u => ∃ v σ' H', Inv X pI σ' H' s' /\ A6 v u /\ D.rt v H'
noncomputable def PE(X : Cx)(e : Ao)(t : TE) : Prop:=
 ∀(pI : Ab (Ai × Ay))(s : Ak)(σ : St)(H : Hp)(Q : VK), Inv X pI σ H s -> t σ H Q -> AD (model X.prog X.w) X.A (eval e X.env) (EP X pI σ Q) X.xe s
noncomputable def PT(X : Cx)(e : Ao)(t : TT) : Prop:=
 ∀(pI : Ab (Ai × Ay))(s : Ak)(σ : St)(H : Hp)(Q : An -> Hp -> Prop), Inv X pI σ H s -> t σ H Q -> AD (model X.prog X.w) X.A (EU e X.env (eval e X.env)) (TP X pI σ Q) X.xe s
noncomputable def PW(X : Cx)(e : Ao)(t : TT) : Prop:=
 ∀(whole : Sem Ah)(pI : Ab (Ai × Ay))(s : Ak)(σ : St)(H : Hp)(Q : An -> Hp -> Prop), Inv X pI σ H s -> t σ H Q -> AD (model X.prog X.w) X.A (EU e X.env whole) (TP X pI σ Q) X.xe s
theorem PW.pt{t:TT}(h : PW X e t) : PT X e t := h _
noncomputable def PA(X : Cx)(es : Ab Ao)(t : TA) : Prop:=
 ∀(pos : AH)(pI : Ab (Ai × Ay))(s : Ak)(σ : St)(H : Hp)(Q : Ab V -> Hp -> Prop), Inv X pI σ H s -> t σ H Q -> AD (model X.prog X.w) X.A (spliced (Ck pos (AC es X.env))) (AP X pI σ Q) X.xe s
noncomputable def PS(X : Cx)(st : A7)(t : TS) : Prop:=
 ∀(pI : Ab (Ai × Ay))(s : Ak)(σ : St)(H : Hp)(D : Ends), Inv X pI σ H s -> t D σ H -> AD (model X.prog X.w) X.A (exec st X.env) (SP X pI D) X.xe s
noncomputable def PSs(X : Cx)(st : Ab A7)(t : TS) : Prop:=
 ∀(pI : Ab (Ai × Ay))(s : Ak)(σ : St)(H : Hp)(D : Ends), Inv X pI σ H s -> t D σ H -> AD (model X.prog X.w) X.A (execs st X.env) (SP X pI D) X.xe s
theorem thn{α:Type}{t : Sem α}{Q Q' : α -> Ak -> Prop}{A : AI}{E : Ah -> Ak -> Prop}(h : AD M A t Q E s)(hQ : ∀ a s, Q a s -> Q' a s) : AD M A t Q' E s := Bu h hQ fun _ _ x => x
section
variable{X : Cx}
noncomputable def Gv(i : Ag) : TE := fun σ H Q => ∃ v, σ[i]? = Aa (Aa v) /\ Q v H
noncomputable def tC(v : V) : TE := fun _ H Q => Q v H
theorem Sa(hN : X.N[i]? = Aa x)(hv : Vis X.env.scope x)(hd : (x==("__debug__" : Aj)) = Ad := by decide)(hcd : (x==("__classdict__" : Aj)) = Ad := by decide) : PE X (.Name x pos) (Gv i) := by
 intro pI s σ H Q I h;obtain⟨v, e, h⟩ := h;obtain⟨m, hn, hl⟩ := I.loc;obtain⟨u, r, l⟩ := hl i x v hN e hv;have fin : EP X pI σ Q u s := ⟨v, H, I, r, h⟩;rcases l with ⟨hk, hm⟩|⟨hk, c, hc, hcell⟩
 ·exact F4 (wpAny_loadName_local I.ok.kind hk hn hm fin) hd
 ·rcases hk with hk|hk
  ·exact F4 (wpAny_loadName_cell I.ok.kind hk hc hcell fin) hd
  ·exact F4 (wpAny_loadName_free I.ok.kind hk hc hcell fin hcd) hd
theorem RG{i j pos} : PE X (.Constant (.int i) j pos) (tC (.int i)) := fun _ _ _ H _ I h => wpAny_Constant_int ⟨.int i, H, I.tok _, ⟨_, rfl⟩, h⟩
theorem UA{b j pos} : PE X (.Constant (.bool b) j pos) (tC (.bl b)) := fun _ _ _ H _ I h => Constant_bool ⟨.bl b, H, I, rfl, h⟩
theorem Sf{j pos} : PE X (.Constant .none j pos) (tC .non) := fun _ _ _ H _ I h => Constant_none ⟨.non, H, I, rfl, h⟩
theorem Sc{x j pos} : PE X (.Constant (.str x) j pos) (tC (.str x)) := fun _ _ _ H _ I h => Calls.Constant_str ⟨.str x, H, I.tok _, ⟨_, rfl⟩, h⟩
noncomputable def Gl(X : Cx)(x : Aj) : Prop := X.env.kindOf x = Aa .globalImplicit
theorem QG{E : Ah -> Ak -> Prop}{Q:Ah -> Ak -> Prop}(I : Inv X pI σ H s)(hg : Gl X x)(hm : X.mg x = Aa u)(h : Q u s)(hd : (x==("__debug__" : Aj)) = Ad := by decide) : AD (model X.prog X.w) X.A (eval (.Name x pos) X.env) Q E s:=
 NE I.ok.kind hg (Calls.loadGlobal_global (by rw[I.ok.glob];exact I.mod.glob.keeps I.bk) hm h) hd
theorem GQ{E : Ah -> Ak -> Prop}{Q:Ah -> Ak -> Prop}(I : Inv X pI σ H s)(hg : Gl X x)(hm : X.mg x = Af)(hv : BR x = Aa u)(h : Q u s)(hn : x ≠ "__name__" := by decide)(hd : (x==("__debug__" : Aj)) = Ad := by decide) : AD (model X.prog X.w) X.A (eval (.Name x pos) X.env) Q E s := by
 obtain⟨mb, h1, h2⟩ := I.mod.blt;exact NE I.ok.kind hg (Calls.loadGlobal_builtin (by rw[I.ok.glob];exact I.mod.glob.keeps I.bk) hm (by rw[I.ok.blt];exact h1.keeps I.bk) ((h2 x hn).trans hv) h) hd
theorem Q5(hg : Gl X x)(hm : X.mg x = Af)(hv : BR x = Aa u)(r : A6 v u)(hn : x ≠ "__name__" := by decide)(hd : (x==("__debug__" : Aj)) = Ad := by decide) : PE X (.Name x pos) (tC v):=
 fun _ _ _ H _ I h => GQ I hg hm hv ⟨v, H, I, r, h⟩ hn hd
variable{a b : Ao}{ta tb : TE}{pos : AH}
variable{tA tB' : TT}{rest : Ab Ao}
noncomputable def VN(t u : TT) : TT := fun σ H Q => t σ H fun c H1 => if c = Ac then u σ H1 Q else Q Ad H1
noncomputable def tOr(t u : TT) : TT := fun σ H Q => t σ H fun c H1 => if c = Ac then Q Ac H1 else u σ H1 Q
noncomputable def VH(t : TT) : TT := fun σ H Q => t σ H fun c H1 => Q (!c) H1
theorem QT(ha : PT X a tA) : PW X (.BoolOp .And [a] pos) tA := by
 intro wh pI s σ H Q I h;refine isTrue_and (thn (ha pI s σ H Q I h) fun c s1 e => ?_)
 cases c with
 |true => exact isTrue_and_nil e
 |false => exact e
theorem RW(ha : PT X a tA) : PW X (.BoolOp .Or [a] pos) tA := by
 intro wh pI s σ H Q I h;refine isTrue_or (thn (ha pI s σ H Q I h) fun c s1 e => ?_)
 cases c with
 |false => exact isTrue_or_nil e
 |true => exact e
theorem RX(ha : PT X a tA)(hb : PW X (.BoolOp .And (b::rest) pos) tB') : PW X (.BoolOp .And (a::b::rest) pos) (VN tA tB') := by
 intro wh pI s σ H Q I h;refine isTrue_and (thn (ha pI s σ H _ I h) fun c s1 ⟨H1, I1, q1⟩ => ?_)
 cases c with
 |true => exact hb wh pI s1 σ H1 Q I1 q1
 |false => exact⟨H1, I1, q1⟩
theorem Ve(ha : PT X a tA)(hb : PW X (.BoolOp .Or (b::rest) pos) tB') : PW X (.BoolOp .Or (a::b::rest) pos) (tOr tA tB') := by
 intro wh pI s σ H Q I h;refine isTrue_or (thn (ha pI s σ H _ I h) fun c s1 ⟨H1, I1, q1⟩ => ?_)
 cases c with
 |true => exact⟨H1, I1, q1⟩
 |false => exact hb wh pI s1 σ H1 Q I1 q1
theorem RZ(ha : PT X a tA) : PT X (.UnaryOp .Not a pos) (VH tA) := by
 intro pI s σ H Q I h;exact isTrue_not (ha pI s σ H (fun c H1 => Q (!c) H1) I h)
noncomputable def Ul(ta tb : TE) : TE := fun σ H Q => ta σ H fun x H1 => ∃ c, x = .bl c /\ if c = Ac then tb σ H1 Q else Q (.bl Ad) H1
noncomputable def VG(ta tb : TE) : TE := fun σ H Q => ta σ H fun x H1 => ∃ c, x = .bl c /\ if c = Ac then Q (.bl Ac) H1 else tb σ H1 Q
noncomputable def Ug(ta : TE) : TE := fun σ H Q => ta σ H fun x H1 => ∃ c, x = .bl c /\ Q (.bl (!c)) H1
theorem Sd{op}{t:TE}(h : PE X a t) : PE X (.BoolOp op [a] pos) t := fun pI s σ H Q I hw => BoolOp_one (h pI s σ H Q I hw)
theorem RH(ha : PE X a ta)(hb : PE X (.BoolOp .And (b::rest) pos) tb) : PE X (.BoolOp .And (a::b::rest) pos) (Ul ta tb) := by
 intro pI s σ H Q I h;refine BoolOp_and (thn (ha pI s σ H _ I h) fun v s1 ⟨x, H1, I1, r1, q1⟩ => ?_)
 obtain⟨c, rfl, q1⟩ := q1;cases r1;refine Bx ?_;cases c with
 |true => exact hb pI s1 σ H1 Q I1 q1
 |false => exact⟨.bl Ad, H1, I1, rfl, q1⟩
theorem Uy(ha : PE X a ta)(hb : PE X (.BoolOp .Or (b::rest) pos) tb) : PE X (.BoolOp .Or (a::b::rest) pos) (VG ta tb) := by
 intro pI s σ H Q I h;refine BoolOp_or (thn (ha pI s σ H _ I h) fun v s1 ⟨x, H1, I1, r1, q1⟩ => ?_)
 obtain⟨c, rfl, q1⟩ := q1;cases r1;refine Bx ?_;cases c with
 |false => exact hb pI s1 σ H1 Q I1 q1
 |true => exact⟨.bl Ac, H1, I1, rfl, q1⟩
theorem Se(ha : PE X a ta) : PE X (.UnaryOp .Not a pos) (Ug ta) := by
 intro pI s σ H Q I h;refine UnaryOp_ (thn (ha pI s σ H _ I h) fun v s1 ⟨x, H1, I1, r1, q1⟩ => ?_)
 obtain⟨c, rfl, q1⟩ := q1;cases r1;exact not_of (Bx ⟨.bl (!c), H1, I1, rfl, q1⟩)
end
noncomputable def SqL(K : Fg)(H : Hp)(a : Ai)(xs : Ab V) : Prop:=
 Rd H a (.lst xs) \/
  ∃(o : Ay)(its : A4 Ah)(n : Ag), K.lookup a = Aa o /\ o.cls = .type "list" /\ o.dict = Af /\ o.data = .seq its n /\ its.size <= sizeLine /\ AN xs its.toList
noncomputable def SqT(K : Fg)(H : Hp)(a : Ai)(xs : Ab V) : Prop:=
 Rd H a (.tup xs) \/
  ∃(o : Ay)(its : A4 Ah)(n : Ag), K.lookup a = Aa o /\ o.cls = .type "tuple" /\ o.data = .seq its n /\ its.size <= sizeLine /\ AN xs its.toList
noncomputable def VT : Ah -> Al V
 |.none => Aa .non
 |.bool b => Aa (.bl b)
 |.int i _ => Aa (.int i)
 |.str x _ => Aa (.str x)
 |.bytes b _ => Aa (.byt b)
 |.float b _ => Aa (.flt b)
 |.ref a => Aa (.ref a)
 |.type n => Aa (.ty n)
 |_ => Af
theorem A6.abs{x:V}(r : A6 x u) : VT u = Aa x := by
 cases x with
 |non => cases r;rfl
 |bl _ => cases r;rfl
 |int _ => obtain⟨t, rfl⟩ := r;rfl
 |str _ => obtain⟨t, rfl⟩ := r;rfl
 |byt _ => obtain⟨t, rfl⟩ := r;rfl
 |flt _ => obtain⟨t, rfl⟩ := r;rfl
 |ref _ => cases r;rfl
 |ty _ => cases r;rfl
theorem A6.inj{x:V}(r : A6 x u)(q : A6 y u) : x = y := BP (r.abs.symm.trans q.abs)
theorem AN.inj : ∀{xs ys : Ab V}{us : Ab Ah}, AN xs us -> AN ys us -> xs = ys
 |_, _, _, .nil, .nil => rfl
 |_, _, _, .cons r t, .cons r' t' => by rw[r.inj r', AN.inj t t']
section
variable{X : Cx}{pI : Ab (Ai × Ay)}{σ : St}{H : Hp}{s : Ak}{a : Ai}{xs ys : Ab V}
theorem SqL.of{K : Fg}(h : H a = Aa (.lst xs)) : SqL K H a xs := .inl (.inl h)
theorem SqT.of{K : Fg}(h : H a = Aa (.tup xs)) : SqT K H a xs := .inl (.inl h)
theorem Inv.list(I : Inv X pI σ H s)(h : SqL X.K H a xs) : ∃ its : Ab Ah, AN xs its /\ PlainL s.heap a its.toArray /\ xs.length <= sizeLine := by
 rcases h with h|⟨o, its, n, hk, hc, hd, hs, hz, r⟩
 ·obtain⟨z, its, n, r, e⟩ := h.ok I.hok;exact⟨its, r, ⟨_, n, e, rfl, rfl, rfl⟩, z⟩
 ·refine⟨its.toList, r, ⟨o, n, I.kIn a o hk, hc, hd, by simpa using hs⟩, ?_⟩
  have e := r.length;simp only[DP]at e;omega
theorem Inv.tuple(I : Inv X pI σ H s)(h : SqT X.K H a xs) : ∃ its : Ab Ah, AN xs its /\ F0 s.heap a its.toArray /\ xs.length <= sizeLine := by
 rcases h with h|⟨o, its, n, hk, hc, hs, hz, r⟩
 ·obtain⟨z, its, r, p⟩ := h.ok I.hok;exact⟨its, r, p, z⟩
 ·refine⟨its.toList, r, ⟨o, I.kIn a o hk, hc, n, by simpa using hs⟩, ?_⟩
  have e := r.length;simp only[DP]at e;omega
theorem Inv.list_inj(I : Inv X pI σ H s)(h : SqL X.K H a xs)(h' : SqL X.K H a ys) : xs = ys := by
 obtain⟨its, r, ⟨o, n, e, _, _, d⟩, _⟩ := I.list h;obtain⟨its', r', ⟨o', n', e', _, _, d'⟩, _⟩ := I.list h';rw[e]at e';cases e';rw[d]at d'
 injection d' with d1 _
 have : its = its' := by simpa using congrArg Ff d1
 subst this;exact r.inj r'
theorem Inv.tuple_inj(I : Inv X pI σ H s)(h : SqT X.K H a xs)(h' : SqT X.K H a ys) : xs = ys := by
 obtain⟨its, r, ⟨o, e, _, n, d⟩, _⟩ := I.tuple h;obtain⟨its', r', ⟨o', e', _, n', d'⟩, _⟩ := I.tuple h';rw[e]at e';cases e';rw[d]at d'
 injection d' with d1 _
 have : its = its' := by simpa using congrArg Ff d1
 subst this;exact r.inj r'
end
noncomputable abbrev Cx.wish(X : Cx)(E : Ah -> Ak -> Prop) : Cx := {X with xe := E}
noncomputable abbrev Cx.nox(X : Cx) : Cx := X.wish fun _ _ => AW
theorem Cx.Ok.wish(ok : X.Ok)(E : Ah -> Ak -> Prop) : (X.wish E).Ok:=
 ⟨ok.mod, ok.kind, ok.glob, ok.blt, ok.above, ok.inj, ok.has, ok.cab, ok.hd, ok.frames, ok.stk, ok.exf, ok.bs, ok.bsz, ok.noex, ok.exfs, ok.funs, ok.frf⟩
theorem Cx.Ok.unwish{E : Ah -> Ak -> Prop}(ok : (X.wish E).Ok) : X.Ok:=
 ⟨ok.mod, ok.kind, ok.glob, ok.blt, ok.above, ok.inj, ok.has, ok.cab, ok.hd, ok.frames, ok.stk, ok.exf, ok.bs, ok.bsz, ok.noex, ok.exfs, ok.funs, ok.frf⟩
section
variable{X : Cx}{pI : Ab (Ai × Ay)}{σ : St}{H : Hp}{s : Ak}{E : Ah -> Ak -> Prop}
theorem Inv.wish(I : Inv X pI σ H s)(E : Ah -> Ak -> Prop) : Inv (X.wish E) pI σ H s := ⟨I.ok.wish E, I.os, I.bare, I.base, I.loc, I.cell, I.free, I.freeC, I.pin, I.hok, I.len⟩
theorem Inv.unwish(I : Inv (X.wish E) pI σ H s) : Inv X pI σ H s := ⟨I.ok.unwish, I.os, I.bare, I.base, I.loc, I.cell, I.free, I.freeC, I.pin, I.hok, I.len⟩
theorem SP.unwish{D : Ends}{f : Flow}{s' : Ak}(h : SP (X.wish E) pI D f s') : SP X pI D f s' := by
 cases f with
 |next => obtain⟨σ', H', I, q⟩ := h;exact⟨σ', H', I.unwish, q⟩
 |brk => obtain⟨σ', H', I, q⟩ := h;exact⟨σ', H', I.unwish, q⟩
 |cont => obtain⟨σ', H', I, q⟩ := h;exact⟨σ', H', I.unwish, q⟩
 |ret u => obtain⟨v, σ', H', I, r, q⟩ := h;exact⟨v, σ', H', I.unwish, r, q⟩
theorem PSs.nox{st:Ab A7}{t:TS}(h : PSs X.nox st t) : PSs X st t := fun pI s σ H D I hw=>
 Bu (h pI s σ H D (I.wish _) hw) (fun _ _ q => q.unwish) fun _ _ z => Cz z
end
section
variable{X : Cx}{st : A7}{rest : Ab A7}{t u : TS}{e : Ao}{te : TE}{pos : AH}
noncomputable def Uh : TS := fun D σ H => D.nx σ H
noncomputable def VS(t u : TS) : TS := fun D σ H => t {D with nx := u D} σ H
theorem QX : PSs X [] Uh := fun _ _ σ H _ I h => N4 ⟨σ, H, I, h⟩
theorem PD(h1 : PS X st t)(h2 : PSs X rest u) : PSs X (st::rest) (VS t u) := by
 intro pI s σ H D I h;refine wpAny_execs_cons (thn (h1 pI s σ H {D with nx := u D} I h) fun f s1 q => ?_)
 cases f with
 |next=>
  obtain⟨σ', H', I', q⟩ := q;exact h2 pI s1 σ' H' D I' q
 |ret v => exact q
 |brk => exact q
 |cont => exact q
theorem Inv.quiet(I : Inv X pI σ H s) : interactive X.env = Ad := by simp[interactive, I.ok.kind]
noncomputable def Ui(te : TE) : TS := fun D σ H => te σ H fun _ H1 => D.nx σ H1
theorem QZ(he : PE X e te)(hs : CO e Af pos.line X.env = pure Ad := by rfl) : PS X (.Expr e pos) (Ui te) := by
 intro pI s σ H D I h;exact wpAny_Expr_any (thn (he pI s σ H _ I h) fun v s1 ⟨x, H1, I1, r1, q1⟩ => ⟨σ, H1, I1, q1⟩) I.quiet hs
noncomputable def VF(te : TE) : TS := fun D σ H => te σ H D.rt
theorem Jf(he : PE X e te) : PS X (.Return (Aa e) pos) (VF te) := by
 intro pI s σ H D I h;exact wpAny_Return_some (thn (he pI s σ H _ I h) fun v s1 ⟨x, H1, I1, r1, q1⟩ => ⟨x, σ, H1, I1, r1, q1⟩)
noncomputable def VL(c : TT)(t u : TS) : TS := fun D σ H => c σ H fun b H1 => if b = Ac then t D σ H1 else u D σ H1
theorem Ux{c:Ao}{a b:Ab A7}{tc:TT}(hc : PT X c tc)(ha : PSs X a t)(hb : PSs X b u) : PS X (.If c a b pos) (VL tc t u) := by
 intro pI s σ H D I h;refine wpAny_If (thn (hc pI s σ H _ I h) fun d s1 ⟨H1, I1, q1⟩ => ?_)
 cases d with
 |true => exact ha pI s1 σ H1 D I1 q1
 |false => exact hb pI s1 σ H1 D I1 q1
end
noncomputable abbrev TG := V -> St -> Hp -> (St -> Hp -> Prop) -> Prop
noncomputable abbrev TGs := Ab V -> St -> Hp -> (St -> Hp -> Prop) -> Prop
noncomputable def PG(X : Cx)(target : Ao)(t : TG) : Prop:=
 ∀(pI : Ab (Ai × Ay))(s : Ak)(σ : St)(H : Hp)(v : V)(u : Ah)(Q : St -> Hp -> Prop), Inv X pI σ H s -> A6 v u -> t v σ H Q ->
  AD (model X.prog X.w) X.A (assign target X.env u) (fun _ s' => ∃ σ' H', Inv X pI σ' H' s' /\ Q σ' H') X.xe s
noncomputable def PGs(X : Cx)(ts : Ab Ao)(t : TGs) : Prop:=
 ∀(pI : Ab (Ai × Ay))(s : Ak)(σ : St)(H : Hp)(vs : Ab V)(us : Ab Ah)(Q : St -> Hp -> Prop), Inv X pI σ H s -> AN vs us -> t vs σ H Q ->
  AD (model X.prog X.w) X.A (assignInOrder ((B2 ts X.env).map (·.2)) us) (fun _ s' => ∃ σ' H', Inv X pI σ' H' s' /\ Q σ' H') X.xe s
noncomputable abbrev JI := V -> V -> V -> Hp -> (Hp -> Prop) -> Prop
noncomputable def MN(X : Cx)(t : JI) : Prop:=
 ∀(pI : Ab (Ai × Ay))(s : Ak)(σ : St)(H : Hp)(o i v : V)(ov iv u : Ah)(Q : Hp -> Prop), Inv X pI σ H s -> A6 o ov -> A6 i iv -> A6 v u -> t o i v H Q ->
  AD (model X.prog X.w) X.A (setItem ov iv u) (fun _ s' => ∃ H', Inv X pI σ H' s' /\ Q H') X.xe s
section
variable{X : Cx}{pos : AH}
noncomputable def Eb(i : Ag) : TG := fun v σ H Q => Q (σ.set i (Aa v)) H
theorem Ho(hN : X.N.Nodup)(hi : X.N[i]? = Aa x)(hx : Loc X.env.scope x)(hf : X.fn x = Ac \/ X.env.scope.names.lookup x = Aa .local := by first|exact .inl rfl|exact .inr rfl|assumption) : PG X (.Name x pos) (Eb i) := by
 intro pI s σ H v u Q I r h;exact N2 (KW I hN hi hx r (fun s' I' => ⟨_, H, I', h⟩) hf)
noncomputable def G5 : TGs := fun vs σ H Q => vs = [] /\ Q σ H
noncomputable def GY(t : TG)(u : TGs) : TGs := fun vs σ H Q => ∃ v r, vs = v::r /\ t v σ H fun σ' H' => u r σ' H' Q
theorem Q2 : PGs X [] G5 := by
 intro pI s σ H vs us Q I r h;obtain⟨e, h⟩ := h;subst e;cases r;exact assignInOrder_nil ⟨σ, H, I, h⟩
theorem O0{t:TG}{u:TGs}(h1 : PG X e t)(h2 : PGs X es u)(hs : (B2 (e::es) X.env).map (·.2) = assign e X.env::(B2 es X.env).map (·.2) := by rfl) : PGs X (e::es) (GY t u) := by
 intro pI s σ H vs us Q I r h;obtain⟨v, vr, e1, h⟩ := h;subst e1;cases r with
 |cons r rr=>
  rw[hs];refine assignInOrder_cons (thn (h1 pI s σ H _ _ _ I r h) fun _ s1 ⟨σ1, H1, I1, q1⟩ => ?_)
  exact h2 pI s1 σ1 H1 _ _ Q I1 rr q1
noncomputable def JF(K : Fg)(n : Ag)(t : TGs) : TG := fun v σ H Q => ∃ a xs, v = .ref a /\ SqT K H a xs /\ xs.length = n /\ t xs σ H Q
theorem R8{t:TGs}(hc : X.calm = Ac)(h : PGs X es t)(hn : (B2 es X.env).length = n := by rfl)(hst : (B2 es X.env).findIdx? (·.1) = Af := by rfl) : PG X (.Tuple es k pos) (JF X.K n t) := by
 intro pI s σ H v u Q I r hw;obtain⟨a, xs, e1, hq, hl, hw⟩ := hw;subst e1;cases r;obtain⟨its, rv, ht, hz⟩ := I.tuple hq;refine assign_Tuple_tuple (I.ok.hd hc) ht (by simp[hn, <-hl, rv.length]) hst fun h' hx => ?_
 have I1 : Inv X pI σ H {s with heap := h'} := I.kept (t' := s.toks) fun b o e => hx b o (Bv (Aw e)) e
 exact h pI _ σ H xs _ Q I1 (by simpa using rv) hw
noncomputable def Wd(to ti : TE)(t : JI) : TG := fun v σ H Q => to σ H fun o H1 => ti σ H1 fun i H2 => t o i v H2 fun H3 => Q σ H3
theorem R9{o i:Ao}{to ti:TE}{t:JI}(ho : PE X o to)(hi : PE X i ti)(hs : MN X t)(ha : ∀ v, assign (.Subscript o i pos) X.env v = (do
   let ov <-holding [v] (eval o X.env)
   let iv <-holding [v, ov] (eval i X.env)
   FE pos
   holding [v, ov, iv] (setItem ov iv v)
   release [v, ov, iv] []) := by intro _;rfl) : PG X (.Subscript o i pos) (Wd to ti t) := by
 intro pI s σ H v u Q I r h;rw[ha];refine As (D7 (thn (ho pI s σ H _ I h) fun ov s1 ⟨x, H1, I1, r1, q1⟩ => ?_))
 refine As (D7 (thn (hi pI s1 σ H1 _ I1 q1) fun iv s2 ⟨y, H2, I2, r2, q2⟩ => ?_))
 refine As (Fe (As (D7 (thn (hs pI s2 σ H2 x y v ov iv u _ I2 r1 r2 r q2) fun _ s3 ⟨H3, I3, q3⟩ => ?_))))
 exact wpAny_release ⟨σ, H3, I3, q3⟩
noncomputable def HM(te : TE)(g : TG) : TS := fun D σ H => te σ H fun x H1 => g x σ H1 D.nx
theorem R4{g:TG}(he : PE X e te)(hg : PG X tg g)(hs : Fd [tg] e pos.line X.env = pure Ad := by rfl)(hw : swappedStores [tg] e X.env = pure Af := by rfl)(h1 : (B2 [tg] X.env).map (·.2) = [assign tg X.env] := by rfl) : PS X (.Assign [tg] e pos) (HM te g) := by
 intro pI s σ H D I h;refine wpAny_Assign_stores (thn (he pI s σ H _ I h) fun v s1 ⟨x, H1, I1, r1, q1⟩ => ?_) hs hw
 rw[h1];exact thn (hg pI s1 σ H1 x v _ I1 r1 q1) fun _ s2 q => q
theorem R0{pos':AH}(hN : X.N.Nodup)(hi : X.N[i]? = Aa x)(hx : Loc X.env.scope x)(he : PE X e te)(hs : CO e (Aa (.Name x pos')) pos.line X.env = pure Ad := by rfl)(hf : X.fn x = Ac \/ X.env.scope.names.lookup x = Aa .local := by first|exact .inl rfl|exact .inr rfl|assumption):PS X (.Assign [.Name x pos'] e pos) (HM te (Eb i)) := by
 intro pI s σ H D I h;refine wpAny_Assign_Name (thn (he pI s σ H _ I h) fun v s1 ⟨y, H1, I1, r1, q1⟩ => ?_) hs
 exact KW I1 hN hi hx r1 (fun s2 I2 => ⟨_, H1, I2, q1⟩) hf
end
section
variable{X : Cx}{pos : AH}
end
structure It where
 go : Ag -> Hp -> Prop
 yld : Ag -> Hp -> V -> Hp -> Prop
 stop : Ag -> Hp -> Prop
noncomputable def EQ(X : Cx)(pI : Ab (Ai × Ay))(H : Hp)(b : Ai) : Prop:=
 H b = Af /\ b ≠ X.env.locals /\ b ∉ X.fs /\ (b ∈ X.ex \/ X.s₀.heap.objs.size <= b) /\ (∀ x c, X.env.cells.lookup x = Aa c -> c ≠ b) /\ ∀ p ∈ X.pn++pI, p.1 ≠ b
theorem Inv.fpOk{H':Hp}(I : Inv X pI σ H s)(hb : s.heap.objs.size <= b)(hn : H' b = Af) : EQ X pI H' b := by
 refine⟨hn, Nu (Au I.lt hb), I.nofs hb, .inr (BH I.sz hb), fun x c e z => ?_, fun p hp z => ?_⟩
 ·obtain⟨v, q⟩ := I.cell x c e;exact absurd (Au q.lt (by rw[z];exact hb)) (A3 _)
 ·exact absurd (Au (Aw (I.pin p hp).1) (by rw[z];exact hb)) (A3 _)
structure Turn (P : Az) (w : AF) (K : Fg) (tg : Ao) (J : It) (fp : Ab Ai) (it : Ai) (tn : Ag -> AB -> Prop) : Prop where
 mem : it ∈ fp
 obj : ∀ i h, tn i h -> ∀ b ∈ fp, ∃ o, h.get? b = Aa o /\ ∀ v, o.data ≠ .cell v
 keep : ∀ i h h', tn i h -> (∀ b ∈ fp, ∀ o, h.get? b = Aa o -> h'.get? b = Aa o) -> tn i h'
 item : ∀(X : Cx), X.prog = P -> X.w = w -> X.K = K -> X.calm = Ac -> ∀(i : Ag)(pI : Ab (Ai × Ay))(s : Ak)(σ : St)(H : Hp)(E : Ah -> Ak -> Prop), Inv X pI σ H s -> (∀ b ∈ fp, EQ X pI H b) -> tn i s.heap -> J.go i H ->
  AD (model P w) X.A (pyNext (.ref it)) (fun r s1 => ∃ u, r = Aa u /\
   AD (model P w) X.A (DK tg (.ref it) u) (fun _ s2 => ∃ x H', Inv X pI σ H' s2 /\ A6 x u /\ J.yld i H x H' /\ tn (i+1) s2.heap /\ ∀ b ∈ fp, H' b = Af) E s1) E s
 done : ∀(X : Cx), X.prog = P -> X.w = w -> X.K = K -> X.calm = Ac -> ∀(i : Ag)(pI : Ab (Ai × Ay))(s : Ak)(σ : St)(H : Hp)(E : Ah -> Ak -> Prop), Inv X pI σ H s -> (∀ b ∈ fp, EQ X pI H b) -> tn i s.heap -> J.stop i H ->
  AD (model P w) X.A (pyNext (.ref it)) (fun r s1 => r = Af /\ Inv X pI σ H s1) E s
 self : ∀(A : AI)(i : Ag)(s : Ak)(Q : Ah -> Ak -> Prop)(E : Ah -> Ak -> Prop), tn i s.heap -> Q (.ref it) s -> AD (model P w) A (pyIter (.ref it)) Q E s
noncomputable abbrev TI := St -> Hp -> (It -> Hp -> Prop) -> Prop
noncomputable def PIE(X : Cx)(pI : Ab (Ai × Ay))(σ : St)(tg : Ao)(R : It -> Hp -> Prop)(itv : Ah)(s2 : Ak) : Prop:=
 ∃(it : Ai)(fp : Ab Ai)(tn : Ag -> AB -> Prop)(J : It)(H' : Hp), itv = .ref it /\ Inv X pI σ H' s2 /\ Turn X.prog X.w X.K tg J fp it tn /\ tn 0 s2.heap /\ (∀ b ∈ fp, EQ X pI H' b) /\ R J H'
noncomputable def PI(X : Cx)(tg iter : Ao)(wi : TI) : Prop:=
 ∀(pI : Ab (Ai × Ay))(s : Ak)(σ : St)(H : Hp)(R : It -> Hp -> Prop), Inv X pI σ H s -> wi σ H R ->
  AD (model X.prog X.w) X.A (eval iter X.env) (fun v s1 => AD (model X.prog X.w) X.A (pyIter v) (PIE X pI σ tg R) X.xe s1) X.xe s
theorem Jp{A : AI}{E : Ah -> Ak -> Prop}{n:Cc}{vs:A4 Ah}(ho : s.heap.get? it = Aa o)(hc : o.cls = .type n)(hd : o.data = .fields vs)(hn : ["enumerate", "zip", "dict_itemiterator", "dict_reverseitemiterator", "odict_iterator", "itertools.zip_longest", "itertools.pairwise"].contains n = Ad)(hQ : Q () s) : AD M A (DK tg (.ref it) u) Q E s := by
  unfold DK;cases tg <;> first
    |exact AV hQ
    | (cases u <;> first
        |exact AV hQ
        | (refine As (wpAny_load ho ?_)
           rw[hc, hd];show AD M A (if (["enumerate", "zip", "dict_itemiterator", "dict_reverseitemiterator", "odict_iterator", "itertools.zip_longest", "itertools.pairwise"].contains n&&vs[0]? == Aa (D1 _)) = Ac then _ else _) Q E s
           rw[AJ (by intro h;rw[hn, Bool.false_and]at h;cases h)]
           exact AV hQ))
noncomputable def Itl(K : Fg)(a : Ai) : It:=
 ⟨fun i H => ∃ xs x, SqL K H a xs /\ xs[i]? = Aa x, fun i H x H' => H' = H /\ ∀ xs, SqL K H a xs -> xs[i]? = Aa x, fun i H => ∃ xs, SqL K H a xs /\ xs.length <= i⟩
noncomputable def Itt(K : Fg)(a : Ai) : It:=
 ⟨fun i H => ∃ xs x, SqT K H a xs /\ xs[i]? = Aa x, fun i H x H' => H' = H /\ ∀ xs, SqT K H a xs -> xs[i]? = Aa x, fun i H => ∃ xs, SqT K H a xs /\ xs.length <= i⟩
noncomputable def Itr(lo : Ae)(n : Ag) : It := ⟨fun i _ => i<n, fun i H x H' => H' = H /\ x = .int (lo+i), fun i _ => n <= i⟩
theorem Oh{w : AF}{K : Fg}(a it : Ai) : Turn P w K tg (Itl K a) [it] it (fun i h => h.IsListIter it a i) where
 mem := by simp
 obj := fun i h st b hb => by
  have e : b = it := by simpa using hb
  subst e;obtain⟨o, e, c, d⟩ := st;exact⟨o, e, fun v z => by rw[d]at z;cases z⟩
 keep := fun i h h' st k => st.at fun o e => k it (by simp) o e
 item := by
  intro X hP hw hK hc i pI s σ H E I hf st hg;subst hP hw hK;obtain⟨xs, x, hq, hx⟩ := hg;obtain⟨its, rv, p, hz⟩ := I.list hq;obtain⟨u, hu, ru⟩ := rv.get hx;obtain⟨f0, f1, f2, f3, f4, f5⟩ := hf it (by simp)
  refine wpAny_pyNext_list_item st p.isList (x := u) (by simpa using hu) fun h' st' sb => ?_
  have I1 : Inv X pI σ H {s with heap := h'} := I.turned (t' := s.toks) (fun b o hb e => (sb.2 b hb).trans e) f0 f1 f3 f4 f5
  obtain⟨o, e, c, d⟩ := id st';exact⟨u, rfl, Jp (s := {s with heap := h'}) e c d (by decide) ⟨x, H, I1, ru, ⟨rfl, fun ys hy => by rw[I.list_inj hy hq];exact hx⟩, st', fun b hb => (hf b hb).1⟩⟩
 done := by
  intro X hP hw hK hc i pI s σ H E I hf st hg;subst hP hw hK;obtain⟨xs, hq, hx⟩ := hg;obtain⟨its, rv, p, hz⟩ := I.list hq;obtain⟨f0, f1, f2, f3, f4, f5⟩ := hf it (by simp)
  have hl := rv.length;exact wpAny_pyNext_list_end (I.ok.hd hc) st p.isList (by simp;omega) fun h' eb => ⟨rfl, I.turned (t' := s.toks) (fun b o hb e => eb b o hb e) f0 f1 f3 f4 f5⟩
 self := fun _ _ _ _ _ st h => wpAny_pyIter_listiter st h
theorem Ol{w : AF}{K : Fg}(a it : Ai) : Turn P w K tg (Itt K a) [it] it (fun i h => h.IsTupleIter it a i) where
 mem := by simp
 obj := fun i h st b hb => by
  have e : b = it := by simpa using hb
  subst e;obtain⟨o, e, c, d⟩ := st;exact⟨o, e, fun v z => by rw[d]at z;cases z⟩
 keep := fun i h h' st k => st.at fun o e => k it (by simp) o e
 item := by
  intro X hP hw hK hc i pI s σ H E I hf st hg;subst hP hw hK;obtain⟨xs, x, hq, hx⟩ := hg;obtain⟨its, rv, p, hz⟩ := I.tuple hq;obtain⟨u, hu, ru⟩ := rv.get hx;obtain⟨f0, f1, f2, f3, f4, f5⟩ := hf it (by simp)
  refine wpAny_pyNext_tuple_item st (show s.heap.IsTuple a its.toArray from p) (x := u) (by simpa using hu) fun h' st' sb => ?_
  have I1 : Inv X pI σ H {s with heap := h'} := I.turned (t' := s.toks) (fun b o hb e => (sb.2 b hb).trans e) f0 f1 f3 f4 f5
  obtain⟨o, e, c, d⟩ := id st';exact⟨u, rfl, Jp (s := {s with heap := h'}) e c d (by decide) ⟨x, H, I1, ru, ⟨rfl, fun ys hy => by rw[I.tuple_inj hy hq];exact hx⟩, st', fun b hb => (hf b hb).1⟩⟩
 done := by
  intro X hP hw hK hc i pI s σ H E I hf st hg;subst hP hw hK;obtain⟨xs, hq, hx⟩ := hg;obtain⟨its, rv, p, hz⟩ := I.tuple hq;obtain⟨f0, f1, f2, f3, f4, f5⟩ := hf it (by simp)
  have hl := rv.length;exact wpAny_pyNext_tuple_end (I.ok.hd hc) st (show s.heap.IsTuple a its.toArray from p) (by simp;omega) fun h' eb => ⟨rfl, I.turned (t' := s.toks) (fun b o hb e => eb b o hb e) f0 f1 f3 f4 f5⟩
 self := fun _ _ _ _ _ st h => wpAny_pyIter_tupleiter st h
theorem Om{w : AF}{K : Fg}(it : Ai)(lo : Ae)(n : Ag) : Turn P w K tg (Itr lo n) [it] it (fun i h => IsRangeIter h it (lo+(i : Ag)*1) ((n : Ae)-(i : Ag)) 1) where
 mem := by simp
 obj := fun i h st b hb => by
  have e : b = it := by simpa using hb
  subst e;exact⟨_, st, fun v z => by
   have z' : Data.fields _ = Gy v := z;cases z'⟩
 keep := fun i h h' st k => k it (by simp) _ st
 item := by
  intro X hP hw hK hc i pI s σ H E I hf st hg;subst hP hw hK;obtain⟨f0, f1, f2, f3, f4, f5⟩ := hf it (by simp)
  have W := Walks.range (prog := X.prog) (w := X.w) (I.ok.hd hc) it lo 1 n;refine W.item i s _ _ hg st fun v h' tk hv st' kk => ?_
  obtain⟨t, rfl⟩ := hv;have I1 : Inv X pI σ H {s with heap := h', toks := tk} := I.turned (fun b o hb e => kk b o (by simpa using hb) e) f0 f1 f3 f4 f5
  refine⟨_, rfl, Jp (s := {s with heap := h', toks := tk}) (n := "range_iterator") st' rfl rfl (by decide) ⟨.int (lo+i), H, I1, ⟨t, ?_⟩, ⟨rfl, rfl⟩, st', fun b hb => (hf b hb).1⟩⟩
  rw[EI]
 done := by
  intro X hP hw hK hc i pI s σ H E I hf st hg;subst hP hw hK;obtain⟨f0, f1, f2, f3, f4, f5⟩ := hf it (by simp)
  exact wpAny_pyNext_range_end (I.ok.hd hc) st (by have : n <= i := hg;omega) fun h' eb => ⟨rfl, I.turned (t' := s.toks) (fun b o hb e => eb b o hb e) f0 f1 f3 f4 f5⟩
 self := fun _ _ _ _ _ st h => wpAny_pyIter_rangeiter st h
section
variable{X : Cx}{tg : Ao}
theorem KZ{R : It -> Hp -> Prop}{E : Ah -> Ak -> Prop}{lo hi:Ae}{t u v:B6}{tk:Ag}(I : Inv X pI σ H s)(h1 : -(2 ^ 62) <= lo)(h2 : lo<2 ^ 62)(h3 : -(2 ^ 62) <= hi)(h4 : hi<2 ^ 62)(q : R (Itr lo (hi-lo).toNat) H) : AD (model X.prog X.w) X.A (pyIter (.ref s.heap.objs.size)) (PIE X pI σ tg R) E { s with heap := s.heap.push { cls := .type "range", data := .fields #[.int lo t, .int hi u, .int 1 v] }, toks := tk } := by
 refine wpAny_pyIter_range (IsRange.new ..) (small_one h1 h2 h3 h4) ?_;have I1 : Inv X pI σ H { s with heap := s.heap.push { cls := .type "range", data := .fields #[.int lo t, .int hi u, .int 1 v] }, toks := tk } := I.kept fun b o e => Ax _ e
 refine⟨(s.heap.push { cls := .type "range", data := .fields #[.int lo t, .int hi u, .int 1 v] }).objs.size, [(s.heap.push { cls := .type "range", data := .fields #[.int lo t, .int hi u, .int 1 v] }).objs.size], _, _, H, rfl,
  I1.kept (t' := tk) fun b o e => Ax _ e, Om _ lo (hi-lo).toNat, ?_, fun b hb => ?_, q⟩
 ·have e1 : lo+((0 : Ag) : Ae)*1 = lo := by simp
  have e2 : (((hi-lo).toNat : Ag) : Ae)-((0 : Ag) : Ae) = Builtin.Range.rangeSize lo hi 1 := by rw[rangeSize_one];split <;> omega
  show IsRangeIter _ _ (lo+((0 : Ag) : Ae)*1) ((((hi-lo).toNat : Ag) : Ae)-((0 : Ag) : Ae)) 1;rw[e1, e2];exact A9 _ rfl
 ·have e : b = (s.heap.push { cls := .type "range", data := .fields #[.int lo t, .int hi u, .int 1 v] }).objs.size := by simpa using hb
  subst e;exact I1.fpOk (AG _) (I1.hok.fresh (AG _))
noncomputable def Vs(ta : TA) : TI := fun σ H R => ta σ H fun vs H1 => ∃ j : Ae, vs = [.int j] /\ -(2 ^ 62) <= j /\ j<2 ^ 62 /\ R (Itr 0 j.toNat) H1
noncomputable def Vr(ta : TA) : TI := fun σ H R => ta σ H fun vs H1 => ∃ i j : Ae, vs = [.int i, .int j] /\ (-(2 ^ 62) <= i /\ i<2 ^ 62 /\ -(2 ^ 62) <= j /\ j<2 ^ 62) /\ R (Itr i (j-i).toNat) H1
theorem OU{a:Ao}{p:AH}(hg : Gl X "range")(hm : X.mg "range" = Af)(ha : PA X [a] ta)(hs : AC [a] X.env = [(Ad, eval a X.env)] := by rfl) : PI X tg (.Call (.Name "range" p) [a] [] pos) (Vs ta) := by
 intro pI s σ H R I h;refine Call_ (GQ I hg hm boot_range (CN (thn (ha pos pI s σ H _ I h) fun us s1 ⟨vs, H1, I1, r1, q1⟩ => ?_) hs rfl))
 obtain⟨j, e, q1, q2, q⟩ := q1;subst e;cases r1 with
 |cons r rr=>
  cases rr;obtain⟨t, rfl⟩ := r;exact call_range_1 (KZ I1 (by omega) (by omega) q1 q2 (by simpa using q))
theorem OT{a b:Ao}{p:AH}(hg : Gl X "range")(hm : X.mg "range" = Af)(ha : PA X [a, b] ta)(hs : AC [a, b] X.env = [(Ad, eval a X.env), (Ad, eval b X.env)] := by rfl)(hs2 : AC [b] X.env = [(Ad, eval b X.env)] := by rfl):
  PI X tg (.Call (.Name "range" p) [a, b] [] pos) (Vr ta) := by
 intro pI s σ H R I h;refine Call_ (GQ I hg hm boot_range (CN (thn (ha pos pI s σ H _ I h) fun us s1 ⟨vs, H1, I1, r1, q1⟩ => ?_) (by rw[hs, hs2]) (by rw[hs2];rfl)))
 obtain⟨i, j, e, ⟨q1, q2, q3, q4⟩, q⟩ := q1;subst e;cases r1 with
 |cons r rr=>
  cases rr with
  |cons r' rr=>
   cases rr;obtain⟨t, rfl⟩ := r;obtain⟨t', rfl⟩ := r';exact call_range_2 (KZ I1 q1 q2 q3 q4 q)
noncomputable def VM(wi : TI)(g : TG)(tb : TS) : TS := fun D σ H => wi σ H fun J H1 => ∃ W : Ag -> Ag -> St -> Hp -> Prop, (∃ m, W 0 m σ H1) /\ ∀ i m σ H, W i m σ H ->
 (J.stop i H /\ D.nx σ H) \/ (J.go i H /\ ∃ N : St -> Hp -> Prop, (∀ σ' H', N σ' H' -> ∃ m', m'<m /\ W (i+1) m' σ' H') /\ ∀ x H', J.yld i H x H' -> g x σ H' fun σ2 H2 => tb {D with nx := N, ct := N, bk := D.nx} σ2 H2)
noncomputable def FP(fp : Ab Ai)(h : AB) : Ab (Ai × Ay) := fp.filterMap fun b => (h.get? b).map fun o => (b, o)
theorem Hk(hb : b ∈ fp)(e : h.get? b = Aa o) : (b, o) ∈ FP fp h := List.mem_filterMap.mpr ⟨b, hb, by rw[e];rfl⟩
theorem KH{p:Ai × Ay}(hp : p ∈ FP fp h) : p.1 ∈ fp /\ h.get? p.1 = Aa p.2 := by
 obtain⟨b, hb, e⟩ := List.mem_filterMap.mp hp;cases q : h.get? b with
 |none => rw[q]at e;cases e
 |some o=>
  rw[q]at e;have e' : (b, o) = p := BP e;subst e';exact⟨hb, q⟩
theorem Inv.pinned(I : Inv X pI σ H s)(hf : ∀ b ∈ fp, EQ X pI H b)(ho : ∀ b ∈ fp, ∃ o, s.heap.get? b = Aa o /\ ∀ v, o.data ≠ .cell v) : Inv X (pI++FP fp s.heap) σ H s:=
 I.pins_of fun p hp => (DB.mp hp).elim (fun z => I.pin p (AU _ z)) fun z => by
  obtain⟨hb, e⟩ := KH z;obtain⟨f0, f1, f2, _⟩ := hf p.1 hb;obtain⟨o, e', d⟩ := ho p.1 hb;rw[e]at e';cases e';exact⟨e, f0, f1, f2, d⟩
theorem Inv.unpinned{pl:Ab (Ai × Ay)}(I : Inv X (pI++pl) σ H s) : Inv X pI σ H s := I.pins_of fun p hp => I.pin p (AU _ (Nl _ hp))
theorem R1{iter:Ao}{wi:TI}{g:TG}{tb:TS}(hp : DA (model X.prog X.w) X.A X.env X.xe)(hc : X.calm = Ac)(hi : PI X tg iter wi)(hg : PG X tg g)(hb : PSs X body tb)(hs : ∀ x, BM iter X.env x = pure x := by intro _;rfl) : PS X (.For tg iter body [] pos) (VM wi g tb) := by
 intro pI s σ H D I h;refine wpAny_For (thn (hi pI s σ H _ I h) fun v s1 h1 => thn h1 fun itv s2 h2 => ?_) hs
 obtain⟨it, fp, tn, J, H2, e, I2, T, st2, f2, W, ⟨m0, w0⟩, turn⟩ := h2;subst e
 -- what stays Ac of the iterator's objects through the loop
 have stat : ∀{H' : Hp}, (∀ b ∈ fp, H' b = Af) -> ∀ b ∈ fp, EQ X pI H' b := fun hn b hb => ⟨hn b hb, (f2 b hb).2⟩
 refine codeAny_forLoop_any (fun n s' => ∃ i σ' H', Inv X pI σ' H' s' /\ tn i s'.heap /\ (∀ b ∈ fp, H' b = Af) /\ W i n σ' H') ?_ m0 ⟨0, σ, H2, I2, st2, fun b hb => (f2 b hb).1, w0⟩
 rintro n s3 ⟨i, σ3, H3, I3, st3, fr3, w3⟩;rcases turn i n σ3 H3 w3 with ⟨stop, qn⟩|⟨go, N, hN, step⟩
 ·refine C7 hp (thn (T.done X rfl rfl rfl hc i pI s3 σ3 H3 X.xe I3 (stat fr3) st3 stop) fun r s4 ⟨hr, I4⟩ => ?_)
  subst hr;exact N4 ⟨σ3, H3, I4, qn⟩
 ·refine C7 hp (thn (T.item X rfl rfl rfl hc i pI s3 σ3 H3 X.xe I3 (stat fr3) st3 go) fun r s4 ⟨u, hr, h4⟩ => ?_)
  subst hr;refine C7 hp (thn h4 fun _ s5 ⟨x, H5, I5, r5, y5, st5, fr5⟩ => ?_)
  have I5' := I5.pinned (stat fr5) (T.obj _ _ st5);refine C7 hp (thn (hg _ s5 σ3 H5 x u _ I5' r5 (step x H5 y5)) fun _ s6 ⟨σ6, H6, I6, q6⟩ => ?_)
  refine C7 hp (thn (hb _ s6 σ6 H6 _ I6 q6) fun f s7 q7 => ?_)
  have again : ∀{σ7 : St}{H7 : Hp}, Inv X (pI++FP fp s5.heap) σ7 H7 s7 -> N σ7 H7 -> ∃ m, m<n /\ ∃ i σ' H', Inv X pI σ' H' s7 /\ tn i s7.heap /\ (∀ b ∈ fp, H' b = Af) /\ W i m σ' H' := fun {σ7 H7} I7 n7 => by
   obtain⟨m', hm, w7⟩ := hN σ7 H7 n7;refine⟨m', hm, i+1, σ7, H7, I7.unpinned, T.keep _ _ _ st5 fun b hb o e => (I7.pin (b, o) (AU _ (AU _ (Hk hb e)))).1, fun b hb => ?_, w7⟩
   obtain⟨o, e, d⟩ := T.obj _ _ st5 b hb;exact(I7.pin (b, o) (AU _ (AU _ (Hk hb e)))).2.1
  cases f with
  |next => obtain⟨σ7, H7, I7, n7⟩ := q7;exact again I7 n7
  |cont => obtain⟨σ7, H7, I7, n7⟩ := q7;exact again I7 n7
  |brk => obtain⟨σ7, H7, I7, q7⟩ := q7;exact⟨σ7, H7, I7.unpinned, q7⟩
  |ret v => obtain⟨x7, σ7, H7, I7, r7, q7⟩ := q7;exact⟨x7, σ7, H7, I7.unpinned, r7, q7⟩
end
noncomputable abbrev R2 := V -> V -> Hp -> VK -> Prop
variable{r r':R2}
noncomputable def OpR(X : Cx)(f : Ah -> Ah -> Sem Ah)(r : R2) : Prop:=
 ∀(pI : Ab (Ai × Ay))(s : Ak)(σ : St)(H : Hp)(x y : V)(v u : Ah)(Q : VK), Inv X pI σ H s -> A6 x v -> A6 y u -> r x y H Q ->
  AD (model X.prog X.w) X.A (f v u) (EP X pI σ Q) X.xe s
noncomputable def EB(X : Cx)(f : Ah)(r : Ab V -> Hp -> VK -> Prop) : Prop:=
 ∀(pI : Ab (Ai × Ay))(s : Ak)(σ : St)(H : Hp)(xs : Ab V)(us : Ab Ah)(Q : VK), Inv X pI σ H s -> AN xs us -> r xs H Q ->
  AD (model X.prog X.w) X.A (call f us) (EP X pI σ Q) X.xe s
noncomputable def VV(X : Cx)(r : V -> Hp -> (An -> Hp -> Prop) -> Prop) : Prop:=
 ∀(pI : Ab (Ai × Ay))(s : Ak)(σ : St)(H : Hp)(x : V)(v : Ah)(Q : An -> Hp -> Prop), Inv X pI σ H s -> A6 x v -> r x H Q ->
  AD (model X.prog X.w) X.A (truthy v) (TP X pI σ Q) X.xe s
noncomputable def tOp(r : R2)(ta tb : TE) : TE := fun σ H Q => ta σ H fun x H1 => tb σ H1 fun y H2 => r x y H2 Q
noncomputable def rI(C : Ae -> Ae -> Prop)(g : Ae -> Ae -> V) : R2 := fun x y H Q => ∃ i j, x = .int i /\ y = .int j /\ C i j /\ Q (g i j) H
noncomputable def rI0(g : Ae -> Ae -> V) : R2 := fun x y H Q => ∃ i j, x = .int i /\ y = .int j /\ Q (g i j) H
section
variable{X : Cx}{a b c : Ao}{ta tb tc : TE}{pos : AH}
theorem JG(ha : PE X a ta)(hb : PE X b tb){R : V -> V -> Hp -> Prop}(I : Inv X pI σ H s)(h : ta σ H fun x H1 => tb σ H1 fun y H2 => R x y H2){Q:Ah -> Ak -> Prop}(hf : ∀ v u s2 x y H2, Inv X pI σ H2 s2 -> A6 x v -> A6 y u -> R x y H2 -> AD (model X.prog X.w) X.A (f v u) Q X.xe s2):AD (model X.prog X.w) X.A (eval a X.env) (fun v s₁ =>AD (model X.prog X.w) X.A (eval b X.env) (fun u s₂ =>AD (model X.prog X.w) X.A (f v u) Q X.xe s₂) X.xe s₁) X.xe s := by
 refine thn (ha pI s σ H _ I h) fun v s1 ⟨x, H1, I1, r1, q1⟩ => ?_
 refine thn (hb pI s1 σ H1 _ I1 q1) fun u s2 ⟨y, H2, I2, r2, q2⟩ => ?_
 exact hf v u s2 x y H2 I2 r1 r2 q2
theorem LX{op:Ep}(ho : OpR X (Bg op) r)(ha : PE X a ta)(hb : PE X b tb) : PE X (.BinOp a op b pos) (tOp r ta tb) := by
 intro pI s σ H Q I h;exact wpAny_BinOp (JG ha hb I h fun v u s2 x y H2 I2 rx ry q => ho pI s2 σ H2 x y v u Q I2 rx ry q)
theorem opI{C:Ae -> Ae -> Prop}(rule : ∀(i j : Ae)(t u : B6)(s : Ak)(Q : Ah -> Ak -> Prop)(E : Ah -> Ak -> Prop), C i j -> Q (.int (g i j) s.toks) {s with toks := s.toks+1} -> AD (model X.prog X.w) X.A (f (.int i t) (.int j u)) Q E s):OpR X f (rI C fun i j =>.int (g i j)) := by
 intro pI s σ H x y v u Q I rx ry h;obtain⟨i, j, rfl, rfl, hc, q⟩ := h;obtain⟨t, rfl⟩ := rx;obtain⟨t', rfl⟩ := ry;exact rule i j t t' s _ _ hc ⟨.int (g i j), H, I.tok _, ⟨_, rfl⟩, q⟩
theorem Mp(rule : ∀(i j : Ae)(t u : B6)(s : Ak)(Q : Ah -> Ak -> Prop)(E : Ah -> Ak -> Prop), Q (.int (g i j) s.toks) {s with toks := s.toks+1} -> AD (model X.prog X.w) X.A (f (.int i t) (.int j u)) Q E s):OpR X f (rI0 fun i j =>.int (g i j)) := by
 intro pI s σ H x y v u Q I rx ry h;obtain⟨i, j, rfl, rfl, q⟩ := h;obtain⟨t, rfl⟩ := rx;obtain⟨t', rfl⟩ := ry;exact rule i j t t' s _ _ ⟨.int (g i j), H, I.tok _, ⟨_, rfl⟩, q⟩
theorem HL{g:Ae -> Ae -> An}(rule : ∀(i j : Ae)(t u : B6)(s : Ak)(Q : Ah -> Ak -> Prop)(E : Ah -> Ak -> Prop), Q (.bool (g i j)) s -> AD (model X.prog X.w) X.A (f (.int i t) (.int j u)) Q E s):OpR X f (rI0 fun i j =>.bl (g i j)) := by
 intro pI s σ H x y v u Q I rx ry h;obtain⟨i, j, rfl, rfl, q⟩ := h;obtain⟨t, rfl⟩ := rx;obtain⟨t', rfl⟩ := ry;exact rule i j t t' s _ _ ⟨.bl (g i j), H, I, rfl, q⟩
noncomputable def V2(i j : Ae) : Prop := 0<j /\ j<1073741824
noncomputable def V1(i j : Ae) : Prop := 0 <= j /\ j <= 1000000 /\ i.natAbs<2 ^ 64
noncomputable def HQ(i j : Ae) : Prop := (-(2 ^ 64)<i /\ i<2 ^ 64) \/ (-(2 ^ 64)<j /\ j<2 ^ 64)
theorem HQ.ok{i j:Ae}(h : HQ i j) : GA i j := by
 rcases h with ⟨h1, h2⟩|⟨h1, h2⟩
 ·exact .of_left (intBits_le_64 h1 h2)
 ·exact .of_right (intBits_le_64 h1 h2)
theorem RO : OpR X (Bg .Add) (rI0 fun i j => .int (i+j)) := Mp fun _ _ _ _ _ _ _ q => add_int q
theorem RJ : OpR X (Bg .Sub) (rI0 fun i j => .int (i-j)) := Mp fun _ _ _ _ _ _ _ q => sub_int q
theorem Qx : OpR X (Bg .FloorDiv) (rI V2 fun i j => .int (i / j)) := opI fun i j _ _ _ _ _ hc q => by
 have h1 : (0 : Ae)<j := hc.1;have h2 : j<1073741824 := hc.2;exact floordiv_int (by omega) (by rw[Int.fdiv_eq_ediv_of_nonneg i (by omega)];exact q) (.inl (PyProof.noPylong_small (by omega)))
theorem RM : OpR X (Bg .Mod) (rI (fun _ j => 0<j) fun i j => .int (i%j)) := opI fun i j _ _ _ _ _ hc q => by
 have h1 : (0 : Ae)<j := hc;exact mod_int' (by omega) (by rw[Int.fmod_eq_emod_of_nonneg i (by omega)];exact q)
theorem RK : OpR X (Bg .Pow) (rI V1 fun i j => .int (i ^ j.toNat)) := opI fun _ _ _ _ _ _ _ hc q => pow_int_small hc.1 hc.2.1 hc.2.2 q
end
section
variable{X : Cx}{a b c : Ao}{ta tb tc : TE}{pos : AH}
theorem LH{Q:VK}{k k':An}(I : Inv X pI σ H s)(q : Q (.bl k) H)(e : k = k') : EP X pI σ Q (.bool k') s := by
 subst e;exact⟨.bl k, H, I, rfl, q⟩
theorem UD : OpR X (Bw .Lt) (rI0 fun i j => .bl (decide (i<j))) := HL fun _ _ _ _ _ _ _ q => lt_int q
theorem UE : OpR X (Bw .LtE) (rI0 fun i j => .bl (decide (i <= j))) := HL fun _ _ _ _ _ _ _ q => le_int q
theorem UF : OpR X (Bw .Gt) (rI0 fun i j => .bl (decide (j<i))) := HL fun _ _ _ _ _ _ _ q => gt_int q
theorem UG : OpR X (Bw .GtE) (rI0 fun i j => .bl (decide (j <= i))) := HL fun _ _ _ _ _ _ _ q => ge_int q
theorem RN : OpR X (Bw .Is) (fun x y H Q => y = .non /\ Q (.bl (decide (x = .non))) H) := by
 intro pI s σ H x y v u Q I rx ry h;obtain⟨rfl, q⟩ := h;cases ry;refine is_none_gen (LH I q ?_);cases x <;> first
  |(cases rx;rfl)
  |(obtain⟨t, rfl⟩ := rx;rfl)
theorem Rc : OpR X (Bw .IsNot) (fun x y H Q => y = .non /\ Q (.bl (!decide (x = .non))) H) := by
 intro pI s σ H x y v u Q I rx ry h;obtain⟨rfl, q⟩ := h;cases ry;refine isnot_none_gen (LH I q ?_);cases x <;> first
  |(cases rx;rfl)
  |(obtain⟨t, rfl⟩ := rx;rfl)
theorem Q4(ho : OpR X (Bw op) r)(ha : PE X a ta)(hb : PE X b tb)(hm : D6 op b = Ad) : PE X (.Compare a [op] [b] pos) (tOp r ta tb) := by
 intro pI s σ H Q I h;exact wpAny_Compare1 (JG ha hb I h fun v u s2 x y H2 I2 rx ry q => ho pI s2 σ H2 x y v u Q I2 rx ry q) hm
noncomputable def LV(t : TE) : TT := fun σ H Q => t σ H fun x H' => ∃ k, x = .bl k /\ Q k H'
theorem QW(ho : OpR X (Bw op) r)(ha : PE X a ta)(hb : PE X b tb)(hm : D6 op b = Ad) : PT X (.Compare a [op] [b] pos) (LV (tOp r ta tb)) := by
 intro pI s σ H Q I h;refine wpAny_isTrue_Compare1 (thn (ha pI s σ H _ I h) fun v s1 ⟨x, H1, I1, r1, q1⟩ => thn (hb pI s1 σ H1 _ I1 q1) fun u s2 ⟨y, H2, I2, r2, q2⟩=>
  thn (ho pI s2 σ H2 x y v u _ I2 r1 r2 q2) fun c s3 ⟨z, H3, I3, r3, k, e, q3⟩ => ?_) hm
 subst e;cases r3;exact Bx ⟨H3, I3, q3⟩
noncomputable def Lv(r r' : R2)(ta tb tc : TE) : TE := fun σ H Q => ta σ H fun x H1 => tb σ H1 fun y H2 => r x y H2 fun z H3 => ∃ k, z = .bl k /\
 (if k = Ac then tc σ H3 fun w' H4 => r' y w' H4 Q else Q (.bl Ad) H3)
theorem O2(ho : OpR X (Bw op) r)(ho' : OpR X (Bw op') r')(ha : PE X a ta)(hb : PE X b tb)(hc : PE X c tc)(hm : Fo [op, op'] [b, c] = Ad := by with_unfolding_all rfl) : PE X (.Compare a [op, op'] [b, c] pos) (Lv r r' ta tb tc) := by
 intro pI s σ H Q I h;refine Compare_chain (thn (ha pI s σ H _ I h) fun v s1 ⟨x, H1, I1, r1, q1⟩ => chain_link (thn (hb pI s1 σ H1 _ I1 q1) fun u s2 ⟨y, H2, I2, r2, q2⟩=>
  thn (ho pI s2 σ H2 x y v u _ I2 r1 r2 q2) fun d s3 ⟨z, H3, I3, r3, k, e, q3⟩ => ?_)) hm
 subst e;cases r3;refine Bx ?_;cases k with
 |false => exact ite_ff ⟨.bl Ad, H3, I3, rfl, q3⟩
 |true => exact ite_tt (chain_last (thn (hc pI s3 σ H3 _ I3 q3) fun w' s4 ⟨z', H4, I4, r4, q4⟩ => ho' pI s4 σ H4 y z' u w' Q I4 r2 r4 q4))
theorem PC(ho : OpR X (Bw op) r)(ho' : OpR X (Bw op') r')(ha : PE X a ta)(hb : PE X b tb)(hc : PE X c tc)(hm : Fo [op, op'] [b, c] = Ad := by with_unfolding_all rfl) : PT X (.Compare a [op, op'] [b, c] pos) (LV (Lv r r' ta tb tc)) := by
 intro pI s σ H Q I h;refine isTrue_chain (thn (ha pI s σ H _ I h) fun v s1 ⟨x, H1, I1, r1, q1⟩ => test_link (thn (hb pI s1 σ H1 _ I1 q1) fun u s2 ⟨y, H2, I2, r2, q2⟩=>
  thn (ho pI s2 σ H2 x y v u _ I2 r1 r2 q2) fun d s3 ⟨z, H3, I3, r3, k, e, q3⟩ => ?_)) hm
 subst e;cases r3;refine Bx ?_;cases k with
 |false=>
  obtain⟨k', e', q'⟩ := q3;cases e';exact ite_ff ⟨H3, I3, q'⟩
 |true=>
  refine ite_tt (test_last (thn (hc pI s3 σ H3 _ I3 q3) fun w' s4 ⟨z', H4, I4, r4, q4⟩ => thn (ho' pI s4 σ H4 y z' u w' _ I4 r2 r4 q4) fun d' s5 ⟨z2, H5, I5, r5, k2, e2, q5⟩ => ?_))
  subst e2;cases r5;exact Bx ⟨H5, I5, q5⟩
noncomputable def ML(K : Fg)(x : V)(H : Hp)(k : An) : Prop:=
  match x with
  |.non => k = Ad
  |.bl b => k = b
  |.int i => k = (i != 0)
  |.str y => y.length <= sizeLine /\ k = ((y.length : Ae) != 0)
  |.byt y => y.size <= sizeLine /\ k = ((y.size : Ae) != 0)
  |.ref p => (∃ xs, SqL K H p xs /\ k = !xs.isEmpty) \/ (∃ xs, SqT K H p xs /\ k = !xs.isEmpty) \/ ∃ kvs, H p = Aa (.dK kvs) /\ k = !kvs.isEmpty
  |_ => AW
theorem Ot{κ:Type}{kvs : Ab (κ × V)}{vs : Ab (κ × Ah)}(r : KV kvs vs) : (!vs.isEmpty) = !kvs.isEmpty := by
 cases r <;> rfl
theorem J8{its:Ab Ah}(r : AN xs its) : (!its.toArray.isEmpty) = !xs.isEmpty := by
 cases r <;> simp
theorem Gj : (sizeLine : Ag)<2 ^ 63 := by rw[Dm];decide
theorem Rs : VV X (fun x H Q => ∃ k, ML X.K x H k /\ Q k H) := by
 intro pI s σ H x v Q I rx h;obtain⟨k, e, q⟩ := h;have hl := Gj;have hs : sizeLine = 16777216 := Dm;cases x with
 |non=>
  cases rx;have e' : k = Ad := e;subst e';exact truthy_none ⟨H, I, q⟩
 |bl b=>
  cases rx;have e' : k = b := e;subst e';exact Bx ⟨H, I, q⟩
 |int i=>
  obtain⟨t, rfl⟩ := rx;have e' : k = (i != 0) := e;subst e';exact PySem.P.truthy_int ⟨H, I, q⟩
 |str y=>
  obtain⟨t, rfl⟩ := rx;obtain⟨hy, e'⟩ : y.length <= sizeLine /\ k = ((y.length : Ae) != 0) := e;subst e';exact PySem.P.truthy_str (by omega) ⟨H, I.tok _, q⟩
 |byt y=>
  obtain⟨t, rfl⟩ := rx;obtain⟨hy, e'⟩ : y.size <= sizeLine /\ k = ((y.size : Ae) != 0) := e;subst e';exact PySem.W.truthy_bytes (by omega) ⟨H, I.tok _, q⟩
 |ref p=>
  cases rx;have e' : (∃ xs, SqL X.K H p xs /\ k = !xs.isEmpty) \/ (∃ xs, SqT X.K H p xs /\ k = !xs.isEmpty) \/ ∃ kvs, H p = Aa (.dK kvs) /\ k = !kvs.isEmpty := e;rcases e' with ⟨xs, hx, e'⟩|⟨xs, hx, e'⟩|⟨kvs, hx, e'⟩
  ·subst e';obtain⟨its, r, pl, hz⟩ := I.list hx;have hlen := r.length;exact wpAny_truthy_list pl.isList (by simp only[AA];omega) ⟨H, I.tok _, by rw[J8 r];exact q⟩
  ·subst e';obtain⟨its, r, pl, hz⟩ := I.tuple hx;have hlen := r.length;exact truthy_tuple pl (by simp only[AA];omega) ⟨H, I.tok _, by rw[J8 r];exact q⟩
  ·subst e';obtain⟨hz, hS, vs, r, m⟩ : kvs.length <= sizeLine /\ (p==E4) = Ad /\ ∃ vs, KV kvs vs /\ s.heap.DictOf (IM X.prog X.w) p vs := I.hok p _ hx;have hlen : kvs.length = vs.length := NK r;exact wpAny_truthy_dict hS m (by omega) ⟨H, I.tok _, by rw[Ot r];exact q⟩
 |_ => exact(show AW from e).elim
theorem PB(ha : PE X a ta)(he : ∀ whole, EU a X.env whole = (do let v <-whole;FE a.pos;holding [v] (truthy v))):PT X a (fun σ H Q =>ta σ H fun x H' =>∃ k,ML X.K x H' k/\Q k H') := by
 intro pI s σ H Q I h;exact isTrue_plain (thn (ha pI s σ H _ I h) fun v s1 ⟨x, H1, I1, r1, q1⟩ => Rs pI s1 σ H1 x v Q I1 r1 q1) (he _)
theorem Op : OpR X (Bg .Add) (fun x y H Q => ∃ i j, x = .str i /\ y = .str j /\ i.length+j.length <= sizeLine /\ Q (.str (i++j)) H) := by
 intro pI s σ H x y v u Q I rx ry h;obtain⟨i, j, rfl, rfl, hz, q⟩ := h;obtain⟨t, rfl⟩ := rx;obtain⟨t', rfl⟩ := ry;exact add_str (fun t' tk => ⟨.str (i++j), H, I.tok _, ⟨_, rfl⟩, q⟩) hz
theorem Go{x:V}(r : AN [x] us) : ∃ u, us = [u] /\ A6 x u := by
 cases r with
 |cons r1 r2 => cases r2;exact⟨_, rfl, r1⟩
theorem Jl{x:V}(r : AN [x, y] us) : ∃ u w', us = [u, w'] /\ A6 x u /\ A6 y w' := by
 cases r with
 |cons r1 r2=>
  cases r2 with
  |cons r3 r4 => cases r4;exact⟨_, _, rfl, r1, r3⟩
theorem OL(hc : X.calm = Ac) : EB X (.builtin "max") (fun xs H Q => ∃ i j, xs = [.int i, .int j] /\ Q (.int (if j > i then j else i)) H) := by
 intro pI s σ H xs us Q I r h;obtain⟨i, j, rfl, q⟩ := h;obtain⟨u, w', rfl, ⟨t, rfl⟩, ⟨t', rfl⟩⟩ := Jl r;refine max_two_ints (I.ok.hd hc) fun h' tk k => ⟨_, H, I.kept k, ?_, q⟩
 by_cases hj : j > i
 ·rw[AE hj, AE hj];exact⟨_, rfl⟩
 ·rw[AJ hj, AJ hj];exact⟨_, rfl⟩
theorem OK(hc : X.calm = Ac) : EB X (.builtin "min") (fun xs H Q => ∃ i j, xs = [.int i, .int j] /\ Q (.int (if j<i then j else i)) H) := by
 intro pI s σ H xs us Q I r h;obtain⟨i, j, rfl, q⟩ := h;obtain⟨u, w', rfl, ⟨t, rfl⟩, ⟨t', rfl⟩⟩ := Jl r;refine min_two_ints (I.ok.hd hc) fun h' tk k => ⟨_, H, I.kept k, ?_, q⟩
 by_cases hj : j<i
 ·rw[AE hj, AE hj];exact⟨_, rfl⟩
 ·rw[AJ hj, AJ hj];exact⟨_, rfl⟩
end
section
variable{prog : Az}{w : AF}{A : AI}{E : Ah -> Ak -> Prop}{s : Ak}{K : Fg}{x dx C f : Ai}{mA : Aj -> Al Ah}{name : Aj}{v : Ah}
end
section
variable{P : Az}{w : AF}{H H' : Hp}{h h' : AB}{a C dx : Ai}{fs fs' : Ab (Aj × V)}
end
section
variable{X : Cx}{pI : Ab (Ai × Ay)}{σ : St}{H : Hp}{s : Ak}{a C dx : Ai}{fs : Ab (Aj × V)}{f : Aj}{v : V}{A : AI}{E : Ah -> Ak -> Prop}
end
section
variable{X : Cx}{o e value : Ao}{f : Aj}{pos pos' tpos : AH}{ta tv : TE}
end
section
variable{X : Cx}{pI : Ab (Ai × Ay)}{σ : St}{H : Hp}{s : Ak}{A : AI}{E : Ah -> Ak -> Prop}{Q : Ah -> Ak -> Prop}{c : Ah}{b : An}
end
structure Room (k : Ag) (A : AI) : Prop where
 hd : A.handled = Af
 dp : A.depth+3*k+5<NY
 un : A.units+16*k+200<Bl
 gd : A.guards = Aa []
theorem Room.mono{A : AI}(r : Room k A)(h : j <= k) : Room j A := ⟨r.hd, by have := r.dp;omega, by have := r.un;omega, r.gd⟩
theorem Room.deeper{A : AI}(r : Room (k+1) A)(env : BD) : Room k (A.deeper env):=
 ⟨r.hd, by have := r.dp;show A.depth+1+3*k+5<_;omega, by have := r.un;show A.units+3+16*k+200<_;omega, r.gd⟩
theorem Room.depth{A : AI}(r : Room k A) : A.depth<NY := by have := r.dp;omega
theorem Room.units{A : AI}(r : Room k A) : A.units+64<Bl := by have := r.un;omega
noncomputable def VI : TA := fun _ H Q => Q [] H
noncomputable def Uj(ta : TE)(tr : TA) : TA := fun σ H Q => ta σ H fun x H1 => tr σ H1 fun xs H2 => Q (x::xs) H2
section
variable{X : Cx}{e : Ao}{es : Ab Ao}{te : TE}{t : TA}{pos : AH}
theorem GW : PA X [] VI := fun _ _ _ _ H Q I h => Calls.spliced_nil ⟨[], H, I, .nil, h⟩
theorem FM(ha : PE X e te)(hr : PA X es t)(hs : AC (e::es) X.env = (Ad, eval e X.env)::AC es X.env := by rfl) : PA X (e::es) (Uj te t) := by
 intro pos pI s σ H Q I h;rw[hs];show AD _ _ (spliced ((Ad, eval e X.env)::Ck pos (AC es X.env))) _ _ s;refine Calls.spliced_cons (thn (ha pI s σ H _ I h) fun u s1 ⟨x, H1, I1, r1, q1⟩ => ?_)
 exact thn (hr pos pI s1 σ H1 _ I1 q1) fun us s2 ⟨xs, H2, I2, r2, q2⟩ => ⟨x::xs, H2, I2, .cons r1 r2, q2⟩
noncomputable def VR(t : TA) : TE := fun σ H Q => t σ H fun xs H1 => xs.length <= sizeLine /\ ∀ p, H1 p = Af -> Q (.ref p) (upd H1 p (.tup xs))
noncomputable def VJ(t : TA) : TE := fun σ H Q => t σ H fun xs H1 => xs.length <= sizeLine /\ ∀ p, H1 p = Af -> Q (.ref p) (upd H1 p (.lst xs))
theorem Sb{x1}(h : PA X es t) : PE X (.Tuple es x1 pos) (VR t) := by
 intro pI s σ H Q I hq;refine wpAny_Tuple_spliced (thn (h pos pI s σ H _ I hq) fun us s1 ⟨xs, H1, I1, r, z, q⟩ => ⟨by rw[<-r.length];exact z, ?_⟩)
 have hf : H1 s1.heap.objs.size = Af := I1.hok.fresh (AG _);refine⟨.ref s1.heap.objs.size, upd H1 s1.heap.objs.size (.tup xs), I1.laid (t' := s1.toks) (fun b u e => Ax _ e) (AG _) ?_, rfl, q _ hf⟩
 exact⟨z, us, r, ⟨_, A9 _ rfl, rfl, _, rfl⟩⟩
theorem Sg(h : PA X es t) : PE X (.List es pos) (VJ t) := by
 intro pI s σ H Q I hq;refine wpAny_List_spliced (thn (h pos pI s σ H _ I hq) fun us s1 ⟨xs, H1, I1, r, z, q⟩ => ⟨by rw[<-r.length];exact z, ?_⟩)
 have hf : H1 s1.heap.objs.size = Af := I1.hok.fresh (AG _);refine⟨.ref s1.heap.objs.size, upd H1 s1.heap.objs.size (.lst xs), I1.laid (t' := s1.toks) (fun b u e => Ax _ e) (AG _) ?_, rfl, q _ hf⟩
 exact⟨z, us, 0, r, A9 _ rfl⟩
end
noncomputable abbrev Sp := Ab V -> Hp -> VK -> XK -> Prop
variable{sp:Sp}
noncomputable abbrev CXT := Ab BD -> Hp -> Ak -> XK -> Ah -> Ak -> Prop
variable{CX:CXT}
structure Env0 (P : Az) (w : AF) (K : Fg) (mg : Aj -> Al Ah) (base : AB) (A : AI) (outer : Ab BD) (s : Ak) (H : Hp) : Prop where
 frames : A.frames = Aa outer
 mod : Mod K mg base
 bs : ∀ b o, base.get? b = Aa o -> s.heap.get? b = Aa o /\ H b = Af
 bsz : base.objs.size <= s.heap.objs.size
 funs : s.heap.FunFrames base outer
 frf : ∀ b ∈ frs outer, H b = Af
 hok : HOk P w H s.heap
 bare : Da s.gens
noncomputable def CE(outer : Ab BD)(P : Az)(w : AF)(H : Hp)(s : Ak)(Q : VK)(u : Ah)(s' : Ak) : Prop:=
 ∃ v H', s'.os = s.os /\ Da s'.gens /\ Un (frs outer) [] H H' s.heap s'.heap /\ HOk P w H' s'.heap /\ A6 v u /\ Q v H'
noncomputable def CR(CX : CXT)(outer : Ab BD)(P : Az)(w : AF)(H : Hp)(s : Ak)(Q : VK)(E : XK)(r : F1)(s' : Ak) : Prop:=
  match r with
  |.ok (.ret u) => CE outer P w H s Q u s'
  |.ok _ => AW
  |.error e => CX outer H s E e s'
structure FnOk (P : Az) (w : AF) (K : Fg) (mg : Aj -> Al Ah) (base : AB) (CX : CXT) (k : Ag) (f : Ai) (fd : Bp) (ps : Ab Aj) (sp : Sp) : Prop where
 len : ∀ vs H Q E, sp vs H Q E -> vs.length = ps.length
 run : ∀(A : AI)(outer : Ab BD)(s : Ak)(H : Hp)(args : Args)(us : Ab Ah)(vs : Ab V)(Q : VK)(E : XK), Room k A -> Env0 P w K mg base A outer s H -> Eh s fd args (ps.zip us) -> AN vs us -> sp vs H Q E ->
  DU (model P w) A (.call (.ref f) args) (CR CX outer P w H s Q E) s
theorem FnOk.imp{w : AF}{K : Fg}{mg : Aj -> Al Ah}{base : AB}{f:Ai}{sp':Sp}(F : FnOk P w K mg base CX k f fd ps sp)(h : ∀ vs H Q E, sp' vs H Q E -> sp vs H Q E) : FnOk P w K mg base CX k f fd ps sp':=
 ⟨fun vs H Q E q => F.len vs H Q E (h _ _ _ _ q), fun A outer s H args us vs Q E hr he hb hv hs => F.run A outer s H args us vs Q E hr he hb hv (h _ _ _ _ hs)⟩
section
variable{X : Cx}{pI : Ab (Ai × Ay)}{σ : St}{H : Hp}{s s' : Ak}
theorem Inv.env0(I : Inv X pI σ H s) : Env0 X.prog X.w X.K X.mg X.base X.A X.stack s H:=
 ⟨I.ok.frames, I.ok.mod, I.bs, BH I.ok.bsz I.sz, I.stack, I.stkFree, I.hok, I.bare⟩
theorem Inv.after{Q:VK}(I : Inv X pI σ H s)(h : CE X.stack X.prog X.w H s Q u s') : EP X pI σ Q u s' := by
 obtain⟨v, H', os, bare, un, hok, r, q⟩ := h;obtain⟨hh, g, d, t, os'⟩ := s';obtain rfl : os' = s.os := os;exact⟨v, H', I.call (h' := hh) (g' := g) (d' := d) (t' := t) (ch := []) un hok bare (fun b z => absurd z (by simp)), r, q⟩
end
noncomputable def Uk(sp : Sp)(dvs : Ab V)(E : XK)(t : TA) : TE := fun σ H Q => t σ H fun vs H1 => sp (vs++dvs) H1 Q E
noncomputable def EC(K : Fg)(fd : Bp)(ps : Ab Aj)(ds : Ab Ah) : Prop:=
 ∀(s : Ak)(us : Ab Ah), K.In s.heap -> (us++ds).length = ps.length -> Eh s fd ⟨us, []⟩ (ps.zip (us++ds))
theorem EC.all{K : Fg}(h : ∀ us : Ab Ah, us.length = ps.length -> GC fd ⟨us, []⟩ = pure (ps.zip us)) : EC K fd ps [] := fun s us _ hl => by
 rw[BZ]at hl ⊢;exact .of_eq (h us hl)
noncomputable def Gg(CX : CXT)(X : Cx)(E : XK) : Prop := ∀(pI : Ab (Ai × Ay))(σ : St)(H : Hp)(s : Ak)(e : Ah)(s' : Ak), Inv X pI σ H s -> CX X.stack H s E e s' -> X.xe e s'
section
variable{X : Cx}{CX : CXT}{k : Ag}{f C : Ai}{fd : Bp}{ps : Ab Aj}{sp : Sp}{dvs : Ab V}{ds : Ab Ah}{E : XK}{x m : Aj}{p pos apos : AH}{e o : Ao}{es : Ab Ao}{ta : TE}{t : TA}
theorem SJ{Q:VK}(F : FnOk X.prog X.w X.K X.mg X.base CX k f fd ps sp)(hr : Room k X.A)(hb : EC X.K fd ps ds)(hd : AN dvs ds)(hx : Gg CX X E)(I : Inv X pI σ H s)(r : AN vs us)(h : sp (vs++dvs) H Q E) : AD (model X.prog X.w) X.A (call (.ref f) us) (EP X pI σ Q) X.xe s := by
 have r2 : AN (vs++dvs) (us++ds) := r.append hd;have hl : (us++ds).length = ps.length := by rw[<-r2.length];exact F.len _ _ _ _ h
 refine wpAny_call (Fm (F.run X.A X.stack s H ⟨us, []⟩ (us++ds) (vs++dvs) Q E hr I.env0 (hb s us I.kIn hl) r2 h) fun r s' hq => ?_)
 cases r with
 |error e => exact hx pI σ H s e s' I hq
 |ok fl=>
  cases fl with
  |ret u => exact I.after hq
  |next => exact Cz hq
  |brk => exact Cz hq
  |cont => exact Cz hq
theorem Lo(F : FnOk X.prog X.w X.K X.mg X.base CX k f fd ps sp)(hr : Room k X.A)(hg : Gl X x)(hm : X.mg x = Aa (.ref f))(hk : B9 X.K (.ref f) = Ac)(hb : EC X.K fd ps ds)(hd : AN dvs ds)(hx : Gg CX X E)(ha : PA X (e::es) t)(hdb : (x==("__debug__" : Aj)) = Ad := by decide)(he : AC (e::es) X.env = (Ad, eval e X.env)::AC es X.env := by rfl)(hpl : (Ck pos (AC es X.env)).any (·.1) = Ad := by rfl):PE X (.Call (.Name x p) (e::es) [] pos) (Uk sp dvs E t) := by
 intro pI s σ H Q I h;refine D2 (QG I hg hm ?_ hdb);refine PySem.W.callWith_K (h₀ := X.base) I.ok.mod.kin hk (thn (ha pos pI s σ H _ I h) fun us s1 ⟨vs, H1, I1, r, q⟩ => ⟨I1.kIn, ?_⟩) he hpl
 exact SJ F hr hb hd hx I1 r q
end
section
variable{X : Cx}{CX : CXT}{k : Ag}{f C : Ai}{fd : Bp}{ps ks : Ab Aj}{sp : Sp}{E : XK}{x m : Aj}{p pos apos kpos : AH}{e o : Ao}{es : Ab Ao}{kws : Ab Keyword}{te ta : TE}{t tk : TA}{nm : Al Aj}
variable{g : Ab Ah -> Ab Ah -> Ab Ah}{gV : Ab V -> Ab V -> Ab V}
end
structure FnScope (N P : Ab Aj) (sc : Br) : Prop where
 kind : sc.kind = .function
 co : sc.isCoroutine = Ad
 gen : sc.isGenerator = Ad
 nd : N.Nodup
 pre : N.take P.length = P
 par : ∀ x ∈ P, sc.names.lookup x = Aa .local \/ sc.names.lookup x = Aa .cell
 nofree : ∀ y ∈ sc.names, y.2 ≠ .free
theorem Ku{kindOf : Aj -> Al Cq}{x : Aj} : ∀{binds : Ab (Aj × Ah)}{m : Aj -> Al Ah}, (∀ v, (x, v) ∉ binds) -> E1 kindOf binds m x = m x
 |[], _, _ => rfl
 |(n, v)::r, m, h => by
  unfold E1;rw[Ku fun w hw => h w (Aq _ hw)]
  split
  ·have : x ≠ n := by rintro rfl;exact h v At
   simp[this]
  ·rfl
theorem Kw{kindOf : Aj -> Al Cq}{x : Aj} : ∀{binds : Ab (Aj × Ah)}{m : Aj -> Al Ah}, (∀ v, (x, v) ∉ binds) -> E0 kindOf binds m x = m x
 |[], _, _ => rfl
 |(n, v)::r, m, h => by
  unfold E0;rw[Kw fun w hw => h w (Aq _ hw)]
  split
  ·rfl
  ·have : x ≠ n := by rintro rfl;exact h v At
   simp[this]
theorem Kv{kindOf : Aj -> Al Cq}{x : Aj}{v : Ah} :∀{P :Ab Aj}{vs :Ab Ah}{i :Ag}{m :Aj->Al Ah},P.Nodup->P[i]? = Aa x->vs[i]? = Aa v->kindOf x = Aa .local->E1 kindOf (P.zip vs) m x = Aa v
 |[], _, _, _, _, h, _, _ => by simp at h
 |_::_, [], _, _, _, _, h, _ => by simp at h
 |p::P, w::vs, 0, m, nd, h1, h2, hk => by
  simp at h1 h2;subst h1;subst h2;show E1 kindOf ((p, w)::P.zip vs) m p = _;unfold E1;rw[Ku fun v hv => (DD.mp nd).1 (EG hv).1, AE hk]
  simp
 |p::P, w::vs, i+1, m, nd, h1, h2, hk => by
  show E1 kindOf ((p, w)::P.zip vs) m x = _;unfold E1;exact Kv (i := i) (DD.mp nd).2 (by simpa using h1) (by simpa using h2) hk
theorem Kx{kindOf : Aj -> Al Cq}{x : Aj}{v : Ah} :∀{P :Ab Aj}{vs :Ab Ah}{i :Ag}{m :Aj->Al Ah},P.Nodup->P[i]? = Aa x->vs[i]? = Aa v->kindOf x ≠ Aa .local->E0 kindOf (P.zip vs) m x = Aa v
 |[], _, _, _, _, h, _, _ => by simp at h
 |_::_, [], _, _, _, _, h, _ => by simp at h
 |p::P, w::vs, 0, m, nd, h1, h2, hk => by
  simp at h1 h2;subst h1;subst h2;show E0 kindOf ((p, w)::P.zip vs) m p = _;unfold E0;rw[Kw fun v hv => (DD.mp nd).1 (EG hv).1, AJ hk]
  simp
 |p::P, w::vs, i+1, m, nd, h1, h2, hk => by
  show E0 kindOf ((p, w)::P.zip vs) m x = _;unfold E0;exact Kx (i := i) (DD.mp nd).2 (by simpa using h1) (by simpa using h2) hk
noncomputable def start(N : Ab Aj)(vs : Ab V) : St := vs.map Aa++DS (N.length-vs.length) Af
noncomputable def DX(CX : CXT)(P : Az)(w : AF)(K : Fg)(mg : Aj -> Al Ah)(base : AB)(N : Ab Aj)(qual : Aj)(scope : Br)(f : Ai)(cd : Ah)(A : AI)(outer : Ab BD)(s : Ak)(H : Hp)(E : XK) : Cx where
 prog := P
 w := w
 K := K
 mg := mg
 base := base
 A := A.deeper (CT qual scope s.heap.objs.size f cd)
 N := N
 s₀ := s
 H₀ := H
 env := CT qual scope s.heap.objs.size f cd
 outer := outer
 stack := CT qual scope s.heap.objs.size f cd::outer
 ex := []
 calm := Ac
 fn := fun _ => Ac
 pn := []
 xe := fun e s' => AD (model P w) (A.deeper (CT qual scope s.heap.objs.size f cd)) (leaving (CT qual scope s.heap.objs.size f cd) e) (fun _ s'' => CX outer H s E e s'') (fun e' s'' => CX outer H s E e' s'') s'
theorem KQ{sc:Br}(h : sc.names.lookup x = Aa .cell) : ∃ c, (BX n sc.names []).lookup x = Aa c := by
 have q := NT sc.names n [] (.inl h);exact Option.isSome_iff_exists.mp q
theorem OF{w : AF}{K : Fg}{mg : Aj -> Al Ah}{base : AB}{N ps : Ab Aj}{f:Ai}{cd:Ah}{A : AI}{outer : Ab BD}{s1:Ak}{E : XK}(S : FnScope N ps scope)(hd : A.handled = Af)(e0 : Env0 P w K mg base A outer s H)(hl : vs.length = ps.length)(r : AN vs us)(x : InCallC s s.heap.objs.size (E1 (CT qual scope s.heap.objs.size f cd).kindOf (ps.zip us) fun _ => Af) (BX (s.heap.objs.size+1) scope.names []) (E0 (CT qual scope s.heap.objs.size f cd).kindOf (ps.zip us) fun _ => Af) s1):Inv (DX CX P w K mg base N qual scope f cd A outer s H E) [] (start N vs) H s1 := by
 have hpl : ps.length <= N.length := by have := congrArg Nf S.pre;rw[En]at this;omega
 obtain⟨h1, tk, rfl, hk⟩ := x.done;have noA : ∀ b : Ai, b ∉ (DX CX P w K mg base N qual scope f cd A outer s H E).ex := fun b z => absurd (show b ∈ ([] : Ab Ai) from z) (by simp)
 refine⟨⟨e0.mod, S.kind, rfl, rfl, AG _, fun y z c h1 h2 => ?_, fun y hy => ?_, fun y c _ h => ?_, fun _ => hd, Around.frames_deeper e0.frames, .inr ⟨rfl, rfl⟩, fun b z => absurd z (noA b), e0.bs, e0.bsz, fun b _ _ => noA b, fun b z => absurd z (noA b), e0.funs, e0.frf⟩,
  rfl, e0.bare, Un.kept hk, ⟨_, x.toInCall.ns, fun i y v h1 h2 h3 => ?_⟩, fun y c h => ⟨_, x.cell y c h⟩, e0.hok.fresh (AG _), fun y c h => ?_, fun p hp => absurd (show p ∈ ([] : Ab (Ai × Ay)) from hp) (by simp), e0.hok.kept hk, ?_⟩
 ·exact name_of_addr x.apart (By h1) (By h2)
 ·have hy : scope.names.lookup y = Aa .cell \/ scope.names.lookup y = Aa .free := hy;rcases hy with hy|hy
  ·exact KQ hy
  ·exact absurd rfl (S.nofree _ (By hy))
 ·exact DF (x.above y c (By h))
 ·have hi : i<vs.length := by
   unfold start at h2;by_cases hi : i<vs.length
   ·exact hi
   ·rw[Nc (by simpa using hi)]at h2
    rw[Nd]at h2;split at h2 <;> cases h2
  have ha : vs[i]? = Aa v := by
   unfold start at h2;rw[C3 (by simpa using hi), Dd]at h2
   cases e : vs[i]? with
   |none => rw[e]at h2;cases h2
   |some a => rw[e]at h2;cases h2;rfl
  obtain⟨u, hu, rv⟩ := r.get ha;have hp : ps[i]? = Aa y := by
   rw[<-S.pre, List.getElem?_take_of_lt (by omega)];exact h1
  have ndP : ps.Nodup := by rw[<-S.pre];exact S.nd.sublist (List.take_sublist _ _)
  refine⟨u, rv, ?_⟩;rcases S.par y (Nm hp) with k|k
  ·exact .inl ⟨k, Kv ndP hp hu k⟩
  ·obtain⟨c, e⟩ := KQ (n := s.heap.objs.size+1) k;refine .inr ⟨.inl k, c, e, ?_⟩;have q := x.cell y c e;rw[Kx ndP hp hu (by show scope.names.lookup y ≠ _;rw[k];decide)]at q
   exact q
 ·exact e0.hok.fresh (DF (x.above y c (By h)))
 ·unfold start;show _ = N.length;rw[BW, B0, Nh];omega
theorem L7{w : AF}{K : Fg}{mg : Aj -> Al Ah}{base : AB}{f:Ai}{name:Aj}{params:Arguments}{dV kV doc pm cdv ct oc : Ah}{an od:Al Ai}{osl:A4 (Al Ah)}{N ps : Ab Aj}(lk : K.lookup f = Aa ⟨oc, od, .func (Cr name qual params body scope dV kV doc pm an cdv ct), osl⟩)(hcd : DT K cdv qual = Ac)(S : FnScope N ps scope)(len : ∀ vs H Q E, sp vs H Q E -> vs.length = ps.length)(hbody : ∀(A : AI)(outer : Ab BD)(s : Ak)(H : Hp)(vs : Ab V)(Q : VK)(E : XK), Room k (A.deeper (CT qual scope s.heap.objs.size f cdv)) -> sp vs H Q E ->
   ∃ t, PSs (DX CX P w K mg base N qual scope f cdv A outer s H E) body t /\ t {nx := fun _ H' => Q .non H', rt := Q} (start N vs) H):FnOk P w K mg base CX (k+1) f (Cr name qual params body scope dV kV doc pm an cdv ct) ps sp := by
 refine⟨len, fun A outer s H args us vs Q E hr e0 hb r hsp => ?_⟩
 have hl := len _ _ _ _ hsp;have KX : K.In s.heap := e0.mod.kin.keeps fun b o e => (e0.bs b o e).1
 have lim : s.heap.NoLimit := e0.mod.nolimit.keeps fun b o e => (e0.bs b o e).1
 have hkind : ∀ y ∈ ps.zip us, scope.names.lookup y.1 = Aa .local \/ (scope.names.lookup y.1 = Aa .cell /\ ((BX (s.heap.objs.size+1) scope.names []).lookup y.1).isSome = Ac) := fun ⟨n, v⟩ hy => by
  rcases S.par n (EG hy).1 with q|q
  ·exact .inl q
  ·exact .inr ⟨q, NT _ _ _ (.inl q)⟩
 refine codeAny_call_function hr.depth (KX _ _ lk) rfl S.co S.gen rfl (PySem.W.codeRec_of KX hcd) (hb _ _ _ _ ?_);refine wpAny_newFunctionEnv_cells S.kind hkind fun env he s1 x => ?_
 subst he;refine⟨lim.keeps x.toInCall.keep, codeAny_func ?_⟩;obtain⟨t, ht, hq⟩ := hbody A outer s H vs Q E (hr.deeper _) hsp;have I : Inv (DX CX P w K mg base N qual scope f cdv A outer s H E) [] (start N vs) H s1 := OF S hr.hd e0 hl r x;refine Bu (ht [] s1 (start N vs) H _ I hq) (fun fl s' hs => ?_) fun e s' hs => hs
 have fin : ∀{σ' : St}{H' : Hp}{v : V}{u : Ah}, Inv (DX CX P w K mg base N qual scope f cdv A outer s H E) [] σ' H' s' -> A6 v u -> Q v H' -> CE outer P w H s Q u s':=
  fun {σ' H' v u} J rv q => ⟨v, H', J.os, J.bare, J.base, J.hok, rv, q⟩
 cases fl with
 |ret u=>
  obtain⟨v, σ', H', J, rv, q⟩ := hs;exact fin J rv q
 |next=>
  obtain⟨σ', H', J, q⟩ := hs;exact fin (v := V.non) (u := CC) J rfl q
 |brk=>
  obtain⟨_, _, _, q⟩ := hs;exact Cz q
 |cont=>
  obtain⟨_, _, _, q⟩ := hs;exact Cz q
section
variable{X : Cx}{x : Aj}{p pos : AH}{e : Ao}{es : Ab Ao}{t : TA}{id T : Cc}{r : Ab V -> Hp -> VK -> Prop}
noncomputable def tCB(r : Ab V -> Hp -> VK -> Prop)(t : TA) : TE := fun σ H Q => t σ H fun vs H1 => r vs H1 Q
theorem K0(hc : EB X (.builtin id) r)(hg : Gl X x)(hm : X.mg x = Af)(hv : BR x = Aa (.builtin id))(ha : PA X (e::es) t)(hn : x ≠ "__name__" := by decide)(hdb : (x==("__debug__" : Aj)) = Ad := by decide)(he : AC (e::es) X.env = (Ad, eval e X.env)::AC es X.env := by rfl)(hpl : (Ck pos (AC es X.env)).any (·.1) = Ad := by rfl) : PE X (.Call (.Name x p) (e::es) [] pos) (tCB r t) := by
 intro pI s σ H Q I h;refine D2 (GQ I hg hm hv ?_ hn hdb);exact PyProof.Rows.callWith_builtin1 (thn (ha pos pI s σ H _ I h) fun us s1 ⟨vs, H1, I1, r1, q1⟩ => hc pI s1 σ H1 vs us Q I1 r1 q1) he hpl
theorem KG(hc : EB X (.type T) r)(hg : Gl X x)(hm : X.mg x = Af)(hv : BR x = Aa (.type T))(ha : PA X (e::es) t)(hn : x ≠ "__name__" := by decide)(hdb : (x==("__debug__" : Aj)) = Ad := by decide)(he : AC (e::es) X.env = (Ad, eval e X.env)::AC es X.env := by rfl)(hpl : (Ck pos (AC es X.env)).any (·.1) = Ad := by rfl) : PE X (.Call (.Name x p) (e::es) [] pos) (tCB r t) := by
 intro pI s σ H Q I h;refine D2 (GQ I hg hm hv ?_ hn hdb);exact CN (thn (ha pos pI s σ H _ I h) fun us s1 ⟨vs, H1, I1, r1, q1⟩ => hc pI s1 σ H1 vs us Q I1 r1 q1) he hpl
end
end L2
namespace HT
open PySem PyProof.Rows
variable{t sl:Ai}{Q:Ah -> Ak -> Prop}{vl vu:Ah}{lo hi:Al Ae}
section
open PySem.SeqAt
open PySem.AutoSeq1 (wpAny_loadPart')
open PySem.MeetsSeq PySem.MeetsSeq2 PySem.MeetsSeq3
end
section
variable{prog : Az}{w : AF}{A : AI}{E : Ah -> Ak -> Prop}{s : Ak}
theorem cat_tup{b:Ai}{vs ws:Ab Ah}(ht : F0 s.heap t vs.toArray)(hb : F0 s.heap b ws.toArray)(hv : vs ≠ [])(h1 : ws = [] -> Q (.ref t) s)(h2 : ws ≠ [] -> Q (.ref s.heap.objs.size) { s with heap := s.heap.push { cls := .type "tuple", data := .seq (vs++ws).toArray } })(hsz : vs.length+ws.length <= sizeLine) : AD (model prog w) A (Bg .Add (.ref t) (.ref b)) Q E s := by
 obtain⟨⟨cls, dd, data, sl⟩, ho, hc, n, hd⟩ := id ht;obtain⟨⟨cls2, dd2, data2, sl2⟩, ho2, hc2, n2, hd2⟩ := id hb;simp only at hc hd hc2 hd2;subst hc hd hc2 hd2;have e : vs.toArray++ws.toArray = (vs++ws).toArray := by simp
 by_cases hw : ws = []
 ·exact Fn ⟨_, ho, rfl⟩ ⟨_, ho2, rfl⟩ NX seq_tuple_add NJ NI (NH _ _)
   (tuple_addW1 t b vs.toArray ws.toArray n n2 dd dd2 sl sl2 (by simpa using hv) (by simp[hw])) ⟨ho, ho2, h1 hw⟩
 ·refine Fn ⟨_, ho, rfl⟩ ⟨_, ho2, rfl⟩ NX seq_tuple_add NJ NI (NH _ _)
   (tuple_addW2 t b vs.toArray ws.toArray n n2 dd dd2 sl sl2 (by simpa using hv) (by simpa using hw) (by rw[AA, AA];exact hsz)) ⟨ho, ho2, ?_⟩
  rw[e];exact h2 hw
noncomputable def sIx(n d : Ag) : Al Ae -> Ag
 |none => d
 |some v => if v<0 then (v+(n : Ae)).toNat else min v.toNat n
theorem SG(n d : Ag)(hd : d <= n)(o : Al Ae) : sIx n d o <= n := by
 cases o with
 |none => exact hd
 |some v=>
  show (if v<0 then (v+(n : Ae)).toNat else min v.toNat n) <= n
  by_cases hv : v<0
  ·rw[AE hv];omega
  ·rw[AJ hv];exact Nat.min_le_right _ _
theorem Lh(v : Ae)(n d : Ag) : (if v<0 then max (v+(n : Ae)) 0 else min v (n : Ae)) = ((sIx n d (Aa v) : Ag) : Ae) := by
 show (if v<0 then max (v+(n : Ae)) 0 else min v (n : Ae)) = (((if v<0 then (v+(n : Ae)).toNat else min v.toNat n) : Ag) : Ae)
 by_cases hv : v<0
 ·simp only[AE hv];omega
 ·simp only[AJ hv];omega
theorem Oy(lo hi : Al Ae)(n : Ag) : C5 lo hi 1 (n : Ae) = (((sIx n 0 lo : Ag) : Ae), ((sIx n n hi : Ag) : Ae)) := by
 have h1 : ¬ ((1 : Ae)<0) := by omega
 unfold C5;simp only[h1, G7];refine CD ?_ ?_
 ·cases lo with
  |none => rfl
  |some v => exact Lh v n 0
 ·cases hi with
  |none => rfl
  |some v => exact Lh v n n
theorem Oo(i j : Ag) : Co (i : Ae) (j : Ae) 1 = j-i := by
 unfold Co;have h1 : (1 : Ae) > 0 := by omega
 simp only[h1, EY, Int.ediv_one];split <;> omega
theorem J4{v:Ah}{o:Al Ae}{Q:Al Ae -> Ak -> Prop}(p : Eo v o)(h : Q o s) : AD (model prog w) A (Builtin.Slice.slicePartIndex v) Q E s := by
 cases p with
 |none => exact Nz h
 |int i t => exact slicePart_int h
theorem N7{n:Ag}{Q:Ae × Ae × Ag -> Ak -> Prop}(hs : s.heap.IsSliceOf sl vl vu .none)(pl : Eo vl lo)(pu : Eo vu hi)(h : Q (((sIx n 0 lo : Ag) : Ae), 1, sIx n n hi-sIx n 0 lo) s) : AD (model prog w) A (ND (.ref sl) (pure (n : Ae))) Q E s := by
 obtain⟨os, hos, hcs, hds⟩ := id hs;unfold ND Builtin.Slice.sliceFields;refine As (As (CW hos hds (x := vl) rfl (As (CW hos hds (x := vu) rfl (As (CW hos hds (x := .none) rfl (AV ?_)))))));refine As (Nz ?_);show AD _ _ (if ((1 : Ae)==0) = Ac then _ else _) _ _ s
 rw[AJ (by decide)]
 refine As (J4 pl (As (J4 pu (As (AV ?_)))));show AD _ _ (match C5 lo hi 1 (n : Ae) with|(lo, hi) => pure (lo, (1 : Ae), Co lo hi 1)) _ _ s
 rw[Oy lo hi n];show AD _ _ (pure (((sIx n 0 lo : Ag) : Ae), (1 : Ae), Co ((sIx n 0 lo : Ag) : Ae) ((sIx n n hi : Ag) : Ae) 1)) _ _ s;rw[Oo];exact AV h
theorem PF(xs : A4 Ah)(i k : Ag) : ((B1 k).filterMap fun(m : Ag) => xs[((i : Ae)+(m : Ae)*1).toNat]?).toArray = ((xs.toList.drop i).take k).toArray := by
 have e : (fun(m : Ag) => xs[((i : Ae)+(m : Ae)*1).toNat]?) = fun m => xs[i+m]? := by
  funext m
  have : ((i : Ae)+(m : Ae)*1).toNat = i+m := by omega
  rw[this]
 rw[e];have := pick_run xs i k;rw[List.filterMap_map]at this;have e2 : ((fun x => xs[x]?) ∘ fun x => i+x) = fun m => xs[i+m]? := rfl
 rw[e2]at this;rw[this]
theorem getItem_tuple_cut{items:A4 Ah}(ht : F0 s.heap t items)(hs : s.heap.IsSliceOf sl vl vu .none)(pl : Eo vl lo)(pu : Eo vu hi)(hw : ¬ (sIx items.size 0 lo = 0 /\ sIx items.size items.size hi = items.size))(h : Q (.ref s.heap.objs.size) { s with heap := s.heap.push { cls := .type "tuple", data := .seq ((items.toList.drop (sIx items.size 0 lo)).take (sIx items.size items.size hi-sIx items.size 0 lo)).toArray } })(hsz : items.size <= sizeLine) : AD (model prog w) A (FD (.ref t) (.ref sl)) Q E s := by
 have htake : sizeOk (.seq ((items.toList.drop (sIx items.size 0 lo)).take (sIx items.size items.size hi-sIx items.size 0 lo)).toArray) := by
  show ((items.toList.drop (sIx items.size 0 lo)).take (sIx items.size items.size hi-sIx items.size 0 lo)).toArray.size <= sizeLine;rw[AA, En, Ng, DP];omega
 have hj : sIx items.size items.size hi <= items.size := SG _ _ (AG _) hi;obtain⟨os, hos, hcs, hds⟩ := id hs;have hTs : s.TypeIs (.ref sl) "slice" := ⟨os, hos, hcs⟩;unfold FD
 try with_reducible refine D7 ?_
 first|refine As (AV ?_)|skip
 refine As (wpAny_sequenceKey ht.typeIs (by decide) ?_)
 refine As (wpAny_callSpecial?_slot (name := DJ "__getitem__") ht.typeIs NA
  (wpAny_call_entry NA ht.typeIs entry_tuple_getitem ?_ (args_tuple_getitem _ _)))
 show AD _ _ (Builtin.Tuple.tupleItemsOf (.ref t) >>= _) _ _ s;refine As (tupleItemsOf_ ht ?_);refine As (wpAny_typeOf hTs ?_);rw[AE (by decide)]
 refine As (N7 hs pl pu ?_);have hno : ¬ ((((sIx items.size 0 lo : Ag) : Ae)==0&&(1 : Ae)==1&&(sIx items.size items.size hi-sIx items.size 0 lo)==items.size) = Ac) := by
  intro q;rw[Am, Am]at q;have q1 : ((sIx items.size 0 lo : Ag) : Ae) = 0 := eq_of_beq q.1.1;have q2 : sIx items.size items.size hi-sIx items.size 0 lo = items.size := eq_of_beq q.2;exact hw ⟨by omega, by omega⟩
 show AD _ _ (if (((sIx items.size 0 lo : Ag) : Ae)==0&&(1 : Ae)==1&&(sIx items.size items.size hi-sIx items.size 0 lo)==items.size) = Ac then _ else _) _ _ s
 rw[AJ hno, PF]
 first
  |exact As (m := Cp _) (Cm (AV ⟨_, rfl, AV h⟩) htake)
  |exact As (m := Cp _) (Cm (As (AV (AV ⟨_, rfl, AV h⟩))) htake)
  |exact As (As (m := Cp _) (Cm (AV (AV ⟨_, rfl, AV h⟩)) htake))
  |exact As (As (m := Cp _) (Cm (AV ⟨_, rfl, AV h⟩) htake))
end
end HT
namespace L2
open PySem PySem.Spec PyProof.Rows
variable{xs:Ab V}{us its its':Ab Ah}{n t':Ag}{i:Ae}{pI:Ab (Ai × Ay)}{σ:St}{H:Hp}{s:Ak}{p:Ai}
noncomputable abbrev TO := St -> Hp -> (Al Ae -> Hp -> Prop) -> Prop
noncomputable def PO(X : Cx)(e : Al Ao)(t : TO) : Prop:=
 ∀(pI : Ab (Ai × Ay))(s : Ak)(σ : St)(H : Hp)(Q : Al Ae -> Hp -> Prop), Inv X pI σ H s -> t σ H Q ->
  AD (model X.prog X.w) X.A (evalPart e X.env) (fun u s' => ∃ o H', Inv X pI σ H' s' /\ Eo u o /\ Q o H') X.xe s
noncomputable def P5 : TO := fun _ H Q => Q Af H
noncomputable def Uf(t : TE) : TO := fun σ H Q => t σ H fun x H1 => ∃ i, x = .int i /\ Q (Aa i) H1
section
variable{X : Cx}{e : Ao}{te : TE}{lo hi : Al Ao}{tl th : TO}{pos p2 : AH}
theorem Q1 : PO X Af P5 := by
 intro pI s σ H Q I h;rw[evalPart_none];exact AV ⟨Af, H, I, .none, h⟩
theorem Q0(h : PE X e te) : PO X (Aa e) (Uf te) := by
 intro pI s σ H Q I hw;rw[evalPart_some];refine thn (h pI s σ H _ I hw) fun u s1 ⟨x, H1, I1, r1, q1⟩ => ?_
 obtain⟨i, rfl, q⟩ := q1;obtain⟨t, rfl⟩ := r1;exact⟨Aa i, H1, I1, .int i t, q⟩
noncomputable def SlR(X : Cx)(r : V -> Al Ae -> Al Ae -> Hp -> VK -> Prop) : Prop:=
 ∀(pI : Ab (Ai × Ay))(s : Ak)(σ : St)(H : Hp)(x : V)(v vl vu : Ah)(lo hi : Al Ae)(sl : Ai)(Q : VK), Inv X pI σ H s -> A6 x v -> s.heap.IsSliceOf sl vl vu .none -> Eo vl lo -> Eo vu hi -> r x lo hi H Q ->
  ∃ T id, typeLookup (.type T) "__getitem__" = pure (Aa (.builtin id)) /\ s.TypeIs v T /\ AD (model X.prog X.w) X.A (FD v (.ref sl)) (EP X pI σ Q) X.xe s
noncomputable def tSl(r : V -> Al Ae -> Al Ae -> Hp -> VK -> Prop)(te : TE)(tl th : TO) : TE := fun σ H Q => te σ H fun x H1 => tl σ H1 fun l H2 => th σ H2 fun u H3 => r x l u H3 Q
theorem O1{r:V -> Al Ae -> Al Ae -> Hp -> VK -> Prop}(hr : SlR X r)(he : PE X e te)(hl : PO X lo tl)(hu : PO X hi th) : PE X (.Subscript e (.Slice lo hi Af p2) pos) (tSl r te tl th) := by
 intro pI s σ H Q I h;refine Subscript_ (thn (he pI s σ H _ I h) fun v s1 ⟨x, H1, I1, r1, q1⟩ => ?_)
 refine wpAny_Slice (thn (hl pI s1 σ H1 _ I1 q1) fun vl s2 ⟨l, H2, I2, pl, q2⟩ => thn (hu pI s2 σ H2 _ I2 q2) fun vu s3 ⟨u, H3, I3, pu, q3⟩ => ?_)
 rw[evalPart_none];refine AV ?_;have I4 : Inv X pI σ H3 { s3 with heap := s3.heap.push { cls := .type "slice", data := .fields #[vl, vu, .none] } } := I3.kept (t' := s3.toks) fun b ob q => Ax _ q
 obtain⟨T, id, hT, ht, hg⟩ := hr pI { s3 with heap := s3.heap.push { cls := .type "slice", data := .fields #[vl, vu, .none] } } σ H3 x v vl vu l u s3.heap.objs.size Q I4 r1 (Heap.IsSliceOf.new ..) pl pu q3
 show AD (model X.prog X.w) X.A (subscriptTail e (.Slice lo hi Af p2) v (.ref s3.heap.objs.size)) (EP X pI σ Q) X.xe { s3 with heap := s3.heap.push { cls := .type "slice", data := .fields #[vl, vu, .none] } }
 exact tail_any (ops := [.ref s3.heap.objs.size, v]) ht hT hg (by with_unfolding_all rfl)
noncomputable def FB(xs : Ab V)(lo hi : Al Ae) : Ab V := (xs.drop (HT.sIx xs.length 0 lo)).take (HT.sIx xs.length xs.length hi-HT.sIx xs.length 0 lo)
theorem Kg(xs : Ab V)(lo hi : Al Ae) : (FB xs lo hi).length <= xs.length := by
 unfold FB;rw[En, Ng];omega
noncomputable def Ml(K : Fg) : V -> Al Ae -> Al Ae -> Hp -> VK -> Prop := fun x lo hi H Q => ∃ a xs, x = .ref a /\ SqT K H a xs /\
 ¬ (HT.sIx xs.length 0 lo = 0 /\ HT.sIx xs.length xs.length hi = xs.length) /\ ∀ p, H p = Af -> Q (.ref p) (upd H p (.tup (FB xs lo hi)))
theorem Rn : SlR X (Ml X.K) := by
 intro pI s σ H x v vl vu lo hi sl Q I rx hs pl pu h;obtain⟨a, xs, rfl, hx, hw, q⟩ := h;cases rx;obtain⟨its, r, ht, hz⟩ := I.tuple hx;have hlen : its.toArray.size = xs.length := by rw[AA];exact r.length.symm
 refine⟨"tuple", _, PyProof.Rows.slot_tuple_getitem.lookup, ht.typeIs, ?_⟩;refine HT.getItem_tuple_cut ht hs pl pu (by rw[hlen];exact hw) ?_ (by rw[hlen];exact hz)
 rw[hlen];refine⟨.ref s.heap.objs.size, _, I.laid (t' := s.toks) (o := .tup (FB xs lo hi)) (fun b ob q => Ax _ q) (AG _) ?_, rfl, q _ (I.hok.fresh (AG _))⟩
 exact⟨BH (Kg xs lo hi) hz, _, (r.drop (HT.sIx xs.length 0 lo)).take (HT.sIx xs.length xs.length hi-HT.sIx xs.length 0 lo), Gx _ _⟩
noncomputable def Vc(K : Fg) : R2 := fun x y H Q => ∃ a b xs ys, x = .ref a /\ y = .ref b /\ SqT K H a xs /\ SqT K H b ys /\ xs ≠ [] /\ xs.length+ys.length <= sizeLine /\
 (ys = [] -> Q (.ref a) H) /\ (ys ≠ [] -> ∀ p, H p = Af -> Q (.ref p) (upd H p (.tup (xs++ys))))
theorem AN.nil_iff(r : AN xs us) : us = [] ↔ xs = [] := by
 cases r with
 |nil => simp
 |cons _ _ => simp
theorem Qy : OpR X (Bg .Add) (Vc X.K) := by
 intro pI s σ H x y v u Q I rx ry h;obtain⟨a, b, xs, ys, rfl, rfl, ha, hb, hx, hz, q1, q2⟩ := h;cases rx;cases ry;obtain⟨its, r1, p1, _⟩ := I.tuple ha;obtain⟨its2, r2, p2, _⟩ := I.tuple hb;refine HT.cat_tup p1 p2 (fun z => hx (r1.nil_iff.mp z)) (fun z => ⟨.ref a, H, I, rfl, q1 (r2.nil_iff.mp z)⟩) (fun z => ?_) (by rw[<-r1.length, <-r2.length];exact hz)
 refine⟨.ref s.heap.objs.size, _, I.laid (t' := s.toks) (o := .tup (xs++ys)) (fun b ob q => Ax _ q) (AG _) ?_, rfl, q2 (fun w => z (r2.nil_iff.mpr w)) _ (I.hok.fresh (AG _))⟩
 exact⟨by rw[BW];exact hz, _, r1.append r2, Gx _ _⟩
end
noncomputable def ixN(n : Ag)(i : Ae) : Al Ag := if 0 <= i then (if i<n then Aa i.toNat else Af) else if -(n : Ae) <= i then Aa (i+n).toNat else Af
noncomputable def atI{α : Type}(xs : Ab α)(i : Ae) : Al α := (ixN xs.length i).bind fun j => xs[j]?
theorem K9{j:Ag}(h : ixN n i = Aa j) : seqIndex? i n = Aa j /\ j<n /\ -(n : Ae) <= i /\ i<n := by
 unfold ixN at h;by_cases h0 : 0 <= i
 ·rw[AE h0]at h;by_cases h1 : i<n
  ·rw[AE h1]at h;have e : i.toNat = j := BP h;exact⟨by rw[FI h0 h1, e], by omega, by omega, h1⟩
  ·rw[AJ h1]at h;cases h
 ·rw[AJ h0]at h;by_cases h1 : -(n : Ae) <= i
  ·rw[AE h1]at h;have e : (i+n).toNat = j := BP h;exact⟨by rw[Fq (by omega) h1, e], by omega, h1, by omega⟩
  ·rw[AJ h1]at h;cases h
theorem K7{α:Type}{xs : Ab α}{v : α}(h : atI xs i = Aa v) : ∃ j, seqIndex? i xs.length = Aa j /\ xs[j]? = Aa v /\ j<xs.length /\ -(xs.length : Ae) <= i /\ i<xs.length := by
 unfold atI at h;cases e : ixN xs.length i with
 |none => rw[e]at h;cases h
 |some j=>
  rw[e]at h;obtain⟨h1, h2, h3, h4⟩ := K9 e;exact⟨j, h1, h, h2, h3, h4⟩
noncomputable def IZ(b : Ao) : Prop := ∀ o i, subscripted b Ad o i = operate [o, i] (FD o i)
noncomputable def IxR(X : Cx)(r : R2) : Prop:=
 ∀(value slice : Ao)(pI : Ab (Ai × Ay))(s : Ak)(σ : St)(H : Hp)(x y : V)(v u : Ah)(Q : VK), Inv X pI σ H s -> A6 x v -> A6 y u -> r x y H Q ->
  subscripted slice Ad v u = operate [v, u] (FD v u) -> AD (model X.prog X.w) X.A (subscriptTail value slice v u) (EP X pI σ Q) X.xe s
noncomputable def MtR(X : Cx)(id : Cc)(r : V -> Ab V -> Hp -> VK -> Prop) : Prop:=
 ∀(pI : Ab (Ai × Ay))(s : Ak)(σ : St)(H : Hp)(x : V)(xs : Ab V)(v : Ah)(us : Ab Ah)(Q : VK), Inv X pI σ H s -> A6 x v -> AN xs us -> r x xs H Q ->
  AD (model X.prog X.w) X.A (call (.builtin id) (v::us)) (EP X pI σ Q) X.xe s
section
variable{X : Cx}{a b : Ao}{ta tb : TE}{pos : AH}
theorem IxR.or{r r':R2}(h : IxR X r)(h' : IxR X r') : IxR X (fun x y H Q => r x y H Q \/ r' x y H Q) := by
 intro value slice pI s σ H x y v u Q I rx ry q hs;rcases q with q|q
 ·exact h value slice pI s σ H x y v u Q I rx ry q hs
 ·exact h' value slice pI s σ H x y v u Q I rx ry q hs
theorem Uz{r:R2}(hr : IxR X r)(ha : PE X a ta)(hb : PE X b tb)(hs : IZ b) : PE X (.Subscript a b pos) (tOp r ta tb) := by
 intro pI s σ H Q I h;exact Subscript_ (JG ha hb I h fun v u s2 x y H2 I2 rx ry q => hr a b pI s2 σ H2 x y v u Q I2 rx ry q (hs _ _))
noncomputable def Mo(K : Fg) : R2 := fun x y H Q => ∃ p xs i v, x = .ref p /\ y = .int i /\ SqL K H p xs /\ atI xs i = Aa v /\ Q v H
noncomputable def Mn(K : Fg) : R2 := fun x y H Q => ∃ p xs i v, x = .ref p /\ y = .int i /\ SqT K H p xs /\ atI xs i = Aa v /\ Q v H
theorem QH : IxR X (Mo X.K) := by
 intro value slice pI s σ H x y v u Q I rx ry h hs;obtain⟨p, xs, i, z, rfl, rfl, hq, he, q⟩ := h;cases rx;obtain⟨t, rfl⟩ := ry;obtain⟨its, r, pl, hz⟩ := I.list hq;obtain⟨j, h1, h2, h3, h4, h5⟩ := K7 he;obtain⟨w, ew, rw'⟩ := r.get h2;have hl := r.length;have hn := Gj;have fin : EP X pI σ Q w s := ⟨z, H, I, rw', q⟩;by_cases h0 : 0 <= i
 ·have hj : i.toNat = j := by
   rw[FI h0 h5]at h1;exact BP h1
  exact item_listR pl.isList h0 (by omega) (by rw[hj];simpa using ew) fin hs
 ·have hj : (i+(its.toArray.size : Ae)).toNat = j := by
   rw[Fq (by omega) h4]at h1
   rw[AA, <-hl];exact BP h1
  exact NB (x := w) pl.isList.typeIs NZ.lookup
   (wpAny_getItem_list_neg (Q := fun r s' => r = w /\ EP X pI σ Q r s') pl.isList (by omega) (by rw[AA] <;> omega) (by omega) (by rw[hj];simpa using ew) ⟨rfl, fin⟩) hs
theorem Tn : IxR X (Mn X.K) := by
 intro value slice pI s σ H x y v u Q I rx ry h hs;obtain⟨p, xs, i, z, rfl, rfl, hq, he, q⟩ := h;cases rx;obtain⟨t, rfl⟩ := ry;obtain⟨its, r, pl, hz⟩ := I.tuple hq;obtain⟨j, h1, h2, h3, h4, h5⟩ := K7 he;obtain⟨w, ew, rw'⟩ := r.get h2;have hl := r.length;have hn := Gj;have fin : EP X pI σ Q w s := ⟨z, H, I, rw', q⟩;exact NB (x := w) pl.typeIs slot_tuple_getitem.lookup
  (getItem_tuple (j := j) (Q := fun r s' => r = w /\ EP X pI σ Q r s') pl (by omega) (by omega) (by rw[AA, <-hl];exact h1) (by simpa using ew) ⟨rfl, fin⟩) hs
theorem Oq(its : Ab Ah)(n j : Ag)(u : Ah) : Eg (·.setIfInBounds j u) { cls := .type "list", data := .seq its.toArray n } = { cls := .type "list", data := .seq (its.set j u).toArray n } := by
 simp[Eg]
theorem Inv.lst(I : Inv X pI σ H s)(h : H p = Aa (.lst xs)):
  ∃(its : Ab Ah)(n : Ag), AN xs its /\ s.heap.get? p = Aa { cls := .type "list", data := .seq its.toArray n } /\ xs.length <= sizeLine := by
 obtain⟨z, its, n, r, e⟩ := I.hok p _ h;exact⟨its, n, r, e, z⟩
theorem Inv.lstUpd{ys:Ab V}{n':Ag}{f:Ay -> Ay}(I : Inv X pI σ H s)(h : H p = Aa (.lst xs))(ho : s.heap.get? p = Aa { cls := .type "list", data := .seq its.toArray n })(hf : f { cls := .type "list", data := .seq its.toArray n } = { cls := .type "list", data := .seq its'.toArray n' })(r : AN ys its')(hz : ys.length <= sizeLine)(t : Ag):Inv X pI σ (upd H p (.lst ys)) {s with heap := s.heap.update p f,toks := t} := by
 have e : (s.heap.update p f).get? p = Aa { cls := .type "list", data := .seq its'.toArray n' } := by
  rw[CI f ho (by rw[hf] <;> rfl), hf]
 refine I.write (x := p) (e := p) (by rw[h];trivial) (.inl rfl) (fun b u hb q => (BQ _ _ (C9 hb)).trans q) ⟨_, e⟩ ?_
 exact⟨hz, its', n', r, e⟩
noncomputable def Vb : V -> V -> V -> Hp -> (Hp -> Prop) -> Prop := fun o i v H Q => ∃ p xs k j, o = .ref p /\ i = .int k /\ H p = Aa (.lst xs) /\ ixN xs.length k = Aa j /\ Q (upd H p (.lst (xs.set j v)))
theorem Pq : MN X Vb := by
 intro pI s σ H o i v ov iv u Q I ro ri rv h;obtain⟨p, xs, k, j, rfl, rfl, hp, hj, q⟩ := h;cases ro;obtain⟨t, rfl⟩ := ri;obtain⟨its, n, r, ho, hz⟩ := I.lst hp;obtain⟨h1, h2, h3, h4⟩ := K9 hj;have hl := r.length;have hn := Gj;have I' : Inv X pI σ (upd H p (.lst (xs.set j v))) {s with heap := s.heap.update p (Eg (·.setIfInBounds j u))}:=
  I.lstUpd hp ho (Oq its n j u) (r.set rv j) (by rw[AX];exact hz) s.toks
 by_cases h0 : 0 <= k
 ·have hk : k.toNat = j := by
   rw[FI h0 h4]at h1;exact BP h1
  exact PySem.W.ki_setAt ho h0 (by omega) (by rw[AA, <-hl];exact h4) (by rw[hk];exact⟨_, I', q⟩)
 ·have hk : (k+(its.toArray.size : Ae)).toNat = j := by
   rw[Fq (by omega) h3]at h1
   rw[AA, <-hl];exact BP h1
  exact PySem.W.ki_setBack ho (by omega) (by rw[AA, <-hl];exact h3) (by omega) (by rw[hk];exact⟨_, I', q⟩)
theorem Oe(lo hi : Al Ae)(n : Ag) : (CV lo hi Af n).1 = ((HT.sIx n 0 lo : Ag) : Ae) /\ (CV lo hi Af n).2.1 = ((HT.sIx n n hi : Ag) : Ae) /\ (CV lo hi Af n).2.2 = 1 := by
 refine⟨?_, ?_, rfl⟩
 ·cases lo with
  |none => simp[CV, HT.sIx]
  |some i=>
   simp only[CV, HT.sIx, Nw, show (1 : Ae) > 0 by decide, EY]
   by_cases h : i<0
   ·simp only[h, EY] <;> omega
   ·simp only[h, G7] <;> omega
 ·cases hi with
  |none => simp[CV, HT.sIx]
  |some i=>
   simp only[CV, HT.sIx, Nw, show (1 : Ae) > 0 by decide, EY]
   by_cases h : i<0
   ·simp only[h, EY] <;> omega
   ·simp only[h, G7] <;> omega
theorem Ob(its : Ab Ah)(lo hi : Al Ae) : slicePick its.toArray lo hi Af = ((its.drop (HT.sIx its.length 0 lo)).take (HT.sIx its.length its.length hi-HT.sIx its.length 0 lo)).toArray := by
 obtain⟨h1, h2, h3⟩ := Oe lo hi its.toArray.size;unfold slicePick;rw[h1, h2, h3];simp only[sliceRange_one, pick_run, AA] <;> rfl
noncomputable def Mm(K : Fg) : V -> Al Ae -> Al Ae -> Hp -> VK -> Prop := fun x lo hi H Q => ∃ a xs, x = .ref a /\ SqL K H a xs /\ ∀ p, H p = Af -> Q (.ref p) (upd H p (.lst (FB xs lo hi)))
theorem Qi : SlR X (Mm X.K) := by
 intro pI s σ H x v vl vu lo hi sl Q I rx hs pl pu h;obtain⟨a, xs, rfl, hx, q⟩ := h;cases rx;obtain⟨its, r, ht, hz⟩ := I.list hx;have hlen := r.length;refine⟨"list", _, NZ.lookup, ht.isList.typeIs, ?_⟩;refine wpAny_getItem_list_slice ht.isList hs pl pu .none (by simp) ?_ (by rw[AA] <;> omega)
 rw[Ob, <-hlen];refine⟨.ref s.heap.objs.size, _, I.laid (t' := s.toks) (o := .lst (FB xs lo hi)) (fun b ob q => Ax _ q) (AG _) ?_, rfl, q _ (I.hok.fresh (AG _))⟩
 exact⟨BH (Kg xs lo hi) hz, _, 0, (r.drop (HT.sIx xs.length 0 lo)).take (HT.sIx xs.length xs.length hi-HT.sIx xs.length 0 lo), A9 _ rfl⟩
theorem Kc : EB X (.builtin "len") (fun xs H Q => ∃ p ys, xs = [.ref p] /\ (SqL X.K H p ys \/ SqT X.K H p ys) /\ Q (.int ys.length) H) := by
 intro pI s σ H xs us Q I r h;obtain⟨p, ys, rfl, hq, q⟩ := h;obtain⟨u, rfl, rx⟩ := Go r;cases rx;have hn := Gj;rcases hq with hq|hq
 ·obtain⟨its, r', pl, hz⟩ := I.list hq;have hlen := r'.length;exact Calls.call_len_list pl.isList (by simp only[AA] <;> omega) ⟨.int ys.length, H, I.tok _, ⟨s.toks+1, by rw[AA, hlen]⟩, q⟩
 ·obtain⟨its, r', pl, hz⟩ := I.tuple hq;have hlen := r'.length;exact len_tuple pl (by simp only[AA] <;> omega) ⟨.int ys.length, H, I.tok _, ⟨s.toks+1, by rw[AA, hlen]⟩, q⟩
theorem Oa : EB X (.builtin "len") (fun xs H Q => ∃ z, xs = [.str z] /\ z.length <= sizeLine /\ Q (.int z.length) H) := by
 intro pI s σ H xs us Q I r h;obtain⟨z, rfl, hz, q⟩ := h;obtain⟨u, rfl, t, rfl⟩ := Go r;have hn := Gj;exact len_str (by omega) ⟨.int z.length, H, I.tok _, ⟨_, rfl⟩, q⟩
theorem Kb : EB X (.type "list") (fun xs H Q => ∃ p ys, xs = [.ref p] /\ (SqL X.K H p ys \/ SqT X.K H p ys) /\ ∀ l, H l = Af -> Q (.ref l) (upd H l (.lst ys))) := by
 intro pI s σ H xs us Q I r h;obtain⟨p, ys, rfl, hq, q⟩ := h;obtain⟨u, rfl, rx⟩ := Go r;cases rx;have fin : ∀(its : Ab Ah), AN ys its -> ys.length <= sizeLine -> ∀(h' : AB)(c' : Ag), (∀ b o', s.heap.get? b = Aa o' -> h'.get? b = Aa o') ->
   h'.get? s.heap.objs.size = Aa { cls := .type "list", dict := Af, data := .seq its.toArray c', slots := #[] } -> EP X pI σ Q (.ref s.heap.objs.size) {s with heap := h'} := fun its r' hz h' c' kp e=>
  ⟨.ref s.heap.objs.size, _, I.laid (t' := s.toks) kp (AG _) (show ObjOk X.prog X.w _ h' _ (.lst ys) from ⟨hz, its, c', r', e⟩), rfl, q _ (I.hok.fresh (AG _))⟩
 rcases hq with hq|hq
 ·obtain⟨its, r', pl, hz⟩ := I.list hq;have hlen := r'.length;obtain⟨o, ho, hc, n, hd⟩ := pl.isList;exact call_list_seq p (.inl rfl) ho hc hd (fun h' c' kp e => fin its r' hz h' c' kp e) (by simp only[AA] <;> omega)
 ·obtain⟨its, r', pl, hz⟩ := I.tuple hq;have hlen := r'.length;obtain⟨o, ho, hc, n, hd⟩ := pl;exact call_list_seq p (.inr rfl) ho hc hd (fun h' c' kp e => fin its r' hz h' c' kp e) (by simp only[AA] <;> omega)
theorem JQ : EB X (.type "tuple") (fun xs H Q => ∃ p ys, xs = [.ref p] /\ ((SqL X.K H p ys /\ ∀ l, H l = Af -> Q (.ref l) (upd H l (.tup ys))) \/ (SqT X.K H p ys /\ Q (.ref p) H))) := by
 intro pI s σ H xs us Q I r h;obtain⟨p, ys, rfl, h⟩ := h;obtain⟨u, rfl, rx⟩ := Go r;cases rx;rcases h with ⟨hq, q⟩|⟨hq, q⟩
 ·obtain⟨its, r', pl, hz⟩ := I.list hq;have hlen := r'.length;refine call_tuple_list pl.isList (fun h' kp => ?_) (by simp only[AA] <;> omega)
  have I1 : Inv X pI σ H {s with heap := h'} := I.kept (t' := s.toks) kp
  have I2 : Inv X pI σ (upd H h'.objs.size (.tup ys)) { s with heap := h'.push { cls := .type "tuple", data := .seq its.toArray } }:=
   I1.laid (t' := s.toks) (fun b o e => Ax _ e) (AG _) (show ObjOk X.prog X.w _ _ _ (.tup ys) from ⟨hz, its, r', Gx _ _⟩)
  exact⟨.ref h'.objs.size, _, I2, rfl, q _ (I1.hok.fresh (AG _))⟩
 ·obtain⟨its, r', pl, hz⟩ := I.tuple hq;exact call_tuple_same pl ⟨.ref p, H, I, rfl, q⟩
variable{o e : Ao}{es : Ab Ao}{to : TE}{t : TA}{name : Aj}{apos cpos : AH}{T id : Cc}{r : V -> Ab V -> Hp -> VK -> Prop}
/- xs.append(e), list.index on a module's tuple .. are MtR facts of 06m -/
end
theorem AN.one : ∀{x : V}{us : Ab Ah}, AN [x] us -> ∃ u, us = [u] /\ A6 x u
 |_, _, .cons r .nil => ⟨_, rfl, r⟩
theorem AN.zero : ∀{us : Ab Ah}, AN [] us -> us = []
 |_, .nil => rfl
theorem AN.eraseIdx : ∀{xs : Ab V}{us : Ab Ah}(i : Ag), AN xs us -> AN (xs.eraseIdx i) (us.eraseIdx i)
 |_, _, _, .nil => .nil
 |_, _, 0, .cons _ t => t
 |_, _, i+1, .cons r t => .cons r (AN.eraseIdx i t)
theorem AN.reverse(h : AN xs us) : AN xs.reverse us.reverse := by
 induction h with
 |nil => exact .nil
 |cons r t ih => rw[No, No];exact AN.append ih (.cons r .nil)
section
variable{X : Cx}{pI : Ab (Ai × Ay)}{σ : St}{H : Hp}{s : Ak}{l b : Ai}{xs ys zs : Ab V}
theorem Inv.lset{f:A4 Ah -> A4 Ah}(I : Inv X pI σ H s)(hH : H l = Aa (.lst xs))(e : s.heap.get? l = Aa { cls := .type "list", data := .seq its.toArray n })(hf : f its.toArray = its'.toArray)(hv : AN ys its')(hz : ys.length <= sizeLine):Inv X pI σ (upd H l (.lst ys)) {s with heap := s.heap.update l (Eg f),toks := t'} := by
 have q := PySem.IsL.update e f;rw[hf]at q;refine I.write (x := l) (e := l) (by rw[hH];exact trivial) (.inl rfl) (fun b' u hb hu => (BQ s.heap (Eg f) (C9 hb)).trans hu) ⟨_, q⟩ ?_
 exact⟨hz, its', _, hv, q⟩
theorem Inv.lnew(I : Inv X pI σ H s)(hv : AN ys its)(hz : ys.length <= sizeLine):
  Inv X pI σ (upd H s.heap.objs.size (.lst ys)) { s with heap := s.heap.push { cls := .type "list", data := .seq its.toArray }, toks := t' }:=
 I.laid (fun _ _ q => Ax _ q) (AG _) ⟨hz, its, 0, hv, A9 _ rfl⟩
theorem Inv.fresh(I : Inv X pI σ H s) : H s.heap.objs.size = Af := I.hok.fresh (AG _)
end
section
variable{X : Cx}
end
section
variable{prog : Az}{w : AF}{A : AI}{E : Ah -> Ak -> Prop}{s : Ak}
set_option maxRecDepth 100000 in
end
section
variable{X : Cx}
end
end L2
namespace Att
open PySem PySem.W PySem.Calls PyProof.Rows
variable{P:GB}{h:AB}{l:Dl}{n:Ag}
theorem N8 : ∀(ns : Ab Ae)(vs : Ab Ah), WellAll P h vs (ns.map NQ) -> ES vs ns := by
 intro ns
 induction ns with
 |nil=>
  intro vs w;rw[Fi]at w;cases w;exact .nil
 |cons n ns ih=>
  intro vs w;rw[B5]at w;cases w with
  |cons a b=>
   cases a;exact .cons _ _ (ih _ b)
theorem OO(hn : l.most = Aa n){args:Ab WData}{vals:Ab Ah}(hpre : l.row.toRowW.claim.pre args = Ac)(hwl : WellAll P h vals args):
  ∃ a vs ns, vals = [Fl a] /\ args = [WData.list (ns.map NQ)] /\ h.get? a = Aa { cls := .type "list", data := .seq vs.toArray } /\ ES vs ns /\ ns.length <= n := by
 have hsh : WShape.hasAll [] args [.list .int] = Ac := (pre_splitW hpre).1;have hc : l.pre.holds [] {args := args} = Ac := (pre_splitW hpre).2;obtain⟨d, r, rfl, h1, h2⟩ := hasAllW_cons hsh;obtain rfl := hasAllW_nil h2;obtain⟨xs, rfl, h3⟩ := hasW_list h1;obtain⟨ns, rfl⟩ := items_int h3;have hlen : ns.length <= n := by
  unfold OpenLaw.pre at hc;have h4 : (WTm.not (.lt (.lit (.int (n : Ae))) (.len (.arg 0)))).holds [] {args := [.list (ns.map .int)]} = Ac := by
   have h4 := (holds_andW hc).1;rw[hn]at h4;exact h4
  have h5 := condW_of h4 (w_not (w_lt w_lit (w_len_list (w_arg rfl))));rw[B0]at h5;refine Nat.le_of_not_lt fun q => ?_
  have q' : (n : Ae)<((ns.length : Ag) : Ae) := by omega
  first
   |(rw[decide_eq_true q']at h5;exact absurd h5 (by decide))
   |(simp at h5;omega)
 cases hwl with
 |cons w1 w2=>
  cases w2;cases w1 with
  |list ho hall => exact⟨_, _, ns, rfl, rfl, ho, N8 ns _ hall, hlen⟩
theorem OS(l : Dl)(args : Ab WData) : l.row.toRowW.claim.post args (.bool Ac) args = Ac:=
 postW_of (r := l.row.toRowW) (X := (Ac==Ac))
  (show NR [] (.bool Ac) .bool = Ac by first|rfl|decide|simp[NR, WShape.arms, WShape.armsAll])
  (show (WTm.eq .res (.lit (.bool Ac))).value [] {args := args, res := Aa (.bool Ac), after := args} = Aa (.bool (Ac==Ac)) from w_eq_bool (w_res rfl) w_lit) rfl
theorem attach_call{q:Az}{loose:Ab Aj}{XP:(Aj -> Al Ah) -> AB -> Prop}{YP:AF -> AB -> Prop}{d:DefRec}(hn : l.most = Aa n)(hdf : d.params.defaults = [])(call : ∀(w : AF)(s₀ s₁ : Ak)(mg mb : Aj -> Al Ah)(fa : Ai)(o : Ay)(pm cd doc : Ah)(a : Ai)(vs : Ab Ah)(ns : Ab Ae),
   Ground q loose [] XP w s₀ mg mb s₁.heap -> YP w s₁.heap ->
   s₁.heap.get? fa = Aa o -> o.data = .func (docDef d.name d.params d.body d.scope pm cd doc) -> s₁.heap.CodeRec cd d.name -> mg d.name = Aa (.ref fa) ->
   s₁.heap.get? a = Aa { cls := .type "list", data := .seq vs.toArray } -> ES vs ns -> ns.length <= n -> s₁.gens = #[] ->
   DU (model l.prog w) Ei (.call (.ref fa) ⟨[.ref a], []⟩) (fun r s' => r = .ok (.ret (.bool Ac)) /\ OldK s₁.heap s'.heap /\ s'.os = s₁.os /\ Da s'.gens) s₁):WalkO q loose XP YP l.row.toRowW d [] (fun f vs =>F3 f vs) := by
 intro w s₀ s₁ mg mb G Y fa o pm cd doc dV kV ho hd hcd hD hmg hg args vals as hpre hlay hrd hwl hlo;obtain rfl : dV = .none := Dflts.none hD hdf;obtain rfl : kV = .none := Dflts.noKw hD;obtain⟨a, vs, ns, rfl, rfl, hobj, hints, hlen⟩ := OO hn hpre hwl;refine enter_call (Fm (call w s₀ s₁ mg mb fa o pm cd doc a vs ns G Y ho (fd_plain hd) hcd hmg hobj hints hlen hg) fun r s' hq => ?_)
 obtain⟨rfl, h2, h3, h4⟩ := hq;exact⟨.inl ⟨.bool Ac, .bool Ac, [], rfl, fun _ => rfl, .bool Ac, OS l _, fun _ => ⟨List.Pairwise.nil, fun _ hm => (nomatch hm)⟩⟩, h2, h3, h4⟩
section
variable{prog : Az}{w : AF}{A : AI}{E : Ah -> Ak -> Prop}{s : Ak}{K : Frag}
end
end Att
namespace L2
open PySem PySem.Spec PyProof.Rows
variable{k:Ag}{x:Aj}
theorem Ky : ∀{vs : Ab Ah}{ns : Ab Ae}, ES vs ns -> AN (ns.map V.int) vs
 |_, _, .nil => .nil
 |_, _, .cons n t h => .cons ⟨t, rfl⟩ (Ky h)
noncomputable def JL(H : Hp) : Prop := ∀ b, H b = Af \/ ∃ o xs, H b = Aa (.frz o (.lst xs))
theorem O7{P:Az}{w:AF}{K:Fg}{mg mb:Aj -> Al Ah}{CX:CXT}{fa a:Ai}{fd:Bp}{sp:Sp}{s₁:Ak}{vs:Ab Ah}{ns:Ab Ae}(KX : K.In s₁.heap)(hns : s₁.heap.Ns AS mg)(hb : s₁.heap.Ns E2 mb)(hbb : ∀ x : Aj, x ≠ "__name__" -> mb x = BR x)(hlim : s₁.heap.NoLimit)(hg : s₁.gens = #[])(ha : s₁.heap.get? a = Aa { cls := .type "list", data := .seq vs.toArray })(hi : ES vs ns)(hl : ns.length <= sizeLine)(hr : Room k Ei)(F : ∀ base : AB, K.In base -> base.Ns AS mg -> FnOk P w K mg base CX k fa fd [x] sp)(hbind : ∀(s : Ak)(u : Ah), Eh s fd ⟨[u], []⟩ [(x, u)])(hsp : ∀ H : Hp, JL H -> SqL K H a (ns.map V.int) -> sp [.ref a] H (fun v _ => v = .bl Ac) fun _ _ _ => AW)(hCX : ∀ H e s', CX [] H s₁ (fun _ _ _ => AW) e s' -> AW):DU (model P w) Ei (.call (.ref fa) ⟨[.ref a],[]⟩) (fun r s' =>r = .ok (.ret (.bool Ac))/\OldK s₁.heap s'.heap/\s'.os = s₁.os/\Da s'.gens) s₁ := by
 have rv := Ky hi;have lenV := hi.length
 -- from an abstract heap in which nothing but the script may be tracked
 have core : ∀ H : Hp, JL H -> SqL K H a (ns.map V.int) -> HOk P w H s₁.heap -> (∀ b, H b ≠ Af -> b = a) -> (H a ≠ Af -> K.lookup a = Af) ->
   DU (model P w) Ei (.call (.ref fa) ⟨[.ref a], []⟩) (fun r s' => r = .ok (.ret (.bool Ac)) /\ OldK s₁.heap s'.heap /\ s'.os = s₁.os /\ Da s'.gens) s₁ := by
  intro H hO hS hok hA hK;have base_of : ∀{b : Ai}{o : Ay}, s₁.heap.get? b = Aa o -> H b = Af -> (E6 s₁.heap H).get? b = Aa o := fun e n => O8 e n
  have noA : ∀{b : Ai}{o : Ay}{es : A4 DictEntry}{ep : Ag}, s₁.heap.get? b = Aa o -> o.data = .dict es ep -> H b = Af := fun {b o es ep} e d => by
   cases q : H b with
   |none => rfl
   |some u=>
    have e' : b = a := hA b (by rw[q];simp)
    subst e';rw[ha]at e;cases e;have d' : Gz vs.toArray _ = Data.dict es ep := d;cases d'
  have nsK : ∀{b : Ai}{m : Aj -> Al Ah}, s₁.heap.Ns b m -> (E6 s₁.heap H).Ns b m := fun {b m} ⟨o, es, ep, e, d, r⟩ => ⟨o, es, ep, base_of e (noA e d), d, r⟩
  have hKb : K.In (E6 s₁.heap H) := fun b o e => base_of (KX b o e) (by
   cases q : H b with
   |none => rfl
   |some u=>
    have e' : b = a := hA b (by rw[q];simp)
    subst e';rw[hK (by rw[q];simp)]at e;cases e)
  have hM : Mod K mg (E6 s₁.heap H) := ⟨hKb, nsK hns, ⟨mb, nsK hb, hbb⟩, let ⟨mc, h1, h2⟩ := hlim;⟨mc, nsK h1, h2⟩⟩
  have e0 : Env0 P w K mg (E6 s₁.heap H) Ei [] s₁ H := ⟨rfl, hM, fun b o e => QA e, Nat.le_of_eq (OG _ _), trivial, fun b hb => absurd (show b ∈ ([] : Ab Ai) from hb) (by simp), hok, .of_eq hg⟩
  refine Fm ((F _ hKb (nsK hns)).run Ei [] s₁ H ⟨[.ref a], []⟩ [.ref a] [.ref a] _ _ hr e0 (hbind s₁ (.ref a)) (.cons rfl .nil) (hsp H hO hS)) fun r s' h => ?_
  cases r with
  |error e => exact(hCX H e s' h).elim
  |ok fl=>
   cases fl with
   |next => exact Cz h
   |brk => exact Cz h
   |cont => exact Cz h
   |ret u=>
    obtain⟨v, H', os, bare, un, hok', r', q⟩ := h;have q' : v = .bl Ac := q;subst q';obtain rfl : u = NN Ac := r';refine⟨rfl, OldK.of_keep fun b o e => ?_, os, bare⟩
    cases q : H b with
    |none => exact un.keep b o e q (by intro z;exact absurd (show b ∈ ([] : Ab Ai) from z) (by simp)) (by simp)
    |some u=>
     rcases hO b with z|⟨ob, xs, z⟩
     ·rw[q]at z;cases z
     ·have z2 := un.frzs b ob _ z;obtain⟨e1, _⟩ := hok b _ z;obtain⟨e2, _⟩ := hok' b _ z2;rw[e]at e1;cases e1;exact e2
 cases hk : K.lookup a with
 |some o=>
  -- the script is one of the module's own objects
  have e := KX a o hk;rw[ha]at e;cases e;refine core (fun _ => Af) (fun _ => .inl rfl) (.inr ⟨_, vs.toArray, _, hk, rfl, rfl, rfl, by rw[AA, lenV];exact hl, by simpa using rv⟩) (fun b u z => by have z' : (Af : Al HO) = Aa u := z;cases z') (fun b z => absurd rfl z) fun z => absurd rfl z
 |none=>
  refine core (fun b => if b = a then Aa (.frz { cls := .type "list", data := .seq vs.toArray } (.lst (ns.map V.int))) else Af) (fun b => ?_) (.inl (.inr ⟨{ cls := .type "list", data := .seq vs.toArray }, AE rfl⟩)) (fun b u z => ?_) (fun b z => ?_) fun _ => hk
  ·by_cases hb : b = a
   ·exact .inr ⟨_, _, AE hb⟩
   ·exact .inl (AJ hb)
  ·by_cases hb : b = a
   ·have z' := (AE hb).symm.trans z;cases z';subst hb;exact⟨ha, by rw[B0];exact hl, vs, _, rv, ha⟩
   ·have z' := (AJ hb).symm.trans z;cases z'
  ·by_cases hb : b = a
   ·exact hb
   ·exact absurd (AJ hb) z
noncomputable abbrev KOf{K : Fg}{h : AB}(_ : K.In h) : Fg := K
theorem walk_of{l:Dl}{n:Ag}{q:Az}{loose:Ab Aj}{XP:(Aj -> Al Ah) -> AB -> Prop}{YP:AF -> AB -> Prop}{d:DefRec}{K:GB -> Fg}{CX:AF -> CXT}{sp:AF -> Sp}(hn : l.most = Aa n)(hn2 : n <= sizeLine)(hdf : d.params.defaults = [])(hr : Room k Ei)(hY : ∀(w : AF)(h : AB), YP w h -> (K w.params).In h)(F : ∀(w : AF)(mg : Aj -> Al Ah)(fa : Ai)(h : AB), (K w.params).In h -> h.Ns AS mg -> mg d.name = Aa (.ref fa) ->
   ∃ fd : Bp, (∀(s : Ak)(u : Ah), Eh s fd ⟨[u], []⟩ [(x, u)]) /\
    ∀ base : AB, (K w.params).In base -> base.Ns AS mg -> FnOk l.prog w (K w.params) mg base (CX w) k fa fd [x] (sp w))(hsp : ∀(w : AF)(H : Hp)(a : Ai)(ns : Ab Ae), ns.length <= n -> JL H -> SqL (K w.params) H a (ns.map V.int) -> sp w [.ref a] H (fun v _ => v = .bl Ac) fun _ _ _ => AW)(hCX : ∀(w : AF)(H : Hp)(s : Ak)(e : Ah)(s' : Ak), CX w [] H s (fun _ _ _ => AW) e s' -> AW):NS q loose XP YP l.row.toRowW d [] (fun f vs =>F3 f vs) := by
 refine Att.attach_call hn hdf fun w s₀ s₁ mg mb fa o pm cd doc a vs ns G Y ho hd hcd hmg hobj hints hlen hg => ?_
 have KX := hY w _ Y;obtain⟨fd, hb, hF⟩ := F w mg fa _ KX G.T.g hmg;exact O7 KX G.T.g G.T.b G.T.builtins G.T.nolimit hg hobj hints (BH hlen hn2) hr hF hb (fun H hO hS => hsp w H a ns hlen hO hS) fun H e s' => hCX w H s₁ e s'
end L2
/- THE LAST THEOREM (shape;LID, My.* are yours):
   My.Adr: a structure of the addresses that your layer names (classes, functions);My.Txt K t: a structure (Prop) of the equations over K;
   My.txt_mk : {K} {implicit addresses ..} (e1 : nsIn K AS "law" = Aa (Aa (.ref f))) (e2 : K.lookup f = Aa ⟨oc, od, .func (fnOf "law" "law" params body scope dV kV doc pm an cdv ct), sl⟩) (e3 : codeIn K cdv "law" = Ac) .. : ∃ t, My.Txt K t
set_option maxRecDepth 100000 in
set_option maxHeartbeats 0 in
theorem PySem.Challenge.cw_LID_holds : PySem.Challenge.rw_LID.Holds := by
 w_on;o_law;k_head;(case hw => w_witness2)
 k_fill
 refine L2.walk_of (l := PySem.Challenge.rw_LID) (n := 63) (k := 40) (x := "script") (CX := fun w => ..) (sp := fun _ => My.sp_law) rfl (by decide) rfl ⟨rfl, by decide, by decide⟩ (fun w h Y => NU Y) ?F ?S ?C
 case F=>
  intro w mg fa h KX G hmg;have T : ∃ t, My.Txt (L2.KOf KX) t := by
   dsimp only[L2.KOf]                          -- K must stand as «<heap const> w.params» for k_is
   refine' My.txt_mk ?e1 ?e2 ?e3 ..
   (case e1 => PySem.W.k_is)                    -- in the order: a name -> its address -> its object -> its parts
   (case e2 => PySem.W.k_is)
   ..
  obtain⟨t, T⟩ := T;have e0 := hmg.symm.trans (Fc KX G T.law);cases e0                                       -- fa is the law's own address
  exact⟨_, fun s u => .of_eq rfl, fun base kb nb => My.law_fn T kb nb⟩     -- if «.of_eq rfl» comes too early: refine' ⟨_, ?b, fun base kb nb => My.law_fn T kb nb⟩;exact fun s u => .of_eq rfl
 case S => exact fun w H a ns hl hO hS => ..
 case C => exact ..
(the tactic k_is has no namespace: write k_is) -/
namespace L2
open PySem PySem.Spec PyProof.Rows
noncomputable def Ga(s : A7) : Arguments := match s with
  |.FunctionDef _ a _ _ _ _ _ _ _ _ => a
  |_ => {posonlyargs := [], args := [], vararg := Af, kwonlyargs := [], kw_defaults := [], kwarg := Af, defaults := []}
noncomputable def Eu(s : A7) : Ab A7 := match s with
  |.FunctionDef _ _ b _ _ _ _ _ _ _ => b
  |_ => []
noncomputable def C8(s : A7) : Br := match s with
  |.FunctionDef _ _ _ _ _ _ sc _ _ _ => sc
  |_ => {kind := .function, names := [], isGenerator := Ad, isCoroutine := Ad}
noncomputable abbrev CX0 : CXT := fun _ _ _ _ _ _ => AW
structure Fun (K : Fg) (x qual : Aj) (st : A7) (f : Ai) (fd : Bp) : Prop where
 ex : ∃(oc : Ah)(od : Al Ai)(kV doc pm : Ah)(an : Al Ai)(cdv ct : Ah)(osl : A4 (Al Ah)),
  fd = Cr x qual (Ga st) (Eu st) (C8 st) .none kV doc pm an cdv ct /\ K.lookup f = Aa ⟨oc, od, .func fd, osl⟩ /\ DT K cdv qual = Ac
 kp : B9 K (.ref f) = Ac
section
variable{P : Az}{w : AF}{K : Fg}{mg : Aj -> Al Ah}{base : AB}
theorem Fun.ok{x qual : Aj}{st : A7}{f : Ai}{fd : Bp}{N ps : Ab Aj}{k : Ag}{sp : Sp}(F : Fun K x qual st f fd)(S : FnScope N ps (C8 st))(len : ∀ vs H Q E, sp vs H Q E -> vs.length = ps.length)(hbody : ∀(cdv : Ah)(A : AI)(outer : Ab BD)(s : Ak)(H : Hp)(vs : Ab V)(Q : VK)(E : XK), Room k (A.deeper (CT qual (C8 st) s.heap.objs.size f cdv)) -> sp vs H Q E ->
   ∃ t, PSs (DX CX0 P w K mg base N qual (C8 st) f cdv A outer s H E).nox (Eu st) t /\ t {nx := fun _ H' => Q .non H', rt := Q} (start N vs) H) : FnOk P w K mg base CX0 (k+1) f fd ps sp := by
 obtain⟨oc, od, kV, doc, pm, an, cdv, ct, osl, rfl, lk, hcd⟩ := F.ex;refine L7 lk hcd S len fun A outer s H vs Q E hr hsp => ?_
 obtain⟨t, h, q⟩ := hbody cdv A outer s H vs Q E hr hsp;exact⟨t, h.nox, q⟩
theorem Fun.binds{x qual : Aj}{st : A7}{f : Ai}{fd : Bp}{ps : Ab Aj}(F : Fun K x qual st f fd)(h : ∀(kV doc pm : Ah)(an : Al Ai)(cdv ct : Ah)(us : Ab Ah), us.length = ps.length -> GC (Cr x qual (Ga st) (Eu st) (C8 st) .none kV doc pm an cdv ct) ⟨us, []⟩ = pure (ps.zip us)) : EC K fd ps [] := by
 obtain⟨oc, od, kV, doc, pm, an, cdv, ct, osl, rfl, lk, hcd⟩ := F.ex;exact .all (h kV doc pm an cdv ct)
theorem Tu{x qual : Aj}{st : A7}{f : Ai}{oc : Ah}{od an : Al Ai}{osl : A4 (Al Ah)}{kV doc pm cdv ct : Ah}(l : K.lookup f = Aa ⟨oc, od, .func (Cr x qual (Ga st) (Eu st) (C8 st) .none kV doc pm an cdv ct), osl⟩)(c : DT K cdv qual = Ac)(k : B9 K (.ref f) = Ac) : Fun K x qual st f (Cr x qual (Ga st) (Eu st) (C8 st) .none kV doc pm an cdv ct) := ⟨⟨oc, od, kV, doc, pm, an, cdv, ct, osl, rfl, l, c⟩, k⟩
end
section
variable{X : Cx}
end
noncomputable def Ar(H H' : Hp) : Prop := ∀ b o, H b = Aa o -> H' b = Aa o
theorem Ar.refl(H : Hp) : Ar H H := fun _ _ h => h
theorem Ar.trans{H H1 H2 : Hp}(a : Ar H H1)(b : Ar H1 H2) : Ar H H2 := fun c o h => b c o (a c o h)
theorem Ar.free{H H' : Hp}(e : Ar H H'){l : Ai}(h : H' l = Af) : H l = Af := by
 cases q : H l with
 |none => rfl
 |some o=>
  rw[e l o q]at h;cases h
end L2
section
namespace Ov
open PySem
variable{α β:Type}
inductive D where
 |non|bl (b : An)|int (i : Ae)|str (x : Aj)|tup (ds : Ab D)|lst (ds : Ab D)
 |obj (c : Ag) (fs : Ab (Aj × D))|exc (c : Ag) (fs : Ab (Aj × D))|dic (kvs : Ab (Ab Ae × D))
 deriving Inhabited
structure Ex where
 c : Ag
 fs : Ab (Aj × D)
 deriving Inhabited
inductive R (α : Type) where
 |ok (a : α)|exn (x : Ex)|bad
 deriving Inhabited
noncomputable def R.bind{α β : Type}(r : R α)(f : α -> R β) : R β := match r with
  |.ok a => f a
  |.exn x => .exn x
  |.bad => .bad
@[simp]theorem R.bind_ok(a : α)(f : α -> R β) : (R.ok a).bind f = f a := rfl
@[simp]theorem R.bind_exn(x : Ex)(f : α -> R β) : (R.exn x : R α).bind f = .exn x := rfl
@[simp]theorem R.bind_bad(f : α -> R β) : (R.bad : R α).bind f = .bad := rfl
theorem R.bind_assoc{γ:Type}(r : R α)(f : α -> R β)(g : β -> R γ) : (r.bind f).bind g = r.bind fun a => (f a).bind g := by cases r <;> rfl
noncomputable def B7(n : Ag) : An := CU n 1000000
noncomputable def BE(i j : Ae) : An := (decide (-(18446744073709551616 : Ae)<i)&&decide (i<18446744073709551616))||(decide (-(18446744073709551616 : Ae)<j)&&decide (j<18446744073709551616))
noncomputable def Fu(i j : Ae) : An := decide (i.natAbs<2 ^ 2000)&&decide (j.natAbs<2 ^ 2000)
noncomputable def BN : Ep -> D -> D -> R D
 |.Add, .int i, .int j => .ok (.int (i+j))
 |.Sub, .int i, .int j => .ok (.int (i-j))
 |.Mult, .int i, .int j => if (BE i j||Fu i j) = Ac then .ok (.int (i*j)) else .bad
 |.FloorDiv, .int i, .int j => if 0<j /\ j<1073741824 then .ok (.int (i / j)) else .bad
 |.Mod, .int i, .int j => if 0<j then .ok (.int (i%j)) else .bad
 |.Pow, .int i, .int j => if (0 <= j /\ j <= 1000000) /\ (-(18446744073709551616 : Ae)<i /\ i<18446744073709551616) then .ok (.int (i ^ j.toNat)) else .bad
 |.Add, .str x, .str y => if B7 (x.length+y.length) = Ac then .ok (.str (x++y)) else .bad
 |.Add, .lst x, .lst y => if B7 (x.length+y.length) = Ac then .ok (.lst (x++y)) else .bad
 |.Add, .tup x, .tup y => if (!x.isEmpty&&B7 (x.length+y.length)) = Ac then .ok (.tup (x++y)) else .bad
 |_, _, _ => .bad
noncomputable def unD : UnaryOp -> D -> R D
 |.USub, .int i => .ok (.int (-i))
 |_, _ => .bad
noncomputable def b2i(b : An) : Ae := if b = Ac then 1 else 0
mutual
noncomputable def eqD : D -> D -> An
 |.non, .non => Ac
 |.bl a, .bl b => a==b
 |.bl a, .int j => b2i a==j
 |.int i, .bl b => i==b2i b
 |.int i, .int j => i==j
 |.str x, .str y => x==y
 |.tup xs, .tup ys => eqDs xs ys
 |.lst xs, .lst ys => eqDs xs ys
 |_, _ => Ad
noncomputable def eqDs : Ab D -> Ab D -> An
 |[], [] => Ac
 |x::xs, y::ys => eqD x y&&eqDs xs ys
 |_, _ => Ad
end
noncomputable def flD : Ag -> D -> An
 |_, .non => Ac
 |_, .bl _ => Ac
 |_, .int _ => Ac
 |_, .str _ => Ac
 |n+1, .tup xs => xs.all (flD n)
 |n+1, .lst xs => xs.all (flD n)
 |_, _ => Ad
noncomputable def CS : D -> Al (Ab Ae)
 |.tup ds => keyDs ds
 |_ => Af
where keyDs : Ab D -> Al (Ab Ae)
 |[] => Aa []
 |.int i::r => (keyDs r).map (i :: ·)
 |_ => Af
noncomputable def ltD : Ag -> D -> D -> An
 |0, .int i, .int j => decide (i<j)
 |n+1, .tup xs, .tup ys => ltDs (ltD n) xs ys
 |_, _, _ => Ad
where ltDs (lt : D -> D -> An) : Ab D -> Ab D -> An
 |[], [] => Ad
 |[], _::_ => Ac
 |_::_, [] => Ad
 |x::xs, y::ys => if eqD x y = Ac then ltDs lt xs ys else lt x y
noncomputable def rkD : Ag -> D -> An
 |0, .int _ => Ac
 |n+1, .tup xs => xs.all (rkD n)
 |_, _ => Ad
noncomputable def MS(lt : D -> D -> An)(x : D) : Ab D -> Ab D
 |[] => [x]
 |y::ys => if lt y x = Ac then y::MS lt x ys else x::y::ys
noncomputable def LR(lt : D -> D -> An) : Ab D -> Ab D
 |[] => []
 |x::xs => MS lt x (LR lt xs)
noncomputable def Mq : Ab D -> An
 |[] => Ac
 |x::xs => xs.all (fun y => !eqD x y)&&Mq xs
noncomputable def MJ : Ab D -> An
 |[] => Ac
 |[_] => Ac
 |x::y::r => ltD 1 x y&&MJ (y::r)
noncomputable def Lj(xs : Ab D) : R (Ab D) := if (xs.all (fun d => rkD 1 d && !eqD d (.tup []))&&Mq xs&&(decide (xs.length<64)||(MJ xs&&decide (xs.length <= 1000)))) = Ac then .ok (LR (ltD 1) xs) else .bad
noncomputable def Bb : CF -> D -> D -> R D
  |.Eq, x, y => if (flD 5 x&&flD 5 y) = Ac then .ok (.bl (eqD x y)) else .bad
  |.NotEq, x, y => if (flD 5 x&&flD 5 y) = Ac then .ok (.bl (!eqD x y)) else .bad
  |.Lt, .int i, .int j => .ok (.bl (decide (i<j)))
  |.LtE, .int i, .int j => .ok (.bl (decide (i <= j)))
  |.Gt, .int i, .int j => .ok (.bl (decide (j<i)))
  |.GtE, .int i, .int j => .ok (.bl (decide (j <= i)))
  |.In, x, .lst ys => if (flD 5 x&&ys.all (flD 5)) = Ac then .ok (.bl (ys.any fun y => eqD y x)) else .bad
  |.In, x, .dic kvs => match CS x with
    |some k => .ok (.bl (kvs.any fun p => p.1==k))
    |none => .bad
  |.In, x, .tup ys => if (flD 5 x&&ys.all (flD 5)) = Ac then .ok (.bl (ys.any fun y => eqD y x)) else .bad
  |.NotIn, x, .lst ys => if (flD 5 x&&ys.all (flD 5)) = Ac then .ok (.bl (!ys.any fun y => eqD y x)) else .bad
  |.NotIn, x, .dic kvs => match CS x with
    |some k => .ok (.bl (!kvs.any fun p => p.1==k))
    |none => .bad
  |.NotIn, x, .tup ys => if (flD 5 x&&ys.all (flD 5)) = Ac then .ok (.bl (!ys.any fun y => eqD y x)) else .bad
  |.Is, .non, .non => .ok (.bl Ac)
  |.Is, .bl _, .non => .ok (.bl Ad)
  |.Is, .int _, .non => .ok (.bl Ad)
  |.Is, .str _, .non => .ok (.bl Ad)
  |.Is, .tup _, .non => .ok (.bl Ad)
  |.Is, .lst _, .non => .ok (.bl Ad)
  |.Is, .obj _ _, .non => .ok (.bl Ad)
  |.Is, .bl a, .bl b => .ok (.bl (a==b))
  |.IsNot, .bl a, .bl b => .ok (.bl (!(a==b)))
  |.IsNot, .non, .non => .ok (.bl Ad)
  |.IsNot, .bl _, .non => .ok (.bl Ac)
  |.IsNot, .int _, .non => .ok (.bl Ac)
  |.IsNot, .str _, .non => .ok (.bl Ac)
  |.IsNot, .tup _, .non => .ok (.bl Ac)
  |.IsNot, .lst _, .non => .ok (.bl Ac)
  |.IsNot, .obj _ _, .non => .ok (.bl Ac)
  |_, _, _ => .bad
noncomputable def Bm : D -> R An
 |.non => .ok Ad
 |.bl b => .ok b
 |.int i => .ok (i != 0)
 |.str x => if B7 x.length = Ac then .ok (x.length != 0) else .bad
 |.tup xs => .ok (!xs.isEmpty)
 |.lst xs => .ok (!xs.isEmpty)
 |_ => .bad
noncomputable def plD(n : Ag)(i : Ae) : Al Ag := if 0 <= i then (if i<n then Aa i.toNat else Af) else if -(n : Ae) <= i then Aa (i+n).toNat else Af
noncomputable def Ct(xs : Ab D)(i : Ae) : R D := match plD xs.length i with
  |some k => match xs[k]? with
    |some d => .ok d
    |none => .bad
  |none => .bad
noncomputable def Gf(kvs : Ab (Ab Ae × D))(k : Ab Ae) : Al D := (kvs.find? fun p => p.1==k).map (·.2)
noncomputable def Ge(kvs : Ab (Ab Ae × D))(k : Ab Ae)(v : D) : Ab (Ab Ae × D) := if (kvs.any fun p => p.1==k) = Ac then kvs.map (fun p => if (p.1==k) = Ac then (k, v) else p) else kvs++[(k, v)]
noncomputable def Mf : D -> R (Ab (Ab Ae × D))
 |.dic kvs => .ok kvs
 |_ => .bad
noncomputable def Fv(d : D) : R (Ab Ae) := match CS d with
  |some k => .ok k
  |none => .bad
noncomputable def EN : D -> D -> R D
  |.lst xs, .int i => Ct xs i
  |.tup xs, .int i => Ct xs i
  |.dic kvs, k => match (CS k).bind (Gf kvs) with
    |some d => .ok d
    |none => .bad
  |_, _ => .bad
noncomputable def CQ : D -> R Ae
 |.int i => .ok i
 |_ => .bad
noncomputable def Cj : D -> R An
 |.bl b => .ok b
 |_ => .bad
noncomputable def CZ : D -> R (Ab D)
 |.lst xs => .ok xs
 |.tup xs => .ok xs
 |_ => .bad
noncomputable def Ju : D -> R (Ab D)
 |.lst xs => .ok xs
 |_ => .bad
inductive BI where
 |len|abs|max|min|int|list|tuple|all|any|sum|sorted|str|count|stp|lset|tmin|tmax|tlt|rvs
 deriving DecidableEq, Inhabited
inductive Ki where
 |int|bool|str|list|tuple|verr|cls (c : Ag)
 deriving DecidableEq, Inhabited
mutual
inductive E where
 |non|bl (b : An)|int (i : Ae)|str (x : Aj)
 |var (i : Ag)|glob (g : Ag)
 |bin (op : Ep) (a b : E)|un (op : UnaryOp) (a : E)|no (a : E)
 |and (es : Es)|or (es : Es)
 |cmp (op : CF) (a b : E)|cmp2 (op op' : CF) (a b c : E)
 |ite (c a b : E)
 |call (f : Ag) (as : Es)|bi (b : BI) (as : Es)
 |isi (a : E) (ks : Ab Ki)
 |idx (a i : E)|sl (a lo hi : E)
 |tup (es : Es)|lst (es : Es)
 |comp (elt : E) (t : Ag) (it : I) (c : E)|compT (elt : E) (ts : Ab Ag) (it : I) (c : E)|tupI (it : I)
 /-- d.get(k, x) -/
 |dget (i : Ag) (k x : E)
 |fld (o : E) (f : Aj)
inductive Es where
 |nil|cons (e : E) (es : Es)
inductive I where
 |e (a : E)|rng (a : E)|rng2 (a b : E)|zip (a b : E)|zip3 (a b c : E)|enm (a : E)
end
noncomputable abbrev Sl := Al (D × An)
noncomputable abbrev Rho := Ab Sl
structure Gam where
 F : Ag -> Ab D -> R D
 G : Ag -> D
 up : Ag -> Ab Ag
 /-- the defs whose answer is a new list -/
 fr : Ag -> An
 /-- what is raised: the class, what it is made of -/
 xn : Ag -> Ab D -> R Ex
noncomputable def C0(lo : Ae)(n : Ag) : Ab D := (B1 n).map fun(k : Ag) => D.int (lo+(k : Ae))
noncomputable def Cv(lo hi : Ae) : R (Ab D) := if (-(4611686018427387904 : Ae) <= lo /\ lo<4611686018427387904) /\ (-(4611686018427387904 : Ae) <= hi /\ hi<4611686018427387904) /\ hi-lo<1000000 then .ok (C0 lo (hi-lo).toNat) else .bad
noncomputable def kiD(up : Ag -> Ab Ag) : Ki -> D -> An
 |.int, .int _ => Ac
 |.int, .bl _ => Ac
 |.bool, .bl _ => Ac
 |.str, .str _ => Ac
 |.list, .lst _ => Ac
 |.tuple, .tup _ => Ac
 |.cls c, .obj k _ => (up k).contains c
 |.cls c, .exc k _ => (up k).contains c
 |.verr, .exc _ _ => Ac
 |_, _ => Ad
noncomputable def C1 : Ki -> An
 |.cls _ => Ac
 |.verr => Ac
 |_ => Ad
noncomputable def ED(up : Ag -> Ab Ag)(ks : Ab Ki)(x : D) : R D := match x with
  |.obj _ _ => .bad
  |.exc _ _ => if ks.all C1 = Ac then .ok (.bl (ks.any fun k => kiD up k x)) else .bad
  |.dic _ => .bad
  |_ => if ks.any C1 = Ac then .bad else .ok (.bl (ks.any fun k => kiD up k x))
noncomputable def DO : D -> R An
 |.non => .ok Ad
 |.bl b => .ok b
 |.int i => .ok (i != 0)
 |_ => .bad
noncomputable def Ec : Ab D -> R An
 |[] => .ok Ac
 |x::r => (DO x).bind fun b => (Ec r).bind fun c => .ok (b&&c)
noncomputable def Fw : Ab D -> R An
 |[] => .ok Ad
 |x::r => (DO x).bind fun b => (Fw r).bind fun c => .ok (b||c)
noncomputable def G1 : Ae -> Ab D -> R Ae
 |a, [] => .ok a
 |a, .int i::r => G1 (a+i) r
 |_, _ => .bad
noncomputable def Jy : Ab D -> Ab D -> Ab D
 |x::xs, y::ys => .tup [x, y]::Jy xs ys
 |_, _ => []
noncomputable def LU : Ab D -> Ab D -> Ab D -> Ab D
 |x::xs, y::ys, z::zs => .tup [x, y, z]::LU xs ys zs
 |_, _, _ => []
noncomputable def LS(x y z : D) : R (Ab D) := (CZ x).bind fun xs => (CZ y).bind fun ys => (CZ z).bind fun zs => if 0<xs.length /\ xs.length <= 1000 /\ ys.length = xs.length /\ zs.length = xs.length then .ok (LU xs ys zs) else .bad
noncomputable def JE : Ae -> Ab D -> Ab D
 |_, [] => []
 |i, x::xs => .tup [.int i, x]::JE (i+1) xs
noncomputable def nlD : Ag -> D -> An
 |_, .non => Ac
 |_, .bl _ => Ac
 |_, .int _ => Ac
 |_, .str _ => Ac
 |n+1, .tup xs => xs.all (nlD n)
 |_, _ => Ad
noncomputable def Gr(fr : An) : D -> An
 |.lst ds => fr&&ds.all (nlD 5)
 |d => nlD 5 d
noncomputable def Ft : Ab D -> Al (Ab Ae)
 |[] => Aa []
 |.int i::r => (Ft r).map (i :: ·)
 |_ => Af
noncomputable def EM(i : Ae) : Ab Ae -> Ae
 |[] => i
 |j::r => EM (if j<i then j else i) r
noncomputable def pk2(k n : Ag) : Ab Ag := (B1 ((n-min k n+1) / 2)).map fun j => min k n+2*j
noncomputable def MA(k : Ag)(xs : Ab D) : Ab D := (pk2 k xs.length).filterMap fun i => xs[i]?
noncomputable def ddS(acc : Ab Ae)(x : Ae) : Ab Ae := if acc.any (· == x) = Ac then acc else acc++[x]
noncomputable def ddN(is : Ab Ae) : Ag := (is.foldl ddS []).length
noncomputable def Mb(xs : Ab D) : R D := match Ft xs with
  |some is => if CU is.length 4000 = Ac then .ok (.int (ddN is)) else .bad
  |none => .bad
noncomputable def mmD(mx : An)(x y : D) : R D := if [x, y].all (fun d => rkD 1 d && !eqD d (.tup [])) = Ac then .ok (if (if mx = Ac then ltD 1 x y else ltD 1 y x) = Ac then y else x) else .bad
noncomputable def Mv(x y : D) : R D := if [x, y].all (fun d => rkD 1 d && !eqD d (.tup [])) = Ac then .ok (.bl (ltD 1 x y)) else .bad
noncomputable def biD : BI -> Ab D -> R D
  |.len, [.lst xs] => .ok (.int xs.length)
  |.len, [.tup xs] => .ok (.int xs.length)
  |.len, [.str x] => if B7 x.length = Ac then .ok (.int x.length) else .bad
  |.abs, [.int i] => .ok (.int (if i<0 then -i else i))
  |.max, [.int i, .int j] => .ok (.int (if i<j then j else i))
  |.min, [.int i, .int j] => .ok (.int (if j<i then j else i))
  |.min, [.lst xs] => match Ft xs with
    |some (i::is) => .ok (.int (EM i is))
    |_ => .bad
  |.int, [.int i] => .ok (.int i)
  |.int, [.bl b] => .ok (.int (b2i b))
  |.list, [.lst xs] => .ok (.lst xs)
  |.list, [.tup xs] => .ok (.lst xs)
  |.tuple, [.lst xs] => .ok (.tup xs)
  |.tuple, [.tup xs] => .ok (.tup xs)
  |.all, [.lst xs] => (Ec xs).bind fun b => .ok (.bl b)
  |.any, [.lst xs] => (Fw xs).bind fun b => .ok (.bl b)
  |.any, [.tup xs] => (Fw xs).bind fun b => .ok (.bl b)
  |.sum, [.lst xs] => (G1 0 xs).bind fun i => .ok (.int i)
  |.sum, [.tup xs] => (G1 0 xs).bind fun i => .ok (.int i)
  |.sorted, [.lst xs] => (Lj xs).bind fun ys => .ok (.lst ys)
  |.count, [.lst xs, x] => if (flD 5 x&&xs.all (flD 5)) = Ac then .ok (.int ((xs.filter fun y => eqD y x).length : Ag)) else .bad
  |.len, [.dic kvs] => if B7 kvs.length = Ac then .ok (.int kvs.length) else .bad
  |.stp, [.lst xs, .int k] => .ok (.lst (MA k.toNat xs))
  |.lset, [.lst xs] => Mb xs
  |.tmin, [x, y] => mmD Ad x y
  |.tmax, [x, y] => mmD Ac x y
  |.tlt, [x, y] => Mv x y
  |.rvs, [.lst xs] => .ok (.lst xs.reverse)
  |_, _ => .bad
noncomputable def slE(c : E)(d : D) : R (Al Ae) := match c with
  |.non => .ok Af
  |_ => (CQ d).bind fun i => .ok (Aa i)
noncomputable def Fa(n d : Ag) : Al Ae -> Ag
 |none => d
 |some i => if i<0 then (i+n).toNat else min i.toNat n
noncomputable def Gq(xs : Ab D)(lo hi : Al Ae) : Ab D := (xs.drop (Fa xs.length 0 lo)).take (Fa xs.length xs.length hi-Fa xs.length 0 lo)
noncomputable def slD : D -> Al Ae -> Al Ae -> R D
 |.lst xs, l, h => .ok (.lst (Gq xs l h))
 |.tup xs, l, h => if (Fa xs.length 0 l==0&&Fa xs.length xs.length h==xs.length) = Ac then .bad else .ok (.tup (Gq xs l h))
 |_, _, _ => .bad
noncomputable def MV : D -> Aj -> R D
  |.exc _ fs, f => match fs.lookup f with
    |some d => .ok d
    |none => .bad
  |_, _ => .bad
noncomputable def Dj(ρ : Rho)(i : Ag) : R D := match ρ[i]? with
  |some (Aa (d, Ad)) => .ok d
  |_ => .bad
noncomputable def Be(ρ : Rho)(i : Ag) : R D := match ρ[i]? with
  |some (Aa (d, _)) => .ok d
  |_ => .bad
noncomputable def shE(ρ : Rho) : E -> An
  | .var i => (match ρ[i]? with
    |some (Aa (_, Ac)) => Ad
    | _ => Ac)
  |_ => Ac
noncomputable def Fx(ρ : Rho) : Es -> An
 |.nil => Ac
 |.cons e es => shE ρ e&&Fx ρ es
noncomputable def D9 : Ab Ag -> Ab D -> Rho -> Al Rho
 |[], [], ρ => Aa ρ
 |t::ts, d::ds, ρ => D9 ts ds (ρ.set t (Aa (d, Ad)))
 |_, _, _ => Af
noncomputable def Ea(ts : Ab Ag)(d : D)(ρ : Rho) : R Rho := match d with
  | .tup xs => (match D9 ts xs ρ with
    |some ρ' => .ok ρ'
    | none => .bad)
  |_ => .bad
noncomputable def HG(ts : Ab Ag)(d : D)(ρ : Rho) : R Rho := match d with
  | .lst xs => (match D9 ts xs ρ with
    |some ρ' => .ok ρ'
    | none => .bad)
  |d => Ea ts d ρ
noncomputable def Bo(g : D -> R An)(f : D -> R D) : Ab D -> R (Ab D)
 |[] => .ok []
 |x::xs => (g x).bind fun b => if b = Ac then (f x).bind fun y => (Bo g f xs).bind fun ys => .ok (y::ys) else Bo g f xs
noncomputable def noX{α : Type} : R α -> R α
 |.ok a => .ok a
 |_ => .bad
noncomputable def top(ρ : Rho)(e : E)(r : R D) : R D := match e with
  |.var i => Be ρ i
  |_ => r
mutual
noncomputable def evE(Γ : Gam)(ρ : Rho) : E -> R D
 |.non => .ok .non
 |.bl b => .ok (.bl b)
 |.int i => .ok (.int i)
 |.str x => .ok (.str x)
 |.var i => Dj ρ i
 |.glob g => .ok (Γ.G g)
 |.bin op a b => (top ρ a (evE Γ ρ a)).bind fun x => (top ρ b (evE Γ ρ b)).bind fun y => BN op x y
 |.un op a => (top ρ a (evE Γ ρ a)).bind fun x => unD op x
 |.no a => (top ρ a (evE Γ ρ a)).bind fun x => (Cj x).bind fun b => .ok (.bl (!b))
 |.and es => evN Γ ρ es
 |.or es => evO Γ ρ es
 |.cmp op a b => (top ρ a (evE Γ ρ a)).bind fun x => (top ρ b (evE Γ ρ b)).bind fun y => Bb op x y
 |.cmp2 op op' a b c => (top ρ a (evE Γ ρ a)).bind fun x => (top ρ b (evE Γ ρ b)).bind fun y => (Bb op x y).bind fun z => (Cj z).bind fun k => if k = Ac then (top ρ c (evE Γ ρ c)).bind fun u => Bb op' y u else .ok (.bl Ad)
 |.ite c a b => (top ρ c (evE Γ ρ c)).bind fun x => (Bm x).bind fun k => if k = Ac then evE Γ ρ a else evE Γ ρ b
 |.call f as => (evB Γ ρ as).bind fun xs => (Γ.F f xs).bind fun d => if Fx ρ as = Ac then .ok d else if Gr (Γ.fr f) d = Ac then .ok d else .bad
 |.bi b as => (evB Γ ρ as).bind fun xs => biD b xs
 |.isi a ks => (top ρ a (evE Γ ρ a)).bind fun x => ED Γ.up ks x
 |.idx a i => (top ρ a (evE Γ ρ a)).bind fun x => (top ρ i (evE Γ ρ i)).bind fun y => EN x y
 |.sl a lo hi => (top ρ a (evE Γ ρ a)).bind fun x => (top ρ lo (evE Γ ρ lo)).bind fun l => (slE lo l).bind fun l' => (top ρ hi (evE Γ ρ hi)).bind fun h => (slE hi h).bind fun h' => slD x l' h'
 |.tup es => (evA Γ ρ es).bind fun xs => .ok (.tup xs)
 |.lst es => (evA Γ ρ es).bind fun xs => .ok (.lst xs)
 |.comp elt t it c => (evI Γ ρ it).bind fun xs => (noX (Bo (fun x => (top (ρ.set t (Aa (x, Ad))) c (evE Γ (ρ.set t (Aa (x, Ad))) c)).bind Bm) (fun x => evE Γ (ρ.set t (Aa (x, Ad))) elt) xs)).bind fun ys => .ok (.lst ys)
 |.compT elt ts it c => (evI Γ ρ it).bind fun xs => (noX (Bo (fun x => (Ea ts x ρ).bind fun ρ' => (top ρ' c (evE Γ ρ' c)).bind Bm) (fun x => (Ea ts x ρ).bind fun ρ' => evE Γ ρ' elt) xs)).bind fun ys => .ok (.lst ys)
 |.tupI it => (evI Γ ρ it).bind fun xs => .ok (.tup xs)
 |.dget i k x => (Be ρ i).bind fun d => (Mf d).bind fun kvs => (top ρ k (evE Γ ρ k)).bind fun a => (Fv a).bind fun j => (evE Γ ρ x).bind fun y => .ok ((Gf kvs j).getD y)
 |.fld o f => (top ρ o (evE Γ ρ o)).bind fun x => MV x f
noncomputable def evN(Γ : Gam)(ρ : Rho) : Es -> R D
 |.nil => .bad
 |.cons e .nil => evE Γ ρ e
 |.cons e (.cons e' es) => (evE Γ ρ e).bind fun x => (Cj x).bind fun c => if c = Ac then evN Γ ρ (.cons e' es) else .ok (.bl Ad)
noncomputable def evO(Γ : Gam)(ρ : Rho) : Es -> R D
 |.nil => .bad
 |.cons e .nil => evE Γ ρ e
 |.cons e (.cons e' es) => (evE Γ ρ e).bind fun x => (Cj x).bind fun c => if c = Ac then .ok (.bl Ac) else evO Γ ρ (.cons e' es)
noncomputable def evA(Γ : Gam)(ρ : Rho) : Es -> R (Ab D)
 |.nil => .ok []
 |.cons e es => (evE Γ ρ e).bind fun x => (evA Γ ρ es).bind fun xs => .ok (x::xs)
noncomputable def evB(Γ : Gam)(ρ : Rho) : Es -> R (Ab D)
 |.nil => .ok []
 |.cons e es => (top ρ e (evE Γ ρ e)).bind fun x => (evB Γ ρ es).bind fun xs => .ok (x::xs)
noncomputable def evI(Γ : Gam)(ρ : Rho) : I -> R (Ab D)
 |.e a => (evE Γ ρ a).bind CZ
 |.rng a => (top ρ a (evE Γ ρ a)).bind fun x => (CQ x).bind fun j => Cv 0 j
 |.rng2 a b => (top ρ a (evE Γ ρ a)).bind fun x => (top ρ b (evE Γ ρ b)).bind fun y => (CQ x).bind fun i => (CQ y).bind fun j => Cv i j
 |.zip a b => (evE Γ ρ a).bind fun x => (evE Γ ρ b).bind fun y => (CZ x).bind fun xs => (CZ y).bind fun ys => .ok (Jy xs ys)
 |.zip3 a b c => (evE Γ ρ a).bind fun x => (evE Γ ρ b).bind fun y => (evE Γ ρ c).bind fun z => LS x y z
 |.enm a => (evE Γ ρ a).bind fun x => (CZ x).bind fun xs => .ok (JE 0 xs)
end
noncomputable def Dh(Γ : Gam) : E -> An
 |.lst _ => Ac
 |.comp _ _ _ _ => Ac
 |.compT _ _ _ _ => Ac
 |.bin .Add _ _ => Ac
 |.bi .list _ => Ac
 |.bi .sorted _ => Ac
 |.sl _ _ _ => Ac
 |.call f _ => Γ.fr f
 |_ => Ad
mutual
inductive S where
 |pass
 /-- x = e;fresh: x alone holds the new list -/
 |asg (i : Ag) (fresh : An) (e : E)
 /-- a, b, .. = e -/
 |asgT (ts : Ab Ag) (e : E)
 |expr (e : E)
 |ret (e : E)|retN
 |ife (c : E) (a b : Ss)
 |fors (t : Ag) (it : I) (body : Ss)
 |forT (ts : Ab Ag) (it : I) (body : Ss)
 |whl (c : E) (body : Ss)
 /-- raise C(e, ..) -/
 |rais (c : Ag) (as : Es)
 /-- try: body except C as x: h -/
 |tryx (body : Ss) (c : Ag) (x : Ag) (h : Ss)
 /-- .. except C as x: h, except C' as x: h', else: els -/
 |try2 (body : Ss) (c : Ag) (x : Ag) (h : Ss) (c' : Ag) (h' els : Ss)
 /-- x.append(e), x.extend(e), x.insert(k, e), x.reverse(), x.clear() -/
 |app (i : Ag) (e : E)|ext (i : Ag) (e : E)|ins (i : Ag) (k e : E)|rev (i : Ag)|clr (i : Ag)
 /-- d = {}, d[k] = e, d.setdefault(k, e) -/
 |dnw (i : Ag)|dput (i : Ag) (k e : E)|dsd (i : Ag) (k e : E)
 /-- x[k] = e -/
 |put (i : Ag) (k e : E)
 /-- x[k], x[l] = x[l], x[k] -/
 |swp (i k l : Ag)
 /-- x.append(y.pop(e)) -/
 |apop (j i : Ag) (e : E)
 |brk|cont
 /-- nothing: from here on x is no longer changed -/
 |rel (i : Ag)
inductive Ss where
 |nil|cons (s : S) (ss : Ss)
end
inductive O where
 |next (ρ : Rho)|ret (d : D) (fr : An)|brk (ρ : Rho)|cont (ρ : Rho)|exn (x : Ex) (ρ : Rho)|bad
 deriving Inhabited
noncomputable def O.of{α : Type}(ρ : Rho)(r : R α)(f : α -> O) : O := match r with
  |.ok a => f a
  |.exn x => .exn x ρ
  |.bad => .bad
@[simp]theorem O.of_ok(ρ : Rho)(a : α)(f : α -> O) : O.of ρ (.ok a) f = f a := rfl
@[simp]theorem O.of_exn(ρ : Rho)(x : Ex)(f : α -> O) : O.of ρ (.exn x : R α) f = .exn x ρ := rfl
@[simp]theorem O.of_bad(ρ : Rho)(f : α -> O) : O.of ρ (.bad : R α) f = .bad := rfl
noncomputable def EO(Γ : Gam)(ρ : Rho)(i : I) : R (Ab D) := evI Γ ρ i
noncomputable def Cs(ρ : Rho)(i : Ag) : R (Ab D) := match ρ[i]? with
  |some (Aa (.lst xs, Ac)) => .ok xs
  |_ => .bad
noncomputable def G2(ρ : Rho)(i : Ag) : R (Ab (Ab Ae × D)) := match ρ[i]? with
  |some (Aa (.dic xs, Ac)) => .ok xs
  |_ => .bad
noncomputable def L3 : Ag := 4096
noncomputable def O.seq(o : O)(f : Rho -> O) : O := match o with
  |.next ρ => f ρ
  |.ret d b => .ret d b
  |.brk ρ => .brk ρ
  |.cont ρ => .cont ρ
  |.exn x ρ => .exn x ρ
  |.bad => .bad
noncomputable def O.turn(o : O)(f : Rho -> O) : O := match o with
  |.next ρ => f ρ
  |.cont ρ => f ρ
  |.brk ρ => .next ρ
  |.ret d b => .ret d b
  |.exn x ρ => .exn x ρ
  |.bad => .bad
noncomputable def Cw(body : D -> Rho -> O) : Ab D -> Rho -> O
 |[], ρ => .next ρ
 |x::xs, ρ => (body x ρ).turn (Cw body xs)
noncomputable def JA(c : Rho -> R An)(body : Rho -> O) : Ag -> Rho -> O
 |0, _ => .bad
 |n+1, ρ => O.of ρ (c ρ) fun b => if b = Ac then (body ρ).turn (JA c body n) else .next ρ
noncomputable def Md(ρ : Rho)(k : Ag) : R Ae := (Dj ρ k).bind CQ
noncomputable def VO(ρ : Rho)(d : D)(i k l : Ag) : O := match d with
  |.tup [x, y] => O.of ρ (Cs ρ i) fun xs => O.of ρ (Md ρ k) fun a => O.of ρ (Md ρ l) fun b => match plD xs.length a, plD xs.length b with
    |some m, Aa n => .next (ρ.set i (Aa (.lst ((xs.set m x).set n y), Ac)))
    |_, _ => .bad
  |_ => .bad
noncomputable def apD(ρ : Rho)(j i : Ag)(ys xs : Ab D)(n : Ae) : O := match plD xs.length n with
  | some m => (match xs[m]? with
    |some d => if (j != i&&(B7 xs.length&&B7 (ys.length+1))) = Ac then .next ((ρ.set i (Aa (.lst (xs.eraseIdx m), Ac))).set j (Aa (.lst (ys++[d]), Ac))) else .bad
    | none => .bad)
  |none => .bad
noncomputable def hdO(i : Ag)(y : Ex)(ρ' : Rho)(fh : Rho -> O) : O := match fh (ρ'.set i (Aa (.exc y.c y.fs, Ad))) with
  |.next ρ'' => .next (ρ''.set i Af)
  |.ret d f => .ret d f
  |_ => .bad
mutual
noncomputable def evS(Γ : Gam)(ρ : Rho) : S -> O
  |.pass => .next ρ
  | .asg i fresh e => O.of ρ (evE Γ ρ e) fun d => if fresh = Ac then (if Dh Γ e = Ac then (match d with
      |.lst xs => .next (ρ.set i (Aa (.lst xs, Ac)))
      | _ => .bad) else .bad) else .next (ρ.set i (Aa (d, Ad)))
  |.asgT ts e => O.of ρ (evE Γ ρ e) fun d => O.of ρ (HG ts d ρ) fun ρ' => .next ρ'
  |.expr e => O.of ρ (evE Γ ρ e) fun _ => .next ρ
  |.ret e => O.of ρ (top ρ e (evE Γ ρ e)) fun d => .ret d (Dh Γ e||(match e with | .var i => (match ρ[i]? with|some (Aa (_, o)) => o|_ => Ad)|_ => Ad))
  |.retN => .ret .non Ad
  |.ife c a b => O.of ρ ((top ρ c (evE Γ ρ c)).bind Bm) fun k => if k = Ac then evSs Γ ρ a else evSs Γ ρ b
  |.fors t it body => O.of ρ (EO Γ ρ it) fun xs => Cw (fun x ρ' => evSs Γ (ρ'.set t (Aa (x, Ad))) body) xs ρ
  |.forT ts it body => O.of ρ (EO Γ ρ it) fun xs => Cw (fun x ρ' => O.of ρ' (Ea ts x ρ') fun ρ'' => evSs Γ ρ'' body) xs ρ
  |.whl c body => JA (fun ρ' => (top ρ' c (evE Γ ρ' c)).bind Bm) (fun ρ' => evSs Γ ρ' body) L3 ρ
  |.rais c as => O.of ρ (noX (evA Γ ρ as)) fun xs => O.of ρ (Γ.xn c xs) fun x => .exn x ρ
  |.tryx body c x h => match evSs Γ ρ body with
      | .exn y ρ' => if (Γ.up y.c).contains c = Ac then (match evSs Γ (ρ'.set x (Aa (.exc y.c y.fs, Ad))) h with
          |.next ρ'' => .next (ρ''.set x Af)
          |.ret d f => .ret d f
          | _ => .bad) else .bad
      |o => o
  |.try2 body c x h c' h' els => match evSs Γ ρ body with
      |.exn y ρ' => if (Γ.up y.c).contains c = Ac then hdO x y ρ' (fun r => evSs Γ r h) else if (Γ.up y.c).contains c' = Ac then hdO x y ρ' (fun r => evSs Γ r h') else .bad
      |.next ρ' => evSs Γ ρ' els
      |o => o
  |.app i e => O.of ρ (Cs ρ i) fun xs => O.of ρ (evE Γ ρ e) fun d => if B7 (xs.length+1) = Ac then .next (ρ.set i (Aa (.lst (xs++[d]), Ac))) else .bad
  |.ext i e => O.of ρ (Cs ρ i) fun xs => O.of ρ (evE Γ ρ e) fun d => O.of ρ (Ju d) fun ys => if B7 (xs.length+ys.length) = Ac then .next (ρ.set i (Aa (.lst (xs++ys), Ac))) else .bad
  |.ins i k e => O.of ρ (Cs ρ i) fun xs => O.of ρ ((top ρ k (evE Γ ρ k)).bind CQ) fun j => O.of ρ (evE Γ ρ e) fun d => if (B7 (xs.length+1)&&decide (0 <= j)&&decide (j <= xs.length)) = Ac then .next (ρ.set i (Aa (.lst (xs.take j.toNat++d::xs.drop j.toNat), Ac))) else .bad
  |.rev i => O.of ρ (Cs ρ i) fun xs => .next (ρ.set i (Aa (.lst xs.reverse, Ac)))
  |.clr i => O.of ρ (Cs ρ i) fun _ => .next (ρ.set i (Aa (.lst [], Ac)))
  |.dnw i => .next (ρ.set i (Aa (.dic [], Ac)))
  |.dput i k e => O.of ρ (evE Γ ρ e) fun d => O.of ρ (G2 ρ i) fun xs => O.of ρ ((top ρ k (evE Γ ρ k)).bind Fv) fun j => if B7 (xs.length+1) = Ac then .next (ρ.set i (Aa (.dic (Ge xs j d), Ac))) else .bad
  |.dsd i k e => O.of ρ (G2 ρ i) fun xs => O.of ρ ((top ρ k (evE Γ ρ k)).bind Fv) fun j => O.of ρ (evE Γ ρ e) fun d => if B7 (xs.length+1) = Ac then .next (ρ.set i (Aa (.dic (if (xs.any fun p => p.1==j) = Ac then xs else Ge xs j d), Ac))) else .bad
  |.put i k e => O.of ρ (evE Γ ρ e) fun d => O.of ρ (Cs ρ i) fun xs => O.of ρ ((top ρ k (evE Γ ρ k)).bind CQ) fun j => match plD xs.length j with
      |some n => .next (ρ.set i (Aa (.lst (xs.set n d), Ac)))
      |none => .bad
  |.swp i k l => O.of ρ (evE Γ ρ (.tup (.cons (.idx (.var i) (.var l)) (.cons (.idx (.var i) (.var k)) .nil)))) fun d => VO ρ d i k l
  |.apop j i e => O.of ρ (Cs ρ j) fun ys => O.of ρ (Cs ρ i) fun xs => O.of ρ (evE Γ ρ e) fun d => O.of ρ (CQ d) fun n => apD ρ j i ys xs n
  |.brk => .brk ρ
  |.cont => .cont ρ
  |.rel i => match ρ[i]? with
      |some (Aa (d, Ac)) => .next (ρ.set i (Aa (d, Ad)))
      |_ => .next ρ
noncomputable def evSs(Γ : Gam)(ρ : Rho) : Ss -> O
 |.nil => .next ρ
 |.cons s ss => (evS Γ ρ s).seq fun ρ' => evSs Γ ρ' ss
end
structure Df where
 n : Ag
 fr : An
 body : Ss
noncomputable def BU(n : Ag)(ds : Ab D) : Rho := ds.map (fun d => Aa (d, Ad))++DS (n-ds.length) Af
noncomputable def isL : D -> An
 |.lst _ => Ac
 |.dic _ => Ac
 |_ => Ad
noncomputable def O.ans(fr : An)(o : O) : R D := match o with
  |.ret d b => if (fr&&(!b&&isL d)) = Ac then .bad else .ok d
  |.next _ => if fr = Ac then .bad else .ok .non
  |.exn x _ => .exn x
  |_ => .bad
noncomputable def Df.run(Γ : Gam)(f : Df)(ds : Ab D) : R D := (evSs Γ (BU f.n ds) f.body).ans f.fr
structure Prg where
 xs : An
 defs : Ag -> Df
 G : Ag -> D
 up : Ag -> Ab Ag
 xn : Ag -> Ab D -> R Ex
noncomputable def DM(xs : An)(r : R D) : R D := match xs with
  |true => r
  |false => noX r
noncomputable def gam(P : Prg) : Ag -> Gam
 |0 => ⟨fun _ _ => .bad, P.G, P.up, fun i => (P.defs i).fr, P.xn⟩
 |n+1 => ⟨fun i ds => DM P.xs ((P.defs i).run (gam P n) ds), P.G, P.up, fun i => (P.defs i).fr, P.xn⟩
end Ov
end
section
namespace Ov
open PySem
variable{α β:Type}{lo hi:Ae}{n:Ag}{x:D}
section
variable(Γ : Gam)(ρ : Rho)
@[simp]theorem ZqJ : evE Γ ρ .non = .ok .non := rfl
@[simp]theorem ZsE(b) : evE Γ ρ (.bl b) = .ok (.bl b) := rfl
@[simp]theorem ZqN(b) : evE Γ ρ (.int b) = .ok (.int b) := rfl
@[simp]theorem ZqI(b) : evE Γ ρ (.str b) = .ok (.str b) := rfl
@[simp]theorem ZqG(i) : evE Γ ρ (.var i) = Dj ρ i := rfl
@[simp]theorem Zny(i) : evE Γ ρ (.glob i) = .ok (Γ.G i) := rfl
@[simp]theorem ZqR(op a b) : evE Γ ρ (.bin op a b) = (top ρ a (evE Γ ρ a)).bind fun x => (top ρ b (evE Γ ρ b)).bind fun y => BN op x y := rfl
@[simp]theorem ZsA(op a) : evE Γ ρ (.un op a) = (top ρ a (evE Γ ρ a)).bind fun x => unD op x := rfl
@[simp]theorem ZsD(a) : evE Γ ρ (.no a) = (top ρ a (evE Γ ρ a)).bind fun x => (Cj x).bind fun b => .ok (.bl (!b)) := rfl
@[simp]theorem ZqS(es) : evE Γ ρ (.and es) = evN Γ ρ es := rfl
@[simp]theorem ZsC(es) : evE Γ ρ (.or es) = evO Γ ρ es := rfl
@[simp]theorem ZqC(e) : evN Γ ρ (.cons e .nil) = evE Γ ρ e := rfl
@[simp]theorem Znr(e e' es) : evN Γ ρ (.cons e (.cons e' es)) = (evE Γ ρ e).bind fun x => (Cj x).bind fun c => if c = Ac then evN Γ ρ (.cons e' es) else .ok (.bl Ad) := rfl
@[simp]theorem ZqB(e) : evO Γ ρ (.cons e .nil) = evE Γ ρ e := rfl
@[simp]theorem Znq(e e' es) : evO Γ ρ (.cons e (.cons e' es)) = (evE Γ ρ e).bind fun x => (Cj x).bind fun c => if c = Ac then .ok (.bl Ac) else evO Γ ρ (.cons e' es) := rfl
@[simp]theorem ZqQ(op a b) : evE Γ ρ (.cmp op a b) = (top ρ a (evE Γ ρ a)).bind fun x => (top ρ b (evE Γ ρ b)).bind fun y => Bb op x y := rfl
@[simp]theorem ZnB(op op' a b c) : evE Γ ρ (.cmp2 op op' a b c) = (top ρ a (evE Γ ρ a)).bind fun x => (top ρ b (evE Γ ρ b)).bind fun y => (Bb op x y).bind fun z => (Cj z).bind fun k => if k = Ac then (top ρ c (evE Γ ρ c)).bind fun u => Bb op' y u else .ok (.bl Ad) := rfl
@[simp]theorem ZqL(c a b) : evE Γ ρ (.ite c a b) = (top ρ c (evE Γ ρ c)).bind fun x => (Bm x).bind fun k => if k = Ac then evE Γ ρ a else evE Γ ρ b := rfl
@[simp]theorem ZnC(f as) : evE Γ ρ (.call f as) = (evB Γ ρ as).bind fun xs => (Γ.F f xs).bind fun d => if Fx ρ as = Ac then .ok d else if Gr (Γ.fr f) d = Ac then .ok d else .bad := rfl
@[simp]theorem ZsF(f as) : evE Γ ρ (.bi f as) = (evB Γ ρ as).bind fun xs => biD f xs := rfl
@[simp]theorem ZqM(a ks) : evE Γ ρ (.isi a ks) = (top ρ a (evE Γ ρ a)).bind fun x => ED Γ.up ks x := rfl
@[simp]theorem ZqO(a i) : evE Γ ρ (.idx a i) = (top ρ a (evE Γ ρ a)).bind fun x => (top ρ i (evE Γ ρ i)).bind fun y => EN x y := rfl
@[simp]theorem ZsB(a lo hi) : evE Γ ρ (.sl a lo hi) = (top ρ a (evE Γ ρ a)).bind fun x => (top ρ lo (evE Γ ρ lo)).bind fun l => (slE lo l).bind fun l' => (top ρ hi (evE Γ ρ hi)).bind fun h => (slE hi h).bind fun h' => slD x l' h' := rfl
@[simp]theorem ZqH(es) : evE Γ ρ (.tup es) = (evA Γ ρ es).bind fun xs => .ok (.tup xs) := rfl
@[simp]theorem ZqK(es) : evE Γ ρ (.lst es) = (evA Γ ρ es).bind fun xs => .ok (.lst xs) := rfl
noncomputable def cG(Γ : Gam)(ρ : Rho)(t : Ag)(c : E) : D -> R An := fun x => (top (ρ.set t (Aa (x, Ad))) c (evE Γ (ρ.set t (Aa (x, Ad))) c)).bind Bm
noncomputable def cF(Γ : Gam)(ρ : Rho)(t : Ag)(elt : E) : D -> R D := fun x => evE Γ (ρ.set t (Aa (x, Ad))) elt
noncomputable def mkL(r : R (Ab D)) : R D := (noX r).bind fun ys => .ok (.lst ys)
@[simp]theorem Zsa(ys) : mkL (.ok ys) = .ok (.lst ys) := rfl
@[simp]theorem ZnA(elt t it c) : evE Γ ρ (.comp elt t it c) = (evI Γ ρ it).bind fun xs => mkL (Bo (cG Γ ρ t c) (cF Γ ρ t elt) xs) := rfl
noncomputable def cGT(Γ : Gam)(ρ : Rho)(ts : Ab Ag)(c : E) : D -> R An := fun x => (Ea ts x ρ).bind fun ρ' => (top ρ' c (evE Γ ρ' c)).bind Bm
noncomputable def cFT(Γ : Gam)(ρ : Rho)(ts : Ab Ag)(elt : E) : D -> R D := fun x => (Ea ts x ρ).bind fun ρ' => evE Γ ρ' elt
@[simp]theorem ZlL(elt ts it c) : evE Γ ρ (.compT elt ts it c) = (evI Γ ρ it).bind fun xs => mkL (Bo (cGT Γ ρ ts c) (cFT Γ ρ ts elt) xs) := rfl
@[simp]theorem Znx(it) : evE Γ ρ (.tupI it) = (evI Γ ρ it).bind fun xs => .ok (.tup xs) := rfl
@[simp]theorem Znz(i k x) : evE Γ ρ (.dget i k x) = (Be ρ i).bind fun d => (Mf d).bind fun kvs => (top ρ k (evE Γ ρ k)).bind fun a => (Fv a).bind fun j => (evE Γ ρ x).bind fun y => .ok ((Gf kvs j).getD y) := rfl
@[simp]theorem ZqP(o f) : evE Γ ρ (.fld o f) = (top ρ o (evE Γ ρ o)).bind fun x => MV x f := rfl
@[simp]theorem ZqU : evA Γ ρ .nil = .ok [] := rfl
@[simp]theorem KO(e es) : evA Γ ρ (.cons e es) = (evE Γ ρ e).bind fun x => (evA Γ ρ es).bind fun xs => .ok (x::xs) := rfl
@[simp]theorem ZqT : evB Γ ρ .nil = .ok [] := rfl
@[simp]theorem KN(e es) : evB Γ ρ (.cons e es) = (top ρ e (evE Γ ρ e)).bind fun x => (evB Γ ρ es).bind fun xs => .ok (x::xs) := rfl
@[simp]theorem Zty(a) : evI Γ ρ (.e a) = (evE Γ ρ a).bind CZ := rfl
@[simp]theorem ZqE(a) : evI Γ ρ (.rng a) = (top ρ a (evE Γ ρ a)).bind fun x => (CQ x).bind fun j => Cv 0 j := rfl
@[simp]theorem Znw(a b) : evI Γ ρ (.rng2 a b) = (top ρ a (evE Γ ρ a)).bind fun x => (top ρ b (evE Γ ρ b)).bind fun y => (CQ x).bind fun i => (CQ y).bind fun j => Cv i j := rfl
@[simp]theorem ZqD(a b) : evI Γ ρ (.zip a b) = (evE Γ ρ a).bind fun x => (evE Γ ρ b).bind fun y => (CZ x).bind fun xs => (CZ y).bind fun ys => .ok (Jy xs ys) := rfl
@[simp]theorem Znv(a b c) : evI Γ ρ (.zip3 a b c) = (evE Γ ρ a).bind fun x => (evE Γ ρ b).bind fun y => (evE Γ ρ c).bind fun z => LS x y z := rfl
@[simp]theorem ZqF(a) : evI Γ ρ (.enm a) = (evE Γ ρ a).bind fun x => (CZ x).bind fun xs => .ok (JE 0 xs) := rfl
@[simp]theorem Zns(a b) : EO Γ ρ (.zip a b) = evI Γ ρ (.zip a b) := rfl
@[simp]theorem ZlJ(a b c) : EO Γ ρ (.zip3 a b c) = evI Γ ρ (.zip3 a b c) := rfl
@[simp]theorem Znu(a) : EO Γ ρ (.enm a) = evI Γ ρ (.enm a) := rfl
@[simp]theorem Zsz(a) : EO Γ ρ (.e a) = (evE Γ ρ a).bind CZ := rfl
@[simp]theorem Znt(a) : EO Γ ρ (.rng a) = evI Γ ρ (.rng a) := rfl
@[simp]theorem ZlK(a b) : EO Γ ρ (.rng2 a b) = evI Γ ρ (.rng2 a b) := rfl
variable(r : R D)
@[simp]theorem ZnY(i) : top ρ (.var i) r = Be ρ i := rfl
@[simp]theorem Zn1 : top ρ .non r = r := rfl
@[simp]theorem ZrI(b) : top ρ (.bl b) r = r := rfl
@[simp]theorem Zn5(b) : top ρ (.int b) r = r := rfl
@[simp]theorem Zn0(b) : top ρ (.str b) r = r := rfl
@[simp]theorem ZmJ(b) : top ρ (.glob b) r = r := rfl
@[simp]theorem Zn9(op a b) : top ρ (.bin op a b) r = r := rfl
@[simp]theorem ZrE(op a) : top ρ (.un op a) r = r := rfl
@[simp]theorem ZrH(a) : top ρ (.no a) r = r := rfl
@[simp]theorem Zoa(a) : top ρ (.and a) r = r := rfl
@[simp]theorem ZrG(a) : top ρ (.or a) r = r := rfl
@[simp]theorem Zn8(op a b) : top ρ (.cmp op a b) r = r := rfl
@[simp]theorem ZmM(op op' a b c) : top ρ (.cmp2 op op' a b c) r = r := rfl
@[simp]theorem Zn3(a b c) : top ρ (.ite a b c) r = r := rfl
@[simp]theorem ZmN(a b) : top ρ (.call a b) r = r := rfl
@[simp]theorem ZrJ(a b) : top ρ (.bi a b) r = r := rfl
@[simp]theorem Zn4(a b) : top ρ (.isi a b) r = r := rfl
@[simp]theorem Zn6(a b) : top ρ (.idx a b) r = r := rfl
@[simp]theorem ZrF(a b c) : top ρ (.sl a b c) r = r := rfl
@[simp]theorem ZnZ(a) : top ρ (.tup a) r = r := rfl
@[simp]theorem Zn2(a) : top ρ (.lst a) r = r := rfl
@[simp]theorem ZmL(a b c d) : top ρ (.comp a b c d) r = r := rfl
@[simp]theorem Zn7(a b) : top ρ (.fld a b) r = r := rfl
@[simp]theorem ZjR(a b c d) : top ρ (.compT a b c d) r = r := rfl
@[simp]theorem ZmI(a) : top ρ (.tupI a) r = r := rfl
@[simp]theorem ZmK(i k x) : top ρ (.dget i k x) r = r := rfl
end
@[simp]theorem ZjL(x : D × An)(ρ : Rho) : Be (Aa x::ρ) 0 = .ok x.1 := rfl
@[simp]theorem ZjM(x : D)(ρ : Rho) : Dj (Aa (x, Ad)::ρ) 0 = .ok x := rfl
@[simp]theorem Zjt(x : Sl)(ρ : Rho)(i : Ag)[NeZero i] : Be (x::ρ) i = Be ρ (i-1) := by
 obtain⟨j, rfl⟩ : ∃ j, i = j+1 := ⟨i-1, by have := Gw i;omega⟩
 rfl
@[simp]theorem Zju(x : Sl)(ρ : Rho)(i : Ag)[NeZero i] : Dj (x::ρ) i = Dj ρ (i-1) := by
 obtain⟨j, rfl⟩ : ∃ j, i = j+1 := ⟨i-1, by have := Gw i;omega⟩
 rfl
noncomputable def shV(ρ : Rho)(i : Ag) : An := match ρ[i]? with
    |some (Aa (_, Ac)) => Ad
    |_ => Ac
@[simp]theorem ZmQ(x : D)(b : An)(ρ : Rho) : shV (Aa (x, b)::ρ) 0 = !b := by cases b <;> rfl
@[simp]theorem Zka(ρ : Rho) : shV (Af::ρ) 0 = Ac := rfl
@[simp]theorem Zkb(x : Sl)(ρ : Rho)(i : Ag)[NeZero i] : shV (x::ρ) i = shV ρ (i-1) := by
 obtain⟨j, rfl⟩ : ∃ j, i = j+1 := ⟨i-1, by have := Gw i;omega⟩
 rfl
section
variable(ρ : Rho)
@[simp]theorem Zow(i) : shE ρ (.var i) = shV ρ i := rfl
@[simp]theorem Zoz : shE ρ .non = Ac := rfl
@[simp]theorem ZrY(b) : shE ρ (.bl b) = Ac := rfl
@[simp]theorem ZoD(b) : shE ρ (.int b) = Ac := rfl
@[simp]theorem Zoy(b) : shE ρ (.str b) = Ac := rfl
@[simp]theorem ZmT(b) : shE ρ (.glob b) = Ac := rfl
@[simp]theorem ZoH(op a b) : shE ρ (.bin op a b) = Ac := rfl
@[simp]theorem ZrU(op a) : shE ρ (.un op a) = Ac := rfl
@[simp]theorem ZrX(a) : shE ρ (.no a) = Ac := rfl
@[simp]theorem ZoI(a) : shE ρ (.and a) = Ac := rfl
@[simp]theorem ZrW(a) : shE ρ (.or a) = Ac := rfl
@[simp]theorem ZoG(op a b) : shE ρ (.cmp op a b) = Ac := rfl
@[simp]theorem ZmW(op op' a b c) : shE ρ (.cmp2 op op' a b c) = Ac := rfl
@[simp]theorem ZoB(a b c) : shE ρ (.ite a b c) = Ac := rfl
@[simp]theorem ZmX(a b) : shE ρ (.call a b) = Ac := rfl
@[simp]theorem ZrZ(a b) : shE ρ (.bi a b) = Ac := rfl
@[simp]theorem ZoC(a b) : shE ρ (.isi a b) = Ac := rfl
@[simp]theorem ZoE(a b) : shE ρ (.idx a b) = Ac := rfl
@[simp]theorem ZrV(a b c) : shE ρ (.sl a b c) = Ac := rfl
@[simp]theorem Zox(a) : shE ρ (.tup a) = Ac := rfl
@[simp]theorem ZoA(a) : shE ρ (.lst a) = Ac := rfl
@[simp]theorem ZmV(a b c d) : shE ρ (.comp a b c d) = Ac := rfl
@[simp]theorem Zkc(a b c d) : shE ρ (.compT a b c d) = Ac := rfl
@[simp]theorem ZmS(a) : shE ρ (.tupI a) = Ac := rfl
@[simp]theorem ZmU(i k x) : shE ρ (.dget i k x) = Ac := rfl
@[simp]theorem ZoF(a b) : shE ρ (.fld a b) = Ac := rfl
@[simp]theorem ZmR : Fx ρ .nil = Ac := rfl
@[simp]theorem ON(e es) : Fx ρ (.cons e es) = (shE ρ e&&Fx ρ es) := rfl
end
@[simp]theorem Zjw(ρ : Rho) : D9 [] [] ρ = Aa ρ := rfl
@[simp]theorem Zh1(t ts d ds)(ρ : Rho) : D9 (t::ts) (d::ds) ρ = D9 ts ds (ρ.set t (Aa (d, Ad))) := rfl
@[simp]theorem Zmf(ts ds)(ρ : Rho) : HG ts (.lst ds) ρ = match D9 ts ds ρ with
  |some ρ' => .ok ρ'
  |none => .bad := rfl
@[simp]theorem Zme(ts ds)(ρ : Rho) : HG ts (.tup ds) ρ = Ea ts (.tup ds) ρ := rfl
@[simp]theorem Ow(ts ds)(ρ : Rho) : Ea ts (.tup ds) ρ = match D9 ts ds ρ with
  |some ρ' => .ok ρ'
  |none => .bad := rfl
@[simp]theorem ZnK(c : Prop)[Dx c](a b : R α)(f : α -> R β) : (if c then a else b).bind f = if c then a.bind f else b.bind f := by split <;> rfl
@[simp]theorem Zr8(ρ : Rho)(c : Prop)[Dx c](a b : R α)(f : α -> O) : O.of ρ (if c then a else b) f = if c then O.of ρ a f else O.of ρ b f := by split <;> rfl
@[simp]theorem ZpM(ρ : Rho)(a : R α)(g : α -> R β)(f : β -> O) : O.of ρ (a.bind g) f = O.of ρ a fun x => O.of ρ (g x) f := by cases a <;> rfl
@[simp]theorem ZoK(c : Prop)[Dx c](a b : O)(f : Rho -> O) : O.seq (if c then a else b) f = if c then a.seq f else b.seq f := by split <;> rfl
@[simp]theorem Zmy(c : Prop)[Dx c](a b : O)(f : Rho -> O) : O.turn (if c then a else b) f = if c then a.turn f else b.turn f := by split <;> rfl
@[simp]theorem Zrl(fr : An)(c : Prop)[Dx c](a b : O) : O.ans fr (if c then a else b) = if c then a.ans fr else b.ans fr := by split <;> rfl
@[simp]theorem ZmY(ρ f) : O.seq (.next ρ) f = f ρ := rfl
@[simp]theorem ZoJ(d b f) : O.seq (.ret d b) f = .ret d b := rfl
@[simp]theorem ZoM(ρ f) : O.seq (.brk ρ) f = .brk ρ := rfl
@[simp]theorem ZmZ(ρ f) : O.seq (.cont ρ) f = .cont ρ := rfl
@[simp]theorem ZoL(x ρ f) : O.seq (.exn x ρ) f = .exn x ρ := rfl
@[simp]theorem ZoN(f) : O.seq .bad f = .bad := rfl
@[simp]theorem ZjN(ρ f) : O.turn (.next ρ) f = f ρ := rfl
@[simp]theorem Zmx(d b f) : O.turn (.ret d b) f = .ret d b := rfl
@[simp]theorem ZmA(ρ f) : O.turn (.brk ρ) f = .next ρ := rfl
@[simp]theorem ZjO(ρ f) : O.turn (.cont ρ) f = f ρ := rfl
@[simp]theorem Zmz(x ρ f) : O.turn (.exn x ρ) f = .exn x ρ := rfl
@[simp]theorem ZmB(f) : O.turn .bad f = .bad := rfl
@[simp]theorem ZnM(ρ) : O.ans Ad (.next ρ) = .ok .non := rfl
@[simp]theorem Zrk(d b) : O.ans Ad (.ret d b) = .ok d := rfl
@[simp]theorem ZnL(d b) : O.ans Ac (.ret d b) = if (!b&&isL d) = Ac then .bad else .ok d := rfl
@[simp]theorem Zqa(d) : isL (.lst d) = Ac := rfl
@[simp]theorem Zp9(d) : isL (.tup d) = Ad := rfl
@[simp]theorem Zqb(d) : isL (.int d) = Ad := rfl
@[simp]theorem Zrm(fr x ρ) : O.ans fr (.exn x ρ) = .exn x := rfl
@[simp]theorem Zrn(fr) : O.ans fr .bad = .bad := rfl
@[simp]theorem ZsP(i j : Ae) : BN .Add (.int i) (.int j) = .ok (.int (i+j)) := rfl
@[simp]theorem ZrP(i j : Ae) : BN .Sub (.int i) (.int j) = .ok (.int (i-j)) := rfl
@[simp]theorem Te(i j : Ae) : BN .Mult (.int i) (.int j) = if (BE i j||Fu i j) = Ac then .ok (.int (i*j)) else .bad := rfl
@[simp]theorem Qp(i j : Ae) : BN .FloorDiv (.int i) (.int j) = if 0<j /\ j<1073741824 then .ok (.int (i / j)) else .bad := rfl
@[simp]theorem Tf(i j : Ae) : BN .Mod (.int i) (.int j) = if 0<j then .ok (.int (i%j)) else .bad := rfl
@[simp]theorem R6(i j : Ae) : BN .Pow (.int i) (.int j) = if (0 <= j /\ j <= 1000000) /\ (-(18446744073709551616 : Ae)<i /\ i<18446744073709551616) then .ok (.int (i ^ j.toNat)) else .bad := rfl
@[simp]theorem TF(x y : Aj) : BN .Add (.str x) (.str y) = if B7 (x.length+y.length) = Ac then .ok (.str (x++y)) else .bad := rfl
@[simp]theorem LP(x y : Ab D) : BN .Add (.lst x) (.lst y) = if B7 (x.length+y.length) = Ac then .ok (.lst (x++y)) else .bad := rfl
@[simp]theorem TD(x y : Ab D) : BN .Add (.tup x) (.tup y) = if (!x.isEmpty&&B7 (x.length+y.length)) = Ac then .ok (.tup (x++y)) else .bad := rfl
@[simp]theorem Zti(i : Ae) : unD .USub (.int i) = .ok (.int (-i)) := rfl
@[simp]theorem Vn(x y : D) : Bb .Eq x y = if (flD 5 x&&flD 5 y) = Ac then .ok (.bl (eqD x y)) else .bad := rfl
@[simp]theorem UL(x y : D) : Bb .NotEq x y = if (flD 5 x&&flD 5 y) = Ac then .ok (.bl (!eqD x y)) else .bad := rfl
@[simp]theorem Ztj(i j : Ae) : Bb .Lt (.int i) (.int j) = .ok (.bl (decide (i<j))) := rfl
@[simp]theorem Ztm(i j : Ae) : Bb .LtE (.int i) (.int j) = .ok (.bl (decide (i <= j))) := rfl
@[simp]theorem Ztv(i j : Ae) : Bb .Gt (.int i) (.int j) = .ok (.bl (decide (j<i))) := rfl
@[simp]theorem Ztw(i j : Ae) : Bb .GtE (.int i) (.int j) = .ok (.bl (decide (j <= i))) := rfl
@[simp]theorem Wc(x : D)(ys : Ab D) : Bb .In x (.lst ys) = if (flD 5 x&&ys.all (flD 5)) = Ac then .ok (.bl (ys.any fun y => eqD y x)) else .bad := rfl
@[simp]theorem Wb(x : D)(ys : Ab D) : Bb .In x (.tup ys) = if (flD 5 x&&ys.all (flD 5)) = Ac then .ok (.bl (ys.any fun y => eqD y x)) else .bad := rfl
@[simp]theorem UJ(x : D)(ys : Ab D) : Bb .NotIn x (.lst ys) = if (flD 5 x&&ys.all (flD 5)) = Ac then .ok (.bl (!ys.any fun y => eqD y x)) else .bad := rfl
@[simp]theorem UI(x : D)(ys : Ab D) : Bb .NotIn x (.tup ys) = if (flD 5 x&&ys.all (flD 5)) = Ac then .ok (.bl (!ys.any fun y => eqD y x)) else .bad := rfl
@[simp]theorem Zsl : Bb .Is .non .non = .ok (.bl Ac) := rfl
@[simp]theorem Zsn(i) : Bb .Is (.int i) .non = .ok (.bl Ad) := rfl
@[simp]theorem Zsk(i) : Bb .Is (.tup i) .non = .ok (.bl Ad) := rfl
@[simp]theorem Zsm(i) : Bb .Is (.lst i) .non = .ok (.bl Ad) := rfl
@[simp]theorem Ztp(a b) : Bb .Is (.bl a) (.bl b) = .ok (.bl (a==b)) := rfl
@[simp]theorem Zsi(a b) : Bb .IsNot (.bl a) (.bl b) = .ok (.bl (!(a==b))) := rfl
@[simp]theorem ZpZ : Bb .IsNot .non .non = .ok (.bl Ad) := rfl
@[simp]theorem Zp1(i) : Bb .IsNot (.int i) .non = .ok (.bl Ac) := rfl
@[simp]theorem ZpY(i) : Bb .IsNot (.tup i) .non = .ok (.bl Ac) := rfl
@[simp]theorem Zp0(i) : Bb .IsNot (.lst i) .non = .ok (.bl Ac) := rfl
@[simp]theorem Zq0(i j : Ae) : eqD (.int i) (.int j) = (i==j) := rfl
@[simp]theorem ZsG(i j : An) : eqD (.bl i) (.bl j) = (i==j) := rfl
@[simp]theorem ZqX(i j : Aj) : eqD (.str i) (.str j) = (i==j) := rfl
@[simp]theorem ZqW(i j : Ab D) : eqD (.tup i) (.tup j) = eqDs i j := rfl
@[simp]theorem ZqZ(i j : Ab D) : eqD (.lst i) (.lst j) = eqDs i j := rfl
@[simp]theorem ZqY : eqD .non .non = Ac := rfl
@[simp]theorem Zi1(i) : eqD .non (.int i) = Ad := rfl
@[simp]theorem Zi2(i) : eqD (.int i) .non = Ad := rfl
@[simp]theorem ZnD : eqDs [] [] = Ac := rfl
@[simp]theorem IK(x y : D)(xs ys : Ab D) : eqDs (x::xs) (y::ys) = (eqD x y&&eqDs xs ys) := rfl
@[simp]theorem Zqo(n)(i : Ae) : flD n (.int i) = Ac := by cases n <;> rfl
@[simp]theorem Zsy(n)(i : An) : flD n (.bl i) = Ac := by cases n <;> rfl
@[simp]theorem Zqm(n)(i : Aj) : flD n (.str i) = Ac := by cases n <;> rfl
@[simp]theorem Zqn(n) : flD n .non = Ac := by cases n <;> rfl
@[simp]theorem Zm4(i) : flD 5 (.tup i) = i.all (flD 4) := rfl
@[simp]theorem Zm9(i) : flD 5 (.lst i) = i.all (flD 4) := rfl
@[simp]theorem Zm5(i) : flD 4 (.tup i) = i.all (flD 3) := rfl
@[simp]theorem Zna(i) : flD 4 (.lst i) = i.all (flD 3) := rfl
@[simp]theorem Zm6(i) : flD 3 (.tup i) = i.all (flD 2) := rfl
@[simp]theorem Znb(i) : flD 3 (.lst i) = i.all (flD 2) := rfl
@[simp]theorem Zm7(i) : flD 2 (.tup i) = i.all (flD 1) := rfl
@[simp]theorem Znc(i) : flD 2 (.lst i) = i.all (flD 1) := rfl
@[simp]theorem Zm8(i) : flD 1 (.tup i) = i.all (flD 0) := rfl
@[simp]theorem Znd(i) : flD 1 (.lst i) = i.all (flD 0) := rfl
@[simp]theorem ZnW(b) : Bm (.bl b) = .ok b := rfl
@[simp]theorem ZmF(i) : Bm (.int i) = .ok (i != 0) := rfl
@[simp]theorem ZmE(i) : Bm (.lst i) = .ok (!i.isEmpty) := rfl
@[simp]theorem ZmC(i) : Bm (.tup i) = .ok (!i.isEmpty) := rfl
@[simp]theorem ZmD : Bm .non = .ok Ad := rfl
@[simp]theorem ZnX(b) : DO (.bl b) = .ok b := rfl
@[simp]theorem ZmH(i) : DO (.int i) = .ok (i != 0) := rfl
@[simp]theorem ZmG : DO .non = .ok Ad := rfl
@[simp]theorem Zmo : Ec [] = .ok Ac := rfl
@[simp]theorem IF(x r) : Ec (x::r) = (DO x).bind fun b => (Ec r).bind fun c => .ok (b&&c) := rfl
@[simp]theorem Zmn : Fw [] = .ok Ad := rfl
@[simp]theorem ZjG(x r) : Fw (x::r) = (DO x).bind fun b => (Fw r).bind fun c => .ok (b||c) := rfl
@[simp]theorem Zq8(b)(d) : DM b (.ok d) = .ok d := by cases b <;> rfl
@[simp]theorem ZnF(b) : DM b .bad = .bad := by cases b <;> rfl
@[simp]theorem ZnE(x) : DM Ac (.exn x) = .exn x := rfl
@[simp]theorem ZjC(r) : DM Ad r = noX r := rfl
@[simp]theorem ZpN(a : α) : noX (.ok a) = .ok a := rfl
@[simp]theorem ZpP : noX (.bad : R α) = .bad := rfl
@[simp]theorem ZpO(x) : noX (.exn x : R α) = .bad := rfl
@[simp]theorem Zri(b) : Cj (.bl b) = .ok b := rfl
@[simp]theorem OA(b) : CQ (.int b) = .ok b := rfl
@[simp]theorem Zmi(b) : Ju (.lst b) = .ok b := rfl
@[simp]theorem Zmh(b) : CZ (.lst b) = .ok b := rfl
@[simp]theorem Zmg(b) : CZ (.tup b) = .ok b := rfl
@[simp]theorem Vq(xs i) : EN (.lst xs) (.int i) = Ct xs i := rfl
@[simp]theorem Vp(xs i) : EN (.tup xs) (.int i) = Ct xs i := rfl
@[simp]theorem Ztl(xs) : biD .len [.lst xs] = .ok (.int xs.length) := rfl
@[simp]theorem Ztk(xs) : biD .len [.tup xs] = .ok (.int xs.length) := rfl
@[simp]theorem ZtC(i) : biD .abs [.int i] = .ok (.int (if i<0 then -i else i)) := rfl
@[simp]theorem Zsc(i j) : biD .max [.int i, .int j] = .ok (.int (if i<j then j else i)) := rfl
@[simp]theorem Zsb(i j) : biD .min [.int i, .int j] = .ok (.int (if j<i then j else i)) := rfl
@[simp]theorem Ztq(i) : biD .int [.int i] = .ok (.int i) := rfl
@[simp]theorem Ztr(i) : biD .int [.bl i] = .ok (.int (b2i i)) := rfl
@[simp]theorem Zsh(i) : biD .list [.lst i] = .ok (.lst i) := rfl
@[simp]theorem Zsg(i) : biD .list [.tup i] = .ok (.lst i) := rfl
@[simp]theorem ZnV(i) : biD .tuple [.lst i] = .ok (.tup i) := rfl
@[simp]theorem ZnU(i) : biD .tuple [.tup i] = .ok (.tup i) := rfl
@[simp]theorem VB(i) : biD .all [.lst i] = (Ec i).bind fun b => .ok (.bl b) := rfl
@[simp]theorem ZtB(i) : biD .any [.lst i] = (Fw i).bind fun b => .ok (.bl b) := rfl
@[simp]theorem ZtA(i) : biD .any [.tup i] = (Fw i).bind fun b => .ok (.bl b) := rfl
@[simp]theorem Zta(i) : biD .sum [.lst i] = (G1 0 i).bind fun b => .ok (.int b) := rfl
@[simp]theorem Zs9(i) : biD .sum [.tup i] = (G1 0 i).bind fun b => .ok (.int b) := rfl
@[simp]theorem ZmP(i) : biD .sorted [.lst i] = (Lj i).bind fun b => .ok (.lst b) := rfl
@[simp]theorem Ztb(xs k) : biD .stp [.lst xs, .int k] = .ok (.lst (MA k.toNat xs)) := rfl
@[simp]theorem Ztf(xs) : biD .rvs [.lst xs] = .ok (.lst xs.reverse) := rfl
@[simp]theorem Zse(xs) : biD .lset [.lst xs] = Mb xs := rfl
@[simp]theorem ZrK(x y) : biD .tmin [x, y] = mmD Ad x y := rfl
@[simp]theorem ZsX(x y) : biD .tlt [x, y] = Mv x y := rfl
@[simp]theorem ZrL(x y) : biD .tmax [x, y] = mmD Ac x y := rfl
@[simp]theorem Zrb(xs x) : biD .count [.lst xs, x] = if (flD 5 x&&xs.all (flD 5)) = Ac then .ok (.int ((xs.filter fun y => eqD y x).length : Ag)) else .bad := rfl
@[simp]theorem V4(xs lo hi) : slD (.tup xs) lo hi = if (Fa xs.length 0 lo==0&&Fa xs.length xs.length hi==xs.length) = Ac then .bad else .ok (.tup (Gq xs lo hi)) := rfl
@[simp]theorem ZtM(xs lo hi) : slD (.lst xs) lo hi = .ok (.lst (Gq xs lo hi)) := rfl
@[simp]theorem Zot(d) : slE .non d = .ok Af := rfl
@[simp]theorem Zou(k i) : slE (.int k) (.int i) = .ok (Aa i) := rfl
@[simp]theorem Zos(k i) : slE (.var k) (.int i) = .ok (Aa i) := rfl
@[simp]theorem Zov(op a b i) : slE (.bin op a b) (.int i) = .ok (Aa i) := rfl
@[simp]theorem ZrS(op a i) : slE (.un op a) (.int i) = .ok (Aa i) := rfl
@[simp]theorem ZrT(b as i) : slE (.bi b as) (.int i) = .ok (Aa i) := rfl
@[simp]theorem Zp4(up ks) : ED up ks .non = if ks.any C1 = Ac then .bad else .ok (.bl (ks.any fun k => kiD up k .non)) := rfl
@[simp]theorem Zsj(up ks b) : ED up ks (.bl b) = if ks.any C1 = Ac then .bad else .ok (.bl (ks.any fun k => kiD up k (.bl b))) := rfl
@[simp]theorem Zp6(up ks b) : ED up ks (.int b) = if ks.any C1 = Ac then .bad else .ok (.bl (ks.any fun k => kiD up k (.int b))) := rfl
@[simp]theorem Zp3(up ks b) : ED up ks (.str b) = if ks.any C1 = Ac then .bad else .ok (.bl (ks.any fun k => kiD up k (.str b))) := rfl
@[simp]theorem Zp2(up ks b) : ED up ks (.tup b) = if ks.any C1 = Ac then .bad else .ok (.bl (ks.any fun k => kiD up k (.tup b))) := rfl
@[simp]theorem Zp5(up ks b) : ED up ks (.lst b) = if ks.any C1 = Ac then .bad else .ok (.bl (ks.any fun k => kiD up k (.lst b))) := rfl
@[simp]theorem Zp7(up ks c f) : ED up ks (.exc c f) = if ks.all C1 = Ac then .ok (.bl (ks.any fun k => kiD up k (.exc c f))) else .bad := rfl
@[simp]theorem ZnI(c) : C1 (.cls c) = Ac := rfl
@[simp]theorem ZlS : C1 .verr = Ac := rfl
@[simp]theorem ZnH : C1 .int = Ad := rfl
@[simp]theorem ZlU : C1 .bool = Ad := rfl
@[simp]theorem ZnG : C1 .str = Ad := rfl
@[simp]theorem ZlT : C1 .list = Ad := rfl
@[simp]theorem ZjE : C1 .tuple = Ad := rfl
@[simp]theorem Zjz(up i) : kiD up .int (.int i) = Ac := rfl
@[simp]theorem Zjy(up) : kiD up .int .non = Ad := rfl
@[simp]theorem ZiR(up i) : kiD up .bool (.int i) = Ad := rfl
@[simp]theorem Zjx(up i) : kiD up .int (.tup i) = Ad := rfl
@[simp]theorem ZjB(up i) : kiD up .bool (.bl i) = Ac := rfl
@[simp]theorem ZiQ(up) : kiD up .bool .non = Ad := rfl
@[simp]theorem ZiP(up i) : kiD up .list (.lst i) = Ac := rfl
@[simp]theorem Zhf(up i) : kiD up .tuple (.tup i) = Ac := rfl
@[simp]theorem Zhg(up) : kiD up .tuple .non = Ad := rfl
@[simp]theorem ZjA(up c k f) : kiD up (.cls c) (.exc k f) = (up k).contains c := rfl
@[simp]theorem ZiO(up k f) : kiD up .verr (.exc k f) = Ac := rfl
theorem IR{xs:Ab D}{i:Ae}{d:D}(h0 : 0 <= i)(h : xs[i.toNat]? = Aa d) : Ct xs i = .ok d := by
 unfold Ct plD;obtain⟨h1, _⟩ := AR.mp h;rw[AE h0, AE (by omega)]
 dsimp only;rw[h]
section
variable(Γ : Gam)(ρ : Rho)
@[simp]theorem Zne : evSs Γ ρ .nil = .next ρ := rfl
noncomputable def Du(Γ : Gam)(ss : Ss)(o : O) : O := o.seq fun ρ' => evSs Γ ρ' ss
@[simp]theorem ZlH(s ss) : evSs Γ ρ (.cons s ss) = Du Γ ss (evS Γ ρ s) := rfl
@[simp]theorem Zqh(ss) : Du Γ ss (.next ρ) = evSs Γ ρ ss := rfl
@[simp]theorem Zsp(ss d b) : Du Γ ss (.ret d b) = .ret d b := rfl
@[simp]theorem Zst(ss) : Du Γ ss (.brk ρ) = .brk ρ := rfl
@[simp]theorem Zqi(ss) : Du Γ ss (.cont ρ) = .cont ρ := rfl
@[simp]theorem Zss(ss x) : Du Γ ss (.exn x ρ) = .exn x ρ := rfl
@[simp]theorem Zsu(ss) : Du Γ ss .bad = .bad := rfl
@[simp]theorem Zsr(ss)(c : Prop)[Dx c](a b : O) : Du Γ ss (if c then a else b) = if c then Du Γ ss a else Du Γ ss b := by split <;> rfl
@[simp]theorem Zsq(o : O) : Du Γ .nil o = o := by cases o <;> rfl
noncomputable def Ci(Γ : Gam)(t : Ag)(body : Ss) : D -> Rho -> O := fun x ρ' => evSs Γ (ρ'.set t (Aa (x, Ad))) body
noncomputable def whC(Γ : Gam)(c : E) : Rho -> R An := fun ρ' => (top ρ' c (evE Γ ρ' c)).bind Bm
noncomputable def whB(Γ : Gam)(body : Ss) : Rho -> O := fun ρ' => evSs Γ ρ' body
noncomputable def MU(Γ : Gam)(t : Ag)(body : Ss)(ρ : Rho)(r : R (Ab D)) : O := O.of ρ r fun xs => Cw (Ci Γ t body) xs ρ
@[simp]theorem Zql(t body xs) : MU Γ t body ρ (.ok xs) = Cw (Ci Γ t body) xs ρ := rfl
@[simp]theorem Znj : evS Γ ρ .pass = .next ρ := rfl
@[simp]theorem Zqz(i e) : evS Γ ρ (.asg i Ad e) = O.of ρ (evE Γ ρ e) fun d => .next (ρ.set i (Aa (d, Ad))) := rfl
@[simp]theorem Znm(e) : evS Γ ρ (.expr e) = O.of ρ (evE Γ ρ e) fun _ => .next ρ := rfl
@[simp]theorem Zqs(e) : evS Γ ρ (.ret e) = O.of ρ (top ρ e (evE Γ ρ e)) fun d => .ret d (Dh Γ e||(match e with | .var i => (match ρ[i]? with|some (Aa (_, o)) => o|_ => Ad)|_ => Ad)) := rfl
@[simp]theorem Znh : evS Γ ρ .retN = .ret .non Ad := rfl
@[simp]theorem Zqt(c a b) : evS Γ ρ (.ife c a b) = O.of ρ ((top ρ c (evE Γ ρ c)).bind Bm) fun k => if k = Ac then evSs Γ ρ a else evSs Γ ρ b := rfl
@[simp]theorem Znk(t it body) : evS Γ ρ (.fors t it body) = MU Γ t body ρ (EO Γ ρ it) := rfl
noncomputable def L5(Γ : Gam)(ts : Ab Ag)(body : Ss) : D -> Rho -> O := fun x ρ' => O.of ρ' (Ea ts x ρ') fun ρ'' => evSs Γ ρ'' body
noncomputable def L4(Γ : Gam)(ts : Ab Ag)(body : Ss)(ρ : Rho)(r : R (Ab D)) : O := O.of ρ r fun xs => Cw (L5 Γ ts body) xs ρ
@[simp]theorem Zm3(t body xs) : L4 Γ t body ρ (.ok xs) = Cw (L5 Γ t body) xs ρ := rfl
@[simp]theorem Znl(t it body) : evS Γ ρ (.forT t it body) = L4 Γ t body ρ (EO Γ ρ it) := rfl
@[simp]theorem Znp(ts e) : evS Γ ρ (.asgT ts e) = O.of ρ (evE Γ ρ e) fun d => O.of ρ (HG ts d ρ) fun ρ' => .next ρ' := rfl
theorem Pc(i e) : evS Γ ρ (.asg i Ac e) = O.of ρ (evE Γ ρ e) fun d => if Dh Γ e = Ac then (match d with
      |.lst xs => .next (ρ.set i (Aa (.lst xs, Ac)))
      | _ => .bad) else .bad := rfl
noncomputable def setF(ρ : Rho)(i : Ag) : D -> O
 |.lst xs => .next (ρ.set i (Aa (.lst xs, Ac)))
 |_ => .bad
@[simp]theorem Zr0(i xs) : setF ρ i (.lst xs) = .next (ρ.set i (Aa (.lst xs, Ac))) := rfl
@[simp]theorem ZlI(i e) : evS Γ ρ (.asg i Ac e) = O.of ρ (evE Γ ρ e) fun d => if Dh Γ e = Ac then setF ρ i d else .bad := by
 rw[Pc]
 congr 1
@[simp]theorem ZqA(i e) : evS Γ ρ (.app i e) = O.of ρ (Cs ρ i) fun xs => O.of ρ (evE Γ ρ e) fun d => if B7 (xs.length+1) = Ac then .next (ρ.set i (Aa (.lst (xs++[d]), Ac))) else .bad := rfl
@[simp]theorem Zqu(i e) : evS Γ ρ (.ext i e) = O.of ρ (Cs ρ i) fun xs => O.of ρ (evE Γ ρ e) fun d => O.of ρ (Ju d) fun ys => if B7 (xs.length+ys.length) = Ac then .next (ρ.set i (Aa (.lst (xs++ys), Ac))) else .bad := rfl
@[simp]theorem Znn(i k e) : evS Γ ρ (.dput i k e) = O.of ρ (evE Γ ρ e) fun d => O.of ρ (G2 ρ i) fun xs => O.of ρ ((top ρ k (evE Γ ρ k)).bind Fv) fun j => if B7 (xs.length+1) = Ac then .next (ρ.set i (Aa (.dic (Ge xs j d), Ac))) else .bad := rfl
@[simp]theorem Zqv(i k e) : evS Γ ρ (.dsd i k e) = O.of ρ (G2 ρ i) fun xs => O.of ρ ((top ρ k (evE Γ ρ k)).bind Fv) fun j => O.of ρ (evE Γ ρ e) fun d => if B7 (xs.length+1) = Ac then .next (ρ.set i (Aa (.dic (if (xs.any fun p => p.1==j) = Ac then xs else Ge xs j d), Ac))) else .bad := rfl
@[simp]theorem Zqw(i) : evS Γ ρ (.dnw i) = .next (ρ.set i (Aa (.dic [], Ac))) := rfl
@[simp]theorem Zqr(i) : evS Γ ρ (.rev i) = O.of ρ (Cs ρ i) fun xs => .next (ρ.set i (Aa (.lst xs.reverse, Ac))) := rfl
@[simp]theorem Zqx(i) : evS Γ ρ (.clr i) = O.of ρ (Cs ρ i) fun _ => .next (ρ.set i (Aa (.lst [], Ac))) := rfl
theorem IN(i k e) : evS Γ ρ (.put i k e) = O.of ρ (evE Γ ρ e) fun d => O.of ρ (Cs ρ i) fun xs => O.of ρ ((top ρ k (evE Γ ρ k)).bind CQ) fun j => match plD xs.length j with
      |some n => .next (ρ.set i (Aa (.lst (xs.set n d), Ac)))
      |none => .bad := rfl
@[simp]theorem Znf(body c x h) : evS Γ ρ (.tryx body c x h) = match evSs Γ ρ body with
      | .exn y ρ' => if (Γ.up y.c).contains c = Ac then (match evSs Γ (ρ'.set x (Aa (.exc y.c y.fs, Ad))) h with
          |.next ρ'' => .next (ρ''.set x Af)
          |.ret d f => .ret d f
          | _ => .bad) else .bad
      |o => o := rfl
@[simp]theorem Zng(body c x h c' h' els) : evS Γ ρ (.try2 body c x h c' h' els) = match evSs Γ ρ body with
      |.exn y ρ' => if (Γ.up y.c).contains c = Ac then hdO x y ρ' (fun r => evSs Γ r h) else if (Γ.up y.c).contains c' = Ac then hdO x y ρ' (fun r => evSs Γ r h') else .bad
      |.next ρ' => evSs Γ ρ' els
      |o => o := rfl
@[simp]theorem Zqq(c body) : evS Γ ρ (.whl c body) = JA (whC Γ c) (whB Γ body) L3 ρ := rfl
@[simp]theorem Zni(c as) : evS Γ ρ (.rais c as) = O.of ρ (noX (evA Γ ρ as)) fun xs => O.of ρ (Γ.xn c xs) fun x => .exn x ρ := rfl
@[simp]theorem Zqy : evS Γ ρ .brk = .brk ρ := rfl
@[simp]theorem Zno : evS Γ ρ .cont = .cont ρ := rfl
end
end Ov
namespace Ov
open PySem
theorem KJ{body : D -> Rho -> O}(P : Rho -> Prop) : ∀(xs : Ab D)(ρ : Rho), P ρ -> (∀ x ∈ xs, ∀ ρ, P ρ -> ∃ ρ', body x ρ = .next ρ' /\ P ρ') -> ∃ ρ', Cw body xs ρ = .next ρ' /\ P ρ'
 |[], ρ, h, _ => ⟨ρ, rfl, h⟩
 |x::xs, ρ, h, k => by
  obtain⟨ρ1, e1, h1⟩ := k x At ρ h;obtain⟨ρ2, e2, h2⟩ := KJ P xs ρ1 h1 fun y hy => k y (Aq _ hy)
  exact⟨ρ2, by show (body x ρ).turn _ = _;rw[e1];exact e2, h2⟩
theorem OQ(h1 : 0 <= lo)(h2 : lo<1000000)(h3 : 0 <= hi)(h4 : hi<1000000) : Cv lo hi = .ok (C0 lo (hi-lo).toNat) := by
 unfold Cv;rw[AE (by omega)]
theorem KD(h3 : 0 <= hi)(h4 : hi<1000000) : Cv 0 hi = .ok (C0 0 hi.toNat) := by
 rw[OQ (by omega) (by omega) h3 h4, Fh]
theorem O6(h : x ∈ C0 lo n) : ∃ k : Ag, k<n /\ x = .int (lo+(k : Ae)) := by
 obtain⟨k, hk, e⟩ := CH.mp h;exact⟨k, B8.mp hk, e.symm⟩
theorem Ii(lo : Ae)(n : Ag) : (C0 lo n).length = n := by simp[C0]
theorem O9{i:Ag}(h : (C0 lo n)[i]? = Aa x) : i<n /\ x = .int (lo+(i : Ae)) := by
 have hl := (AR.mp h).1;rw[Ii]at hl;unfold C0 at h;rw[Dd, List.getElem?_range hl]at h;cases h;exact⟨hl, rfl⟩
noncomputable def Ss.take : Ag -> Ss -> Ss
 |0, _ => .nil
 |_, .nil => .nil
 |n+1, .cons s ss => .cons s (ss.take n)
noncomputable def Ss.drop : Ag -> Ss -> Ss
 |0, ss => ss
 |_, .nil => .nil
 |n+1, .cons _ ss => ss.drop n
theorem KM(Γ : Gam) : ∀(n : Ag)(ss : Ss)(ρ : Rho), evSs Γ ρ ss = Du Γ (ss.drop n) (evSs Γ ρ (ss.take n))
 |0, _, _ => rfl
 |_+1, .nil, _ => rfl
 |n+1, .cons s ss, ρ => by
  show (evS Γ ρ s).seq (fun ρ' => evSs Γ ρ' ss) = Du Γ (ss.drop n) ((evS Γ ρ s).seq fun ρ' => evSs Γ ρ' (ss.take n))
  cases evS Γ ρ s with
  |next ρ' => exact KM Γ n ss ρ'
  |_ => rfl
end Ov
end
section
namespace Ov
noncomputable def xfD : Ag -> D -> An
 |0, .int i => decide (0 <= i)&&decide (i<100)
 |n+1, .tup ds => CU ds.length 8&&ds.all (xfD n)
 |_, _ => Ad
end Ov
end
section
namespace OvC
open PySem Ov PyProof.Rows
variable{j i:Ae}
noncomputable abbrev scr(ns : Ab Ae) : D := .lst (ns.map .int)
noncomputable abbrev sh(d : D) : Sl := Aa (d, Ad)
noncomputable abbrev si(i : Ae) : Sl := Aa (.int i, Ad)
theorem MT{P:Ag -> Prop}(h0 : P 0)(h1 : P 1)(h2 : P 2)(h3 : P 3) : P (j%4).toNat := by
 have : (j%4).toNat = 0 \/ (j%4).toNat = 1 \/ (j%4).toNat = 2 \/ (j%4).toNat = 3 := by omega
 rcases this with e|e|e|e <;> rw[e] <;> assumption
noncomputable def P4(p : Ae) : Prop := p = 3 \/ p = 5 \/ p = 7 \/ p = 11
noncomputable def pr4(j : Ae) : Ae := [3, 5, 7, 11].getD (j%4).toNat 0
theorem R5(j) : P4 (pr4 j) := by
 unfold pr4;exact MT (P := fun j => P4 ([3, 5, 7, 11].getD j 0)) (.inl rfl) (.inr (.inl rfl)) (.inr (.inr (.inl rfl))) (.inr (.inr (.inr rfl)))
theorem P4.pos{p}(h : P4 p) : 0<p := by rcases h with rfl|rfl|rfl|rfl <;> decide
theorem P4.lo{p}(h : P4 p) : 3 <= p := by rcases h with rfl|rfl|rfl|rfl <;> decide
theorem P4.hi{p}(h : P4 p) : p <= 11 := by rcases h with rfl|rfl|rfl|rfl <;> decide
theorem Pa(j : Ae) : Ct [.int 3, .int 5, .int 7, .int 11] (j%4) = .ok (.int (pr4 j)) := by
 have h := MT (P := fun j => [D.int 3, D.int 5, D.int 7, D.int 11][j]? = Aa (D.int ([3, 5, 7, 11].getD j 0))) (j := j) rfl rfl rfl rfl
 exact IR (by omega) h
theorem DV(h0 : -18446744073709551616<i)(h1 : i<18446744073709551616) : BE i j = Ac := by simp[BE];left;exact⟨h0, h1⟩
theorem EK(h0 : -18446744073709551616<j)(h1 : j<18446744073709551616) : BE i j = Ac := by simp[BE];right;exact⟨h0, h1⟩
noncomputable def Ja : Df := ⟨2, Ad, (.cons (.ret (.bin .Mod (.var 1) (.var 0))) .nil)⟩
noncomputable def GU(Γ : Gam) : Prop := ∀ p n : Ae, 0<p -> Γ.F 1 [.int p, .int n] = .ok (.int (n%p))
theorem RP(Γ : Gam)(p n : Ae)(h : 0<p) : Ja.run Γ [.int p, .int n] = .ok (.int (n%p)) := by simp[Ja, Df.run, BU, h]
end OvC
end
namespace Ov
open PySem PySem.Spec PyProof.Rows L2
variable{A A' B:Ai -> Prop}{H H' H1 H0:Hp}{p a b l q:Ai}{xs vs:Ab V}{k':Ab Ae}{v:V}{d:D}{o:HO}{K:Fg}{ρ:Rho}{σ:L2.St}{i n j:Ag}{Rp Rq:Hp -> V -> D -> Prop}{r:R D}{Q:VK}{X:Cx}{e c tg iter elt:Ao}{t' tt:TT}{x:Ex}{g:D -> D -> R D}{op op':CF}{pI:Ab (Ai × Ay)}{s:Ak}{its its2 ys:Ab Ah}{items2:A4 Ah}{h h':AB}{u:Ah}{es ifs:Ab Ao}{fs fi:Rho -> R (Ab D)}{Q':Al Ae -> Hp -> Prop}{T:Cc}{f fc:Rho -> R An}{α:Type}{Fz:Ai -> HO -> Prop}{D':Ends}{lo hi:Ae}{as:D -> Rho -> R Rho}{k:Ki}{up:Ag -> Ab Ag}{p2 pos pos' pos2:AH}{scope:Br}{env:BD}{cl:Ab (Aj × Ai)}{N':Ab Aj}{ts:Ab Ag}{fp:Ab Ai}{te:TE}{J:It}{wi:TI}{t:An}
noncomputable abbrev ClA := Ag -> Al Ai
variable{CL:ClA}
noncomputable def KL(K : Fg)(a : Ai)(xs : Ab V) : Prop := ∃(o : Ay)(its : A4 Ah)(n : Ag), K.lookup a = Aa o /\ o.cls = .type "list" /\ o.dict = Af /\ o.data = .seq its n /\ its.size <= sizeLine /\ AN xs its.toList
noncomputable def KT(K : Fg)(a : Ai)(xs : Ab V) : Prop := ∃(o : Ay)(its : A4 Ah)(n : Ag), K.lookup a = Aa o /\ o.cls = .type "tuple" /\ o.data = .seq its n /\ its.size <= sizeLine /\ AN xs its.toList
noncomputable abbrev TK(P : Az)(w : AF) : HeapKind P w (Ab Ae) := tupleKind (intKind P w)
noncomputable def V0(P : Az)(w : AF)(a : Ai)(xs : Ab (Ab Ae × Ai × Ah))(h : AB) : Prop := (a==E4) = Ad /\ ∃ o es ep, h.get? a = Aa o /\ o.ExactDict /\ o.data = .dict es ep /\ es.toList = xs.map (entryOfKey (TK P w)) /\ (xs.map (·.1)).Nodup
inductive ValE : Ab (Ab Ae × Ai × V) -> Ab (Ab Ae × Ai × Ah) -> Prop
 |nil : ValE [] []
 |cons {k : Ab Ae} {a : Ai} {v : V} {y : Ah} {xs : Ab (Ab Ae × Ai × V)} {ys : Ab (Ab Ae × Ai × Ah)} : A6 v y -> ValE xs ys -> ValE ((k, a, v)::xs) ((k, a, y)::ys)
noncomputable def FZ(a : Ai)(xs : Ab (Ab Ae × Ai × V)) : AB -> Prop := fun h => ∃ ys, ValE xs ys /\ ∀ P w, V0 P w a ys h
noncomputable def DW(K : Fg)(H : Hp)(A : Ai -> Prop)(a : Ai)(k : Ab Ae) : Prop := ∃ xs, (¬ A a \/ KT K a xs) /\ SqT K H a xs /\ xs = k.map V.int
section
variable(K : Fg)(CL : ClA)(H : Hp)(A : Ai -> Prop)
mutual
def Rep : V -> D -> Prop
 |v, .non => v = .non
 |v, .bl b => v = .bl b
 |v, .int i => v = .int i
 |v, .str x => v = .str x
 |v, .tup ds => ∃ a xs, v = .ref a /\ (¬ A a \/ KT K a xs) /\ SqT K H a xs /\ Reps xs ds
 |v, .lst ds => ∃ a xs, v = .ref a /\ (¬ A a \/ KL K a xs) /\ SqL K H a xs /\ Reps xs ds
 |v, .obj c fs => ∃ a C dx vs, v = .ref a /\ ¬ A a /\ CL c = Aa C /\ H a = Aa (.ins C dx vs) /\ Repf vs fs
 |v, .dic kvs => ∃ a es, v = .ref a /\ ¬ A a /\ H a = Aa (.ext (FZ a es)) /\ Repk es kvs
 |v, .exc c fs => ∃ a C φ, v = .ref a /\ ¬ A a /\ CL c = Aa C /\ H a = Aa (.ext φ) /\ (∀ h, φ h -> ∃ o, h.get? a = Aa o /\ o.cls = .ref C) /\ (fs = [] \/ ∃ dx vs, ¬ A dx /\ H dx = Aa (.xd vs) /\ Repf vs fs /\ ∀ h, φ h -> ∃ o, h.get? a = Aa o /\ o.dict = Aa dx /\ ∃ us, o.data = .fields us)
def Reps : Ab V -> Ab D -> Prop
 |[], [] => EJ
 |v::vs, d::ds => Rep v d /\ Reps vs ds
 |_, _ => AW
def Repf : Ab (Aj × V) -> Ab (Aj × D) -> Prop
 |[], [] => EJ
 |v::vs, d::ds => Repp v d /\ Repf vs ds
 |_, _ => AW
def Repp : Aj × V -> Aj × D -> Prop
 |v, (n, d) => v.1 = n /\ Rep v.2 d
def Repk : Ab (Ab Ae × Ai × V) -> Ab (Ab Ae × D) -> Prop
 |[], [] => EJ
 |v::vs, d::ds => Repe v d /\ Repk vs ds
 |_, _ => AW
def Repe : Ab Ae × Ai × V -> Ab Ae × D -> Prop
 |v, (k, d) => v.1 = k /\ DW K H A v.2.1 k /\ Rep v.2.2 d
end
noncomputable def BO(a : Ai)(o : HO)(d : D) : Prop := (∃ xs ds, o = .lst xs /\ d = .lst ds /\ Reps K CL H A xs ds) \/ ∃ es kvs, o = .ext (FZ a es) /\ d = .dic kvs /\ Repk K CL H A es kvs
noncomputable def BL(v : V)(d : D) : Prop := Rep K CL H A v d \/ ∃ a o, v = .ref a /\ H a = Aa o /\ BO K CL H A a o d
end
noncomputable def OwK(a : Ai)(o : HO) : Prop := (∃ xs, o = .lst xs) \/ ∃ es, o = .ext (FZ a es)
noncomputable def Kp(A : Ai -> Prop)(H H' : Hp) : Prop := ∀ b o, H b = Aa o -> ¬ A b -> H' b = Aa o
noncomputable def AOk(H : Hp)(A : Ai -> Prop) : Prop := ∀ a, A a -> ∃ o, H a = Aa o /\ OwK a o
theorem Kp.of(h : Ar H H') : Kp A H H' := fun b o e _ => h b o e
theorem AOk.same(h : AOk H A)(s : Ar H H') : AOk H' A := fun a ha => let ⟨xs, e, k⟩ := h a ha;⟨xs, s _ _ e, k⟩
theorem AOk.new(h : AOk H A)(e : H p = Af) : ¬ A p := fun ha => by
 obtain⟨xs, q, _⟩ := h p ha;rw[e]at q;cases q
section
variable{K : Fg}{CL : ClA}{H H' : Hp}{A B : Ai -> Prop}
theorem L0{u:HO}(k : Kp A H H')(na : ¬ A a)(h : Rd H a u) : Rd H' a u := by
 rcases h with h|⟨o, h⟩
 ·exact .inl (k _ _ h na)
 ·exact .inr ⟨o, k _ _ h na⟩
theorem Jc(k : Kp A H H')(na : ¬ A a \/ KL K a xs)(h : SqL K H a xs) : SqL K H' a xs := na.elim (fun na => h.imp (L0 k na) id) .inr
theorem Hv(k : Kp A H H')(na : ¬ A a \/ KT K a xs)(h : SqT K H a xs) : SqT K H' a xs := na.elim (fun na => h.imp (L0 k na) id) .inr
theorem DW.kp(k : Kp A H H')(h : DW K H A a k') : DW K H' A a k' := by
 obtain⟨xs, na, s, e⟩ := h;exact⟨xs, na, Hv k na s, e⟩
theorem DW.sub(k : ∀ a, B a -> A a)(h : DW K H A a k') : DW K H B a k' := by
 obtain⟨xs, na, s, e⟩ := h;exact⟨xs, na.imp (fun na z => na (k _ z)) id, s, e⟩
theorem DW.wide(hp : ∀ a, B a -> A a \/ H a = Af)(h : DW K H A a k') : DW K H B a k' := by
 obtain⟨xs, na, s, e⟩ := h;refine⟨xs, ?_, s, e⟩;rcases s with s|s
 ·refine na.imp (fun na z => (hp _ z).elim na fun e => ?_) id
  rcases s with s|⟨o, s⟩ <;> rw[e]at s <;> cases s
 ·exact .inr s
mutual
theorem Rep.kp(k : Kp A H H') : ∀{v : V}(d : D), Rep K CL H A v d -> Rep K CL H' A v d
 |_, .non, h => h
 |_, .bl _, h => h
 |_, .int _, h => h
 |_, .str _, h => h
 |_, .dic kvs, h => by
  obtain⟨a, es, e, na, s, r⟩ := h;exact⟨a, es, e, na, k _ _ s na, Repk.kp k kvs r⟩
 |_, .tup ds, h => by
  obtain⟨a, xs, e, na, s, r⟩ := h;exact⟨a, xs, e, na, by first|exact Hv k na s|exact Jc k na s, Reps.kp k ds r⟩
 |_, .lst ds, h => by
  obtain⟨a, xs, e, na, s, r⟩ := h;exact⟨a, xs, e, na, by first|exact Hv k na s|exact Jc k na s, Reps.kp k ds r⟩
 |_, .obj c fs, h => by
  obtain⟨a, C, dx, vs, e, na, c, s, r⟩ := h;exact⟨a, C, dx, vs, e, na, c, k _ _ s na, Repf.kp k fs r⟩
 |_, .exc c fs, h => by
  obtain⟨a, C, φ, e, na, c, s, p, q⟩ := h;refine⟨a, C, φ, e, na, c, k _ _ s na, p, q.imp id ?_⟩;rintro⟨dx, vs, nx, s2, r, z⟩;exact⟨dx, vs, nx, k _ _ s2 nx, Repf.kp k fs r, z⟩
theorem Reps.kp(k : Kp A H H') : ∀{vs : Ab V}(ds : Ab D), Reps K CL H A vs ds -> Reps K CL H' A vs ds
 |[], [], h => h
 |_::_, d::ds, h => ⟨Rep.kp k d h.1, Reps.kp k ds h.2⟩
 |[], _::_, h => h.elim
 |_::_, [], h => h.elim
theorem Repf.kp(k : Kp A H H') : ∀{vs : Ab (Aj × V)}(ds : Ab (Aj × D)), Repf K CL H A vs ds -> Repf K CL H' A vs ds
 |[], [], h => h
 |_::_, d::ds, h => ⟨Repp.kp k d h.1, Repf.kp k ds h.2⟩
 |[], _::_, h => h.elim
 |_::_, [], h => h.elim
theorem Repp.kp(k : Kp A H H') : ∀{v : Aj × V}(d : Aj × D), Repp K CL H A v d -> Repp K CL H' A v d
 |_, (_, d), h => ⟨h.1, Rep.kp k d h.2⟩
theorem Repk.kp(k : Kp A H H') : ∀{vs : Ab (Ab Ae × Ai × V)}(ds : Ab (Ab Ae × D)), Repk K CL H A vs ds -> Repk K CL H' A vs ds
 |[], [], h => h
 |_::_, d::ds, h => ⟨Repe.kp k d h.1, Repk.kp k ds h.2⟩
 |[], _::_, h => h.elim
 |_::_, [], h => h.elim
theorem Repe.kp(k : Kp A H H') : ∀{v : Ab Ae × Ai × V}(d : Ab Ae × D), Repe K CL H A v d -> Repe K CL H' A v d
 |_, (_, d), h => ⟨h.1, DW.kp k h.2.1, Rep.kp k d h.2.2⟩
end
mutual
theorem Rep.sub(k : ∀ a, B a -> A a) : ∀{v : V}(d : D), Rep K CL H A v d -> Rep K CL H B v d
 |_, .non, h => h
 |_, .bl _, h => h
 |_, .int _, h => h
 |_, .str _, h => h
 |_, .dic kvs, h => by
  obtain⟨a, es, e, na, s, r⟩ := h;exact⟨a, es, e, fun z => na (k _ z), s, Repk.sub k kvs r⟩
 |_, .tup ds, h => by
  obtain⟨a, xs, e, na, s, r⟩ := h;exact⟨a, xs, e, na.imp (fun na z => na (k _ z)) id, s, Reps.sub k ds r⟩
 |_, .lst ds, h => by
  obtain⟨a, xs, e, na, s, r⟩ := h;exact⟨a, xs, e, na.imp (fun na z => na (k _ z)) id, s, Reps.sub k ds r⟩
 |_, .obj c fs, h => by
  obtain⟨a, C, dx, vs, e, na, c, s, r⟩ := h;exact⟨a, C, dx, vs, e, fun z => na (k _ z), c, s, Repf.sub k fs r⟩
 |_, .exc c fs, h => by
  obtain⟨a, C, φ, e, na, c, s, p, q⟩ := h;refine⟨a, C, φ, e, fun z => na (k _ z), c, s, p, q.imp id ?_⟩
  rintro⟨dx, vs, nx, s2, r, z⟩;exact⟨dx, vs, fun z => nx (k _ z), s2, Repf.sub k fs r, z⟩
theorem Reps.sub(k : ∀ a, B a -> A a) : ∀{vs : Ab V}(ds : Ab D), Reps K CL H A vs ds -> Reps K CL H B vs ds
 |[], [], h => h
 |_::_, d::ds, h => ⟨Rep.sub k d h.1, Reps.sub k ds h.2⟩
 |[], _::_, h => h.elim
 |_::_, [], h => h.elim
theorem Repf.sub(k : ∀ a, B a -> A a) : ∀{vs : Ab (Aj × V)}(ds : Ab (Aj × D)), Repf K CL H A vs ds -> Repf K CL H B vs ds
 |[], [], h => h
 |_::_, d::ds, h => ⟨Repp.sub k d h.1, Repf.sub k ds h.2⟩
 |[], _::_, h => h.elim
 |_::_, [], h => h.elim
theorem Repp.sub(k : ∀ a, B a -> A a) : ∀{v : Aj × V}(d : Aj × D), Repp K CL H A v d -> Repp K CL H B v d
 |_, (_, d), h => ⟨h.1, Rep.sub k d h.2⟩
theorem Repk.sub(k : ∀ a, B a -> A a) : ∀{vs : Ab (Ab Ae × Ai × V)}(ds : Ab (Ab Ae × D)), Repk K CL H A vs ds -> Repk K CL H B vs ds
 |[], [], h => h
 |_::_, d::ds, h => ⟨Repe.sub k d h.1, Repk.sub k ds h.2⟩
 |[], _::_, h => h.elim
 |_::_, [], h => h.elim
theorem Repe.sub(k : ∀ a, B a -> A a) : ∀{v : Ab Ae × Ai × V}(d : Ab Ae × D), Repe K CL H A v d -> Repe K CL H B v d
 |_, (_, d), h => ⟨h.1, DW.sub k h.2.1, Rep.sub k d h.2.2⟩
end
mutual
theorem Rep.wide(hp : ∀ a, B a -> A a \/ H a = Af) : ∀{v : V}(d : D), Rep K CL H A v d -> Rep K CL H B v d
 |_, .non, h => h
 |_, .bl _, h => h
 |_, .int _, h => h
 |_, .str _, h => h
 |_, .dic kvs, h => by
  obtain⟨a, es, e, na, s, r⟩ := h;exact⟨a, es, e, (fun z => (hp _ z).elim na fun e => by rw[e]at s;cases s), s, Repk.wide hp kvs r⟩
 |_, .tup ds, h => by
  obtain⟨a, xs, e, na, s, r⟩ := h;refine⟨a, xs, e, ?_, s, Reps.wide hp ds r⟩;rcases s with s|s
  ·refine na.imp (fun na z => (hp _ z).elim na fun e => ?_) id
   rcases s with s|⟨o, s⟩ <;> rw[e]at s <;> cases s
  ·exact .inr s
 |_, .lst ds, h => by
  obtain⟨a, xs, e, na, s, r⟩ := h;refine⟨a, xs, e, ?_, s, Reps.wide hp ds r⟩;rcases s with s|s
  ·refine na.imp (fun na z => (hp _ z).elim na fun e => ?_) id
   rcases s with s|⟨o, s⟩ <;> rw[e]at s <;> cases s
  ·exact .inr s
 |_, .obj c fs, h => by
  obtain⟨a, C, dx, vs, e, na, c, s, r⟩ := h;exact⟨a, C, dx, vs, e, (fun z => (hp _ z).elim na fun e => by rw[e]at s;cases s), c, s, Repf.wide hp fs r⟩
 |_, .exc c fs, h => by
  obtain⟨a, C, φ, e, na, c, s, p, q⟩ := h;refine⟨a, C, φ, e, (fun z => (hp _ z).elim na fun e => by rw[e]at s;cases s), c, s, p, q.imp id ?_⟩
  rintro⟨dx, vs, nx, s2, r, z⟩;exact⟨dx, vs, (fun z => (hp _ z).elim nx fun e => by rw[e]at s2;cases s2), s2, Repf.wide hp fs r, z⟩
theorem Reps.wide(hp : ∀ a, B a -> A a \/ H a = Af) : ∀{vs : Ab V}(ds : Ab D), Reps K CL H A vs ds -> Reps K CL H B vs ds
 |[], [], h => h
 |_::_, d::ds, h => ⟨Rep.wide hp d h.1, Reps.wide hp ds h.2⟩
 |[], _::_, h => h.elim
 |_::_, [], h => h.elim
theorem Repf.wide(hp : ∀ a, B a -> A a \/ H a = Af) : ∀{vs : Ab (Aj × V)}(ds : Ab (Aj × D)), Repf K CL H A vs ds -> Repf K CL H B vs ds
 |[], [], h => h
 |_::_, d::ds, h => ⟨Repp.wide hp d h.1, Repf.wide hp ds h.2⟩
 |[], _::_, h => h.elim
 |_::_, [], h => h.elim
theorem Repp.wide(hp : ∀ a, B a -> A a \/ H a = Af) : ∀{v : Aj × V}(d : Aj × D), Repp K CL H A v d -> Repp K CL H B v d
 |_, (_, d), h => ⟨h.1, Rep.wide hp d h.2⟩
theorem Repk.wide(hp : ∀ a, B a -> A a \/ H a = Af) : ∀{vs : Ab (Ab Ae × Ai × V)}(ds : Ab (Ab Ae × D)), Repk K CL H A vs ds -> Repk K CL H B vs ds
 |[], [], h => h
 |_::_, d::ds, h => ⟨Repe.wide hp d h.1, Repk.wide hp ds h.2⟩
 |[], _::_, h => h.elim
 |_::_, [], h => h.elim
theorem Repe.wide(hp : ∀ a, B a -> A a \/ H a = Af) : ∀{v : Ab Ae × Ai × V}(d : Ab Ae × D), Repe K CL H A v d -> Repe K CL H B v d
 |_, (_, d), h => ⟨h.1, DW.wide hp h.2.1, Rep.wide hp d h.2.2⟩
end
theorem Rep.same(s : Ar H H')(h : Rep K CL H A v d) : Rep K CL H' A v d := Rep.kp (Kp.of s) d h
theorem Reps.same{v:Ab V}{d:Ab D}(s : Ar H H')(h : Reps K CL H A v d) : Reps K CL H' A v d := Reps.kp (Kp.of s) d h
theorem BO.map(f : ∀{vs : Ab V}{ds : Ab D}, Reps K CL H A vs ds -> Reps K CL H' A' vs ds)(g : ∀{vs : Ab (Ab Ae × Ai × V)}{ds : Ab (Ab Ae × D)}, Repk K CL H A vs ds -> Repk K CL H' A' vs ds)(h : BO K CL H A a o d) : BO K CL H' A' a o d:=
 h.imp (fun ⟨xs, ds, e1, e2, r⟩ => ⟨xs, ds, e1, e2, f r⟩) fun ⟨xs, ds, e1, e2, r⟩ => ⟨xs, ds, e1, e2, g r⟩
theorem BO.kp{a : Ai}{o : HO}{d : D}(k : Kp A H H')(h : BO K CL H A a o d) : BO K CL H' A a o d := h.map (Reps.kp k _) (Repk.kp k _)
theorem BO.sub{a : Ai}{o : HO}{d : D}(k : ∀ a, B a -> A a)(h : BO K CL H A a o d) : BO K CL H B a o d := h.map (Reps.sub k _) (Repk.sub k _)
theorem BO.wide{a : Ai}{o : HO}{d : D}(k : ∀ a, B a -> A a \/ H a = Af)(h : BO K CL H A a o d) : BO K CL H B a o d := h.map (Reps.wide k _) (Repk.wide k _)
theorem BO.same(s : Ar H H')(h : BO K CL H A a o d) : BO K CL H' A a o d := h.kp (Kp.of s)
theorem BO.owk(h : BO K CL H A a o d) : OwK a o := h.imp (fun ⟨xs, _, e, _⟩ => ⟨xs, e⟩) fun ⟨xs, _, e, _⟩ => ⟨xs, e⟩
theorem BO.lst{ds : Ab D}(h : Reps K CL H A xs ds) : BO K CL H A a (.lst xs) (.lst ds) := .inl ⟨xs, ds, rfl, rfl, h⟩
theorem BO.dic{xs:Ab (Ab Ae × Ai × V)}{ds : Ab (Ab Ae × D)}(h : Repk K CL H A xs ds) : BO K CL H A a (.ext (FZ a xs)) (.dic ds) := .inr ⟨xs, ds, rfl, rfl, h⟩
theorem BO.lst_of{ds : Ab D}(h : BO K CL H A a o (.lst ds)) : ∃ xs, o = .lst xs /\ Reps K CL H A xs ds := by
 rcases h with ⟨xs, ds', e, e2, r⟩|⟨_, _, _, e, _⟩
 ·cases e2;exact⟨xs, e, r⟩
 ·cases e
theorem BO.dic_of{ds : Ab (Ab Ae × D)}(h : BO K CL H A a o (.dic ds)) : ∃ xs, o = .ext (FZ a xs) /\ Repk K CL H A xs ds := by
 rcases h with ⟨_, _, _, e, _⟩|⟨xs, ds', e, e2, r⟩
 ·cases e
 ·cases e2;exact⟨xs, e, r⟩
theorem BL.same{v : V}{d : D}(s : Ar H H')(h : BL K CL H A v d) : BL K CL H' A v d := by
 rcases h with h|⟨a, o, e, q, r⟩
 ·exact .inl (h.same s)
 ·exact .inr ⟨a, o, e, s _ _ q, r.same s⟩
theorem Reps.length : ∀{vs : Ab V}{ds : Ab D}, Reps K CL H A vs ds -> vs.length = ds.length
 |[], [], _ => rfl
 |_::_, _::_, h => congrArg (· + 1) (Reps.length h.2)
 |[], _::_, h => h.elim
 |_::_, [], h => h.elim
theorem Reps.append : ∀{vs ws : Ab V}{ds es : Ab D}, Reps K CL H A vs ds -> Reps K CL H A ws es -> Reps K CL H A (vs++ws) (ds++es)
 |[], _, [], _, _, h => h
 |_::_, _, _::_, _, h, g => ⟨h.1, Reps.append h.2 g⟩
 |[], _, _::_, _, h, _ => h.elim
 |_::_, _, [], _, h, _ => h.elim
theorem Reps.get : ∀{vs : Ab V}{ds : Ab D}{i : Ag}{d : D}, Reps K CL H A vs ds -> ds[i]? = Aa d -> ∃ v, vs[i]? = Aa v /\ Rep K CL H A v d
 |[], [], _, _, _, e => by simp at e
 |v::_, _::_, 0, _, h, e => by simp at e;subst e;exact⟨v, rfl, h.1⟩
 |_::_, _::_, i+1, _, h, e => by
  obtain⟨v, q, r⟩ := Reps.get (i := i) h.2 (by simpa using e)
  exact⟨v, by simpa using q, r⟩
 |[], _::_, _, _, h, _ => h.elim
 |_::_, [], _, _, h, _ => h.elim
theorem Reps.take : ∀{vs : Ab V}{ds : Ab D}(n : Ag), Reps K CL H A vs ds -> Reps K CL H A (vs.take n) (ds.take n)
 |_, _, 0, _ => trivial
 |[], [], _+1, _ => trivial
 |_::_, _::_, n+1, h => ⟨h.1, Reps.take n h.2⟩
 |[], _::_, _+1, h => h.elim
 |_::_, [], _+1, h => h.elim
theorem Reps.drop : ∀{vs : Ab V}{ds : Ab D}(n : Ag), Reps K CL H A vs ds -> Reps K CL H A (vs.drop n) (ds.drop n)
 |_, _, 0, h => h
 |[], [], _+1, _ => trivial
 |_::_, _::_, n+1, h => Reps.drop n h.2
 |[], _::_, _+1, h => h.elim
 |_::_, [], _+1, h => h.elim
theorem Reps.set{x : V}{e : D}(r : Rep K CL H A x e) : ∀{vs : Ab V}{ds : Ab D}(n : Ag), Reps K CL H A vs ds -> Reps K CL H A (vs.set n x) (ds.set n e)
 |[], [], _, _ => trivial
 |_::_, _::_, 0, h => ⟨r, h.2⟩
 |_::_, _::_, n+1, h => ⟨h.1, Reps.set r n h.2⟩
 |[], _::_, _, h => h.elim
 |_::_, [], _, h => h.elim
end
structure Good (K : Fg) (CL : ClA) (A : Ai -> Prop) (ρ : Rho) (σ : L2.St) (H : Hp) : Prop where
 sh : ∀(i : Ag)(d : D), ρ[i]? = Aa (Aa (d, Ad)) -> ∃ v, σ[i]? = Aa (Aa v) /\ Rep K CL H A v d
 ow : ∀(i : Ag)(d : D), ρ[i]? = Aa (Aa (d, Ac)) -> ∃ a o, σ[i]? = Aa (Aa (.ref a)) /\ A a /\ H a = Aa o /\ BO K CL H A a o d
 len : ρ.length = σ.length
theorem Good.same{K : Fg}{CL : ClA}{A : Ai -> Prop}{ρ : Rho}{σ : L2.St}{H H' : Hp}(g : Good K CL A ρ σ H)(s : Ar H H') : Good K CL A ρ σ H':=
 ⟨fun i d e => let ⟨v, q, r⟩ := g.sh i d e;⟨v, q, r.same s⟩, fun i d e => let ⟨a, o, q, na, h, r⟩ := g.ow i d e;⟨a, o, q, na, s _ _ h, r.same s⟩, g.len⟩
theorem Good.owL(g : Good K CL A ρ σ H){ds : Ab D}(e : ρ[i]? = Aa (Aa (.lst ds, Ac))) : ∃ a xs ds', σ[i]? = Aa (Aa (.ref a)) /\ D.lst ds = .lst ds' /\ A a /\ H a = Aa (.lst xs) /\ Reps K CL H A xs ds' := by
 obtain⟨a, o, q, na, h, r⟩ := g.ow i _ e;obtain⟨xs, rfl, r'⟩ := r.lst_of;exact⟨a, xs, ds, q, rfl, na, h, r'⟩
theorem Good.owK(g : Good K CL A ρ σ H){ds : Ab (Ab Ae × D)}(e : ρ[i]? = Aa (Aa (.dic ds, Ac))) : ∃ a xs, σ[i]? = Aa (Aa (.ref a)) /\ A a /\ H a = Aa (.ext (FZ a xs)) /\ Repk K CL H A xs ds := by
 obtain⟨a, o, q, na, h, r⟩ := g.ow i _ e;obtain⟨xs, rfl, r'⟩ := r.dic_of;exact⟨a, xs, q, na, h, r'⟩
noncomputable abbrev XW := Ex -> Hp -> Prop
variable{W:XW}
noncomputable def AT(Rp : Hp -> V -> D -> Prop)(W : XW)(H : Hp)(r : R D)(Q : VK) : Prop := match r with
  |.ok d => ∀ v H', Ar H H' -> Rp H' v d -> Q v H'
  |.exn x => ∀ H', Ar H H' -> W x H'
  |.bad => AW
noncomputable def EA(Rp : Hp -> Ab V -> Ab D -> Prop)(W : XW)(H : Hp)(r : R (Ab D))(Q : Ab V -> Hp -> Prop) : Prop := match r with
  |.ok d => ∀ v H', Ar H H' -> Rp H' v d -> Q v H'
  |.exn x => ∀ H', Ar H H' -> W x H'
  |.bad => AW
noncomputable def BV(W : XW)(H : Hp)(r : R An)(Q : An -> Hp -> Prop) : Prop := match r with
  |.ok b => ∀ H', Ar H H' -> Q b H'
  |.exn x => ∀ H', Ar H H' -> W x H'
  |.bad => AW
theorem AT.same(s : Ar H H')(h : AT Rp W H r Q) : AT Rp W H' r Q := by
 cases r with
 |ok d => exact fun v H2 s2 q => h v H2 (s.trans s2) q
 |exn x => exact fun H2 s2 => h H2 (s.trans s2)
 |bad => exact h
theorem BV.same{r:R An}{Q:An -> Hp -> Prop}(s : Ar H H')(h : BV W H r Q) : BV W H' r Q := by
 cases r with
 |ok d => exact fun H2 s2 => h H2 (s.trans s2)
 |exn x => exact fun H2 s2 => h H2 (s.trans s2)
 |bad => exact h
theorem AT.bind{f:D -> R D}{Q':VK}(h : AT Rq W H (r.bind f) Q)(k : ∀ d v H', r = .ok d -> Ar H H' -> Rp H' v d -> AT Rq W H' (f d) Q -> Q' v H') : AT Rp W H r Q' := by
 cases r with
 |ok d => exact fun v H2 s2 q => k d v H2 rfl s2 q (AT.same s2 h)
 |exn x => exact h
 |bad => exact h
section
variable(X : Cx)(CL : ClA)(W : XW)
noncomputable def SE(e : Ao)(f : Rho -> R D) : Prop := ∀ A, PE X e (fun σ H Q => AOk H A /\ ∃ ρ, Good X.K CL A ρ σ H /\ AT (fun H => Rep X.K CL H A) W H (f ρ) Q)
noncomputable def ST(e : Ao)(f : Rho -> R D) : Prop := ∀ A, PE X e (fun σ H Q => AOk H A /\ ∃ ρ, Good X.K CL A ρ σ H /\ AT (fun H => BL X.K CL H A) W H (f ρ) Q)
noncomputable def SB(e : Ao)(f : Rho -> R An) : Prop := ∀ A, PT X e (fun σ H Q => AOk H A /\ ∃ ρ, Good X.K CL A ρ σ H /\ BV W H (f ρ) Q)
noncomputable def SA(es : Ab Ao)(f : Rho -> R (Ab D)) : Prop := ∀ A, PA X es (fun σ H Q => AOk H A /\ ∃ ρ, Good X.K CL A ρ σ H /\ EA (fun H => Reps X.K CL H A) W H (f ρ) Q)
end
theorem PE.weak{t t':TE}(h : PE X e t)(k : ∀ σ H Q, t' σ H Q -> t σ H Q) : PE X e t' := fun pI s σ H Q I q => h pI s σ H Q I (k _ _ _ q)
theorem PT.weak{t:TT}(h : PT X e t)(k : ∀ σ H Q, t' σ H Q -> t σ H Q) : PT X e t' := fun pI s σ H Q I q => h pI s σ H Q I (k _ _ _ q)
theorem PA.weak{e:Ab Ao}{t t':TA}(h : PA X e t)(k : ∀ σ H Q, t' σ H Q -> t σ H Q) : PA X e t' := fun pos pI s σ H Q I q => h pos pI s σ H Q I (k _ _ _ q)
noncomputable def OpD(X : Cx)(CL : ClA)(W : XW)(f : Ah -> Ah -> Sem Ah)(g : D -> D -> R D) : Prop:=
 ∀ A, OpR X f (fun x y H Q => AOk H A /\ ∃ dx dy, BL X.K CL H A x dx /\ BL X.K CL H A y dy /\ AT (fun H => Rep X.K CL H A) W H (g dx dy) Q)
section
variable{X : Cx}{CL : ClA}{W : XW}{a b c : Ao}{fa fb fc : Rho -> R D}{pos : AH}
theorem SE.st(h : SE X CL W a fa) : ST X CL W a fa := fun A => PE.weak (h A) fun σ H Q ⟨hA, ρ, g, p⟩ => ⟨hA, ρ, g, by
 cases e : fa ρ with
 |ok d => rw[e]at p;exact fun v H' s r => p v H' s (.inl r)
 |exn x => rw[e]at p;exact p
 | bad => rw[e]at p;exact p⟩
theorem SE.congr{f g:Rho -> R D}(h : SE X CL W a f)(e : ∀ ρ, g ρ = f ρ) : SE X CL W a g := fun A => PE.weak (h A) fun σ H Q ⟨hA, ρ, q, p⟩ => ⟨hA, ρ, q, by rw[<-e];exact p⟩
theorem HH(h : PE X a (tC v))(r : ∀ H A, AOk H A -> Rep X.K CL H A v d) : SE X CL W a (fun _ => .ok d) := fun A => PE.weak h fun σ H Q ⟨hA, ρ, g, p⟩ => p v H (Ar.refl H) (r H A hA)
theorem Sq{i j} : SE X CL W (.Constant (.int i) j pos) (fun _ => .ok (.int i)) := HH RG fun _ _ _ => rfl
theorem T4{b j} : SE X CL W (.Constant (.bool b) j pos) (fun _ => .ok (.bl b)) := HH UA fun _ _ _ => rfl
theorem Sn{j} : SE X CL W (.Constant .none j pos) (fun _ => .ok .non) := HH Sf fun _ _ _ => rfl
theorem Sj{x j} : SE X CL W (.Constant (.str x) j pos) (fun _ => .ok (.str x)) := HH Sc fun _ _ _ => rfl
theorem PU(h : Dj ρ i = .ok d) : ρ[i]? = Aa (Aa (d, Ad)) := by
 unfold Dj at h;split at h
 ·rename_i e;cases h;exact e
 ·cases h
theorem KI(h : Be ρ i = .ok d) : ∃ o, ρ[i]? = Aa (Aa (d, o)) := by
 unfold Be at h;split at h
 ·rename_i e;cases h;exact⟨_, e⟩
 ·cases h
theorem Pj(h : Dj ρ i = .exn x) : AW := by
 unfold Dj at h;split at h <;> cases h
theorem KU(h : Be ρ i = .exn x) : AW := by
 unfold Be at h;split at h <;> cases h
theorem Sh(h : PE X a (Gv i)) : SE X CL W a (fun ρ => Dj ρ i) := fun A => PE.weak h fun σ H Q ⟨hA, ρ, g, p⟩ => by
 dsimp only at p;cases e : Dj ρ i with
 |ok d=>
  rw[e]at p;obtain⟨v, q, r⟩ := g.sh i d (PU e);exact⟨v, q, p v H (Ar.refl H) r⟩
 |exn x => exact(Pj e).elim
 |bad => rw[e]at p;exact p.elim
theorem Ri(h : PE X a (Gv i)) : ST X CL W a (fun ρ => Be ρ i) := fun A => PE.weak h fun σ H Q ⟨hA, ρ, g, p⟩ => by
 dsimp only at p;cases e : Be ρ i with
 |ok d=>
  rw[e]at p;obtain⟨o, e⟩ := KI e;cases o with
  |false=>
   obtain⟨v, q, r⟩ := g.sh i d e;exact⟨v, q, p v H (Ar.refl H) (.inl r)⟩
  |true=>
   obtain⟨x, o, q, ha, hh, r⟩ := g.ow i d e;exact⟨_, q, p _ H (Ar.refl H) (.inr ⟨x, o, rfl, hh, r⟩)⟩
 |exn x => exact(KU e).elim
 |bad => rw[e]at p;exact p.elim
theorem op2(h : AOk H A /\ ∃ ρ, Good X.K CL A ρ σ H /\ AT Rq W H ((fa ρ).bind fun x => (fb ρ).bind fun y => g x y) Q):AOk H A/\∃ ρ,Good X.K CL A ρ σ H/\AT (fun H =>BL X.K CL H A) W H (fa ρ) (fun x H1 =>AOk H1 A/\∃ ρ,Good X.K CL A ρ σ H1/\AT (fun H =>BL X.K CL H A) W H1 (fb ρ) (fun y H2=>AOk H2 A/\∃ dx dy,BL X.K CL H2 A x dx/\BL X.K CL H2 A y dy/\AT Rq W H2 (g dx dy) Q)) := by
 obtain⟨hA, ρ, gd, p⟩ := h;refine⟨hA, ρ, gd, AT.bind p fun dx x H1 _ s1 r1 p1 => ⟨hA.same s1, ρ, gd.same s1, AT.bind p1 fun dy y H2 _ s2 r2 p2 => ⟨(hA.same s1).same s2, dx, dy, r1.same s2, r2, p2⟩⟩⟩
theorem Lz{op:Ep}(ho : OpD X CL W (Bg op) g)(ha : ST X CL W a fa)(hb : ST X CL W b fb) : SE X CL W (.BinOp a op b pos) (fun ρ => (fa ρ).bind fun x => (fb ρ).bind fun y => g x y):=
 fun A => PE.weak (LX (ho A) (ha A) (hb A)) fun σ H Q h => op2 h
theorem Su(ho : OpD X CL W (Bw op) g)(ha : ST X CL W a fa)(hb : ST X CL W b fb)(hm : D6 op b = Ad) : SE X CL W (.Compare a [op] [b] pos) (fun ρ => (fa ρ).bind fun x => (fb ρ).bind fun y => g x y):=
 fun A => PE.weak (Q4 (ho A) (ha A) (hb A) hm) fun σ H Q h => op2 h
theorem BL.int_of{i:Ae}(h : BL K CL H A v (.int i)) : v = .int i := by
 rcases h with h|⟨_, _, _, _, ⟨_, _, _, e, _⟩|⟨_, _, _, e, _⟩⟩
 ·exact h
 ·cases e
 ·cases e
theorem BL.str_of{i:Aj}(h : BL K CL H A v (.str i)) : v = .str i := by
 rcases h with h|⟨_, _, _, _, ⟨_, _, _, e, _⟩|⟨_, _, _, e, _⟩⟩
 ·exact h
 ·cases e
 ·cases e
theorem BL.bl_of{i:An}(h : BL K CL H A v (.bl i)) : v = .bl i := by
 rcases h with h|⟨_, _, _, _, ⟨_, _, _, e, _⟩|⟨_, _, _, e, _⟩⟩
 ·exact h
 ·cases e
 ·cases e
theorem BL.non_of(h : BL K CL H A v .non) : v = .non := by
 rcases h with h|⟨_, _, _, _, ⟨_, _, _, e, _⟩|⟨_, _, _, e, _⟩⟩
 ·exact h
 ·cases e
 ·cases e
theorem BL.lst_of{K : Fg}{H : Hp}{A : Ai -> Prop}{v : V}{ds : Ab D}(h : BL K CL H A v (.lst ds)) : ∃ a xs, v = .ref a /\ SqL K H a xs /\ Reps K CL H A xs ds := by
 rcases h with ⟨a, xs, e, _, s, r⟩|⟨a, o, rfl, s, r⟩
 ·exact⟨a, xs, e, s, r⟩
 ·obtain⟨xs, rfl, r'⟩ := r.lst_of;exact⟨a, xs, rfl, SqL.of s, r'⟩
theorem BL.dic_of{K : Fg}{H : Hp}{A : Ai -> Prop}{v : V}{ds : Ab (Ab Ae × D)}(h : BL K CL H A v (.dic ds)) : ∃ a es, v = .ref a /\ H a = Aa (.ext (FZ a es)) /\ Repk K CL H A es ds := by
 rcases h with ⟨a, xs, e, _, s, r⟩|⟨a, o, rfl, s, r⟩
 ·exact⟨a, xs, e, s, r⟩
 ·obtain⟨xs, rfl, r'⟩ := r.dic_of;exact⟨a, xs, rfl, s, r'⟩
theorem BL.tup_of{ds : Ab D}(h : BL K CL H A v (.tup ds)) : ∃ a xs, v = .ref a /\ (¬ A a \/ KT K a xs) /\ SqT K H a xs /\ Reps K CL H A xs ds := by
 rcases h with ⟨a, xs, e, n, s, r⟩|⟨_, _, _, _, ⟨_, _, _, e, _⟩|⟨_, _, _, e, _⟩⟩
 ·exact⟨a, xs, e, n, s, r⟩
 ·cases e
 ·cases e
theorem QC{i j:Ae}(h : BE i j = Ac) : HQ i j := by
 unfold BE at h;simp only[Cy, Am, A1]at h;unfold HQ;omega
theorem K5{a : Ae}(h : a.natAbs<2 ^ 2000) : NC a <= 2 ^ 20 := by
 unfold NC;split
 ·omega
 ·rename_i hz;have h0 : a.natAbs ≠ 0 := by intro z;exact hz (by rw[Int.natAbs_eq_zero.mp z];rfl)
  have := (Nat.log2_lt h0).mpr h;omega
theorem QB{i j:Ae}(h : (BE i j||Fu i j) = Ac) : GA i j := by
 rcases Bool.or_eq_true_iff.mp h with h|h
 ·exact(QC h).ok
 ·unfold Fu at h;rw[Am, A1, A1]at h;exact .of_bits (K5 h.1) (K5 h.2)
theorem Re : OpR X (Bg .Mult) (rI GA fun i j => .int (i*j)) := opI fun _ _ _ _ _ _ _ hc q => mul_int q hc
theorem FL(h : B7 n = Ac) : n <= sizeLine := by
 unfold B7 at h;rw[Dm];have := Nq h;omega
theorem K8{ds : Ab D}(hA : AOk H A)(hp : H p = Af)(r : Reps K CL H A xs ds) : Rep K CL (upd H p (.lst xs)) A (.ref p) (.lst ds):=
 ⟨p, xs, rfl, .inl (hA.new hp), SqL.of Fs, r.same fun b o e => by rw[B4 (Ds e hp)];exact e⟩
theorem Hs{ds : Ab D}(hA : AOk H A)(hp : H p = Af)(r : Reps K CL H A xs ds) : Rep K CL (upd H p (.tup xs)) A (.ref p) (.tup ds):=
 ⟨p, xs, rfl, .inl (hA.new hp), SqT.of Fs, r.same fun b o e => by rw[B4 (Ds e hp)];exact e⟩
theorem D8(h : H p = Af)(o : HO) : Ar H (upd H p o) := fun b u q => by rw[B4 (Ds q h)];exact q
noncomputable def Vd(K : Fg) : R2 := fun x y H Q => ∃ l b xs zs, x = .ref l /\ y = .ref b /\ SqL K H l xs /\ SqL K H b zs /\ xs.length+zs.length <= sizeLine /\ ∀ p, H p = Af -> Q (.ref p) (upd H p (.lst (xs++zs)))
end
section
variable{X : Cx}{CL : ClA}{W : XW}
theorem Lr : OpR X (Bg .Add) (Vd X.K) := by
 intro pI s σ H x y v u Q I rx ry h;obtain⟨l, b, xs, zs, rfl, rfl, hH, hB, hz, q⟩ := h;cases rx;cases ry;obtain⟨its, r, ⟨o, n, e, c, dd, dt⟩, z⟩ := I.list hH;obtain⟨its2, r2, ⟨o2, n2, e2, c2, dd2, dt2⟩, z2⟩ := I.list hB;have hl := r.length;have hl2 := r2.length;obtain⟨cls, dd0, data, sl⟩ := o;obtain⟨cls2, dd02, data2, sl2⟩ := o2;simp only at c dd dt c2 dd2 dt2;subst c dd dt c2 dd2 dt2;have ea : its.toArray++its2.toArray = (its++its2).toArray := by simp
 refine Fn ⟨_, e, rfl⟩ ⟨_, e2, rfl⟩ noFill_list_add seq_list_add PySem.F.slot_list_add PySem.F.entry_list_add (PySem.F.args_list_add_2 _ _) (list_addW l b its.toArray its2.toArray n n2 Af Af sl sl2 (by simp;omega)) ⟨e, e2, ?_⟩
 rw[ea];exact⟨.ref _, _, I.lnew (t' := s.toks) (r.append r2) (by rw[BW];omega), rfl, q _ I.fresh⟩
theorem Lq : OpD X CL W (Bg .Add) (BN .Add) := by
 intro A pI s σ H x y v u Q I rx ry ⟨hA, dx, dy, hx, hy, p⟩;cases dx with
 |int i=>
  cases dy with
  |int j=>
   have ex := hx.int_of;have ey := hy.int_of
   subst ex ey;exact RO pI s σ H _ _ v u Q I rx ry ⟨i, j, rfl, rfl, p _ H (Ar.refl H) rfl⟩
  |_ => exact p.elim
 |str i=>
  cases dy with
  |str j=>
   have ex := hx.str_of;have ey := hy.str_of
   subst ex ey;simp only[TF]at p;split at p
   ·rename_i h;exact Op pI s σ H _ _ v u Q I rx ry ⟨i, j, rfl, rfl, FL h, p _ H (Ar.refl H) rfl⟩
   ·exact p.elim
  |_ => exact p.elim
 |lst ds=>
  cases dy with
  |lst es=>
   obtain⟨a, xs, rfl, s1, r1⟩ := hx.lst_of;obtain⟨b, ys, rfl, s2, r2⟩ := hy.lst_of;simp only[LP]at p;split at p
   ·rename_i h;refine Lr pI s σ H _ _ v u Q I rx ry ⟨a, b, xs, ys, rfl, rfl, s1, s2, by rw[r1.length, r2.length];exact FL h, fun q hq => ?_⟩
    exact p _ _ (D8 hq _) (K8 hA hq (r1.append r2))
   ·exact p.elim
  |_ => exact p.elim
 |tup ds=>
  cases dy with
  |tup es=>
   obtain⟨a, xs, rfl, na1, s1, r1⟩ := hx.tup_of;obtain⟨b, ys, rfl, _, s2, r2⟩ := hy.tup_of;simp only[TD]at p;split at p
   ·rename_i h;simp only[Am]at h;refine Qy pI s σ H _ _ v u Q I rx ry ⟨a, b, xs, ys, rfl, rfl, s1, s2, ?_, by rw[r1.length, r2.length];exact FL h.2, fun hy0 => ?_, fun _ q hq => ?_⟩
    ·rintro rfl;cases ds with
     |nil => cases h.1
     |cons _ _ => exact r1.elim
    ·subst hy0;cases es with
     |nil => rw[BZ]at p;exact p _ H (Ar.refl H) ⟨a, xs, rfl, na1, s1, r1⟩
     |cons _ _ => exact r2.elim
    ·exact p _ _ (D8 hq _) (Hs hA hq (r1.append r2))
   ·exact p.elim
  |_ => exact p.elim
 |_ => exact p.elim
theorem Hq{op:Ep}{C:Ae -> Ae -> Prop}{g:Ae -> Ae -> Ae}(ho : OpR X (Bg op) (rI C fun i j => .int (g i j)))(hg : ∀ dx dy, (∃ i j, dx = .int i /\ dy = .int j /\ ((C i j /\ BN op dx dy = .ok (.int (g i j))) \/ BN op dx dy = .bad)) \/ BN op dx dy = .bad) : OpD X CL W (Bg op) (BN op) := by
 intro A pI s σ H x y v u Q I rx ry ⟨hA, dx, dy, hx, hy, p⟩;rcases hg dx dy with ⟨i, j, rfl, rfl, ⟨c, e⟩|e⟩|e
 ·have ex := hx.int_of;have ey := hy.int_of
  subst ex ey;rw[e]at p;exact ho pI s σ H _ _ v u Q I rx ry ⟨i, j, rfl, rfl, c, p _ H (Ar.refl H) rfl⟩
 ·rw[e]at p;exact p.elim
 ·rw[e]at p;exact p.elim
theorem Q8 : OpD X CL W (Bg .Sub) (BN .Sub) := by
 intro A pI s σ H x y v u Q I rx ry ⟨hA, dx, dy, hx, hy, p⟩;cases dx with
 |int i=>
  cases dy with
  |int j=>
   have ex := hx.int_of;have ey := hy.int_of
   subst ex ey;exact RJ pI s σ H _ _ v u Q I rx ry ⟨i, j, rfl, rfl, p _ H (Ar.refl H) rfl⟩
  |_ => exact p.elim
 |_ => exact p.elim
theorem Ra : OpD X CL W (Bg .Mult) (BN .Mult) := Hq Re fun dx dy => by
 cases dx with
 |int i=>
  cases dy with
  |int j=>
   refine .inl ⟨i, j, rfl, rfl, ?_⟩;rw[Te];split
   ·rename_i h;exact .inl ⟨QB h, rfl⟩
   ·exact .inr rfl
  |_ => exact .inr rfl
 |_ => exact .inr rfl
theorem O4 : OpD X CL W (Bg .FloorDiv) (BN .FloorDiv) := Hq Qx fun dx dy => by
 cases dx with
 |int i=>
  cases dy with
  |int j=>
   refine .inl ⟨i, j, rfl, rfl, ?_⟩;rw[Qp];split
   ·rename_i h;exact .inl ⟨h, rfl⟩
   ·exact .inr rfl
  |_ => exact .inr rfl
 |_ => exact .inr rfl
theorem Rb : OpD X CL W (Bg .Mod) (BN .Mod) := Hq RM fun dx dy => by
 cases dx with
 |int i=>
  cases dy with
  |int j=>
   refine .inl ⟨i, j, rfl, rfl, ?_⟩;rw[Tf];split
   ·rename_i h;exact .inl ⟨h, rfl⟩
   ·exact .inr rfl
  |_ => exact .inr rfl
 |_ => exact .inr rfl
theorem Q9 : OpD X CL W (Bg .Pow) (BN .Pow) := Hq RK fun dx dy => by
 cases dx with
 |int i=>
  cases dy with
  |int j=>
   refine .inl ⟨i, j, rfl, rfl, ?_⟩;rw[R6];split
   ·rename_i h;exact .inl ⟨⟨h.1.1, h.1.2, by omega⟩, rfl⟩
   ·exact .inr rfl
  |_ => exact .inr rfl
 |_ => exact .inr rfl
theorem Lp(op : Ep) : OpD X CL W (Bg op) (BN op) := by
 cases op with
 |Add => exact Lq
 |Sub => exact Q8
 |Mult => exact Ra
 |FloorDiv => exact O4
 |Mod => exact Rb
 |Pow => exact Q9
 |_=>
  intro A pI s σ H x y v u Q I rx ry ⟨hA, dx, dy, hx, hy, p⟩;cases dx <;> cases dy <;> exact p.elim
noncomputable abbrev A0 : Ai -> Prop := fun _ => AW
theorem BL.plain(h : BL K CL H A v d) : Rep K CL H A0 v d := by
 rcases h with h|⟨a, o, rfl, e, ⟨xs, ds, rfl, rfl, r⟩|⟨es, ds, rfl, rfl, r⟩⟩
 ·exact Rep.sub (fun _ z => z.elim) d h
 ·exact⟨a, xs, rfl, .inl fun z => z.elim, SqL.of e, Reps.sub (fun _ z => z.elim) ds r⟩
 ·exact⟨a, es, rfl, fun z => z.elim, e, Repk.sub (fun _ z => z.elim) ds r⟩
mutual
theorem Pd : ∀(n : Ag)(d : D), flD n d = Ac -> eqD d d = Ac
 |_, .non, _ => rfl
 |_, .bl b, _ => by simp
 |_, .int i, _ => by simp
 |_, .str x, _ => by simp
 |n+1, .tup ds, h => by
  show eqDs ds ds = Ac;exact eqDs_refl n ds h
 |n+1, .lst ds, h => by
  show eqDs ds ds = Ac;exact eqDs_refl n ds h
 |0, .tup ds, h => by cases h
 |0, .lst ds, h => by cases h
 |n, .obj _ _, h => by cases n <;> cases h
 |n, .exc _ _, h => by cases n <;> cases h
 |n, .dic _, h => by cases n <;> cases h
theorem eqDs_refl : ∀(n : Ag)(ds : Ab D), ds.all (flD n) = Ac -> eqDs ds ds = Ac
 |_, [], _ => rfl
 |n, d::ds, h => by
  simp only[D5, Am]at h;simp only[IK, Am];exact⟨Pd n d h.1, eqDs_refl n ds h.2⟩
end
theorem J2{ys:Ab V}(I : Inv X pI σ H s)(h : SqL X.K H a xs)(h' : SqT X.K H a ys) : AW := by
 obtain⟨its, r, ⟨o, n, e, c, _, _⟩, _⟩ := I.list h;obtain⟨its', r', ⟨o', e', c', _⟩, _⟩ := I.tuple h';rw[e]at e';cases e';rw[c]at c'
 injection c' with z
 exact absurd z (by decide)
mutual
theorem Hn{pI : Ab (Ai × Ay)}{σ : L2.St}{H : Hp}{s : Ak}(I : Inv X pI σ H s) : ∀(n : Ag)(d e : D){v : V}, flD n d = Ac -> flD n e = Ac -> Rep X.K CL H A0 v d -> Rep X.K CL H A0 v e -> d = e
 |n, .tup ds, e, v, hd, he, r, q => by
  obtain⟨a, xs, rfl, _, s1, r1⟩ := r;cases e with
  |tup es=>
   obtain⟨b, ys, e, _, s2, r2⟩ := q;cases e;have z := I.tuple_inj s1 s2;subst z;cases n with
   |zero => cases hd
   |succ n => rw[reps_inj I n ds es hd he r1 r2]
  |lst es=>
   obtain⟨b, ys, e, _, s2, r2⟩ := q;cases e;exact(J2 I s2 s1).elim
  |obj => cases n <;> cases he
  |exc => cases n <;> cases he
  |dic => cases n <;> cases he
  |_ => cases q
 |n, .lst ds, e, v, hd, he, r, q => by
  obtain⟨a, xs, rfl, _, s1, r1⟩ := r;cases e with
  |lst es=>
   obtain⟨b, ys, e, _, s2, r2⟩ := q;cases e;have z := I.list_inj s1 s2;subst z;cases n with
   |zero => cases hd
   |succ n => rw[reps_inj I n ds es hd he r1 r2]
  |tup es=>
   obtain⟨b, ys, e, _, s2, r2⟩ := q;cases e;exact(J2 I s1 s2).elim
  |obj => cases n <;> cases he
  |exc => cases n <;> cases he
  |dic => cases n <;> cases he
  |_ => cases q
 |n, .obj _ _, e, v, hd, he, r, q => by cases n <;> cases hd
 |n, .exc _ _, e, v, hd, he, r, q => by cases n <;> cases hd
 |n, .dic _, e, v, hd, he, r, q => by cases n <;> cases hd
 |n, .non, e, v, hd, he, r, q => by
  cases r;cases e with
  |tup => obtain⟨_, _, z, _⟩ := q;cases z
  |lst => obtain⟨_, _, z, _⟩ := q;cases z
  |obj => cases n <;> cases he
  |exc => cases n <;> cases he
  |dic => cases n <;> cases he
  |_ => cases q <;> rfl
 |n, .bl b, e, v, hd, he, r, q => by
  cases r;cases e with
  |tup => obtain⟨_, _, z, _⟩ := q;cases z
  |lst => obtain⟨_, _, z, _⟩ := q;cases z
  |obj => cases n <;> cases he
  |exc => cases n <;> cases he
  |dic => cases n <;> cases he
  |_ => cases q <;> rfl
 |n, .int b, e, v, hd, he, r, q => by
  cases r;cases e with
  |tup => obtain⟨_, _, z, _⟩ := q;cases z
  |lst => obtain⟨_, _, z, _⟩ := q;cases z
  |obj => cases n <;> cases he
  |exc => cases n <;> cases he
  |dic => cases n <;> cases he
  |_ => cases q <;> rfl
 |n, .str b, e, v, hd, he, r, q => by
  cases r;cases e with
  |tup => obtain⟨_, _, z, _⟩ := q;cases z
  |lst => obtain⟨_, _, z, _⟩ := q;cases z
  |obj => cases n <;> cases he
  |exc => cases n <;> cases he
  |dic => cases n <;> cases he
  |_ => cases q <;> rfl
theorem reps_inj{pI : Ab (Ai × Ay)}{σ : L2.St}{H : Hp}{s : Ak}(I : Inv X pI σ H s) : ∀(n : Ag)(ds es : Ab D){xs : Ab V}, ds.all (flD n) = Ac -> es.all (flD n) = Ac -> Reps X.K CL H A0 xs ds -> Reps X.K CL H A0 xs es -> ds = es
 |_, [], [], _, _, _, _, _ => rfl
 |n, d::ds, e::es, x::xs, hd, he, r, q => by
  simp only[D5, Am]at hd he;rw[Hn I n d e hd.1 he.1 r.1 q.1, reps_inj I n ds es hd.2 he.2 r.2 q.2]
 |_, [], _::_, [], _, _, _, q => q.elim
 |_, [], _::_, _::_, _, _, r, _ => r.elim
 |_, _::_, [], [], _, _, r, _ => r.elim
 |_, _::_, [], _::_, _, _, _, q => q.elim
 |_, _::_, _::_, [], _, _, r, _ => r.elim
end
theorem GM : ∀{ds es : Ab D}, ds.length ≠ es.length -> eqDs ds es = Ad
 |[], [], h => absurd rfl h
 |[], _::_, _ => rfl
 |_::_, [], _ => rfl
 |d::ds, e::es, h => by
  simp only[IK, GM (ds := ds) (es := es) (by simpa using h), ER]
theorem JP(n : Ag)(f : Ag -> An) : (B1 (n+1)).all f = (f 0&&(B1 n).all fun j => f (j+1)) := by
 rw[List.range_succ_eq_map, D5, List.all_map];rfl
theorem GN : ∀{ds es : Ab D}, ds.length = es.length -> eqDs ds es = (B1 ds.length).all fun j => eqD (ds.getD j .non) (es.getD j .non)
 |[], [], _ => rfl
 |d::ds, e::es, h => by
  rw[IK, GN (ds := ds) (es := es) (by simpa using h), Dp, JP]
  rfl
 |[], _::_, h => by cases h
 |_::_, [], h => by cases h
theorem FO{ds : Ab D}(r : Reps K CL H A0 xs ds)(rv : AN xs its)(h : j<its.length):∃ x,Rep K CL H A0 x (ds.getD j .non)/\A6 x its[j] := by
 have e1 := rv.length;have e2 := r.length;have hd : ds[j]? = Aa (ds.getD j .non) := by
  rw[Ce, BG (by omega)];rfl
 obtain⟨x, hx, q⟩ := r.get hd;obtain⟨u, hu, ru⟩ := rv.get hx;refine⟨x, q, ?_⟩;rw[BG h]at hu;cases hu;exact ru
theorem FN{ds : Ab D}(h : ds.all (flD n) = Ac)(j : Ag) : flD n (ds.getD j .non) = Ac := by
 rw[Ce];cases e : ds[j]? with
 |none => cases n <;> rfl
 |some d => exact List.all_eq_true.mp h d (Nm e)
noncomputable def BA(B : AI)(s : Ak)(u t : Ah)(k : An) : Prop := F2 B s u t k /\ DI B s u t k /\ Fk B s u t (!k)
section
variable{B : AI}{s : Ak}
open SeqAt
theorem T2 : BA B s .none .none Ac := ⟨RcAt.none_none, EqAt.same _, RcNeAt.none_none⟩
theorem U9(a b : An) : BA B s (.bool a) (.bool b) (a==b) := ⟨RcAt.bool_bool _ _, EqAt.bool_bool _ _, RcNeAt.bool_bool _ _⟩
theorem US(b : An) : BA B s .none (.bool b) Ad := ⟨RcAt.none_bool _, EqAt.none_bool _, RcNeAt.none_bool _⟩
theorem U6(b : An) : BA B s (.bool b) .none Ad := ⟨RcAt.bool_none _, EqAt.bool_none _, RcNeAt.bool_none _⟩
theorem U2(a : Ae)(t : B6)(b : Ae)(u : B6) : BA B s (.int a t) (.int b u) (a==b) := ⟨RcAt.int_int _ _ _ _, EqAt.int_int _ _ _ _, RcNeAt.int_int _ _ _ _⟩
theorem TR(a : Aj)(t : B6)(b : Aj)(u : B6) : BA B s (.str a t) (.str b u) (a==b) := ⟨RcAt.str_str _ _ _ _, EqAt.str_str _ _ _ _, RcNeAt.str_str _ _ _ _⟩
theorem UZ(a : Ae)(t : B6)(b : Aj)(u : B6) : BA B s (.int a t) (.str b u) Ad := ⟨RcAt.int_str _ _ _ _, EqAt.int_str _ _ _ _, RcNeAt.int_str _ _ _ _⟩
theorem TW(a : Aj)(t : B6)(b : Ae)(u : B6) : BA B s (.str a t) (.int b u) Ad := ⟨RcAt.str_int _ _ _ _, EqAt.str_int _ _ _ _, RcNeAt.str_int _ _ _ _⟩
theorem UR(b : Ae)(u : B6) : BA B s .none (.int b u) Ad := ⟨RcAt.none_int _ _, EqAt.none_int _ _, RcNeAt.none_int _ _⟩
theorem U0(b : Ae)(u : B6) : BA B s (.int b u) .none Ad := ⟨RcAt.int_none _ _, EqAt.int_none _ _, RcNeAt.int_none _ _⟩
theorem TZ(b : Aj)(u : B6) : BA B s .none (.str b u) Ad := ⟨RcAt.none_str _ _, EqAt.none_str _ _, RcNeAt.none_str _ _⟩
theorem TU(b : Aj)(u : B6) : BA B s (.str b u) .none Ad := ⟨RcAt.str_none _ _, EqAt.str_none _ _, RcNeAt.str_none _ _⟩
theorem U8(a : An)(b : Ae)(u : B6) : BA B s (.bool a) (.int b u) (b2i a==b) := ⟨RcAt.bool_int _ _ _, EqAt.bool_int _ _ _, RcNeAt.bool_int _ _ _⟩
theorem U3(a : An)(b : Ae)(u : B6) : BA B s (.int b u) (.bool a) (b==b2i a) := ⟨RcAt.int_bool _ _ _, EqAt.int_bool _ _ _, RcNeAt.int_bool _ _ _⟩
theorem U5(a : An)(b : Aj)(u : B6) : BA B s (.bool a) (.str b u) Ad := ⟨RcAt.bool_str _ _ _, EqAt.bool_str _ _ _, RcNeAt.bool_str _ _ _⟩
theorem TX(a : An)(b : Aj)(u : B6) : BA B s (.str b u) (.bool a) Ad := ⟨RcAt.str_bool _ _ _, EqAt.str_bool _ _ _, RcNeAt.str_bool _ _ _⟩
variable{l : Ai}{items : A4 Ah}
theorem UV(h : s.heap.IsList l items)(hu : B.units<Bl) : BA B s (.ref l) .none Ad := ⟨RcAt.list_none h hu, EqAt.list_none h hu, RcNeAt.list_none h hu⟩
theorem UQ(h : s.heap.IsList l items)(hu : B.units<Bl) : BA B s .none (.ref l) Ad := ⟨RcAt.none_list h hu, EqAt.none_list h hu, RcNeAt.none_list h hu⟩
theorem UX(b : An)(h : s.heap.IsList l items)(hu : B.units<Bl) : BA B s (.ref l) (.bool b) Ad := ⟨RcAt.list_bool b h hu, EqAt.list_bool b h hu, RcNeAt.list_bool b h hu⟩
theorem U7(b : An)(h : s.heap.IsList l items)(hu : B.units<Bl) : BA B s (.bool b) (.ref l) Ad := ⟨RcAt.bool_list b h hu, EqAt.bool_list b h hu, RcNeAt.bool_list b h hu⟩
theorem UW(b : Ae)(u : B6)(h : s.heap.IsList l items)(hu : B.units<Bl) : BA B s (.ref l) (.int b u) Ad := ⟨RcAt.list_int b u h hu, EqAt.list_int b u h hu, RcNeAt.list_int b u h hu⟩
theorem U1(b : Ae)(u : B6)(h : s.heap.IsList l items)(hu : B.units<Bl) : BA B s (.int b u) (.ref l) Ad := ⟨RcAt.int_list b u h hu, EqAt.int_list b u h hu, RcNeAt.int_list b u h hu⟩
theorem UU(b : Aj)(u : B6)(h : s.heap.IsList l items)(hu : B.units<Bl) : BA B s (.ref l) (.str b u) Ad := ⟨RcAt.list_str b u h hu, EqAt.list_str b u h hu, RcNeAt.list_str b u h hu⟩
theorem TV(b : Aj)(u : B6)(h : s.heap.IsList l items)(hu : B.units<Bl) : BA B s (.str b u) (.ref l) Ad := ⟨RcAt.str_list b u h hu, EqAt.str_list b u h hu, RcNeAt.str_list b u h hu⟩
theorem Uc(h : s.heap.IsTuple l items)(hu : B.units<Bl) : BA B s (.ref l) .none Ad := ⟨RcAt.tuple_none h hu, EqAt.tuple_none h hu, RcNeAt.tuple_none h hu⟩
theorem TY(h : s.heap.IsTuple l items)(hu : B.units<Bl) : BA B s .none (.ref l) Ad := ⟨RcAt.none_tuple h hu, EqAt.none_tuple h hu, RcNeAt.none_tuple h hu⟩
theorem TN(b : An)(h : s.heap.IsTuple l items)(hu : B.units<Bl) : BA B s (.ref l) (.bool b) Ad := ⟨RcAt.tuple_bool b h hu, EqAt.tuple_bool b h hu, RcNeAt.tuple_bool b h hu⟩
theorem U4(b : An)(h : s.heap.IsTuple l items)(hu : B.units<Bl) : BA B s (.bool b) (.ref l) Ad := ⟨RcAt.bool_tuple b h hu, EqAt.bool_tuple b h hu, RcNeAt.bool_tuple b h hu⟩
theorem Ue(b : Ae)(u : B6)(h : s.heap.IsTuple l items)(hu : B.units<Bl) : BA B s (.ref l) (.int b u) Ad := ⟨RcAt.tuple_int b u h hu, EqAt.tuple_int b u h hu, RcNeAt.tuple_int b u h hu⟩
theorem UY(b : Ae)(u : B6)(h : s.heap.IsTuple l items)(hu : B.units<Bl) : BA B s (.int b u) (.ref l) Ad := ⟨RcAt.int_tuple b u h hu, EqAt.int_tuple b u h hu, RcNeAt.int_tuple b u h hu⟩
theorem Ub(b : Aj)(u : B6)(h : s.heap.IsTuple l items)(hu : B.units<Bl) : BA B s (.ref l) (.str b u) Ad := ⟨RcAt.tuple_str b u h hu, EqAt.tuple_str b u h hu, RcNeAt.tuple_str b u h hu⟩
theorem TQ(b : Aj)(u : B6)(h : s.heap.IsTuple l items)(hu : B.units<Bl) : BA B s (.str b u) (.ref l) Ad := ⟨RcAt.str_tuple b u h hu, EqAt.str_tuple b u h hu, RcNeAt.str_tuple b u h hu⟩
theorem UT(h : s.heap.IsList l items)(h2 : s.heap.IsTuple b items2)(hu : B.units<Bl) : BA B s (.ref l) (.ref b) Ad := ⟨RcAt.list_tuple h h2 hu, EqAt.list_tuple h h2 hu, RcNeAt.list_tuple h h2 hu⟩
theorem Ud(h : s.heap.IsTuple l items)(h2 : s.heap.IsList b items2)(hu : B.units<Bl) : BA B s (.ref l) (.ref b) Ad := ⟨RcAt.tuple_list h h2 hu, EqAt.tuple_list h h2 hu, RcNeAt.tuple_list h h2 hu⟩
end
end
section
variable{X : Cx}{CL : ClA}{W : XW}
theorem Gk{its:A4 Ah}(x : PlainL h a its) : h.IsList a its := let ⟨o, n, e, c, _, d⟩ := x;⟨o, e, c, n, d⟩
noncomputable def VW(X : Cx)(CL : ClA)(H : Hp)(s : Ak)(d : D)(u : Ah) : Prop := match d with
  |.non => u = .none
  |.bl b => u = .bool b
  |.int i => ∃ t, u = .int i t
  |.str x => ∃ t, u = .str x t
  |.tup ds => ∃ a xs its, u = .ref a /\ Reps X.K CL H A0 xs ds /\ AN xs its /\ s.heap.IsTuple a its.toArray
  |.lst ds => ∃ a xs its, u = .ref a /\ Reps X.K CL H A0 xs ds /\ AN xs its /\ s.heap.IsList a its.toArray
  |_ => AW
theorem Ll(I : Inv X pI σ H s)(hd : flD n d = Ac)(r : Rep X.K CL H A0 v d)(q : A6 v u) : VW X CL H s d u := by
 cases d with
 |non => cases r;exact q
 |bl b => cases r;exact q
 |int b => cases r;exact q
 |str b => cases r;exact q
 |tup ds=>
  obtain⟨a, xs, rfl, _, sq, r⟩ := r;obtain⟨its, rv, p, _⟩ := I.tuple sq;cases q;exact⟨a, xs, its, rfl, r, rv, p⟩
 |lst ds=>
  obtain⟨a, xs, rfl, _, sq, r⟩ := r;obtain⟨its, rv, p, _⟩ := I.list sq;cases q;exact⟨a, xs, its, rfl, r, rv, Gk p⟩
 |obj => cases n <;> cases hd
 |exc => cases n <;> cases hd
 |dic => cases n <;> cases hd
theorem PQ{B:AI}{ds es : Ab D}(hl : s.heap.IsList l its.toArray)(hb : s.heap.IsList b its2.toArray)(e1 : its.length = ds.length)(e2 : its2.length = es.length)(hu : B.units<Bl)(hs : l = b -> eqDs ds es = Ac)(he : ∀ j (h1 : j<its.length) (h2 : j<its2.length), DI B.in1 s its[j] its2[j] (eqD (ds.getD j .non) (es.getD j .non))) : BA B s (.ref l) (.ref b) (eqDs ds es) := by
 have rc : F2 B s (.ref l) (.ref b) (eqDs ds es) := by
  by_cases hz : its.length = its2.length
  ·have q := SeqAt.RcAt.lists (e := fun j => eqD (ds.getD j .non) (es.getD j .non)) hl hb (by simpa using hz) hu (fun j h1 h2 => by simpa using he j (by simpa using h1) (by simpa using h2))
   rw[GN (by omega)]
   have e : its.toArray.size = ds.length := by simpa using e1
   rw[e]at q;exact q
  ·rw[GM (by omega)]
   exact SeqAt.RcAt.lists_lengths hl hb (by simpa using hz) hu
 have ne : Fk B s (.ref l) (.ref b) (!eqDs ds es) := by
  by_cases hz : its.length = its2.length
  ·have q := SeqAt.RcNeAt.lists (e := fun j => eqD (ds.getD j .non) (es.getD j .non)) hl hb (by simpa using hz) hu (fun j h1 h2 => by simpa using he j (by simpa using h1) (by simpa using h2))
   rw[GN (by omega)]
   have e : its.toArray.size = ds.length := by simpa using e1
   rw[e]at q;exact q
  ·rw[GM (by omega)]
   exact SeqAt.RcNeAt.lists_lengths hl hb (by simpa using hz) hu
 refine⟨rc, ?_, ne⟩;by_cases hlb : l = b
 ·rw[hs hlb, hlb];exact NM _
 ·exact NL hlb rc
theorem PN{B:AI}{ds es : Ab D}(hl : s.heap.IsTuple l its.toArray)(hb : s.heap.IsTuple b its2.toArray)(e1 : its.length = ds.length)(e2 : its2.length = es.length)(hu : B.units<Bl)(hs : l = b -> eqDs ds es = Ac)(he : ∀ j (h1 : j<its.length) (h2 : j<its2.length), DI B.in1 s its[j] its2[j] (eqD (ds.getD j .non) (es.getD j .non))) : BA B s (.ref l) (.ref b) (eqDs ds es) := by
 have rc : F2 B s (.ref l) (.ref b) (eqDs ds es) := by
  have q := SeqAt.RcAt.tuples (e := fun j => eqD (ds.getD j .non) (es.getD j .non)) hl hb hu (fun j h1 h2 => by simpa using he j (by simpa using h1) (by simpa using h2))
  have e : its.toArray.size = ds.length := by simpa using e1
  have e' : its2.toArray.size = es.length := by simpa using e2
  rw[e, e']at q;by_cases hz : ds.length = es.length
  ·rw[GN hz];rw[hz, Nt, Dw, MX]at q;rw[hz];exact q
  ·rw[GM hz];rw[C2.mpr hz, ER]at q;exact q
 have ne : Fk B s (.ref l) (.ref b) (!eqDs ds es) := by
  have q := SeqAt.RcNeAt.tuples (e := fun j => eqD (ds.getD j .non) (es.getD j .non)) hl hb hu (fun j h1 h2 => by simpa using he j (by simpa using h1) (by simpa using h2))
  have e : its.toArray.size = ds.length := by simpa using e1
  have e' : its2.toArray.size = es.length := by simpa using e2
  rw[e, e']at q;by_cases hz : ds.length = es.length
  ·rw[GN hz];rw[hz, Nt, Dw, MX]at q;rw[hz];exact q
  ·rw[GM hz];rw[C2.mpr hz, ER]at q;exact q
 refine⟨rc, ?_, ne⟩;by_cases hlb : l = b
 ·rw[hs hlb, hlb];exact NM _
 ·exact NL hlb rc
theorem GS{pI : Ab (Ai × Ay)}{σ : L2.St}{H : Hp}{s : Ak}(I : Inv X pI σ H s) :∀(n :Ag)(d e :D)(v w' :V)(u t :Ah)(B :AI),flD n d = Ac->flD n e = Ac->Rep X.K CL H A0 v d->Rep X.K CL H A0 w' e->A6 v u->A6 w' t->B.units+n<Bl->BA B s u t (eqD d e)
  |n, d, e, v, w', u, t, B, hd, he, r, q, rv, rw', hu => by
    have hu0 : B.units<Bl := by omega
    have sd := Ll I hd r rv;have se := Ll I he q rw'
    match d, e, sd, se with
    |.non, .non, s1, s2 => cases s1;cases s2;exact T2
    |.non, .bl b, s1, s2 => cases s1;cases s2;exact US b
    |.non, .int b, s1, s2 => cases s1;obtain⟨_, rfl⟩ := s2;exact UR b _
    |.non, .str b, s1, s2 => cases s1;obtain⟨_, rfl⟩ := s2;exact TZ b _
    |.non, .tup es, s1, s2 => cases s1;obtain⟨_, _, _, rfl, _, _, p⟩ := s2;exact TY p hu0
    |.non, .lst es, s1, s2 => cases s1;obtain⟨_, _, _, rfl, _, _, p⟩ := s2;exact UQ p hu0
    |.bl a, .non, s1, s2 => cases s1;cases s2;exact U6 a
    |.bl a, .bl b, s1, s2 => cases s1;cases s2;exact U9 a b
    |.bl a, .int b, s1, s2 => cases s1;obtain⟨_, rfl⟩ := s2;exact U8 a b _
    |.bl a, .str b, s1, s2 => cases s1;obtain⟨_, rfl⟩ := s2;exact U5 a b _
    |.bl a, .tup es, s1, s2 => cases s1;obtain⟨_, _, _, rfl, _, _, p⟩ := s2;exact U4 a p hu0
    |.bl a, .lst es, s1, s2 => cases s1;obtain⟨_, _, _, rfl, _, _, p⟩ := s2;exact U7 a p hu0
    |.int a, .non, s1, s2 => obtain⟨_, rfl⟩ := s1;cases s2;exact U0 a _
    |.int a, .bl b, s1, s2 => obtain⟨_, rfl⟩ := s1;cases s2;exact U3 b a _
    |.int a, .int b, s1, s2 => obtain⟨_, rfl⟩ := s1;obtain⟨_, rfl⟩ := s2;exact U2 a _ b _
    |.int a, .str b, s1, s2 => obtain⟨_, rfl⟩ := s1;obtain⟨_, rfl⟩ := s2;exact UZ a _ b _
    |.int a, .tup es, s1, s2 => obtain⟨_, rfl⟩ := s1;obtain⟨_, _, _, rfl, _, _, p⟩ := s2;exact UY a _ p hu0
    |.int a, .lst es, s1, s2 => obtain⟨_, rfl⟩ := s1;obtain⟨_, _, _, rfl, _, _, p⟩ := s2;exact U1 a _ p hu0
    |.str a, .non, s1, s2 => obtain⟨_, rfl⟩ := s1;cases s2;exact TU a _
    |.str a, .bl b, s1, s2 => obtain⟨_, rfl⟩ := s1;cases s2;exact TX b a _
    |.str a, .int b, s1, s2 => obtain⟨_, rfl⟩ := s1;obtain⟨_, rfl⟩ := s2;exact TW a _ b _
    |.str a, .str b, s1, s2 => obtain⟨_, rfl⟩ := s1;obtain⟨_, rfl⟩ := s2;exact TR a _ b _
    |.str a, .tup es, s1, s2 => obtain⟨_, rfl⟩ := s1;obtain⟨_, _, _, rfl, _, _, p⟩ := s2;exact TQ a _ p hu0
    |.str a, .lst es, s1, s2 => obtain⟨_, rfl⟩ := s1;obtain⟨_, _, _, rfl, _, _, p⟩ := s2;exact TV a _ p hu0
    |.tup ds, .non, s1, s2 => cases s2;obtain⟨_, _, _, rfl, _, _, p⟩ := s1;exact Uc p hu0
    |.tup ds, .bl b, s1, s2 => cases s2;obtain⟨_, _, _, rfl, _, _, p⟩ := s1;exact TN b p hu0
    |.tup ds, .int b, s1, s2 => obtain⟨_, rfl⟩ := s2;obtain⟨_, _, _, rfl, _, _, p⟩ := s1;exact Ue b _ p hu0
    |.tup ds, .str b, s1, s2 => obtain⟨_, rfl⟩ := s2;obtain⟨_, _, _, rfl, _, _, p⟩ := s1;exact Ub b _ p hu0
    |.tup ds, .lst es, s1, s2 => obtain⟨_, _, _, rfl, _, _, p⟩ := s1;obtain⟨_, _, _, rfl, _, _, p2⟩ := s2;exact Ud p p2 hu0
    |.lst ds, .non, s1, s2 => cases s2;obtain⟨_, _, _, rfl, _, _, p⟩ := s1;exact UV p hu0
    |.lst ds, .bl b, s1, s2 => cases s2;obtain⟨_, _, _, rfl, _, _, p⟩ := s1;exact UX b p hu0
    |.lst ds, .int b, s1, s2 => obtain⟨_, rfl⟩ := s2;obtain⟨_, _, _, rfl, _, _, p⟩ := s1;exact UW b _ p hu0
    |.lst ds, .str b, s1, s2 => obtain⟨_, rfl⟩ := s2;obtain⟨_, _, _, rfl, _, _, p⟩ := s1;exact UU b _ p hu0
    |.lst ds, .tup es, s1, s2 => obtain⟨_, _, _, rfl, _, _, p⟩ := s1;obtain⟨_, _, _, rfl, _, _, p2⟩ := s2;exact UT p p2 hu0
    |.tup ds, .tup es, s1, s2=>
      match n, hd, he, hu with
      |n+1, hd, he, hu=>
        obtain⟨a, xs, its, rfl, r1, v1, p1⟩ := s1;obtain⟨b, ys, its2, rfl, r2, v2, p2⟩ := s2;have l1 := v1.length;have l2 := r1.length;have l3 := v2.length;have l4 := r2.length
        refine PN p1 p2 (by omega) (by omega) hu0 (fun hab => ?_) fun j h1 h2 => ?_
        · have e1 : v = .ref a := A6.inj rv rfl;have e2 : w' = .ref b := A6.inj rw' rfl;subst e1 e2 hab;have z := Hn I (n+1) _ _ hd he r q
          injection z with z
          rw[z];exact eqDs_refl n es he
        · obtain⟨x, rx, qx⟩ := FO r1 v1 h1;obtain⟨y, ry, qy⟩ := FO r2 v2 h2;exact(GS I n _ _ x y _ _ B.in1 (FN hd j) (FN he j) rx ry qx qy (by show B.units+1+n<Bl;omega)).2.1
    |.lst ds, .lst es, s1, s2=>
      match n, hd, he, hu with
      |n+1, hd, he, hu=>
        obtain⟨a, xs, its, rfl, r1, v1, p1⟩ := s1;obtain⟨b, ys, its2, rfl, r2, v2, p2⟩ := s2;have l1 := v1.length;have l2 := r1.length;have l3 := v2.length;have l4 := r2.length
        refine PQ p1 p2 (by omega) (by omega) hu0 (fun hab => ?_) fun j h1 h2 => ?_
        · have e1 : v = .ref a := A6.inj rv rfl;have e2 : w' = .ref b := A6.inj rw' rfl;subst e1 e2 hab;have z := Hn I (n+1) _ _ hd he r q
          injection z with z
          rw[z];exact eqDs_refl n es he
        · obtain⟨x, rx, qx⟩ := FO r1 v1 h1;obtain⟨y, ry, qy⟩ := FO r2 v2 h2;exact(GS I n _ _ x y _ _ B.in1 (FN hd j) (FN he j) rx ry qx qy (by show B.units+1+n<Bl;omega)).2.1
    |.obj _ _, _, s1, _ => exact s1.elim
    |.exc _ _, _, s1, _ => exact s1.elim
    |.dic _, _, s1, _ => exact s1.elim
    |_, .obj _ _, _, s2 => exact s2.elim
    |_, .exc _ _, _, s2 => exact s2.elim
    |_, .dic _, _, s2 => exact s2.elim
end
section
variable{X : Cx}{CL : ClA}{W : XW}
theorem Hz(I : Inv X pI σ H s){ds : Ab D}(B : AI)(hd : flD n d = Ac)(hs : ds.all (flD n) = Ac)(r : Reps X.K CL H A0 xs ds)(rv : AN xs its)(q : Rep X.K CL H A0 v d)(qv : A6 v u)(hu : B.units+n<Bl):∃ e :Ah->An,(∀ y,y ∈ its.toArray->DI B s y u (e y))/\its.toArray.any e = ds.any fun y =>eqD y d := by
 have l1 := rv.length;have l2 := r.length
 have key : ∀ y, y ∈ its -> ∃ k : An, DI B s y u k /\ ∀ j (h : j<its.length), its[j] = y -> eqD (ds.getD j .non) d = k := fun y hy => by
  obtain⟨j, hj, rfl⟩ := DR hy;obtain⟨x, rx, qx⟩ := FO r rv hj;refine⟨eqD (ds.getD j .non) d, (GS I n _ _ x v _ _ B (FN hs j) hd rx q qx qv hu).2.1, fun j' hj' e => ?_⟩
  obtain⟨x', rx', qx'⟩ := FO r rv hj';rw[e]at qx';have z := A6.inj qx qx';subst z;rw[Hn I n _ _ (FN hs j') (FN hs j) rx' rx]
 have key2 : ∀ y, ∃ k : An, y ∈ its -> DI B s y u k /\ ∀ j (h : j<its.length), its[j] = y -> eqD (ds.getD j .non) d = k := fun y => by
  by_cases hy : y ∈ its
  ·obtain⟨k, hk⟩ := key y hy;exact⟨k, fun _ => hk⟩
  ·exact⟨Ac, fun h => absurd h hy⟩
 refine⟨fun y => MY (key2 y), fun y hy => (CG (key2 y) (by simpa using hy)).1, ?_⟩
 rw[EF];simp only[List.any_toArray, M7];constructor
 ·rintro⟨y, hy, hk⟩;obtain⟨j, hj, rfl⟩ := DR hy;have z := (CG (key2 its[j]) hy).2 j hj rfl;rw[hk]at z;refine⟨ds.getD j .non, ?_, z⟩;rw[Ce, BG (by omega)]
  exact Em _
 ·rintro⟨y, hy, hk⟩;obtain⟨j, hj, rfl⟩ := DR hy;have hj' : j<its.length := by omega
  refine⟨its[j], Em _, ?_⟩;have z := (CG (key2 its[j]) (Em _)).2 j hj' rfl;rw[<-z, Ce, BG hj];exact hk
theorem Hl{g:Ae -> Ae -> An}(ho : OpR X (Bw op) (rI0 fun i j => .bl (g i j)))(hg : ∀ dx dy, (∃ i j, dx = .int i /\ dy = .int j /\ Bb op dx dy = .ok (.bl (g i j))) \/ Bb op dx dy = .bad) : OpD X CL W (Bw op) (Bb op) := by
 intro A pI s σ H x y v u Q I rx ry ⟨hA, dx, dy, hx, hy, p⟩;rcases hg dx dy with ⟨i, j, rfl, rfl, e⟩|e
 ·have ex := hx.int_of;have ey := hy.int_of
  subst ex ey;rw[e]at p;exact ho pI s σ H _ _ v u Q I rx ry ⟨i, j, rfl, rfl, p _ H (Ar.refl H) rfl⟩
 ·rw[e]at p;exact p.elim
theorem LD{x:V}(h : BL X.K CL H A x d)(hd : d ≠ .non) : x ≠ .non := by
 rintro rfl;have h := h.plain;cases d with
 |non => exact hd rfl
 |tup => obtain⟨_, _, e, _⟩ := h;cases e
 |lst => obtain⟨_, _, e, _⟩ := h;cases e
 |obj => obtain⟨_, _, _, _, e, _⟩ := h;cases e
 |exc => obtain⟨_, _, _, e, _⟩ := h;cases e
 |dic => obtain⟨_, _, e, _⟩ := h;cases e
 |_ => cases h
theorem F9(hu : X.A.units+64<Bl)(op : CF) : OpD X CL W (Bw op) (Bb op) := by
 cases op with
 |Eq=>
  intro A pI s σ H x y v u Q I rx ry ⟨hA, dx, dy, hx, hy, p⟩;rw[Vn]at p;split at p
  ·rename_i h;simp only[Am]at h;exact(GS I 5 dx dy x y v u X.A h.1 h.2 hx.plain hy.plain rx ry (by omega)).1 X.prog X.w X.xe _ ⟨.bl _, H, I, rfl, p _ H (Ar.refl H) rfl⟩
  ·exact p.elim
 |NotEq=>
  intro A pI s σ H x y v u Q I rx ry ⟨hA, dx, dy, hx, hy, p⟩;rw[UL]at p;split at p
  ·rename_i h;simp only[Am]at h;exact(GS I 5 dx dy x y v u X.A h.1 h.2 hx.plain hy.plain rx ry (by omega)).2.2 X.prog X.w X.xe _ ⟨.bl _, H, I, rfl, p _ H (Ar.refl H) rfl⟩
  ·exact p.elim
 |Lt => exact Hl UD fun dx dy => by cases dx <;> cases dy <;> first|exact .inl ⟨_, _, rfl, rfl, rfl⟩|exact .inr rfl
 |LtE => exact Hl UE fun dx dy => by cases dx <;> cases dy <;> first|exact .inl ⟨_, _, rfl, rfl, rfl⟩|exact .inr rfl
 |Gt => exact Hl UF fun dx dy => by cases dx <;> cases dy <;> first|exact .inl ⟨_, _, rfl, rfl, rfl⟩|exact .inr rfl
 |GtE => exact Hl UG fun dx dy => by cases dx <;> cases dy <;> first|exact .inl ⟨_, _, rfl, rfl, rfl⟩|exact .inr rfl
 |In=>
  intro A pI s σ H x y v u Q I rx ry ⟨hA, dx, dy, hx, hy, p⟩;cases dy with
  |lst es=>
   rw[Wc]at p;split at p
   ·rename_i h;simp only[Am]at h;obtain⟨a, xs, e, _, sq, r⟩ := hy.plain;subst e;cases ry;obtain⟨its, rv, pl, _⟩ := I.list sq;obtain⟨e, he, ha⟩ := Hz I (n := 5) X.A.in1 h.1 h.2 r rv hx.plain rx (by show X.A.units+1+5<Bl;omega)
    refine SeqAt.in_listAt e (Gk pl) he ?_;rw[ha];exact⟨.bl _, H, I, rfl, p _ H (Ar.refl H) rfl⟩
   ·exact p.elim
  |tup es=>
   rw[Wb]at p;split at p
   ·rename_i h;simp only[Am]at h;obtain⟨a, xs, e, _, sq, r⟩ := hy.plain;subst e;cases ry;obtain⟨its, rv, pl, _⟩ := I.tuple sq;obtain⟨e, he, ha⟩ := Hz I (n := 5) X.A.in1 h.1 h.2 r rv hx.plain rx (by show X.A.units+1+5<Bl;omega)
    refine SeqAt.in_tupleAt e pl he ?_;rw[ha];exact⟨.bl _, H, I, rfl, p _ H (Ar.refl H) rfl⟩
   ·exact p.elim
  |dic kvs=>
   obtain⟨a, es, rfl, hH, rk⟩ := hy.dic_of;have p' : AT (fun H => Rep X.K CL H A) W H (match CS dx with|some k => .ok (.bl (kvs.any fun p => p.1==k))|none => .bad) Q := p
   cases ek : CS dx with
   |none => rw[ek]at p';exact p'.elim
   |some k=>
    rw[ek]at p';obtain⟨ka, rfl, hk⟩ := rept_key hx ek;cases rx;cases ry;exact dic_in (by omega) I hH rk hk fun s' I' => ⟨.bl _, H, I', rfl, p' _ H (Ar.refl H) rfl⟩
  |_ => cases dx <;> exact p.elim
 |NotIn=>
  intro A pI s σ H x y v u Q I rx ry ⟨hA, dx, dy, hx, hy, p⟩;cases dy with
  |lst es=>
   rw[UJ]at p;split at p
   ·rename_i h;simp only[Am]at h;obtain⟨a, xs, e, _, sq, r⟩ := hy.plain;subst e;cases ry;obtain⟨its, rv, pl, _⟩ := I.list sq;obtain⟨e, he, ha⟩ := Hz I (n := 5) X.A.in1 h.1 h.2 r rv hx.plain rx (by show X.A.units+1+5<Bl;omega)
    refine SeqAt.notIn_listAt e (Gk pl) he ?_;rw[ha];exact⟨.bl _, H, I, rfl, p _ H (Ar.refl H) rfl⟩
   ·exact p.elim
  |tup es=>
   rw[UI]at p;split at p
   ·rename_i h;simp only[Am]at h;obtain⟨a, xs, e, _, sq, r⟩ := hy.plain;subst e;cases ry;obtain⟨its, rv, pl, _⟩ := I.tuple sq;obtain⟨e, he, ha⟩ := Hz I (n := 5) X.A.in1 h.1 h.2 r rv hx.plain rx (by show X.A.units+1+5<Bl;omega)
    refine SeqAt.notIn_tupleAt e pl he ?_;rw[ha];exact⟨.bl _, H, I, rfl, p _ H (Ar.refl H) rfl⟩
   ·exact p.elim
  |dic kvs=>
   obtain⟨a, es, rfl, hH, rk⟩ := hy.dic_of;have p' : AT (fun H => Rep X.K CL H A) W H (match CS dx with|some k => .ok (.bl (!kvs.any fun p => p.1==k))|none => .bad) Q := p
   cases ek : CS dx with
   |none => rw[ek]at p';exact p'.elim
   |some k=>
    rw[ek]at p';obtain⟨ka, rfl, hk⟩ := rept_key hx ek;cases rx;cases ry;exact dic_nin (by omega) I hH rk hk fun s' I' => ⟨.bl _, H, I', rfl, p' _ H (Ar.refl H) rfl⟩
  |_ => cases dx <;> exact p.elim
 |Is=>
  intro A pI s σ H x y v u Q I rx ry ⟨hA, dx, dy, hx, hy, p⟩;cases dy with
  |non=>
   have ey := hy.non_of;subst ey;refine RN pI s σ H _ _ v u Q I rx ry ⟨rfl, ?_⟩;cases dx with
   |non=>
    have ex := hx.non_of;subst ex;exact p _ H (Ar.refl H) rfl
   |exc => exact p.elim
   |dic => exact p.elim
   |_ => rw[Cd (LD hx (by simp))];exact p _ H (Ar.refl H) rfl
  |bl b=>
   cases dx with
   |bl a=>
    have ey := hy.bl_of;have ex := hx.bl_of;subst ex ey;cases rx;cases ry;refine wpAny_is_plain rfl ⟨.bl (a==b), H, I, ?_, p _ H (Ar.refl H) rfl⟩;cases a <;> cases b <;> rfl
   |_ => exact p.elim
  |_ => cases dx <;> exact p.elim
 |IsNot=>
  intro A pI s σ H x y v u Q I rx ry ⟨hA, dx, dy, hx, hy, p⟩;cases dy with
  |non=>
   have ey := hy.non_of;subst ey;refine Rc pI s σ H _ _ v u Q I rx ry ⟨rfl, ?_⟩;cases dx with
   |non=>
    have ex := hx.non_of;subst ex;exact p _ H (Ar.refl H) rfl
   |exc => exact p.elim
   |dic => exact p.elim
   |_ => rw[Cd (LD hx (by simp))];exact p _ H (Ar.refl H) rfl
  |bl b=>
   cases dx with
   |bl a=>
    have ey := hy.bl_of;have ex := hx.bl_of;subst ex ey;cases rx;cases ry;refine wpAny_isNot_plain rfl ⟨.bl (!(a==b)), H, I, ?_, p _ H (Ar.refl H) rfl⟩;cases a <;> cases b <;> rfl
   |_ => exact p.elim
  |_ => cases dx <;> exact p.elim
end
section
variable{X : Cx}{CL : ClA}{W : XW}{a b c : Ao}{fa fb fc : Rho -> R D}{pos : AH}
theorem BV.bind{f:D -> R An}{Q:An -> Hp -> Prop}{Q':VK}(h : BV W H (r.bind f) Q)(k : ∀ d v H', r = .ok d -> Ar H H' -> Rp H' v d -> BV W H' (f d) Q -> Q' v H') : AT Rp W H r Q' := by
 cases r with
 |ok d => exact fun v H2 s2 q => k d v H2 rfl s2 q (BV.same s2 h)
 |exn x => exact h
 |bad => exact h
theorem BV.bindB{r:R An}{f:An -> R An}{Q:An -> Hp -> Prop}{Q':An -> Hp -> Prop}(h : BV W H (r.bind f) Q)(k : ∀ b H', r = .ok b -> Ar H H' -> BV W H' (f b) Q -> Q' b H') : BV W H r Q' := by
 cases r with
 |ok d => exact fun H2 s2 => k d H2 rfl s2 (BV.same s2 h)
 |exn x => exact h
 |bad => exact h
theorem EA.bind{Rp:Hp -> Ab V -> Ab D -> Prop}{r:R (Ab D)}{f:Ab D -> R D}{Q':Ab V -> Hp -> Prop}(h : AT Rq W H (r.bind f) Q)(k : ∀ d v H', r = .ok d -> Ar H H' -> Rp H' v d -> AT Rq W H' (f d) Q -> Q' v H') : EA Rp W H r Q' := by
 cases r with
 |ok d => exact fun v H2 s2 q => k d v H2 rfl s2 q (AT.same s2 h)
 |exn x => exact h
 |bad => exact h
theorem Hj{f:An -> R D}(h : AT Rq W H ((Cj d).bind f) Q) : ∃ c, d = .bl c /\ AT Rq W H (f c) Q := by
 cases d with
 |bl c => exact⟨c, rfl, h⟩
 |_ => exact h.elim
theorem Sk(ha : ST X CL W a fa) : SE X CL W (.UnaryOp .Not a pos) (fun ρ => (fa ρ).bind fun x => (Cj x).bind fun b => .ok (.bl (!b))) := fun A => PE.weak (Se (ha A)) fun σ H Q ⟨hA, ρ, g, p⟩ => ⟨hA, ρ, g, AT.bind p fun d v H1 _ s1 r1 p1 => by
 obtain⟨c, rfl, p2⟩ := Hj p1;exact⟨c, r1.bl_of, p2 _ H1 (Ar.refl H1) rfl⟩⟩
theorem Ly{op}(ha : SE X CL W a fa) : SE X CL W (.BoolOp op [a] pos) fa := fun A => Sd (ha A)
theorem Sw{rest : Ab Ao}(ha : SE X CL W a fa)(hb : SE X CL W (.BoolOp .And (b::rest) pos) fb) : SE X CL W (.BoolOp .And (a::b::rest) pos) (fun ρ => (fa ρ).bind fun x => (Cj x).bind fun c => if c = Ac then fb ρ else .ok (.bl Ad)):=
 fun A => PE.weak (RH (ha A) (hb A)) fun σ H Q ⟨hA, ρ, g, p⟩ => ⟨hA, ρ, g, AT.bind p fun d v H1 _ s1 r1 p1 => by
  obtain⟨c, rfl, p2⟩ := Hj p1;refine⟨c, r1, ?_⟩;cases c with
  |true => exact⟨hA.same s1, ρ, g.same s1, p2⟩
  | false => exact p2 _ H1 (Ar.refl H1) rfl⟩
theorem T3{rest : Ab Ao}(ha : SE X CL W a fa)(hb : SE X CL W (.BoolOp .Or (b::rest) pos) fb) : SE X CL W (.BoolOp .Or (a::b::rest) pos) (fun ρ => (fa ρ).bind fun x => (Cj x).bind fun c => if c = Ac then .ok (.bl Ac) else fb ρ):=
 fun A => PE.weak (Uy (ha A) (hb A)) fun σ H Q ⟨hA, ρ, g, p⟩ => ⟨hA, ρ, g, AT.bind p fun d v H1 _ s1 r1 p1 => by
  obtain⟨c, rfl, p2⟩ := Hj p1;refine⟨c, r1, ?_⟩;cases c with
  |false => exact⟨hA.same s1, ρ, g.same s1, p2⟩
  | true => exact p2 _ H1 (Ar.refl H1) rfl⟩
theorem Ps(hu : X.A.units+64<Bl)(ha : ST X CL W a fa)(hb : ST X CL W b fb)(hc : ST X CL W c fc)(hm : Fo [op, op'] [b, c] = Ad):SE X CL W (.Compare a [op,op'] [b,c] pos) (fun ρ =>(fa ρ).bind fun x =>(fb ρ).bind fun y =>(Bb op x y).bind fun z =>(Cj z).bind fun k =>if k = Ac then (fc ρ).bind fun u =>Bb op' y u else .ok (.bl Ad)):=
 fun A => PE.weak (O2 (F9 hu op A) (F9 hu op' A) (ha A) (hb A) (hc A) hm) fun σ H Q ⟨hA, ρ, g, p⟩ => ⟨hA, ρ, g, AT.bind p fun dx x H1 _ s1 r1 p1 => ⟨hA.same s1, ρ, g.same s1, AT.bind p1 fun dy y H2 _ s2 r2 p2=>
  ⟨(hA.same s1).same s2, dx, dy, r1.same s2, r2, AT.bind p2 fun dz z H3 _ s3 r3 p3 => by
   obtain⟨k, rfl, p4⟩ := Hj p3;refine⟨k, r3, ?_⟩;cases k with
   |false => exact p4 _ H3 (Ar.refl H3) rfl
   | true => exact⟨((hA.same s1).same s2).same s3, ρ, ((g.same s1).same s2).same s3, AT.bind p4 fun du u H4 _ s4 r4 p5 => ⟨(((hA.same s1).same s2).same s3).same s4, dy, du, (r2.same s3).same s4, r4, p5⟩⟩⟩⟩⟩
theorem QM{xs:Ab D}{i:Ae}(h : Ct xs i = .ok d) : ∃ k, plD xs.length i = Aa k /\ xs[k]? = Aa d := by
 unfold Ct at h;split at h
 ·rename_i k e;split at h
  ·rename_i d' e';cases h;exact⟨k, e, e'⟩
  ·cases h
 ·cases h
theorem K4{xs:Ab D}{i:Ae}(h : Ct xs i = .exn x) : AW := by
 unfold Ct at h;split at h
 ·split at h <;> cases h
 ·cases h
theorem K6{ds : Ab D}{i:Ae}(r : Reps K CL H A xs ds)(h : Ct ds i = .ok d) : ∃ v, atI xs i = Aa v /\ Rep K CL H A v d := by
 obtain⟨k, e, q⟩ := QM h;obtain⟨v, hv, rv⟩ := r.get q;refine⟨v, ?_, rv⟩;unfold atI;have : ixN xs.length i = Aa k := by rw[r.length];exact e
 rw[this];exact hv
theorem Sr(hu : X.A.units+64<Bl)(hs : IZ b)(ha : ST X CL W a fa)(hb : ST X CL W b fb) : SE X CL W (.Subscript a b pos) (fun ρ => (fa ρ).bind fun x => (fb ρ).bind fun y => EN x y):=
 fun A => PE.weak (Uz (r := fun x y H Q => (Mo X.K x y H Q \/ Mn X.K x y H Q) \/ rIxD X.K CL A x y H Q) ((QH.or Tn).or (ix_dic (by omega))) (ha A) (hb A) hs) fun σ H Q h => by
  obtain⟨hA, ρ, g, h⟩ := op2 h;refine⟨hA, ρ, g, ?_⟩;cases e : fa ρ with
  |bad => rw[e]at h;exact h
  |exn x => rw[e]at h;exact h
  |ok dx0=>
   rw[e]at h;intro x H1 s1 r1;obtain⟨hA1, ρ1, g1, h1⟩ := h x H1 s1 r1;refine⟨hA1, ρ1, g1, ?_⟩;cases e1 : fb ρ1 with
   |bad => rw[e1]at h1;exact h1
   |exn x => rw[e1]at h1;exact h1
   |ok dy0=>
    rw[e1]at h1;intro y H2 s2 r2;obtain⟨hA2, dx, dy, rx, ry, p⟩ := h1 y H2 s2 r2;cases dy with
    |int i=>
     have ey := ry.int_of;subst ey;cases dx with
     |lst ds=>
      obtain⟨q, xs, rfl, sq, r⟩ := rx.lst_of;rw[Vq]at p;cases e2 : Ct ds i with
      |ok d=>
       rw[e2]at p;obtain⟨v, hv, rv⟩ := K6 r e2;exact .inl (.inl ⟨q, xs, i, v, rfl, rfl, sq, hv, p v H2 (Ar.refl H2) rv⟩)
      |exn x => exact(K4 e2).elim
      |bad => rw[e2]at p;exact p.elim
     |tup ds=>
      obtain⟨q, xs, rfl, _, sq, r⟩ := rx.tup_of;rw[Vp]at p;cases e2 : Ct ds i with
      |ok d=>
       rw[e2]at p;obtain⟨v, hv, rv⟩ := K6 r e2;exact .inl (.inr ⟨q, xs, i, v, rfl, rfl, sq, hv, p v H2 (Ar.refl H2) rv⟩)
      |exn x => exact(K4 e2).elim
      |bad => rw[e2]at p;exact p.elim
     |_ => exact p.elim
    |tup es=>
     cases dx with
     |dic kvs=>
      have p' : AT (fun H => Rep X.K CL H A) W H2 (match (CS (.tup es)).bind (Gf kvs) with|some d => .ok d|none => .bad) Q := p
      cases ek : CS (.tup es) with
      |none => rw[ek]at p';exact p'.elim
      |some k=>
       rw[ek]at p';have p2 : AT (fun H => Rep X.K CL H A) W H2 (match Gf kvs k with|some d => .ok d|none => .bad) Q := p'
       cases eg : Gf kvs k with
       |none => rw[eg]at p2;exact p2.elim
       |some d=>
        rw[eg]at p2;obtain⟨a, es', rfl, hH, rk⟩ := rx.dic_of;obtain⟨ka, rfl, hk⟩ := rept_key ry ek;exact .inr ⟨a, ka, es', kvs, k, d, rfl, rfl, hH, rk, hk, eg, fun v rv => p2 v H2 (Ar.refl H2) rv⟩
     |_ => exact p.elim
    |_ => cases dx <;> exact p.elim
theorem SF : SA X CL W [] (fun _ => .ok []) := fun A => PA.weak GW fun σ H Q ⟨hA, ρ, g, p⟩ => p [] H (Ar.refl H) trivial
theorem PM(ha : SE X CL W a fa)(hs : SA X CL W es fs)(hst : AC (a::es) X.env = (Ad, eval a X.env)::AC es X.env) : SA X CL W (a::es) (fun ρ => (fa ρ).bind fun x => (fs ρ).bind fun xs => .ok (x::xs)):=
 fun A => PA.weak (FM (ha A) (hs A) hst) fun σ H Q ⟨hA, ρ, g, p⟩ => by
  dsimp only at p;refine⟨hA, ρ, g, ?_⟩;cases e : fa ρ with
  |bad => rw[e]at p;exact p
  |exn x => rw[e]at p;exact p
  |ok d=>
   rw[e]at p;intro v H1 s1 r1;refine⟨hA.same s1, ρ, g.same s1, ?_⟩;cases e1 : fs ρ with
   |bad => rw[R.bind_ok, e1]at p;exact p
   |exn x => rw[R.bind_ok, e1]at p;exact fun H2 s2 => p H2 (s1.trans s2)
   |ok ds=>
    rw[R.bind_ok, e1]at p;exact fun vs H2 s2 r2 => p (v::vs) H2 (s1.trans s2) ⟨r1.same s2, r2⟩
theorem Si{k:Ag}(hs : SA X CL W es fs)(hz : ∀ ρ ds, fs ρ = .ok ds -> ds.length <= 100000) : SE X CL W (.Tuple es k pos) (fun ρ => (fs ρ).bind fun xs => .ok (.tup xs)):=
 fun A => PE.weak (Sb (hs A)) fun σ H Q ⟨hA, ρ, g, p⟩ => ⟨hA, ρ, g, EA.bind p fun ds vs H1 e s1 r1 p1 => ⟨by
  rw[r1.length, Dm];have := hz ρ ds e;omega, fun q hq => p1 _ _ (D8 hq _) (Hs (hA.same s1) hq r1)⟩⟩
noncomputable def FT(W : XW)(H : Hp)(r : R (Al Ae))(Q : Al Ae -> Hp -> Prop) : Prop := match r with
  |.ok o => ∀ H', Ar H H' -> Q o H'
  |.exn x => ∀ H', Ar H H' -> W x H'
  |.bad => AW
theorem FT.bind{r:R (Al Ae)}{f:Al Ae -> R D}(h : AT Rq W H (r.bind f) Q)(k : ∀ o H', r = .ok o -> Ar H H' -> AT Rq W H' (f o) Q -> Q' o H') : FT W H r Q' := by
 cases r with
 |ok d => exact fun H2 s2 => k d H2 rfl s2 (AT.same s2 h)
 |exn x => exact h
 |bad => exact h
noncomputable def SO(X : Cx)(CL : ClA)(W : XW)(e : Al Ao)(f : Rho -> R (Al Ae)) : Prop := ∀ A, PO X e (fun σ H Q => AOk H A /\ ∃ ρ, Good X.K CL A ρ σ H /\ FT W H (f ρ) Q)
theorem PO.weak{e:Al Ao}{t t':TO}(h : PO X e t)(k : ∀ σ H Q, t' σ H Q -> t σ H Q) : PO X e t' := fun pI s σ H Q I q => h pI s σ H Q I (k _ _ _ q)
theorem Qh : SO X CL W Af (fun _ => .ok Af) := fun A => PO.weak Q1 fun σ H Q ⟨hA, ρ, g, p⟩ => p H (Ar.refl H)
theorem Qg(ha : ST X CL W a fa) : SO X CL W (Aa a) (fun ρ => (fa ρ).bind fun d => (CQ d).bind fun i => .ok (Aa i)) := fun A => PO.weak (Q0 (ha A)) fun σ H Q ⟨hA, ρ, g, p⟩ => by
 dsimp only at p;refine⟨hA, ρ, g, ?_⟩;cases e : fa ρ with
 |bad => rw[e]at p;exact p
 |exn x => rw[e]at p;exact p
 |ok d=>
  rw[e]at p;intro v H1 s1 r1;cases d with
  |int i => exact⟨i, r1.int_of, p H1 s1⟩
  |_ => exact p.elim
theorem Ld{ds : Ab D}(lo hi : Al Ae)(r : Reps K CL H A xs ds) : Reps K CL H A (FB xs lo hi) (Gq ds lo hi) := by
 unfold FB Gq;have e : ∀ d o, HT.sIx xs.length d o = Fa ds.length d o := fun d o => by rw[r.length];cases o <;> rfl
 rw[e, e, r.length];exact(r.drop _).take _
end
section
variable{X : Cx}{CL : ClA}{W : XW}{a b c : Ao}{fa fb fc : Rho -> R D}{pos : AH}
def Dt(K : Fg)(CL : ClA)(H : Hp)(A : Ai -> Prop) : Ab V -> Ab D -> Prop
 |[], [] => EJ
 |v::vs, d::ds => BL K CL H A v d /\ Dt K CL H A vs ds
 |_, _ => AW
theorem Dt.same{K : Fg}{H H' : Hp}{A : Ai -> Prop}(s : Ar H H') : ∀{vs : Ab V}{ds : Ab D}, Dt K CL H A vs ds -> Dt K CL H' A vs ds
 |[], [], h => h
 |_::_, _::_, h => ⟨h.1.same s, Dt.same s h.2⟩
 |[], _::_, h => h.elim
 |_::_, [], h => h.elim
theorem Dt.one(h : Dt K CL H A vs [d]) : ∃ v, vs = [v] /\ BL K CL H A v d := by
 cases vs with
 |nil => exact h.elim
 |cons v vs=>
  cases vs with
  |nil => exact⟨v, rfl, h.1⟩
  |cons => exact h.2.elim
theorem Dt.two{e:D}(h : Dt K CL H A vs [d, e]) : ∃ v w', vs = [v, w'] /\ BL K CL H A v d /\ BL K CL H A w' e := by
 cases vs with
 |nil => exact h.elim
 |cons v vs=>
  cases vs with
  |nil => exact h.2.elim
  |cons w' vs=>
   cases vs with
   |nil => exact⟨v, w', rfl, h.1, h.2.1⟩
   |cons => exact h.2.2.elim
noncomputable def SAT(X : Cx)(CL : ClA)(W : XW)(es : Ab Ao)(f : Rho -> R (Ab D)) : Prop := ∀ A, PA X es (fun σ H Q => AOk H A /\ ∃ ρ, Good X.K CL A ρ σ H /\ EA (fun H => Dt X.K CL H A) W H (f ρ) Q)
theorem PL : SAT X CL W [] (fun _ => .ok []) := fun A => PA.weak GW fun σ H Q ⟨hA, ρ, g, p⟩ => p [] H (Ar.refl H) trivial
theorem Pu(ha : ST X CL W a fa)(hs : SAT X CL W es fs)(hst : AC (a::es) X.env = (Ad, eval a X.env)::AC es X.env) : SAT X CL W (a::es) (fun ρ => (fa ρ).bind fun x => (fs ρ).bind fun xs => .ok (x::xs)):=
 fun A => PA.weak (FM (ha A) (hs A) hst) fun σ H Q ⟨hA, ρ, g, p⟩ => by
  dsimp only at p;refine⟨hA, ρ, g, ?_⟩;cases e : fa ρ with
  |bad => rw[e]at p;exact p
  |exn x => rw[e]at p;exact p
  |ok d=>
   rw[e]at p;intro v H1 s1 r1;refine⟨hA.same s1, ρ, g.same s1, ?_⟩;cases e1 : fs ρ with
   |bad => rw[R.bind_ok, e1]at p;exact p
   |exn x => rw[R.bind_ok, e1]at p;exact fun H2 s2 => p H2 (s1.trans s2)
   |ok ds=>
    rw[R.bind_ok, e1]at p;exact fun vs H2 s2 r2 => p (v::vs) H2 (s1.trans s2) ⟨r1.same s2, r2⟩
noncomputable def FU(X : Cx)(CL : ClA)(W : XW)(f : Ah)(g : Ab D -> R D) : Prop := ∀ A, EB X f (fun xs H Q => AOk H A /\ ∃ ds, Dt X.K CL H A xs ds /\ AT (fun H => Rep X.K CL H A) W H (g ds) Q)
theorem Hw{x:Aj}{id:Cc}{p:AH}{g:Ab D -> R D}(hc : FU X CL W (.builtin id) g)(hg : Gl X x)(hm : X.mg x = Af)(hv : BR x = Aa (.builtin id))(ha : SAT X CL W (e::es) fs)(hn : x ≠ "__name__")(hdb : (x==("__debug__" : Aj)) = Ad)(he : AC (e::es) X.env = (Ad, eval e X.env)::AC es X.env)(hpl : ∀ pos, (Ck pos (AC es X.env)).any (·.1) = Ad):SE X CL W (.Call (.Name x p) (e::es) [] pos) (fun ρ =>(fs ρ).bind g) := fun A => PE.weak (K0 (hc A) hg hm hv (ha A) hn hdb he (hpl _)) fun σ H Q ⟨hA, ρ, gd, q⟩ => ⟨hA, ρ, gd, EA.bind q fun ds vs H1 _ s1 r1 p1 => ⟨hA.same s1, ds, r1, p1⟩⟩
theorem Sv{x:Aj}{p:AH}{g:Ab D -> R D}(hc : FU X CL W (.type T) g)(hg : Gl X x)(hm : X.mg x = Af)(hv : BR x = Aa (.type T))(ha : SAT X CL W (e::es) fs)(hn : x ≠ "__name__")(hdb : (x==("__debug__" : Aj)) = Ad)(he : AC (e::es) X.env = (Ad, eval e X.env)::AC es X.env)(hpl : ∀ pos, (Ck pos (AC es X.env)).any (·.1) = Ad):SE X CL W (.Call (.Name x p) (e::es) [] pos) (fun ρ =>(fs ρ).bind g) := fun A => PE.weak (KG (hc A) hg hm hv (ha A) hn hdb he (hpl _)) fun σ H Q ⟨hA, ρ, gd, q⟩ => ⟨hA, ρ, gd, EA.bind q fun ds vs H1 _ s1 r1 p1 => ⟨hA.same s1, ds, r1, p1⟩⟩
theorem SZ : FU X CL W (.builtin "len") (biD .len) := by
  intro A pI s σ H xs us Q I r ⟨hA, ds, rs, p⟩
  match ds, rs, p with
  |[.lst es], rs, p=>
    obtain⟨v, rfl, rv⟩ := rs.one;obtain⟨q, ys, rfl, sq, ry⟩ := rv.lst_of;exact Kc pI s σ H _ us Q I r ⟨q, ys, rfl, .inl sq, p _ H (Ar.refl H) (by rw[ry.length];rfl)⟩
  |[.tup es], rs, p=>
    obtain⟨v, rfl, rv⟩ := rs.one;obtain⟨q, ys, rfl, _, sq, ry⟩ := rv.tup_of;exact Kc pI s σ H _ us Q I r ⟨q, ys, rfl, .inr sq, p _ H (Ar.refl H) (by rw[ry.length];rfl)⟩
  |[.str x], rs, p=>
    obtain⟨v, rfl, rv⟩ := rs.one;have e := rv.str_of;subst e;have p' : AT (fun H => Rep X.K CL H A) W H (if B7 x.length = Ac then .ok (.int x.length) else .bad) Q := p
    split at p'
    · rename_i h;exact Oa pI s σ H _ us Q I r ⟨x, rfl, FL h, p' _ H (Ar.refl H) rfl⟩
    · exact p'.elim
  |[], _, p => exact p.elim
  |[.non], _, p => exact p.elim
  |[.bl _], _, p => exact p.elim
  |[.int _], _, p => exact p.elim
  |[.obj _ _], _, p => exact p.elim
  |[.exc _ _], _, p => exact p.elim
  |[.dic kvs], rs, p=>
    obtain⟨v, rfl, rv⟩ := rs.one;have p' : AT (fun H => Rep X.K CL H A) W H (if B7 kvs.length = Ac then .ok (.int kvs.length) else .bad) Q := p
    split at p'
    · rename_i h;obtain⟨a, es, rfl, hH, rk⟩ := rv.dic_of;cases r with
      |cons r1 r2=>
        cases r1;cases r2;exact dic_len I hH rk (FL h) fun s' t I' => ⟨.int _, H, I', ⟨t, rfl⟩, p' _ H (Ar.refl H) rfl⟩
    · exact p'.elim
  |x::_::_, _, p => cases x <;> exact p.elim
theorem OC(ds : Ab D) : (∃ i j, ds = [.int i, .int j]) \/ biD .max ds = .bad := by
  match ds with
  |[.int i, .int j] => exact .inl ⟨i, j, rfl⟩
  |[] => exact .inr rfl
  |[x] => cases x <;> exact .inr rfl
  |x::y::z::r => cases x <;> cases y <;> exact .inr rfl
  |[x, .non] => cases x <;> exact .inr rfl
  |[x, .bl _] => cases x <;> exact .inr rfl
  |[x, .str _] => cases x <;> exact .inr rfl
  |[x, .tup _] => cases x <;> exact .inr rfl
  |[x, .lst _] => cases x <;> exact .inr rfl
  |[x, .obj _ _] => cases x <;> exact .inr rfl
  |[x, .exc _ _] => cases x <;> exact .inr rfl
  |[x, .dic _] => cases x <;> exact .inr rfl
  |[.non, .int _] => exact .inr rfl
  |[.bl _, .int _] => exact .inr rfl
  |[.str _, .int _] => exact .inr rfl
  |[.tup _, .int _] => exact .inr rfl
  |[.lst _, .int _] => exact .inr rfl
  |[.obj _ _, .int _] => exact .inr rfl
  |[.exc _ _, .int _] => exact .inr rfl
  |[.dic _, .int _] => exact .inr rfl
theorem Kh : ∀(is : Ab Ae)(i : Ae), EM i is ∈ i::is /\ ∀ a ∈ i::is, EM i is <= a
 |[], i => ⟨At, fun a h => by rw[List.mem_singleton]at h;rw[h];exact FF _⟩
 |j::r, i => by
  obtain⟨h1, h2⟩ := Kh r (if j<i then j else i)
  refine⟨?_, fun a h => ?_⟩
  ·show EM (if j<i then j else i) r ∈ _
   rcases AK.mp h1 with e|e
   ·rw[e];split
    ·exact Aq _ At
    ·exact At
   ·exact Aq _ (Aq _ e)
  ·show EM (if j<i then j else i) r <= a
   have h0 := h2 _ At;rcases AK.mp h with e|e
   ·subst e;refine M1 h0 ?_;split <;> omega
   ·rcases AK.mp e with e|e
    ·subst e;refine M1 h0 ?_;split <;> omega
    ·exact h2 a (Aq _ e)
theorem J9 : ∀{is : Ab Ae}{its : Ab Ah}, AN (is.map V.int) its -> ∃ xs : A4 (Ae × B6), its.toArray = GD xs /\ xs.toList.map (·.1) = is
 |[], _, h => by cases h;exact⟨#[], by simp[GD], rfl⟩
 |i::is, _, h => by
  cases h with
  |cons h1 h2=>
   obtain⟨t, rfl⟩ := h1;obtain⟨xs, e1, e2⟩ := J9 h2;refine⟨((i, t)::xs.toList).toArray, ?_, ?_⟩
   ·apply Array.toList_inj.mp
    have e1' := congrArg Ff e1;simp[GD]at e1' ⊢;exact e1'
   ·simp[e2]
theorem OJ(hc : X.calm = Ac) : EB X (.builtin "min") (fun xs H Q => ∃ a i is, xs = [.ref a] /\ SqL X.K H a ((i::is).map V.int) /\ Q (.int (EM i is)) H) := by
 intro pI s σ H xs us Q I r h;obtain⟨a, i, is, rfl, sq, q⟩ := h;obtain⟨u, rfl, ru⟩ := Go r;cases ru;obtain⟨its, rv, pl, hz⟩ := I.list sq;obtain⟨ys, e1, e2⟩ := J9 rv;have hsz : 0<ys.size := by
  have := congrArg Nf e2;simp at this;omega
 have hl := pl.isList;rw[e1]at hl;refine min_intList (I.ok.hd hc) hl hsz fun v h' tk hv hk => ?_
 obtain⟨t, rfl⟩ := intItems_at hv;obtain⟨h1, h2⟩ := argBest_lt (E3 ys) (ys.size-1);have nm : ∀ j, j<ys.size -> E3 ys j ∈ i::is := fun j hj => by
  rw[<-e2];unfold E3;rw[MW hj];simp only[C4, Option.getD_some];exact CH.mpr ⟨ys[j], by simp, rfl⟩
 have nx : ∀ x ∈ i::is, ∃ j, j<ys.size /\ E3 ys j = x := fun x hx => by
  rw[<-e2]at hx;obtain⟨y, hy, rfl⟩ := CH.mp hx;obtain⟨j, hj, ej⟩ := Array.mem_iff_getElem.mp (Array.mem_toList_iff.mp hy);refine⟨j, hj, ?_⟩;unfold E3;rw[MW hj, ej];rfl
 obtain⟨m1, m2⟩ := Kh is i;have em : E3 ys (argBest (fun i j => decide (E3 ys i<E3 ys j)) (ys.size-1)) = EM i is := by
  refine Int.le_antisymm ?_ (m2 _ (nm _ (by omega)))
  obtain⟨j, hj, ej⟩ := nx _ m1;rw[<-ej];exact h2 j (by omega)
 rw[em];exact⟨.int (EM i is), H, I.kept hk, ⟨_, rfl⟩, q⟩
theorem JV{K : Fg}{CL : ClA}{H : Hp}{A : Ai -> Prop} : ∀{es : Ab D}{is : Ab Ae}{ys : Ab V}, Ft es = Aa is -> Reps K CL H A ys es -> ys = is.map V.int
 |[], _, [], h, _ => by cases h;rfl
 |[], _, _::_, _, r => r.elim
 |_::_, _, [], _, r => r.elim
 |e::es, is, y::ys, h, r => by
  cases e with
  |int i=>
   have h' : (Ft es).map (i :: ·) = Aa is := h;cases e2 : Ft es with
   |none => rw[e2]at h';cases h'
   |some js=>
    rw[e2]at h';cases h';have ih := JV e2 r.2;have e1 : y = .int i := r.1;rw[ih, e1];rfl
  |_ => cases h
theorem OB(ds : Ab D)(hl : ∀ es, ds ≠ [.lst es]) : (∃ i j, ds = [.int i, .int j]) \/ biD .min ds = .bad := by
  match ds with
  |[.int i, .int j] => exact .inl ⟨i, j, rfl⟩
  |[] => exact .inr rfl
  |[x] => cases x <;> first|exact .inr rfl|exact absurd rfl (hl _)
  |x::y::z::r => cases x <;> cases y <;> exact .inr rfl
  |[x, .non] => cases x <;> exact .inr rfl
  |[x, .bl _] => cases x <;> exact .inr rfl
  |[x, .str _] => cases x <;> exact .inr rfl
  |[x, .tup _] => cases x <;> exact .inr rfl
  |[x, .lst _] => cases x <;> exact .inr rfl
  |[x, .obj _ _] => cases x <;> exact .inr rfl
  |[x, .exc _ _] => cases x <;> exact .inr rfl
  |[x, .dic _] => cases x <;> exact .inr rfl
  |[.non, .int _] => exact .inr rfl
  |[.bl _, .int _] => exact .inr rfl
  |[.str _, .int _] => exact .inr rfl
  |[.tup _, .int _] => exact .inr rfl
  |[.lst _, .int _] => exact .inr rfl
  |[.obj _ _, .int _] => exact .inr rfl
  |[.exc _ _, .int _] => exact .inr rfl
  |[.dic _, .int _] => exact .inr rfl
theorem SY(hc : X.calm = Ac) : FU X CL W (.builtin "max") (biD .max) := by
 intro A pI s σ H xs us Q I r ⟨hA, ds, rs, p⟩;rcases OC ds with ⟨i, j, rfl⟩|e
 ·obtain⟨v, w', rfl, rv, rw'⟩ := rs.two;have e1 := rv.int_of;have e2 := rw'.int_of
  subst e1 e2;exact OL hc pI s σ H _ us Q I r ⟨i, j, rfl, p _ H (Ar.refl H) rfl⟩
 ·rw[e]at p;exact p.elim
theorem SX(hc : X.calm = Ac) : FU X CL W (.builtin "min") (biD .min) := by
  intro A pI s σ H xs us Q I r ⟨hA, ds, rs, p⟩;by_cases hls : ∃ es, ds = [.lst es]
  · obtain⟨es, rfl⟩ := hls;obtain⟨v, rfl, rv⟩ := rs.one;obtain⟨a, ys, rfl, sq, ry⟩ := rv.lst_of;have p' : AT (Rep X.K CL · A) W H (match Ft es with
      |some (i::is) => R.ok (.int (EM i is))
      | _ => .bad) Q := p
    cases e1 : Ft es with
    |none => rw[e1]at p';exact p'.elim
    |some is=>
      cases is with
      |nil => rw[e1]at p';exact p'.elim
      |cons i is=>
        rw[e1]at p';have ey := JV e1 ry;subst ey;exact OJ hc pI s σ H _ us Q I r ⟨a, i, is, rfl, sq, p' _ H (Ar.refl H) rfl⟩
  rcases OB ds (fun es z => hls ⟨es, z⟩) with ⟨i, j, rfl⟩|e
  · obtain⟨v, w', rfl, rv, rw'⟩ := rs.two;have e1 := rv.int_of;have e2 := rw'.int_of
    subst e1 e2;exact OK hc pI s σ H _ us Q I r ⟨i, j, rfl, p _ H (Ar.refl H) rfl⟩
  · rw[e]at p;exact p.elim
theorem Pf : FU X CL W (.type "tuple") (biD .tuple) := by
  intro A pI s σ H xs us Q I r ⟨hA, ds, rs, p⟩
  match ds, rs, p with
  |[.lst es], rs, p=>
    obtain⟨v, rfl, rv⟩ := rs.one;obtain⟨q, ys, rfl, sq, ry⟩ := rv.lst_of;exact JQ pI s σ H _ us Q I r ⟨q, ys, rfl, .inl ⟨sq, fun l hl => p _ _ (D8 hl _) (Hs hA hl ry)⟩⟩
  |[.tup es], rs, p=>
    obtain⟨v, rfl, rv⟩ := rs.one;obtain⟨q, ys, rfl, na, sq, ry⟩ := rv.tup_of;exact JQ pI s σ H _ us Q I r ⟨q, ys, rfl, .inr ⟨sq, p _ H (Ar.refl H) ⟨q, ys, rfl, na, sq, ry⟩⟩⟩
  |[], _, p => exact p.elim
  |[.non], _, p => exact p.elim
  |[.bl _], _, p => exact p.elim
  |[.int _], _, p => exact p.elim
  |[.str _], _, p => exact p.elim
  |[.obj _ _], _, p => exact p.elim
  |[.exc _ _], _, p => exact p.elim
  |[.dic _], rs, p => first|exact p.elim|(obtain⟨v, rfl, rv⟩ := rs.one;exact rv.plain.elim)
  |x::_::_, _, p => cases x <;> exact p.elim
end
section
variable{X : Cx}{CL : ClA}{W : XW}{a b c : Ao}{fa fb fc : Rho -> R D}{pos : AH}
theorem SB.congr{g:Rho -> R An}(h : SB X CL W a f)(e : ∀ ρ, g ρ = f ρ) : SB X CL W a g := fun A => PT.weak (h A) fun σ H Q ⟨hA, ρ, q, p⟩ => ⟨hA, ρ, q, by rw[<-e];exact p⟩
theorem Sz(ha : SB X CL W a f) : SB X CL W (.UnaryOp .Not a pos) (fun ρ => (f ρ).bind fun b => .ok (!b)) := fun A => PT.weak (RZ (ha A)) fun σ H Q ⟨hA, ρ, g, p⟩ => ⟨hA, ρ, g, BV.bindB p fun b H1 _ s1 p1 => p1 H1 (Ar.refl H1)⟩
noncomputable def SW(X : Cx)(CL : ClA)(W : XW)(e : Ao)(f : Rho -> R An) : Prop := ∀ A, PW X e (fun σ H Q => AOk H A /\ ∃ ρ, Good X.K CL A ρ σ H /\ BV W H (f ρ) Q)
theorem PW.weak{t:TT}(h : PW X e t)(k : ∀ σ H Q, t' σ H Q -> t σ H Q) : PW X e t' := fun wh pI s σ H Q I q => h wh pI s σ H Q I (k _ _ _ q)
theorem SW.sb(h : SW X CL W a f) : SB X CL W a f := fun A => PW.pt (h A)
theorem SW.congr{g:Rho -> R An}(h : SW X CL W a f)(e : ∀ ρ, g ρ = f ρ) : SW X CL W a g := fun A => PW.weak (h A) fun σ H Q ⟨hA, ρ, q, p⟩ => ⟨hA, ρ, q, by rw[<-e];exact p⟩
theorem P6(ha : SB X CL W a f) : SW X CL W (.BoolOp .And [a] pos) f := fun A => QT (ha A)
theorem Ru(ha : SB X CL W a f) : SW X CL W (.BoolOp .Or [a] pos) f := fun A => RW (ha A)
theorem Rv{g:Rho -> R An}{rest : Ab Ao}(ha : SB X CL W a f)(hb : SW X CL W (.BoolOp .And (b::rest) pos) g) : SW X CL W (.BoolOp .And (a::b::rest) pos) (fun ρ => (f ρ).bind fun c => if c = Ac then g ρ else .ok Ad):=
 fun A => PW.weak (RX (ha A) (hb A)) fun σ H Q ⟨hA, ρ, gd, p⟩ => ⟨hA, ρ, gd, BV.bindB p fun c H1 _ s1 p1 => by
  cases c with
  |true => exact⟨hA.same s1, ρ, gd.same s1, p1⟩
  | false => exact p1 H1 (Ar.refl H1)⟩
theorem Um{g:Rho -> R An}{rest : Ab Ao}(ha : SB X CL W a f)(hb : SW X CL W (.BoolOp .Or (b::rest) pos) g) : SW X CL W (.BoolOp .Or (a::b::rest) pos) (fun ρ => (f ρ).bind fun c => if c = Ac then .ok Ac else g ρ):=
 fun A => PW.weak (Ve (ha A) (hb A)) fun σ H Q ⟨hA, ρ, gd, p⟩ => ⟨hA, ρ, gd, BV.bindB p fun c H1 _ s1 p1 => by
  cases c with
  |false => exact⟨hA.same s1, ρ, gd.same s1, p1⟩
  | true => exact p1 H1 (Ar.refl H1)⟩
theorem SD(ho : OpD X CL W (Bw op) g)(ha : ST X CL W a fa)(hb : ST X CL W b fb)(hm : D6 op b = Ad) : SB X CL W (.Compare a [op] [b] pos) (fun ρ => (fa ρ).bind fun x => (fb ρ).bind fun y => (g x y).bind Cj):=
 fun A => PT.weak (QW (ho A) (ha A) (hb A) hm) fun σ H Q ⟨hA, ρ, gd, p⟩ => ⟨hA, ρ, gd, BV.bind p fun dx x H1 _ s1 r1 p1 => ⟨hA.same s1, ρ, gd.same s1, BV.bind p1 fun dy y H2 _ s2 r2 p2=>
  ⟨(hA.same s1).same s2, dx, dy, r1.same s2, r2, BV.bind p2 fun dz z H3 _ s3 r3 p3 => by
   cases dz with
   |bl k => exact⟨k, r3, p3 H3 (Ar.refl H3)⟩
   | _ => exact p3.elim⟩⟩⟩
theorem Pt(hu : X.A.units+64<Bl)(ha : ST X CL W a fa)(hb : ST X CL W b fb)(hc : ST X CL W c fc)(hm : Fo [op, op'] [b, c] = Ad):SB X CL W (.Compare a [op,op'] [b,c] pos) (fun ρ =>(fa ρ).bind fun x =>(fb ρ).bind fun y =>(Bb op x y).bind fun z =>(Cj z).bind fun k =>if k = Ac then (fc ρ).bind fun u =>(Bb op' y u).bind Cj else .ok Ad):=
  fun A => PT.weak (PC (F9 hu op A) (F9 hu op' A) (ha A) (hb A) (hc A) hm) fun σ H Q ⟨hA, ρ, g, p⟩ => ⟨hA, ρ, g, BV.bind p fun dx x H1 _ s1 r1 p1 => ⟨hA.same s1, ρ, g.same s1, BV.bind p1 fun dy y H2 _ s2 r2 p2=>
    ⟨(hA.same s1).same s2, dx, dy, r1.same s2, r2, BV.bind p2 fun dz z H3 _ s3 r3 p3 => by
      cases dz with
      |bl k=>
        refine⟨k, r3, ?_⟩;cases k with
        |false => exact⟨Ad, rfl, p3 H3 (Ar.refl H3)⟩
        | true => exact⟨((hA.same s1).same s2).same s3, ρ, ((g.same s1).same s2).same s3, BV.bind p3 fun du u H4 _ s4 r4 p5 => ⟨(((hA.same s1).same s2).same s3).same s4, dy, du, (r2.same s3).same s4, r4, BV.bind p5 fun dv v H5 _ s5 r5 p6 => by
            cases dv with
            |bl k' => exact⟨k', r5, p6 H5 (Ar.refl H5)⟩
            | _ => exact p6.elim⟩⟩
      | _ => exact p3.elim⟩⟩⟩
theorem Sy(ha : ST X CL W a fa)(he : ∀ whole, EU a X.env whole = (do let v <-whole;FE a.pos;holding [v] (truthy v))) : SB X CL W a (fun ρ => (fa ρ).bind Bm):=
 fun A => PT.weak (PB (ha A) he) fun σ H Q ⟨hA, ρ, g, p⟩ => ⟨hA, ρ, g, BV.bind p fun d v H1 _ s1 r1 p1 => by
  cases d with
  |non=>
   have e := r1.non_of;subst e;exact⟨Ad, rfl, p1 H1 (Ar.refl H1)⟩
  |bl b=>
   have e := r1.bl_of;subst e;exact⟨b, rfl, p1 H1 (Ar.refl H1)⟩
  |int i=>
   have e := r1.int_of;subst e;exact⟨_, rfl, p1 H1 (Ar.refl H1)⟩
  |str x=>
   have e := r1.str_of;subst e;have p2 : BV W H1 (if B7 x.length = Ac then .ok (x.length != 0) else .bad) Q := p1
   split at p2
   ·rename_i h;refine⟨_, ⟨FL h, rfl⟩, ?_⟩;have e : ((x.length : Ae) != 0) = (x.length != 0) := by
     rw[EF];simp
    rw[e];exact p2 H1 (Ar.refl H1)
   ·exact p2.elim
  |tup ds=>
   obtain⟨q, xs, rfl, _, sq, r⟩ := r1.tup_of;refine⟨_, .inr (.inl ⟨xs, sq, rfl⟩), ?_⟩;have e : xs.isEmpty = ds.isEmpty := by
    have := r.length;cases xs <;> cases ds <;> first|rfl|cases this
   rw[e];exact p1 H1 (Ar.refl H1)
  |lst ds=>
   obtain⟨q, xs, rfl, sq, r⟩ := r1.lst_of;refine⟨_, .inl ⟨xs, sq, rfl⟩, ?_⟩;have e : xs.isEmpty = ds.isEmpty := by
    have := r.length;cases xs <;> cases ds <;> first|rfl|cases this
   rw[e];exact p1 H1 (Ar.refl H1)
  | _ => exact p1.elim⟩
noncomputable def VU(K : Fg)(CL : ClA)(H : Hp)(A : Ai -> Prop)(cls : Ah)(dx : Al Ai)(x : Ex) : Prop:=
 ∃ C, CL x.c = Aa C /\ cls = .ref C /\ (x.fs = [] \/ ∃ d vs, dx = Aa d /\ ¬ A d /\ H d = Aa (.xd vs) /\ Repf K CL H A vs x.fs)
noncomputable def Ez(K : Fg)(CL : ClA)(H : Hp)(cls : Ah)(dx : Al Ai)(x : Ex) : Prop := ∀ A, AOk H A -> VU K CL H A cls dx x
end
noncomputable def BB(B : Ai -> Prop)(ρ : Rho)(σ : L2.St) : Ai -> Prop := fun a => B a \/ ∃(j : Ag)(d : D), ρ[j]? = Aa (Aa (d, Ac)) /\ σ[j]? = Aa (Aa (.ref a))
structure Sx (K : Fg) (CL : ClA) (Fz : Ai -> HO -> Prop) (B : Ai -> Prop) (ρ : Rho) (σ : L2.St) (H : Hp) : Prop where
 good : Good K CL (BB B ρ σ) ρ σ H
 aok : AOk H (BB B ρ σ)
 new : ∀(j : Ag)(d : D)(a : Ai), ρ[j]? = Aa (Aa (d, Ac)) -> σ[j]? = Aa (Aa (.ref a)) -> (∀ o, ¬ Fz a o) /\ ¬ B a
 dis : ∀(i j : Ag)(d e : D)(a : Ai), ρ[i]? = Aa (Aa (d, Ac)) -> ρ[j]? = Aa (Aa (e, Ac)) -> σ[i]? = Aa (Aa (.ref a)) -> σ[j]? = Aa (Aa (.ref a)) -> i = j
 same : ∀ b o, Fz b o -> H b = Aa o
 len : ρ.length = σ.length
noncomputable def BK(K : Fg)(CL : ClA)(Fz : Ai -> HO -> Prop)(B : Ai -> Prop)(W : XW)(o : O)(D : Ends) : Prop := match o with
  |.next ρ => ∀ σ H, Sx K CL Fz B ρ σ H -> D.nx σ H
  |.brk ρ => ∀ σ H, Sx K CL Fz B ρ σ H -> D.bk σ H
  |.cont ρ => ∀ σ H, Sx K CL Fz B ρ σ H -> D.ct σ H
  |.ret d fr => ∀ v H, (∀ b o, Fz b o -> H b = Aa o) -> Rep K CL H B v d -> (fr = Ac -> ∀ ds, d = .lst ds -> ∃ a xs, v = .ref a /\ (∀ o, ¬ Fz a o) /\ H a = Aa (.lst xs) /\ Reps K CL H (fun b => B b \/ b = a) xs ds) -> D.rt v H
  |.exn x _ => ∀ H, (∀ b o, Fz b o -> H b = Aa o) -> W x H
  |.bad => AW
section
variable{K : Fg}{CL : ClA}{Fz Fy : Ai -> HO -> Prop}{B : Ai -> Prop}{ρ : Rho}{σ : L2.St}{H H' : Hp}
theorem Sx.mono(k : ∀ b o, Fz b o -> Fy b o)(x : Sx K CL Fy B ρ σ H) : Sx K CL Fz B ρ σ H := ⟨x.good, x.aok, fun j d a h1 h2 => ⟨fun o z => (x.new j d a h1 h2).1 o (k _ _ z), (x.new j d a h1 h2).2⟩, x.dis, fun b o z => x.same b o (k _ _ z), x.len⟩
theorem Sx.grow(x : Sx K CL Fz B ρ σ H)(s : Ar H H') : Sx K CL Fz B ρ σ H' := ⟨x.good.same s, x.aok.same s, x.new, x.dis, fun b o z => s _ _ (x.same b o z), x.len⟩
theorem BS{l : Ab α}{v : α}(h : i ≠ j) : (l.set i v)[j]? = l[j]? := by rw[Bi h]
theorem Ew{l : Ab α}{v w' : α}(h : (l.set i v)[i]? = Aa w') : w' = v := by
 rw[Dc]at h;cases e : l[i]? with
 |none => rw[e]at h;cases h
 |some x => rw[e]at h;cases h;rfl
theorem Sx.set(x : Sx K CL Fz B ρ σ H){v : V}{d : D}(i : Ag)(r : Rep K CL H (BB B ρ σ) v d) : Sx K CL Fz B (ρ.set i (Aa (d, Ad))) (σ.set i (Aa v)) H := by
 have own : ∀(j : Ag)(e : D), (ρ.set i (Aa (d, Ad)))[j]? = Aa (Aa (e, Ac)) -> i ≠ j /\ ρ[j]? = Aa (Aa (e, Ac)) := fun j e h => by
  by_cases hj : i = j
  ·subst hj;have := Ew h;cases this
  ·exact⟨hj, by rw[BS hj]at h;exact h⟩
 have sub : ∀ a, BB B (ρ.set i (Aa (d, Ad))) (σ.set i (Aa v)) a -> BB B ρ σ a := fun a h => by
  rcases h with h|⟨j, e, h1, h2⟩
  ·exact .inl h
  ·obtain⟨hj, h1⟩ := own j e h1;rw[BS hj]at h2;exact .inr ⟨j, e, h1, h2⟩
 refine⟨⟨fun j e h => ?_, fun j e h => ?_, by rw[AX, AX];exact x.len⟩, fun a h => x.aok a (sub a h), fun j e a h1 h2 => ?_, fun j k e f a h1 h2 h3 h4 => ?_, x.same, by rw[AX, AX];exact x.len⟩
 ·by_cases hj : i = j
  ·subst hj;have e1 := Ew h;cases e1;refine⟨v, ?_, Rep.sub sub _ r⟩;have hl : i<σ.length := by
    rw[<-x.len];have := (AR.mp h).1;simpa using this
   rw[Bj hl]
  ·rw[BS hj]at h;obtain⟨w', q, rw'⟩ := x.good.sh j e h;exact⟨w', by rw[BS hj];exact q, Rep.sub sub _ rw'⟩
 ·obtain⟨hj, h1⟩ := own j e h;obtain⟨a, o, q, ha, hh, rr⟩ := x.good.ow j e h1;exact⟨a, o, by rw[BS hj];exact q, .inr ⟨j, e, h, by rw[BS hj];exact q⟩, hh, rr.sub sub⟩
 ·obtain⟨hj, h1⟩ := own j e h1;rw[BS hj]at h2;exact x.new j e a h1 h2
 ·obtain⟨hj, h1⟩ := own j e h1;obtain⟨hk, h2⟩ := own k f h2;rw[BS hj]at h3;rw[BS hk]at h4;exact x.dis j k e f a h1 h2 h3 h4
end
section
variable{X : Cx}{CL : ClA}{W : XW}{pos : AH}{e : Ao}{fe : Rho -> R D}
noncomputable def SS(X : Cx)(CL : ClA)(W : XW)(st : A7)(f : Rho -> O) : Prop := ∀ Fz B, PS X st (fun D σ H => ∃ ρ, Sx X.K CL Fz B ρ σ H /\ BK X.K CL Fz B W (f ρ) D)
noncomputable def SSs(X : Cx)(CL : ClA)(W : XW)(st : Ab A7)(f : Rho -> O) : Prop := ∀ Fz B, PSs X st (fun D σ H => ∃ ρ, Sx X.K CL Fz B ρ σ H /\ BK X.K CL Fz B W (f ρ) D)
theorem PS.weak{e : A7}{t t':TS}(h : PS X e t)(k : ∀ D σ H, t' D σ H -> t D σ H) : PS X e t' := fun pI s σ H D I q => h pI s σ H D I (k _ _ _ q)
theorem PSs.weak{e : Ab A7}{t t':TS}(h : PSs X e t)(k : ∀ D σ H, t' D σ H -> t D σ H) : PSs X e t' := fun pI s σ H D I q => h pI s σ H D I (k _ _ _ q)
theorem BK.ex{f:D -> O}(x : Sx X.K CL Fz B ρ σ H)(h : BK X.K CL Fz B W (O.of ρ r f) D')(k : ∀ d v H', r = .ok d -> Ar H H' -> Rp H' v d -> Sx X.K CL Fz B ρ σ H' -> BK X.K CL Fz B W (f d) D' -> Q v H') : AT Rp W H r Q := by
 cases r with
 |ok d => exact fun v H' s r => k d v H' rfl s r (x.grow s) h
 |exn y => exact fun H' s => h H' fun b o z => s _ _ (x.same b o z)
 |bad => exact h
theorem BK.exB{r:R An}{f:An -> O}{Q:An -> Hp -> Prop}(x : Sx X.K CL Fz B ρ σ H)(h : BK X.K CL Fz B W (O.of ρ r f) D')(k : ∀ b H', r = .ok b -> Ar H H' -> Sx X.K CL Fz B ρ σ H' -> BK X.K CL Fz B W (f b) D' -> Q b H') : BV W H r Q := by
 cases r with
 |ok d => exact fun H' s => k d H' rfl s (x.grow s) h
 |exn y => exact fun H' s => h H' fun b o z => s _ _ (x.same b o z)
 |bad => exact h
theorem Qe(he : SE X CL W e fe)(hs : CO e Af pos.line X.env = pure Ad) : SS X CL W (.Expr e pos) (fun ρ => O.of ρ (fe ρ) fun _ => .next ρ) := fun Fz B pI s σ H D I ⟨ρ, x, p⟩=>
 QZ (he (BB B ρ σ)) hs pI s σ H D I ⟨x.aok, ρ, x.good, BK.ex x p fun d v H' _ s r x' q => q σ H' x'⟩
theorem Qc(he : SE X CL W e fe) : SS X CL W (.Return (Aa e) pos) (fun ρ => O.of ρ (fe ρ) fun d => .ret d Ad) := fun Fz B pI s σ H D I ⟨ρ, x, p⟩=>
 Jf (he (BB B ρ σ)) pI s σ H D I ⟨x.aok, ρ, x.good, BK.ex x p fun d v H' _ s r x' q => q v H' x'.same (Rep.sub (fun a h => .inl h) _ r) fun z => nomatch z⟩
theorem Uu{a b:Ab A7}{fa fb:Rho -> O}(hc : SB X CL W c fc)(ha : SSs X CL W a fa)(hb : SSs X CL W b fb) : SS X CL W (.If c a b pos) (fun ρ => O.of ρ (fc ρ) fun k => if k = Ac then fa ρ else fb ρ) := fun Fz B pI s σ H D I ⟨ρ, x, p⟩=>
 Ux (hc (BB B ρ σ)) (ha Fz B) (hb Fz B) pI s σ H D I ⟨x.aok, ρ, x.good, BK.exB x p fun k H' _ s x' q => by
  cases k with
  |true => exact⟨ρ, x', q⟩
  | false => exact⟨ρ, x', q⟩⟩
theorem Qa : SSs X CL W [] (fun ρ => .next ρ) := fun Fz B => PSs.weak QX fun D σ H ⟨ρ, x, p⟩ => p σ H x
theorem Pn{st : A7}{rest : Ab A7}{f g:Rho -> O}(h1 : SS X CL W st f)(h2 : SSs X CL W rest g) : SSs X CL W (st::rest) (fun ρ => (f ρ).seq g) := fun Fz B => PSs.weak (PD (h1 Fz B) (h2 Fz B)) fun D σ H ⟨ρ, x, p⟩ => ⟨ρ, x, by
 dsimp only at p;cases e : f ρ with
 |next ρ' => rw[e]at p;exact fun σ' H' x' => ⟨ρ', x', p⟩
 |ret d b => rw[e]at p;exact p
 |brk ρ' => rw[e]at p;exact p
 |cont ρ' => rw[e]at p;exact p
 |exn y ρ' => rw[e]at p;exact p
 | bad => rw[e]at p;exact p⟩
end
noncomputable def FY(K : Fg)(CL : ClA)(A : Ai -> Prop)(ds : Ab D)(J : It)(H1 : Hp) : Prop := ∀ H, Kp A H1 H -> ∀ i : Ag, (ds.length <= i -> J.stop i H) /\ ∀ d, ds[i]? = Aa d -> J.go i H /\ ∀ x H', J.yld i H x H' -> Ar H H' /\ ∀ B, (∀ a, B a -> A a \/ H1 a = Af) -> AOk H B -> Rep K CL H' B x d
noncomputable def Dg(K : Fg)(CL : ClA)(A : Ai -> Prop)(W : XW)(H : Hp)(r : R (Ab D))(Q : It -> Hp -> Prop) : Prop := match r with
  |.ok ds => ∀ J H', Ar H H' -> FY K CL A ds J H' -> ds.length <= sizeLine -> Q J H'
  |.exn x => ∀ H', Ar H H' -> W x H'
  |.bad => AW
noncomputable def SI(X : Cx)(CL : ClA)(W : XW)(tg iter : Ao)(f : Rho -> R (Ab D)) : Prop := ∀ A, PI X tg iter (fun σ H R => AOk H A /\ ∃ ρ, Good X.K CL A ρ σ H /\ Dg X.K CL A W H (f ρ) R)
theorem PI.weak{t t':TI}(h : PI X tg e t)(k : ∀ σ H Q, t' σ H Q -> t σ H Q) : PI X tg e t' := fun pI s σ H Q I q => h pI s σ H Q I (k _ _ _ q)
section
variable{X : Cx}{CL : ClA}{W : XW}{pos p : AH}{tg e a b : Ao}{fe fa fb : Rho -> R D}
theorem Dg.ex{f:D -> R (Ab D)}{Q:It -> Hp -> Prop}{Q':VK}(h : Dg X.K CL A W H (r.bind f) Q)(k : ∀ d v H', r = .ok d -> Ar H H' -> Rp H' v d -> Dg X.K CL A W H' (f d) Q -> Q' v H') : AT Rp W H r Q' := by
  cases r with
  | ok d => exact fun v H' s q => k d v H' rfl s q (by
      have h' : Dg X.K CL A W H (f d) Q := h;cases e : f d with
      |ok ds => rw[e]at h';exact fun J H2 s2 y z => h' J H2 (s.trans s2) y z
      |exn y => rw[e]at h';exact fun H2 s2 => h' H2 (s.trans s2)
      | bad => rw[e]at h';exact h')
  |exn y => exact h
  |bad => exact h
theorem KB{x:V}(r : Rep K CL H1 A x d)(k : Kp A H1 H)(hB : ∀ a, B a -> A a \/ H1 a = Af) : Rep K CL H B x d := by
 have r1 : Rep K CL H1 (fun a => A a \/ B a) x d := Rep.wide (fun a ha => ha.elim .inl (hB a)) _ r
 have r2 : Rep K CL H (fun a => A a \/ B a) x d := Rep.kp (fun b o e na => k b o e fun z => na (.inl z)) _ r1
 exact Rep.sub (fun a ha => .inr ha) _ r2
theorem Oj{ds : Ab D}(na : ¬ A q \/ KL K q xs)(s : SqL K H q xs)(r : Reps K CL H A xs ds) : FY K CL A ds (Itl K q) H := fun H' k i => by
 have s' := Jc k na s;refine⟨fun h => ⟨xs, s', by rw[r.length];exact h⟩, fun d hd => ?_⟩
 obtain⟨v, hv, rv⟩ := r.get hd;exact⟨⟨xs, v, s', hv⟩, fun x H2 ⟨e, y⟩ => by
  subst e;have := y xs s';rw[hv]at this;cases this;exact⟨Ar.refl _, fun B hB _ => KB rv k hB⟩⟩
theorem Pi{ds : Ab D}(na : ¬ A q \/ KT K q xs)(s : SqT K H q xs)(r : Reps K CL H A xs ds) : FY K CL A ds (Itt K q) H := fun H' k i => by
 have s' := Hv k na s;refine⟨fun h => ⟨xs, s', by rw[r.length];exact h⟩, fun d hd => ?_⟩
 obtain⟨v, hv, rv⟩ := r.get hd;exact⟨⟨xs, v, s', hv⟩, fun x H2 ⟨e, y⟩ => by
  subst e;have := y xs s';rw[hv]at this;cases this;exact⟨Ar.refl _, fun B hB _ => KB rv k hB⟩⟩
theorem KS(lo : Ae)(n : Ag) : FY K CL A (C0 lo n) (Itr lo n) H := fun H' k i => by
 refine⟨fun h => by rw[Ii]at h;exact h, fun d hd => ?_⟩
 obtain⟨h1, rfl⟩ := O9 hd;exact⟨h1, fun x H2 ⟨e, y⟩ => by
  subst e y;exact⟨Ar.refl _, fun _ _ _ => rfl⟩⟩
theorem R7{l:Ao}{tl:TE}(hl : PE X l tl) : PI X tg l (fun σ H R => tl σ H fun x H1 => (∃ a, x = .ref a /\ (∃ xs, SqL X.K H1 a xs /\ (xs.length <= sizeLine -> R (Itl X.K a) H1))) \/ ∃ a, x = .ref a /\ (∃ xs, SqT X.K H1 a xs /\ (xs.length <= sizeLine -> R (Itt X.K a) H1))) := by
 intro pI s σ H R I h;refine thn (hl pI s σ H _ I h) fun v s1 ⟨x, H1, I1, r1, q1⟩ => ?_
 rcases q1 with ⟨a, e, xs, hq, q⟩|⟨a, e, xs, hq, q⟩
 ·subst e;cases r1;obtain⟨its, rv, p, hz⟩ := I1.list hq;refine N5 p.isList ?_;refine⟨s1.heap.objs.size, [s1.heap.objs.size], _, _, H1, rfl, I1.kept (t' := s1.toks) fun b o e => Ax _ e, Oh a _, ⟨_, A9 _ rfl, rfl, rfl⟩, fun b hb => ?_, q hz⟩
  have e : b = s1.heap.objs.size := by simpa using hb
  subst e;exact I1.fpOk (AG _) (I1.hok.fresh (AG _))
 ·subst e;cases r1;obtain⟨its, rv, p, hz⟩ := I1.tuple hq;refine wpAny_pyIter_tuple (show s1.heap.IsTuple a its.toArray from p) ?_
  refine⟨s1.heap.objs.size, [s1.heap.objs.size], _, _, H1, rfl, I1.kept (t' := s1.toks) fun b o e => Ax _ e, Ol a _, ⟨_, A9 _ rfl, rfl, rfl⟩, fun b hb => ?_, q hz⟩
  have e : b = s1.heap.objs.size := by simpa using hb
  subst e;exact I1.fpOk (AG _) (I1.hok.fresh (AG _))
theorem V5(he : SE X CL W e fe) : SI X CL W tg e (fun ρ => (fe ρ).bind CZ) := fun A => PI.weak (R7 (he A)) fun σ H R ⟨hA, ρ, g, p⟩ => ⟨hA, ρ, g, Dg.ex p fun d v H1 _ s1 r1 p1 => by
 cases d with
 |lst ds=>
  obtain⟨q, xs, rfl, na, sq, r⟩ := r1;exact .inl ⟨q, rfl, xs, sq, fun hz => p1 _ H1 (Ar.refl H1) (Oj na sq r) (by rw[<-r.length];exact hz)⟩
 |tup ds=>
  obtain⟨q, xs, rfl, na, sq, r⟩ := r1;exact .inr ⟨q, rfl, xs, sq, fun hz => p1 _ H1 (Ar.refl H1) (Pi na sq r) (by rw[<-r.length];exact hz)⟩
 | _ => exact p1.elim⟩
theorem KC{ds : Ab D}(h : Cv lo hi = .ok ds) : (-(2 ^ 62) <= lo /\ lo<2 ^ 62) /\ (-(2 ^ 62) <= hi /\ hi<2 ^ 62) /\ ds = C0 lo (hi-lo).toNat /\ (C0 lo (hi-lo).toNat).length <= sizeLine := by
 unfold Cv at h;split at h
 ·rename_i q;cases h;exact⟨by omega, by omega, rfl, by rw[Ii, Dm];omega⟩
 ·cases h
theorem J6(h : Cv lo hi = .exn x) : AW := by
 unfold Cv at h;split at h <;> cases h
theorem Ro(ha : ST X CL W a fa)(hg : Gl X "range")(hm : X.mg "range" = Af)(hs : AC [a] X.env = [(Ad, eval a X.env)]) : SI X CL W tg (.Call (.Name "range" p) [a] [] pos) (fun ρ => (fa ρ).bind fun x => (CQ x).bind fun j => Cv 0 j):=
 fun A => PI.weak (OU hg hm (FM (ha A) GW hs) hs) fun σ H R ⟨hA, ρ, g, q⟩ => ⟨hA, ρ, g, Dg.ex q fun d v H1 _ s1 r1 p1 => by
  cases d with
  |int j=>
   have e := r1.int_of;subst e;have p2 : Dg X.K CL A W H1 (Cv 0 j) R := p1;cases e2 : Cv 0 j with
   |ok ds=>
    rw[e2]at p2;obtain⟨_, h2, rfl, hz⟩ := KC e2;exact⟨j, rfl, h2.1, h2.2, p2 _ H1 (Ar.refl H1) (by rw[Fh];exact KS 0 j.toNat) hz⟩
   |exn y => exact(J6 e2).elim
   |bad => rw[e2]at p2;exact p2.elim
  | _ => exact p1.elim⟩
theorem PH(ha : ST X CL W a fa)(hb : ST X CL W b fb)(hg : Gl X "range")(hm : X.mg "range" = Af)(hs : AC [a, b] X.env = [(Ad, eval a X.env), (Ad, eval b X.env)])(hs2 : AC [b] X.env = [(Ad, eval b X.env)]):
  SI X CL W tg (.Call (.Name "range" p) [a, b] [] pos) (fun ρ => (fa ρ).bind fun x => (fb ρ).bind fun y => (CQ x).bind fun i => (CQ y).bind fun j => Cv i j):=
 fun A => PI.weak (OT hg hm (FM (ha A) (FM (hb A) GW hs2) (by rw[hs, hs2])) hs hs2) fun σ H R ⟨hA, ρ, g, q⟩ => ⟨hA, ρ, g, Dg.ex q fun d v H1 _ s1 r1 p1 => ⟨hA.same s1, ρ, g.same s1, Dg.ex p1 fun d2 v2 H2 _ s2 r2 p2 => by
  cases d with
  |int i=>
   cases d2 with
   |int j=>
    have e := r1.int_of;have e' := r2.int_of
    subst e e';have p3 : Dg X.K CL A W H2 (Cv i j) R := p2;cases e2 : Cv i j with
    |ok ds=>
     rw[e2]at p3;obtain⟨h1, h2, rfl, hz⟩ := KC e2;exact⟨i, j, rfl, ⟨h1.1, h1.2, h2.1, h2.2⟩, p3 _ H2 (Ar.refl H2) (KS _ _) hz⟩
    |exn y => exact(J6 e2).elim
    |bad => rw[e2]at p3;exact p3.elim
   |_ => exact p2.elim
  | _ => exact p2.elim⟩⟩
theorem BK.exI{r:R (Ab D)}{f:Ab D -> O}{Q:It -> Hp -> Prop}(x : Sx X.K CL Fz B ρ σ H)(h : BK X.K CL Fz B W (O.of ρ r f) D')(k : ∀ ds J H', r = .ok ds -> Ar H H' -> FY X.K CL A ds J H' -> ds.length <= sizeLine -> Sx X.K CL Fz B ρ σ H' -> BK X.K CL Fz B W (f ds) D' -> Q J H') : Dg X.K CL A W H r Q := by
 cases r with
 |ok d => exact fun J H' s y z => k d J H' rfl s y z (x.grow s) h
 |exn y => exact fun H' s => h H' fun b o z => s _ _ (x.same b o z)
 |bad => exact h
theorem BK.turn{Fy:Ai -> HO -> Prop}{o:O}{g:Rho -> O}{N:L2.St -> Hp -> Prop}(hf : ∀ b q, Fz b q -> Fy b q)(h : BK K CL Fz B W (o.turn g) D')(k : ∀ ρ' σ' H', Sx K CL Fy B ρ' σ' H' -> BK K CL Fz B W (g ρ') D' -> N σ' H'):BK K CL Fy B W o {D' with nx := N,ct := N,bk := D'.nx} := by
 cases o with
 |next ρ' => exact fun σ' H' x => k ρ' σ' H' x h
 |cont ρ' => exact fun σ' H' x => k ρ' σ' H' x h
 |brk ρ' => exact fun σ' H' x => h σ' H' (x.mono hf)
 |ret d b => exact fun v H' s r n => h v H' (fun b o z => s b o (hf b o z)) r fun z ds e => let ⟨a, xs, h1, h2, h3⟩ := n z ds e;⟨a, xs, h1, fun o q => h2 o (hf a o q), h3⟩
 |exn y ρ' => exact fun H' s => h H' (fun b o z => s b o (hf b o z))
 |bad => exact h
noncomputable def DL(ts : Ab Ag)(ρ : Rho) : Rho := ts.foldl (fun ρ t => ρ.set t Af) ρ
noncomputable def GT(K : Fg)(CL : ClA)(as : D -> Rho -> R Rho)(g : TG) : Prop := ∀ Fz B ρ σ H v d ρ' Q, Sx K CL Fz B ρ σ H -> Rep K CL H (BB B ρ σ) v d -> as d ρ = .ok ρ' -> (∀ σ', Sx K CL Fz B ρ' σ' H -> Q σ' H) -> g v σ H Q
theorem QJ(i : Ag) : GT K CL (fun d ρ => .ok (ρ.set i (Aa (d, Ad)))) (Eb i) := fun Fz B ρ σ H v d ρ' Q x r e k => by
 cases e;exact k _ (x.set i r)
theorem LG{K : Fg}{Fz : Ai -> HO -> Prop}{B : Ai -> Prop}{H : Hp} : ∀(ts : Ab Ag)(ds : Ab D)(vs : Ab V)(ρ ρ' : Rho)(σ : L2.St)(Q : L2.St -> Hp -> Prop), Sx K CL Fz B ρ σ H -> Reps K CL H (BB B ρ σ) vs ds -> D9 ts ds ρ = Aa ρ' -> (∀ σ', Sx K CL Fz B ρ' σ' H -> Q σ' H) -> (ts.foldr (fun t u => GY (Eb t) u) G5) vs σ H Q
 |[], [], [], ρ, ρ', σ, Q, x, _, e, k => by
  cases e;exact⟨rfl, k σ x⟩
 |t::ts, d::ds, v::vs, ρ, ρ', σ, Q, x, r, e, k => by
  refine⟨v, vs, rfl, LG ts ds vs _ ρ' _ Q (x.set t r.1) (Reps.sub (fun a ha => ?_) ds r.2) e k⟩
  rcases ha with ha|⟨j, c, h1, h2⟩
  ·exact .inl ha
  ·by_cases hj : t = j
   ·subst hj;have := Ew h1;cases this
   ·rw[BS hj]at h1 h2;exact .inr ⟨j, c, h1, h2⟩
 |[], _::_, _, _, _, _, _, _, _, e, _ => by cases e
 |_::_, [], _, _, _, _, _, _, _, e, _ => by cases e
 |[], [], _::_, _, _, _, _, _, r, _, _ => r.elim
 |_::_, _::_, [], _, _, _, _, _, r, _, _ => r.elim
theorem J5 : ∀(ts : Ab Ag)(ds : Ab D)(ρ ρ' : Rho), D9 ts ds ρ = Aa ρ' -> ds.length = ts.length
 |[], [], _, _, _ => rfl
 |_::ts, _::ds, _, _, e => congrArg (· + 1) (J5 ts ds _ _ e)
 |[], _::_, _, _, e => by cases e
 |_::_, [], _, _, e => by cases e
theorem Tq(ts : Ab Ag) : GT K CL (Ea ts) (JF K ts.length (ts.foldr (fun t u => GY (Eb t) u) G5)) := fun Fz B ρ σ H v d ρ' Q x r e k => by
 cases d with
 |tup ds=>
  obtain⟨a, xs, rfl, na, sq, rs⟩ := r;rw[Ow]at e;cases e2 : D9 ts ds ρ with
  |none => rw[e2]at e;cases e
  |some ρ2=>
   rw[e2]at e;cases e;exact⟨a, xs, rfl, sq, by rw[rs.length];exact J5 _ _ _ _ e2, LG ts ds xs ρ _ σ Q x rs e2 k⟩
 |_ => cases e
theorem Lw{body:Ab A7}{fbd:Rho -> O}{g:TG}(hp : DA (model X.prog X.w) X.A X.env X.xe)(hc : X.calm = Ac)(hGT : GT X.K CL as g)(hg : PG X tg g)(hit : SI X CL W tg iter fi)(hb : SSs X CL W body fbd)(hs : ∀ x, BM iter X.env x = pure x)(hax : ∀ d ρ x, as d ρ ≠ .exn x):SS X CL W (.For tg iter body [] pos) (fun ρ =>O.of ρ (fi ρ) fun xs =>Cw (fun x ρ' =>O.of ρ' (as x ρ') fbd) xs ρ) := fun Fz B pI s σ H D I ⟨ρ, x, p⟩ => by
 refine R1 hp hc (hit (BB B ρ σ)) hg (tb := fun D σ H => ∃ Fy, (fun D σ H => ∃ ρ, Sx X.K CL Fy B ρ σ H /\ BK X.K CL Fy B W (fbd ρ) D) D σ H) (fun pI s σ H D I ⟨Fy, q⟩ => hb Fy B pI s σ H D I q) hs pI s σ H D I ⟨x.aok, ρ, x.good, BK.exI x p fun ds J H1 _ s1 y _ x1 q => ?_⟩
 let Fy : Ai -> HO -> Prop := fun b o => H1 b = Aa o /\ ¬ ∃(j : Ag)(d : Ov.D), ρ[j]? = Aa (Aa (d, Ac)) /\ σ[j]? = Aa (Aa (.ref b))
 have hfy : ∀ b o, Fz b o -> Fy b o := fun b o z => ⟨x1.same b o z, fun ⟨j, d, h1, h2⟩ => (x1.new j d b h1 h2).1 o z⟩
 have xy : Sx X.K CL Fy B ρ σ H1 := ⟨x1.good, x1.aok, fun j d a h1 h2 => ⟨fun o z => z.2 ⟨j, d, h1, h2⟩, (x1.new j d a h1 h2).2⟩, x1.dis, fun b o z => z.1, x1.len⟩
 refine⟨fun k m σ' H' => m = ds.length-k /\ k <= ds.length /\ ∃ ρ', Sx X.K CL Fy B ρ' σ' H' /\ BK X.K CL Fz B W (Cw (fun x ρ' => O.of ρ' (as x ρ') fbd) (ds.drop k) ρ') D, ⟨ds.length, by simp, FH _, ρ, xy, q⟩, ?_⟩
 rintro k m σ' H' ⟨rfl, hk, ρ', x', q'⟩;have kp : Kp (BB B ρ σ) H1 H' := fun b o e na => x'.same b o ⟨e, fun z => na (.inr z)⟩
 obtain⟨yst, ygo⟩ := y H' kp k;by_cases hlt : k<ds.length
 ·have hd : ds[k]? = Aa ds[k] := BG hlt;obtain⟨hgo, hyl⟩ := ygo _ hd;refine .inr ⟨hgo, fun σ'' H'' => ∃ ρ'', Sx X.K CL Fy B ρ'' σ'' H'' /\ BK X.K CL Fz B W (Cw (fun x ρ' => O.of ρ' (as x ρ') fbd) (ds.drop (k+1)) ρ'') D, fun σ'' H'' z => ⟨ds.length-(k+1), by omega, rfl, hlt, z⟩, fun v H2 hv => ?_⟩
  obtain⟨e2, rv⟩ := hyl v H2 hv;rw[M9 hlt]at q';have q2 : BK X.K CL Fz B W ((O.of ρ' (as ds[k] ρ') fbd).turn (Cw (fun x ρ' => O.of ρ' (as x ρ') fbd) (ds.drop (k+1)))) D := q'
  have rv' : Rep X.K CL H2 (BB B ρ' σ') v ds[k] := rv _ (fun a ha => by
    rcases ha with ha|⟨j, d, h1, h2⟩
    ·exact .inl (.inl ha)
    ·cases e : H1 a with
     |none => exact .inr rfl
     |some o=>
      by_cases ho : ∃(j : Ag)(d : Ov.D), ρ[j]? = Aa (Aa (d, Ac)) /\ σ[j]? = Aa (Aa (.ref a))
      ·exact .inl (.inr ho)
      ·exact absurd ⟨e, ho⟩ ((x'.new j d a h1 h2).1 o)) x'.aok
  cases ea : as ds[k] ρ' with
  |bad => rw[ea]at q2;exact q2.elim
  |exn z => exact absurd ea (hax _ _ z)
  |ok ρ2=>
   rw[ea, O.of_ok]at q2;exact hGT Fy B ρ' σ' H2 v ds[k] ρ2 _ (x'.grow e2) rv' ea fun σ3 x3 => ⟨Fy, ρ2, x3, BK.turn hfy q2 fun ρ3 σ3 H3 x3 q3 => ⟨ρ3, x3, q3⟩⟩
 ·have hk' : ds.length <= k := by omega
  rw[Na hk']at q';exact .inl ⟨yst hk', q' σ' H' (x'.mono hfy)⟩
end
section
variable{X : Cx}{CL : ClA}{W : XW}{a b c : Ao}{fa fb fc : Rho -> R D}{pos : AH}
noncomputable def tyK : Ki -> Al Cc
 |.int => Aa "int"
 |.bool => Aa "bool"
 |.str => Aa "str"
 |.list => Aa "list"
 |.tuple => Aa "tuple"
 |_ => Af
noncomputable def Jg : D -> An
 |.obj _ _ => Ad
 |.exc _ _ => Ad
 |.dic _ => Ad
 |_ => Ac
theorem To{Q:Ah -> Ak -> Prop}{E : Ah -> Ak -> Prop}(I : Inv X pI σ H s)(r : BL X.K CL H A v d)(q : A6 v u)(hT : tyK k = Aa T)(hd : Jg d = Ac)(h : ∀ s', Inv X pI σ H s' -> Q (.bool (kiD up k d)) s'):
  AD (model X.prog X.w) X.A (call (.builtin "isinstance") [u, .type T]) Q E s := by
 have r' := r.plain;have it := fun t => h _ (I.tok t)
 cases d with
 |obj => cases hd
 |exc => cases hd
 |dic => cases hd
 |non=>
  cases r';cases q;cases k <;> simp only[tyK]at hT <;> cases hT
  ·exact IsiPair.NoneType_int (it _)
  ·exact IsiPair.NoneType_bool (it _)
  ·exact IsiPair.NoneType_str (it _)
  ·exact IsiPair.NoneType_list (it _)
  ·exact IsiPair.NoneType_tuple (it _)
 |bl b=>
  cases r';cases q;cases k <;> simp only[tyK]at hT <;> cases hT
  ·exact IsiPair.bool_int (h _ I)
  ·exact IsiPair.bool_bool (h _ I)
  ·exact IsiPair.bool_str (it _)
  ·exact IsiPair.bool_list (it _)
  ·exact IsiPair.bool_tuple (it _)
 |int i=>
  cases r';obtain⟨t, rfl⟩ := q;cases k <;> simp only[tyK]at hT <;> cases hT
  ·exact IsiPair.int_int (h _ I)
  ·exact IsiPair.int_bool (it _)
  ·exact IsiPair.int_str (it _)
  ·exact IsiPair.int_list (it _)
  ·exact IsiPair.int_tuple (it _)
 |str x=>
  cases r';obtain⟨t, rfl⟩ := q;cases k <;> simp only[tyK]at hT <;> cases hT
  ·exact IsiPair.str_int (it _)
  ·exact IsiPair.str_bool (it _)
  ·exact IsiPair.str_str (h _ I)
  ·exact IsiPair.str_list (it _)
  ·exact IsiPair.str_tuple (it _)
 |tup ds=>
  obtain⟨p, xs, rfl, _, sq, rr⟩ := r';obtain⟨its, rv, pt, _⟩ := I.tuple sq;cases q;have pt' : s.heap.IsTuple p its.toArray := pt;cases k <;> simp only[tyK]at hT <;> cases hT
  ·exact IsiPair.isTuple_int pt' (fun _ _ e => e) (it _)
  ·exact IsiPair.isTuple_bool pt' (fun _ _ e => e) (it _)
  ·exact IsiPair.isTuple_str pt' (fun _ _ e => e) (it _)
  ·exact IsiPair.isTuple_list pt' (fun _ _ e => e) (it _)
  ·exact IsiPair.isTuple_tuple pt' (fun _ _ e => e) (h _ I)
 |lst ds=>
  obtain⟨p, xs, rfl, _, sq, rr⟩ := r';obtain⟨its, rv, pl, _⟩ := I.list sq;cases q;have pt' : s.heap.IsList p its.toArray := Gk pl;cases k <;> simp only[tyK]at hT <;> cases hT
  ·exact IsiPair.isList_int pt' (fun _ _ e => e) (it _)
  ·exact IsiPair.isList_bool pt' (fun _ _ e => e) (it _)
  ·exact IsiPair.isList_str pt' (fun _ _ e => e) (it _)
  ·exact IsiPair.isList_list pt' (fun _ _ e => e) (h _ I)
  ·exact IsiPair.isList_tuple pt' (fun _ _ e => e) (it _)
theorem OE(hT : tyK k = Aa T)(p : AT Rp W H (ED up [k] d) Q) : Jg d = Ac /\ AT Rp W H (.ok (.bl (kiD up k d))) Q := by
 cases k <;> simp only[tyK]at hT <;> cases hT <;> cases d <;> first|exact p.elim|exact⟨rfl, by simpa using p⟩
theorem So{x:Aj}{p:AH}(hT : tyK k = Aa T)(hg : Gl X "isinstance")(hm : X.mg "isinstance" = Af)(hg2 : Gl X x)(hm2 : X.mg x = Af)(hv : BR x = Aa (.type T))(hn : x ≠ "__name__")(hdb : (x==("__debug__" : Aj)) = Ad)(ha : ST X CL W a fa)(he : AC [a, .Name x p2] X.env = (Ad, eval a X.env)::AC [.Name x p2] X.env) : SE X CL W (.Call (.Name "isinstance" p) [a, .Name x p2] [] pos) (fun ρ => (fa ρ).bind fun x => ED up [k] x) := fun A=>
 PE.weak (K0 (r := fun xs H Q => ∃ y d, xs = [y, .ty T] /\ BL X.K CL H A y d /\ Jg d = Ac /\ Q (.bl (kiD up k d)) H) (fun pI s σ H xs us Q I r ⟨y, d, e, ry, hd, q⟩ => by
   subst e;obtain⟨u, w', rfl, r1, r2⟩ := Jl r;cases r2;exact To I ry r1 hT hd fun s' I' => ⟨.bl _, H, I', rfl, q⟩)
  hg hm boot_isinstance (FM (ha A) (FM (Q5 (v := .ty T) hg2 hm2 hv rfl hn hdb) GW rfl) he) (by decide) (by decide) he rfl) fun σ H Q ⟨hA, ρ, g, q⟩ => ⟨hA, ρ, g, AT.bind q fun d v H1 _ s1 r1 p1 => by
   obtain⟨hd, p2⟩ := OE hT p1;exact⟨v, d, rfl, r1, hd, p2 _ H1 (Ar.refl H1) rfl⟩⟩
theorem PV{b : An}{A':AI}{E : Ah -> Ak -> Prop}{Q:An -> Ak -> Prop}{prog:Az}{w:AF}(r : Rep X.K CL H A v d)(q : A6 v u)(h : DO d = .ok b)(hq : Q b s) : AD (model prog w) A' (truthy u) Q E s := by
 cases d with
 |non=>
  cases r;cases q;cases h;exact truthy_none hq
 |bl k=>
  cases r;cases q;cases h;exact Bx hq
 |int i=>
  cases r;obtain⟨t, rfl⟩ := q;cases h;exact truthy_int hq
 |_ => cases h
theorem J3 : ∀{ds : Ab D}{b : An}, Ec ds = .ok b -> (∀ j, j<ds.length -> ∃ c, DO (ds.getD j .non) = .ok c) /\ b = (B1 ds.length).all fun j => match DO (ds.getD j .non) with
  |.ok c => c
  |_ => Ad
 |[], b, h => by cases h;exact⟨fun j hj => absurd hj (Nat.not_lt_zero _), rfl⟩
 |d::ds, b, h => by
  rw[IF]at h;cases e : DO d with
  |bad => rw[e]at h;cases h
  |exn x => rw[e]at h;cases h
  |ok c=>
   rw[e, R.bind_ok]at h;cases e2 : Ec ds with
   |bad => rw[e2]at h;cases h
   |exn x => rw[e2]at h;cases h
   |ok c2=>
    rw[e2, R.bind_ok]at h;cases h;obtain⟨h1, h2⟩ := J3 e2;refine⟨fun j hj => ?_, ?_⟩
    ·cases j with
     |zero => exact⟨c, e⟩
     |succ j => exact h1 j (by simpa using hj)
    ·rw[Dp, JP, h2];show (c&&_) = ((match DO d with | .ok c => c|_ => Ad)&&_)
     rw[e];rfl
theorem RC{ds : Ab D}(r : Reps X.K CL H A0 xs ds)(rv : AN xs its){v:Ah}(h : its.toArray[j]? = Aa v) : j<ds.length /\ ∃ x, Rep X.K CL H A0 x (ds.getD j .non) /\ A6 x v := by
 have h' : its[j]? = Aa v := by simpa using h
 obtain⟨hj, e⟩ := AR.mp h';obtain⟨x, rx, q⟩ := FO r rv hj;have l1 := rv.length;have l2 := r.length
 exact⟨by omega, x, rx, by rw[<-e];exact q⟩
theorem UP{o:Ay}(k : ∀ b q, b ∉ [h.objs.size] -> (h.push o).get? b = Aa q -> h'.get? b = Aa q) : ∀ b q, h.get? b = Aa q -> h'.get? b = Aa q := fun b q e => k b q (by
 intro z;have := Bs.mp z;rw[this]at e;exact absurd (Aw e) (A3 _)) (Ax _ e)
theorem Tv(hc : X.calm = Ac) : FU X CL W (.builtin "all") (biD .all) := by
  intro A pI s σ H xs us Q I r ⟨hA, ds, rs, p⟩
  match ds, rs, p with
  |[.lst es], rs, p=>
    obtain⟨v, rfl, rv⟩ := rs.one;obtain⟨q, ys, e, _, sq, ry⟩ := rv.plain;subst e;obtain⟨u, rfl, ru⟩ := Go r;cases ru;rw[VB]at p;cases e1 : Ec es with
    |bad => rw[e1]at p;exact p.elim
    |exn x=>
      exfalso
      have : ∀(es : Ab D) x, Ec es ≠ .exn x := by
        intro es
        induction es with
        |nil => intro x h;cases h
        |cons d ds ih=>
          intro x h;rw[IF]at h;cases e : DO d with
          |bad => rw[e]at h;cases h
          |exn y => cases d <;> cases e
          |ok c=>
            rw[e, R.bind_ok]at h;cases e2 : Ec ds with
            |bad => rw[e2]at h;cases h
            |exn y => exact ih y e2
            |ok c2 => rw[e2]at h;cases h
      exact this es x e1
    |ok b=>
      rw[e1, R.bind_ok]at p;obtain⟨h1, h2⟩ := J3 e1;obtain⟨its, rvv, pl, _⟩ := I.list sq;have hlt : q<s.heap.objs.size := by obtain⟨o, n, e, _⟩ := pl;exact Aw e
      have hl : its.toArray.size = es.length := by rw[AA, <-rvv.length, ry.length]
      refine call_all_walk (N5 (Gk pl) ⟨s.heap.objs.size, _, _, _, _, _, (fun j => match DO (es.getD j .non) with | .ok c => c|_ => Ad), rfl, Walks.list (A := X.A.in1) (I.ok.hd hc) s.heap.objs.size q (Bv hlt) its.toArray, ⟨⟨_, A9 _ rfl, rfl, rfl⟩, (Gk pl).push _⟩, fun j v s' Q' E' hv hQ => ?_, fun h' tk k => ?_⟩)
      · obtain⟨hj, x, rx, qx⟩ := RC ry rvv hv;obtain⟨c, ec⟩ := h1 j hj;exact PV rx qx ec (by dsimp only at hQ;rw[ec]at hQ;exact hQ)
      · rw[hl, <-h2];exact⟨.bl b, H, I.kept (UP k), rfl, p _ H (Ar.refl H) rfl⟩
  |[], _, p => exact p.elim
  |[.non], _, p => exact p.elim
  |[.bl _], _, p => exact p.elim
  |[.int _], _, p => exact p.elim
  |[.str _], _, p => exact p.elim
  |[.tup _], _, p => exact p.elim
  |[.obj _ _], _, p => exact p.elim
  |[.exc _ _], _, p => exact p.elim
  |[.dic _], _, p => exact p.elim
  |x::_::_, _, p => cases x <;> exact p.elim
end
section
variable(K : Fg)(CL : ClA)
noncomputable def VE(H0 : Hp)(A : Ai -> Prop)(H : Hp)(v : V)(d : D) : Prop := ∀ ds, d = .lst ds -> ∃ a xs, v = .ref a /\ H0 a = Af /\ H a = Aa (.lst xs) /\ Reps K CL H (fun b => A b \/ b = a) xs ds
noncomputable def CM(fr : An)(H0 : Hp)(A : Ai -> Prop)(H : Hp)(v : V)(d : D) : Prop := Rep K CL H A v d /\ (fr = Ac -> VE K CL H0 A H v d)
end
section
variable{X : Cx}{CL : ClA}{W : XW}{a b c : Ao}{fa fb fc : Rho -> R D}{pos : AH}
noncomputable def SC(X : Cx)(CL : ClA)(W : XW)(fr : An)(e : Ao)(f : Rho -> R D) : Prop := ∀ A, PE X e (fun σ H Q => AOk H A /\ ∃ ρ, Good X.K CL A ρ σ H /\ AT (CM X.K CL fr H A) W H (f ρ) Q)
theorem SC.se{fr : An}(h : SC X CL W fr a fa) : SE X CL W a fa := fun A => PE.weak (h A) fun σ H Q ⟨hA, ρ, g, p⟩ => ⟨hA, ρ, g, by
 cases e : fa ρ with
 |ok d => rw[e]at p;exact fun v H' s r => p v H' s r.1
 |exn x => rw[e]at p;exact p
 | bad => rw[e]at p;exact p⟩
theorem SE.sc(h : SE X CL W a fa) : SC X CL W Ad a fa := fun A => PE.weak (h A) fun σ H Q ⟨hA, ρ, g, p⟩ => ⟨hA, ρ, g, by
 cases e : fa ρ with
 |ok d => rw[e]at p;exact fun v H' s r => p v H' s ⟨r, fun z => nomatch z⟩
 |exn x => rw[e]at p;exact p
 | bad => rw[e]at p;exact p⟩
theorem SC.congr{fr : An}{f g:Rho -> R D}(h : SC X CL W fr a f)(e : ∀ ρ, g ρ = f ρ) : SC X CL W fr a g := fun A => PE.weak (h A) fun σ H Q ⟨hA, ρ, q, p⟩ => ⟨hA, ρ, q, by rw[<-e];exact p⟩
theorem Gb{ds : Ab D}(s : Ar H0 H)(hA : AOk H A)(hp : H p = Af)(r : Reps K CL H A xs ds) : CM K CL Ac H0 A (upd H p (.lst xs)) (.ref p) (.lst ds):=
 ⟨K8 hA hp r, fun _ ds' e => by
  cases e;exact⟨p, xs, rfl, s.free hp, Fs, (Reps.wide (fun a ha => ha.imp id fun e => by rw[e];exact hp) _ r).same (D8 hp _)⟩⟩
theorem Ln{fr : An}(r : Rep K CL H A v d)(h : ∀ ds, d ≠ .lst ds) : CM K CL fr H0 A H v d := ⟨r, fun _ ds e => absurd e (h ds)⟩
theorem Rk(hs : SA X CL W es fs)(hz : ∀ ρ ds, fs ρ = .ok ds -> ds.length <= 100000) : SC X CL W Ac (.List es pos) (fun ρ => (fs ρ).bind fun xs => .ok (.lst xs)):=
 fun A => PE.weak (Sg (hs A)) fun σ H Q ⟨hA, ρ, g, p⟩ => ⟨hA, ρ, g, EA.bind p fun ds vs H1 e s1 r1 p1 => ⟨by
  rw[r1.length, Dm];have := hz ρ ds e;omega, fun q hq => p1 _ _ (D8 hq _) (Gb s1 (hA.same s1) hq r1)⟩⟩
theorem AT.bindF{fr : An}{f:D -> R D}{Q':VK}(h : AT (CM K CL fr H A) W H (r.bind f) Q)(k : ∀ d v H', r = .ok d -> Ar H H' -> Rp H' v d -> AT (CM K CL fr H A) W H' (f d) Q -> Q' v H') : AT Rp W H r Q' := by
 cases r with
 |ok d => exact fun v H2 s2 q => k d v H2 rfl s2 q (AT.same s2 h)
 |exn x => exact h
 |bad => exact h
theorem EA.bindF{Rp:Hp -> Ab V -> Ab D -> Prop}{r:R (Ab D)}{f:Ab D -> R D}{Q':Ab V -> Hp -> Prop}(h : AT Rq W H (r.bind f) Q)(k : ∀ d v H', r = .ok d -> Ar H H' -> Rp H' v d -> AT Rq W H' (f d) Q -> Q' v H') : EA Rp W H r Q' := by
 cases r with
 |ok d => exact fun v H2 s2 q => k d v H2 rfl s2 q (AT.same s2 h)
 |exn x => exact h
 |bad => exact h
theorem FT.bindF{r:R (Al Ae)}{f:Al Ae -> R D}(h : AT Rq W H (r.bind f) Q)(k : ∀ o H', r = .ok o -> Ar H H' -> AT Rq W H' (f o) Q -> Q' o H') : FT W H r Q' := by
 cases r with
 |ok d => exact fun H2 s2 => k d H2 rfl s2 (AT.same s2 h)
 |exn x => exact h
 |bad => exact h
theorem Uv{lo hi:Al Ao}{fl fh:Rho -> R (Al Ae)}(ha : ST X CL W a fa)(hl : SO X CL W lo fl)(hh : SO X CL W hi fh) : SC X CL W Ac (.Subscript a (.Slice lo hi Af p2) pos) (fun ρ => (fa ρ).bind fun x => (fl ρ).bind fun l => (fh ρ).bind fun h => slD x l h):=
 fun A => PE.weak (O1 (r := fun x l h H Q => Mm X.K x l h H Q \/ Ml X.K x l h H Q) (fun pI s σ H x v vl vu lo hi sl Q I rx hs pl pu h => h.elim (Qi pI s σ H x v vl vu lo hi sl Q I rx hs pl pu) (Rn pI s σ H x v vl vu lo hi sl Q I rx hs pl pu)) (ha A) (hl A) (hh A)) fun σ H Q ⟨hA, ρ, g, p⟩ => ⟨hA, ρ, g, AT.bindF p fun dx x H1 _ s1 r1 p1 => ⟨hA.same s1, ρ, g.same s1, FT.bindF p1 fun l H2 _ s2 p2 => ⟨(hA.same s1).same s2, ρ, (g.same s1).same s2, FT.bindF p2 fun h H3 _ s3 p3 => by
  cases dx with
  |lst ds=>
   obtain⟨q, xs, rfl, sq, r⟩ := ((r1.same s2).same s3).lst_of;exact .inl ⟨q, xs, rfl, sq, fun t ht => p3 _ _ (D8 ht _) (Gb ((s1.trans s2).trans s3) (((hA.same s1).same s2).same s3) ht (Ld l h r))⟩
  |tup ds=>
   obtain⟨q, xs, rfl, _, sq, r⟩ := ((r1.same s2).same s3).tup_of;rw[V4]at p3;split at p3
   ·exact p3.elim
   ·rename_i hw;refine .inr ⟨q, xs, rfl, sq, ?_, fun t ht => p3 _ _ (D8 ht _) (Ln (Hs (((hA.same s1).same s2).same s3) ht (Ld l h r)) (by intro _ z;cases z))⟩
    rintro⟨h1, h2⟩;refine hw ?_;have e : ∀ d o, HT.sIx xs.length d o = Fa ds.length d o := fun d o => by rw[r.length];cases o <;> rfl
    rw[e]at h1 h2;rw[r.length]at h2;simp[h1, h2]
  | _ => exact p3.elim⟩⟩⟩
noncomputable def OpN(X : Cx)(CL : ClA)(W : XW)(f : Ah -> Ah -> Sem Ah)(g : D -> D -> R D) : Prop:=
 ∀ A H0, OpR X f (fun x y H Q => Ar H0 H /\ AOk H A /\ ∃ dx dy, BL X.K CL H A x dx /\ BL X.K CL H A y dy /\ AT (CM X.K CL Ac H0 A) W H (g dx dy) Q)
theorem Q7 : OpN X CL W (Bg .Add) (BN .Add) := by
 intro A H0 pI s σ H x y v u Q I rx ry ⟨s0, hA, dx, dy, hx, hy, p⟩;have key : (∀ ds, dx ≠ .lst ds) -> EP X pI σ Q = EP X pI σ Q -> AD (model X.prog X.w) X.A (Bg .Add v u) (EP X pI σ Q) X.xe s := fun hd _ => by
  refine Lq (W := W) A pI s σ H x y v u Q I rx ry ⟨hA, dx, dy, hx, hy, ?_⟩;cases e : BN .Add dx dy with
  |bad => rw[e]at p;exact p
  |exn x => rw[e]at p;exact p
  |ok d=>
   rw[e]at p;refine fun v' H' s' r' => p v' H' s' (Ln r' fun ds z => ?_)
   subst z;cases dx with
   |lst ds => exact hd _ rfl
   |_ => cases dy <;> first|(cases e;done)|(simp only[BN]at e;split at e <;> cases e)
 cases dx with
 |lst ds=>
  cases dy with
  |lst es=>
   obtain⟨a, xs, rfl, s1, r1⟩ := hx.lst_of;obtain⟨b, ys, rfl, s2, r2⟩ := hy.lst_of;simp only[LP]at p;split at p
   ·rename_i h;refine Lr pI s σ H _ _ v u Q I rx ry ⟨a, b, xs, ys, rfl, rfl, s1, s2, by rw[r1.length, r2.length];exact FL h, fun q hq => ?_⟩
    exact p _ _ (D8 hq _) (Gb s0 hA hq (r1.append r2))
   ·exact p.elim
  |_ => exact p.elim
 |_ => exact key (by intro _ z;cases z) rfl
theorem Rm(ha : ST X CL W a fa)(hb : ST X CL W b fb) : SC X CL W Ac (.BinOp a .Add b pos) (fun ρ => (fa ρ).bind fun x => (fb ρ).bind fun y => BN .Add x y):=
 fun A pI s σ H Q I h => by
  obtain⟨hA, ρ, g, p⟩ := h;exact LX (Q7 (W := W) A H) (ha A) (hb A) pI s σ H Q I ⟨hA, ρ, g, AT.bindF p fun dx x H1 _ s1 r1 p1 => ⟨hA.same s1, ρ, g.same s1, AT.bind (Rq := CM X.K CL Ac H A) p1 fun dy y H2 _ s2 r2 p2 => ⟨s1.trans s2, (hA.same s1).same s2, dx, dy, r1.same s2, r2, p2⟩⟩⟩
noncomputable def Mh(X : Cx)(CL : ClA)(W : XW)(f : Ah)(g : Ab D -> R D) : Prop := ∀ A H0, EB X f (fun xs H Q => Ar H0 H /\ AOk H A /\ ∃ ds, Dt X.K CL H A xs ds /\ AT (CM X.K CL Ac H0 A) W H (g ds) Q)
theorem Qt : Mh X CL W (.type "list") (biD .list) := by
  intro A H0 pI s σ H xs us Q I r ⟨s0, hA, ds, rs, p⟩
  match ds, rs, p with
  |[.lst es], rs, p=>
    obtain⟨v, rfl, rv⟩ := rs.one;obtain⟨q, ys, rfl, sq, ry⟩ := rv.lst_of;exact Kb pI s σ H _ us Q I r ⟨q, ys, rfl, .inl sq, fun l hl => p _ _ (D8 hl _) (Gb s0 hA hl ry)⟩
  |[.tup es], rs, p=>
    obtain⟨v, rfl, rv⟩ := rs.one;obtain⟨q, ys, rfl, _, sq, ry⟩ := rv.tup_of;exact Kb pI s σ H _ us Q I r ⟨q, ys, rfl, .inr sq, fun l hl => p _ _ (D8 hl _) (Gb s0 hA hl ry)⟩
  |[], _, p => exact p.elim
  |[.non], _, p => exact p.elim
  |[.bl _], _, p => exact p.elim
  |[.int _], _, p => exact p.elim
  |[.str _], _, p => exact p.elim
  |[.obj _ _], _, p => exact p.elim
  |[.exc _ _], _, p => exact p.elim
  |[.dic _], _, p => exact p.elim
  |x::_::_, _, p => cases x <;> exact p.elim
theorem Rl{x:Aj}{p:AH}{g:Ab D -> R D}(hc : Mh X CL W (.type T) g)(hg : Gl X x)(hm : X.mg x = Af)(hv : BR x = Aa (.type T))(ha : SAT X CL W (e::es) fs)(hn : x ≠ "__name__")(hdb : (x==("__debug__" : Aj)) = Ad)(he : AC (e::es) X.env = (Ad, eval e X.env)::AC es X.env)(hpl : ∀ pos, (Ck pos (AC es X.env)).any (·.1) = Ad):SC X CL W Ac (.Call (.Name x p) (e::es) [] pos) (fun ρ =>(fs ρ).bind g) := fun A pI s σ H Q I ⟨hA, ρ, gd, q⟩=>
 KG (hc A H) hg hm hv (ha A) hn hdb he (hpl _) pI s σ H Q I ⟨hA, ρ, gd, EA.bindF q fun ds vs H1 _ s1 r1 p1 => ⟨s1, hA.same s1, ds, r1, p1⟩⟩
mutual
theorem L9{K : Fg}{H : Hp}{A : Ai -> Prop}(hA : AOk H A) : ∀(n : Ag)(d : D){v : V}, nlD n d = Ac -> Rep K CL H A0 v d -> Rep K CL H A v d
 |_, .non, _, _, h => h
 |_, .bl _, _, _, h => h
 |_, .int _, _, _, h => h
 |_, .str _, _, _, h => h
 |0, .tup _, _, hn, _ => by cases hn
 |n+1, .tup ds, _, hn, h => by
  obtain⟨a, xs, e, _, s, r⟩ := h;refine⟨a, xs, e, ?_, s, nls_up hA n ds hn r⟩;rcases s with s|s
  ·refine .inl fun z => ?_
   obtain⟨u, q, ⟨ys, rfl⟩|⟨ys, rfl⟩⟩ := hA a z <;> rcases s with s|⟨o, s⟩ <;> rw[q]at s <;> cases s
  ·exact .inr s
 |n, .lst _, _, hn, _ => by cases n <;> cases hn
 |n, .obj _ _, _, hn, _ => by cases n <;> cases hn
 |n, .exc _ _, _, hn, _ => by cases n <;> cases hn
 |n, .dic _, _, hn, _ => by cases n <;> cases hn
theorem nls_up{K : Fg}{H : Hp}{A : Ai -> Prop}(hA : AOk H A) : ∀(n : Ag)(ds : Ab D){vs : Ab V}, ds.all (nlD n) = Ac -> Reps K CL H A0 vs ds -> Reps K CL H A vs ds
 |_, [], [], _, h => h
 |n, d::ds, _::_, hn, h => by
  simp only[D5, Am]at hn;exact⟨L9 hA n d hn.1 h.1, nls_up hA n ds hn.2 h.2⟩
 |_, [], _::_, _, h => h.elim
 |_, _::_, [], _, h => h.elim
end
theorem S7{fr : An}(hA0 : AOk H0 A)(s : Ar H0 H)(hc : Gr fr d = Ac)(r : CM K CL fr H0 A0 H v d) : CM K CL fr H0 A H v d := by
 have hA := hA0.same s;cases d with
 |lst ds=>
  have hc' : (fr&&ds.all (nlD 5)) = Ac := hc;rw[Am]at hc';obtain⟨a, xs, e, h0, h1, rs⟩ := r.2 hc'.1 ds rfl;have hA2 : AOk H (fun b => A b \/ b = a) := fun b hb => hb.elim (hA b) fun e => by rw[e];exact⟨_, h1, .inl ⟨xs, rfl⟩⟩
  have rs' := nls_up hA2 5 ds hc'.2 (Reps.sub (fun _ z => z.elim) _ rs)
  refine⟨⟨a, xs, e, .inl (hA0.new h0), SqL.of h1, Reps.sub (fun _ z => .inl z) _ rs'⟩, fun _ ds' e' => ?_⟩
  cases e';exact⟨a, xs, e, h0, h1, rs'⟩
 |_ => exact⟨L9 hA 5 _ hc r.1, fun _ _ z => nomatch z⟩
noncomputable def spD(K : Fg)(CL : ClA)(n : Ag)(fr : An)(F : Ab D -> R D) : Sp := fun vs H Q E => ∃(ds : Ab D)(A : Ai -> Prop), vs.length = n /\ AOk H A /\ Reps K CL H A vs ds /\ (match F ds with
  |.ok d => ∀ v H', Ar H H' -> CM K CL fr H A H' v d -> Q v H'
  |.exn x => ∀ cls dx H', Ar H H' -> Ez K CL H' cls dx x -> E cls dx H'
  | .bad => AW)
noncomputable def EKW(K : Fg)(CL : ClA)(A : Ai -> Prop)(W : XW) : XK := fun cls dx H' => ∃ x, Ez K CL H' cls dx x /\ W x H'
theorem Dt.plain{K : Fg}{H : Hp}{A : Ai -> Prop} : ∀{vs : Ab V}{ds : Ab D}, Dt K CL H A vs ds -> Reps K CL H A0 vs ds
 |[], [], h => trivial
 |_::_, _::_, h => ⟨h.1.plain, Dt.plain h.2⟩
 |[], _::_, h => h.elim
 |_::_, [], h => h.elim
theorem PK{CX:CXT}{k:Ag}{fr : An}{f:Ai}{fd:Bp}{ps:Ab Aj}{F:Ab D -> R D}{x:Aj}{p:AH}{ft:Rho -> R (Ab D)}{sh : Rho -> An}(G : FnOk X.prog X.w X.K X.mg X.base CX k f fd ps (spD X.K CL n fr F))(hr : Room k X.A)(hg : Gl X x)(hm : X.mg x = Aa (.ref f))(hk : B9 X.K (.ref f) = Ac)(hb : EC X.K fd ps [])(hx : ∀ A, Gg CX X (EKW X.K CL A W))(ha : SA X CL W (e::es) fs)(hat : SAT X CL W (e::es) ft)(hst : ∀ ρ, sh ρ = Ac -> ft ρ = fs ρ)(hn : ∀ ρ ds, ft ρ = .ok ds -> ds.length = n)(hdb : (x==("__debug__" : Aj)) = Ad)(he : AC (e::es) X.env = (Ad, eval e X.env)::AC es X.env)(hpl : ∀ pos, (Ck pos (AC es X.env)).any (·.1) = Ad):SC X CL W fr (.Call (.Name x p) (e::es) [] pos) (fun ρ =>(ft ρ).bind fun ds =>(F ds).bind fun d =>if sh ρ = Ac then .ok d else if Gr fr d = Ac then .ok d else .bad) := fun A pI s σ H Q I ⟨hA, ρ, gd, q⟩ => by
 dsimp only at q;by_cases hs : sh ρ = Ac
 ·rw[hst ρ hs]at q;refine Lo G hr hg hm hk hb .nil (hx A) (ha A) hdb he (hpl _) pI s σ H Q I ⟨hA, ρ, gd, ?_⟩;cases e1 : fs ρ with
  |bad => rw[e1]at q;exact q
  |exn y => rw[e1]at q;exact q
  |ok ds=>
   rw[e1]at q;intro vs H1 s1 r1;refine⟨ds, A, by rw[BZ, r1.length];exact hn ρ ds (by rw[hst ρ hs];exact e1), hA.same s1, by rw[BZ];exact r1, ?_⟩
   have q' : AT (CM X.K CL fr H A) W H ((F ds).bind fun d => if sh ρ = Ac then .ok d else if Gr fr d = Ac then .ok d else .bad) Q := q
   cases e2 : F ds with
   |ok d=>
    rw[e2, R.bind_ok, AE hs]at q';exact fun v H2 s2 r2 => q' v H2 (s1.trans s2) ⟨r2.1, fun z ds' e' => let ⟨a, xs, z1, z2, z3⟩ := r2.2 z ds' e';⟨a, xs, z1, s1.free z2, z3⟩⟩
   |exn y => rw[e2]at q';exact fun cls dx H2 s2 xr => ⟨y, xr, q' H2 (s1.trans s2)⟩
   |bad => rw[e2]at q';exact q'.elim
 ·refine Lo G hr hg hm hk hb .nil (hx A0) (hat A) hdb he (hpl _) pI s σ H Q I ⟨hA, ρ, gd, ?_⟩;cases e1 : ft ρ with
  |bad => rw[e1]at q;exact q
  |exn y => rw[e1]at q;exact q
  |ok ds=>
   rw[e1]at q;intro vs H1 s1 r1;refine⟨ds, A0, by rw[BZ, r1.plain.length];exact hn ρ ds e1, fun _ z => z.elim, by rw[BZ];exact r1.plain, ?_⟩
   have q' : AT (CM X.K CL fr H A) W H ((F ds).bind fun d => if sh ρ = Ac then .ok d else if Gr fr d = Ac then .ok d else .bad) Q := q
   cases e2 : F ds with
   |ok d=>
    rw[e2, R.bind_ok, AJ hs]at q';split at q'
    ·rename_i hc;exact fun v H2 s2 r2 => q' v H2 (s1.trans s2) (S7 hA (s1.trans s2) hc ⟨r2.1, fun z ds' e' => let ⟨a, xs, z1, z2, z3⟩ := r2.2 z ds' e';⟨a, xs, z1, s1.free z2, z3⟩⟩)
    ·exact q'.elim
   |exn y => rw[e2]at q';exact fun cls dx H2 s2 xr => ⟨y, xr, q' H2 (s1.trans s2)⟩
   |bad => rw[e2]at q';exact q'.elim
end
theorem Ic(env : BD) : ∀(ns : Ab (Aj × Cq))(acc : Ab (Aj × Ai)), (∀ x ∈ ns, x.2 = .free -> ∃ c, env.cells.lookup x.1 = Aa c) -> (∀ x c, acc.lookup x = Aa c -> env.cells.lookup x = Aa c) ->
  ∃ cl, (forIn ns acc fun(x : Aj × Cq)(cs : Ab (Aj × Ai)) => (if (x.2==.free) = Ac then do let c <-cellOf env x.1;pure (CA ((x.1, c)::cs)) else pure (CA cs) : Sem (ForInStep (Ab (Aj × Ai))))) = pure cl /\
   (∀ x c, cl.lookup x = Aa c -> env.cells.lookup x = Aa c) /\ (∀ x, ((x, Cf) ∈ ns \/ ∃ c, acc.lookup x = Aa c) -> ∃ c, cl.lookup x = Aa c)
 |[], acc, _, h2 => ⟨acc, by rw[Nb], h2, fun x hx => hx.elim (fun z => nomatch z) id⟩
 |(n, k)::r, acc, h1, h2 => by
  rw[List.forIn_cons];by_cases hk : k = .free
  ·subst hk;obtain⟨c, hc⟩ := h1 (n, .free) At rfl;obtain⟨cl, e, p, q⟩ := Ic env r ((n, c)::acc) (fun x hx => h1 x (Aq _ hx)) (fun x d hd => by
    rw[Bk]at hd;split at hd
    ·rename_i hx;cases hd;rw[eq_of_beq hx];exact hc
    ·exact h2 x d hd)
   refine⟨cl, ?_, p, fun x hx => q x ?_⟩
   ·have e1 : cellOf env n = pure c := by unfold cellOf;dsimp only at hc;rw[hc]
    rw[AE (by rfl), e1]
    exact e
   ·rcases hx with hx|⟨d, hd⟩
    ·rcases AK.mp hx with z|z
     ·cases z;exact .inr ⟨c, by simp[Bk]⟩
     ·exact .inl z
    ·by_cases hxn : x = n
     ·exact .inr ⟨c, by subst hxn;simp[Bk]⟩
     ·exact .inr ⟨d, by rw[Bk];rw[C2.mpr hxn];exact hd⟩
  ·obtain⟨cl, e, p, q⟩ := Ic env r acc (fun x hx => h1 x (Aq _ hx)) h2
   refine⟨cl, ?_, p, fun x hx => q x ?_⟩
   ·rw[AJ (by simpa using hk)]
    exact e
   ·rcases hx with hx|hx
    ·rcases AK.mp hx with z|z
     ·cases z;exact absurd rfl hk
     ·exact .inl z
    ·exact .inr hx
theorem JX(h : ∀ x ∈ scope.names, x.2 = .free -> ∃ c, env.cells.lookup x.1 = Aa c):∃ cl,closureFor scope env = pure cl/\(∀ x c,cl.lookup x = Aa c->env.cells.lookup x = Aa c)/\∀ x,(x,Cf) ∈ scope.names->∃ c,cl.lookup x = Aa c := by
 obtain⟨cl, e, p, q⟩ := Ic env scope.names [] h (fun x c z => by simp at z)
 refine⟨cl, ?_, p, fun x hx => q x (.inl hx)⟩
 unfold closureFor
 first
  |exact e
  |(simp only[bind_pure];exact e)
  |(rw[show (forIn scope.names ([] : Ab (Aj × Ai)) _ : Sem _) = pure cl from e];rfl)
theorem Iy :∀(names :Ab (Aj × Cq))(h :AB)(acc :Ab (Aj × Ai))(x :Aj)(c :Ai),(BX h.objs.size names acc).lookup x = Aa c->acc.lookup x = Aa c\/((x,Ba) ∈ names/\h.objs.size <= c/\(D0 h names).IsCell c Af)
 |[], _, _, _, _, e => .inl e
 |(n, k)::r, h, acc, x, c, e => by
  unfold BX at e;unfold D0;by_cases hk : (k==Ba) = Ac
  ·rw[AE hk]at e ⊢;have hs : h.objs.size+1 = (h.push { cls := .type "cell", data := .cell Af }).objs.size := (Db ..).symm;rw[hs]at e;rcases Iy r _ _ x c e with q|⟨q1, q2, q3⟩
   ·rw[Bk]at q;cases hx : x==n with
    |true=>
     rw[hx]at q;cases q;refine .inr ⟨?_, AG _, ?_⟩
     ·rw[eq_of_beq hx, eq_of_beq hk];exact At
     ·exact⟨_, EH r _ _ _ (A9 _ rfl), rfl⟩
    |false => rw[hx]at q;exact .inl q
   ·exact .inr ⟨Aq _ q1, by omega, q3⟩
  ·rw[AJ hk]at e ⊢;rcases Iy r h acc x c e with q|⟨q1, q2, q3⟩
   ·exact .inl q
   ·exact .inr ⟨Aq _ q1, q2, q3⟩
theorem Iz :∀(names :Ab (Aj × Cq))(h :AB)(acc :Ab (Aj × Ai)),(∀ x y c,acc.lookup x = Aa c->acc.lookup y = Aa c->x = y)->(∀ x c,acc.lookup x = Aa c->c<h.objs.size)->∀ x y c,(BX h.objs.size names acc).lookup x = Aa c->(BX h.objs.size names acc).lookup y = Aa c->x = y
 |[], _, _, i, _, x, y, c, e1, e2 => i x y c e1 e2
 |(n, k)::r, h, acc, i, b, x, y, c, e1, e2 => by
  unfold BX at e1 e2;by_cases hk : (k==Ba) = Ac
  ·rw[AE hk]at e1 e2;have hs : h.objs.size+1 = (h.push { cls := .type "cell", data := .cell Af }).objs.size := (Db ..).symm;rw[hs]at e1 e2;have look : ∀ z d, Nj z ((n, h.objs.size)::acc) = Aa d -> (z = n /\ d = h.objs.size) \/ (z ≠ n /\ acc.lookup z = Aa d) := fun z d q => by
    rw[Bk]at q;cases hx : z==n with
    |true => rw[hx]at q;cases q;exact .inl ⟨eq_of_beq hx, rfl⟩
    |false => rw[hx]at q;exact .inr ⟨fun e => by rw[e]at hx;simp at hx, q⟩
   refine Iz r _ _ (fun z z' d q q' => ?_) (fun z d q => ?_) x y c e1 e2
   ·rcases look z d q with ⟨rfl, q1⟩|⟨_, q1⟩ <;> rcases look z' d q' with ⟨rfl, q2⟩|⟨_, q2⟩
    ·rfl
    ·exact absurd (b _ _ q2) (by rw[q1];exact A3 _)
    ·exact absurd (b _ _ q1) (by rw[q2];exact A3 _)
    ·exact i _ _ _ q1 q2
   ·rw[<-hs];rcases look z d q with ⟨_, q1⟩|⟨_, q1⟩
    ·rw[q1];exact Nr _
    ·exact Ee (b _ _ q1)
  ·rw[AJ hk]at e1 e2;exact Iz r h acc i b x y c e1 e2
theorem Ig : ∀(names : Ab (Aj × Cq))(n : Ag)(acc : Ab (Aj × Ai))(x : Aj), (x, Ba) ∉ names -> (BX n names acc).lookup x = acc.lookup x
 |[], _, _, _, _ => rfl
 |(m, k)::r, n, acc, x, hx => by
  unfold BX;have hr : (x, Ba) ∉ r := fun z => hx (Aq _ z)
  by_cases hk : (k==Ba) = Ac
  ·rw[AE hk, Ig r _ _ x hr, Bk];cases q : x==m with
   |true => exact absurd (by rw[eq_of_beq q, eq_of_beq hk];exact At) hx
   |false => rfl
  ·rw[AJ hk];exact Ig r n acc x hr
theorem IA(n0 : Ag) : ∀(names : Ab (Aj × Cq))(n : Ag)(acc : Ab (Aj × Ai))(x : Aj), n0 <= n -> ((x, Ba) ∈ names \/ ∃ c, acc.lookup x = Aa c /\ n0 <= c) -> ∃ c, (BX n names acc).lookup x = Aa c /\ n0 <= c
 |[], _, _, _, _, h => h.elim (fun z => nomatch z) id
 |(m, k)::r, n, acc, x, hn, h => by
  unfold BX;by_cases hk : (k==Ba) = Ac
  ·rw[AE hk];refine IA n0 r _ _ x (by omega) ?_
   by_cases hx : (x==m) = Ac
   ·exact .inr ⟨n, by rw[Bk, hx], hn⟩
   ·rcases h with h|⟨c, h, hc⟩
    ·rcases AK.mp h with z|z
     ·cases z;simp at hx
     ·exact .inl z
    ·exact .inr ⟨c, by rw[Bk];simp only[hx];exact h, hc⟩
  ·rw[AJ hk];refine IA n0 r _ _ x hn (h.imp (fun h => ?_) id)
   rcases AK.mp h with z|z
   ·cases z;simp at hk
   ·exact z
theorem N6{M:FC}{A:AI}{E : Ah -> Ak -> Prop}{globals:Ai}{qual:Aj}{Q:BD -> Ak -> Prop}(hQ : Q (newEnv scope s.heap.objs.size globals (BX (s.heap.objs.size+1) scope.names cl) qual Af .none (Aa env) E2) { s with heap := D0 (s.heap.push { cls := .type "dict", data := .dict #[] }) scope.names }):AD M A (EV scope globals cl [] qual Af .none (Aa env)) Q E s := by
 simp only[EV, Option.isSome_some, EY];refine As (wpAny_alloc ?_);refine As (wpAny_layCells _ (fun name kind cells => by cases hkc : kind==Ba <;> simp[hkc]) _ _ _ _ ?_)
 rw[show ({ s with heap := s.heap.push { cls := .type "dict", data := .dict #[] } } : Ak).heap.objs.size = s.heap.objs.size+1 from Db ..]
 rw[Nb];exact As (AV (AV hQ))
noncomputable def cxC(X : Cx)(scope : Br)(cl : Ab (Aj × Ai))(C : Ai)(N' : Ab Aj)(s₀ : Ak)(H₀ : Hp)(fp : Ab Ai) : Cx where
 prog := X.prog
 w := X.w
 K := X.K
 mg := X.mg
 base := X.base
 A := X.A
 N := N'
 s₀ := s₀
 H₀ := H₀
 env := compEnvC scope cl C X.env
 outer := X.stack
 stack := X.stack
 ex := fp
 fn := fun x => scope.names.lookup x==Aa Ba
 calm := X.calm
 pn := []
 xe := fun _ _ => AW
theorem Hd{env : BD} :∀{names :Ab (Aj × Cq)}{x :Aj}{k :Cq},(names.map fun (n,k) =>if (k==Cf&&env.scope.kind==.function&&env.kindOf n==Aa .cell) then (n,Ba) else (n,k)).lookup x = Aa k->names.lookup x = Aa k\/(k = .cell/\names.lookup x = Aa .free)
 |[], _, _, h => by simp at h
 |(n, j)::r, x, k, h => by
  have ih := @Hd env r x k;have h' : Nj x ((if (j==Cf&&env.scope.kind==.function&&env.kindOf n==Aa .cell) = Ac then (n, Ba) else (n, j))::(r.map fun (n, k) => if (k==Cf&&env.scope.kind==.function&&env.kindOf n==Aa .cell) then (n, Ba) else (n, k))) = Aa k := h
  by_cases hc : (j==Cf&&env.scope.kind==.function&&env.kindOf n==Aa .cell) = Ac
  ·rw[AE hc]at h';rw[Bk]at h' ⊢;cases hx : x==n with
   |true=>
    rw[hx]at h';cases h';simp only[Am]at hc;exact .inr ⟨rfl, by rw[eq_of_beq hc.1.1]⟩
   |false => rw[hx]at h';exact ih h'
  ·rw[AJ hc]at h';rw[Bk]at h' ⊢;cases hx : x==n with
   |true => rw[hx]at h';exact .inl h'
   |false => rw[hx]at h';exact ih h'
structure BlockOk (X : Cx) (scope : Br) (N' : Ab Aj) (ts : Ab Ag) : Prop where
 kind : scope.kind = .function
 uniq : ∀ y ∈ scope.names, scope.names.lookup y.1 = Aa y.2
 names : ∀ y ∈ scope.names, y.2 = .local -> scope.names.lookup y.1 = Aa .local
 free : ∀ y ∈ scope.names, y.2 = .free -> X.env.scope.names.lookup y.1 = Aa .cell \/ X.env.scope.names.lookup y.1 = Aa .free
 len : N'.length = X.N.length
 same : ∀ i x, N'[i]? = Aa x -> scope.names.lookup x = Aa .free -> i ∉ ts -> X.N[i]? = Aa x
 loc : ∀ i x, N'[i]? = Aa x -> (scope.names.lookup x = Aa .local \/ scope.names.lookup x = Aa .cell) -> i ∈ ts
structure BCells (X : Cx) (scope : Br) (cl : Ab (Aj × Ai)) (C : Ai) (h : AB) : Prop where
 own : ∀ x c, cl.lookup x = Aa c -> X.env.cells.lookup x = Aa c \/ (scope.names.lookup x = Aa .cell /\ C<c /\ h.IsCell c Af)
 inj : ∀ x y c, cl.lookup x = Aa c -> cl.lookup y = Aa c -> x = y
 has : ∀ x, scope.names.lookup x = Aa .cell -> ∃ c, cl.lookup x = Aa c /\ C<c
 fr : ∀ x, (x, Cf) ∈ scope.names -> ∃ c, cl.lookup x = Aa c /\ X.env.cells.lookup x = Aa c
section
variable{X : Cx}{pI : Ab (Ai × Ay)}{σ : L2.St}{H : Hp}{s : Ak}
noncomputable def hideT(ts : Ab Ag)(σ : L2.St) : L2.St := ts.foldl (fun σ t => σ.set t Af) σ
theorem IH : ∀(ts : Ab Ag)(σ : L2.St), (hideT ts σ).length = σ.length
 |[], _ => rfl
 |t::ts, σ => by show (hideT ts (σ.set t Af)).length = _;rw[IH ts, AX]
theorem Kl : ∀(ts : Ab Ag)(σ : L2.St){i : Ag}{v : V}, (hideT ts σ)[i]? = Aa (Aa v) -> σ[i]? = Aa (Aa v) /\ i ∉ ts
 |[], _, _, _, h => ⟨h, by simp⟩
 |t::ts, σ, i, v, h => by
  obtain⟨h1, h2⟩ := Kl ts (σ.set t Af) (i := i) (v := v) h;by_cases e : t = i
  ·subst e;have := Ew h1;cases this
  ·rw[BS e]at h1;exact⟨h1, by simp only[AK, G8];exact⟨fun z => e z.symm, h2⟩⟩
theorem Oz{tk:Ag}{C:Ai}{m:Aj -> Al Ah}(I : Inv X pI σ H s)(B : BlockOk X scope N' ts)(hf : ∀ b ∈ fp, EQ X pI H b)(hfo : ∀ b ∈ fp, b<s.heap.objs.size)(hb : BCells X scope cl C h')(hk : ∀ b o, s.heap.get? b = Aa o -> h'.get? b = Aa o)(hC : s.heap.objs.size <= C)(hn : h'.Ns C m) : Inv (cxC X scope cl C N' s H fp) [] (hideT ts σ) H {s with heap := h', toks := tk} := by
 have stf : ∀ b ∈ fp, b ∉ frs X.stack := fun b hb z => by
  rcases AK.mp (I.stkSub b z) with e|e
  ·exact(hf b hb).2.1 e
  ·exact(hf b hb).2.2.1 e
 have frOf : ∀ x, ((relabel scope X.env).names.lookup x = Aa .cell \/ (relabel scope X.env).names.lookup x = Aa .free) -> scope.names.lookup x = Aa .free \/ scope.names.lookup x = Aa .cell := fun x hx => by
  rcases hx with z|z
  ·rcases Hd z with z|⟨_, z⟩
   ·exact .inr z
   ·exact .inl z
  ·rcases Hd z with z|⟨z, _⟩
   ·exact .inl z
   ·cases z
 have gtC : ∀ c : Ai, C<c -> s.heap.objs.size <= c := fun c z => BH hC (DF z)
 have cellK : ∀ c v, s.heap.IsCell c v -> h'.IsCell c v := fun c v ⟨o, ho, hd⟩ => ⟨o, hk _ _ ho, hd⟩
 refine⟨⟨I.ok.mod, B.kind, I.ok.glob, I.ok.blt, hC, hb.inj, fun x hx => ?_, fun x c h e => ?_, I.ok.hd, I.ok.frames, .inl rfl, fun b hbb => ⟨?_, fun x c e => ?_⟩, I.bs, BH I.ok.bsz I.sz, fun b o e hbb => ?_, stf, I.stack, I.stkFree⟩, rfl, I.bare, Un.kept hk, ⟨m, hn, fun i x v h1 h2 h3 => ?_⟩, fun x c e => ?_, I.hok.fresh hC, fun x c e => (hb.own x c e).elim (I.freeC x c) (fun z => I.hok.fresh (gtC c z.2.1)), fun p hp => absurd (show p ∈ ([] : Ab (Ai × Ay)) from hp) (by simp), I.hok.kept hk, ?_⟩
 ·rcases frOf x hx with z|z
  ·obtain⟨c, q, _⟩ := hb.fr x (By z);exact⟨c, q⟩
  ·obtain⟨c, q, _⟩ := hb.has x z;exact⟨c, q⟩
 ·obtain⟨c', q, z⟩ := hb.has x (eq_of_beq h);have e' : cl.lookup x = Aa c := e;rw[q]at e';cases e';exact gtC _ z
 ·intro z;have z' : b = C := z;have := hfo b hbb;rw[z']at this;exact absurd (Au this hC) (A3 _)
 ·rcases hb.own x c e with z|z
  ·exact(hf b hbb).2.2.2.2.1 x c z
  ·intro q;have := hfo b hbb;have := gtC c z.2.1;rw[q]at this;exact absurd ‹b<_› (Nv.mpr this)
 ·rcases (hf b hbb).2.2.2.1 with z|z
  ·exact I.ok.noex b o e z
  ·exact absurd (Au (Aw e) (BH I.ok.bsz z)) (A3 _)
 ·obtain⟨h2, hts⟩ := Kl ts σ h2;have h3' : (relabel scope X.env).names.lookup x = Aa .local \/ (relabel scope X.env).names.lookup x = Aa .cell \/ (relabel scope X.env).names.lookup x = Aa .free := h3;have h1' : N'[i]? = Aa x := h1;rcases h3' with z|z
  ·rcases Hd z with z|⟨z, _⟩
   ·exact absurd (B.loc i x h1' (.inl z)) hts
   ·cases z
  ·have fr := (frOf x z).resolve_right fun q => hts (B.loc i x h1' (.inr q))
   have hm := By fr;have hX := B.same i x h1' fr hts;obtain⟨m0, hn0, hl0⟩ := I.loc;obtain⟨u, ru, lk⟩ := hl0 i x v hX h2 (by
    rcases B.free _ hm rfl with q|q
    ·exact .inr (.inl q)
    ·exact .inr (.inr q))
   refine⟨u, ru, ?_⟩;obtain⟨c, hc, hcX⟩ := hb.fr x hm;rcases lk with ⟨q, _⟩|⟨_, c', hc', hcell⟩
   ·have q' : X.env.scope.names.lookup x = Aa .local := q;rcases B.free _ hm rfl with p|p
    ·rw[show X.env.scope.names.lookup x = _ from p]at q';cases q'
    ·rw[show X.env.scope.names.lookup x = _ from p]at q';cases q'
   ·have e := hcX;rw[hc']at e;cases e;exact .inr ⟨z, c, hc, cellK _ _ hcell⟩
 ·rcases hb.own x c e with z|z
  ·obtain⟨v, q⟩ := I.cell x c z;exact⟨v, cellK _ _ q⟩
  ·exact⟨_, z.2.2⟩
 ·show (hideT ts σ).length = N'.length;rw[IH, I.len, B.len]
theorem Kt{C D : Ai}{s':Ak}{σ':L2.St}{pins':Ab (Ai × Ay)}{h'':AB}(I : Inv X pI σ H s)(hf : ∀ b ∈ fp, EQ X pI H b)(I' : Inv (cxC X scope cl C N' s H fp) pins' σ' H' s')(hD : s.heap.objs.size <= D)(hDC : D ≠ C)(hC : s.heap.objs.size <= C)(hd : s'.heap.get? D = Aa { cls := .type "list", data := .seq ys.toArray n })(hDn : H' D = Af)(rv : AN xs ys)(hz : xs.length <= sizeLine)(hs : Fj C s'.heap h'') : Inv X pI σ (upd H' D (.lst xs)) {s' with heap := h''} := by
 have u : Un (frs X.stack) fp H H' s.heap s'.heap := I'.base;have lt : ∀ b o, s.heap.get? b = Aa o -> b ≠ C /\ b ≠ D := fun b o e => ⟨fun z => absurd (Au (Aw e) (z ▸ hC)) (A3 _), fun z => absurd (Au (Aw e) (z ▸ hD)) (A3 _)⟩
 have HD : H D = Af := I.hok.fresh hD;have hCn : H' C = Af := I'.free;have kb : ∀ b o, b ≠ C -> s'.heap.get? b = Aa o -> h''.get? b = Aa o := fun b o hb e => (hs.2 b hb).trans e
 have u2 : Un (frs X.stack) fp H (upd H' D (.lst xs)) s.heap h'' := ⟨fun b o e q hb hx => kb b o (lt b o e).1 (u.keep b o e q hb hx), fun b o e q hb hx => by
   obtain⟨sl, e1⟩ := u.slot b o e q hb hx;exact⟨sl, kb b _ (lt b o e).1 e1⟩, fun b o e q hx => by rw[B4 (lt b o e).2];exact u.free b o e q hx, fun b o e hx => by
   obtain⟨o', e1⟩ := u.there b o e hx;exact⟨o', kb b _ (lt b o e).1 e1⟩, fun b zs q => by rw[B4 (Ds q HD)];exact u.tups b zs q, fun b o zs q => by rw[B4 (Ds q HD)];exact u.frzs b o zs q, fun b ps q => by rw[B4 (Ds q HD)];exact u.tbls b ps q⟩
 have hok : HOk X.prog X.w (upd H' D (.lst xs)) h'' := fun b o e => by
  by_cases hb : b = D
  ·subst hb;rw[Fs]at e;cases e;exact⟨hz, ys, n, rv, kb _ _ hDC hd⟩
  ·rw[B4 hb]at e;refine(I'.hok b o e).stay (fun c v hc q => kb c v ?_ q) (fun c q => by rw[B4 (Ds q hDn)];exact q) fun c zs q => by rw[B4 (Ds q hDn)];exact q
   rcases hc with rfl|hc
   ·exact Ds e hCn
   ·exact Ds hc hCn
 exact I.call' (s' := {s' with heap := h''}) (ch := fp) I'.os u2 hok I'.bare fun b hb => ⟨(hf b hb).2.2.2.1, (hf b hb).2.1, (hf b hb).2.2.2.2.1, (hf b hb).2.2.2.2.2⟩
end
noncomputable def PTs(X : Cx)(ifs : Ab Ao)(tt : TT) : Prop := ∀(pI : Ab (Ai × Ay))(s : Ak)(σ : L2.St)(H : Hp)(Q : An -> Hp -> Prop), Inv X pI σ H s -> tt σ H Q ->
 AD (model X.prog X.w) X.A (forIn ifs Ac fun c r => if r = Ac then do let ok <-EU c X.env (eval c X.env);pure (CA ok) else pure (CA r)) (TP X pI σ Q) X.xe s
theorem QV : PTs X [] (fun σ H Q => Q Ac H) := fun pI s σ H Q I h => wpAny_tests_nil ⟨H, I, h⟩
theorem QU{t:TT}(h : PT X c t) : PTs X [c] t := fun pI s σ H Q I q => wpAny_tests_one (h pI s σ H Q I q)
theorem Of{D : Ai}{y:Ah}{E : Ah -> Ak -> Prop}{Q:Ah -> Ak -> Prop}(I : Inv X ((D, { cls := .type "list", data := .seq ys.toArray n })::pI) σ H s)(hD : X.s₀.heap.objs.size <= D)(hp : ∀ p ∈ X.pn++pI, p.1 ≠ D)(hc : ∀ x c, X.env.cells.lookup x = Aa c -> c ≠ D)(hz : ys.length <= sizeLine)(h : ∀ s', Inv X ((D, { cls := .type "list", data := .seq (ys++[y]).toArray (n+1) })::pI) σ H s' -> (∀ b o, b ≠ D -> s.heap.get? b = Aa o -> s'.heap.get? b = Aa o) -> Q .none s') : AD (model X.prog X.w) X.A (call (.builtin "list.append") [.ref D, y]) Q E s := by
 obtain⟨e, hn, hL, hfs, _⟩ := I.pin (D, { cls := .type "list", data := .seq ys.toArray n }) (AU _ At);refine append_at (hsz := by rw[AA];exact hz) e fun h' hs hd => ?_
 have hd' : h'.get? D = Aa { cls := .type "list", data := .seq (ys++[y]).toArray (n+1) } := by rw[hd];simp
 have kb : ∀ b o, b ≠ D -> s.heap.get? b = Aa o -> h'.get? b = Aa o := fun b o hb q => (hs.2 b hb).trans q
 have I0 : Inv X pI σ H s := I.pins_of fun p hp => I.pin p (AU _ (Aq _ hp))
 have I1 : Inv X pI σ H {s with heap := h'} := I0.turned (t' := s.toks) kb hn hL (.inr hD) hc hp
 refine h _ (I1.pins_of fun p hp => ?_) kb
 rcases AK.mp hp with rfl|hp
 ·exact⟨hd', hn, hL, hfs, fun v z => by
   have z' : Gz _ _ = Gy v := z;cases z'⟩
 ·exact I1.pin p (AU _ hp)
section
variable{prog : Az}{w : AF}{A : AI}{R : F1 -> Ak -> Prop}{s : Ak}
theorem N9{target:Ao}{it acc:Ah}(I : Ag -> Ak -> Prop)(turn : ∀ n s, I n s -> AD (model prog w) A (pyNext it) (fun r s₁ => match r with
      |none => R (.ok .next) s₁
      | some v => AD (model prog w) A (DK target it v) (fun _ s₁' => AD (model prog w) A (assign target env v) (fun _ s₂=>
          AD (model prog w) A (forIn ifs Ac fun c r => if r = Ac then do let ok <-EU c env (eval c env);pure (CA ok) else pure (CA r)) (fun ok s₃=>
            if ok = Ac then AD (model prog w) A (eval elt env) (fun x s₄=>
              AD (model prog w) A (call (.builtin "list.append") [acc, x]) (fun _ s₅ => ∃ m, m<n /\ I m s₅) (EW (model prog w) A env fun e s' => R (.error e) s') s₄) (EW (model prog w) A env fun e s' => R (.error e) s') s₃
            else ∃ m, m<n /\ I m s₃) (EW (model prog w) A env fun e s' => R (.error e) s') s₂) (EW (model prog w) A env fun e s' => R (.error e) s') s₁') (EW (model prog w) A env fun e s' => R (.error e) s') s₁) (EW (model prog w) A env fun e s' => R (.error e) s') s)(n : Ag)(h : I n s):DU (model prog w) A (.compLoop (.ListComp elt [⟨target,iter,ifs,0⟩] scope pos) 0 it acc env) R s := by
  refine codeAny_loop rfl I (fun n s hI => ?_) n h
  show AD _ A ((compTurn (.ListComp elt [⟨target, iter, ifs, 0⟩] scope pos) 0 it acc env).onRaise (fun x => do Fp x env;theTreesLotGoes x)) _ _ s
  refine wpAny_noted ?_;rw[compTurn_list];refine As (Fe (As (Bu (turn n s hI) (fun r s₁ h₁ => ?_) fun _ _ h' => h')))
  cases r with
  |none => exact AV h₁
  |some v=>
    refine As (Bu h₁ (fun _ s₁' h₁' => ?_) fun _ _ h' => h')
    refine As (Bu h₁' (fun _ s₂ h₂ => As (Bu h₂ (fun ok s₃ h₃ => ?_) fun _ _ h' => h')) fun _ _ h' => h')
    cases ok with
    |false => exact AV ⟨rfl, h₃⟩
    |true=>
      exact As (As (Bu h₃ (fun x s₄ h₄ => As (Bu h₄ (fun _ s₅ h₅ => AV (AV ⟨rfl, h₅⟩)) fun _ _ h' => h')) fun _ _ h' => h'))
end
noncomputable def GJ(J : It)(ts : Ab Ag)(g : TG)(tt : TT)(te : TE)(σ : L2.St)(H : Hp)(Q : VK) : Prop := ∃ W : Ag -> Ag -> Ab V -> L2.St -> Hp -> Prop, (∃ m, W 0 m [] (hideT ts σ) H) /\ ∀ i m xs σ H, W i m xs σ H ->
 (J.stop i H /\ ∀ p, H p = Af -> Q (.ref p) (upd H p (.lst xs))) \/
 (J.go i H /\ xs.length<sizeLine /\ ∀ x H', J.yld i H x H' -> g x σ H' fun σ2 H2 => tt σ2 H2 fun b H3 => if b = Ac then te σ2 H3 fun y H4 => ∃ m', m'<m /\ W (i+1) m' (xs++[y]) σ2 H4 else ∃ m', m'<m /\ W (i+1) m' xs σ2 H3)
theorem KP{g:TG}{it:Ai}{tn:Ag -> AB -> Prop}{E : Ah -> Ak -> Prop}{RR:Ah -> Ai -> F1 -> Ak -> Prop}(hc : X.calm = Ac)(B : BlockOk X scope N' ts)(I : Inv X pI σ H s)(T : Turn X.prog X.w X.K tg J fp it tn)(st : tn 0 s.heap)(hf : ∀ b ∈ fp, EQ X pI H b)(hcl : ∀ x c, cl.lookup x = Aa c -> X.env.cells.lookup x = Aa c)(hcl2 : ∀ x, (x, Cf) ∈ scope.names -> ∃ c, cl.lookup x = Aa c)(hg : ∀ cl C s H, PG (cxC X scope cl C N' s H fp) tg g)(ht : ∀ cl C s H, PTs (cxC X scope cl C N' s H fp) ifs tt)(he : ∀ cl C s H, PE (cxC X scope cl C N' s H fp) elt te)(h : GJ J ts g tt te σ H Q)(hRR : ∀ cl D C s' H' σ' pins' xs ys n m, Inv (cxC X scope cl C N' s H fp) pins' σ' H' s' -> s'.heap.get? D = Aa { cls := .type "list", data := .seq (DE ys) n } -> H' D = Af -> AN xs ys -> xs.length <= sizeLine -> s.heap.objs.size <= D -> D ≠ C -> s.heap.objs.size <= C -> s'.heap.Ns C m -> Q (.ref D) (upd H' D (.lst xs)) -> RR (.ref D) C (.ok .next) s'):AD (model X.prog X.w) X.A (newList []) (fun acc s₃ =>AD (model X.prog X.w) X.A (EV scope X.env.globals cl [] X.env.qual Af .none (Aa X.env)) (fun cenv s₄=>DU (model X.prog X.w) X.A (.compStart (.ListComp elt [⟨tg,iter,ifs,0⟩] scope pos) 0 (.ref it) acc {cenv with scope := relabel scope X.env}) (RR acc cenv.locals) s₄) E s₃) E s := by
 refine Cm (N6 ?_);dsimp only;generalize hH2 : s.heap.push { cls := .type "list", dict := Af, data := .seq ([] : Ab Ah).toArray } = H2;have hns₁ : (D0 (H2.push { cls := .type "dict", data := .dict #[] }) scope.names).Ns H2.objs.size (fun _ => Af) := (Heap.Ns.new H2 (.type "dict")).keeps (EH _ _)
 have hkp₁ : ∀ b o, H2.get? b = Aa o -> (D0 (H2.push { cls := .type "dict", data := .dict #[] }) scope.names).get? b = Aa o := fun b o e => EH _ _ b o (Ax _ e)
 have hown := Iy scope.names (H2.push { cls := .type "dict", data := .dict #[] }) cl;have hinj := Iz scope.names (H2.push { cls := .type "dict", data := .dict #[] }) cl;rw[Db]at hown hinj;generalize hcl' : BX (H2.objs.size+1) scope.names cl = cl' at hown hinj;have hcf : ∀ x, (x, Ba) ∉ scope.names -> cl'.lookup x = cl.lookup x := fun x hx => by rw[<-hcl'];exact Ig _ _ _ x hx
 have hch : ∀ x, (x, Ba) ∈ scope.names -> ∃ c, cl'.lookup x = Aa c /\ H2.objs.size+1 <= c := fun x hx => by rw[<-hcl'];exact IA _ _ _ _ x (AG _) (.inl hx)
 generalize hh₁ : D0 (H2.push { cls := .type "dict", data := .dict #[] }) scope.names = h₁ at hns₁ hkp₁ hown;have hC : H2.objs.size = s.heap.objs.size+1 := by rw[<-hH2, Db]
 have hCle : s.heap.objs.size <= H2.objs.size := by rw[hC];exact Nat.le_succ _
 have hDC : s.heap.objs.size ≠ H2.objs.size := by rw[hC];exact Bv (Nr _)
 have below : ∀ b, b<s.heap.objs.size -> b ≠ H2.objs.size := fun b hb => by rw[hC];exact Bv (Ee hb)
 have old : ∀ b o, s.heap.get? b = Aa o -> h₁.get? b = Aa o := fun b o e => hkp₁ b o (hH2 ▸ Ax _ e)
 have hacc : h₁.get? s.heap.objs.size = Aa { cls := .type "list", data := .seq ([] : Ab Ah).toArray 0 } := hkp₁ _ _ (hH2 ▸ A9 _ rfl);have clt : ∀ x c, cl.lookup x = Aa c -> c<s.heap.objs.size := fun x c e => by
  obtain⟨v, q⟩ := I.cell x c (hcl x c e);exact q.lt
 have bc : BCells X scope cl' H2.objs.size h₁ := by
  refine⟨fun x c e => ?_, hinj (fun x y c e1 e2 => I.ok.inj x y c (hcl x c e1) (hcl y c e2)) (fun x c e => Ee (Au (clt x c e) hCle)), fun x hx => ?_, fun x hx => ?_⟩
  ·rcases hown x c e with q|⟨q1, q2, q3⟩
   ·exact .inl (hcl x c q)
   ·exact .inr ⟨B.uniq _ q1, q2, q3⟩
  ·have hm := By hx;obtain⟨c, e, hc⟩ := hch x hm;exact⟨c, e, hc⟩
  ·have hno : (x, Ba) ∉ scope.names := fun z => by
    have e1 := B.uniq _ hx;have e2 := B.uniq _ z;rw[show scope.names.lookup x = _ from e1]at e2
    cases e2
   obtain⟨c, e⟩ := hcl2 x hx;exact⟨c, by rw[hcf x hno];exact e, hcl x c e⟩
 have hfo : ∀ b ∈ fp, b<s.heap.objs.size := fun b hb => by
  obtain⟨o, e, _⟩ := T.obj 0 _ st b hb;exact Aw e
 generalize hD : s.heap.objs.size = D at *;generalize hC' : H2.objs.size = C at *;have I0 : Inv (cxC X scope cl' C N' s H fp) [] (hideT ts σ) H {s with heap := h₁, toks := s.toks+([] : Ab (Aj × Ah)).length} := Oz (tk := s.toks+([] : Ab (Aj × Ah)).length) I B hf (fun b hb => by rw[hD];exact hfo b hb) bc old (by rw[hD];exact hCle) hns₁
 have nD : H D = Af := I.hok.fresh (by rw[hD];exact AG _)
 have noD : ∀ b ∈ fp, b ≠ D := fun b hb => Bv (hfo b hb)
 have noC : ∀ b ∈ fp, b ≠ C := fun b hb => below b (hfo b hb)
 have stfs : D ∉ frs X.stack := fun z => by
  obtain⟨_, o, ho, _⟩ := I.stack.mem z;exact absurd (Aw ho) (by rw[hD];exact A3 _)
 have cD : ∀ x c, cl'.lookup x = Aa c -> c ≠ D := fun x c e z => by
  rcases bc.own x c e with q|⟨_, q, _⟩
  ·obtain⟨v, q⟩ := I.cell x c q;exact absurd q.lt (by rw[z, hD];exact A3 _)
  ·rw[z]at q;exact absurd (Au q hCle) (A3 _)
 have I1 : Inv (cxC X scope cl' C N' s H fp) [(D, { cls := .type "list", data := .seq ([] : Ab Ah).toArray 0 })] (hideT ts σ) H {s with heap := h₁, toks := s.toks+([] : Ab (Aj × Ah)).length} := I0.pins_of fun p hp => by
  have e := Bs.mp hp;subst e;exact⟨hacc, nD, hDC, stfs, fun v z => by
   have z' : Gz _ _ = Gy v := z;cases z'⟩
 have st1 : tn 0 h₁ := T.keep _ _ _ st fun b _ o e => old b o e
 obtain⟨W, ⟨m0, w0⟩, turn⟩ := h;have fpk : ∀{pl : Ab (Ai × Ay)}{H' : Hp}, (∀ p ∈ pl, p.1 = D) -> (∀ b ∈ fp, H' b = Af) -> ∀ b ∈ fp, EQ (cxC X scope cl' C N' s H fp) pl H' b := fun {pl H'} hp hn b hb=>
  ⟨hn b hb, noC b hb, fun z => by
   rcases AK.mp (I.stkSub b z) with e|e
   ·exact(hf b hb).2.1 e
   ·exact(hf b hb).2.2.1 e, .inl hb, fun x c e => (bc.own x c e).elim ((hf b hb).2.2.2.2.1 x c) (fun z q => absurd (Nat.lt_of_le_of_lt hCle z.2.1) (Nv.mpr (by rw[q];exact DF (hfo b hb)))), fun p hp' => by
   have hp2 : p ∈ pl := hp';rw[hp p hp2];exact(noD b hb).symm⟩
 have loop : ∀ s₃ : Ak, s₃ = {s with heap := h₁, toks := s.toks+([] : Ab (Aj × Ah)).length} ->
   DU (model X.prog X.w) X.A (.compLoop (.ListComp elt [⟨tg, iter, ifs, 0⟩] scope pos) 0 (.ref it) (.ref D) (compEnvC scope cl' C X.env)) (RR (.ref D) C) s₃ := by
  rintro s₃ rfl;refine N9 (fun k s' => ∃ i σ' H' xs ys n, Inv (cxC X scope cl' C N' s H fp) [(D, { cls := .type "list", data := .seq (DE ys) n })] σ' H' s' /\ tn i s'.heap /\ (∀ b ∈ fp, H' b = Af) /\ AN xs ys /\ xs.length <= sizeLine /\ W i k xs σ' H') ?_ m0
   ⟨0, _, H, [], [], 0, I1, st1, fun b hb => (hf b hb).1, .nil, FH _, w0⟩
  rintro k s' ⟨i, σ', H', xs, ys, n, I', st', fr', rv, hz, w'⟩;have one : ∀ p ∈ [((D, { cls := .type "list", data := .seq (DE ys) n }) : Ai × Ay)], p.1 = D := fun p hp => by rw[Bs.mp hp]
  rcases turn i k xs σ' H' w' with ⟨stop, q⟩|⟨go, hlt, step⟩
  ·refine Bu (T.done (cxC X scope cl' C N' s H fp) rfl rfl rfl hc i _ s' σ' H' (fun _ _ => AW) I' (fpk one fr') st' stop) (fun r s1 ⟨hr, J1⟩ => ?_) fun _ _ f => f.elim
   subst hr;obtain⟨e, hn, _⟩ := J1.pin _ (AU _ At);obtain⟨m, hm, _⟩ := J1.loc;exact hRR cl' D C s1 H' σ' _ xs ys n m J1 e hn rv hz (AG _) hDC hCle hm (q D hn)
  ·refine Bu (T.item (cxC X scope cl' C N' s H fp) rfl rfl rfl hc i _ s' σ' H' (fun _ _ => AW) I' (fpk one fr') st' go) (fun r s1 ⟨u, hr, h4⟩ => ?_) fun _ _ f => f.elim
   subst hr;refine Bu h4 (fun _ s5 ⟨x, H5, I5, r5, y5, st5, fr5⟩ => ?_) fun _ _ f => f.elim
   have I5' := I5.pinned (fpk one fr5) (T.obj _ _ st5);refine Bu (hg cl' C s H _ s5 σ' H5 x u _ I5' r5 (step x H5 y5)) (fun _ s6 ⟨σ6, H6, I6, q6⟩ => ?_) fun _ _ f => f.elim
   refine Bu (ht cl' C s H _ s6 σ6 H6 _ I6 q6) (fun ok s7 ⟨H7, I7, q7⟩ => ?_) fun _ _ f => f.elim
   have again : ∀{s8 : Ak}{H8 : Hp}{ys' : Ab Ah}{n' : Ag}, Inv (cxC X scope cl' C N' s H fp) ((D, { cls := .type "list", data := .seq (DE ys') n' })::FP fp s5.heap) σ6 H8 s8 -> Inv (cxC X scope cl' C N' s H fp) [(D, { cls := .type "list", data := .seq (DE ys') n' })] σ6 H8 s8 /\ tn (i+1) s8.heap /\ ∀ b ∈ fp, H8 b = Af := fun {s8 H8 ys' n'} I8=>
    ⟨I8.pins_of fun p hp => I8.pin p (AU _ (by rw[Bs.mp hp];exact At)), T.keep _ _ _ st5 fun b hb o e => (I8.pin (b, o) (AU _ (Aq _ (Hk hb e)))).1, fun b hb => by
     obtain⟨o, e, d⟩ := T.obj _ _ st5 b hb;exact(I8.pin (b, o) (AU _ (Aq _ (Hk hb e)))).2.1⟩
   cases ok with
   |false=>
    rw[AJ (by decide)]at q7
    obtain⟨m', hm, w7⟩ := q7;obtain⟨a1, a2, a3⟩ := again I7;rw[AJ (by decide)]
    exact⟨m', hm, i+1, σ6, H7, xs, ys, n, a1, a2, a3, rv, hz, w7⟩
   |true=>
    rw[AE rfl]at q7;rw[AE rfl];refine Bu (he cl' C s H _ s7 σ6 H7 _ I7 q7) (fun val s8 ⟨y, H8, I8, r8, m', hm, w8⟩ => ?_) fun _ _ f => f.elim
    have hl := rv.length;refine Of (X := cxC X scope cl' C N' s H fp) (ys := ys) (n := n) (pI := FP fp s5.heap) I8 (by show s.heap.objs.size <= D;rw[hD];exact AG _) (fun p hp => ?_) cD (by omega) fun s9 I9 kb => ?_
    ·have hp2 : p ∈ FP fp s5.heap := hp;exact noD _ (KH hp2).1
    ·obtain⟨a1, a2, a3⟩ := again I9;exact⟨m', hm, i+1, σ6, H8, xs++[y], ys++[val], n+1, a1, a2, a3, rv.append (.cons r8 .nil), by rw[BW];exact hlt, w8⟩
 exact codeAny_compStart_list (loop _ rfl) (T.self _ 0 _ _ _ st1 (loop _ rfl))
theorem Q3{g:TG}(hc : X.calm = Ac)(B : BlockOk X scope N' ts)(hi : PI X tg iter wi)(hg : ∀ cl C s H fp, PG (cxC X scope cl C N' s H fp) tg g)(ht : ∀ cl C s H fp, PTs (cxC X scope cl C N' s H fp) ifs tt)(he : ∀ cl C s H fp, PE (cxC X scope cl C N' s H fp) elt te)(hs : ∀ x, BM iter X.env x = pure x):PE X (.ListComp elt [⟨tg,iter,ifs,0⟩] scope pos) (fun σ H Q =>wi σ H fun J H1 =>GJ J ts g tt te σ H1 Q) := by
 intro pI s σ H Q I h;obtain⟨cl, hclos, hcl, hcl2⟩ := JX (scope := scope) (env := X.env) fun x hx hk => I.ok.has x.1 ((B.free x hx hk).imp id id)
 rw[eval_ListComp];refine N3 (use := Af) rfl hs hclos B.kind B.names (thn (hi pI s σ H _ I h) fun v s1 h1 => thn h1 fun itv s2 h2 => ?_)
 obtain⟨it, fp, tn, J, H2, e, I2, T, st2, f2, h3⟩ := h2;subst e;refine KP (RR := fun acc C => compPost (model X.prog X.w) X.A X.xe Af (EP X pI σ Q) acc C) hc B I2 T st2 f2 hcl hcl2 (fun cl C s H => hg cl C s H fp) (fun cl C s H => ht cl C s H fp) (fun cl C s H => he cl C s H fp) h3 fun cl' D C s' H' σ' pins' xs ys n m I' hd hDn rv hz hD hDC hC hm q => ?_
 exact⟨m, hm, fun h'' hs'' => ⟨.ref D, _, Kt I2 f2 I' hD hDC hC hd hDn rv hz hs'', rfl, q⟩⟩
theorem QY{n:Aj}{g:TG}(hc : X.calm = Ac)(B : BlockOk X scope N' ts)(hi : PI X tg iter wi)(hg : ∀ cl C s H fp, PG (cxC X scope cl C N' s H fp) tg g)(ht : ∀ cl C s H fp, PTs (cxC X scope cl C N' s H fp) ifs tt)(he : ∀ cl C s H fp, PE (cxC X scope cl C N' s H fp) elt te)(hs : ∀ x, BM iter X.env x = pure x)(hN : X.N.Nodup)(hni : X.N[i]? = Aa n)(hx : X.env.scope.names.lookup n = Aa .local)(hsw : CO (.ListComp elt [⟨tg, iter, ifs, 0⟩] scope pos) (Aa (.Name n pos')) pos2.line X.env = pure Ac):PS X (.Assign [.Name n pos'] (.ListComp elt [⟨tg,iter,ifs,0⟩] scope pos) pos2) (HM (fun σ H Q =>wi σ H fun J H1 =>GJ J ts g tt te σ H1 Q) (Eb i)) := by
 intro pI s σ H Dn I h;obtain⟨cl, hclos, hcl, hcl2⟩ := JX (scope := scope) (env := X.env) fun x hx hk => I.ok.has x.1 ((B.free x hx hk).imp id id)
 rw[exec_Assign_Name_used _ _ _ _ hsw];refine As (Fe (As ?_));show AD _ X.A (do let _ <-comprehension (.ListComp elt [⟨tg, iter, ifs, 0⟩] scope pos) scope X.env _ (newList []) Ad (eval iter X.env) (Aa (assign (.Name n pos') X.env))) _ _ s
 refine As (Bu (N3 (use := Aa (assign (.Name n pos') X.env)) (Q := fun _ s' => SP X pI Dn .next s') rfl hs hclos B.kind B.names
  (thn (hi pI s σ H _ I h) fun v s1 h1 => thn h1 fun itv s2 h2 => ?_)) (fun _ s' hq => AV (AV hq)) fun _ _ e => e)
 obtain⟨it, fp, tn, J, H2, e, I2, T, st2, f2, h3⟩ := h2;subst e;refine KP (RR := fun acc C => compPost (model X.prog X.w) X.A X.xe (Aa (assign (.Name n pos') X.env)) (fun _ s' => SP X pI Dn .next s') acc C) hc B I2 T st2 f2 hcl hcl2 (fun cl C s H => hg cl C s H fp) (fun cl C s H => ht cl C s H fp) (fun cl C s H => he cl C s H fp) h3 fun cl' D C s' H' σ' pins' xs ys n' m I' hd hDn rv hz hD hDC hC hm q => ?_
 have J0 : Inv X pI σ (upd H' D (.lst xs)) s' := Kt I2 f2 I' hD hDC hC hd hDn rv hz (Heap.SameBut.refl ..);refine N2 (Kz J0 hN hni (.inl hx) (show A6 (.ref D) (.ref D) from rfl) (fun s'' J1 ⟨a, sb, ha⟩ => ?_) (.inr hx))
 have hC0 : X.s₀.heap.objs.size <= C := BH I2.sz hC;have hL : C ≠ X.env.locals := fun z => absurd (Au I2.lt (z ▸ hC)) (A3 _)
 have hcC : ∀ x c, X.env.cells.lookup x = Aa c -> c ≠ C := fun x c e z => by
  obtain⟨v, q'⟩ := I2.cell x c e;exact absurd (Au q'.lt (by rw[z];exact hC)) (A3 _)
 have hp : ∀ p ∈ X.pn++pI, p.1 ≠ C := fun p hp z => absurd (Au (Aw (I2.pin p hp).1) (by rw[z];exact hC)) (A3 _)
 have hCn : upd H' D (.lst xs) C = Af := by rw[B4 hDC.symm];exact I'.free
 have hCa : C ≠ a := by
  rcases ha with rfl|ha
  ·exact hL
  ·exact fun z => hcC n a ha z.symm
 refine⟨m, hm.sameBut sb hCa, fun h'' hs'' => ⟨_, _, J1.turned (t' := s''.toks) (fun b o hb e => (hs''.2 b hb).trans e) hCn hL (.inr hC0) hcC hp, q⟩⟩
theorem IJ : ∀(ts : Ab Ag)(ρ : Rho)(j : Ag), (DL ts ρ)[j]? = if j ∈ ts then (ρ[j]?).map (fun _ => Af) else ρ[j]?
 |[], ρ, j => by simp[DL]
 |t::ts, ρ, j => by
  show (DL ts (ρ.set t Af))[j]? = _;rw[IJ ts];by_cases h1 : j ∈ ts
  ·rw[AE h1, AE (Aq _ h1)];by_cases h2 : t = j
   ·subst h2;rw[Dc];cases ρ[t]? <;> rfl
   ·rw[BS h2]
  ·rw[AJ h1];by_cases h2 : t = j
   ·subst h2;rw[AE At, Dc];cases ρ[t]? <;> rfl
   ·rw[BS h2, AJ (by simp only[AK, G8];exact⟨fun z => h2 z.symm, h1⟩)]
theorem II : ∀(ts : Ab Ag)(ρ : Rho), (DL ts ρ).length = ρ.length
 |[], _ => rfl
 |t::ts, ρ => by show (DL ts (ρ.set t Af)).length = _;rw[II ts, AX]
theorem Ib : ∀(ts : Ab Ag)(σ : L2.St){i : Ag}, i ∉ ts -> (hideT ts σ)[i]? = σ[i]?
 |[], _, _, _ => rfl
 |t::ts, σ, i, h => by
  simp only[AK, G8]at h;show (hideT ts (σ.set t Af))[i]? = _;rw[Ib ts _ h.2, BS (fun z => h.1 z.symm)]
section
variable{K : Fg}{CL : ClA}{A : Ai -> Prop}{ρ ρ' : Rho}{σ : L2.St}{H : Hp}
theorem Good.less(g : Good K CL A ρ σ H)(hl : ρ'.length = ρ.length)(h : ∀(i : Ag)(d : D)(o : An), ρ'[i]? = Aa (Aa (d, o)) -> ρ[i]? = Aa (Aa (d, o))) : Good K CL A ρ' σ H := ⟨fun i d e => g.sh i d (h i d Ad e), fun i d e => g.ow i d (h i d Ac e), hl.trans g.len⟩
theorem Good.put(g : Good K CL A ρ σ H)(t : Ag)(r : Rep K CL H A v d) : Good K CL A (ρ.set t (Aa (d, Ad))) (σ.set t (Aa v)) H := by
 refine⟨fun j e h => ?_, fun j e h => ?_, by rw[AX, AX];exact g.len⟩
 ·by_cases hj : t = j
  ·subst hj;have e1 := Ew h;cases e1;have hl : t<σ.length := by
    rw[<-g.len];have := (AR.mp h).1;simpa using this
   exact⟨v, by rw[Bj hl], r⟩
  ·rw[BS hj]at h;obtain⟨w', q, rw'⟩ := g.sh j e h;exact⟨w', by rw[BS hj];exact q, rw'⟩
 ·have hj : t ≠ j := by
   rintro rfl;have := Ew h;cases this
  rw[BS hj]at h;obtain⟨a, xs, q, z⟩ := g.ow j e h;exact⟨a, xs, by rw[BS hj];exact q, z⟩
theorem Good.hide(g : Good K CL A ρ σ H)(ts : Ab Ag) : Good K CL A (DL ts ρ) σ H := g.less (II _ _) fun i d o e => by
 rw[IJ]at e;split at e
 ·cases q : ρ[i]? with
  |none => rw[q]at e;cases e
  |some x => rw[q]at e;cases e
 ·exact e
theorem Good.hideT(g : Good K CL A ρ σ H)(ts : Ab Ag) : Good K CL A (DL ts ρ) (hideT ts σ) H := by
 have key : ∀ i x, (DL ts ρ)[i]? = Aa (Aa x) -> ρ[i]? = Aa (Aa x) /\ i ∉ ts := fun i x e => by
  rw[IJ]at e;split at e
  ·cases q : ρ[i]? with
   |none => rw[q]at e;cases e
   |some x => rw[q]at e;cases e
  ·exact⟨e, by assumption⟩
 refine⟨fun i d e => ?_, fun i d e => ?_, by rw[II, IH];exact g.len⟩
 ·obtain⟨e1, e2⟩ := key i _ e;obtain⟨v, q, r⟩ := g.sh i d e1;exact⟨v, by rw[Ib _ _ e2];exact q, r⟩
 ·obtain⟨e1, e2⟩ := key i _ e;obtain⟨a, xs, q, r⟩ := g.ow i d e1;exact⟨a, xs, by rw[Ib _ _ e2];exact q, r⟩
end
noncomputable def GG(K : Fg)(CL : ClA)(ts : Ab Ag)(as : D -> Rho -> R Rho)(g : TG) : Prop := ∀ A ρ σ H v d ρ' Q, Good K CL A (DL ts ρ) σ H -> Rep K CL H A v d -> as d ρ = .ok ρ' -> (∀ σ', Good K CL A ρ' σ' H -> Good K CL A (DL ts ρ) σ' H -> Q σ' H) -> g v σ H Q
theorem QK(i : Ag) : GG K CL [i] (fun d ρ => .ok (ρ.set i (Aa (d, Ad)))) (Eb i) := fun A ρ σ H v d ρ' Q g r e k => by
 cases e;have g2 := g.put i r;have e1 : (DL [i] ρ).set i (Aa (d, Ad)) = ρ.set i (Aa (d, Ad)) := by
  show (ρ.set i Af).set i (Aa (d, Ad)) = _;rw[Np]
 rw[e1]at g2;refine k _ g2 ?_;have := g2.hide [i];have e2 : DL [i] (ρ.set i (Aa (d, Ad))) = DL [i] ρ := by
  show (ρ.set i _).set i Af = ρ.set i Af;rw[Np]
 rw[e2]at this;exact this
noncomputable abbrev W0 : XW := fun _ _ => AW
noncomputable def STs(X : Cx)(CL : ClA)(ifs : Ab Ao)(f : Rho -> R An) : Prop := ∀ A, PTs X ifs (fun σ H Q => AOk H A /\ ∃ ρ, Good X.K CL A ρ σ H /\ BV W0 H (f ρ) Q)
theorem P8 : STs X CL [] (fun _ => .ok Ac) := fun A pI s σ H Q I ⟨hA, ρ, g, p⟩ => QV pI s σ H Q I (p H (Ar.refl H))
theorem P7(h : SB X CL W0 c f) : STs X CL [c] f := fun A pI s σ H Q I q => QU (h A) pI s σ H Q I q
section
variable{X : Cx}{CL : ClA}{W : XW}{tg iter elt : Ao}{ifs : Ab Ao}{scope : Br}{pos : AH}{N' : Ab Aj}{ts : Ab Ag}{fi : Rho -> R (Ab D)}{fc : Rho -> R An}{fe : Rho -> R D}{as : D -> Rho -> R Rho}{g : TG}
theorem Oc{g : D -> R An}{f:D -> R D}{x:D}{xs ys:Ab D}(h : Bo g f (x::xs) = .ok ys) : (g x = .ok Ad /\ Bo g f xs = .ok ys) \/ ∃ y r, g x = .ok Ac /\ f x = .ok y /\ Bo g f xs = .ok r /\ ys = y::r := by
 unfold Bo at h;cases e : g x with
 |bad => rw[e]at h;cases h
 |exn z => rw[e]at h;cases h
 |ok b=>
  rw[e, R.bind_ok]at h;cases b with
  |false => exact .inl ⟨rfl, h⟩
  |true=>
   rw[AE rfl]at h;cases e2 : f x with
   |bad => rw[e2]at h;cases h
   |exn z => rw[e2]at h;cases h
   |ok y=>
    rw[e2, R.bind_ok]at h;cases e3 : Bo g f xs with
    |bad => rw[e3]at h;cases h
    |exn z => rw[e3]at h;cases h
    |ok r=>
     rw[e3, R.bind_ok]at h;cases h;exact .inr ⟨y, r, rfl, rfl, rfl, rfl⟩
theorem FK{β:Type}{r : R α}{f : α -> R β}{b : β}(h : r.bind f = .ok b) : ∃ a, r = .ok a /\ f a = .ok b := by
 cases r with
 |ok a => exact⟨a, rfl, h⟩
 |exn x => cases h
 |bad => cases h
theorem OI{ds ys : Ab D}(hGG : GG K CL ts as g)(hA : AOk H1 A)(gd : Good K CL A ρ σ H1)(yl : FY K CL A ds J H1)(hz : ds.length <= sizeLine)(hcp : Bo (fun x => (as x ρ).bind fc) (fun x => (as x ρ).bind fe) ds = .ok ys)(q : ∀ xs H2, Ar H1 H2 -> Reps K CL H2 A xs ys -> ∀ p, H2 p = Af -> Q (.ref p) (upd H2 p (.lst xs))):GJ J ts g (fun σ H Q =>AOk H A/\∃ ρ,Good K CL A ρ σ H/\BV W0 H (fc ρ) Q) (fun σ H Q =>AOk H A/\∃ ρ,Good K CL A ρ σ H/\AT (fun H =>Rep K CL H A) W0 H (fe ρ) Q) σ H1 Q := by
 refine⟨fun i m xs σ' H' => m = ds.length-i /\ i <= ds.length /\ xs.length <= i /\ Ar H1 H' /\ Good K CL A (DL ts ρ) σ' H' /\ ∃ outs rest, Reps K CL H' A xs outs /\ Bo (fun x => (as x ρ).bind fc) (fun x => (as x ρ).bind fe) (ds.drop i) = .ok rest /\ ys = outs++rest,
  ⟨ds.length, by simp, FH _, AG _, Ar.refl _, gd.hideT ts, [], ys, trivial, hcp, rfl⟩, ?_⟩
 rintro i m xs σ' H' ⟨rfl, hi, hxl, sm, g', outs, rest, rs, hc, e⟩;obtain⟨yst, ygo⟩ := yl H' (Kp.of sm) i;by_cases hlt : i<ds.length
 ·have hd : ds[i]? = Aa ds[i] := BG hlt;obtain⟨hgo, hyl⟩ := ygo _ hd;refine .inr ⟨hgo, by omega, fun x H2 hx => ?_⟩
  obtain⟨s2, rx⟩ := hyl x H2 hx;have rx' := rx A (fun a ha => .inl ha) (hA.same sm)
  rw[M9 hlt]at hc;have sm2 := sm.trans s2;rcases Oc hc with ⟨h1, h2⟩|⟨y, r, h1, h2, h3, h4⟩
  ·obtain⟨ρ', ea, ec⟩ := FK h1;refine hGG A ρ σ' H2 x ds[i] ρ' _ (g'.same s2) rx' ea fun σ3 g3 g4 => ⟨hA.same sm2, ρ', g3, ?_⟩
   rw[ec];exact fun H3 s3 => by
    dsimp only;rw[AJ (by decide)]
    exact⟨ds.length-(i+1), by omega, rfl, hlt, by omega, sm2.trans s3, g4.same s3, outs, rest, (rs.same s2).same s3, h2, e⟩
  ·obtain⟨ρ', ea, ec⟩ := FK h1;obtain⟨ρ2, ea2, ee⟩ := FK h2;rw[ea]at ea2;cases ea2;refine hGG A ρ σ' H2 x ds[i] ρ' _ (g'.same s2) rx' ea fun σ3 g3 g4 => ⟨hA.same sm2, ρ', g3, ?_⟩
   rw[ec];exact fun H3 s3 => by
    dsimp only;rw[AE rfl];refine⟨(hA.same sm2).same s3, ρ', g3.same s3, ?_⟩;rw[ee];exact fun v H4 s4 r4 => ⟨ds.length-(i+1), by omega, rfl, hlt, by rw[BW, Ni];omega, (sm2.trans s3).trans s4, (g4.same s3).same s4, outs++[y], r, (((rs.same s2).same s3).same s4).append ⟨r4, trivial⟩, h3, by rw[e, h4];simp⟩
 ·have hk' : ds.length <= i := by omega
  rw[Na hk']at hc;have hr : rest = [] := by cases hc;rfl
  subst hr;rw[BZ]at e;subst e;exact .inl ⟨yst hk', fun p hp => q xs H' sm rs p hp⟩
theorem Dg.ok_of{r:R (Ab D)}{f:Ab D -> R D}{Q':It -> Hp -> Prop}(h : AT Rq W H (r.bind f) Q)(k : ∀ ds J H', r = .ok ds -> Ar H H' -> FY K CL A ds J H' -> ds.length <= sizeLine -> AT Rq W H' (f ds) Q -> Q' J H') : Dg K CL A W H r Q' := by
 cases r with
 |ok d => exact fun J H2 s2 y z => k d J H2 rfl s2 y z (AT.same s2 h)
 |exn x => exact h
 |bad => exact h
theorem Td{r : R α}{a : α}(h : noX r = .ok a) : r = .ok a := by
 cases r with
 |ok b => exact h
 |exn x => cases h
 |bad => cases h
theorem Ks(hGG : GG X.K CL ts as g)(hA : AOk H A)(gd : Good X.K CL A ρ σ H)(p : AT (CM X.K CL Ac H A) W H ((fi ρ).bind fun xs => (noX (Bo (fun x => (as x ρ).bind fc) (fun x => (as x ρ).bind fe) xs)).bind fun ys => .ok (.lst ys)) Q):Dg X.K CL A W H (fi ρ) (fun J H1 =>GJ J ts g (fun σ H Q =>AOk H A/\∃ ρ,Good X.K CL A ρ σ H/\BV W0 H (fc ρ) Q) (fun σ H Q =>AOk H A/\∃ ρ,Good X.K CL A ρ σ H/\AT (fun H =>Rep X.K CL H A) W0 H (fe ρ) Q) σ H1 Q):=
 Dg.ok_of p fun ds J H1 e1 s1 yl hz p1 => by
  cases e2 : noX (Bo (fun x => (as x ρ).bind fc) (fun x => (as x ρ).bind fe) ds) with
  |ok ys=>
   rw[e2]at p1;exact OI hGG (hA.same s1) (gd.same s1) yl hz (Td e2) fun xs H2 s2 rs q hq => p1 _ _ (s2.trans (D8 hq _)) (Gb (s1.trans s2) ((hA.same s1).same s2) hq rs)
  |exn x => rw[e2]at p1;cases hq : Bo (fun x => (as x ρ).bind fc) (fun x => (as x ρ).bind fe) ds <;> rw[hq]at e2 <;> cases e2
  |bad => rw[e2]at p1;exact p1.elim
theorem PJ(hc : X.calm = Ac)(B : BlockOk X scope N' ts)(hi : SI X CL W tg iter fi)(hGG : GG X.K CL ts as g)(hg : ∀ cl C s H fp, PG (cxC X scope cl C N' s H fp) tg g)(ht : ∀ cl C s H fp, STs (cxC X scope cl C N' s H fp) CL ifs fc)(he : ∀ cl C s H fp, SE (cxC X scope cl C N' s H fp) CL W0 elt fe)(hs : ∀ x, BM iter X.env x = pure x) : SC X CL W Ac (.ListComp elt [⟨tg, iter, ifs, 0⟩] scope pos) (fun ρ => (fi ρ).bind fun xs => (noX (Bo (fun x => (as x ρ).bind fc) (fun x => (as x ρ).bind fe) xs)).bind fun ys => .ok (.lst ys)) := fun A pI s σ H Q I ⟨hA, ρ, gd, p⟩=>
 Q3 hc B (hi A) hg (fun cl C s H fp => ht cl C s H fp A) (fun cl C s H fp => he cl C s H fp A) hs pI s σ H Q I ⟨hA, ρ, gd, Ks hGG hA gd p⟩
end
section
variable{K : Fg}{CL : ClA}{Fz : Ai -> HO -> Prop}{B : Ai -> Prop}{ρ : Rho}{σ : L2.St}{H H' : Hp}
theorem BO.rep(h : BO K CL H A a o d)(na : ¬ A' a)(hh : H a = Aa o)(sub : ∀ b, A' b -> A b) : Rep K CL H A' (.ref a) d := by
 rcases h with ⟨xs, ds, rfl, rfl, r⟩|⟨es, ds, rfl, rfl, r⟩
 ·exact⟨a, xs, rfl, .inl na, SqL.of hh, Reps.sub sub _ r⟩
 ·exact⟨a, es, rfl, na, hh, Repk.sub sub _ r⟩
theorem Sx.setO(x : Sx K CL Fz B ρ σ H)(s : Ar H H'){u:HO}(h0 : H a = Af)(h1 : H' a = Aa u)(r : BO K CL H' (fun b => BB B ρ σ b \/ b = a) a u d) : Sx K CL Fz B (ρ.set i (Aa (d, Ac))) (σ.set i (Aa (.ref a))) H' := by
 have nA : ¬ BB B ρ σ a := x.aok.new h0;have own : ∀(j : Ag)(e : D), (ρ.set i (Aa (d, Ac)))[j]? = Aa (Aa (e, Ac)) -> (i = j /\ e = d) \/ (i ≠ j /\ ρ[j]? = Aa (Aa (e, Ac))) := fun j e h => by
  by_cases hj : i = j
  ·subst hj;have := Ew h;cases this;exact .inl ⟨rfl, rfl⟩
  ·exact .inr ⟨hj, by rw[BS hj]at h;exact h⟩
 have atI : ∀{j : Ag}{y : Sl}, (ρ.set i (Aa (d, Ac)))[j]? = Aa y -> i = j -> (σ.set i (Aa (.ref a)))[j]? = Aa (Aa (.ref a)) := fun {j y} h e => by
  subst e;have hl : i<σ.length := by
   rw[<-x.len];have := (AR.mp h).1;simpa using this
  rw[Bj hl]
 have sub : ∀ b, BB B (ρ.set i (Aa (d, Ac))) (σ.set i (Aa (.ref a))) b -> BB B ρ σ b \/ b = a := fun b h => by
  rcases h with h|⟨j, e, h1, h2⟩
  ·exact .inl (.inl h)
  ·rcases own j e h1 with ⟨hj, _⟩|⟨hj, h1'⟩
   ·rw[atI h1 hj]at h2;cases h2;exact .inr rfl
   ·rw[BS hj]at h2;exact .inl (.inr ⟨j, e, h1', h2⟩)
 have wide : ∀{v : V}{e : D}, Rep K CL H (BB B ρ σ) v e -> Rep K CL H' (BB B (ρ.set i (Aa (d, Ac))) (σ.set i (Aa (.ref a)))) v e := fun r => (Rep.wide (fun b hb => (sub b hb).imp id fun e => by rw[e];exact h0) _ r).same s
 have wides : ∀{b : Ai}{o : HO}{e : D}, BO K CL H (BB B ρ σ) b o e -> BO K CL H' (BB B (ρ.set i (Aa (d, Ac))) (σ.set i (Aa (.ref a)))) b o e := fun r => (r.wide (fun b hb => (sub b hb).imp id fun e => by rw[e];exact h0)).same s
 refine⟨⟨fun j e h => ?_, fun j e h => ?_, by rw[AX, AX];exact x.len⟩, fun b h => ?_, fun j e b g1 g2 => ?_, fun j k e f b g1 g2 g3 g4 => ?_, fun b o z => s _ _ (x.same b o z), by rw[AX, AX];exact x.len⟩
 ·have hj : i ≠ j := by
   rintro rfl;have := Ew h;cases this
  rw[BS hj]at h;obtain⟨w', q, rw'⟩ := x.good.sh j e h;exact⟨w', by rw[BS hj];exact q, wide rw'⟩
 ·rcases own j e h with ⟨hj, rfl⟩|⟨hj, h'⟩
  ·have q := atI h hj;exact⟨a, u, q, .inr ⟨j, _, h, q⟩, h1, r.sub sub⟩
  ·obtain⟨b, o, q, ha, hh, rr⟩ := x.good.ow j e h';have q' : (σ.set i (Aa (.ref a)))[j]? = Aa (Aa (.ref b)) := by rw[BS hj];exact q
   exact⟨b, o, q', .inr ⟨j, e, h, q'⟩, s _ _ hh, wides rr⟩
 ·rcases sub b h with z|z
  ·obtain⟨ys, q, w⟩ := x.aok b z;exact⟨ys, s _ _ q, w⟩
  ·rw[z];exact⟨u, h1, r.owk⟩
 ·rcases own j e g1 with ⟨hj, _⟩|⟨hj, h'⟩
  ·rw[atI g1 hj]at g2;cases g2;refine⟨fun o z => ?_, fun z => nA (.inl z)⟩
   have := x.same a o z;rw[h0]at this;cases this
  ·rw[BS hj]at g2;exact x.new j e b h' g2
 ·rcases own j e g1 with ⟨hj, _⟩|⟨hj, h'⟩
  ·rw[atI g1 hj]at g3;cases g3;rcases own k f g2 with ⟨hk, _⟩|⟨hk, h''⟩
   ·exact hj.symm.trans hk
   ·rw[BS hk]at g4;exact absurd (.inr ⟨k, f, h'', g4⟩) nA
  ·rw[BS hj]at g3;rcases own k f g2 with ⟨hk, _⟩|⟨hk, h''⟩
   ·rw[atI g2 hk]at g4;cases g4;exact absurd (.inr ⟨j, e, h', g3⟩) nA
   ·rw[BS hk]at g4;exact x.dis j k e f b h' h'' g3 g4
theorem Sx.setF(x : Sx K CL Fz B ρ σ H)(s : Ar H H'){ds : Ab D}(h0 : H a = Af)(h1 : H' a = Aa (.lst xs))(r : Reps K CL H' (fun b => BB B ρ σ b \/ b = a) xs ds) : Sx K CL Fz B (ρ.set i (Aa (.lst ds, Ac))) (σ.set i (Aa (.ref a))) H' := x.setO s h0 h1 (.lst r)
theorem Sx.updO(x : Sx K CL Fz B ρ σ H){u:HO}{d':D}(hi : ρ[i]? = Aa (Aa (d, Ac)))(ha : σ[i]? = Aa (Aa (.ref a)))(r : BO K CL H (BB B ρ σ) a u d') : Sx K CL Fz B (ρ.set i (Aa (d', Ac))) σ (L2.upd H a u) := by
 have oa : BB B ρ σ a := .inr ⟨i, d, hi, ha⟩;have hil : i<ρ.length := (AR.mp hi).1;have get : ∀(j : Ag)(e : D), (ρ.set i (Aa (d', Ac)))[j]? = Aa (Aa (e, Ac)) ↔ (i = j /\ e = d') \/ (i ≠ j /\ ρ[j]? = Aa (Aa (e, Ac))) := fun j e => by
  by_cases hj : i = j
  ·subst hj;rw[Bj hil];simp;exact⟨fun z => z.symm, fun z => z.symm⟩
  ·rw[BS hj];simp[hj]
 have same : ∀ b, BB B (ρ.set i (Aa (d', Ac))) σ b ↔ BB B ρ σ b := fun b => by
  constructor
  ·rintro (h|⟨j, e, h1, h2⟩)
   ·exact .inl h
   ·rcases (get j e).mp h1 with ⟨rfl, _⟩|⟨_, h1⟩
    ·exact .inr ⟨i, d, hi, h2⟩
    ·exact .inr ⟨j, e, h1, h2⟩
  ·rintro (h|⟨j, e, h1, h2⟩)
   ·exact .inl h
   ·by_cases hj : i = j
    ·subst hj;exact .inr ⟨i, d', (get i _).mpr (.inl ⟨rfl, rfl⟩), h2⟩
    ·exact .inr ⟨j, e, (get j e).mpr (.inr ⟨hj, h1⟩), h2⟩
 have kp : Kp (BB B ρ σ) H (L2.upd H a u) := fun b o e na => by
  have hne : b ≠ a := by
   rintro rfl;exact na oa
  rw[B4 hne];exact e
 refine⟨⟨fun j e h => ?_, fun j e h => ?_, by rw[AX];exact x.len⟩, fun b h => ?_, fun j e b g1 g2 => ?_, fun j k e f b g1 g2 g3 g4 => ?_, fun b o z => ?_, by rw[AX];exact x.len⟩
 ·have hj : i ≠ j := by
   rintro rfl;have := Ew h;cases this
  rw[BS hj]at h;obtain⟨w', q, rw'⟩ := x.good.sh j e h;exact⟨w', q, Rep.sub (fun b hb => (same b).mp hb) _ (Rep.kp kp _ rw')⟩
 ·rcases (get j e).mp h with ⟨rfl, rfl⟩|⟨hj, h'⟩
  ·exact⟨a, u, ha, (same a).mpr oa, Fs, (r.kp kp).sub fun b hb => (same b).mp hb⟩
  ·obtain⟨b, o, q, hb, hh, rr⟩ := x.good.ow j e h';have hne : b ≠ a := fun z => hj (x.dis i j d e a hi h' ha (z ▸ q))
   exact⟨b, o, q, (same b).mpr hb, by rw[B4 hne];exact hh, (rr.kp kp).sub fun b hb => (same b).mp hb⟩
 ·obtain⟨ys, q, w⟩ := x.aok b ((same b).mp h);by_cases e : b = a
  ·rw[e];exact⟨u, Fs, r.owk⟩
  ·exact⟨ys, by rw[B4 e];exact q, w⟩
 ·rcases (get j e).mp g1 with ⟨rfl, _⟩|⟨_, h'⟩
  ·exact x.new i d b hi g2
  ·exact x.new j e b h' g2
 ·rcases (get j e).mp g1 with ⟨rfl, _⟩|⟨hj, h'⟩
  ·rcases (get k f).mp g2 with ⟨rfl, _⟩|⟨hk, h''⟩
   ·rfl
   ·exact x.dis i k d f b hi h'' g3 g4
  ·rcases (get k f).mp g2 with ⟨rfl, _⟩|⟨hk, h''⟩
   ·exact x.dis j i e d b h' hi g3 g4
   ·exact x.dis j k e f b h' h'' g3 g4
 ·have hne : b ≠ a := fun e => (x.new i d a hi ha).1 o (e ▸ z)
  rw[B4 hne];exact x.same b o z
theorem Sx.upd(x : Sx K CL Fz B ρ σ H){ds : Ab D}(hi : ρ[i]? = Aa (Aa (d, Ac)))(ha : σ[i]? = Aa (Aa (.ref a)))(r : Reps K CL H (BB B ρ σ) xs ds) : Sx K CL Fz B (ρ.set i (Aa (.lst ds, Ac))) σ (L2.upd H a (.lst xs)) := x.updO hi ha (.lst r)
theorem Sx.rel(x : Sx K CL Fz B ρ σ H)(hi : ρ[i]? = Aa (Aa (d, Ac))) : Sx K CL Fz B (ρ.set i (Aa (d, Ad))) σ H := by
 obtain⟨a, u, q, oa, hh, rr⟩ := x.good.ow i d hi;have own : ∀(j : Ag)(e : D), (ρ.set i (Aa (d, Ad)))[j]? = Aa (Aa (e, Ac)) -> i ≠ j /\ ρ[j]? = Aa (Aa (e, Ac)) := fun j e h => by
  by_cases hj : i = j
  ·subst hj;have := Ew h;cases this
  ·exact⟨hj, by rw[BS hj]at h;exact h⟩
 have sub : ∀ b, BB B (ρ.set i (Aa (d, Ad))) σ b -> BB B ρ σ b := fun b h => by
  rcases h with h|⟨j, e, h1, h2⟩
  ·exact .inl h
  ·exact .inr ⟨j, e, (own j e h1).2, h2⟩
 have na : ¬ BB B (ρ.set i (Aa (d, Ad))) σ a := fun h => by
  rcases h with h|⟨j, e, h1, h2⟩
  ·exact(x.new i _ a hi q).2 h
  ·obtain⟨hj, h1⟩ := own j e h1;exact hj (x.dis i j _ e a hi h1 q h2)
 refine⟨⟨fun j e h => ?_, fun j e h => ?_, by rw[AX];exact x.len⟩, fun b h => x.aok b (sub b h), fun j e b g1 g2 => x.new j e b (own j e g1).2 g2, fun j k e f b g1 g2 g3 g4 => x.dis j k e f b (own j e g1).2 (own k f g2).2 g3 g4, x.same, by rw[AX];exact x.len⟩
 ·by_cases hj : i = j
  ·subst hj;have e1 := Ew h;cases e1;exact⟨_, q, rr.rep na hh sub⟩
  ·rw[BS hj]at h;obtain⟨w', q', rw'⟩ := x.good.sh j e h;exact⟨w', q', Rep.sub sub _ rw'⟩
 ·obtain⟨hj, h'⟩ := own j e h;obtain⟨b, o, q', hb, hh', rr'⟩ := x.good.ow j e h';exact⟨b, o, q', .inr ⟨j, e, h, q'⟩, hh', rr'.sub sub⟩
end
section
variable{X : Cx}{CL : ClA}{W : XW}{pos : AH}{e : Ao}{fe : Rho -> R D}{fr : An}
theorem BK.exC{f:D -> O}(x : Sx X.K CL Fz B ρ σ H)(h : BK X.K CL Fz B W (O.of ρ r f) D')(k : ∀ d v H', r = .ok d -> Ar H H' -> CM X.K CL fr H A H' v d -> Sx X.K CL Fz B ρ σ H' -> BK X.K CL Fz B W (f d) D' -> Q v H') : AT (CM X.K CL fr H A) W H r Q := by
 cases r with
 |ok d => exact fun v H' s r => k d v H' rfl s r (x.grow s) h
 |exn y => exact fun H' s => h H' fun b o z => s _ _ (x.same b o z)
 |bad => exact h
noncomputable def SAs(X : Cx)(CL : ClA)(W : XW)(fr : An)(i : Ag)(st : A7)(f : Rho -> R D) : Prop := ∀ A, PS X st (HM (fun σ H Q => AOk H A /\ ∃ ρ, Good X.K CL A ρ σ H /\ AT (CM X.K CL fr H A) W H (f ρ) Q) (Eb i))
theorem SC.sas{n:Aj}(hN : X.N.Nodup)(hi : X.N[i]? = Aa n)(hx : Loc X.env.scope n)(he : SC X CL W fr e fe)(hs : CO e (Aa (.Name n pos')) pos.line X.env = pure Ad)(hf : X.fn n = Ac \/ X.env.scope.names.lookup n = Aa .local) : SAs X CL W fr i (.Assign [.Name n pos'] e pos) fe:=
 fun A => R0 hN hi hx (he A) hs hf
theorem Pv{n:Aj}{fe:Rho -> R D}{g:TG}(hc : X.calm = Ac)(B : BlockOk X scope N' ts)(hi : SI X CL W tg iter fi)(hGG : GG X.K CL ts as g)(hg : ∀ cl C s H fp, PG (cxC X scope cl C N' s H fp) tg g)(ht : ∀ cl C s H fp, STs (cxC X scope cl C N' s H fp) CL ifs fc)(he : ∀ cl C s H fp, SE (cxC X scope cl C N' s H fp) CL W0 elt fe)(hs : ∀ x, BM iter X.env x = pure x)(hN : X.N.Nodup)(hni : X.N[i]? = Aa n)(hx : X.env.scope.names.lookup n = Aa .local)(hsw : CO (.ListComp elt [⟨tg, iter, ifs, 0⟩] scope pos) (Aa (.Name n pos')) pos2.line X.env = pure Ac):SAs X CL W Ac i (.Assign [.Name n pos'] (.ListComp elt [⟨tg,iter,ifs,0⟩] scope pos) pos2) (fun ρ =>(fi ρ).bind fun xs =>(noX (Bo (fun x =>(as x ρ).bind fc) (fun x =>(as x ρ).bind fe) xs)).bind fun ys =>.ok (.lst ys)) := fun A pI s σ H Dn I ⟨hA, ρ, gd, p⟩=>
 QY hc B (hi A) hg (fun cl C s H fp => ht cl C s H fp A) (fun cl C s H fp => he cl C s H fp A) hs hN hni hx hsw pI s σ H Dn I ⟨hA, ρ, gd, Ks hGG hA gd p⟩
theorem Lx{st : A7}(h : SAs X CL W fr i st fe) : SS X CL W st (fun ρ => O.of ρ (fe ρ) fun d => .next (ρ.set i (Aa (d, Ad)))) := fun Fz B pI s σ H D I ⟨ρ, x, p⟩=>
 h (BB B ρ σ) pI s σ H D I ⟨x.aok, ρ, x.good, BK.exC x p fun d v H' _ s r x' q => q _ H' (x'.set i r.1)⟩
theorem Qf{st : A7}(h : SAs X CL W Ac i st fe) : SS X CL W st (fun ρ => O.of ρ (fe ρ) fun d => setF ρ i d) := fun Fz B pI s σ H D I ⟨ρ, x, p⟩=>
 h (BB B ρ σ) pI s σ H D I ⟨x.aok, ρ, x.good, BK.exC x p fun d v H' _ s r x' q => by
  cases d with
  |lst ds=>
   obtain⟨a, xs, rfl, h0, h1, rs⟩ := r.2 rfl ds rfl;exact q _ H' (x.setF s h0 h1 rs)
  | _ => exact q.elim⟩
theorem Qd(he : SC X CL W Ac e fe) : SS X CL W (.Return (Aa e) pos) (fun ρ => O.of ρ (fe ρ) fun d => .ret d Ac) := fun Fz B pI s σ H D I ⟨ρ, x, p⟩=>
 Jf (he (BB B ρ σ)) pI s σ H D I ⟨x.aok, ρ, x.good, BK.exC x p fun d v H' _ s r x' q => q v H' x'.same (Rep.sub (fun a h => .inl h) _ r.1) fun _ ds e => by
  obtain⟨a, xs, h0, h1, h2, h3⟩ := r.2 rfl ds e;refine⟨a, xs, h0, fun o z => ?_, h2, Reps.sub (fun b hb => hb.imp .inl id) _ h3⟩
  have := x.same a o z;rw[h1]at this;cases this⟩
noncomputable def JD(ρ : Rho)(i : Ag) : An := match ρ[i]? with
  |some (Aa (_, o)) => o
  |_ => Ad
theorem Qb(he : PE X e (Gv i)) : SS X CL W (.Return (Aa e) pos) (fun ρ => O.of ρ (Be ρ i) fun d => .ret d (JD ρ i)) := fun Fz B pI s σ H D I ⟨ρ, x, p⟩=>
 Jf he pI s σ H D I (by
  dsimp only at p;cases e : Be ρ i with
  |bad => rw[e]at p;exact p.elim
  |exn z => exact(KU e).elim
  |ok d=>
   rw[e]at p;obtain⟨o, e⟩ := KI e;have eo : JD ρ i = o := by unfold JD;rw[e]
   rw[O.of_ok, eo]at p;cases o with
   |false=>
    obtain⟨v, q, r⟩ := x.good.sh i d e;exact⟨v, q, p v H x.same (Rep.sub (fun a h => .inl h) _ r) fun z => nomatch z⟩
   |true=>
    obtain⟨a, u, q, ha, hh, r⟩ := x.good.ow i d e;obtain⟨n1, n2⟩ := x.new i _ a e q;refine⟨_, q, p _ H x.same (r.rep n2 hh fun a h => .inl h) fun _ ds' e' => ?_⟩
    cases e';obtain⟨xs, rfl, r'⟩ := r.lst_of;exact⟨a, xs, rfl, n1, hh, Reps.sub (fun b hb => hb.elim .inl fun z => z ▸ ha) _ r'⟩)
theorem Q6{ds : Ab D}(h : Cs ρ i = .ok ds) : ρ[i]? = Aa (Aa (.lst ds, Ac)) := by
 unfold Cs at h;split at h
 ·rename_i e;cases h;exact e
 ·cases h
theorem O3(h : Cs ρ i = .exn x) : AW := by
 unfold Cs at h;split at h <;> cases h
variable{o : Ao}{i : Ag}{apos cpos : AH}
theorem Rj{k:Ao}{fk:Rho -> R Ov.D}{spos:AH}(ho : PE X o (Gv i))(hk : ST X CL W k fk)(he : SE X CL W e fe)(ha : ∀ v, assign (.Subscript o k spos) X.env v = (do
      let ov <-holding [v] (eval o X.env)
      let iv <-holding [v, ov] (eval k X.env)
      FE spos
      holding [v, ov, iv] (setItem ov iv v)
      release [v, ov, iv] []))(hs : Fd [.Subscript o k spos] e pos.line X.env = pure Ad)(hw : swappedStores [.Subscript o k spos] e X.env = pure Af)(h1 : (B2 [.Subscript o k spos] X.env).map (·.2) = [assign (.Subscript o k spos) X.env]):
    SS X CL W (.Assign [.Subscript o k spos] e pos) (fun ρ => O.of ρ (fe ρ) fun d => O.of ρ (Cs ρ i) fun xs => O.of ρ ((fk ρ).bind CQ) fun j => match plD xs.length j with
      |some n => .next (ρ.set i (Aa (.lst (xs.set n d), Ac)))
      | none => .bad) := fun Fz B pI s σ H D I ⟨ρ, x, p⟩=>
  R4 (he (BB B ρ σ)) (R9 ho (hk (BB B ρ σ)) Pq ha) hs hw h1 pI s σ H D I ⟨x.aok, ρ, x.good, BK.ex x p fun d v H' _ s rv x' q' => by
    cases e1 : Cs ρ i with
    |bad => rw[e1]at q';exact q'.elim
    |exn z => exact(O3 e1).elim
    |ok ds=>
      rw[e1, O.of_ok]at q';have hi := Q6 e1;obtain⟨a, xs, ds', q, e2, ha, hh, r⟩ := x'.good.owL hi;cases e2;refine⟨_, q, x'.aok, ρ, x'.good, ?_⟩;cases e3 : fk ρ with
      |bad => rw[e3]at q';exact q'.elim
      |exn z => rw[e3]at q';exact fun H2 s2 => q' H2 fun b o z => s2 _ _ (x'.same b o z)
      |ok dk=>
        rw[e3]at q';intro y H2 s2 ry;cases dk with
        |int j=>
          have ey := ry.int_of;subst ey;rw[R.bind_ok, OA, O.of_ok]at q';cases e4 : plD ds.length j with
          |none => rw[e4]at q';exact q'.elim
          |some n=>
            rw[e4]at q';refine⟨a, xs, j, n, rfl, rfl, s2 _ _ hh, ?_, q' _ _ ((x'.grow s2).upd hi q (Reps.set (rv.same s2) n (r.same s2)))⟩;rw[r.length];exact e4
        | _ => exact q'.elim⟩
theorem P9{rest : Ab A7}{f:Rho -> O}(i : Ag)(h : SSs X CL W rest f) : SSs X CL W rest (fun ρ => (match ρ[i]? with
   |some (Aa (d, Ac)) => O.next (ρ.set i (Aa (d, Ad)))
   | _ => O.next ρ).seq f) := fun Fz B => PSs.weak (h Fz B) fun D σ H ⟨ρ, x, p⟩ => by
 dsimp only at p;split at p
 ·rename_i d e;exact⟨_, x.rel e, p⟩
 ·exact⟨ρ, x, p⟩
end
section
variable{prog : Az}{w : AF}{A : AI}{E : Ah -> Ak -> Prop}{s : Ak}
end
noncomputable def Gu(t : An)(h : AB)(j l : Ai)(i : Ag) : Prop := match t with
  |true => h.IsTupleIter j l i
  |false => h.IsListIter j l i
noncomputable def G6(t : An)(h : AB)(l : Ai)(its : A4 Ah) : Prop := match t with
  |true => h.IsTuple l its
  |false => h.IsList l its
section
variable{prog : Az}{w : AF}{A : AI}{E : Ah -> Ak -> Prop}{s : Ak}
end
section
variable{prog : Az}{w : AF}{A : AI}{E : Ah -> Ak -> Prop}{s : Ak}
theorem G6.push{its:A4 Ah}(z : G6 t h l its)(o : Ay) : G6 t (h.push o) l its := by
 cases t with
 |true => exact PySem.Heap.IsTuple.at z fun _ e => Ax _ e
 |false => exact PySem.Heap.IsList.at z fun _ e => Ax _ e
end
theorem G6.lt{its:A4 Ah}(z : G6 t h a its) : a<h.objs.size := by
 cases t with
 |true => obtain⟨o, e, _⟩ := z;exact Aw e
 |false => obtain⟨o, e, _⟩ := z;exact Aw e
section
variable{X : Cx}{CL : ClA}{W : XW}{pos p : AH}{a b : Ao}{fa fb : Rho -> R D}
end
theorem Gu.keep{h2:AB}{l:Ag}(z : Gu t h j l i)(k : ∀ o, h.get? j = Aa o -> h2.get? j = Aa o) : Gu t h2 j l i := by
 cases t with
 |true => exact PySem.Heap.IsTupleIter.at z k
 |false => exact PySem.Heap.IsListIter.at z k
section
variable{prog : Az}{w : AF}{A : AI}{E : Ah -> Ak -> Prop}{s : Ak}
end
section
variable{X : Cx}{CL : ClA}{W : XW}{pos p : AH}{a : Ao}{fa : Rho -> R D}
end
noncomputable abbrev MO(h : AB)(z TI TO : Ai)(f0 f1 : Ah) : Prop := h.get? z = Aa { cls := .type "zip", dict := Af, data := .fields #[f0, f1, .bool Ad, .ref TI, .ref TO], slots := #[] }
noncomputable abbrev MP(h : AB)(T : Ai)(a b c : Ah) : Prop := h.get? T = Aa { cls := .type "tuple", data := .seq #[a, b, c] }
section
variable{prog : Az}{w : AF}{A : AI}{E : Ah -> Ak -> Prop}{s : Ak}
noncomputable def Z3(t1 t2 t3 : An)(I l1 l2 l3 i : Ag)(h : AB) : Prop := MP h (I+3) (.ref (I+0)) (.ref (I+1)) (.ref (I+2)) /\ Gu t1 h (I+0) l1 i /\ Gu t2 h (I+1) l2 i /\ Gu t3 h (I+2) l3 i /\ (∃ a b c, MP h (I+4) a b c) /\
 (MO h (I+5) (I+3) (I+4) .none (.bool Ad) \/ ∃(T1 : Ag)(f1 : An), MO h (I+5) (I+3) (I+4) (D1 T1) (.bool f1))
end
section
variable{prog : Az}{w : AF}{A : AI}{R : F1 -> Ak -> Prop}
end
section
variable{prog : Az}{w : AF}{A : AI}{E : Ah -> Ak -> Prop}{s : Ak}
end
theorem Z3.ty{t1 t2 t3 : An}{I l1 l2 l3 i : Ag}(z : Z3 t1 t2 t3 I l1 l2 l3 i s.heap) : s.TypeIs (.ref (I+5)) "zip" := by
 obtain⟨_, _, _, _, _, hz|⟨_, _, hz⟩⟩ := z
 ·exact⟨_, hz, rfl⟩
 ·exact⟨_, hz, rfl⟩
theorem Z3.lt{t1 t2 t3 : An}{I l1 l2 l3 i : Ag}(z : Z3 t1 t2 t3 I l1 l2 l3 i s.heap) : I+5<s.heap.objs.size := by
 obtain⟨o, h, _⟩ := z.ty;exact Aw h
section
variable{prog : Az}{w : AF}{A : AI}{E : Ah -> Ak -> Prop}{s : Ak}
end
section
variable{X : Cx}{CL : ClA}{W : XW}{pos p pos' p' : AH}{a b c : Ao}{fa fb fc : Rho -> R D}
end
section
variable{X : Cx}{CL : ClA}{W : XW}{pos p tpos : AH}{a b c : Ao}{fa fb fc : Rho -> R D}{x : Aj}
end
section
variable{X : Cx}{CL : ClA}{W : XW}{a : Ao}{fa : Rho -> R D}
end
section
variable{X : Cx}{CL : ClA}{W : XW}{o o' e : Ao}{fe : Rho -> R D}{i j : Ag}{apos cpos apos' cpos' pos : AH}
end
section
variable{X : Cx}{CL : ClA}{W : XW}
end
section
variable{X : Cx}
variable{CL : ClA}{W : XW}{pos p pos' p' : AH}{a b : Ao}{fa fb : Rho -> R D}
end
section
variable{X : Cx}{CL : ClA}{W : XW}{e o o' k l : Ao}{fe : Rho -> R Ov.D}{i ik il : Ag}{pos spos spos' tpos : AH}{kt : Ag}
end
section
variable{prog : Az}{w : AF}{A : AI}{E : Ah -> Ak -> Prop}{s : Ak}
end
section
variable{X : Cx}{pos : AH}{CL : ClA}
end
section
variable{X : Cx}{CL : ClA}{W : XW}
end
end Ov
namespace Ov
open PySem PySem.W PyProof.Rows
variable{p:A4 Ag}{m:Ag}
def Kr{α : Type}(lt : Ag -> Ag -> An)(n : Ag) : KasT α -> (α -> Prop) -> Prop
 |.ret a, Q => Q a
 |.ask i j k, Q => i<n /\ j<n /\ Kr lt n (k (lt i j)) Q
theorem Kr.mono{α : Type}{lt : Ag -> Ag -> An}{n : Ag}{Q Q' : α -> Prop} : ∀{t : KasT α}, Kr lt n t Q -> (∀ a, Q a -> Q' a) -> Kr lt n t Q'
 |.ret _, h, k => k _ h
 |.ask i j f, h, k => ⟨h.1, h.2.1, Kr.mono (t := f (lt i j)) h.2.2 k⟩
theorem Kr.bind{α β : Type}{lt : Ag -> Ag -> An}{n : Ag}{f : α -> KasT β}{Q : β -> Prop} : ∀{t : KasT α}, Kr lt n t (fun a => Kr lt n (f a) Q) -> Kr lt n (t.bind f) Q
 |.ret _, h => h
 |.ask i j k, h => ⟨h.1, h.2.1, Kr.bind (t := k (lt i j)) h.2.2⟩
structure Sto (lt : Ag -> Ag -> An) (n : Ag) : Prop where
 tr : ∀ i j k, i<n -> j<n -> k<n -> lt i j = Ac -> lt j k = Ac -> lt i k = Ac
 tot : ∀ i j, i<n -> j<n -> i ≠ j -> lt i j = Ad -> lt j i = Ac
 asy : ∀ i j, i<n -> j<n -> lt i j = Ac -> lt j i = Ad
noncomputable def at0(p : A4 Ag)(x : Ag) : Ag := p.getD x 0
structure Pm (n : Ag) (p : A4 Ag) : Prop where
 sz : p.size = n
 lt : ∀ x, x<n -> at0 p x<n
 inj : ∀ x y, x<n -> y<n -> at0 p x = at0 p y -> x = y
section
variable{lt : Ag -> Ag -> An}{n : Ag}
noncomputable def JJ(lt : Ag -> Ag -> An)(p : A4 Ag)(m : Ag) : Prop := ∀ x y, x<y -> y<m -> lt (at0 p x) (at0 p y) = Ac
noncomputable def JN(lt : Ag -> Ag -> An)(p : A4 Ag)(m : Ag) : Prop := ∀ x y, x<y -> y<m -> lt (at0 p y) (at0 p x) = Ac
theorem JJ.succ(S : Sto lt n)(hp : Pm n p)(h1 : 1 <= m)(hm : m<n)(h : JJ lt p m)(e : lt (at0 p (m-1)) (at0 p m) = Ac) : JJ lt p (m+1) := fun x y hxy hy => by
 by_cases hym : y<m
 ·exact h x y hxy hym
 ·have : y = m := by omega
  subst this;by_cases hx : x = y-1
  ·rw[hx];exact e
  ·exact S.tr _ _ _ (hp.lt _ (by omega)) (hp.lt _ (by omega)) (hp.lt _ hm) (h x (y-1) (by omega) (by omega)) e
theorem JN.succ(S : Sto lt n)(hp : Pm n p)(h1 : 1 <= m)(hm : m<n)(h : JN lt p m)(e : lt (at0 p m) (at0 p (m-1)) = Ac) : JN lt p (m+1) := fun x y hxy hy => by
 by_cases hym : y<m
 ·exact h x y hxy hym
 ·have : y = m := by omega
  subst this;by_cases hx : x = y-1
  ·rw[hx];exact e
  ·exact S.tr _ _ _ (hp.lt _ hm) (hp.lt _ (by omega)) (hp.lt _ (by omega)) e (h x (y-1) (by omega) (by omega))
end
section
variable{prog : Az}{w : AF}{A : AI}{E : Ah -> Ak -> Prop}{κ : SortKind}{it : A4 Keyed}
end
section
variable{lt : Ag -> Ag -> An}{n : Ag}
end
noncomputable def IW(h : AB)(v : Ah)(r : Ab Ae) : Prop := ∃ a its, v = .ref a /\ F0 h a its /\ ES its.toList r /\ r ≠ []
theorem IW.kept{h h':AB}{v:Ah}{r:Ab Ae}(t : IW h v r)(k : ∀ b o, h.get? b = Aa o -> h'.get? b = Aa o) : IW h' v r := by
 obtain⟨a, its, e, ⟨o, ho, q⟩, i, n⟩ := t;exact⟨a, its, e, ⟨o, k _ _ ho, q⟩, i, n⟩
section
variable{prog : Az}{w : AF}{A : AI}{E : Ah -> Ak -> Prop}{s : Ak}
end
end Ov
namespace Ov
open PySem PySem.Spec PyProof.Rows L2
variable{ex fs:Ab Ai}{h h1 h2 h':AB}{P:Az}{w:AF}{H:Hp}{a T':Ai}{oe:Ay}{vs:A4 Ah}{Q:FJ -> Ak -> Prop}{a0:Ah}{X:Cx}{pI:Ab (Ai × Ay)}{σ:L2.St}{s:Ak}
section
variable{X : Cx}{CL : ClA}{W : XW}
end
section
variable{X : Cx}
variable{CL : ClA}{W : XW}{pos p pos' p' : AH}{a : Ao}{fa : Rho -> R D}
end
section
end
section
variable{X : Cx}
variable{CL : ClA}{W : XW}{o e : Ao}{fe : Rho -> R D}{i : Ag}{apos cpos pos : AH}
end
section
open PySem.AutoSeq1 (wpAny_loadPart')
end
section
variable{prog : Az}{w : AF}{A : AI}{R : F1 -> Ak -> Prop}{I S T : Ai}{u v : Ah}{c : Ag}{P : Ag -> Ah -> Prop}{St : Ag -> AB -> Prop}{s : Ak}{r q : Ab Ae}
end
section
variable{X : Cx}{CL : ClA}{W : XW}
end
noncomputable def HP(e T : Ai)(cls : Ah)(dx : Al Ai)(fl : Ah)(h : AB) : Prop := ∃ oe vs oT ts a0, h.get? e = Aa oe /\ oe.cls = cls /\ oe.dict = dx /\ vs[0]? = Aa a0 /\ oe.data = .fields vs /\ vs[1]? = Aa (.ref T) /\ T ≠ e /\ h.get? T = Aa oT /\ oT.data = .fields ts /\ ts[3]? = Aa fl
noncomputable abbrev Fly(e T : Ai)(cls : Ah)(dx : Al Ai)(h : AB) : Prop := HP e T cls dx CC h
noncomputable def Vu(C : Ai)(dx : Al Ai)(t : Ai) : Ay := {cls := .ref C, dict := dx, data := .fields #[.ref t, .none, .none, .none, .bool Ad, .none]}
structure Shift (ex fs : Ab Ai) (h h' : AB) : Prop where
 keep : ∀ b o, h.get? b = Aa o -> b ∉ ex -> b ∉ fs -> h'.get? b = Aa o
 slot : ∀ b o, h.get? b = Aa o -> b ∈ fs -> ∃ sl, h'.get? b = Aa {o with slots := sl}
theorem Shift.trans(a : Shift ex fs h h1)(b : Shift ex fs h1 h2) : Shift ex fs h h2:=
 ⟨fun c o q n m => b.keep c o (a.keep c o q n m) n m, fun c o q m => by
  obtain⟨sl, e1⟩ := a.slot c o q m;obtain⟨sl', e2⟩ := b.slot c _ e1 m;exact⟨sl', e2⟩⟩
theorem ObjOk.isThere : ∀(o : HO), L2.ObjOk P w H h a o -> ∃ ob, h.get? a = Aa ob
 |.lst _, x => by obtain⟨_, _, _, _, e⟩ := x;exact⟨_, e⟩
 |.tup _, x => by obtain⟨_, _, _, p⟩ := x;obtain⟨o, e, _⟩ := p;exact⟨_, e⟩
 |.dK _, x => by obtain⟨_, _, _, _, o, _, _, e, _⟩ := x;exact⟨_, e⟩
 |.dT _, x => by obtain⟨_, _, _, _, o, _, _, e, _⟩ := x;exact⟨_, e⟩
 |.set _ _, x => by obtain⟨o, _, _, _, e, _⟩ := x;exact⟨_, e⟩
 |.ins _ _ _, x => by obtain⟨_, _, _, e, _⟩ := x;exact⟨_, e⟩
 |.own _, x => x
 |.xd _, x => by obtain⟨_, ⟨_, _, _, e, _⟩, _⟩ := x;exact⟨_, e⟩
 |.met _ _, x => ⟨_, x⟩
 |.rng _ _, x => by obtain⟨_, _, _, e⟩ := x;exact⟨_, e⟩
 |.frz _ _, x => ⟨_, x.1⟩
 |.tbl _, x => ⟨_, x⟩
 |.ext _, x => x.2.1
theorem K3(x : HOk P w H h)(e : h.get? a = Af) : H a = Af := by
 cases q : H a with
 |none => rfl
 |some o=>
  obtain⟨ob, z⟩ := ObjOk.isThere o (x a o q);rw[e]at z;cases z
theorem HOk.shift(x : HOk P w H h)(sh : Shift ex fs h h')(h1 : ∀ b ∈ ex, H b = Af)(h2 : ∀ b ∈ fs, H b = Af) : HOk P w H h' := fun a o e=>
 (x a o e).stay (fun b u hb q => by
  have hs : ∃ v, H b = Aa v := by
   rcases hb with rfl|hb
   ·exact⟨_, e⟩
   ·exact⟨_, hb⟩
  obtain⟨v, hv⟩ := hs;exact sh.keep b u q (fun z => by rw[h1 b z]at hv;cases hv) (fun z => by rw[h2 b z]at hv;cases hv)) (fun _ q => q) fun _ _ q => q
theorem Un.shift{fs0 fs ex : Ab Ai}{H':Hp}{h0:AB}(u : Un fs0 [] H H' h0 h)(sh : Shift ex fs h h')(h1 : ∀ b ∈ ex, h0.get? b = Af)(h2 : ∀ b ∈ fs, b ∈ fs0 \/ h0.get? b = Af) : Un fs0 [] H H' h0 h' where
 keep := fun b o q n hb hx => sh.keep b o (u.keep b o q n hb hx) (fun z => by rw[h1 b z]at q;cases q) fun z => (h2 b z).elim hb fun e => by rw[e]at q;cases q
 slot := fun b o q n hb hx => by
  obtain⟨sl, e1⟩ := u.slot b o q n hb hx;by_cases hf : b ∈ fs
  ·obtain⟨sl', e2⟩ := sh.slot b _ e1 hf;exact⟨sl', e2⟩
  ·exact⟨sl, sh.keep b _ e1 (fun z => by rw[h1 b z]at q;cases q) hf⟩
 free := u.free
 there := fun b o q hx => by
  obtain⟨o', e1⟩ := u.there b o q hx;by_cases hf : b ∈ fs
  ·obtain⟨sl', e2⟩ := sh.slot b _ e1 hf;exact⟨_, e2⟩
  ·exact⟨o', sh.keep b _ e1 (fun z => by rw[h1 b z]at q;cases q) hf⟩
 tups := u.tups
 frzs := u.frzs
 tbls := u.tbls
theorem Qq(f : A4 Ah -> A4 Ah)(o : Ay) : (Do f o).dict = o.dict := by
 obtain⟨c, d, dt, sl⟩ := o;cases dt <;> rfl
section
variable{M : FC}{A : AI}{E : Ah -> Ak -> Prop}{s : Ak}{env : BD}{outer : Ab BD}{L e T : Ai}{cls : Ah}{dx : Al Ai}{base h : AB}
theorem KF{hd:Ah}{nx:An}(hfr : A.frames = Aa (env::outer))(hf : env.frame = Aa L)(ff : s.heap.FunFrames base (env::outer))(he : s.heap.get? e = Aa oe)(dt : oe.data = .fields vs)(hz : 1<vs.size)(hQ : ∀ h' T' oT ts, h'.get? e = Aa (Do (·.setIfInBounds 1 (.ref T')) oe) -> T' ≠ e -> s.heap.get? T' = Af -> h'.get? T' = Aa oT -> oT.data = .fields ts -> ts[3]? = Aa (D1 L) -> Shift [e] (frs (env::outer)) s.heap h' -> Q () {s with heap := h'}):
  AD M A (do
   let fr <-frameOf env
   let pl <-entryPlaceOf L nx
   let en <-NG hd fr .none (D1 L) .none pl
   setField (.ref e) 1 en) Q E s := by
 have nf : e ∉ frs (env::outer) := fun z => by
  obtain⟨_, o, q, n⟩ := ff.mem z;rw[he]at q;cases q;exact n vs dt
 refine As (wpAny_frameOf_fun hfr ff hf fun k1 so => As (wpAny_entryPlaceOf fun pl ip => ?_))
 obtain⟨sz, sm, sl⟩ := so;have e1 : k1.get? e = Aa oe := (sm e nf).trans he;unfold NG;unfold newFields;refine As (Cm ?_ (ip.sizeOk5 _ _ _ _ _));generalize hX : ({ cls := .type "traceback", dict := Af, data := .fields ([hd, .ref L, .none, D1 L, .none]++(if pl.isEmpty then DS 6 CC else pl)).toArray } : Ay) = ob
 have od : ob.data = .fields ([hd, .ref L, .none, D1 L, .none]++(if pl.isEmpty then DS 6 CC else pl)).toArray := by rw[<-hX]
 have nl : k1.objs.size ≠ e := Nu (Aw e1);have e2 := Ax ob e1;refine EX e2 dt hz ?_;have up : ∀ b, b ≠ e -> ((k1.push ob).update e (Do (·.setIfInBounds 1 (.ref k1.objs.size)))).get? b = (k1.push ob).get? b := fun b nb => BQ _ _ (C9 nb)
 have lf : ob.isFreed = Ad := by rw[<-hX];rfl
 refine hQ _ k1.objs.size ob _ (CI _ e2 (Dz (CB dt _))) nl ?_ ((up _ nl).trans (A9 k1 lf)) od ?_ ⟨fun b o q n1 n2 => ?_, fun b o q hb => ?_⟩
 ·rw[sz];exact DH (AG _)
 ·simp
 ·have nb : b ≠ e := fun z => n1 (by rw[z];exact At)
  rw[up b nb];exact Ax ob ((sm b n2).trans q)
 ·obtain⟨sl', q'⟩ := sl b o q;have nb : b ≠ e := fun z => nf (z ▸ hb)
  exact⟨sl', (up b nb).trans (Ax ob q')⟩
theorem Ko{oT:Ay}{ts:A4 Ah}{fl:Ah}(hc : oe.cls = cls)(hx : oe.dict = dx)(h0 : vs[0]? = Aa a0)(dt : oe.data = .fields vs)(hz : 1<vs.size)(g : h'.get? e = Aa (Do (·.setIfInBounds 1 (.ref T')) oe))(ne : T' ≠ e)(gT : h'.get? T' = Aa oT)(dT : oT.data = .fields ts)(f3 : ts[3]? = Aa fl) : HP e T' cls dx fl h':=
 ⟨_, _, oT, ts, a0, g, (Obj.cls_mapFields _ _).trans hc, (Qq _ _).trans hx, by rw[Array.getElem?_setIfInBounds_ne (by decide)];exact h0, CB dt _, by simp[hz], ne, gT, dT, f3⟩
theorem F6{i:Ag}{v:Ah}(q : vs[i]? = Aa v) : i<vs.size := (Array.getElem?_eq_some_iff.mp q).1
theorem Pb(hfr : A.frames = Aa (env::outer))(hf : env.frame = Aa L)(ff : s.heap.FunFrames base (env::outer))(fl : Fly e T cls dx s.heap)(hQ : ∀ h' T', HP e T' cls dx (D1 L) h' -> Shift [e, T] (frs (env::outer)) s.heap h' -> s.heap.get? T' = Af -> Q () {s with heap := h'}) : AD M A (Fp (.ref e) env) Q E s := by
 obtain⟨oe, vs, oT, ts, a0, he, hc, hx, h0, dt, h1, ne, hT, dT, h3⟩ := fl;have z3 := F6 h3;unfold Fp;simp only[hf];refine As (CW he dt h1 ?_);rw[AE (by simp : (Fl T != CC) = Ac)]
 refine As (CW hT dT h3 ?_);rw[AJ (by simp[D1] : ¬ (CC==D1 L) = Ac)]
 refine As (EX hT dT z3 ?_);have up : ∀ b, b ≠ T -> (s.heap.update T (Do (·.setIfInBounds 3 CC))).get? b = s.heap.get? b := fun b nb => BQ _ _ (C9 nb)
 have rcd : ∀ b o, s.heap.get? b = Aa o -> (∀ us, o.data ≠ .fields us) -> b ≠ T := fun b o q n z => by
  rw[z, hT]at q;cases q;exact n ts dT
 refine KF (base := base) hfr hf (ff.of_keeps fun b o q n => ⟨o, (up b (rcd b o q n)).trans q, rfl⟩) ((up e (C9 ne)).trans he) dt (F6 h1) fun h' T' oT' ts' g nT gn gT dT' f3 sh => ?_
 have T0 : s.heap.get? T' = Af := by
  by_cases z : T' = T
  ·rw[z]at gn;rw[CI _ hT (Dz (CB dT _))]at gn;cases gn
  ·rw[<-up T' z];exact gn
 refine hQ h' T' (Ko hc hx h0 dt (F6 h1) g nT gT dT' f3) ⟨fun b o q n1 n2 => ?_, fun b o q hb => ?_⟩ T0
 ·simp only[AK, Nn, or_false, G8]at n1;exact sh.keep b o ((up b n1.2).trans q) (by simp[n1.1]) n2
 ·obtain⟨_, o', q', n⟩ := ff.mem hb;rw[q]at q';cases q';exact sh.slot b o ((up b (rcd b o q n)).trans q) hb
theorem Lb{fv:Ah}(fl : HP e T cls dx fv s.heap)(hQ : ∀ h', Fly e T cls dx h' -> (∀ b o, b ≠ T -> s.heap.get? b = Aa o -> h'.get? b = Aa o) -> Q () {s with heap := h'}) : AD M A (setFlight (.ref e) Af) Q E s := by
 obtain⟨oe, vs, oT, ts, a0, he, hc, hx, h0, dt, h1, ne, hT, dT, h3⟩ := fl;have z3 := F6 h3;unfold setFlight;refine As (CW he dt h1 ?_);rw[AE (by simp : (Fl T != CC) = Ac)]
 refine EX hT dT z3 (hQ _ ?_ fun b o nb q => (BQ _ _ (C9 nb)).trans q)
 exact⟨oe, vs, _, _, a0, (BQ _ _ ne).trans he, hc, hx, h0, dt, h1, ne, CI _ hT (Dz (CB dT _)), CB dT _, by simp[z3]⟩
theorem KA(ff : s.heap.FunFrames base (env::outer))(sh : Shift ex (frs (env::outer)) s.heap h1)(hT : s.heap.get? T' = Af)(k : ∀ b o, b ≠ T' -> h1.get? b = Aa o -> h2.get? b = Aa o) : Shift ex (frs (env::outer)) s.heap h2:=
 ⟨fun b o q n1 n2 => k b o (fun z => by rw[z, hT]at q;cases q) (sh.keep b o q n1 n2), fun b o q hb => let ⟨sl, q'⟩ := sh.slot b o q hb;⟨sl, k b _ (fun z => by rw[z, hT]at q;cases q) q'⟩⟩
theorem OH(hfr : A.frames = Aa (env::outer))(hf : env.frame = Aa L)(ff : s.heap.FunFrames base (env::outer))(fl : Fly e T cls dx s.heap)(hQ : ∀ h' T', Fly e T' cls dx h' -> Shift [e, T] (frs (env::outer)) s.heap h' -> (T' = T \/ s.heap.get? T' = Af) -> Q () {s with heap := h'}) : AD M A (leaving env (.ref e)) Q E s := by
 unfold leaving;exact As (Pb hfr hf ff fl fun h1 T' f1 sh hT => Lb f1 fun h2 f2 k => hQ h2 T' f2 (KA ff sh hT k) (.inr hT))
theorem Os(hfr : A.frames = Aa (env::outer))(hf : env.frame = Aa L)(ff : s.heap.FunFrames base (env::outer))(he : s.heap.get? e = Aa oe)(hc : oe.cls = cls)(hx : oe.dict = dx)(dt : oe.data = .fields vs)(h0 : vs[0]? = Aa a0)(h1 : vs[1]? = Aa .none)(hQ : ∀ h' T', Fly e T' cls dx h' -> Shift [e] (frs (env::outer)) s.heap h' -> s.heap.get? T' = Af -> Q () {s with heap := h'}) : AD M A (leaving env (.ref e)) Q E s := by
 unfold leaving Fp;simp only[hf];refine As (As (CW he dt h1 ?_));rw[AJ (by decide)]
 exact KF (base := base) hfr hf ff he dt (F6 h1) fun h' T' oT ts g nT gn gT dT f3 sh => Lb (Ko hc hx h0 dt (F6 h1) g nT gT dT f3) fun h2 f2 k => hQ h2 T' f2 (KA ff sh gn k) gn
end
noncomputable def CXR(P : Az)(w : AF) : CXT := fun outer H s E ev s' => ∃ e T cls dx H', ev = .ref e /\ s'.os = s.os /\ Da s'.gens /\ Un (frs outer) [] H H' s.heap s'.heap /\ HOk P w H' s'.heap /\ Fly e T cls dx s'.heap /\ H' e = Af /\ H' T = Af /\ s.heap.get? e = Af /\ s.heap.get? T = Af /\ E cls dx H'
noncomputable def JK(X : Cx)(CL : ClA)(W : XW) : Prop := ∀ pI σ H s e C dx t x, Inv X pI σ H s -> (X.ex = [] -> X.s₀.heap.get? e = Af) -> H e = Af -> s.heap.get? e = Aa (Vu C dx t) -> Ez X.K CL H (.ref C) dx x -> W x H -> X.xe (.ref e) s
section
variable{P : Az}{w : AF}{K : Fg}{mg : Aj -> Al Ah}{base : AB}{N : Ab Aj}{qual : Aj}{scope : Br}{f : Ai}{cd : Ah}{A : AI}{outer : Ab BD}{s : Ak}{H : Hp}{E : XK}{CL : ClA}{W : XW}
theorem La(I : Inv X pI σ H s) : ∀ b ∈ frs X.stack, b ∈ X.fs \/ X.s₀.heap.get? b = Af := fun b hb => by
 rcases AK.mp (I.stkSub b hb) with z|z
 ·exact .inr (by rw[z];exact DH I.ok.above)
 ·exact .inl z
theorem Hm{b:Ai}(I : Inv X pI σ H s)(hx : X.ex = [])(h : s.heap.get? b = Af) : X.s₀.heap.get? b = Af := by
 cases q : X.s₀.heap.get? b with
 |none => rfl
 |some o=>
  obtain⟨o', z⟩ := I.base.there b o q (by rw[hx];simp)
  rw[h]at z;cases z
theorem UC(hE : ∀ x cls dx H', W x H' -> Ez K CL H' cls dx x -> E cls dx H') : ∀ A', Gg (CXR P w) (DX (CXR P w) P w K mg base N qual scope f cd A outer s H E) (EKW K CL A' W) := by
 intro A' pI σ H1 s1 ev s2 I h;obtain⟨e, T, cls, dx, H', rfl, os, bare, un, hok, fl, he, hT, ne, nT, x, xr, wx⟩ := h;have I' := I.call' (s' := s2) (ch := []) os un hok bare (fun b z => absurd z (by simp))
 have hb0 : Un (frs outer) [] H H' s.heap s2.heap := I'.base;show AD (model P w) (A.deeper (CT qual scope s.heap.objs.size f cd)) (leaving (CT qual scope s.heap.objs.size f cd) (.ref e)) _ _ s2;refine OH (L := s.heap.objs.size) I'.ok.frames rfl I'.stack fl fun h' T' fl' sh hT' => ?_
 have e0 : s.heap.get? e = Af := Hm I rfl ne;have T0 : s.heap.get? T = Af := Hm I rfl nT;refine⟨e, T', cls, dx, H', rfl, I'.os, bare, Un.shift hb0 sh ?_ (La I'), HOk.shift hok sh ?_ I'.stkFree, fl', he, ?_, e0, ?_, ?_⟩
 ·intro b hb;rcases AK.mp hb with rfl|hb
  ·exact e0
  ·rw[Bs.mp hb];exact T0
 ·intro b hb;rcases AK.mp hb with rfl|hb
  ·exact he
  ·rw[Bs.mp hb];exact hT
 ·rcases hT' with rfl|z
  ·exact hT
  ·exact K3 hok z
 ·rcases hT' with rfl|z
  ·exact T0
  ·exact Hm I' rfl z
 ·exact hE x cls dx H' wx xr
theorem rzR(hE : ∀ x cls dx H', W x H' -> Ez K CL H' cls dx x -> E cls dx H') : JK (DX (CXR P w) P w K mg base N qual scope f cd A outer s H E) CL W := by
 intro pI σ H1 s1 e C dx t x I e0 he ge xr hw;have hb0 : Un (frs outer) [] H H1 s.heap s1.heap := I.base;have e0' : s.heap.get? e = Af := e0 rfl;show AD (model P w) (A.deeper (CT qual scope s.heap.objs.size f cd)) (leaving (CT qual scope s.heap.objs.size f cd) (.ref e)) _ _ s1;refine Os (cls := .ref C) (dx := dx) (L := s.heap.objs.size) I.ok.frames rfl I.stack ge rfl rfl rfl (a0 := .ref t) rfl rfl fun h' T' fl' sh hT' => ?_
 have one : ∀{Z : Ai -> Prop}, Z e -> ∀ b ∈ [e], Z b := fun {Z} z b hb => by rw[Bs.mp hb];exact z
 exact⟨e, T', .ref C, dx, H1, rfl, I.os, I.bare, Un.shift hb0 sh (one e0') (La I), HOk.shift I.hok sh (one (Z := fun b => H1 b = Af) he) I.stkFree, fl', he, K3 I.hok hT', e0', Hm I rfl hT', hE x _ dx H1 hw xr⟩
theorem ownR : DA (model P w) (DX (CXR P w) P w K mg base N qual scope f cd A outer s H E).A (DX (CXR P w) P w K mg base N qual scope f cd A outer s H E).env (DX (CXR P w) P w K mg base N qual scope f cd A outer s H E).xe := PassesOwn.leaving
end
noncomputable def veB : Ab Ah := [.type "ValueError", .type "Exception", .type "BaseException", .type "object"]
noncomputable def Jz(K : Fg)(C : Ai)(v : Al Ah) : An := match K.lookup C with
  | some ⟨.type "type", _, .cls c, z⟩ => (match c.mro, z.toList with
    |.ref c0::tl, [_, _, _, _, Aa (.builtin nw), _] => c0==C&&(nw == "ValueError.__new__" && (!c.hasDel&&(PySem.W.tailIn K veB tl&&(PySem.W.nsOkIn K c.ns&&BJ K c.ns "__init__" == Aa v))))
    | _, _ => Ad)
  |_ => Ad
structure XcOk (K : Fg) (C : Ai) : Prop where
 exc : ∃ v, Jz K C v = Ac
 ga : CJ K (.ref C) "__getattribute__" = Aa (Aa (.builtin "BaseException.__getattribute__"))
 gt : CJ K (.ref C) "__getattr__" = Aa Af
 cl : CJ K (.ref C) "__class__" = Aa (Aa (.builtin "object.__class__"))
 ob : PySem.W.mroIn K C (.type "object") = Aa Ac
 be : NW K (.ref C) (.type "BaseException") = Aa Ac
 cs : (PySem.W.clsIn K C).isSome = Ac
 ve : NV K (.ref C) (.type "ValueError") = Aa Ac
section
variable{prog : Az}{w : AF}{A : AI}{E : Ah -> Ak -> Prop}{h : AB}{g : A4 Dq}{d : EZ}{t : Ag}{os : ET}{K : Fg}{e C : Ai}
end
noncomputable def Mi(X : Cx)(pI : Ab (Ai × Ay))(e : Ai) : Prop := e ≠ X.env.locals /\ (∀ x c, X.env.cells.lookup x = Aa c -> c ≠ e) /\ (∀ p ∈ X.pn++pI, p.1 ≠ e) /\ X.s₀.heap.get? e = Af
section
variable{X : Cx}{pI : Ab (Ai × Ay)}{σ : L2.St}{H : Hp}{s : Ak}{e : Ai}
end
noncomputable def Cx.hot(X : Cx)(e : Ai) : Cx := {X with A := X.A.mark (Aa (.ref e)), calm := Ad, xe := fun _ _ => AW}
section
variable{X : Cx}{pI : Ab (Ai × Ay)}{σ : L2.St}{H : Hp}{s : Ak}{e : Ai}
end
noncomputable def VC(X : Cx)(CL : ClA)(pI : Ab (Ai × Ay))(σ : L2.St)(H : Hp)(y : Ex)(Xw : Ah -> Ak -> Prop) : Prop:=
 ∀ s' H' e T cls dx, Inv X pI σ H' s' -> Ar H H' -> Fly e T cls dx s'.heap -> H' e = Af -> H' T = Af -> Mi X pI e -> Mi X pI T -> Ez X.K CL H' cls dx y -> Xw (.ref e) s'
noncomputable def STB(X : Cx)(CL : ClA)(body : Ab A7)(f : Rho -> O) : Prop := ∀ Fz B pI s σ H D ρ (Xw : Ah -> Ak -> Prop), DA (model X.prog X.w) X.A X.env Xw -> Inv X pI σ H s -> Sx X.K CL Fz B ρ σ H ->
  (match f ρ with
   |.exn y ρ' => ρ' = ρ -> VC X CL pI σ H y Xw
   | o => BK X.K CL Fz B (fun _ _ => AW) o D) -> (∀ y ρ', f ρ = .exn y ρ' -> ρ' = ρ) -> AD (model X.prog X.w) X.A (execs body X.env) (SP X pI D) Xw s
noncomputable def Cx.pw(X : Cx)(pI : Ab (Ai × Ay))(Xw : Ah -> Ak -> Prop) : Cx := {X with pn := X.pn++pI, xe := Xw}
section
variable{X : Cx}{pI pins' : Ab (Ai × Ay)}{σ : L2.St}{H : Hp}{s : Ak}{Xw : Ah -> Ak -> Prop}
end
section
variable{X : Cx}{CL : ClA}{k n : Ag}{fr : An}{f : Ai}{fd : Bp}{ps : Ab Aj}{F : Ab D -> R D}{x : Aj}{p pos pos2 : AH}{e : Ao}{es : Ab Ao}{fs ft : Rho -> R (Ab D)}{sh : Rho -> An}
variable(hx0 : X.ex = [])(G : FnOk X.prog X.w X.K X.mg X.base (CXR X.prog X.w) k f fd ps (spD X.K CL n fr F))(hr : Room k X.A)(hg : Gl X x)(hm : X.mg x = Aa (.ref f))
    (hk : B9 X.K (.ref f) = Ac) (hb : EC X.K fd ps []) (hst : ∀ ρ, sh ρ = Ac -> ft ρ = fs ρ) (hn : ∀ ρ ds, ft ρ = .ok ds -> ds.length = n) (hnx : ∀ ρ y, ft ρ ≠ .exn y)
    (hdb : (x==("__debug__" : Aj)) = Ad) (he : AC (e::es) X.env = (Ad, eval e X.env)::AC es X.env) (hpl : ∀ pos, (Ck pos (AC es X.env)).any (·.1) = Ad)
    (ha : ∀ pI Xw, DA (model X.prog X.w) X.A X.env Xw -> SA (Cx.pw X pI Xw) CL (fun _ _ => AW) (e::es) fs /\ SAT (Cx.pw X pI Xw) CL (fun _ _ => AW) (e::es) ft)
include hx0 G hr hg hm hk hb hst hn hnx hdb he hpl ha
end
section
variable{X : Cx}{CL : ClA}{W : XW}
noncomputable def TL(K : Fg)(CL : ClA)(up : Ag -> Ab Ag)(c' : Ag)(C' : Ai) : Prop := ∀ c C, CL c = Aa C -> NV K (.ref C) (.ref C') = Aa ((up c).contains c')
variable{a : Ao}{fa : Rho -> R D}{up : Ag -> Ab Ag}{x : Aj}{p p2 pos : AH}
end
end Ov
section
namespace Ov
open PySem PySem.Spec PyProof.Rows L2
end Ov
end
namespace Ov
open PySem PySem.Spec PyProof.Rows L2
variable{α:Type}{x qual n x0 x1:Aj}{X:Cx}{CL:ClA}{fr:An}{pos p:AH}{xs ys:Ab Ao}{env:BD}{y:Ao}{l m id:Ag}{scope:Br}{ts:Ab Ag}{H:Hp}{as:Es}{vs:Ab V}{fd:Bp}{h:AB}
noncomputable abbrev VY : CXT := fun _ _ _ _ _ _ => AW
structure HotOk (P : Az) (w : AF) (K : Fg) (mg : Aj -> Al Ah) (base : AB) (k : Ag) (f : Ai) (fd : Bp) (ps : Ab Aj) (sp : Sp) : Prop where
 len : ∀ vs H Q E, sp vs H Q E -> vs.length = ps.length
 run : ∀(A : AI)(ev : Ai)(outer : Ab BD)(s : Ak)(H : Hp)(args : Args)(us : Ab Ah)(vs : Ab V)(Q : VK)(E : XK), Room k A -> Env0 P w K mg base (A.mark (Aa (.ref ev))) outer s H -> Eh s fd args (ps.zip us) -> AN vs us -> sp vs H Q E ->
  DU (model P w) (A.mark (Aa (.ref ev))) (.call (.ref f) args) (CR VY outer P w H s Q E) s
noncomputable def spH(K : Fg)(CL : ClA)(n : Ag)(fr : An)(F : Ab D -> R D) : Sp := fun vs H Q _ => ∃(ds : Ab D)(A : Ai -> Prop), vs.length = n /\ AOk H A /\ Reps K CL H A vs ds /\ (match F ds with
  |.ok d => ∀ v H', Ar H H' -> CM K CL fr H A H' v d -> Q v H'
  |.exn _ => AW
  | .bad => AW)
section
variable{X : Cx}{CL : ClA}{ev : Ai}
end
section
variable{M : FC}{A : AI}{E : Ah -> Ak -> Prop}{s : Ak}{env : BD}{nm q : Aj}{C N : Ai}{bs bm bmB : Ab Ah}{hdct : An}{sn : Ab Aj}{sub : Ab Ah}{ab : An}{col : Al An}{dd : Al Ai}{k0 k1 k2 k3 k5 : Al Ah}{B newId initId : Cc}
end
section
variable{prog : Az}{w : AF}{A : AI}{E : Ah -> Ak -> Prop}{h : AB}{g : A4 Dq}{d : EZ}{t : Ag}{os : ET}
variable{nm q : Aj}{C N fI : Ai}{bs bm bmB : Ab Ah}{hdct : An}{sn : Ab Aj}{sub : Ab Ah}{ab : An}{col : Al An}{dd : Al Ai}{k0 k1 k2 k3 k5 : Al Ah}{B newId initId : Cc}{mN : Aj -> Al Ah}{rest : Ab Ah}{oI : Ay}
end
section
variable{prog : Az}{w : AF}{A : AI}{E : Ah -> Ak -> Prop}{s : Ak}{env : BD}
variable{nm q : Aj}{C N fI : Ai}{bs bm bmB : Ab Ah}{hdct : An}{sn : Ab Aj}{sub : Ab Ah}{ab : An}{col : Al An}{dd : Al Ai}{k0 k1 k2 k3 k5 : Al Ah}{B newId initId : Cc}{mN : Aj -> Al Ah}
end
section
variable{prog : Az}{w : AF}{A : AI}{E : Ah -> Ak -> Prop}{h : AB}{g : A4 Dq}{d : EZ}{tk0 : Ag}{os : ET}
variable{nm q : Aj}{C N e t : Ai}{dx : Al Ai}{bs bm bmB : Ab Ah}{hdct : An}{sn : Ab Aj}{sub : Ab Ah}{ab : An}{col : Al An}{dd : Al Ai}{k0 k1 k2 k3 k5 : Al Ah}{B newId initId : Cc}
end
section
variable{X : Cx}{CL : ClA}{pI : Ab (Ai × Ay)}{σ : L2.St}{H : Hp}{s : Ak}
end
section
variable{X : Cx}{CL : ClA}
end
section
variable{X : Cx}{CL : ClA}{C : Ai}{nm q : Aj}{N : Ai}{bs bm : Ab Ah}{hdct : An}{sn : Ab Aj}{sub : Ab Ah}{ab : An}{col : Al An}{dd : Al Ai}{k0 k1 k2 k3 k5 : Al Ah}
end
section
variable{prog : Az}{w : AF}{A : AI}{E : Ah -> Ak -> Prop}{h : AB}{g : A4 Dq}{d : EZ}{tk0 : Ag}{os : ET}{K : Fg}
variable{nm q : Aj}{C N e t : Ai}{bs bm bmB : Ab Ah}{sn : Ab Aj}{sub : Ab Ah}{ab : An}{col : Al An}{dd : Al Ai}{k0 k1 k2 k3 k5 : Al Ah}{B newId sa owner : Cc}
end
section
variable{prog : Az}{w : AF}{A : AI}{E : Ah -> Ak -> Prop}{h : AB}{g : A4 Dq}{d : EZ}{tk0 : Ag}{os : ET}{K : Fg}
variable{nm q : Aj}{C N e t : Ai}{bs bm bmB : Ab Ah}{sn : Ab Aj}{sub : Ab Ah}{ab : An}{col : Al An}{dd : Al Ai}{k0 k1 k2 k3 k5 : Al Ah}{B newId sa owner : Cc}
end
section
variable{X : Cx}{pI : Ab (Ai × Ay)}{σ : L2.St}{H : Hp}{s : Ak}{e : Ai}
end
section
variable{X : Cx}{C : Ai}{nm q : Aj}{N : Ai}{bs bm : Ab Ah}{sn : Ab Aj}{sub : Ab Ah}{ab : An}{col : Al An}{dd : Al Ai}{k0 k1 k2 k3 k5 : Al Ah}
end
noncomputable def MB(K : Fg)(C : Ai) : An := match K.lookup C with
  |some ⟨_, _, .cls c, _⟩ => c.hasDict
  |_ => Ad
noncomputable def Wa(g par f z : Aj)(k : Ag)(np apos p1 p2 p3 p4 p5 cpos p6 p7 p8 p9 p10 : AH) : Ab A7:=
 [.Expr (.Call (.Attribute (.Name g np) "__init__" apos) [.Name "self" p1, .JoinedStr [.FormattedValue (.Name par p2) (-1) Af p3, .Constant (.str z) k p4] p5] [] cpos) p6, .Assign [.Attribute (.Name "self" p7) f p8] (.Name par p9) p10]
inductive XIn (K : Fg) (mg : Aj -> Al Ah) (C : Ai) (f : Aj) : Prop
 |mk {fI OV : Ai} {x qual g par z : Aj} {st : A7} {fd : Bp} {k : Ag} {np apos p1 p2 p3 p4 p5 cpos p6 p7 p8 p9 p10 : AH} (xc : Jz K C (Aa (.ref fI)) = Ac) (dc : MB K C = Ac) (fn : Fun K x qual st fI fd) (ty : PySem.W.typeIn K (.ref fI) = Aa (.type "function"))
  (S : FnScope ["self", par] ["self", par] (C8 st)) (l1 : (C8 st).names.lookup ("self" : Aj) = Aa .local) (l2 : (C8 st).names.lookup par = Aa .local) (bd : EC K fd ["self", par] []) (body : Eu st = Wa g par f z k np apos p1 p2 p3 p4 p5 cpos p6 p7 p8 p9 p10)
  (gl : (C8 st).names.lookup g = Aa .globalImplicit) (mo : mg g = Aa (.ref OV)) (dg : (g==("__debug__" : Aj)) = Ad) (dp : (par==("__debug__" : Aj)) = Ad) (dq : (par==("__classdict__" : Aj)) = Ad)
  (s1 : PySem.W.specialIn K (.ref OV) "__getattribute__" = Aa (Aa (.builtin "type.__getattribute__"))) (s2 : PySem.W.readsIn K OV (.type "type") = Ac) (s3 : PySem.W.findCls K (.ref OV) (.type "type") "__init__" = Aa (.val (.builtin "ValueError.__init__")))
  (hl : (apos.endLine==cpos.line) = Ac) (hz : z.length <= 1000) (hf : CJ K (.ref C) f = Aa Af) (hs : CJ K (.ref C) "__setattr__" = Aa (Aa (.builtin "object.__setattr__"))) : XIn K mg C f
section
variable{P : Az}{w : AF}{K : Fg}{mg : Aj -> Al Ah}{base : AB}{CL : ClA}{C fI OV : Ai}{x qual g par z f : Aj}{st : A7}{fd : Bp}{k : Ag}{np apos p1 p2 p3 p4 p5 cpos p6 p7 p8 p9 p10 : AH}
variable{nm q : Aj}{N : Ai}{bs bm : Ab Ah}{sn : Ab Aj}{sub : Ab Ah}{ab : An}{col : Al An}{dd : Al Ai}{k0 k1 k2 k3 k5 : Al Ah}
end
section
variable{X : Cx}{CL : ClA}{W : XW}
noncomputable def VD(xn : Ag -> Ab D -> R Ex)(c : Ag)(f : Aj)(ds : Ab D) : Prop := ∃ d n, ds = [d] /\ xfD (n+1) d = Ac /\ n <= 1 /\ xn c ds = .ok ⟨c, [(f, d)]⟩
end
section
variable{prog : Az}{w : AF}{A : AI}{E : Ah -> Ak -> Prop}{h : AB}{g : A4 Dq}{d : EZ}{t : Ag}{os : ET}{K : Fg}{e C dx : Ai}{f : Aj}{mA : Aj -> Al Ah}{v : Ah}
end
section
variable{X : Cx}{CL : ClA}{W : XW}{K : Fg}{H : Hp}{A : Ai -> Prop}
end
structure Tc where
 sc : Br
 N : Ab Aj
 /-- a def's name, its number, how many parameters it has -/
 fns : Ab (Aj × Ag × Ag)
 /-- built-in names that the text does not hide -/
 bl : Ab Aj
 /-- exceptions' classes by their names: those that are raised, all that are asked for -/
 rzs : Ab (Aj × Ag)
 exs : Ab (Aj × Ag)
 /-- the text's constants -/
 gls : Ab (Aj × Ag)
noncomputable def JB(T : Tc)(x : Aj) : An := match T.sc.names.lookup x with
  |some .local => Ac
  |some .cell => Ac
  |some .free => Ac
  |_ => Ad
noncomputable def FW(T : Tc)(x : Aj) : An := match T.sc.names.lookup x with
  |some .local => Ac
  |some .cell => Ac
  |_ => Ad
noncomputable def glB(T : Tc)(x : Aj) : An := T.sc.names.lookup x==Aa .globalImplicit
noncomputable def Mr : Ao -> Al (Aj × AH)
 |.Name x p => Aa (x, p)
 |_ => Af
theorem Ql{e : Ao}{t : Aj × AH}(h : Mr e = Aa t) : e = .Name t.1 t.2 := by
 cases e with
 |Name x p => cases h;rfl
 |_ => exact nomatch (show Af = Aa t from h)
noncomputable def Mt : Ao -> Al (Ao × Ab Ao × AH)
  | .Call f as ks p => (match ks with
    |[] => Aa (f, as, p)
    | _ => Af)
  |_ => Af
theorem Qn{e : Ao}{t : Ao × Ab Ao × AH}(h : Mt e = Aa t) : e = .Call t.1 t.2.1 [] t.2.2 := by
 cases e with
 |Call f as ks p=>
  cases ks with
  |nil => cases h;rfl
  |cons => exact nomatch (show Af = Aa t from h)
 |_ => exact nomatch (show Af = Aa t from h)
noncomputable def MC{α : Type} : Ab α -> Al (α × α)
 |[a, b] => Aa (a, b)
 |_ => Af
theorem Qk{l : Ab α}{t : α × α}(h : MC l = Aa t) : l = [t.1, t.2] := by
 cases l with
 |nil => exact nomatch (show Af = Aa t from h)
 |cons a l=>
  cases l with
  |nil => exact nomatch (show Af = Aa t from h)
  |cons b l=>
   cases l with
   |nil => cases h;rfl
   |cons => exact nomatch (show Af = Aa t from h)
noncomputable def Mu : Ao -> Al (Ao × Aj × AH)
 |.Attribute o m p => Aa (o, m, p)
 |_ => Af
theorem Qo{e : Ao}{t : Ao × Aj × AH}(h : Mu e = Aa t) : e = .Attribute t.1 t.2.1 t.2.2 := by
 cases e with
 |Attribute o m p => cases h;rfl
 |_ => exact nomatch (show Af = Aa t from h)
noncomputable def xMt(e : Ao) : Al (Aj × Aj × Ao × Ao) := (Mt e).bind fun c => (Mu c.1).bind fun a => (Mr a.1).bind fun x => (MC c.2.1).bind fun ab => if a.2.2.endLine = c.2.2.line then Aa (x.1, a.2.1, ab.1, ab.2) else Af
theorem Ls{e y v : Ao}{m:Aj}(h : xMt e = Aa (x, m, y, v)) : ∃ p ap cp, e = .Call (.Attribute (.Name x p) m ap) [y, v] [] cp /\ ap.endLine = cp.line := by
 obtain⟨c, e1, h⟩ := Cu.mp h;obtain⟨a, e2, h⟩ := Cu.mp h;obtain⟨x', e3, h⟩ := Cu.mp h;obtain⟨ab, e4, h⟩ := Cu.mp h;by_cases hl : a.2.2.endLine = c.2.2.line
 ·rw[AE hl]at h;cases h;rw[Qn e1, Qo e2, Ql e3, Qk e4];exact⟨_, _, _, rfl, hl⟩
 ·rw[AJ hl]at h;cases h
noncomputable def Ms : Ao -> An
 |.Dict ks vs _ => ks.isEmpty&&vs.isEmpty
 |_ => Ad
theorem Qm{e : Ao}(h : Ms e = Ac) : ∃ p, e = .Dict [] [] p := by
 cases e with
 |Dict ks vs p=>
  cases ks with
  |nil=>
   cases vs with
   |nil => exact⟨p, rfl⟩
   |cons => exact nomatch (show Ad = Ac from h)
  |cons => exact nomatch (show Ad = Ac from h)
 |_ => exact nomatch (show Ad = Ac from h)
noncomputable def G3(x : Aj) : An := !(x==("__debug__" : Aj)) && !(x==("__classdict__" : Aj)) && !(x==("__name__" : Aj))
noncomputable def isV(T : Tc)(x : Aj)(i : Ag) : An := T.N[i]? == Aa x&&JB T x&&G3 x
noncomputable def isB(T : Tc)(x : Aj) : An := T.bl.contains x&&glB T x&&G3 x
noncomputable def CP : Ao -> An
 |.Starred _ _ => Ad
 |_ => Ac
noncomputable def Hr : Ao -> An
 |.Slice _ _ _ _ => Ad
 |_ => Ac
noncomputable def HA : Ao -> An
 |.Set _ _ _ => Ad
 |_ => Ac
noncomputable def Gi : Ao -> An
 |.ListComp _ _ _ _ => Ad
 |.SetComp _ _ _ _ => Ad
 |.DictComp _ _ _ _ _ => Ad
 |_ => Ac
noncomputable def Mx(tu : An) : Ao -> An
 |.Tuple .. => tu
 |.Name .. => !tu
 |_ => Ad
noncomputable def Uw : Ao -> An
 |.Tuple _ _ _ => Ac
 |_ => Ad
noncomputable def IG : Ao -> An
 |.UnaryOp _ _ _ => Ad
 |.BoolOp _ _ _ => Ad
 |.IfExp _ _ _ _ => Ad
 |.Compare _ _ _ _ => Ad
 |_ => Ac
noncomputable def Jn : Ki -> Al Aj
 |.int => Aa "int"
 |.bool => Aa "bool"
 |.str => Aa "str"
 |.list => Aa "list"
 |.tuple => Aa "tuple"
 |_ => Af
noncomputable def Jo : BI -> Al Aj
 |.len => Aa "len"
 |.abs => Af
 |.max => Aa "max"
 |.min => Aa "min"
 |.int => Af
 |.list => Aa "list"
 |.tuple => Aa "tuple"
 |.all => Aa "all"
 |.any => Af
 |.sum => Af
 |.sorted => Af
 |.tmin => Af
 |.tmax => Af
 |_ => Af
noncomputable def Jk(o scope : Br) : Br := {scope with names := scope.names.map fun (n, k) => if (k==.free&&o.kind==.function&&o.names.lookup n==Aa .cell) then (n, .cell) else (n, k)}
noncomputable def G0 : Ab Ag -> Ab Aj -> Ab Aj -> Ab Aj
 |t::ts, x::xs, N => G0 ts xs ((N.map fun y => if y==x then N.getD t x else y).set t x)
 |_, _, N => N
noncomputable def GP : Ab Aj -> An
 |[] => Ac
 |x::xs => !xs.contains x&&GP xs
noncomputable def HN(T : Tc)(scope : Br)(ts : Ab Ag)(N' : Ab Aj) : An:=
  scope.kind==.function&&scope.names.all (fun y => scope.names.lookup y.1==Aa y.2) &&
  scope.names.all (fun y => y.2 != .free||T.sc.names.lookup y.1==Aa .cell||T.sc.names.lookup y.1==Aa .free) &&
  N'.length==T.N.length&&GP N' &&
  (B1 N'.length).all fun i => ts.contains i||(match N'[i]? with
    |some x => (scope.names.lookup x != Aa .local&&scope.names.lookup x != Aa .cell)&&(scope.names.lookup x != Aa .free||T.N[i]? == Aa x)
    | none => Ac)
noncomputable def Et : Ab Ao -> Al (Ab Aj)
 |[] => Aa []
 |.Name x _::r => (Et r).map (x :: ·)
 |_ => Af
noncomputable def tgN(ys : Ab Ao) : Ab Aj := (Et ys).getD []
noncomputable def tgO(T : Tc)(scope : Br)(t : Ag)(x : Aj) : An := T.N[t]? == Aa x&&(T.sc.names.lookup x==Aa .local||(T.sc.names.lookup x==Aa .cell&&scope.names.lookup x==Aa .cell))
noncomputable def tgC(T : Tc) : Ab Ag -> Ab Aj -> An
 |[], [] => Ac
 |t::ts, x::xs => T.N[t]? == Aa x&&FW T x&&tgC T ts xs
 |_, _ => Ad
noncomputable def Tc.blk(T : Tc)(scope : Br)(ts : Ab Ag)(xs : Ab Aj) : Tc := {T with sc := Jk T.sc scope, N := G0 ts xs T.N}
noncomputable def MK : Ao -> Al (Ao × Ao × AH)
  | .Compare x ops ys p => (match ops with
    | [.Lt] => (match ys with
      |[y] => Aa (x, y, p)
      | _ => Af)
    | _ => Af)
  |_ => Af
noncomputable def Jr(_ : Es) : Al (E × E) := Af
noncomputable def Mw(_ : Tc)(_ : Tc -> Ao -> E -> An)(_ : Ao)(_ : Ab CF)(_ : Ab Ao)(_ : BI)(_ : Es) : An := Ad
noncomputable def MG(T : Tc)(e : Ao)(b : BI)(as : Es) : An := Ad
noncomputable def LN : Ao -> Al (Aj × AH)
 |.Name x p => Aa (x, p)
 |_ => Af
noncomputable def LO : Ao -> Al (Ao × Ab Ao × Ab Keyword × AH)
 |.Call f as ks p => Aa (f, as, ks, p)
 |_ => Af
noncomputable def Vz : Ao -> Al (Ab Ao × Ag × AH)
 |.Tuple es k p => Aa (es, k, p)
 |_ => Af
noncomputable def one{α : Type} : Ab α -> Al α
 |[a] => Aa a
 |_ => Af
noncomputable def MH(e : Ao) : Al (Aj × Aj × Ab Ao) := (LO e).bind fun c => (LN c.1).bind fun g => (one c.2.1).bind fun a => (LO a).bind fun d => (LN d.1).bind fun h => if (c.2.2.1.isEmpty&&d.2.2.1.isEmpty) = Ac then Aa (g.1, h.1, d.2.1) else Af
noncomputable def MR(e : Ao) : Al (Aj × Aj × Ao × Ao) := match MH e with
  | some (g, h, bs) => (match bs with
    |[x, y] => Aa (g, h, x, y)
    | _ => Af)
  |none => Af
noncomputable def Jv(_ : Es) : Al (E × E) := Af
noncomputable def MQ(e : Ao) : Al (Aj × Aj × Ao) := match MH e with
  | some (g, h, bs) => (match bs with
    |[x] => Aa (g, h, x)
    | _ => Af)
  |none => Af
noncomputable def Jt(_ : Es) : Al E := Af
noncomputable def two(e : Ao) : Al (Ao × Ao) := (Vz e).bind fun t => match t.1 with
  |[a, b] => Aa (a, b)
  |_ => Af
noncomputable def JH(_ : Es) : Al E := Af
noncomputable def Mk(_ : Ao) : Al Ao := Af
noncomputable def Mz : Ao -> Al (Ao × Ae)
  | .Subscript v s _ => (match s with
    | .Slice lo hi st _ => (match lo with
      | some (.Constant (.int k) _ _) => (match hi with
        | none => (match st with
          |some (.Constant (.int j) _ _) => if j = 2 then Aa (v, k) else Af
          | _ => Af)
        | some _ => Af)
      | _ => Af)
    | _ => Af)
  |_ => Af
noncomputable def Js(_ : Es) : Al (E × Ae) := Af
mutual
noncomputable def AQ : Ag -> Tc -> Ao -> E -> An
  |0, _, _, _ => Ad
  |n+1, T, e, c => match c with
    |.non => (match e with | .Constant .none _ _ => Ac|_ => Ad)
    |.bl b => (match e with | .Constant (.bool b') _ _ => b' == b|_ => Ad)
    |.int i => (match e with | .Constant (.int j) _ _ => decide (j = i)|_ => Ad)
    |.str x => (match e with | .Constant (.str y) _ _ => decide (y = x)|_ => Ad)
    |.var i => (match e with | .Name x _ => isV T x i|_ => Ad)
    |.glob g => Ad
    |.bin op a b => (match e with | .BinOp x op' y _ => decide (op' = op)&&AQ n T x a&&AQ n T y b|_ => Ad)
    |.un op a => Ad
    |.no a => (match e with | .UnaryOp .Not x _ => AQ n T x a|_ => Ad)
    |.and es => (match e with | .BoolOp .And xs _ => chkEs n T xs es && !xs.isEmpty|_ => Ad)
    |.or es => (match e with | .BoolOp .Or xs _ => chkEs n T xs es && !xs.isEmpty|_ => Ad)
    |.cmp op a b => (match e with | .Compare x [op'] [y] _ => decide (op' = op) && !behindInMarks op y&&AQ n T x a&&AQ n T y b|_ => Ad)
    |.cmp2 op1 op2 a b c => (match e with | .Compare x [o1, o2] [y, z] _ => decide (o1 = op1)&&decide (o2 = op2) && !lastMarks [op1, op2] [y, z]&&AQ n T x a&&AQ n T y b&&AQ n T z c|_ => Ad)
    |.ite c a b => Ad
    |.call f as => (match e with | .Call (.Name g _) (x::xs) [] _ => (T.fns.any fun p => p.1==g&&p.2.1==f&&p.2.2==xs.length+1)&&decide (xs.length<900)&&glB T g&&G3 g&&chkEs n T (x::xs) as|_ => Ad)
    |.bi b as => (match e with | .Call (.Name g _) (x::xs) [] _ => Jo b==Aa g&&isB T g&&chkEs n T (x::xs) as|_ => Ad)||MG T e b as||(match Jv as with|some (a, c) => (match MR e with|some (g, h, x, y) => decide (b = .list)&&g==("list" : Aj)&&h==("range" : Aj)&&isB T g&&isB T h&&CP x&&CP y&&AQ n T x a&&AQ n T y c|none => Ad)|none => Ad)||(match Js as with|some (a, k) => (match Mz e with|some (x, j) => decide (b = .stp)&&decide (j = k)&&decide (0 <= k)&&AQ n T x a|none => Ad)|none => Ad)||(match Jt as with|some a => (match MQ e with|some (g, h, x) => decide (b = .lset)&&g==("len" : Aj)&&h==("set" : Aj)&&isB T g&&isB T h&&CP x&&AQ n T x a|none => Ad)|none => Ad)||(match Jr as with|some (a, c) => (match MK e with|some (x, y, _) => decide (b = .tlt) && !behindInMarks .Lt y&&AQ n T x a&&AQ n T y c|none => Ad)|none => Ad)||(match JH as with|some a => (match Mk e with|some x => decide (b = .rvs)&&AQ n T x a|none => Ad)|none => Ad)
    |.isi a ks => (match ks with | [k] => (match e with | .Call (.Name g _) [x, .Name t _] [] _ => g==("isinstance" : Aj)&&isB T g&&Jn k==Aa t&&isB T t&&CP x&&AQ n T x a|_ => Ad)|_ => Ad)
    |.idx a i => (match e with | .Subscript x y _ => Hr y&&AQ n T x a&&AQ n T y i|_ => Ad)
    |.sl a lo hi => (match e with | .Subscript x (.Slice l h Af _) _ => AQ n T x a&&chkO n T l lo&&chkO n T h hi|_ => Ad)
    |.tup es => (match e with | .Tuple xs _ _ => chkEs n T xs es&&decide (xs.length <= 1000)|_ => Ad)
    |.lst es => (match e with | .List xs _ => chkEs n T xs es&&decide (xs.length <= 1000)|_ => Ad)
    |.comp elt t it c => (match e with | .ListComp x [⟨.Name y _, iter, ifs, 0⟩] scope _ => chkI n T Ad iter it&&HA iter&&HN T scope [t] (G0 [t] [y] T.N)&&tgO (T.blk scope [t] [y]) scope t y&&chkT n (T.blk scope [t] [y]) ifs c&&AQ n (T.blk scope [t] [y]) x elt|_ => Ad)
    |.compT elt ts it c => Ad
    |.tupI _ => Ad
    |.dget i a c => (match xMt e with|some (x, m, y, z) => m==("get" : Aj)&&isV T x i&&CP y&&CP z&&AQ n T y a&&AQ n T z c|none => Ad)
    |.fld _ _ => Ad
noncomputable def FX : Ag -> Tc -> Ao -> E -> An
  |0, _, _, _ => Ad
  |n+1, T, e, c => match e with
    |.UnaryOp .Not x _ => (match c with | .no a => FX n T x a|_ => Ad)
    |.BoolOp .And xs _ => (match c with | .and es => chkBs n T xs es && !xs.isEmpty|_ => Ad)
    |.BoolOp .Or xs _ => (match c with | .or es => chkBs n T xs es && !xs.isEmpty|_ => Ad)
    | .Compare x ops ys _ => (match c with
      |.cmp op a b => (match ops, ys with | [op'], [y] => decide (op' = op) && !behindInMarks op y&&AQ n T x a&&AQ n T y b|_, _ => Ad)
      |.cmp2 op1 op2 a b c => (match ops, ys with | [o1, o2], [y, z] => decide (o1 = op1)&&decide (o2 = op2) && !lastMarks [op1, op2] [y, z]&&AQ n T x a&&AQ n T y b&&AQ n T z c|_, _ => Ad)
      |.bi b as => Mw T (AQ n) x ops ys b as
      | _ => Ad)
    |e => IG e&&AQ n T e c
noncomputable def chkBs : Ag -> Tc -> Ab Ao -> Es -> An
  |0, _, _, _ => Ad
  |n+1, T, xs, es => match xs, es with
    |[], .nil => Ac
    |x::xs, .cons e es => FX n T x e&&chkBs n T xs es
    |_, _ => Ad
noncomputable def chkEs : Ag -> Tc -> Ab Ao -> Es -> An
  |0, _, _, _ => Ad
  |n+1, T, xs, es => match xs, es with
    |[], .nil => Ac
    |x::xs, .cons e es => CP x&&AQ n T x e&&chkEs n T xs es
    |_, _ => Ad
noncomputable def chkO : Ag -> Tc -> Al Ao -> E -> An
  |0, _, _, _ => Ad
  |n+1, T, x, e => match x with
    |none => (match e with | .non => Ac|_ => Ad)
    |some x => (match e with | .non => Ad|e => AQ n T x e)
noncomputable def chkT : Ag -> Tc -> Ab Ao -> E -> An
  |0, _, _, _ => Ad
  |n+1, T, xs, e => match xs with
    |[] => (match e with | .bl Ac => Ac|_ => Ad)
    |[x] => FX n T x e
    |_ => Ad
noncomputable def chkI : Ag -> Tc -> An -> Ao -> I -> An
  |0, _, _, _, _ => Ad
  |n+1, T, tu, e, i => match i with
    |.e a => AQ n T e a
    |.rng a => (match e with | .Call (.Name g _) [x] [] _ => g==("range" : Aj)&&isB T g&&CP x&&AQ n T x a|_ => Ad)
    |.enm a => Ad
    |.zip a b => Ad
    |.rng2 a b => (match e with | .Call (.Name g _) [x, y] [] _ => g==("range" : Aj)&&isB T g&&CP x&&CP y&&AQ n T x a&&AQ n T y b|_ => Ad)
    |.zip3 a b c => Ad
end
noncomputable def L1(_ : Ag)(_ : Tc)(_ : Ag)(_ : Ab A7)(_ : Ss) : An := Ad
mutual
noncomputable def Dv : Ag -> Tc -> A7 -> S -> An
  |0, _, _, _ => Ad
  |n+1, T, st, s => match s with
    |.pass => Ad
    |.brk => Ad
    |.cont => Ad
    |.asg i _ e => (match st with | .Assign [.Name x _] v _ => T.N[i]? == Aa x&&FW T x&&AQ n T v e|_ => Ad)
    |.asgT ts e => Ad
    |.expr e => (match st with | .Expr v _ => Gi v&&AQ n T v e|_ => Ad)
    |.ret e => (match st with | .Return (Aa v) _ => AQ n T v e|_ => Ad)
    |.retN => Ad
    |.ife c a b => (match st with | .If t xs ys _ => FX n T t c&&chkSs n T xs a&&chkSs n T ys b|_ => Ad)
    |.fors t it body => (match st with | .For (.Name x _) iter xs [] _ => tgC T [t] [x]&&HA iter&&chkI n T Ad iter it&&chkSs n T xs body|_ => Ad)
    |.forT ts it body => (match st with | .For (.Tuple ys _ _) iter xs [] _ => (Et ys).isSome&&tgC T ts (tgN ys)&&HA iter&&chkI n T Ac iter it&&chkSs n T xs body|_ => Ad)
    |.whl c body => Ad
    |.rais c as => !(T.rzs.any fun p => p.2==c)
    |.tryx _ _ _ _ => Ad
    |.try2 _ _ _ _ _ _ _ => Ad
    |.app i e => Ad
    |.ext i e => Ad
    |.rev i => Ad
    |.clr i => Ad
    |.put i k e => (match st with | .Assign [.Subscript (.Name x _) y _] v _ => isV T x i&&Hr y&&AQ n T y k&&AQ n T v e|_ => Ad)
    |.swp _ _ _ => Ad
    |.apop _ _ _ => Ad
    |.ins _ _ _ => Ad
    |.dnw i => (match st with | .Assign [.Name x _] v _ => T.N[i]? == Aa x&&FW T x&&Ms v|_ => Ad)
    |.dput i k e => (match st with | .Assign [.Subscript (.Name x _) y _] v _ => isV T x i&&Hr y&&AQ n T y k&&AQ n T v e|_ => Ad)
    |.dsd i k e => (match st with | .Expr w _ => (match xMt w with|some (x, m, y, v) => m==("setdefault" : Aj)&&isV T x i&&CP y&&CP v&&AQ n T y k&&AQ n T v e|none => Ad)|_ => Ad)
    |.rel _ => Ad
noncomputable def chkSs : Ag -> Tc -> Ab A7 -> Ss -> An
  |0, _, _, _ => Ad
  |n+1, T, sts, ss => match ss with
    |.nil => sts.isEmpty
    |.cons (.rel i) ss => chkSs n T sts ss
    | .cons s ss => (match sts with
      |st::r => Dv n T st s&&chkSs n T r ss
      | [] => Ad)
end
noncomputable def EE(fuel : Ag)(hot : An)(fns : Ab (Aj × Ag × Ag))(bl : Ab Aj)(rzs exs gls : Ab (Aj × Ag))(ps N : Ab Aj)(st : A7)(df : Df) : An:=
  let sc := C8 st
  sc.kind==.function && !sc.isCoroutine && !sc.isGenerator&&GP N&&N.take ps.length==ps&&ps.all (fun x => sc.names.lookup x==Aa .local||sc.names.lookup x==Aa .cell)&&sc.names.all (fun y => y.2 != .free)&&N.length==df.n &&
  (match hot with
  |true => L1 fuel ⟨sc, N, fns, bl, rzs, exs, gls⟩ 0 (Eu st) df.body
  | false => chkSs fuel ⟨sc, N, fns, bl, rzs, exs, gls⟩ (Eu st) df.body)
structure XT (up : Ag -> Ab Ag) (xn : Ag -> Ab D -> R Ex) (CL : ClA) (rzs exs : Ab (Aj × Ag)) (K : Fg) (mg : Aj -> Al Ah) : Prop where
 xc : ∀ c C, CL c = Aa C -> XcOk K C
 rz : ∀ p ∈ rzs, ∃ C, CL p.2 = Aa C /\ mg p.1 = Aa (.ref C)
 ex : ∀ p ∈ exs, ∃ C, mg p.1 = Aa (.ref C) /\ TL K CL up p.2 C /\ ∀ c D, CL c = Aa D -> NW K (.ref D) (.ref C) = Aa ((up c).contains p.2)
 made : ∀ c C ds, CL c = Aa C -> xn c ds = .bad \/ (xn c ds = .ok ⟨c, []⟩ /\ Jz K C Af = Ac) \/ ∃ f, XIn K mg C f /\ VD xn c f ds
 nf : ∀ c C, CL c = Aa C -> ∀ f : Aj, (f==("triple" : Aj)||f==("points" : Aj)) = Ac -> MB K C = Ac /\ CJ K (.ref C) f = Aa Af
 xb : ∀ c, (∀ p ∈ rzs, p.2 ≠ c) -> ∀ ds, xn c ds = .bad
noncomputable def JM(K : Fg)(mg : Aj -> Al Ah)(CL : ClA)(x : Aj)(d : D) : Prop := ∃ u v, mg x = Aa u /\ A6 v u /\ ∀ H A, Rep K CL H A v d
structure VX (Γ : Gam) (CL : ClA) (k : Ag) (W : XW) (T : Tc) (X : Cx) : Prop where
 sc : X.env.scope = T.sc
 kd : T.sc.kind = .function
 N : X.N = T.N
 nd : T.N.Nodup
 calm : X.calm = Ac
 room : Room k X.A
 bl : ∀ x, x ∈ T.bl -> X.mg x = Af
 fn : ∀ p ∈ T.fns, ∃ f fd ps, X.mg p.1 = Aa (.ref f) /\ B9 X.K (.ref f) = Ac /\ EC X.K fd ps [] /\ ps.length = p.2.2%1000 /\ (p.2.2<1000 -> FnOk X.prog X.w X.K X.mg X.base (CXR X.prog X.w) k f fd ps (spD X.K CL (p.2.2%1000) (Γ.fr p.2.1) (Γ.F p.2.1))) /\ (1000 <= p.2.2 -> HotOk X.prog X.w X.K X.mg X.base k f fd ps (spH X.K CL (p.2.2%1000) (Γ.fr p.2.1) (Γ.F p.2.1)))
 own : DA (model X.prog X.w) X.A X.env X.xe
 px : ∀ A, Gg (CXR X.prog X.w) X (EKW X.K CL A W)
 rz : JK X CL W
 xt : XT Γ.up Γ.xn CL T.rzs T.exs X.K X.mg
 gl : ∀ p ∈ T.gls, JM X.K X.mg CL p.1 (Γ.G p.2)
theorem LB : ∀ A, Gg (CXR X.prog X.w) X (EKW X.K CL A W0) := fun A pI σ H s ev s' I h => by
 obtain⟨e, T, cls, dx, H', _, _, _, _, _, _, _, _, _, _, x, _, w⟩ := h;exact w.elim
theorem Mj : JK X CL W0 := fun _ _ _ _ _ _ _ _ _ _ _ _ _ _ z => z.elim
noncomputable def Rf{α : Type}(g f : Rho -> R α) : Prop := ∀ ρ, g ρ = .bad \/ g ρ = f ρ
section
variable{X : Cx}{CL : ClA}{W : XW}{a : Ao}{f g : Rho -> R D}
theorem SE.ref(h : SE X CL W a f)(r : Rf g f) : SE X CL W a g := fun A => PE.weak (h A) fun σ H Q ⟨hA, ρ, q, p⟩ => ⟨hA, ρ, q, by
 rcases r ρ with e|e
 ·rw[e]at p;exact p.elim
 ·rw[e]at p;exact p⟩
theorem SB.ref{f g : Rho -> R An}(h : SB X CL W a f)(r : Rf g f) : SB X CL W a g := fun A => PT.weak (h A) fun σ H Q ⟨hA, ρ, q, p⟩ => ⟨hA, ρ, q, by
 rcases r ρ with e|e
 ·rw[e]at p;exact p.elim
 ·rw[e]at p;exact p⟩
theorem SW.ref{f g : Rho -> R An}(h : SW X CL W a f)(r : Rf g f) : SW X CL W a g := fun A => PW.weak (h A) fun σ H Q ⟨hA, ρ, q, p⟩ => ⟨hA, ρ, q, by
 rcases r ρ with e|e
 ·rw[e]at p;exact p.elim
 ·rw[e]at p;exact p⟩
theorem SC.ref(h : SC X CL W fr a f)(r : Rf g f) : SC X CL W fr a g := fun A => PE.weak (h A) fun σ H Q ⟨hA, ρ, q, p⟩ => ⟨hA, ρ, q, by
 rcases r ρ with e|e
 ·rw[e]at p;exact p.elim
 ·rw[e]at p;exact p⟩
theorem SS.ref{st : A7}{f g : Rho -> O}(h : SS X CL W st f)(r : ∀ ρ, g ρ = .bad \/ g ρ = f ρ) : SS X CL W st g := fun Fz B => PS.weak (h Fz B) fun D σ H ⟨ρ, x, p⟩ => ⟨ρ, x, by
 rcases r ρ with e|e
 ·rw[e]at p;exact p.elim
 ·rw[e]at p;exact p⟩
end
theorem Hf : ∀{l : Ab Aj}, GP l = Ac -> l.Nodup
 |[], _ => List.nodup_nil
 |x::xs, h => by
  unfold GP at h;simp only[Am, Bf, M8, decide_eq_false_iff_not]at h;exact List.nodup_cons.mpr ⟨h.1, Hf h.2⟩
section
variable{T : Tc}{X : Cx}{Γ : Gam}{CL : ClA}{k : Ag}{W : XW}
theorem PR(h : JB T x = Ac) : Vis T.sc x := by
 unfold JB at h;split at h
 ·exact .inl (by assumption)
 ·exact .inr (.inl (by assumption))
 ·exact .inr (.inr (by assumption))
 ·cases h
theorem Ht(h : FW T x = Ac) : Loc T.sc x := by
 unfold FW at h;split at h
 ·exact .inl (by assumption)
 ·exact .inr (by assumption)
 ·cases h
theorem IL(h : G3 x = Ac) : (x==("__debug__" : Aj)) = Ad /\ (x==("__classdict__" : Aj)) = Ad /\ x ≠ "__name__" := by
 unfold G3 at h;simp only[Am, Bf]at h;exact⟨h.1.1, h.1.2, fun e => by subst e;exact absurd h.2 (by simp)⟩
theorem FQ{i : Ag}(v : VX Γ CL k W T X)(h : isV T x i = Ac) : PE X (.Name x pos) (Gv i) := by
 unfold isV at h;simp only[Am, Bc]at h;obtain⟨h2, h3, _⟩ := IL h.2;exact Sa (by rw[v.N];exact h.1.1) (by rw[v.sc];exact PR h.1.2) h2 h3
theorem GR(v : VX Γ CL k W T X)(h : isB T x = Ac) : Gl X x /\ X.mg x = Af /\ x ≠ "__name__" /\ (x==("__debug__" : Aj)) = Ad := by
 unfold isB glB at h;simp only[Am, Bc, M8, A1]at h;obtain⟨h2, h3, h4⟩ := IL h.2;exact⟨by show X.env.scope.names.lookup x = _;rw[v.sc];exact h.1.2, v.bl x h.1.1, h4, h2⟩
theorem Ch{x:Ao}(h : CP x = Ac) : AC (x::xs) env = (Ad, eval x env)::AC xs env := by
 cases x <;> first|rfl|cases h
theorem Pp(h : Hr y = Ac) : IZ y := by
 intro o i;cases y <;> first|rfl|cases h
theorem Jd{e : Ao}(h : HA e = Ac) : ∀ x, BM e env x = pure x := by
 intro x;cases e <;> first|rfl|cases h
theorem Le{e : Ao}{t : Al Ao}(h : Gi e = Ac) : CO e t l env = pure Ad := by
 cases e <;> first|rfl|cases h
theorem P3{e : Ao}(h : IG e = Ac) : ∀ whole, EU e env whole = (do let v <-whole;FE e.pos;holding [v] (truthy v)) := by
 intro whole;cases e <;> first|rfl|cases h
theorem On(v : VX Γ CL k W T X)(scope : Br) : relabel scope X.env = Jk T.sc scope := by
 unfold relabel Jk;have : ∀ n, X.env.kindOf n = T.sc.names.lookup n := fun n => by show X.env.scope.names.lookup n = _;rw[v.sc]
 simp only[this, v.sc]
theorem LK{N':Ab Aj}(v : VX Γ CL k W T X)(h : HN T scope ts N' = Ac) : BlockOk X scope N' ts /\ N'.Nodup /\ scope.kind = .function := by
 unfold HN at h;simp only[Am, Bc, M6, Cy, F5, ne_eq]at h;obtain⟨⟨⟨⟨⟨h1, h2⟩, h4⟩, h5⟩, h6⟩, h7⟩ := h;have at7 : ∀ i x, N'[i]? = Aa x -> i ∈ ts \/ ((scope.names.lookup x ≠ Aa .local /\ scope.names.lookup x ≠ Aa .cell) /\ (scope.names.lookup x ≠ Aa .free \/ T.N[i]? = Aa x)) := fun i x e => by
  have hi := (AR.mp e).1;have := h7 i (B8.mpr hi);rcases this with z|z
  ·exact .inl (by simpa using z)
  ·rw[e]at z;simp only[Am, F5, ne_eq, Cy, Bc]at z;exact .inr z
 refine⟨⟨h1, h2, fun y hy hl => by rw[h2 y hy, hl], fun y hy hf => ?_, by rw[v.N];exact h5, fun i x e hf hn => ?_, fun i x e hl => ?_⟩, Hf h6, h1⟩
 ·rw[v.sc];rcases h4 y hy with (z|z)|z
  ·exact absurd hf z
  ·exact .inl z
  ·exact .inr z
 ·rw[v.N];rcases at7 i x e with z|⟨_, z⟩
  ·exact absurd z hn
  ·exact z.resolve_left fun q => q hf
 ·rcases at7 i x e with z|⟨z, _⟩
  ·exact z
  ·exact hl.elim (fun q => absurd q z.1) (fun q => absurd q z.2)
theorem VX.blk{xs:Ab Aj}{cl:Ab (Aj × Ai)}{C:Ai}{s : Ak}{fp:Ab Ai}(v : VX Γ CL k W T X)(h : HN T scope ts (G0 ts xs T.N) = Ac) : VX Γ CL k W0 (T.blk scope ts xs) (cxC X scope cl C (G0 ts xs T.N) s H fp) := by
 obtain⟨_, h2, h3⟩ := LK v h;exact⟨On v scope, h3, rfl, h2, v.calm, v.room, v.bl, v.fn, PassesOwn.never, LB, Mj, v.xt, v.gl⟩
theorem PZ{t : Ag}(v : VX Γ CL k W T X)(hfn : scope.names.lookup x = Aa .cell -> X.fn x = Ac)(h : tgO T scope t x = Ac) : PG X (.Name x pos) (Eb t) := by
 unfold tgO at h;simp only[Am, Cy, Bc]at h;rcases h with ⟨h1, h2|h2⟩
 ·exact Ho (by rw[v.N];exact v.nd) (by rw[v.N];exact h1) (by rw[v.sc];exact .inl h2) (.inr (by rw[v.sc];exact h2))
 ·exact Ho (by rw[v.N];exact v.nd) (by rw[v.N];exact h1) (by rw[v.sc];exact .inr h2.1) (.inl (hfn h2.2))
theorem Ka{r:Ab Ao}{zs:Ab Aj}(h : Et (y::r) = Aa zs) : ∃ x p ws, y = .Name x p /\ Et r = Aa ws /\ zs = x::ws := by
 cases y with
 |Name x p=>
  have h' : (Et r).map (x :: ·) = Aa zs := h;cases e : Et r with
  |none => rw[e]at h';cases h'
  |some ws => rw[e]at h';cases h';exact⟨x, p, ws, rfl, rfl, rfl⟩
 |_ => cases h
theorem Kq(x : Aj)(p : AH)(r : Ab Ao)(env : BD) : B2 (.Name x p::r) env = (Ad, assign (.Name x p) env)::B2 r env := rfl
theorem Od : ∀(ys : Ab Ao)(zs : Ab Aj), Et ys = Aa zs -> (B2 ys env).length = ys.length /\ (B2 ys env).findIdx? (·.1) = Af /\ (B2 ys env).map (·.2) = ys.map fun y => assign y env := by
 intro ys
 induction ys with
 |nil => intro _ _;exact⟨rfl, rfl, rfl⟩
 |cons y r ih=>
  intro zs h;obtain⟨x, p, ws, rfl, e, rfl⟩ := Ka h;obtain⟨h1, h2, h3⟩ := ih ws e;rw[Kq];refine⟨?_, ?_, ?_⟩
  ·rw[Dp, Dp, h1]
  ·rw[List.findIdx?_cons, h2];simp
  ·rw[B5, B5, h3]
end
noncomputable def Es.len : Es -> Ag
 |.nil => 0
 |.cons _ es => es.len+1
theorem IP(Γ : Gam)(ρ : Rho) : ∀(es : Es)(ds : Ab D), evA Γ ρ es = .ok ds -> ds.length = es.len
 |.nil, ds, h => by cases h;rfl
 |.cons e es, ds, h => by
  obtain⟨x, h1, h2⟩ := FK (KO Γ ρ e es ▸ h);obtain⟨xs, h3, h4⟩ := FK h2;cases h4;exact congrArg (· + 1) (IP Γ ρ es xs h3)
theorem Lc(Γ : Gam)(ρ : Rho) : ∀(es : Es)(ds : Ab D), evB Γ ρ es = .ok ds -> ds.length = es.len
 |.nil, ds, h => by cases h;rfl
 |.cons e es, ds, h => by
  obtain⟨x, h1, h2⟩ := FK (KN Γ ρ e es ▸ h);obtain⟨xs, h3, h4⟩ := FK h2;cases h4;exact congrArg (· + 1) (Lc Γ ρ es xs h3)
theorem Lu(Γ : Gam)(ρ : Rho)(e : E)(h : shE ρ e = Ac) : top ρ e (evE Γ ρ e) = evE Γ ρ e := by
 cases e with
 |var i=>
  show Be ρ i = Dj ρ i;have h' : shV ρ i = Ac := h;unfold shV at h';unfold Be Dj;cases q : ρ[i]? with
  |none => rfl
  |some x=>
   cases x with
   |none => rfl
   |some y=>
    obtain⟨d, o⟩ := y;cases o with
    |true => rw[q]at h';cases h'
    |false => rfl
 |_ => rfl
theorem LI(Γ : Gam)(ρ : Rho) : ∀(es : Es), Fx ρ es = Ac -> evB Γ ρ es = evA Γ ρ es
 |.nil, _ => rfl
 |.cons e es, h => by
  simp only[ON, Am]at h;rw[KO, KN, Lu Γ ρ e h.1, LI Γ ρ es h.2]
theorem IS(Γ : Gam)(c : E) : Rf (fun ρ => evE Γ ρ c) (fun ρ => top ρ c (evE Γ ρ c)) := fun ρ => by
 by_cases h : shE ρ c = Ac
 ·exact .inr (Lu Γ ρ c h).symm
 ·cases c with
  |var i=>
   refine .inl ?_;show Dj ρ i = .bad;have h' : ¬ shV ρ i = Ac := h;unfold shV at h';unfold Dj;cases q : ρ[i]? with
   |none => rfl
   |some x=>
    cases x with
    |none => rfl
    |some y=>
     obtain⟨d, o⟩ := y;cases o with
     |true => rfl
     |false => rw[q]at h';exact absurd rfl h'
  |_ => exact absurd rfl h
noncomputable def Pcs(X : Cx)(CL : ClA)(W : XW)(e : Ao)(f : Rho -> R D) : Prop := ∃ tg iter elt ifs scope pos N' ts fi fc fe as g, e = .ListComp elt [⟨tg, iter, ifs, 0⟩] scope pos /\ BlockOk X scope N' ts /\ SI X CL W tg iter fi /\ GG X.K CL ts as g /\
 (∀ cl C s H fp, PG (cxC X scope cl C N' s H fp) tg g) /\ (∀ cl C s H fp, STs (cxC X scope cl C N' s H fp) CL ifs fc) /\ (∀ cl C s H fp, SE (cxC X scope cl C N' s H fp) CL W0 elt fe) /\ (∀ x, BM iter X.env x = pure x) /\
 ∀ ρ, f ρ = (fi ρ).bind fun xs => (noX (Bo (fun x => (as x ρ).bind fc) (fun x => (as x ρ).bind fe) xs)).bind fun ys => .ok (.lst ys)
theorem Pcs.sc{W:XW}{e : Ao}{f : Rho -> R D}(hc : X.calm = Ac)(h : Pcs X CL W e f) : SC X CL W Ac e f := by
 obtain⟨tg, iter, elt, ifs, scope, pos, N', ts, fi, fc, fe, as, g, rfl, B, hi, hGG, hg, ht, he, hs, ef⟩ := h;exact SC.congr (PJ hc B hi hGG hg ht he hs) ef
structure OkE (Γ : Gam) (CL : ClA) (W : XW) (X : Cx) (e : Ao) (c : E) : Prop where
 se : SE X CL W e (fun ρ => evE Γ ρ c)
 st : ST X CL W e (fun ρ => top ρ c (evE Γ ρ c))
 nw : Dh Γ c = Ac -> SC X CL W Ac e (fun ρ => evE Γ ρ c)
 cp : Gi e = Ad -> Pcs X CL W e (fun ρ => evE Γ ρ c)
section
variable{Γ : Gam}{CL : ClA}{W : XW}{X : Cx}{e : Ao}{c : E}
theorem CY(h : SE X CL W e (fun ρ => evE Γ ρ c))(ht : ∀ ρ r, top ρ c r = r)(hn : Dh Γ c = Ad)(hc : Gi e = Ac) : OkE Γ CL W X e c:=
 ⟨h, by simp only[ht];exact h.st, fun z => absurd z (by rw[hn];decide), fun z => absurd z (by rw[hc];decide)⟩
theorem Jh(h : SC X CL W Ac e (fun ρ => evE Γ ρ c))(ht : ∀ ρ r, top ρ c r = r)(hc : Gi e = Ac) : OkE Γ CL W X e c:=
 ⟨h.se, by simp only[ht];exact h.se.st, fun _ => h, fun z => absurd z (by rw[hc];decide)⟩
theorem UH(hc : X.calm = Ac)(h : Pcs X CL W e (fun ρ => evE Γ ρ c))(ht : ∀ ρ r, top ρ c r = r) : OkE Γ CL W X e c:=
 ⟨(h.sc hc).se, by simp only[ht];exact(h.sc hc).se.st, fun _ => h.sc hc, fun _ => h⟩
end
theorem Vx{k:Ki}(h : Jn k = Aa x) : ∃ T, tyK k = Aa T /\ BR x = Aa (.type T) := by
 cases k <;> simp only[Jn]at h <;> cases h
 ·exact⟨_, rfl, PyProof.Rows.boot_int⟩
 ·exact⟨_, rfl, PyProof.Rows.boot_bool⟩
 ·exact⟨_, rfl, PyProof.Rows.boot_str⟩
 ·exact⟨_, rfl, Nx⟩
 ·exact⟨_, rfl, Ny⟩
structure Snd (Γ : Gam) (CL : ClA) (k : Ag) (n : Ag) : Prop where
 e : ∀(W : XW)(T : Tc)(X : Cx)(x : Ao)(c : E), VX Γ CL k W T X -> AQ n T x c = Ac -> OkE Γ CL W X x c
 b : ∀(W : XW)(T : Tc)(X : Cx)(x : Ao)(c : E), VX Γ CL k W T X -> FX n T x c = Ac -> SB X CL W x (fun ρ => (top ρ c (evE Γ ρ c)).bind Bm)
 bs : ∀(W : XW)(T : Tc)(X : Cx)(xs : Ab Ao)(es : Es)(pos : AH), VX Γ CL k W T X -> chkBs n T xs es = Ac -> xs ≠ [] -> SW X CL W (.BoolOp .And xs pos) (fun ρ => (evN Γ ρ es).bind Bm) /\ SW X CL W (.BoolOp .Or xs pos) (fun ρ => (evO Γ ρ es).bind Bm)
 es : ∀(W : XW)(T : Tc)(X : Cx)(xs : Ab Ao)(es : Es), VX Γ CL k W T X -> chkEs n T xs es = Ac -> SA X CL W xs (fun ρ => evA Γ ρ es) /\ SAT X CL W xs (fun ρ => evB Γ ρ es) /\ xs.length = es.len /\ (∀ pos, xs ≠ [] -> SE X CL W (.BoolOp .And xs pos) (fun ρ => evN Γ ρ es) /\ SE X CL W (.BoolOp .Or xs pos) (fun ρ => evO Γ ρ es)) /\ (∀ pos, (Ck pos (AC xs X.env)).any (·.1) = Ad)
 o : ∀(W : XW)(T : Tc)(X : Cx)(x : Al Ao)(c : E), VX Γ CL k W T X -> chkO n T x c = Ac -> SO X CL W x (fun ρ => (top ρ c (evE Γ ρ c)).bind (slE c))
 t : ∀(T : Tc)(X : Cx)(xs : Ab Ao)(c : E), VX Γ CL k W0 T X -> chkT n T xs c = Ac -> STs X CL xs (fun ρ => (top ρ c (evE Γ ρ c)).bind Bm)
 i : ∀(W : XW)(T : Tc)(X : Cx)(tu : An)(tg x : Ao)(i : I), VX Γ CL k W T X -> Mx tu tg = Ac -> chkI n T tu x i = Ac -> SI X CL W tg x (fun ρ => evI Γ ρ i)
section
variable{Γ : Gam}{CL : ClA}{W : XW}{k n : Ag}{T : Tc}{X : Cx}
theorem Po : Snd Γ CL k 0 := ⟨fun _ _ _ _ _ _ h => absurd (show Ad = Ac from h) Ap, fun _ _ _ _ _ _ h => absurd (show Ad = Ac from h) Ap, fun _ _ _ _ _ _ _ h => absurd (show Ad = Ac from h) Ap, fun _ _ _ _ _ _ h => absurd (show Ad = Ac from h) Ap, fun _ _ _ _ _ _ h => absurd (show Ad = Ac from h) Ap, fun _ _ _ _ _ h => absurd (show Ad = Ac from h) Ap, fun _ _ _ _ _ _ _ _ _ h => absurd (show Ad = Ac from h) Ap⟩
theorem Ke{x:Ao}(h : CP x = Ac)(hx : (Ck pos (AC xs env)).any (·.1) = Ad) : (Ck pos (AC (x::xs) env)).any (·.1) = Ad := by
 rw[Ch h];show (Ad||(Ck pos (AC xs env)).any (·.1)) = Ad;rw[hx];rfl
theorem Rg(S : Snd Γ CL k n)(W : XW)(T : Tc)(X : Cx)(xs : Ab Ao)(es : Es)(v : VX Γ CL k W T X)(h : chkEs (n+1) T xs es = Ac) : SA X CL W xs (fun ρ => evA Γ ρ es) /\ SAT X CL W xs (fun ρ => evB Γ ρ es) /\ xs.length = es.len /\ (∀ pos, xs ≠ [] -> SE X CL W (.BoolOp .And xs pos) (fun ρ => evN Γ ρ es) /\ SE X CL W (.BoolOp .Or xs pos) (fun ρ => evO Γ ρ es)) /\ (∀ pos, (Ck pos (AC xs X.env)).any (·.1) = Ad) := by
 cases xs with
 |nil=>
  cases es with
  |nil => exact⟨SF, PL, rfl, fun _ z => absurd rfl z, fun _ => rfl⟩
  |cons => simp[chkEs]at h
 |cons x xs=>
  cases es with
  |nil => simp[chkEs]at h
  |cons e es=>
   simp only[chkEs, Am]at h;obtain⟨⟨h0, h1⟩, h2⟩ := h;have he := S.e W T X x e v h1;obtain⟨a1, a2, a3, a4, a5⟩ := S.es W T X xs es v h2;refine⟨PM he.se a1 (Ch h0), Pu he.st a2 (Ch h0), congrArg (· + 1) a3, fun pos _ => ?_, fun pos => Ke h0 (a5 pos)⟩
   cases xs with
   |nil=>
    cases es with
    |nil => exact⟨Ly he.se, Ly he.se⟩
    |cons => cases a3
   |cons y ys=>
    cases es with
    |nil => cases a3
    |cons e' es'=>
     obtain⟨b1, b2⟩ := a4 pos (by simp)
     exact⟨Sw he.se b1, T3 he.se b2⟩
theorem Uq(S : Snd Γ CL k n)(W : XW)(T : Tc)(X : Cx)(x : Al Ao)(c : E)(v : VX Γ CL k W T X)(h : chkO (n+1) T x c = Ac) : SO X CL W x (fun ρ => (top ρ c (evE Γ ρ c)).bind (slE c)) := by
 cases x with
 |none=>
  simp only[chkO]at h;split at h
  ·exact Qh
  ·cases h
 |some x=>
  simp only[chkO]at h;split at h
  ·cases h
  ·rename_i hne;have q := Qg (S.e W T X x c v h).st;have e : slE c = fun d => (CQ d).bind fun i => .ok (Aa i) := by
    funext d
    cases c <;> first|rfl|exact absurd rfl hne
   rw[e];exact q
theorem Uo(S : Snd Γ CL k n)(T : Tc)(X : Cx)(xs : Ab Ao)(c : E)(v : VX Γ CL k W0 T X)(h : chkT (n+1) T xs c = Ac) : STs X CL xs (fun ρ => (top ρ c (evE Γ ρ c)).bind Bm) := by
 cases xs with
 |nil=>
  simp only[chkT]at h;split at h
  ·exact P8
  ·cases h
 |cons x xs=>
  cases xs with
  |nil=>
   simp only[chkT]at h;exact P7 (S.b W0 T X x c v h)
  |cons y ys => simp[chkT]at h
theorem Ur(S : Snd Γ CL k n)(W : XW)(T : Tc)(X : Cx)(tu : An)(tg x : Ao)(i : I)(v : VX Γ CL k W T X)(ht' : Mx tu tg = Ac)(h : chkI (n+1) T tu x i = Ac) : SI X CL W tg x (fun ρ => evI Γ ρ i) := by
 have ht : tu = Ac -> Uw tg = Ac := fun z => by
  subst z;cases tg <;> first|rfl|cases ht'
 cases i with
 |e a=>
  simp only[chkI]at h;exact V5 (S.e W T X x a v h).se
 |rng a=>
  simp only[chkI]at h;split at h
  ·simp only[Am, Bc]at h;obtain⟨⟨⟨rfl, h1⟩, h2⟩, h3⟩ := h;obtain⟨g1, g2, _, _⟩ := GR v h1;exact Ro (S.e W T X _ a v h3).st g1 g2 (Ch h2)
  ·cases h
 |rng2 a b=>
  simp only[chkI]at h;split at h
  ·simp only[Am, Bc]at h;obtain⟨⟨⟨⟨⟨rfl, h1⟩, h2⟩, h3⟩, h4⟩, h5⟩ := h;obtain⟨g1, g2, _, _⟩ := GR v h1;exact PH (S.e W T X _ a v h4).st (S.e W T X _ b v h5).st g1 g2 (by rw[Ch h2, Ch h3];rfl) (by rw[Ch h3];rfl)
  ·cases h
 |zip a b => simp[chkI]at h
 |zip3 a b c => simp[chkI]at h
 |enm a => simp[chkI]at h
theorem Gd{c:Prop}[Dx c]{b : An} : (if c then R.ok (D.bl b) else .bad) = .bad \/ ∃ b', (if c then R.ok (D.bl b) else .bad) = .ok (.bl b') := by
 by_cases h : c
 ·rw[AE h];exact .inr ⟨_, rfl⟩
 ·rw[AJ h];exact .inl rfl
theorem Pe(op : CF)(d d' : D) : Bb op d d' = .bad \/ ∃ b, Bb op d d' = .ok (.bl b) := by
 cases op with
 |Eq => exact Gd
 |NotEq => exact Gd
 |In=>
  cases d' with
  |lst ys => exact Gd
  |tup ys => exact Gd
  |dic kvs=>
   show (match CS d with|some k => R.ok (D.bl (kvs.any fun p => p.1==k))|none => .bad) = .bad \/ ∃ b, (match CS d with|some k => R.ok (D.bl (kvs.any fun p => p.1==k))|none => .bad) = .ok (.bl b)
   cases CS d with
   |some k => exact .inr ⟨_, rfl⟩
   |none => exact .inl rfl
  |_ => cases d <;> exact .inl rfl
 |NotIn=>
  cases d' with
  |lst ys => exact Gd
  |tup ys => exact Gd
  |dic kvs=>
   show (match CS d with|some k => R.ok (D.bl (!kvs.any fun p => p.1==k))|none => .bad) = .bad \/ ∃ b, (match CS d with|some k => R.ok (D.bl (!kvs.any fun p => p.1==k))|none => .bad) = .ok (.bl b)
   cases CS d with
   |some k => exact .inr ⟨_, rfl⟩
   |none => exact .inl rfl
  |_ => cases d <;> exact .inl rfl
 |Is=>
  cases d' with
  |non => cases d <;> first|exact .inr ⟨_, rfl⟩|exact .inl rfl
  |_ => cases d <;> first|exact .inl rfl|exact .inr ⟨_, rfl⟩
 |IsNot=>
  cases d' with
  |non => cases d <;> first|exact .inr ⟨_, rfl⟩|exact .inl rfl
  |_ => cases d <;> first|exact .inl rfl|exact .inr ⟨_, rfl⟩
 |_=>
  cases d with
  |int i => cases d' <;> first|exact .inr ⟨_, rfl⟩|exact .inl rfl
  |_ => exact .inl rfl
theorem Lg(op : CF)(d d' : D) : (Bb op d d').bind Bm = .bad \/ (Bb op d d').bind Bm = (Bb op d d').bind Cj := by
 rcases Pe op d d' with h|⟨b, h⟩
 ·rw[h];exact .inl rfl
 ·rw[h];exact .inr rfl
theorem Tx(e e' : E)(es : Es) : Rf (fun ρ => (evN Γ ρ (.cons e (.cons e' es))).bind Bm) (fun ρ => ((top ρ e (evE Γ ρ e)).bind Bm).bind fun c => if c = Ac then (evN Γ ρ (.cons e' es)).bind Bm else .ok Ad) := fun ρ => by
 have e0 : evN Γ ρ (.cons e (.cons e' es)) = (evE Γ ρ e).bind fun x => (Cj x).bind fun c => if c = Ac then evN Γ ρ (.cons e' es) else .ok (.bl Ad) := rfl
 dsimp only;rw[e0];rcases IS Γ e ρ with z|z <;> dsimp only at z
 ·rw[z];exact .inl rfl
 ·rw[<-z];cases evE Γ ρ e with
  |bad => exact .inl rfl
  |exn x => exact .inr rfl
  |ok d=>
   cases d with
   |bl b => cases b <;> exact .inr rfl
   |_ => exact .inl rfl
theorem Tw(e e' : E)(es : Es) : Rf (fun ρ => (evO Γ ρ (.cons e (.cons e' es))).bind Bm) (fun ρ => ((top ρ e (evE Γ ρ e)).bind Bm).bind fun c => if c = Ac then .ok Ac else (evO Γ ρ (.cons e' es)).bind Bm) := fun ρ => by
 have e0 : evO Γ ρ (.cons e (.cons e' es)) = (evE Γ ρ e).bind fun x => (Cj x).bind fun c => if c = Ac then .ok (.bl Ac) else evO Γ ρ (.cons e' es) := rfl
 dsimp only;rw[e0];rcases IS Γ e ρ with z|z <;> dsimp only at z
 ·rw[z];exact .inl rfl
 ·rw[<-z];cases evE Γ ρ e with
  |bad => exact .inl rfl
  |exn x => exact .inr rfl
  |ok d=>
   cases d with
   |bl b => cases b <;> exact .inr rfl
   |_ => exact .inl rfl
theorem Rf.tru(e : E) : Rf (fun ρ => (evE Γ ρ e).bind Bm) (fun ρ => (top ρ e (evE Γ ρ e)).bind Bm) := fun ρ => by
 rcases IS Γ e ρ with z|z <;> dsimp only at z ⊢
 ·rw[z];exact .inl rfl
 ·rw[<-z];exact .inr rfl
theorem Rh(S : Snd Γ CL k n)(W : XW)(T : Tc)(X : Cx)(xs : Ab Ao)(es : Es)(pos : AH)(v : VX Γ CL k W T X)(h : chkBs (n+1) T xs es = Ac)(hne : xs ≠ []) : SW X CL W (.BoolOp .And xs pos) (fun ρ => (evN Γ ρ es).bind Bm) /\ SW X CL W (.BoolOp .Or xs pos) (fun ρ => (evO Γ ρ es).bind Bm) := by
 cases xs with
 |nil => exact absurd rfl hne
 |cons x xs=>
  cases es with
  |nil => simp[chkBs]at h
  |cons e es=>
   simp only[chkBs, Am]at h;obtain⟨h1, h2⟩ := h;have he := S.b W T X x e v h1;cases xs with
   |nil=>
    cases es with
    |nil => exact⟨SW.ref (P6 he) (Rf.tru e), SW.ref (Ru he) (Rf.tru e)⟩
    |cons=>
     cases n with
     |zero => simp[chkBs]at h2
     |succ n => simp[chkBs]at h2
   |cons y ys=>
    cases es with
    |nil=>
     cases n with
     |zero => simp[chkBs]at h2
     |succ n => simp[chkBs]at h2
    |cons e' es'=>
     obtain⟨b1, b2⟩ := S.bs W T X (y::ys) (.cons e' es') pos v h2 (by simp)
     exact⟨SW.ref (Rv he b1) (Tx e e' es'), SW.ref (Um he b2) (Tw e e' es')⟩
theorem PY(S : Snd Γ CL k n){x:Ao}{ops:Ab CF}{b : BI}(v : VX Γ CL k W T X)(h : Mw T (AQ n) x ops ys b as = Ac) : SB X CL W (.Compare x ops ys pos) (fun ρ => (top ρ (.bi b as) (evE Γ ρ (.bi b as))).bind Bm) := by
 exact absurd (show Ad = Ac from h) Ap
theorem Ut(S : Snd Γ CL k n)(W : XW)(T : Tc)(X : Cx)(x : Ao)(c : E)(v : VX Γ CL k W T X)(h : FX (n+1) T x c = Ac) : SB X CL W x (fun ρ => (top ρ c (evE Γ ρ c)).bind Bm) := by
 have plain : ∀ e, IG e = Ac -> AQ n T e c = Ac -> SB X CL W e (fun ρ => (top ρ c (evE Γ ρ c)).bind Bm) := fun e h1 h2 => Sy (S.e W T X e c v h2).st (P3 h1)
 simp only[FX]at h;split at h
 ·split at h
  ·rename_i a;refine SB.ref (Sz (S.b W T X _ a v h)) fun ρ => ?_
   show ((top ρ a (evE Γ ρ a)).bind fun x => (Cj x).bind fun b => .ok (.bl (!b))).bind Bm = .bad \/ ((top ρ a (evE Γ ρ a)).bind fun x => (Cj x).bind fun b => .ok (.bl (!b))).bind Bm = _
   cases top ρ a (evE Γ ρ a) with
   |bad => exact .inl rfl
   |exn x => exact .inr rfl
   |ok d => cases d <;> first|exact .inr rfl|exact .inl rfl
  ·cases h
 ·split at h
  ·simp only[Am, Bf, Cn]at h;exact(S.bs W T X _ _ _ v h.1 h.2).1.sb
  ·cases h
 ·split at h
  ·simp only[Am, Bf, Cn]at h;exact(S.bs W T X _ _ _ v h.1 h.2).2.sb
  ·cases h
 ·split at h
  ·split at h
   ·rename_i op a b _ _ op' y;simp only[Am, Bf, A1]at h;obtain⟨⟨⟨rfl, h1⟩, h2⟩, h3⟩ := h;refine SB.ref (SD (F9 v.room.units _) (S.e W T X _ a v h2).st (S.e W T X _ b v h3).st h1) fun ρ => ?_
    show ((top ρ a (evE Γ ρ a)).bind fun x => (top ρ b (evE Γ ρ b)).bind fun y => Bb op' x y).bind Bm = .bad \/ ((top ρ a (evE Γ ρ a)).bind fun x => (top ρ b (evE Γ ρ b)).bind fun y => Bb op' x y).bind Bm = _
    cases top ρ a (evE Γ ρ a) with
    |bad => exact .inl rfl
    |exn x => exact .inr rfl
    |ok d=>
     cases top ρ b (evE Γ ρ b) with
     |bad => exact .inl rfl
     |exn x => exact .inr rfl
     |ok d'=>
      dsimp only[R.bind];exact Lg _ d d'
   ·cases h
  ·split at h
   ·rename_i op1 op2 a b c _ _ o1 o2 y z;simp only[Am, Bf, A1]at h;obtain⟨⟨⟨⟨⟨rfl, rfl⟩, h1⟩, h2⟩, h3⟩, h4⟩ := h;refine SB.ref (Pt v.room.units (S.e W T X _ a v h2).st (S.e W T X _ b v h3).st (S.e W T X _ c v h4).st h1) fun ρ => ?_
    show ((top ρ a (evE Γ ρ a)).bind fun x => (top ρ b (evE Γ ρ b)).bind fun y => (Bb o1 x y).bind fun z => (Cj z).bind fun k => if k = Ac then (top ρ c (evE Γ ρ c)).bind fun u => Bb o2 y u else .ok (.bl Ad)).bind Bm = .bad \/ ((top ρ a (evE Γ ρ a)).bind fun x => (top ρ b (evE Γ ρ b)).bind fun y => (Bb o1 x y).bind fun z => (Cj z).bind fun k => if k = Ac then (top ρ c (evE Γ ρ c)).bind fun u => Bb o2 y u else .ok (.bl Ad)).bind Bm = _
    cases top ρ a (evE Γ ρ a) with
    |bad => exact .inl rfl
    |exn x => exact .inr rfl
    |ok d=>
     cases top ρ b (evE Γ ρ b) with
     |bad => exact .inl rfl
     |exn x => exact .inr rfl
     |ok d'=>
      dsimp only[R.bind];cases Bb o1 d d' with
      |bad => exact .inl rfl
      |exn x => exact .inr rfl
      |ok d3=>
       cases d3 with
       |bl k=>
        cases k with
        |false => exact .inr rfl
        |true=>
         dsimp only[R.bind, Cj];rw[AE rfl, AE rfl];cases top ρ c (evE Γ ρ c) with
         |bad => exact .inl rfl
         |exn x => exact .inr rfl
         |ok d4 => exact Lg _ d' d4
       |_ => exact .inl rfl
   ·cases h
  ·exact PY S v h
  ·cases h
 ·simp only[Am]at h;exact plain _ h.1 h.2
end
section
variable{Γ : Gam}{CL : ClA}{W : XW}{k n : Ag}{T : Tc}{X : Cx}
theorem Vy{b : BI}{g:Aj}{x:Ao}(v : VX Γ CL k W T X)(hb : Jo b = Aa g)(hg : isB T g = Ac)(hs : SAT X CL W (x::xs) (fun ρ => evB Γ ρ as))(h0 : CP x = Ac)(hpl : ∀ pos, (Ck pos (AC xs X.env)).any (·.1) = Ad) : OkE Γ CL W X (.Call (.Name g p) (x::xs) [] pos) (.bi b as) := by
 obtain⟨g1, g2, g3, g4⟩ := GR v hg;cases b <;> simp only[Jo]at hb <;> cases hb
 ·exact CY (Hw SZ g1 g2 PySem.boot_len hs g3 g4 (Ch h0) hpl) (fun _ _ => rfl) rfl rfl
 ·exact CY (Hw (SY v.calm) g1 g2 PyProof.Rows.boot_max hs g3 g4 (Ch h0) hpl) (fun _ _ => rfl) rfl rfl
 ·exact CY (Hw (SX v.calm) g1 g2 PyProof.Rows.boot_min hs g3 g4 (Ch h0) hpl) (fun _ _ => rfl) rfl rfl
 ·exact Jh (Rl Qt g1 g2 Nx hs g3 g4 (Ch h0) hpl) (fun _ _ => rfl) rfl
 ·exact CY (Sv Pf g1 g2 Ny hs g3 g4 (Ch h0) hpl) (fun _ _ => rfl) rfl rfl
 ·exact CY (Hw (Tv v.calm) g1 g2 PyProof.Rows.boot_all hs g3 g4 (Ch h0) hpl) (fun _ _ => rfl) rfl rfl
theorem Ie{x:Ao}{es : Es}(h : chkEs n T (x::xs) es = Ac) : CP x = Ac /\ ∃ e es', es = .cons e es' /\ ∃ m, n = m+1 /\ chkEs m T xs es' = Ac := by
 cases n with
 |zero => simp[chkEs]at h
 |succ m=>
  cases es with
  |nil => simp[chkEs]at h
  |cons e es=>
   simp only[chkEs, Am]at h;exact⟨h.1.1, e, es, rfl, m, rfl, h.2⟩
theorem JY : ∀(m : Ag)(xs : Ab Ao)(es : Es), chkEs m T xs es = Ac -> ∀ pos, (Ck pos (AC xs X.env)).any (·.1) = Ad := by
 intro m
 induction m with
 |zero => intro xs es h;simp[chkEs]at h
 |succ m ih=>
  intro xs es h pos;cases xs with
  |nil => rfl
  |cons x xs=>
   obtain⟨h0, e, es', rfl, m', e1, h1⟩ := Ie h;cases e1;exact Ke h0 (ih xs es' h1 pos)
theorem SH(S : Snd Γ CL k n){x:Ao}{b : BI}(v : VX Γ CL k W T X)(h : (match JH as with|some a => (match Mk x with|some y => decide (b = .rvs)&&AQ n T y a|none => Ad)|none => Ad) = Ac) : OkE Γ CL W X x (.bi b as) := by
 simp[JH]at h
theorem Rt(S : Snd Γ CL k n){x:Ao}{b : BI}(v : VX Γ CL k W T X)(h : (match Jr as with|some (a, c) => (match MK x with|some (y, z, _) => decide (b = .tlt) && !behindInMarks .Lt z&&AQ n T y a&&AQ n T z c|none => Ad)|none => Ad) = Ac) : OkE Γ CL W X x (.bi b as) := by
 simp[Jr]at h
theorem S6{x:Ao}{b : BI}(v : VX Γ CL k W T X)(h : MG T x b as = Ac) : OkE Γ CL W X x (.bi b as) := by
 exact absurd h Ap
theorem Rw(S : Snd Γ CL k n){x:Ao}{b : BI}(v : VX Γ CL k W T X)(h : (match Js as with|some (a, k) => (match Mz x with|some (y, j) => decide (b = .stp)&&decide (j = k)&&decide (0 <= k)&&AQ n T y a|none => Ad)|none => Ad) = Ac) : OkE Γ CL W X x (.bi b as) := by
 simp[Js]at h
theorem Tg(S : Snd Γ CL k n){x:Ao}{b : BI}(v : VX Γ CL k W T X)(h : (match Jv as with|some (a, c) => (match MR x with|some (g, h, y, z) => decide (b = .list)&&g==("list" : Aj)&&h==("range" : Aj)&&isB T g&&isB T h&&CP y&&CP z&&AQ n T y a&&AQ n T z c|none => Ad)|none => Ad) = Ac) : OkE Γ CL W X x (.bi b as) := by
 simp[Jv]at h
theorem QF(S : Snd Γ CL k n){x:Ao}{b : BI}(v : VX Γ CL k W T X)(h : (match Jt as with|some a => (match MQ x with|some (g, h, y) => decide (b = .lset)&&g==("len" : Aj)&&h==("set" : Aj)&&isB T g&&isB T h&&CP y&&AQ n T y a|none => Ad)|none => Ad) = Ac) : OkE Γ CL W X x (.bi b as) := by
 simp[Jt]at h
theorem Us(S : Snd Γ CL k n)(W : XW)(T : Tc)(X : Cx)(x : Ao)(c : E)(v : VX Γ CL k W T X)(h : AQ (n+1) T x c = Ac) : OkE Γ CL W X x c := by
 cases c with
 |non=>
  unfold AQ at h;dsimp only at h;split at h
  ·exact CY Sn (fun _ _ => rfl) rfl rfl
  ·cases h
 |bl b=>
  unfold AQ at h;dsimp only at h;split at h
  ·have e := eq_of_beq h;subst e;exact CY T4 (fun _ _ => rfl) rfl rfl
  ·cases h
 |int i=>
  unfold AQ at h;dsimp only at h;split at h
  ·have e := Wf h;subst e;exact CY Sq (fun _ _ => rfl) rfl rfl
  ·cases h
 |str i=>
  unfold AQ at h;dsimp only at h;split at h
  ·have e := Wf h;subst e;exact CY Sj (fun _ _ => rfl) rfl rfl
  ·cases h
 |var i=>
  unfold AQ at h;dsimp only at h;split at h
  ·exact⟨Sh (FQ v h), Ri (FQ v h), fun z => (nomatch z), fun z => (nomatch z)⟩
  ·cases h
 |glob g => exact absurd (show Ad = Ac from h) Ap
 |bin op a b=>
  unfold AQ at h;dsimp only at h;split at h
  ·simp only[Am, A1]at h;obtain⟨⟨rfl, h1⟩, h2⟩ := h;have ha := (S.e W T X _ a v h1).st;have hb := (S.e W T X _ b v h2).st;refine⟨Lz (Lp _) ha hb, (Lz (Lp _) ha hb).st, fun z => ?_, fun z => nomatch z⟩
   rename_i op' _ _;cases op' <;> first|exact Rm ha hb|cases z
  ·cases h
 |un op a => exact absurd (show Ad = Ac from h) Ap
 |no a=>
  unfold AQ at h;dsimp only at h;split at h
  ·exact CY (Sk (S.e W T X _ a v h).st) (fun _ _ => rfl) rfl rfl
  ·cases h
 |and es=>
  unfold AQ at h;dsimp only at h;split at h
  ·simp only[Am, Bf, Cn]at h;exact CY ((S.es W T X _ es v h.1).2.2.2.1 _ h.2).1 (fun _ _ => rfl) rfl rfl
  ·cases h
 |or es=>
  unfold AQ at h;dsimp only at h;split at h
  ·simp only[Am, Bf, Cn]at h;exact CY ((S.es W T X _ es v h.1).2.2.2.1 _ h.2).2 (fun _ _ => rfl) rfl rfl
  ·cases h
 |cmp op a b=>
  unfold AQ at h;dsimp only at h;split at h
  ·simp only[Am, Bf, A1]at h;obtain⟨⟨⟨rfl, h1⟩, h2⟩, h3⟩ := h;exact CY (Su (F9 v.room.units _) (S.e W T X _ a v h2).st (S.e W T X _ b v h3).st h1) (fun _ _ => rfl) rfl rfl
  ·cases h
 |cmp2 op1 op2 a b c=>
  unfold AQ at h;dsimp only at h;split at h
  ·simp only[Am, Bf, A1]at h;obtain⟨⟨⟨⟨⟨rfl, rfl⟩, h1⟩, h2⟩, h3⟩, h4⟩ := h;exact CY (Ps v.room.units (S.e W T X _ a v h2).st (S.e W T X _ b v h3).st (S.e W T X _ c v h4).st h1) (fun _ _ => rfl) rfl rfl
  ·cases h
 |ite c a b => exact absurd (show Ad = Ac from h) Ap
 |call f as=>
  unfold AQ at h;dsimp only at h;split at h
  ·rename_i g pp y ys qq;simp only[Am, M7, Bc, A1]at h;obtain⟨⟨⟨⟨⟨p, hp, ⟨rfl, rfl⟩, hl⟩, h900⟩, h1⟩, h2⟩, h3⟩ := h;obtain⟨fa, fd, ps, m1, m2, m3, m4, m5, _⟩ := v.fn p hp;have hlt : p.2.2<1000 := by omega
   rw[Nat.mod_eq_of_lt hlt]at m4 m5;have m5 := m5 hlt;obtain⟨n2, n3, n4⟩ := IL h2;obtain⟨a1, a2, a3, a4, a5⟩ := S.es W T X _ as v h3;obtain⟨s0, e, es', rfl, m, rfl, s1⟩ := Ie h3;have q : SC X CL W (Γ.fr p.2.1) (.Call (.Name p.1 pp) (y::ys) [] qq) (fun ρ => evE Γ ρ (.call p.2.1 (.cons e es'))) := PK (sh := fun ρ => Fx ρ (.cons e es')) m5 v.room (by unfold glB at h1;show X.env.scope.names.lookup p.1 = _;rw[v.sc];exact eq_of_beq h1) m1 m2 m3 v.px a1 a2 (fun ρ z => LI Γ ρ _ z) (fun ρ ds z => by rw[Lc Γ ρ _ _ z, <-a3, hl];rfl) n2 (Ch s0) (JY m ys es' s1)
   exact⟨q.se, q.se.st, fun z => by
    have z' : Γ.fr p.2.1 = Ac := z;rw[z']at q;exact q, fun z => nomatch z⟩
  ·cases h
 |bi b as=>
  unfold AQ at h;dsimp only at h;simp only[Cy]at h;rcases h with (((((h|h)|h)|h)|h)|h)|h
  ·split at h
   ·simp only[Am, Bc]at h;obtain⟨⟨h1, h2⟩, h3⟩ := h;obtain⟨s0, e, es', rfl, m, rfl, s1⟩ := Ie h3;exact Vy v h1 h2 (S.es W T X _ _ v h3).2.1 s0 (JY m _ es' s1)
   ·cases h
  ·exact S6 v h
  ·exact Tg S v h
  ·exact Rw S v h
  ·exact QF S v h
  ·exact Rt S v h
  ·exact SH S v h
 |isi a ks=>
  cases ks with
  |nil => exact absurd (show Ad = Ac from h) Ap
  |cons k' ks=>
   cases ks with
   |cons => exact absurd (show Ad = Ac from h) Ap
   |nil=>
    unfold AQ at h;dsimp only at h;split at h
    ·simp only[Am, Bc]at h;obtain⟨⟨⟨⟨⟨rfl, h1⟩, h2⟩, h3⟩, h4⟩, h5⟩ := h;obtain⟨g1, g2, _, _⟩ := GR v h1;obtain⟨b1, b2, b3, b4⟩ := GR v h3;obtain⟨ty, t1, t2⟩ := Vx h2;exact CY (So t1 g1 g2 b1 b2 t2 b3 b4 (S.e W T X _ a v h5).st (Ch h4)) (fun _ _ => rfl) rfl rfl
    ·cases h
 |idx a i=>
  unfold AQ at h;dsimp only at h;split at h
  ·simp only[Am]at h;obtain⟨⟨h1, h2⟩, h3⟩ := h;exact CY (Sr v.room.units (Pp h1) (S.e W T X _ a v h2).st (S.e W T X _ i v h3).st) (fun _ _ => rfl) rfl rfl
  ·cases h
 |sl a lo hi=>
  unfold AQ at h;dsimp only at h;split at h
  ·simp only[Am]at h;obtain⟨⟨h1, h2⟩, h3⟩ := h;refine Jh (SC.congr (Uv (S.e W T X _ a v h1).st (S.o W T X _ lo v h2) (S.o W T X _ hi v h3)) fun ρ => ?_) (fun _ _ => rfl) rfl
   show ((top ρ a (evE Γ ρ a)).bind fun x => (top ρ lo (evE Γ ρ lo)).bind fun l => (slE lo l).bind fun l' => (top ρ hi (evE Γ ρ hi)).bind fun h => (slE hi h).bind fun h' => slD x l' h') = _
   simp only[R.bind_assoc]
  ·cases h
 |tup es=>
  unfold AQ at h;dsimp only at h;split at h
  ·simp only[Am, A1]at h;have q := S.es W T X _ es v h.1;exact CY (Si q.1 fun ρ ds z => by rw[IP Γ ρ _ _ z, <-q.2.2.1];omega) (fun _ _ => rfl) rfl rfl
  ·cases h
 |lst es=>
  unfold AQ at h;dsimp only at h;split at h
  ·simp only[Am, A1]at h;have q := S.es W T X _ es v h.1;exact Jh (Rk q.1 fun ρ ds z => by rw[IP Γ ρ _ _ z, <-q.2.2.1];omega) (fun _ _ => rfl) rfl
  ·cases h
 |comp elt t it c=>
  unfold AQ at h;dsimp only at h;split at h
  ·simp only[Am]at h;obtain⟨⟨⟨⟨⟨h1, h2⟩, h3⟩, h4⟩, h5⟩, h6⟩ := h;refine UH v.calm ⟨_, _, _, _, _, _, _, _, _, _, _, _, _, rfl, (LK v h3).1, S.i W T X Ad _ _ it v rfl h1, QK t, fun cl C s H fp => PZ (v.blk h3) (fun z => Bc.mpr z) h4, fun cl C s H fp => S.t _ _ _ c (v.blk h3) h5, fun cl C s H fp => (S.e W0 _ _ _ elt (v.blk h3) h6).se, Jd h2, fun ρ => rfl⟩ (fun _ _ => rfl)
  ·cases h
 |compT elt ts it c => exact absurd (show Ad = Ac from h) Ap
 |tupI it => exact absurd (show Ad = Ac from h) Ap
 |dget i a c=>
  unfold AQ at h;dsimp only at h;cases q : xMt x with
  |none => rw[q]at h;cases h
  |some t=>
   obtain⟨x, m, y, z⟩ := t;rw[q]at h;simp only[Am, Bc]at h;obtain⟨⟨⟨⟨⟨rfl, h1⟩, h2⟩, h3⟩, h4⟩, h5⟩ := h;obtain⟨p, ap, cp, rfl, hl⟩ := Ls q;have hu := v.room.units;exact CY (se_dget (by omega) (FQ v h1) (S.e W T X _ a v h4).st (S.e W T X _ c v h5).se rfl (by rw[Ch h2, Ch h3];rfl) (by rw[hl];exact Dw _) (Ch h2) (Ch h3) (by rw[Ch h3];rfl)) (fun _ _ => rfl) rfl rfl
 |fld o f => exact absurd (show Ad = Ac from h) Ap
theorem snd : ∀ n, Snd Γ CL k n
 |0 => Po
 |n+1 => ⟨Us (snd n), Ut (snd n), Rh (snd n), Rg (snd n), Uq (snd n), Uo (snd n), Ur (snd n)⟩
end
section
variable{Γ : Gam}{CL : ClA}{W : XW}{k n : Ag}{T : Tc}{X : Cx}
theorem P1{t : Ag}(v : VX Γ CL k W T X)(hf : ∀ x, X.fn x = Ac)(h : tgC T [t] [x] = Ac) : PG X (.Name x pos) (Eb t) := by
 unfold tgC at h;simp only[Am, Bc]at h;exact Ho (by rw[v.N];exact v.nd) (by rw[v.N];exact h.1.1) (by rw[v.sc];exact Ht h.1.2) (.inl (hf x))
theorem P2(v : VX Γ CL k W T X)(hf : ∀ x, X.fn x = Ac) : ∀(ys : Ab Ao)(ts : Ab Ag)(zs : Ab Aj), Et ys = Aa zs -> tgC T ts zs = Ac -> PGs X ys (ts.foldr (fun t u => GY (Eb t) u) G5) /\ ts.length = ys.length := by
 intro ys
 induction ys with
 |nil=>
  intro ts zs e h;cases e;cases ts with
  |nil => exact⟨Q2, rfl⟩
  |cons t ts => cases h
 |cons y r ih=>
  intro ts zs e h;obtain⟨x, p, ws, rfl, e2, rfl⟩ := Ka e;cases ts with
  |nil => cases h
  |cons t ts=>
   have h' : (T.N[t]? == Aa x&&FW T x&&tgC T ts ws) = Ac := h;simp only[Am, Bc]at h';obtain⟨h1, h2⟩ := ih ts ws e2 h'.2;exact⟨O0 (Ho (by rw[v.N];exact v.nd) (by rw[v.N];exact h'.1.1) (by rw[v.sc];exact Ht h'.1.2) (.inl (hf x))) h1 (by rw[Kq];rfl), congrArg (· + 1) h2⟩
theorem P0{kk:Ag}(v : VX Γ CL k W T X)(hf : ∀ x, X.fn x = Ac)(hn : (Et ys).isSome = Ac)(h : tgC T ts (tgN ys) = Ac) : PG X (.Tuple ys kk pos) (JF X.K ts.length (ts.foldr (fun t u => GY (Eb t) u) G5)) := by
 cases e : Et ys with
 |none => rw[e]at hn;cases hn
 |some zs=>
  have e2 : tgN ys = zs := by unfold tgN;rw[e];rfl
  rw[e2]at h;obtain⟨h1, h2⟩ := P2 v hf ys ts zs e h;obtain⟨h3, h4, _⟩ := Od (env := X.env) ys zs e;exact R8 v.calm h1 (by rw[h3, h2]) h4
theorem Ox(ts : Ab Ag) : ∀ d ρ x, Ea ts d ρ ≠ .exn x := fun d ρ x h => by
 unfold Ea at h;cases d with
 |tup xs=>
  dsimp only at h;cases e : D9 ts xs ρ with
  |some r => rw[e]at h;cases h
  |none => rw[e]at h;cases h
 |_ => cases h
theorem Pl{elt:Ao}{gs:Ab Comprehension}{pos':AH} : ∃ b, CO (.ListComp elt gs scope pos) (Aa (.Name x pos')) l env = pure b /\ (b = Ac -> env.scope.names.lookup x = Aa .local) := by
 refine⟨_, rfl, fun h => ?_⟩
 simp only[Am, Bc]at h;exact h.1.1.2
theorem Je{v0:Ao}{i : Ag}{e : E}(v : VX Γ CL k W T X)(hf : ∀ x, X.fn x = Ac)(hi : T.N[i]? = Aa x)(hl : FW T x = Ac)(o : OkE Γ CL W X v0 e)(hfr : fr = Ac -> Dh Γ e = Ac) : SAs X CL W fr i (.Assign [.Name x p] v0 pos) (fun ρ => evE Γ ρ e) := by
 have hN : X.N.Nodup := by rw[v.N];exact v.nd
 have hi' : X.N[i]? = Aa x := by rw[v.N];exact hi
 have hx : Loc X.env.scope x := by rw[v.sc];exact Ht hl
 have sc : SC X CL W fr v0 (fun ρ => evE Γ ρ e) := by
  cases fr with
  |false => exact o.se.sc
  |true => exact o.nw (hfr rfl)
 cases hc : Gi v0 with
 |true => exact SC.sas hN hi' hx sc (Le hc) (.inl (hf x))
 |false=>
  obtain⟨tg, iter, elt, ifs, scope, pos2, N', ts, fi, fc, fe, as, g, rfl, B, h2, hGG, hg, ht, he, hs, ef⟩ := o.cp hc;obtain⟨b, hb, hb'⟩ := Pl (elt := elt) (gs := [⟨tg, iter, ifs, 0⟩]) (scope := scope) (pos := pos2) (pos' := p) (x := x) (l := pos.line) (env := X.env);cases b with
  |false => exact SC.sas hN hi' hx sc hb (.inl (hf x))
  |true=>
   have q := Pv (pos2 := pos) v.calm B h2 hGG hg ht he hs hN hi' (hb' rfl) hb;have q' : SAs X CL W Ac i (.Assign [.Name x p] (.ListComp elt [⟨tg, iter, ifs, 0⟩] scope pos2) pos) (fun ρ => evE Γ ρ e) := by
    have : (fun ρ => evE Γ ρ e) = _ := funext ef
    rw[this];exact q
   cases fr with
   |true => exact q'
   | false => exact fun A => PS.weak (q' A) fun D σ H ⟨hA, ρ, gd, z⟩ => ⟨hA, ρ, gd, by
     dsimp only at z ⊢;cases e0 : evE Γ ρ e with
     |ok d=>
      rw[e0]at z;exact fun v' H' s' r' => z v' H' s' ⟨r'.1, fun _ => r'.2 rfl⟩
     |exn y => rw[e0]at z;exact z
     | bad => rw[e0]at z;exact z⟩
theorem Lk{e t : Ao}(h : ∀ x p, t ≠ .Name x p) : Fd [t] e l env = pure Ad := by
 show CO e (Aa t) l env = pure Ad;cases e <;> first|rfl|(cases t <;> first|rfl|exact absurd rfl (h _ _))
theorem Kn(ρ : Rho)(e : E)(h : ∀ i, e ≠ .var i) : evS Γ ρ (.ret e) = O.of ρ (evE Γ ρ e) fun d => .ret d (Dh Γ e) := by
 cases e <;> first|exact absurd rfl (h _)|(simp only[evS, top, Bool.or_false])
structure DefX (X : Cx) : Prop where
 fn : ∀ x, X.fn x = Ac
 ex : X.ex = []
 st : X.stack = X.env::X.outer
 fm : X.env.frame = Aa X.env.locals
structure SndS (Γ : Gam) (CL : ClA) (k : Ag) (n : Ag) : Prop where
 s : ∀(W : XW)(T : Tc)(X : Cx)(x : A7)(c : S), VX Γ CL k W T X -> DefX X -> Dv n T x c = Ac -> SS X CL W x (fun ρ => evS Γ ρ c)
 ss : ∀(W : XW)(T : Tc)(X : Cx)(x : Ab A7)(c : Ss), VX Γ CL k W T X -> DefX X -> chkSs n T x c = Ac -> SSs X CL W x (fun ρ => evSs Γ ρ c)
theorem VX.pw(v : VX Γ CL k W T X){pI:Ab (Ai × Ay)}{Xw:Ah -> Ak -> Prop}(own : DA (model X.prog X.w) X.A X.env Xw) : VX Γ CL k W0 T (Cx.pw X pI Xw) := ⟨v.sc, v.kd, v.N, v.nd, v.calm, v.room, v.bl, v.fn, own, LB, Mj, v.xt, v.gl⟩
theorem STB.congr{st : Ab A7}{f g : Rho -> O}(h : STB X CL st f)(e : ∀ ρ, g ρ = f ρ) : STB X CL st g := by
 have : g = f := funext e;rw[this];exact h
theorem Up(Z : SndS Γ CL k n)(W : XW)(T : Tc)(X : Cx)(st : A7)(c : S)(v : VX Γ CL k W T X)(hf : DefX X)(h : Dv (n+1) T st c = Ac) : SS X CL W st (fun ρ => evS Γ ρ c) := by
  have E := snd (Γ := Γ) (CL := CL) (k := k) n;cases c with
  |pass => exact absurd (show Ad = Ac from h) Ap
  |brk => exact absurd (show Ad = Ac from h) Ap
  |cont => exact absurd (show Ad = Ac from h) Ap
  |asg i fresh e=>
    unfold Dv at h;dsimp only at h;split at h
    · simp only[Am, Bc]at h;obtain⟨⟨h1, h2⟩, h3⟩ := h;have o := E.e W T X _ e v h3;cases fresh with
      |false => exact Lx (Je (fr := Ad) v hf.fn h1 h2 o (fun z => nomatch z))
      |true=>
        cases hn : Dh Γ e with
        |true=>
          refine SS.ref (Qf (Je (fr := Ac) v hf.fn h1 h2 o (fun _ => hn))) fun ρ => .inr ?_
          show O.of ρ (evE Γ ρ e) (fun d => if Ac = Ac then (if Dh Γ e = Ac then (match d with
            |.lst xs => .next (ρ.set i (Aa (.lst xs, Ac)))
            | _ => .bad) else .bad) else .next (ρ.set i (Aa (d, Ad)))) = _
          rw[hn];rfl
        |false=>
          refine SS.ref (Lx (Je (fr := Ad) v hf.fn h1 h2 o (fun z => nomatch z))) fun ρ => ?_
          have e0 : evS Γ ρ (.asg i Ac e) = O.of ρ (evE Γ ρ e) (fun d => if Ac = Ac then (if Dh Γ e = Ac then (match d with
            |.lst xs => .next (ρ.set i (Aa (.lst xs, Ac)))
            | _ => .bad) else .bad) else .next (ρ.set i (Aa (d, Ad)))) := rfl
          rw[e0, hn];cases evE Γ ρ e with
          |ok d => exact .inl rfl
          |exn y => exact .inr rfl
          |bad => exact .inl rfl
    · cases h
  |asgT ts e => exact absurd (show Ad = Ac from h) Ap
  |expr e=>
    unfold Dv at h;dsimp only at h;split at h
    · simp only[Am]at h;exact Qe (E.e W T X _ e v h.2).se (Le h.1)
    · cases h
  |ret e=>
    unfold Dv at h;dsimp only at h;split at h
    · have o := E.e W T X _ e v h;cases hv : Dh Γ e with
      |true=>
        refine SS.ref (Qd (o.nw hv)) fun ρ => .inr ?_
        rw[Kn ρ e (fun i z => by subst z;cases hv), hv]
      |false=>
        cases e with
        |var i=>
          cases n with
          |zero => exact absurd (show Ad = Ac from h) Ap
          |succ n=>
            unfold AQ at h;dsimp only at h;split at h
            · exact Qb (FQ v h)
            · cases h
        |_=>
          refine SS.ref (Qc o.se) fun ρ => .inr ?_
          rw[Kn ρ _ (by intro i z;cases z), hv]
    · cases h
  |retN => exact absurd (show Ad = Ac from h) Ap
  |ife c a b=>
    unfold Dv at h;dsimp only at h;split at h
    · simp only[Am]at h;exact Uu (E.b W T X _ c v h.1.1) (Z.ss W T X _ a v hf h.1.2) (Z.ss W T X _ b v hf h.2)
    · cases h
  |fors t it body=>
    unfold Dv at h;dsimp only at h;split at h
    · simp only[Am]at h;obtain⟨⟨⟨h1, h2⟩, h3⟩, h4⟩ := h;exact Lw v.own v.calm (QJ t) (P1 v hf.fn h1) (E.i W T X Ad _ _ it v rfl h3) (Z.ss W T X _ body v hf h4) (Jd h2) (fun _ _ _ z => nomatch z)
    · cases h
  |forT ts it body=>
    unfold Dv at h;dsimp only at h;split at h
    · simp only[Am]at h;obtain⟨⟨⟨⟨h0, h1⟩, h2⟩, h3⟩, h4⟩ := h;exact Lw v.own v.calm (Tq ts) (P0 v hf.fn h0 h1) (E.i W T X Ac _ _ it v rfl h3) (Z.ss W T X _ body v hf h4) (Jd h2) (Ox ts)
    · cases h
  |whl c body => exact absurd (show Ad = Ac from h) Ap
  |rais c as=>
    unfold Dv at h;dsimp only at h;cases hc : T.rzs.any (fun p => p.2==c) with
    |false=>
      have hb : ∀ ds, Γ.xn c ds = .bad := v.xt.xb c fun p hp z => by
        have : T.rzs.any (fun p => p.2==c) = Ac := List.any_eq_true.mpr ⟨p, hp, Bc.mpr z⟩
        rw[hc]at this;cases this
      intro Fz B pI s σ H D I ⟨ρ, x, p⟩;have p' : BK X.K CL Fz B W (O.of ρ (noX (evA Γ ρ as)) fun xs => O.of ρ (Γ.xn c xs) fun x => .exn x ρ) D := p
      cases e1 : evA Γ ρ as with
      |bad => rw[e1]at p';exact p'.elim
      |exn y => rw[e1]at p';exact p'.elim
      |ok ds=>
        rw[e1]at p';have p2 : BK X.K CL Fz B W (O.of ρ (Γ.xn c ds) fun x => .exn x ρ) D := p'
        rw[hb ds]at p2;exact p2.elim
    |true => rw[hc]at h;cases h
  |app i e => exact absurd (show Ad = Ac from h) Ap
  |ext i e => exact absurd (show Ad = Ac from h) Ap
  |rev i => exact absurd (show Ad = Ac from h) Ap
  |clr i => exact absurd (show Ad = Ac from h) Ap
  |put i k e=>
    unfold Dv at h;dsimp only at h;split at h
    · simp only[Am]at h;obtain⟨⟨⟨h1, h2⟩, h4⟩, h5⟩ := h;rename_i x p y sp v0 pos;exact Rj (FQ v h1) (E.e W T X _ k v h4).st (E.e W T X _ e v h5).se (fun w => by cases y <;> first|rfl|cases h2) (Lk (fun _ _ z => by cases z)) rfl rfl
    · cases h
  |tryx body c x hh => exact absurd (show Ad = Ac from h) Ap
  |try2 body c x hd c' hd' els => exact absurd (show Ad = Ac from h) Ap
  |swp i k l => exact absurd (show Ad = Ac from h) Ap
  |apop j i e => exact absurd (show Ad = Ac from h) Ap
  |ins => exact absurd (show Ad = Ac from h) Ap
  |dnw i=>
    unfold Dv at h;dsimp only at h;split at h
    · simp only[Am, Bc]at h;obtain⟨⟨h1, h2⟩, h3⟩ := h;obtain⟨p, rfl⟩ := Qm h3;exact ss_dnw (by rw[v.N];exact v.nd) (by rw[v.N];exact h1) (by rw[v.sc];exact Ht h2) rfl (.inl (hf.fn _))
    · cases h
  |dput i k e=>
    unfold Dv at h;dsimp only at h;split at h
    · simp only[Am]at h;obtain⟨⟨⟨h1, h2⟩, h4⟩, h5⟩ := h;rename_i x p y sp v0 pos;have hu := v.room.units;exact ss_dput (by omega) (FQ v h1) (E.e W T X _ k v h4).st (E.e W T X _ e v h5).se (fun w => by cases y <;> first|rfl|cases h2) (Lk (fun _ _ z => by cases z)) rfl rfl
    · cases h
  |dsd i k e=>
    unfold Dv at h;dsimp only at h;split at h
    · rename_i w pos;cases q : xMt w with
      |none => rw[q]at h;cases h
      |some t=>
        obtain⟨x, m, y, z⟩ := t;rw[q]at h;simp only[Am, Bc]at h;obtain⟨⟨⟨⟨⟨rfl, h1⟩, h2⟩, h3⟩, h4⟩, h5⟩ := h;obtain⟨p, ap, cp, rfl, hl⟩ := Ls q;have hu := v.room.units;exact ss_dsd (by omega) (FQ v h1) (E.e W T X _ k v h4).st (E.e W T X _ e v h5).se rfl (by rw[Ch h2, Ch h3];rfl) (by rw[hl];exact Dw _) (Ch h2) (Ch h3) (by rw[Ch h3];rfl) rfl
    · cases h
  |rel => exact absurd (show Ad = Ac from h) Ap
theorem Rx(Z : SndS Γ CL k n)(W : XW)(T : Tc)(X : Cx)(xs : Ab A7)(c : Ss)(v : VX Γ CL k W T X)(hf : DefX X)(h : chkSs (n+1) T xs c = Ac) : SSs X CL W xs (fun ρ => evSs Γ ρ c) := by
 cases c with
 |nil=>
  simp only[chkSs, List.isEmpty_iff]at h;subst h;exact Qa
 |cons s ss=>
  by_cases hr : ∃ i, s = .rel i
  ·obtain⟨i, rfl⟩ := hr;simp only[chkSs]at h;exact P9 i (Z.ss W T X xs ss v hf h)
  ·cases xs with
   |nil => cases s <;> first|(simp[chkSs]at h;done)|exact absurd ⟨_, rfl⟩ hr
   |cons st r=>
    have h' : Dv n T st s = Ac /\ chkSs n T r ss = Ac := by
     cases s <;> first|(simp only[chkSs, Am]at h;exact h)|exact absurd ⟨_, rfl⟩ hr
    exact Pn (Z.s W T X st s v hf h'.1) (Z.ss W T X r ss v hf h'.2)
theorem JC : ∀ n, SndS Γ CL k n
 |0 => ⟨fun _ _ _ _ _ _ _ h => absurd (show Ad = Ac from h) Ap, fun _ _ _ _ _ _ _ h => absurd (show Ad = Ac from h) Ap⟩
 |n+1 => ⟨Up (JC n), Rx (JC n)⟩
end
theorem GE{n:Ag}{ds : Ab D}{i : Ag}{d:D}{o : An}(h : (BU n ds)[i]? = Aa (Aa (d, o))) : o = Ad /\ ds[i]? = Aa d := by
 unfold BU at h;by_cases hi : i<ds.length
 ·rw[C3 (by simpa using hi), Dd]at h
  cases e : ds[i]? with
  |none => rw[e]at h;cases h
  |some x => rw[e]at h;cases h;exact⟨rfl, rfl⟩
 ·rw[Nc (by simpa using Nat.le_of_not_lt hi), Nd]at h
  split at h <;> cases h
theorem OM{N : Ab Aj}{i : Ag}{v:V}(h : vs[i]? = Aa v) : (L2.start N vs)[i]? = Aa (Aa v) := by
 unfold L2.start;have hi := (AR.mp h).1;rw[C3 (by simpa using hi), Dd, h]
 rfl
theorem Pk{K:Fg}{A:Ai -> Prop}{N : Ab Aj}{n:Ag}{ds : Ab D}(hn : N.length = n)(hA : AOk H A)(r : Reps K CL H A vs ds) : Sx K CL (fun b o => H b = Aa o) A (BU n ds) (L2.start N vs) H := by
 have own : ∀ a, BB A (BU n ds) (L2.start N vs) a -> A a := fun a h => by
  rcases h with h|⟨j, d, h, _⟩
  ·exact h
  ·exact absurd (GE h).1 (by decide)
 have hlen : (BU n ds).length = (L2.start N vs).length := by
  unfold BU L2.start;simp only[BW, B0, Nh, r.length, hn]
 refine⟨⟨fun i d h => ?_, fun i d h => absurd (GE h).1 (by decide), hlen⟩, fun a h => hA a (own a h), fun j d a h _ => absurd (GE h).1 (by decide), fun i j d e a h _ _ _ => absurd (GE h).1 (by decide), fun b o h => h, hlen⟩
 obtain⟨v, h1, h2⟩ := r.get (GE h).2;exact⟨v, OM h1, Rep.sub own _ h2⟩
noncomputable def Gs(K : Fg)(mg : Aj -> Al Ah)(fns : Ab (Aj × Ag × Ag))(bl : Ab Aj)(rzs exs gls : Ab (Aj × Ag))(Pg : Prg)(fuel : Ag)(p : Aj × Ag × Ag) : Prop := ∃ f fd ps qual st N, mg p.1 = Aa (.ref f) /\ Fun K p.1 qual st f fd /\ EC K fd ps [] /\ ps.length = p.2.2%1000 /\ EE fuel (CU 1000 p.2.2) fns bl rzs exs gls ps N st (Pg.defs p.2.1) = Ac
structure Tab (K : Fg) (mg : Aj -> Al Ah) (CL : ClA) (fns : Ab (Aj × Ag × Ag)) (bl : Ab Aj) (rzs exs gls : Ab (Aj × Ag)) (Pg : Prg) (fuel : Ag) : Prop where
 xt : XT Pg.up Pg.xn CL rzs exs K mg
 bln : ∀ x, x ∈ bl -> mg x = Af
 gl : ∀ p ∈ gls, JM K mg CL p.1 (Pg.G p.2)
 fn : ∀ p ∈ fns, Gs K mg fns bl rzs exs gls Pg fuel p
theorem Tt(Pg : Prg)(n i : Ag) : (gam Pg n).fr i = (Pg.defs i).fr := by cases n <;> rfl
theorem Ts(Pg : Prg)(n : Ag) : (gam Pg n).up = Pg.up := by cases n <;> rfl
theorem Vt(Pg : Prg)(n : Ag) : (gam Pg n).G = Pg.G := by cases n <;> rfl
theorem Tr(Pg : Prg)(n : Ag) : (gam Pg n).xn = Pg.xn := by cases n <;> rfl
section
variable{P : Az}{w : AF}{K : Fg}{mg : Aj -> Al Ah}{base : AB}{CL : ClA}{fns : Ab (Aj × Ag × Ag)}{bl : Ab Aj}{rzs exs gls : Ab (Aj × Ag)}{Pg : Prg}{fuel : Ag}
noncomputable def Lvl(P : Az)(w : AF)(K : Fg)(mg : Aj -> Al Ah)(base : AB)(CL : ClA)(Pg : Prg)(n : Ag)(p : Aj × Ag × Ag) : Prop := ∃ f fd ps, mg p.1 = Aa (.ref f) /\ B9 K (.ref f) = Ac /\ EC K fd ps [] /\ ps.length = p.2.2%1000 /\ (p.2.2<1000 -> FnOk P w K mg base (CXR P w) n f fd ps (spD K CL (p.2.2%1000) ((gam Pg n).fr p.2.1) ((gam Pg n).F p.2.1))) /\ (1000 <= p.2.2 -> HotOk P w K mg base n f fd ps (spH K CL (p.2.2%1000) ((gam Pg n).fr p.2.1) ((gam Pg n).F p.2.1)))
theorem LJ(t : Tab K mg CL fns bl rzs exs gls Pg fuel){n:Ag}(hlv : ∀ q ∈ fns, Lvl P w K mg base CL Pg n q){st : A7}{f : Ai}{ps N : Ab Aj}(h2 : Fun K x qual st f fd)(h4 : ps.length = m)(h5 : EE fuel Ad fns bl rzs exs gls ps N st (Pg.defs id) = Ac):FnOk P w K mg base (CXR P w) (n+1) f fd ps (spD K CL m ((gam Pg (n+1)).fr id) ((gam Pg (n+1)).F id)) := by
  unfold EE at h5;simp only[Am, Bc, Bf, M6, Cy, F5, ne_eq]at h5;obtain⟨⟨⟨⟨⟨⟨⟨⟨c1, c2⟩, c3⟩, c4⟩, c5⟩, c6⟩, c7⟩, c8⟩, c9⟩ := h5;obtain⟨oc, od, kV, doc, pm, an, cdv, ct, osl, rfl, lk, hcd⟩ := h2.ex;refine L7 (N := N) lk hcd ⟨c1, c2, c3, Hf c4, c5, c6, c7⟩ (fun vs H Q E ⟨ds, A, z, _⟩ => z.trans h4.symm) fun A outer s H vs Q E hr ⟨ds, B, hl, hA, hreps, hpost⟩ => ?_
  have xt : XT (gam Pg n).up (gam Pg n).xn CL rzs exs K mg := by rw[Ts, Tr];exact t.xt
  have gl : ∀ p ∈ gls, JM K mg CL p.1 ((gam Pg n).G p.2) := by rw[Vt];exact t.gl
  have key : ∀ W : XW, (∀ x cls dx H', W x H' -> Ez K CL H' cls dx x -> E cls dx H') -> BK K CL (fun b o => H b = Aa o) B W (evSs (gam Pg n) (BU (Pg.defs id).n ds) (Pg.defs id).body) {nx := fun _ H' => Q .non H', rt := Q} ->
      ∃ t, PSs (DX (CXR P w) P w K mg base N qual (C8 st) f cdv A outer s H E) (Eu st) t /\ t {nx := fun _ H' => Q .non H', rt := Q} (start N vs) H := fun W hW hp => by
    have v : VX (gam Pg n) CL n W ⟨C8 st, N, fns, bl, rzs, exs, gls⟩ (DX (CXR P w) P w K mg base N qual (C8 st) f cdv A outer s H E) := ⟨rfl, c1, rfl, Hf c4, rfl, hr, t.bln, hlv, ownR, UC hW, rzR hW, xt, gl⟩;exact⟨_, (JC fuel).ss W _ _ _ (Pg.defs id).body v ⟨fun _ => rfl, rfl, rfl, rfl⟩ c9 (fun b o => H b = Aa o) B, _, Pk c8 hA hreps, hp⟩
  have no : ∀ x cls dx H', W0 x H' -> Ez K CL H' cls dx x -> E cls dx H' := fun _ _ _ _ z => z.elim
  have e : (gam Pg (n+1)).F id ds = DM Pg.xs ((evSs (gam Pg n) (BU (Pg.defs id).n ds) (Pg.defs id).body).ans (Pg.defs id).fr) := rfl;rw[e, Tt]at hpost;have cutO : ∀ r : R D, (∀ x, r ≠ .exn x) -> DM Pg.xs r = r := fun r hr => by
    cases Pg.xs <;> cases r <;> first|rfl|exact absurd rfl (hr _)
  cases eo : evSs (gam Pg n) (BU (Pg.defs id).n ds) (Pg.defs id).body with
  |next ρ'=>
    refine key W0 no ?_;rw[eo]at hpost ⊢;cases ef : (Pg.defs id).fr with
    |true => rw[ef]at hpost;rw[cutO _ (by intro x z;cases z)]at hpost;exact hpost.elim
    |false=>
      rw[ef]at hpost;rw[cutO _ (by intro x z;cases z)]at hpost
      exact fun σ' H' x' => hpost .non H' (fun b o z => x'.same b o z) ⟨rfl, fun z => nomatch z⟩
  |ret d b=>
    refine key W0 no ?_;rw[eo]at hpost ⊢;intro v H' sm rp fr;have hp2 : (match DM Pg.xs (if ((Pg.defs id).fr&&(!b&&isL d)) = Ac then R.bad else R.ok d) with
      |.ok d => ∀ v H', Ar H H' -> CM K CL (Pg.defs id).fr H B H' v d -> Q v H'
      |.exn x => ∀ cls dx H', Ar H H' -> Ez K CL H' cls dx x -> E cls dx H'
      | .bad => AW) := hpost
    cases ec : ((Pg.defs id).fr&&(!b&&isL d)) with
    |true => rw[ec, AE rfl, cutO _ (by intro x z;cases z)]at hp2;exact hp2.elim
    |false=>
      rw[ec, AJ (by decide), cutO _ (by intro x z;cases z)]at hp2
      refine hp2 v H' sm ⟨rp, fun efr es hd => ?_⟩
      subst hd;have eb : b = Ac := by
        cases b with
        |true => rfl
        |false => rw[efr]at ec;cases ec
      obtain⟨a, xs, h1, h2, h3, h4⟩ := fr eb es rfl;refine⟨a, xs, h1, ?_, h3, h4⟩;cases ha : H a with
      |none => rfl
      |some o => exact absurd ha (h2 o)
  |brk ρ' => rw[eo]at hpost;have hp2 : (match DM Pg.xs (R.bad : R D) with | .ok _ => _ | .exn _ => _ | .bad => AW) := hpost;rw[cutO _ (by intro x z;cases z)]at hp2;exact hp2.elim
  |cont ρ' => rw[eo]at hpost;have hp2 : (match DM Pg.xs (R.bad : R D) with | .ok _ => _ | .exn _ => _ | .bad => AW) := hpost;rw[cutO _ (by intro x z;cases z)]at hp2;exact hp2.elim
  |bad => rw[eo]at hpost;have hp2 : (match DM Pg.xs (R.bad : R D) with | .ok _ => _ | .exn _ => _ | .bad => AW) := hpost;rw[cutO _ (by intro x z;cases z)]at hp2;exact hp2.elim
  |exn x ρ'=>
    rw[eo]at hpost;have hp2 : (match DM Pg.xs (R.exn x : R D) with
      |.ok d => ∀ v H', Ar H H' -> CM K CL (Pg.defs id).fr H B H' v d -> Q v H'
      |.exn x => ∀ cls dx H', Ar H H' -> Ez K CL H' cls dx x -> E cls dx H'
      | .bad => AW) := hpost
    cases ex : Pg.xs with
    |false => rw[ex]at hp2;exact hp2.elim
    |true=>
      rw[ex]at hp2;have hp3 : ∀ cls dx H', Ar H H' -> Ez K CL H' cls dx x -> E cls dx H' := hp2;refine key (fun y H' => y = x /\ Ar H H') (fun y cls dx H' ⟨e1, sm⟩ xr => ?_) ?_
      · subst e1;exact hp3 cls dx H' sm xr
      · rw[eo];exact fun H' sm => ⟨rfl, sm⟩
theorem Tp(t : Tab K mg CL fns bl rzs exs gls Pg fuel){n:Ag}(hlv : ∀ q ∈ fns, Lvl P w K mg base CL Pg n q){st : A7}{f : Ai}{ps N : Ab Aj}(h2 : Fun K x qual st f fd)(h4 : ps.length = m)(h5 : EE fuel Ac fns bl rzs exs gls ps N st (Pg.defs id) = Ac):HotOk P w K mg base (n+1) f fd ps (spH K CL m ((gam Pg (n+1)).fr id) ((gam Pg (n+1)).F id)) := by
 exfalso
 unfold EE at h5;simp[L1]at h5
theorem IT(t : Tab K mg CL fns bl rzs exs gls Pg fuel) : ∀ n, ∀ p ∈ fns, Lvl P w K mg base CL Pg n p
 |0, p, hp => by
  obtain⟨f, fd, ps, qual, st, N, h1, h2, h3, h4, h5⟩ := t.fn p hp;exact⟨f, fd, ps, h1, h2.kp, h3, h4, fun _ => ⟨fun vs H Q E ⟨ds, A, _, _, _, z⟩ => z.elim, fun A outer s H args us vs Q E _ _ _ _ ⟨ds, A, _, _, _, z⟩ => z.elim⟩, fun _ => ⟨fun vs H Q E ⟨ds, A, _, _, _, z⟩ => z.elim, fun A ev outer s H args us vs Q E _ _ _ _ ⟨ds, A, _, _, _, z⟩ => z.elim⟩⟩
 |n+1, p, hp => by
  obtain⟨f, fd, ps, qual, st, N, h1, h2, h3, h4, h5⟩ := t.fn p hp;refine⟨f, fd, ps, h1, h2.kp, h3, h4, fun hlt => ?_, fun hge => ?_⟩
  ·have eb : CU 1000 p.2.2 = Ad := by
    cases e : CU 1000 p.2.2 with
    |false => rfl
    |true => exact absurd (Nq e) (by omega)
   rw[eb]at h5;exact LJ t (fun q hq => IT t n q hq) h2 h4 h5
  ·rw[Dy hge]at h5;exact Tp t (fun q hq => IT t n q hq) h2 h4 h5
theorem S2{s s' : Ak}{e : Ah}(h : CXR P w [] H s (fun _ _ _ => AW) e s') : AW := by
 obtain⟨_, _, _, _, _, _, _, _, _, _, _, _, _, _, _, z⟩ := h;exact z
theorem Qj{up:Ag -> Ab Ag}{xn:Ag -> Ab D -> R Ex}(h : ∀ c ds, xn c ds = .bad) : XT up xn (fun _ => Af) [] [] K mg := ⟨fun _ _ z => (nomatch z), fun _ z => (nomatch z), fun _ z => (nomatch z), fun c _ ds z => .inl (h c ds), fun _ _ z => (nomatch z), fun c _ ds => h c ds⟩
noncomputable def HB(K : Fg) : Sp := fun vs H Q _ => ∃(a : Ai)(ns : Ab Ae), vs = [.ref a] /\ ns.length <= 63 /\ SqL K H a (ns.map V.int) /\ ∀ v H', v = V.bl Ac -> Q v H'
theorem law_fn{CX:CXT}{k:Ag}{f : Ai}{ps:Ab Aj}{F:Ab D -> R D}(G : FnOk P w K mg base CX k f fd ps (spD K CL 1 Ad F))(h : ∀ ns : Ab Ae, F [.lst (ns.map .int)] = .ok (.bl Ac)) : FnOk P w K mg base CX k f fd ps (HB K) := G.imp fun vs H Q E ⟨a, ns, e, hl, hS, q⟩ => by
 subst e;have rs : ∀ l : Ab Ae, Reps K CL H A0 (l.map V.int) (l.map D.int) := fun l => by
  induction l with
  |nil => trivial
  |cons x l ih => exact⟨rfl, ih⟩
 refine⟨[.lst (ns.map .int)], A0, rfl, fun _ z => z.elim, ⟨⟨a, _, rfl, .inl (fun z => z), hS, rs ns⟩, trivial⟩, ?_⟩
 rw[h ns];exact fun v H' _ r => q v H' r.1
theorem IV{Q : α -> Prop} : ∀ x ∈ ([] : Ab α), Q x := fun _ h => nomatch h
theorem all_cons{Q : α -> Prop}{a : α}{l : Ab α}(h1 : Q a)(h2 : ∀ x ∈ l, Q x) : ∀ x ∈ a::l, Q x := List.forall_mem_cons.2 ⟨h1, h2⟩
noncomputable def FnI(K : Fg)(f : Ai)(n : Aj)(st : A7) : Prop := ∃ fd, Fun K n n st f fd /\ BJ K AS n = Aa (Aa (.ref f))
theorem fni{st : A7}{f : Ai}{oc:Ah}{od an:Al Ai}{osl:A4 (Al Ah)}{kV doc pm cdv ct : Ah}(a : BJ K AS n = Aa (Aa (.ref f)))(l : K.lookup f = Aa ⟨oc, od, .func (Cr n n (Ga st) (Eu st) (C8 st) .none kV doc pm an cdv ct), osl⟩)(c : DT K cdv n = Ac)(k : B9 K (.ref f) = Ac) : FnI K f n st := ⟨_, Tu l c k, a⟩
noncomputable def Bd(n : Aj)(st : A7)(ps : Ab Aj)(us : Ab Ah) : Prop := ∀(kV doc pm : Ah)(an : Al Ai)(cdv ct : Ah), GC (Cr n n (Ga st) (Eu st) (C8 st) .none kV doc pm an cdv ct) ⟨us, []⟩ = pure (ps.zip us)
theorem Hx{f : Ai}{st : A7}{ps N : Ab Aj}(m id : Ag)(X : K.In h)(G : h.Ns AS mg)(A : FnI K f n st)(hl : ps.length = m%1000)(hc : EE fuel (CU 1000 m) fns bl rzs exs gls ps N st (Pg.defs id) = Ac)(hb : ∀ us : Ab Ah, us.length = ps.length -> Bd n st ps us) : Gs K mg fns bl rzs exs gls Pg fuel (n, id, m) := by
 obtain⟨fd, F, a⟩ := A;exact⟨_, _, _, _, _, _, Fc X G a, F, F.binds fun kV doc pm an cdv ct us hu => hb us hu kV doc pm an cdv ct, hl, hc⟩
theorem HK{f : Ai}{st : A7}{N : Ab Aj}(m id : Ag)(X : K.In h)(G : h.Ns AS mg)(A : FnI K f n st)(hl : 1 = m%1000)(hc : EE fuel (CU 1000 m) fns bl rzs exs gls [x0] N st (Pg.defs id) = Ac)(hb : ∀ u0, Bd n st [x0] [u0]) : Gs K mg fns bl rzs exs gls Pg fuel (n, id, m):=
 Hx (ps := [x0]) m id X G A hl hc fun us hu => match us, hu with | [u0], _ => hb u0
theorem Fb{f : Ai}{st : A7}{N : Ab Aj}(m id : Ag)(X : K.In h)(G : h.Ns AS mg)(A : FnI K f n st)(hl : 2 = m%1000)(hc : EE fuel (CU 1000 m) fns bl rzs exs gls [x0, x1] N st (Pg.defs id) = Ac)(hb : ∀ u0 u1, Bd n st [x0, x1] [u0, u1]) : Gs K mg fns bl rzs exs gls Pg fuel (n, id, m):=
 Hx (ps := [x0, x1]) m id X G A hl hc fun us hu => match us, hu with | [u0, u1], _ => hb u0 u1
theorem HJ{f : Ai}{st : A7}{N : Ab Aj}{x2:Aj}(m id : Ag)(X : K.In h)(G : h.Ns AS mg)(A : FnI K f n st)(hl : 3 = m%1000)(hc : EE fuel (CU 1000 m) fns bl rzs exs gls [x0, x1, x2] N st (Pg.defs id) = Ac)(hb : ∀ u0 u1 u2, Bd n st [x0, x1, x2] [u0, u1, u2]) : Gs K mg fns bl rzs exs gls Pg fuel (n, id, m):=
 Hx (ps := [x0, x1, x2]) m id X G A hl hc fun us hu => match us, hu with | [u0, u1, u2], _ => hb u0 u1 u2
theorem V6{f : Ai}{st : A7}{N : Ab Aj}{x2 x3:Aj}(m id : Ag)(X : K.In h)(G : h.Ns AS mg)(A : FnI K f n st)(hl : 4 = m%1000)(hc : EE fuel (CU 1000 m) fns bl rzs exs gls [x0, x1, x2, x3] N st (Pg.defs id) = Ac)(hb : ∀ u0 u1 u2 u3, Bd n st [x0, x1, x2, x3] [u0, u1, u2, u3]) : Gs K mg fns bl rzs exs gls Pg fuel (n, id, m):=
 Hx (ps := [x0, x1, x2, x3]) m id X G A hl hc fun us hu => match us, hu with | [u0, u1, u2, u3], _ => hb u0 u1 u2 u3
end
end Ov
namespace OvC
open PySem Ov
variable{x p y:Ae}{d:D}{xs k:Ab Ae}{Γ:Gam}{ρ:Rho}{m n:Ag}{kvs:Ab (Ab Ae × D)}
noncomputable abbrev tr(a b c : Ae) : D := .tup [.int a, .int b, .int c]
noncomputable def det(a0 a1 a2 b0 b1 b2 c0 c1 c2 : Ae) : Ae := a0*(b1*c2-b2*c1)-a1*(b0*c2-b2*c0)+a2*(b0*c1-b1*c0)
noncomputable def Sm(x : Ae) : Prop := 0 <= x /\ x<11
theorem mo(h : Sm x)(y : Ae) : BE x y = Ac := DV (by have := h.1;omega) (by have := h.2;omega)
theorem g30(x y z : D) : Ct [x, y, z] 0 = .ok x := rfl
theorem g31(x y z : D) : Ct [x, y, z] 1 = .ok y := rfl
theorem g32(x y z : D) : Ct [x, y, z] 2 = .ok z := rfl
theorem V7 : C0 0 3 = [.int 0, .int 1, .int 2] := rfl
theorem Sm.of(h : P4 p)(x : Ae) : Sm (x%p) := ⟨A8 _ (by have := h.pos;omega), by have := A2 x h.pos;have := h.hi;omega⟩
theorem JW{body : D -> Rho -> O}(I : Rho -> Prop)(g : Ae -> An) :∀(L :Ab Ae),(∀ t ∈ L,∀ ρ,I ρ->(g t = Ac/\body (.int t) ρ = .ret (.int t) Ad)\/(g t = Ad/\∃ ρ',body (.int t) ρ = .next ρ'/\I ρ'))->∀ ρ,I ρ->(∃ t ∈ L,g t = Ac/\Cw body (L.map D.int) ρ = .ret (.int t) Ad)\/((∀ t ∈ L,g t = Ad)/\∃ ρ',Cw body (L.map D.int) ρ = .next ρ'/\I ρ')
 |[], _, ρ, i => .inr ⟨(fun _ h => nomatch h), ρ, rfl, i⟩
 |m::L, h, ρ, i => by
  rcases h m (At ..) ρ i with ⟨e1, e2⟩|⟨e1, ρ', e2, i'⟩
  ·refine .inl ⟨m, At .., e1, ?_⟩;show (body (.int m) ρ).turn _ = _;rw[e2];rfl
  ·rcases JW I g L (fun m' h' => h m' (Aq _ h')) ρ' i' with ⟨t, ht, a, b⟩|⟨a, r, b, c⟩
   ·refine .inl ⟨t, Aq _ ht, a, ?_⟩;show (body (.int m) ρ).turn _ = _;rw[e2];exact b
   ·refine .inr ⟨fun t ht => ?_, r, ?_, c⟩
    ·rcases AK.mp ht with rfl|ht
     ·exact e1
     ·exact a t ht
    ·show (body (.int m) ρ).turn _ = _;rw[e2];exact b
noncomputable def F8 : Ss := (.cons (.ife (.cmp .Eq (.call 1 (.cons (.var 0) (.cons (.bin .Mult (.var 1) (.var 2)) .nil))) (.int 1)) (.cons (.ret (.var 2)) .nil) .nil) .nil)
noncomputable def Ha : Df := ⟨3, Ad, (.cons (.fors 2 (.rng2 (.int 1) (.var 0)) F8) (.cons (.rais 2 (.cons (.str (DJ "a number with the rest 0 is not turned over")) .nil)) .nil))⟩
noncomputable def DN(p : Ae) : Ab Ae := (B1 (p-1).toNat).map fun(k : Ag) => 1+(k : Ae)
theorem Gc{t:Ae} : t ∈ DN p ↔ 1 <= t /\ t<p := by
 unfold DN;rw[List.mem_map];constructor
 ·rintro⟨k, hk, rfl⟩;have := B8.mp hk;omega
 ·rintro⟨h1, h2⟩;exact⟨(t-1).toNat, B8.mpr (by omega), by omega⟩
theorem KY(h : P4 p) : Cv 1 p = .ok ((DN p).map D.int) := by
 rcases h with rfl|rfl|rfl|rfl <;> rfl
theorem QI : ∀ p : Fin 12, (p.val = 3 \/ p.val = 5 \/ p.val = 7 \/ p.val = 11) -> ∀ r : Fin 12, r.val<p.val -> r.val ≠ 0 -> ∃ t : Fin 12, 1 <= t.val /\ t.val<p.val /\ r.val*t.val%p.val = 1 := by decide +kernel
theorem Gm{n:Ae}(h : P4 p)(hn : n%p ≠ 0) : ∃ t, 1 <= t /\ t<p /\ n*t%p = 1 := by
 have p0 : 0<p /\ p<12 := by rcases h with rfl|rfl|rfl|rfl <;> decide
 obtain⟨q, rfl⟩ : ∃ q : Ag, p = q := ⟨p.toNat, by omega⟩
 have h0 := A8 n (b := (q : Ae)) (by omega)
 have h1 := A2 n p0.1;obtain⟨r, hr⟩ : ∃ r : Ag, n%(q : Ae) = r := ⟨(n%(q : Ae)).toNat, by omega⟩
 obtain⟨t, t1, t2, t3⟩ := QI ⟨q, by omega⟩ (by rcases h with e|e|e|e <;> simp <;> omega) ⟨r, by omega⟩ (by show r<q;omega) (by show r ≠ 0;omega)
 refine⟨(t.val : Ae), by omega, by show (t.val : Ae)<q;exact Int.ofNat_lt.mpr t2, ?_⟩
 have e : ((r*t.val%q : Ag) : Ae) = 1 := by rw[show r*t.val%q = 1 from t3];rfl
 rw[<-e, Int.natCast_emod, Int.natCast_mul, <-hr];exact(Bh n _ _).trans (by rw[Bh (n%(q : Ae)) (t.val : Ae) (q : Ae), AZ n (BF _)])
theorem Dr{r:R D}(h : r = .ok d) : DM Ac r = .ok d := by rw[h];rfl
noncomputable def Ed(p n t : Ae) : Prop := 1 <= t /\ t<p /\ n*t%p = 1
theorem Kk{n t u:Ae}(h1 : Ed p n t)(h2 : Ed p n u) : t = u := by
 have hp : 1<p := by have := h1.1;have := h1.2.1;omega
 have e : t%p = u%p := by
  have a : t%p = t*(n*u)%p := by rw[Bh, h2.2.2, EI, AZ _ (BF p)]
  have b : u%p = (n*t)*u%p := by rw[Bh (n*t) u p, h1.2.2, DZ, AZ _ (BF p)]
  rw[a, b]
  congr 1
  rw[<-D3, Cb t n]
 rw[Av (by have := h1.1;omega) h1.2.1, Av (by have := h2.1;omega) h2.2.1]at e
 exact e
theorem EL{c:Ae}(hp : P4 p)(hc : c%p ≠ 0)(hx : x%p ≠ 0) : c*x%p ≠ 0 := fun z => by
 obtain⟨t, _, _, e⟩ := Gm hp hc;refine hx ?_;have e1 : x%p = (c*t)*x%p := by rw[Bh (c*t) x p, e, DZ, AZ _ (BF p)]
 rw[e1, show c*t*x = t*(c*x) by rw[Cb c t, D3], Bh, z, M2, D4]
noncomputable def A5(p : Ae) : Ab Ae -> Al Ae
 |[] => Af
 |x::xs => if x%p = 0 then A5 p xs else Aa (x%p)
theorem Hg{p : Ae} : ∀{xs : Ab Ae}, A5 p xs = Af ↔ ∀ x ∈ xs, x%p = 0
 |[] => by simp[A5]
 |x::xs => by
  unfold A5;by_cases h : x%p = 0
  ·rw[AE h, Hg (xs := xs)];simp[h]
  ·rw[AJ h];simp[h]
theorem GO{p l : Ae}(hp : 0<p) : ∀{xs : Ab Ae}, A5 p xs = Aa l -> l%p ≠ 0 /\ 0<l /\ l<p
 |[], h => by cases h
 |x::xs, h => by
  unfold A5 at h;by_cases hx : x%p = 0
  ·rw[AE hx]at h;exact GO hp h
  ·rw[AJ hx]at h;cases h;have h0 := A8 x (b := p) (by omega)
   have h1 := A2 x hp;exact⟨by rw[AZ _ (BF p)];exact hx, by omega, h1⟩
theorem GL{p c : Ae}(hp : P4 p)(hc : c%p ≠ 0){f : Ae -> Ae}(hf : ∀ x, f x%p = c*x%p) : ∀ xs : Ab Ae, A5 p (xs.map f) = (A5 p xs).map fun l => c*l%p
 |[] => rfl
 |x::xs => by
  rw[B5];unfold A5;rw[hf x];by_cases hx : x%p = 0
  ·rw[AE hx, AE (by rw[Bh, hx, M2, D4]), GL hp hc hf xs]
  ·rw[AJ hx, AJ (EL hp hc hx), C4]
   congr 1
   rw[Bh c (x%p), AZ _ (BF p), <-Bh]
noncomputable def ds(xs : Ab Ae) : Ab D := xs.map D.int
noncomputable def BY(b : An)(xs : Ab Ae) : D := if b = Ac then .tup (ds xs) else .lst (ds xs)
theorem JZ(b xs) : CZ (BY b xs) = .ok (ds xs) := by unfold BY;cases b <;> rfl
theorem F7{g : D -> R An}{f : D -> R D}{φ : Ae -> Ae} : ∀(xs : Ab Ae), (∀ x ∈ xs, g (.int x) = .ok Ac /\ f (.int x) = .ok (.int (φ x))) -> Bo g f (ds xs) = .ok (ds (xs.map φ))
 |[], _ => rfl
 |x::xs, h => by
  obtain⟨h1, h2⟩ := h x (At ..);show (g (.int x)).bind _ = _;rw[h1, R.bind_ok, AE rfl, h2, R.bind_ok];show (Bo g f (ds xs)).bind _ = _;rw[F7 xs fun y hy => h y (Aq _ hy)]
  rfl
noncomputable def JS : E := (.bl Ac)
noncomputable def Io : E := (.call 1 (.cons (.var 0) (.cons (.var 5) .nil)))
noncomputable def JR : E := (.bl Ac)
noncomputable def Im : E := (.call 1 (.cons (.var 0) (.cons (.bin .Mult (.var 4) (.var 6)) .nil)))
noncomputable def Ev : Ss := (.cons (.ife (.cmp .NotEq (.var 3) (.int 0)) (.cons (.asg 4 Ad (.call 9 (.cons (.var 0) (.cons (.var 3) .nil)))) (.cons (.ret (.bi .tuple (.cons (.comp Im 6 (.e (.var 2)) JR) .nil))) .nil)) .nil) .nil)
noncomputable def He : Df := ⟨7, Ad, (.cons (.asg 2 Ad (.comp Io 5 (.e (.var 1)) JS)) (.cons (.fors 3 (.e (.var 2)) Ev) (.cons (.rais 3 (.cons (.str (DJ "all the numbers have the rest 0")) .nil)) .nil)))⟩
noncomputable def fmI(p t : Ae)(xs : Ab Ae) : Ab Ae := xs.map fun x => t*(x%p)%p
section
variable{Γ : Gam}{p : Ae}{xs : Ab Ae}{b : An}
end
theorem Ij{g : D -> R An}{f : D -> R D}{q : Ae -> An} : ∀(xs : Ab Ae), (∀ x ∈ xs, g (.int x) = .ok (q x) /\ f (.int x) = .ok (.int x)) -> Bo g f (ds xs) = .ok (ds (xs.filter q))
 |[], _ => rfl
 |x::xs, h => by
  obtain⟨h1, h2⟩ := h x (At ..);have ih := Ij xs fun y hy => h y (Aq _ hy)
  show (g (.int x)).bind _ = _;rw[h1, R.bind_ok];cases hq : q x with
  |true=>
   rw[AE rfl, h2, R.bind_ok, El, hq, AE rfl];show (Bo g f (ds xs)).bind _ = _;rw[ih];rfl
  |false=>
   rw[AJ (by decide), El, hq, AJ (by decide)]
   exact ih
theorem Kf{p : Ae}(hp : 0<p) : ∀(xs : Ab Ae), ((xs.map fun x => x%p).filter fun r => decide (0<r)).head? = A5 p xs
 |[] => rfl
 |x::xs => by
  have h0 := A8 x (b := p) (by omega)
  unfold A5;rw[B5, El];by_cases h : x%p = 0
  ·rw[AE h, AJ (by simp[h]), Kf hp xs]
  ·rw[AJ h, AE (by simp;omega)]
   rfl
theorem Ou{p l t : Ae}(it : Ed p l t) : ((DN p).filter fun k => decide (k*l%p = 1)).head? = Aa t := by
 have hm : t ∈ (DN p).filter fun k => decide (k*l%p = 1) := DC.mpr ⟨Gc.mpr ⟨it.1, it.2.1⟩, by simp[Cb t l, it.2.2]⟩
 cases e : (DN p).filter fun k => decide (k*l%p = 1) with
 |nil => rw[e]at hm;cases hm
 |cons u us=>
  have hu : u ∈ (DN p).filter fun k => decide (k*l%p = 1) := by rw[e];exact At ..
  obtain⟨h1, h2⟩ := DC.mp hu;obtain⟨a, b⟩ := Gc.mp h1;have h3 : u*l%p = 1 := by simpa using h2
  rw[Kk it ⟨a, b, by rw[Cb];exact h3⟩]
  rfl
theorem Km{l : Ae}(h : xs.head? = Aa l) : Ct (ds xs) 0 = .ok (.int l) := by
 cases xs with
 |nil => cases h
 |cons x xs => cases h;exact IR (by omega) rfl
theorem KR : ∀ xs : Ab Ae, Ec (xs.map fun _ => D.bl Ac) = .ok Ac
 |[] => rfl
 |x::xs => by
  rw[B5, IF, KR xs];rfl
theorem Lf{g : D -> R An}{f : D -> R D} : ∀(xs : Ab Ae), (∀ x ∈ xs, g (.int x) = .ok Ac /\ f (.int x) = .ok (.bl Ac)) -> Bo g f (ds xs) = .ok (xs.map fun _ => D.bl Ac)
 |[], _ => rfl
 |x::xs, h => by
  obtain⟨h1, h2⟩ := h x (At ..);show (g (.int x)).bind _ = _;rw[h1, R.bind_ok, AE rfl, h2, R.bind_ok];show (Bo g f (ds xs)).bind _ = _;rw[Lf xs fun y hy => h y (Aq _ hy)]
  rfl
noncomputable abbrev own(xs : Ab Ae) : Sl := Aa (.lst (ds xs), Ac)
section
variable{Γ : Gam}{ns : Ab Ae}{a1 a2 a4 a6 a7 a8 a9 b0 b1 b2 b3 b4 : Sl}{p : Ae}
end
section
variable{Γ : Gam}{ns : Ab Ae}{a1 a4 a6 a7 a8 a9 b2 b3 b4 : Sl}{p m : Ae}{xs : Ab Ae}
end
noncomputable def Cg(p x y : Ae) : Prop := x%p = y%p
section
variable{p a b c d : Ae}
theorem Cg.rfl : Cg p a a := Eq.refl _
theorem Cg.of(h : a = b) : Cg p a b := by unfold Cg;rw[h]
theorem Cg.trans{a b c : Ae}(h : Cg p a b)(g : Cg p b c) : Cg p a c := Eq.trans h g
theorem Cg.symm(h : Cg p a b) : Cg p b a := Eq.symm h
theorem Cg.add(h : Cg p a b)(g : Cg p c d) : Cg p (a+c) (b+d) := by unfold Cg at *;rw[M0, h, g, <-M0]
theorem Cg.sub(h : Cg p a b)(g : Cg p c d) : Cg p (a-c) (b-d) := by unfold Cg at *;rw[M3, h, g, <-M3]
theorem Cg.mul(h : Cg p a b)(g : Cg p c d) : Cg p (a*c) (b*d) := by unfold Cg at *;rw[Bh, h, g, <-Bh]
theorem Cg.md(h : a = b%p) : Cg p a b := by unfold Cg;rw[h, AZ _ (BF p)]
end
theorem Ey{p a0 a1 a2 b0 b1 b2 c0 c1 c2 x0 x1 x2 y0 y1 y2 z0 z1 z2 : Ae}(h0 : Cg p a0 x0)(h1 : Cg p a1 x1)(h2 : Cg p a2 x2)(h3 : Cg p b0 y0)(h4 : Cg p b1 y1)(h5 : Cg p b2 y2)(h6 : Cg p c0 z0)(h7 : Cg p c1 z1)(h8 : Cg p c2 z2):Cg p (a0*(b1*c2-b2*c1)-a1*(b0*c2-b2*c0)+a2*(b0*c1-b1*c0)) (x0*(y1*z2-y2*z1)-x1*(y0*z2-y2*z0)+x2*(y0*z1-y1*z0)):=
 ((h0.mul ((h4.mul h8).sub (h5.mul h7))).sub (h1.mul ((h3.mul h8).sub (h5.mul h6)))).add (h2.mul ((h3.mul h7).sub (h4.mul h6)))
theorem P4.m1(h : P4 p) : (-1 : Ae)%p ≠ 0 := by rcases h with rfl|rfl|rfl|rfl <;> decide
theorem P4.o1(h : P4 p) : (1 : Ae)%p ≠ 0 := by rcases h with rfl|rfl|rfl|rfl <;> decide
noncomputable abbrev R3 := Ae × Ae × Ae
variable{a r g:R3}
noncomputable def AY(a : R3) : D := .lst [.int a.1, .int a.2.1, .int a.2.2]
noncomputable def AM(a b c : R3) : Ae := det a.1 a.2.1 a.2.2 b.1 b.2.1 b.2.2 c.1 c.2.1 c.2.2
noncomputable def In3(p : Ae)(a : R3) : Prop := (0 <= a.1 /\ a.1<p) /\ (0 <= a.2.1 /\ a.2.1<p) /\ (0 <= a.2.2 /\ a.2.2<p)
structure GoodR (p : Ae) (a b c : R3) : Prop where
 p4 : P4 p
 ia : In3 p a
 ib : In3 p b
 ic : In3 p c
 nz : AM a b c%p ≠ 0
theorem GoodR.of{k:Ae}{a b c a' b' c' : R3}(h : GoodR p a b c)(hk : k%p ≠ 0)(e : Cg p (AM a' b' c') (k*AM a b c))(hin : In3 p a' /\ In3 p b' /\ In3 p c') : GoodR p a' b' c' := ⟨h.p4, hin.1, hin.2.1, hin.2.2, by rw[show AM a' b' c'%p = _ from e];exact EL h.p4 hk h.nz⟩
noncomputable def FV(t : Ae)(a : R3) : R3 := (a.1*t, a.2.1*t, a.2.2*t)
noncomputable def DY(t : Ae)(a b : R3) : R3 := (a.1+t*b.1, a.2.1+t*b.2.1, a.2.2+t*b.2.2)
noncomputable def mdR(p : Ae)(a : R3) : R3 := (a.1%p, a.2.1%p, a.2.2%p)
noncomputable def scR(p t : Ae)(a : R3) : R3 := mdR p (FV t a)
noncomputable def adR(p t : Ae)(a b : R3) : R3 := mdR p (DY t a b)
theorem Ma(h : 0<p)(a : R3) : In3 p (mdR p a) := ⟨⟨A8 _ (by omega), A2 _ h⟩, ⟨A8 _ (by omega), A2 _ h⟩, ⟨A8 _ (by omega), A2 _ h⟩⟩
theorem Gp(h : 0<p)(t : Ae)(a : R3) : In3 p (scR p t a) := Ma h _
theorem Gn(h : 0<p)(t : Ae)(a b : R3) : In3 p (adR p t a b) := Ma h _
theorem MF(p t : Ae)(a b c : R3) : Cg p (AM (scR p t a) b c) (t*AM a b c) := by
 refine Cg.trans (b := AM (FV t a) b c) ?_ (Cg.of (by unfold AM det FV;grind))
 unfold AM det;exact Ey (Cg.md (by rfl)) (Cg.md (by rfl)) (Cg.md (by rfl)) Cg.rfl Cg.rfl Cg.rfl Cg.rfl Cg.rfl Cg.rfl
theorem Vl(p t : Ae)(a b c : R3) : Cg p (AM (adR p t a b) b c) (1*AM a b c) := by
 refine Cg.trans (b := AM (DY t a b) b c) ?_ (Cg.of (by unfold AM det DY;grind))
 unfold AM det;exact Ey (Cg.md (by rfl)) (Cg.md (by rfl)) (Cg.md (by rfl)) Cg.rfl Cg.rfl Cg.rfl Cg.rfl Cg.rfl Cg.rfl
theorem Vk(p t : Ae)(a b c : R3) : Cg p (AM (adR p t a c) b c) (1*AM a b c) := by
 refine Cg.trans (b := AM (DY t a c) b c) ?_ (Cg.of (by unfold AM det DY;grind))
 unfold AM det;exact Ey (Cg.md (by rfl)) (Cg.md (by rfl)) (Cg.md (by rfl)) Cg.rfl Cg.rfl Cg.rfl Cg.rfl Cg.rfl Cg.rfl
theorem ME(p t : Ae)(a b c : R3) : Cg p (AM a (scR p t b) c) (t*AM a b c) := by
 refine Cg.trans (b := AM a (FV t b) c) ?_ (Cg.of (by unfold AM det FV;grind))
 unfold AM det;exact Ey Cg.rfl Cg.rfl Cg.rfl (Cg.md (by rfl)) (Cg.md (by rfl)) (Cg.md (by rfl)) Cg.rfl Cg.rfl Cg.rfl
theorem Vj(p t : Ae)(a b c : R3) : Cg p (AM a (adR p t b a) c) (1*AM a b c) := by
 refine Cg.trans (b := AM a (DY t b a) c) ?_ (Cg.of (by unfold AM det DY;grind))
 unfold AM det;exact Ey Cg.rfl Cg.rfl Cg.rfl (Cg.md (by rfl)) (Cg.md (by rfl)) (Cg.md (by rfl)) Cg.rfl Cg.rfl Cg.rfl
theorem Vi(p t : Ae)(a b c : R3) : Cg p (AM a (adR p t b c) c) (1*AM a b c) := by
 refine Cg.trans (b := AM a (DY t b c) c) ?_ (Cg.of (by unfold AM det DY;grind))
 unfold AM det;exact Ey Cg.rfl Cg.rfl Cg.rfl (Cg.md (by rfl)) (Cg.md (by rfl)) (Cg.md (by rfl)) Cg.rfl Cg.rfl Cg.rfl
theorem MD(p t : Ae)(a b c : R3) : Cg p (AM a b (scR p t c)) (t*AM a b c) := by
 refine Cg.trans (b := AM a b (FV t c)) ?_ (Cg.of (by unfold AM det FV;grind))
 unfold AM det;exact Ey Cg.rfl Cg.rfl Cg.rfl Cg.rfl Cg.rfl Cg.rfl (Cg.md (by rfl)) (Cg.md (by rfl)) (Cg.md (by rfl))
theorem Vh(p t : Ae)(a b c : R3) : Cg p (AM a b (adR p t c a)) (1*AM a b c) := by
 refine Cg.trans (b := AM a b (DY t c a)) ?_ (Cg.of (by unfold AM det DY;grind))
 unfold AM det;exact Ey Cg.rfl Cg.rfl Cg.rfl Cg.rfl Cg.rfl Cg.rfl (Cg.md (by rfl)) (Cg.md (by rfl)) (Cg.md (by rfl))
theorem Vg(p t : Ae)(a b c : R3) : Cg p (AM a b (adR p t c b)) (1*AM a b c) := by
 refine Cg.trans (b := AM a b (DY t c b)) ?_ (Cg.of (by unfold AM det DY;grind))
 unfold AM det;exact Ey Cg.rfl Cg.rfl Cg.rfl Cg.rfl Cg.rfl Cg.rfl (Cg.md (by rfl)) (Cg.md (by rfl)) (Cg.md (by rfl))/-! ### draws -/
noncomputable def GZ(ns : Ab Ae)(k : Ae) : Ae := if k<ns.length then ns.getD k.toNat 0 else 0
noncomputable def FA(ns : Ab Ae)(k : Ae) : Ae := (GZ ns k%1000003+7919*k+11)*48271%1000033*69621%999983
theorem QD(ns k) : 0 <= FA ns k := by unfold FA;omega
noncomputable def G9 : Df := ⟨3, Ad, (.cons (.asg 2 Ad (.int 0)) (.cons (.ife (.cmp .Lt (.var 1) (.bi .len (.cons (.var 0) .nil))) (.cons (.asg 2 Ad (.idx (.var 0) (.var 1))) .nil) .nil) (.cons (.ret (.bin .Mod (.bin .Mult (.bin .Mod (.bin .Mult (.bin .Add (.bin .Add (.bin .Mod (.var 2) (.int 1000003)) (.bin .Mult (.int 7919) (.var 1))) (.int 11)) (.int 48271)) (.int 1000033)) (.int 69621)) (.int 999983))) .nil)))⟩
noncomputable def Hu(Γ : Gam) : Prop := ∀(ns : Ab Ae)(k : Ae), 0 <= k -> Γ.F 79 [scr ns, .int k] = .ok (.int (FA ns k))
theorem QL{ns:Ab Ae}{k:Ae}(h0 : 0 <= k)(h1 : k<ns.length) : Ct (ns.map D.int) k = .ok (.int (ns.getD k.toNat 0)) := IR h0 (by
 have : k.toNat<ns.length := by omega
 simp[this])
theorem RS(Γ : Gam)(ns : Ab Ae)(k : Ae)(h0 : 0 <= k) : G9.run Γ [scr ns, .int k] = .ok (.int (FA ns k)) := by
 have m1 : BE 7919 k = Ac := DV (by decide) (by decide)
 have m2 : ∀ x, BE x 48271 = Ac := fun x => EK (by decide) (by decide)
 have m3 : ∀ x, BE x 69621 = Ac := fun x => EK (by decide) (by decide)
 by_cases h1 : k<ns.length
 ·have g := QL h0 h1;have c : GZ ns k = ns.getD k.toNat 0 := by unfold GZ;rw[AE h1]
  simp at g c;simp[G9, Df.run, BU, h1, g, m1, m2, m3, FA, c]
 ·have c : GZ ns k = 0 := by unfold GZ;rw[AJ h1]
  simp[G9, Df.run, BU, h1, m1, m2, m3, FA, c]
noncomputable def HU : Df := ⟨1, Ad, (.cons (.ret (.idx (.lst (.cons (.int 3) (.cons (.int 5) (.cons (.int 7) (.cons (.int 11) .nil))))) (.bin .Mod (.call 79 (.cons (.var 0) (.cons (.int 0) .nil))) (.int 4)))) .nil)⟩
theorem Pz(h : Hu Γ)(ns : Ab Ae) : HU.run Γ [scr ns] = .ok (.int (pr4 (FA ns 0))) := by
 simp[HU, Df.run, BU, h ns 0 (by decide), Pa]
noncomputable def Il : Df := ⟨2, Ad, (.cons (.ret (.bi .max (.cons (.int 2) (.cons (.bi .min (.cons (.int 24) (.cons (.bin .Sub (.bi .len (.cons (.var 0) .nil)) (.var 1)) .nil))) .nil)))) .nil)⟩
theorem QP(Γ : Gam)(ns : Ab Ae)(k : Ae) : ∃ n, 0 <= n /\ n <= 24 /\ Il.run Γ [scr ns, .int k] = .ok (.int n) := by
 refine⟨_, ?_, ?_, by simp[Il, Df.run, BU];rfl⟩
 ·split <;> first|omega|(split <;> omega)
 ·split <;> first|omega|(split <;> omega)
noncomputable def Iq : E := (.bl Ac)
noncomputable def Hb : E := (.bin .Mod (.bin .Mult (.var 13) (.var 9)) (.var 1))
noncomputable def Ip : E := (.bl Ac)
noncomputable def Ir : E := (.bin .Mod (.bin .Add (.idx (.var 11) (.var 14)) (.bin .Mult (.var 9) (.idx (.var 12) (.var 14)))) (.var 1))
noncomputable def CK : Ss := (.cons (.asg 6 Ad (.call 79 (.cons (.var 0) (.cons (.bin .Add (.var 2) (.var 5)) .nil)))) (.cons (.asg 7 Ad (.bin .Mod (.var 6) (.int 3))) (.cons (.asg 8 Ad (.bin .Mod (.bin .Add (.bin .Add (.var 7) (.int 1)) (.bin .Mod (.bin .FloorDiv (.var 6) (.int 3)) (.int 2))) (.int 3))) (.cons (.asg 9 Ad (.bin .Add (.int 1) (.bin .Mod (.bin .FloorDiv (.var 6) (.int 6)) (.bin .Sub (.var 1) (.int 1))))) (.cons (.ife (.cmp .Eq (.bin .Mod (.bin .FloorDiv (.var 6) (.int 66)) (.int 3)) (.int 0)) (.cons (.asg 10 Ad (.idx (.var 4) (.var 7))) (.cons (.put 4 (.var 7) (.idx (.var 4) (.var 8))) (.cons (.put 4 (.var 8) (.var 10)) .nil))) (.cons (.ife (.cmp .Eq (.bin .Mod (.bin .FloorDiv (.var 6) (.int 66)) (.int 9)) (.int 1)) (.cons (.put 4 (.var 7) (.comp Hb 13 (.e (.idx (.var 4) (.var 7))) Iq)) .nil) (.cons (.asg 11 Ad (.idx (.var 4) (.var 7))) (.cons (.asg 12 Ad (.idx (.var 4) (.var 8))) (.cons (.put 4 (.var 7) (.comp Ir 14 (.rng (.int 3)) Ip)) .nil)))) .nil)) .nil)))))
noncomputable def Ih : Df := ⟨15, Ac, (.cons (.asg 4 Ac (.lst (.cons (.lst (.cons (.int 1) (.cons (.int 0) (.cons (.int 0) .nil)))) (.cons (.lst (.cons (.int 0) (.cons (.int 1) (.cons (.int 0) .nil)))) (.cons (.lst (.cons (.int 0) (.cons (.int 0) (.cons (.int 1) .nil)))) .nil))))) (.cons (.fors 5 (.rng (.var 3)) CK) (.cons (.ret (.var 4)) .nil)))⟩
noncomputable abbrev ownR(a b c : R3) : Sl := Aa (.lst [AY a, AY b, AY c], Ac)
section
variable{Γ : Gam}{ns : Ab Ae}{at_ many s5 s0 s1 s2 : Sl}{p t m : Ae}{a b c : R3}
theorem Vm(r : R3)(e1 : Be ρ 9 = .ok (.int t))(e2 : Be ρ 1 = .ok (.int p))(hl : 13<ρ.length)(hp : 0<p)(mt : ∀ x, BE x t = Ac) : Bo (cG Γ ρ 13 Iq) (cF Γ ρ 13 Hb) [.int r.1, .int r.2.1, .int r.2.2] = .ok [.int (scR p t r).1, .int (scR p t r).2.1, .int (scR p t r).2.2] := by
 have key : ∀ x : Ae, cF Γ ρ 13 Hb (.int x) = .ok (.int (x*t%p)) := fun x => by
  have v13 : Be (ρ.set 13 (Aa (.int x, Ad))) 13 = .ok (.int x) := by unfold Be;rw[Bj hl]
  have v9 : Be (ρ.set 13 (Aa (.int x, Ad))) 9 = .ok (.int t) := by unfold Be at e1 ⊢;rw[Bi (by decide)];exact e1
  have v1 : Be (ρ.set 13 (Aa (.int x, Ad))) 1 = .ok (.int p) := by unfold Be at e2 ⊢;rw[Bi (by decide)];exact e2
  show (((Be (ρ.set 13 (Aa (.int x, Ad))) 13).bind fun y => (Be (ρ.set 13 (Aa (.int x, Ad))) 9).bind fun z => BN .Mult y z).bind fun y => (Be (ρ.set 13 (Aa (.int x, Ad))) 1).bind fun z => BN .Mod y z) = _
  rw[v13, v9, v1];simp[mt, hp]
 have := F7 (g := cG Γ ρ 13 Iq) (f := cF Γ ρ 13 Hb) (φ := fun x => x*t%p) [r.1, r.2.1, r.2.2] fun x _ => ⟨rfl, key x⟩
 exact this
theorem Vv(r q : R3)(e9 : Be ρ 9 = .ok (.int t))(e1 : Be ρ 1 = .ok (.int p))(e11 : Be ρ 11 = .ok (AY r))(e12 : Be ρ 12 = .ok (AY q))(hl : 14<ρ.length)(hp : 0<p)(mt : ∀ x, BE t x = Ac) : Bo (cG Γ ρ 14 Ip) (cF Γ ρ 14 Ir) [.int 0, .int 1, .int 2] = .ok [.int (adR p t r q).1, .int (adR p t r q).2.1, .int (adR p t r q).2.2] := by
 have key : ∀(k : Ae)(x y : Ae), Ct [.int r.1, .int r.2.1, .int r.2.2] k = .ok (.int x) -> Ct [.int q.1, .int q.2.1, .int q.2.2] k = .ok (.int y) -> cF Γ ρ 14 Ir (.int k) = .ok (.int ((x+t*y)%p)) := fun k x y hx hy => by
  have v14 : Be (ρ.set 14 (Aa (.int k, Ad))) 14 = .ok (.int k) := by unfold Be;rw[Bj hl]
  have v9 : Be (ρ.set 14 (Aa (.int k, Ad))) 9 = .ok (.int t) := by unfold Be at e9 ⊢;rw[Bi (by decide)];exact e9
  have v1 : Be (ρ.set 14 (Aa (.int k, Ad))) 1 = .ok (.int p) := by unfold Be at e1 ⊢;rw[Bi (by decide)];exact e1
  have v11 : Be (ρ.set 14 (Aa (.int k, Ad))) 11 = .ok (AY r) := by unfold Be at e11 ⊢;rw[Bi (by decide)];exact e11
  have v12 : Be (ρ.set 14 (Aa (.int k, Ad))) 12 = .ok (AY q) := by unfold Be at e12 ⊢;rw[Bi (by decide)];exact e12
  show ((((Be (ρ.set 14 (Aa (.int k, Ad))) 11).bind fun y => (Be (ρ.set 14 (Aa (.int k, Ad))) 14).bind fun z => EN y z).bind fun u => ((Be (ρ.set 14 (Aa (.int k, Ad))) 9).bind fun y => ((Be (ρ.set 14 (Aa (.int k, Ad))) 12).bind fun y => (Be (ρ.set 14 (Aa (.int k, Ad))) 14).bind fun z => EN y z).bind fun z => BN .Mult y z).bind fun v => BN .Add u v).bind fun y => (Be (ρ.set 14 (Aa (.int k, Ad))) 1).bind fun z => BN .Mod y z) = _
  rw[v14, v9, v1, v11, v12];simp[AY, hx, hy, mt, hp]
 have g : ∀ x, cG Γ ρ 14 Ip x = .ok Ac := fun _ => rfl
 simp[Bo, g, key 0 r.1 q.1 rfl rfl, key 1 r.2.1 q.2.1 rfl rfl, key 2 r.2.2 q.2.2 rfl rfl];exact⟨rfl, rfl, rfl⟩
theorem Gh{L:Ab D}{i j:Ae}{i' j':Ag}{x y:R3}(hi : Ct L i = .ok (AY x))(hj : Ct L j = .ok (AY y))(pi : plD L.length i = Aa i')(pj : plD L.length j = Aa j')(p0 : 0<p)(mt : ∀ x, BE x t = Ac)(mt2 : ∀ x, BE t x = Ac):(m /66%3 = 0->evSs Γ [sh (scr ns),si p,at_,many,Aa (.lst L,Ac),s5,si m,si i,si j,si t,s0,s1,s2,Af,Af] (CK.drop 4) = .next [sh (scr ns),si p,at_,many,Aa (.lst ((L.set i' (AY y)).set j' (AY x)),Ac),s5,si m,si i,si j,si t,sh (AY x),s1,s2,Af,Af])/\(¬ m /66%3 = 0->m /66%9 = 1->evSs Γ [sh (scr ns),si p,at_,many,Aa (.lst L,Ac),s5,si m,si i,si j,si t,s0,s1,s2,Af,Af] (CK.drop 4) = .next [sh (scr ns),si p,at_,many,Aa (.lst (L.set i' (AY (scR p t x))),Ac),s5,si m,si i,si j,si t,s0,s1,s2,Af,Af])/\(¬ m /66%3 = 0->¬ m /66%9 = 1->evSs Γ [sh (scr ns),si p,at_,many,Aa (.lst L,Ac),s5,si m,si i,si j,si t,s0,s1,s2,Af,Af] (CK.drop 4) = .next [sh (scr ns),si p,at_,many,Aa (.lst (L.set i' (AY (adR p t x y))),Ac),s5,si m,si i,si j,si t,s0,sh (AY x),sh (AY y),Af,Af]) := by
 refine⟨fun k0 => ?_, fun k0 k1 => ?_, fun k0 k1 => ?_⟩
 ·simp[CK, Ss.drop, k0, IN, Cs, hi, hj, pi, pj]
 ·have cp := Vm (Γ := Γ) (ρ := [sh (scr ns), si p, at_, many, Aa (.lst L, Ac), s5, si m, si i, si j, si t, s0, s1, s2, Af, Af]) x rfl rfl (by simp) p0 mt
  rw[AY]at hi;simp[CK, Ss.drop, k0, k1, IN, Cs, hi, pi, cp];rfl
 ·have cp := Vv (Γ := Γ) (ρ := [sh (scr ns), si p, at_, many, Aa (.lst L, Ac), s5, si m, si i, si j, si t, s0, sh (AY x), sh (AY y), Af, Af]) x y rfl rfl rfl rfl (by simp) p0 mt2
  simp[CK, Ss.drop, k0, k1, IN, Cs, hi, hj, pi, KD (hi := 3) (by decide) (by decide), V7, cp]
  rfl
theorem Ua(h : GoodR p a b c)(ht : 0<t /\ t<p) : ∃ a' b' c' u0 u1 u2, GoodR p a' b' c' /\ evSs Γ [sh (scr ns), si p, at_, many, ownR a b c, s5, si m, si 0, si 1, si t, s0, s1, s2, Af, Af] (CK.drop 4) = .next [sh (scr ns), si p, at_, many, ownR a' b' c', s5, si m, si 0, si 1, si t, u0, u1, u2, Af, Af] := by
 have p0 := h.p4.pos;have mt : ∀ x, BE x t = Ac := fun x => EK (by have := h.p4.hi;omega) (by have := h.p4.hi;omega)
 have mt2 : ∀ x, BE t x = Ac := fun x => DV (by have := h.p4.hi;omega) (by have := h.p4.hi;omega)
 have g := Gh (Γ := Γ) (ns := ns) (m := m) (at_ := at_) (many := many) (s5 := s5) (s0 := s0) (s1 := s1) (s2 := s2) (L := [AY a, AY b, AY c]) (i := 0) (j := 1) (i' := 0) (j' := 1) (x := a) (y := b) rfl rfl rfl rfl p0 mt mt2;by_cases k0 : m / 66%3 = 0
 ·refine⟨b, a, c, sh (AY a), s1, s2, ?_, ?_⟩
  ·exact h.of (k := -1) h.p4.m1 (Cg.of (by unfold AM det;grind)) ⟨h.ib, h.ia, h.ic⟩
  ·exact g.1 k0
 ·by_cases k1 : m / 66%9 = 1
  ·refine⟨(scR p t a), b, c, s0, s1, s2, ?_, ?_⟩
   ·exact h.of (k := t) (by rw[Av (by omega) ht.2];omega) (MF p t a b c) ⟨Gp p0 _ _, h.ib, h.ic⟩
   ·exact g.2.1 k0 k1
  ·refine⟨(adR p t a b), b, c, s0, sh (AY a), sh (AY b), ?_, ?_⟩
   ·exact h.of (k := 1) h.p4.o1 (Vl p t a b c) ⟨Gn p0 _ _ _, h.ib, h.ic⟩
   ·exact g.2.2 k0 k1
theorem T9(h : GoodR p a b c)(ht : 0<t /\ t<p) : ∃ a' b' c' u0 u1 u2, GoodR p a' b' c' /\ evSs Γ [sh (scr ns), si p, at_, many, ownR a b c, s5, si m, si 0, si 2, si t, s0, s1, s2, Af, Af] (CK.drop 4) = .next [sh (scr ns), si p, at_, many, ownR a' b' c', s5, si m, si 0, si 2, si t, u0, u1, u2, Af, Af] := by
 have p0 := h.p4.pos;have mt : ∀ x, BE x t = Ac := fun x => EK (by have := h.p4.hi;omega) (by have := h.p4.hi;omega)
 have mt2 : ∀ x, BE t x = Ac := fun x => DV (by have := h.p4.hi;omega) (by have := h.p4.hi;omega)
 have g := Gh (Γ := Γ) (ns := ns) (m := m) (at_ := at_) (many := many) (s5 := s5) (s0 := s0) (s1 := s1) (s2 := s2) (L := [AY a, AY b, AY c]) (i := 0) (j := 2) (i' := 0) (j' := 2) (x := a) (y := c) rfl rfl rfl rfl p0 mt mt2;by_cases k0 : m / 66%3 = 0
 ·refine⟨c, b, a, sh (AY a), s1, s2, ?_, ?_⟩
  ·exact h.of (k := -1) h.p4.m1 (Cg.of (by unfold AM det;grind)) ⟨h.ic, h.ib, h.ia⟩
  ·exact g.1 k0
 ·by_cases k1 : m / 66%9 = 1
  ·refine⟨(scR p t a), b, c, s0, s1, s2, ?_, ?_⟩
   ·exact h.of (k := t) (by rw[Av (by omega) ht.2];omega) (MF p t a b c) ⟨Gp p0 _ _, h.ib, h.ic⟩
   ·exact g.2.1 k0 k1
  ·refine⟨(adR p t a c), b, c, s0, sh (AY a), sh (AY c), ?_, ?_⟩
   ·exact h.of (k := 1) h.p4.o1 (Vk p t a b c) ⟨Gn p0 _ _ _, h.ib, h.ic⟩
   ·exact g.2.2 k0 k1
theorem T8(h : GoodR p a b c)(ht : 0<t /\ t<p) : ∃ a' b' c' u0 u1 u2, GoodR p a' b' c' /\ evSs Γ [sh (scr ns), si p, at_, many, ownR a b c, s5, si m, si 1, si 0, si t, s0, s1, s2, Af, Af] (CK.drop 4) = .next [sh (scr ns), si p, at_, many, ownR a' b' c', s5, si m, si 1, si 0, si t, u0, u1, u2, Af, Af] := by
 have p0 := h.p4.pos;have mt : ∀ x, BE x t = Ac := fun x => EK (by have := h.p4.hi;omega) (by have := h.p4.hi;omega)
 have mt2 : ∀ x, BE t x = Ac := fun x => DV (by have := h.p4.hi;omega) (by have := h.p4.hi;omega)
 have g := Gh (Γ := Γ) (ns := ns) (m := m) (at_ := at_) (many := many) (s5 := s5) (s0 := s0) (s1 := s1) (s2 := s2) (L := [AY a, AY b, AY c]) (i := 1) (j := 0) (i' := 1) (j' := 0) (x := b) (y := a) rfl rfl rfl rfl p0 mt mt2;by_cases k0 : m / 66%3 = 0
 ·refine⟨b, a, c, sh (AY b), s1, s2, ?_, ?_⟩
  ·exact h.of (k := -1) h.p4.m1 (Cg.of (by unfold AM det;grind)) ⟨h.ib, h.ia, h.ic⟩
  ·exact g.1 k0
 ·by_cases k1 : m / 66%9 = 1
  ·refine⟨a, (scR p t b), c, s0, s1, s2, ?_, ?_⟩
   ·exact h.of (k := t) (by rw[Av (by omega) ht.2];omega) (ME p t a b c) ⟨h.ia, Gp p0 _ _, h.ic⟩
   ·exact g.2.1 k0 k1
  ·refine⟨a, (adR p t b a), c, s0, sh (AY b), sh (AY a), ?_, ?_⟩
   ·exact h.of (k := 1) h.p4.o1 (Vj p t a b c) ⟨h.ia, Gn p0 _ _ _, h.ic⟩
   ·exact g.2.2 k0 k1
theorem T7(h : GoodR p a b c)(ht : 0<t /\ t<p) : ∃ a' b' c' u0 u1 u2, GoodR p a' b' c' /\ evSs Γ [sh (scr ns), si p, at_, many, ownR a b c, s5, si m, si 1, si 2, si t, s0, s1, s2, Af, Af] (CK.drop 4) = .next [sh (scr ns), si p, at_, many, ownR a' b' c', s5, si m, si 1, si 2, si t, u0, u1, u2, Af, Af] := by
 have p0 := h.p4.pos;have mt : ∀ x, BE x t = Ac := fun x => EK (by have := h.p4.hi;omega) (by have := h.p4.hi;omega)
 have mt2 : ∀ x, BE t x = Ac := fun x => DV (by have := h.p4.hi;omega) (by have := h.p4.hi;omega)
 have g := Gh (Γ := Γ) (ns := ns) (m := m) (at_ := at_) (many := many) (s5 := s5) (s0 := s0) (s1 := s1) (s2 := s2) (L := [AY a, AY b, AY c]) (i := 1) (j := 2) (i' := 1) (j' := 2) (x := b) (y := c) rfl rfl rfl rfl p0 mt mt2;by_cases k0 : m / 66%3 = 0
 ·refine⟨a, c, b, sh (AY b), s1, s2, ?_, ?_⟩
  ·exact h.of (k := -1) h.p4.m1 (Cg.of (by unfold AM det;grind)) ⟨h.ia, h.ic, h.ib⟩
  ·exact g.1 k0
 ·by_cases k1 : m / 66%9 = 1
  ·refine⟨a, (scR p t b), c, s0, s1, s2, ?_, ?_⟩
   ·exact h.of (k := t) (by rw[Av (by omega) ht.2];omega) (ME p t a b c) ⟨h.ia, Gp p0 _ _, h.ic⟩
   ·exact g.2.1 k0 k1
  ·refine⟨a, (adR p t b c), c, s0, sh (AY b), sh (AY c), ?_, ?_⟩
   ·exact h.of (k := 1) h.p4.o1 (Vi p t a b c) ⟨h.ia, Gn p0 _ _ _, h.ic⟩
   ·exact g.2.2 k0 k1
theorem T6(h : GoodR p a b c)(ht : 0<t /\ t<p) : ∃ a' b' c' u0 u1 u2, GoodR p a' b' c' /\ evSs Γ [sh (scr ns), si p, at_, many, ownR a b c, s5, si m, si 2, si 0, si t, s0, s1, s2, Af, Af] (CK.drop 4) = .next [sh (scr ns), si p, at_, many, ownR a' b' c', s5, si m, si 2, si 0, si t, u0, u1, u2, Af, Af] := by
 have p0 := h.p4.pos;have mt : ∀ x, BE x t = Ac := fun x => EK (by have := h.p4.hi;omega) (by have := h.p4.hi;omega)
 have mt2 : ∀ x, BE t x = Ac := fun x => DV (by have := h.p4.hi;omega) (by have := h.p4.hi;omega)
 have g := Gh (Γ := Γ) (ns := ns) (m := m) (at_ := at_) (many := many) (s5 := s5) (s0 := s0) (s1 := s1) (s2 := s2) (L := [AY a, AY b, AY c]) (i := 2) (j := 0) (i' := 2) (j' := 0) (x := c) (y := a) rfl rfl rfl rfl p0 mt mt2;by_cases k0 : m / 66%3 = 0
 ·refine⟨c, b, a, sh (AY c), s1, s2, ?_, ?_⟩
  ·exact h.of (k := -1) h.p4.m1 (Cg.of (by unfold AM det;grind)) ⟨h.ic, h.ib, h.ia⟩
  ·exact g.1 k0
 ·by_cases k1 : m / 66%9 = 1
  ·refine⟨a, b, (scR p t c), s0, s1, s2, ?_, ?_⟩
   ·exact h.of (k := t) (by rw[Av (by omega) ht.2];omega) (MD p t a b c) ⟨h.ia, h.ib, Gp p0 _ _⟩
   ·exact g.2.1 k0 k1
  ·refine⟨a, b, (adR p t c a), s0, sh (AY c), sh (AY a), ?_, ?_⟩
   ·exact h.of (k := 1) h.p4.o1 (Vh p t a b c) ⟨h.ia, h.ib, Gn p0 _ _ _⟩
   ·exact g.2.2 k0 k1
theorem T5(h : GoodR p a b c)(ht : 0<t /\ t<p) : ∃ a' b' c' u0 u1 u2, GoodR p a' b' c' /\ evSs Γ [sh (scr ns), si p, at_, many, ownR a b c, s5, si m, si 2, si 1, si t, s0, s1, s2, Af, Af] (CK.drop 4) = .next [sh (scr ns), si p, at_, many, ownR a' b' c', s5, si m, si 2, si 1, si t, u0, u1, u2, Af, Af] := by
 have p0 := h.p4.pos;have mt : ∀ x, BE x t = Ac := fun x => EK (by have := h.p4.hi;omega) (by have := h.p4.hi;omega)
 have mt2 : ∀ x, BE t x = Ac := fun x => DV (by have := h.p4.hi;omega) (by have := h.p4.hi;omega)
 have g := Gh (Γ := Γ) (ns := ns) (m := m) (at_ := at_) (many := many) (s5 := s5) (s0 := s0) (s1 := s1) (s2 := s2) (L := [AY a, AY b, AY c]) (i := 2) (j := 1) (i' := 2) (j' := 1) (x := c) (y := b) rfl rfl rfl rfl p0 mt mt2;by_cases k0 : m / 66%3 = 0
 ·refine⟨a, c, b, sh (AY c), s1, s2, ?_, ?_⟩
  ·exact h.of (k := -1) h.p4.m1 (Cg.of (by unfold AM det;grind)) ⟨h.ia, h.ic, h.ib⟩
  ·exact g.1 k0
 ·by_cases k1 : m / 66%9 = 1
  ·refine⟨a, b, (scR p t c), s0, s1, s2, ?_, ?_⟩
   ·exact h.of (k := t) (by rw[Av (by omega) ht.2];omega) (MD p t a b c) ⟨h.ia, h.ib, Gp p0 _ _⟩
   ·exact g.2.1 k0 k1
  ·refine⟨a, b, (adR p t c b), s0, sh (AY c), sh (AY b), ?_, ?_⟩
   ·exact h.of (k := 1) h.p4.o1 (Vg p t a b c) ⟨h.ia, h.ib, Gn p0 _ _ _⟩
   ·exact g.2.2 k0 k1
end
section
variable{Γ : Gam}{ns : Ab Ae}{many s5 s6 s7 s8 s9 s0 s1 s2 : Sl}{p : Ae}{a b c : R3}
theorem Og(hm : Hu Γ)(h : GoodR p a b c){at_ k:Ae}(ha : 0 <= at_)(hk : 0 <= k) : ∃ a' b' c' v6 v7 v8 v9 v0 v1 v2, GoodR p a' b' c' /\ Ci Γ 5 CK (.int k) [sh (scr ns), si p, si at_, many, ownR a b c, s5, s6, s7, s8, s9, s0, s1, s2, Af, Af] = .next [sh (scr ns), si p, si at_, many, ownR a' b' c', si k, v6, v7, v8, v9, v0, v1, v2, Af, Af] := by
 have p0 := h.p4.pos;have pl := h.p4.lo;have e0 := hm ns (at_+k) (by omega)
 have m0 := QD ns (at_+k);generalize FA ns (at_+k) = m at e0 m0;have q1 : 0<p-1 := by omega
 have q2 : 1<p := by omega
 have t0 : 0<1+m / 6%(p-1) := by have := A8 (m / 6) (b := p-1) (by omega);omega
 have t1 : 1+m / 6%(p-1)<p := by have := A2 (m / 6) q1;omega
 generalize ht : 1+m / 6%(p-1) = t at t0 t1;generalize hi : m%3 = i;generalize hj : (i+1+m / 3%2)%3 = j;have hd : evSs Γ [sh (scr ns), si p, si at_, many, ownR a b c, si k, s6, s7, s8, s9, s0, s1, s2, Af, Af] (CK.take 4) = .next [sh (scr ns), si p, si at_, many, ownR a b c, si k, si m, si i, si j, si t, s0, s1, s2, Af, Af] := by
  simp[CK, Ss.take, e0, hi, hj, q1, q2, ht]
 have ij : (i = 0 /\ j = 1) \/ (i = 0 /\ j = 2) \/ (i = 1 /\ j = 0) \/ (i = 1 /\ j = 2) \/ (i = 2 /\ j = 0) \/ (i = 2 /\ j = 1) := by omega
 have tl : ∃ a' b' c' u0 u1 u2, GoodR p a' b' c' /\ evSs Γ [sh (scr ns), si p, si at_, many, ownR a b c, si k, si m, si i, si j, si t, s0, s1, s2, Af, Af] (CK.drop 4) = .next [sh (scr ns), si p, si at_, many, ownR a' b' c', si k, si m, si i, si j, si t, u0, u1, u2, Af, Af] := by
  rcases ij with ⟨rfl, rfl⟩|⟨rfl, rfl⟩|⟨rfl, rfl⟩|⟨rfl, rfl⟩|⟨rfl, rfl⟩|⟨rfl, rfl⟩
  ·exact Ua h ⟨t0, t1⟩
  ·exact T9 h ⟨t0, t1⟩
  ·exact T8 h ⟨t0, t1⟩
  ·exact T7 h ⟨t0, t1⟩
  ·exact T6 h ⟨t0, t1⟩
  ·exact T5 h ⟨t0, t1⟩
 obtain⟨a', b', c', u0, u1, u2, g, e⟩ := tl;refine⟨a', b', c', si m, si i, si j, si t, u0, u1, u2, g, ?_⟩;unfold Ci;rw[KM Γ 4];have hd' : evSs Γ (List.set [sh (scr ns), si p, si at_, many, ownR a b c, s5, s6, s7, s8, s9, s0, s1, s2, Af, Af] 5 (Aa (.int k, Ad))) (CK.take 4) = .next [sh (scr ns), si p, si at_, many, ownR a b c, si k, si m, si i, si j, si t, s0, s1, s2, Af, Af] := hd;rw[hd'];exact e
end
noncomputable def HI(a b c : R3) : D := .lst [AY a, AY b, AY c]
theorem SL(hm : Hu Γ)(ns : Ab Ae)(p at_ n : Ae)(hp : P4 p)(ha : 0 <= at_)(n0 : 0 <= n)(n1 : n <= 24) : ∃ a b c, GoodR p a b c /\ Ih.run Γ [scr ns, .int p, .int at_, .int n] = .ok (HI a b c) := by
 have p1 := hp.lo;have g0 : GoodR p (1, 0, 0) (0, 1, 0) (0, 0, 1) := by
  refine⟨hp, ⟨⟨by decide, by show (1 : Ae)<p;omega⟩, ⟨by decide, by show (0 : Ae)<p;omega⟩, ⟨by decide, by show (0 : Ae)<p;omega⟩⟩, ⟨⟨by decide, by show (0 : Ae)<p;omega⟩, ⟨by decide, by show (1 : Ae)<p;omega⟩, ⟨by decide, by show (0 : Ae)<p;omega⟩⟩, ⟨⟨by decide, by show (0 : Ae)<p;omega⟩, ⟨by decide, by show (0 : Ae)<p;omega⟩, ⟨by decide, by show (1 : Ae)<p;omega⟩⟩, ?_⟩
  show (1 : Ae)%p ≠ 0;exact hp.o1
 obtain⟨ρ', e, a, b, c, s5, s6, s7, s8, s9, s0, s1, s2, g, rfl⟩ := KJ (body := Ci Γ 5 CK) (fun ρ => ∃ a b c s5 s6 s7 s8 s9 s0 s1 s2, GoodR p a b c /\ ρ = [sh (scr ns), si p, si at_, si n, ownR a b c, s5, s6, s7, s8, s9, s0, s1, s2, Af, Af]) (C0 0 n.toNat)
  [sh (scr ns), si p, si at_, si n, ownR (1, 0, 0) (0, 1, 0) (0, 0, 1), Af, Af, Af, Af, Af, Af, Af, Af, Af, Af] ⟨_, _, _, _, _, _, _, _, _, _, _, g0, rfl⟩ (by
   rintro x hx ρ ⟨a, b, c, s5, s6, s7, s8, s9, s0, s1, s2, g, rfl⟩;obtain⟨k, _, rfl⟩ := O6 hx;obtain⟨a', b', c', v6, v7, v8, v9, v0, v1, v2, g', q⟩ := Og (Γ := Γ) (ns := ns) (many := si n) (s5 := s5) (s6 := s6) (s7 := s7) (s8 := s8) (s9 := s9) (s0 := s0) (s1 := s1) (s2 := s2) hm g (k := 0+(k : Ae)) ha (by omega)
   exact⟨_, q, a', b', c', _, _, _, _, _, _, _, _, g', rfl⟩)
 refine⟨a, b, c, g, ?_⟩;have e' : Cw (Ci Γ 5 CK) (C0 0 n.toNat) [sh (scr ns), si p, si at_, si n, Aa (.lst [.lst [.int 1, .int 0, .int 0], .lst [.int 0, .int 1, .int 0], .lst [.int 0, .int 0, .int 1]], Ac), Af, Af, Af, Af, Af, Af, Af, Af, Af, Af] = _ := e;simp[Ih, Df.run, BU, KD n0 (by omega), Dh, e', isL]
 rfl
noncomputable def JU : E := (.bl Ac)
noncomputable def Ia : E := (.bin .Mod (.var 5) (.var 0))
noncomputable def HX : E := (.cmp .Gt (.var 6) (.int 0))
noncomputable def H9 : E := (.var 6)
noncomputable def HW : E := (.cmp .Eq (.bin .Mod (.bin .Mult (.var 7) (.var 3)) (.var 0)) (.int 1))
noncomputable def HZ : E := (.var 7)
noncomputable def JT : E := (.bl Ac)
noncomputable def HY : E := (.bin .Mod (.bin .Mult (.var 8) (.var 4)) (.var 0))
noncomputable def Iu : Df := ⟨9, Ad, (.cons (.asg 2 Ad (.comp Ia 5 (.e (.var 1)) JU)) (.cons (.asg 3 Ad (.idx (.comp H9 6 (.e (.var 2)) HX) (.int 0))) (.cons (.asg 4 Ad (.idx (.comp HZ 7 (.rng2 (.int 1) (.var 0)) HW) (.int 0))) (.cons (.ret (.bi .tuple (.cons (.comp HY 8 (.e (.var 2)) JT) .nil))) .nil))))⟩
noncomputable def IY(Γ : Gam) : Prop := ∀(p : Ae)(b : An)(xs : Ab Ae)(l t : Ae), P4 p -> A5 p xs = Aa l -> Ed p l t -> Γ.F 82 [.int p, BY b xs] = .ok (.tup (ds (fmI p t xs)))
theorem QR(Γ : Gam){b : An}{l t : Ae}(hp : P4 p)(e : A5 p xs = Aa l)(it : Ed p l t) : Iu.run Γ [.int p, BY b xs] = .ok (.tup (ds (fmI p t xs))) := by
 have p0 := hp.pos;have ph := hp.hi;have c1 : Bo (cG Γ [si p, sh (BY b xs), Af, Af, Af, Af, Af, Af, Af] 5 JU) (cF Γ [si p, sh (BY b xs), Af, Af, Af, Af, Af, Af, Af] 5 Ia) (ds xs) = .ok (ds (xs.map fun x => x%p)) := by
  refine F7 xs fun x _ => ⟨rfl, ?_⟩
  simp[cF, Ia, p0]
 generalize hR : (xs.map fun x => x%p) = rs at c1
 have c2 : Bo (cG Γ [si p, sh (BY b xs), sh (.lst (ds rs)), Af, Af, Af, Af, Af, Af] 6 HX) (cF Γ [si p, sh (BY b xs), sh (.lst (ds rs)), Af, Af, Af, Af, Af, Af] 6 H9) (ds rs) = .ok (ds (rs.filter fun r => decide (0<r))) := by
  refine Ij rs fun x _ => ⟨?_, ?_⟩
  ·simp[cG, HX]
  ·simp[cF, H9]
 have hl := Kf p0 xs;rw[hR, e]at hl;generalize hL : (rs.filter fun r => decide (0<r)) = ls at c2 hl
 have g0 := Km hl;obtain⟨_, l0, l1⟩ := GO p0 e;have c3 : Bo (cG Γ [si p, sh (BY b xs), sh (.lst (ds rs)), si l, Af, Af, Af, Af, Af] 7 HW) (cF Γ [si p, sh (BY b xs), sh (.lst (ds rs)), si l, Af, Af, Af, Af, Af] 7 HZ) (ds (DN p)) = .ok (ds ((DN p).filter fun k => decide (k*l%p = 1))) := by
  refine Ij (DN p) fun x hx => ⟨?_, ?_⟩
  ·obtain⟨x1, x2⟩ := Gc.mp hx;have m : BE x l = Ac := DV (by omega) (by omega)
   simp[cG, HW, m, p0];rw[EF];simp
  ·simp[cF, HZ]
 have g1 := Km (Ou it);have c4 : Bo (cG Γ [si p, sh (BY b xs), sh (.lst (ds rs)), si l, si t, Af, Af, Af, Af] 8 JT) (cF Γ [si p, sh (BY b xs), sh (.lst (ds rs)), si l, si t, Af, Af, Af, Af] 8 HY) (ds rs) = .ok (ds (rs.map fun r => t*r%p)) := by
  refine F7 rs fun x _ => ⟨rfl, ?_⟩
  have m : BE x t = Ac := EK (by have := it.1;omega) (by have := it.2.1;omega)
  simp[cF, HY, m, p0, Cb]
 have ru : Cv 1 p = .ok (ds (DN p)) := KY hp;have fe : fmI p t xs = rs.map fun r => t*r%p := by rw[<-hR];simp[fmI, Nk, MZ]
 simp[Iu, Df.run, BU, JZ, c1, c2, g0, ru, c3, g1, c4, fe]
noncomputable def Ca(a b c : R3) : Ab Ae := [a.1, a.2.1, a.2.2, b.1, b.2.1, b.2.2, c.1, c.2.1, c.2.2]
noncomputable def trR(a : R3) : D := .tup [.int a.1, .int a.2.1, .int a.2.2]
noncomputable def Dk(a b c : R3) : D := .tup [trR a, trR b, trR c]
noncomputable def fmR(p t : Ae)(a : R3) : R3 := (t*(a.1%p)%p, t*(a.2.1%p)%p, t*(a.2.2%p)%p)
theorem QN(p t : Ae)(a b c : R3) : fmI p t (Ca a b c) = Ca (fmR p t a) (fmR p t b) (fmR p t c) := rfl
theorem OD{a b c : R3}(h : AM a b c%p ≠ 0) : ∃ l, A5 p (Ca a b c) = Aa l := by
 cases e : A5 p (Ca a b c) with
 |some l => exact⟨l, rfl⟩
 |none=>
  refine absurd ?_ h;have z := Hg.mp e;have q : ∀ x ∈ Ca a b c, Cg p x 0 := fun x hx => by
   have := z x hx;show x%p = 0%p;rw[this];simp
  have := Ey (p := p) (q a.1 (by simp[Ca])) (q a.2.1 (by simp[Ca])) (q a.2.2 (by simp[Ca])) (q b.1 (by simp[Ca])) (q b.2.1 (by simp[Ca])) (q b.2.2 (by simp[Ca])) (q c.1 (by simp[Ca])) (q c.2.1 (by simp[Ca])) (q c.2.2 (by simp[Ca]))
  have e2 : AM a b c%p = (0*(0*0-0*0)-0*(0*0-0*0)+0*(0*0-0*0))%p := this;rw[e2];simp
theorem We(a b c : R3) : slD (.tup (ds (Ca a b c))) Af (Aa 3) = .ok (trR a) /\ slD (.tup (ds (Ca a b c))) (Aa 3) (Aa 6) = .ok (trR b) /\ slD (.tup (ds (Ca a b c))) (Aa 6) Af = .ok (trR c) := ⟨rfl, rfl, rfl⟩
noncomputable def Ik : Df := ⟨3, Ad, (.cons (.asg 2 Ad (.call 82 (.cons (.var 0) (.cons (.bin .Add (.bin .Add (.idx (.var 1) (.int 0)) (.idx (.var 1) (.int 1))) (.idx (.var 1) (.int 2))) .nil)))) (.cons (.ret (.tup (.cons (.sl (.var 2) .non (.int 3)) (.cons (.sl (.var 2) (.int 3) (.int 6)) (.cons (.sl (.var 2) (.int 6) .non) .nil))))) .nil))⟩
noncomputable def RE(Γ : Gam) : Prop := ∀(p : Ae)(a b c : R3)(l t : Ae), P4 p -> A5 p (Ca a b c) = Aa l -> Ed p l t -> Γ.F 84 [.int p, HI a b c] = .ok (Dk (fmR p t a) (fmR p t b) (fmR p t c))
theorem OX(a b c : R3) : BN .Add (AY a) (AY b) = .ok (.lst [.int a.1, .int a.2.1, .int a.2.2, .int b.1, .int b.2.1, .int b.2.2]) /\ BN .Add (.lst [.int a.1, .int a.2.1, .int a.2.2, .int b.1, .int b.2.1, .int b.2.2]) (AY c) = .ok (.lst (ds (Ca a b c))) := ⟨rfl, rfl⟩
theorem QO(h : IY Γ)(p : Ae)(a b c : R3)(l t : Ae)(hp : P4 p)(e : A5 p (Ca a b c) = Aa l)(it : Ed p l t) : Ik.run Γ [.int p, HI a b c] = .ok (Dk (fmR p t a) (fmR p t b) (fmR p t c)) := by
 have f := h p Ad (Ca a b c) l t hp e it;rw[QN]at f;have f' : Γ.F 82 [.int p, .lst (ds (Ca a b c))] = .ok (.tup (ds (Ca (fmR p t a) (fmR p t b) (fmR p t c)))) := f;obtain⟨x1, x2⟩ := OX a b c;obtain⟨y1, y2, y3⟩ := We (fmR p t a) (fmR p t b) (fmR p t c);simp[Ik, Df.run, BU, HI, g30, g31, g32, x1, x2, f', y1, y2, y3, slE];rfl
noncomputable def Bd(n : Ag)(x : Ae) : Prop := x.natAbs<2 ^ n
theorem Bd.mul(h : Bd m x)(g : Bd n y) : Bd (m+n) (x*y) := by
 unfold Bd at *;rw[Int.natAbs_mul, Nat.pow_add];exact Nat.mul_lt_mul'' h g
theorem Bd.sub(h : Bd n x)(g : Bd n y) : Bd (n+1) (x-y) := by
 unfold Bd at *;rw[Nat.pow_succ];omega
theorem LM(h : Bd m x)(g : Bd n y)(hm : m <= 2000)(hn : n <= 2000) : Fu x y = Ac := by
 unfold Fu Bd at *;rw[Am, A1, A1];exact⟨Au h (DG (by decide) hm), Au g (DG (by decide) hn)⟩
noncomputable def B3(a : R3) : Prop := Bd 300 a.1 /\ Bd 300 a.2.1 /\ Bd 300 a.2.2
noncomputable def AO(q : An)(a : R3) : D := BY q [a.1, a.2.1, a.2.2]
theorem Hy(q : An)(a : R3) : EN (AO q a) (.int 0) = .ok (.int a.1) /\ EN (AO q a) (.int 1) = .ok (.int a.2.1) /\ EN (AO q a) (.int 2) = .ok (.int a.2.2) := by cases q <;> exact⟨rfl, rfl, rfl⟩
section
variable{Γ : Gam}{ns : Ab Ae}{p t : Ae}{a b c r : R3}{made s6 s7 : Sl}
end
noncomputable def HR : Df := ⟨1, Ad, (.cons (.ret (.and (.cons (.isi (.var 0) [.int]) (.cons (.no (.isi (.var 0) [.bool])) .nil)))) .nil)⟩
noncomputable def OY(Γ : Gam) : Prop := ∀ x : Ae, Γ.F 85 [.int x] = .ok (.bl Ac)
theorem Px(Γ : Gam)(x : Ae) : HR.run Γ [.int x] = .ok (.bl Ac) := by
 simp[HR, Df.run, BU, kiD, C1]
noncomputable def JO : E := (.bl Ac)
noncomputable def HV : E := (.and (.cons (.call 85 (.cons (.var 3) .nil)) (.cons (.cmp2 .LtE .Lt (.int 0) (.var 3) (.var 1)) .nil)))
noncomputable def HS : Df := ⟨4, Ad, (.cons (.ife (.or (.cons (.no (.isi (.var 0) [.tuple])) (.cons (.cmp .NotEq (.bi .len (.cons (.var 0) .nil)) (.var 2)) .nil))) (.cons (.ret (.bl Ad)) .nil) .nil) (.cons (.ret (.bi .all (.cons (.comp HV 3 (.e (.var 0)) JO) .nil))) .nil))⟩
noncomputable def OZ(Γ : Gam) : Prop := ∀(p : Ae)(xs : Ab Ae), (∀ x ∈ xs, 0 <= x /\ x<p) -> Γ.F 86 [.tup (ds xs), .int p, .int xs.length] = .ok (.bl Ac)
theorem Py(h : OY Γ)(p : Ae)(xs : Ab Ae)(hx : ∀ x ∈ xs, 0 <= x /\ x<p) : HS.run Γ [.tup (ds xs), .int p, .int xs.length] = .ok (.bl Ac) := by
 have c1 : Bo (cG Γ [sh (.tup (ds xs)), si p, si xs.length, Af] 3 JO) (cF Γ [sh (.tup (ds xs)), si p, si xs.length, Af] 3 HV) (ds xs) = .ok (xs.map fun _ => D.bl Ac) := by
  refine Lf xs fun x hm => ⟨rfl, ?_⟩
  obtain⟨h0, h1⟩ := hx x hm;simp[cF, HV, h x, h0, h1]
 have dl : (ds xs).length = xs.length := B0 ..;simp[HS, Df.run, BU, kiD, C1, dl, c1, KR]
theorem J7{p : Ae} : ∀{xs ys : Ab Ae}, xs.map (fun x => x%p) = ys.map (fun x => x%p) -> A5 p xs = A5 p ys
 |[], [], _ => rfl
 |x::xs, y::ys, h => by
  rw[B5, B5, List.cons.injEq]at h;unfold A5;rw[h.1, J7 h.2]
 |[], _::_, h => by simp at h
 |_::_, [], h => by simp at h
theorem HE(hp : 0<p)(t : Ae)(a : R3) : In3 p (fmR p t a) := ⟨⟨A8 _ (by omega), A2 _ hp⟩, ⟨A8 _ (by omega), A2 _ hp⟩, ⟨A8 _ (by omega), A2 _ hp⟩⟩
section
variable{Γ : Gam}{ns : Ab Ae}{p m : Ae}{a b c : R3}{fa fb fc : R3}{q : An}{s9 s0 s1 s2 : Sl}
end
noncomputable def IE(Γ : Gam) : Prop := ∀ p n : Ae, P4 p -> n%p ≠ 0 -> ∃ t, 1 <= t /\ t<p /\ n*t%p = 1 /\ Γ.F 9 [.int p, .int n] = .ok (.int t)
noncomputable def IX(Γ : Gam) : Prop := ∀(p : Ae)(b : An)(xs : Ab Ae)(l t : Ae), P4 p -> A5 p xs = Aa l -> Ed p l t -> Γ.F 17 [.int p, BY b xs] = .ok (.tup (ds (fmI p t xs)))
theorem OR(hr : GU Γ)(p n : Ae)(hp : P4 p)(z : n%p ≠ 0):∃ t,1 <= t/\t<p/\n*t%p = 1/\Ha.run Γ [.int p,.int n] = .ok (.int t) := by
 have p0 := hp.pos;have ph := hp.hi;have body : ∀ t ∈ DN p, ∀ ρ, (∃ s, ρ = [si p, si n, s]) -> (decide (n*t%p = 1) = Ac /\ Ci Γ 2 F8 (.int t) ρ = .ret (.int t) Ad) \/ (decide (n*t%p = 1) = Ad /\ ∃ ρ', Ci Γ 2 F8 (.int t) ρ = .next ρ' /\ ∃ s, ρ' = [si p, si n, s]) := by
  rintro t ht ρ ⟨s, rfl⟩;obtain⟨t1, t2⟩ := Gc.mp ht;have m : BE n t = Ac := EK (by omega) (by omega)
  by_cases e : n*t%p = 1
  ·exact .inl ⟨by simp[e], by simp[Ci, F8, hr p (n*t) p0, m, e, Dh]⟩
  ·exact .inr ⟨by simp[e], _, by simp[Ci, F8, hr p (n*t) p0, m, e];rfl, _, rfl⟩
 have run : ∀ o, Cw (Ci Γ 2 F8) ((DN p).map D.int) [si p, si n, Af] = o -> Ha.run Γ [.int p, .int n] = (Du Γ (.cons (.rais 2 (.cons (.str (DJ "a number with the rest 0 is not turned over")) .nil)) .nil) o).ans Ad := by
  rintro o rfl;simp[Ha, Df.run, BU, KY hp]
 rcases JW (fun ρ => ∃ s, ρ = [si p, si n, s]) (fun t => decide (n*t%p = 1)) (DN p) body [si p, si n, Af] ⟨_, rfl⟩ with ⟨t, ht, a, b⟩|⟨a, r, b, s, rfl⟩
 ·obtain⟨t1, t2⟩ := Gc.mp ht;have a' : n*t%p = 1 := by simpa using a
  exact⟨t, t1, t2, a', by rw[run _ b];rfl⟩
 ·obtain⟨t, t1, t2, e⟩ := Gm hp z;have := a t (Gc.mpr ⟨t1, t2⟩);simp[e]at this
section
variable{Γ : Gam}{p : Ae}{xs : Ab Ae}{b : An}
theorem K1(hr : GU Γ)(ht : IE Γ)(hp : P4 p)(rs : Ab Ae) :∀(ys :Ab Ae),(∀ y ∈ ys,0 <= y/\y<p)->∀ s3,(A5 p ys = Af->∃ s3',Cw (Ci Γ 3 Ev) (ds ys) [si p,sh (BY b xs),sh (.lst (ds rs)),s3,Af,Af,Af] = .next [si p,sh (BY b xs),sh (.lst (ds rs)),s3',Af,Af,Af])/\(∀ l t,A5 p ys = Aa l->Ed p l t->Cw (Ci Γ 3 Ev) (ds ys) [si p,sh (BY b xs),sh (.lst (ds rs)),s3,Af,Af,Af] = .ret (.tup (ds (rs.map fun r =>t*r%p))) Ad)
 |[], _, s3 => ⟨fun _ => ⟨s3, rfl⟩, (fun l t h => nomatch h)⟩
 |y::ys, hy, s3 => by
  obtain⟨y0, y1⟩ := hy y (At ..);have ym : y%p = y := Av y0 y1;have ih := K1 hr ht hp rs ys (fun z hz => hy z (Aq _ hz)) (si y)
  have step : ∀ o, Ci Γ 3 Ev (.int y) [si p, sh (BY b xs), sh (.lst (ds rs)), s3, Af, Af, Af] = o -> Cw (Ci Γ 3 Ev) (ds (y::ys)) [si p, sh (BY b xs), sh (.lst (ds rs)), s3, Af, Af, Af] = o.turn (Cw (Ci Γ 3 Ev) (ds ys)) := by
   rintro o rfl;rfl
  unfold A5;rw[ym];by_cases hz : y = 0
  ·have e : Ci Γ 3 Ev (.int y) [si p, sh (BY b xs), sh (.lst (ds rs)), s3, Af, Af, Af] = .next [si p, sh (BY b xs), sh (.lst (ds rs)), si y, Af, Af, Af] := by
    simp[Ci, Ev, hz]
   rw[AE hz, step _ e];exact ih
  ·rw[AJ hz];refine⟨(fun z => nomatch z), fun l t e it => ?_⟩
   cases e;obtain⟨u, u1, u2, u3, u4⟩ := ht p y hp (by rw[ym];exact hz)
   have : t = u := Kk it ⟨u1, u2, u3⟩;subst this;have p0 := hp.pos;have ph := hp.hi;have cp : Bo (cG Γ [si p, sh (BY b xs), sh (.lst (ds rs)), si y, si t, Af, Af] 6 JR) (cF Γ [si p, sh (BY b xs), sh (.lst (ds rs)), si y, si t, Af, Af] 6 Im) (ds rs) = .ok (ds (rs.map fun r => t*r%p)) := by
    refine F7 rs fun r _ => ⟨rfl, ?_⟩
    have m : BE t r = Ac := DV (by omega) (by omega)
    simp[cF, Im, m, hr p (t*r) p0]
   have e : Ci Γ 3 Ev (.int y) [si p, sh (BY b xs), sh (.lst (ds rs)), s3, Af, Af, Af] = .ret (.tup (ds (rs.map fun r => t*r%p))) Ad := by
    simp[Ci, Ev, hz, u4, cp, Dh]
   rw[step _ e];rfl
theorem QQ(hr : GU Γ)(ht : IE Γ)(hp : P4 p){l t : Ae}(e : A5 p xs = Aa l)(it : Ed p l t) : He.run Γ [.int p, BY b xs] = .ok (.tup (ds (fmI p t xs))) := by
 have p0 := hp.pos;have cp : Bo (cG Γ [si p, sh (BY b xs), Af, Af, Af, Af, Af] 5 JS) (cF Γ [si p, sh (BY b xs), Af, Af, Af, Af, Af] 5 Io) (ds xs) = .ok (ds (xs.map fun x => x%p)) := by
  refine F7 xs fun x _ => ⟨rfl, ?_⟩
  simp[cF, Io, hr p x p0]
 have run : ∀ o, Cw (Ci Γ 3 Ev) (ds (xs.map fun x => x%p)) [si p, sh (BY b xs), sh (.lst (ds (xs.map fun x => x%p))), Af, Af, Af, Af] = o -> He.run Γ [.int p, BY b xs] = (Du Γ (.cons (.rais 3 (.cons (.str (DJ "all the numbers have the rest 0")) .nil)) .nil) o).ans Ad := by
  rintro o rfl;simp[He, Df.run, BU, JZ, cp]
 have le : A5 p (xs.map fun x => x%p) = A5 p xs := by
  have := GL (c := 1) hp (by rcases hp with rfl|rfl|rfl|rfl <;> decide) (f := fun x => x%p) (fun x => by rw[DZ, AZ _ (BF p)]) xs
  rw[this];cases e : A5 p xs with
  |none => rfl
  |some l=>
   obtain⟨_, l0, l1⟩ := GO p0 e;simp[Av (Int.le_of_lt l0) l1]
 obtain⟨a, c⟩ := K1 (b := b) (xs := xs) hr ht hp (xs.map fun x => x%p) (xs.map fun x => x%p) (fun y hy => by
  obtain⟨x, _, rfl⟩ := CH.mp hy;exact⟨A8 _ (by omega), A2 _ p0⟩) Af
 rw[le]at a c;rw[run _ (c l t e it)];simp[fmI, Nk, MZ]
end
noncomputable def FS(t q : An)(a b c : R3) : D := if t = Ac then .tup [AO q a, AO q b, AO q c] else .lst [AO q a, AO q b, AO q c]
theorem V3(t q : An)(a b c : R3) : CZ (FS t q a b c) = .ok [AO q a, AO q b, AO q c] := by cases t <;> rfl
noncomputable def E9(a b c : R3) : R3 := (a.1, b.1, c.1)
noncomputable def E8(a b c : R3) : R3 := (a.2.1, b.2.1, c.2.1)
noncomputable def E7(a b c : R3) : R3 := (a.2.2, b.2.2, c.2.2)
noncomputable def Bz(a x : R3) : Ae := a.1*x.1+a.2.1*x.2.1+a.2.2*x.2.2
noncomputable def Iv : E := (.bl Ac)
noncomputable def Hc : E := (.call 1 (.cons (.var 0) (.cons (.bin .Add (.bin .Add (.bin .Mult (.idx (.var 3) (.int 0)) (.idx (.var 2) (.int 0))) (.bin .Mult (.idx (.var 3) (.int 1)) (.idx (.var 2) (.int 1)))) (.bin .Mult (.idx (.var 3) (.int 2)) (.idx (.var 2) (.int 2)))) .nil)))
noncomputable def IB : Df := ⟨4, Ad, (.cons (.ret (.bi .tuple (.cons (.comp Hc 3 (.e (.var 1)) Iv) .nil))) .nil)⟩
noncomputable def Jb(Γ : Gam) : Prop := ∀(p : Ae)(t q q' : An)(a b c x : R3), 0<p -> B3 a -> B3 b -> B3 c -> B3 x -> Γ.F 91 [.int p, FS t q a b c, AO q' x] = .ok (AO Ac (Bz a x%p, Bz b x%p, Bz c x%p))
theorem SK(h : GU Γ)(p : Ae)(t q q' : An)(a b c x : R3)(hp : 0<p)(ha : B3 a)(hb : B3 b)(hc : B3 c)(hx : B3 x) : IB.run Γ [.int p, FS t q a b c, AO q' x] = .ok (AO Ac (Bz a x%p, Bz b x%p, Bz c x%p)) := by
 obtain⟨x0, x1, x2⟩ := Hy q' x;have k : ∀ {u v}, Bd 300 u -> Bd 300 v -> Fu u v = Ac := fun hu hv => LM hu hv (by decide) (by decide)
 have key : ∀ r : R3, B3 r -> cF Γ [si p, sh (FS t q a b c), sh (AO q' x), Af] 3 Hc (AO q r) = .ok (.int (Bz r x%p)) := fun r hr => by
  obtain⟨y0, y1, y2⟩ := Hy q r;simp[cF, Hc, x0, x1, x2, y0, y1, y2, k hr.1 hx.1, k hr.2.1 hx.2.1, k hr.2.2 hx.2.2, h p _ hp];rfl
 have g : ∀ r, cG Γ [si p, sh (FS t q a b c), sh (AO q' x), Af] 3 Iv r = .ok Ac := fun _ => rfl
 have cp : Bo (cG Γ [si p, sh (FS t q a b c), sh (AO q' x), Af] 3 Iv) (cF Γ [si p, sh (FS t q a b c), sh (AO q' x), Af] 3 Hc) [AO q a, AO q b, AO q c] = .ok [.int (Bz a x%p), .int (Bz b x%p), .int (Bz c x%p)] := by
  simp[Bo, g, key a ha, key b hb, key c hc]
 simp[IB, Df.run, BU, V3, cp];rfl
noncomputable def crs(a b : R3) : R3 := (a.2.1*b.2.2-a.2.2*b.2.1, a.2.2*b.1-a.1*b.2.2, a.1*b.2.1-a.2.1*b.1)
noncomputable def bk0(a b c : R3) : R3 := E9 (crs b c) (crs c a) (crs a b)
noncomputable def bk1(a b c : R3) : R3 := E8 (crs b c) (crs c a) (crs a b)
noncomputable def bk2(a b c : R3) : R3 := E7 (crs b c) (crs c a) (crs a b)
theorem HC(hp : P4 p)(h0 : 0 <= x)(h1 : x<p) : Bd 10 x := by
 unfold Bd;have := hp.hi;omega
theorem Bd.mono(h : Bd m x)(hm : m <= n) : Bd n x := Au h (DG (by decide) hm)
noncomputable def Bn(n : Ag)(a : R3) : Prop := Bd n a.1 /\ Bd n a.2.1 /\ Bd n a.2.2
theorem Bn.b3(h : Bn n a)(hn : n <= 300) : B3 a := ⟨h.1.mono hn, h.2.1.mono hn, h.2.2.mono hn⟩
theorem G4(hp : P4 p)(h : In3 p a) : Bn 10 a := ⟨HC hp h.1.1 h.1.2, HC hp h.2.1.1 h.2.1.2, HC hp h.2.2.1 h.2.2.2⟩
theorem Tz(a b c : R3) : AM (bk0 a b c) (bk1 a b c) (bk2 a b c) = AM a b c*AM a b c := by
 unfold AM det bk0 bk1 bk2 E9 E8 E7 crs;grind
noncomputable def Bq(k : Ae)(a : R3) : R3 := (k*a.1, k*a.2.1, k*a.2.2)
noncomputable def fk0(p : Ae)(a b c d : R3) : Ae := AM d b c%p
noncomputable def fs0(p : Ae)(a b c d : R3) : R3 := Bq (fk0 p a b c d) a
noncomputable def CgR(p : Ae)(x y : R3) : Prop := Cg p x.1 y.1 /\ Cg p x.2.1 y.2.1 /\ Cg p x.2.2 y.2.2
section
variable{p : Ae}{a b c a' b' c' x y z x' : R3}{k l m k' : Ae}
theorem CgR.rfl : CgR p a a := ⟨Cg.rfl, Cg.rfl, Cg.rfl⟩
theorem CgR.of(h : a = b) : CgR p a b := by rw[h];exact CgR.rfl
theorem CgR.trans(h : CgR p a b)(g : CgR p b c) : CgR p a c := ⟨h.1.trans g.1, h.2.1.trans g.2.1, h.2.2.trans g.2.2⟩
theorem CgR.symm(h : CgR p a b) : CgR p b a := ⟨h.1.symm, h.2.1.symm, h.2.2.symm⟩
theorem CgR.sc(hk : Cg p k k')(h : CgR p a b) : CgR p (Bq k a) (Bq k' b) := ⟨hk.mul h.1, hk.mul h.2.1, hk.mul h.2.2⟩
theorem Qr(ha : CgR p a a')(hb : CgR p b b')(hc : CgR p c c') : Cg p (AM a b c) (AM a' b' c') := by
 unfold AM det;exact Ey ha.1 ha.2.1 ha.2.2 hb.1 hb.2.1 hb.2.2 hc.1 hc.2.1 hc.2.2
theorem FR(ha : CgR p a a')(hb : CgR p b b') : Cg p (Bz a b) (Bz a' b') := ((ha.1.mul hb.1).add (ha.2.1.mul hb.2.1)).add (ha.2.2.mul hb.2.2)
theorem S5(ha : CgR p a a')(hb : CgR p b b')(hc : CgR p c c') : CgR p (E9 a b c) (E9 a' b' c') /\ CgR p (E8 a b c) (E8 a' b' c') /\ CgR p (E7 a b c) (E7 a' b' c') := ⟨⟨ha.1, hb.1, hc.1⟩, ⟨ha.2.1, hb.2.1, hc.2.1⟩, ⟨ha.2.2, hb.2.2, hc.2.2⟩⟩
theorem S4(ha : CgR p a a')(hb : CgR p b b') : CgR p (crs a b) (crs a' b'):=
 ⟨(ha.2.1.mul hb.2.2).sub (ha.2.2.mul hb.2.1), (ha.2.2.mul hb.1).sub (ha.1.mul hb.2.2), (ha.1.mul hb.2.1).sub (ha.2.1.mul hb.1)⟩
theorem HF(p t : Ae)(a : R3) : CgR p (fmR p t a) (Bq t a) := by
 have key : ∀ x : Ae, Cg p (t*(x%p)%p) (t*x) := fun x => (Cg.md _root_.rfl).trans (Cg.rfl.mul (Cg.md _root_.rfl))
 exact⟨key _, key _, key _⟩
noncomputable def ap(a b c x : R3) : R3 := (Bz a x, Bz b x, Bz c x)
theorem S1(k l m : Ae)(x y z : R3) : AM (Bq k x) (Bq l y) (Bq m z) = k*l*m*AM x y z := by
 unfold AM det Bq;grind
theorem Jj(k l : Ae)(x : R3) : Bq k (Bq l x) = Bq (k*l) x := by
 unfold Bq;simp only[D3]
theorem VA(a b c x : R3)(k : Ae) : ap a b c (Bq k x) = Bq k (ap a b c x) := by
 unfold ap Bq Bz;refine CD ?_ (CD ?_ ?_) <;> (simp only;grind)
end
theorem Vw(h : Cg p x y)(hy : y%p ≠ 0) : x%p ≠ 0 := fun z => hy ((show x%p = y%p from h).symm.trans z)
theorem nz3{z:Ae}(hp : P4 p)(hx : x%p ≠ 0)(hy : y%p ≠ 0)(hz : z%p ≠ 0) : x*y*z%p ≠ 0 := EL hp (EL hp hx hy) hz
section
variable{p : Ae}{a b c f0 f1 f2 f3 g0 g1 g2 g3 : R3}{d0 d1 d2 d3 : Ae}
end
section
variable{Γ : Gam}{ns : Ab Ae}
end
section
variable{Γ : Gam}{ns : Ab Ae}{many s5 s6 s7 s8 s9 s0 s1 s2 : Sl}{p : Ae}{a b c : R3}
end
noncomputable def ID : Df := ⟨2, Ad, (.cons (.ret (.bin .Add (.bin .Add (.bin .Mult (.idx (.var 0) (.int 0)) (.idx (.var 1) (.int 0))) (.bin .Mult (.idx (.var 0) (.int 1)) (.idx (.var 1) (.int 1)))) (.bin .Mult (.idx (.var 0) (.int 2)) (.idx (.var 1) (.int 2))))) .nil)⟩
noncomputable def Jx(Γ : Gam) : Prop := ∀(q q' : An)(a x : R3), B3 a -> B3 x -> Γ.F 95 [AO q a, AO q' x] = .ok (.int (Bz a x))
theorem Va(Γ : Gam)(q q' : An)(a x : R3)(ha : B3 a)(hx : B3 x) : ID.run Γ [AO q a, AO q' x] = .ok (.int (Bz a x)) := by
 obtain⟨x0, x1, x2⟩ := Hy q a;obtain⟨y0, y1, y2⟩ := Hy q' x;have k : ∀ {u v}, Bd 300 u -> Bd 300 v -> Fu u v = Ac := fun hu hv => LM hu hv (by decide) (by decide)
 simp[ID, Df.run, BU, x0, x1, x2, y0, y1, y2, k ha.1 hx.1, k ha.2.1 hx.2.1, k ha.2.2 hx.2.2];rfl
noncomputable def Kd : E := (.bl Ac)
noncomputable def Iw : E := (.call 95 (.cons (.var 3) (.cons (.var 2) .nil)))
noncomputable def Hh : Df := ⟨4, Ad, (.cons (.ret (.call 82 (.cons (.var 0) (.cons (.comp Iw 3 (.e (.var 1)) Kd) .nil)))) .nil)⟩
noncomputable def InL(p : Ae)(xs : Ab Ae) : Prop := ∀ x ∈ xs, 0 <= x /\ x<p
theorem InL.set(h : InL p xs)(k : Ag){v:Ae}(h0 : 0 <= v)(h1 : v<p) : InL p (xs.set k v) := fun x hx => by
 rcases List.mem_or_eq_of_mem_set hx with z|rfl
 ·exact h x z
 ·exact⟨h0, h1⟩
section
variable{Γ : Gam}{ns : Ab Ae}{p at_ : Ae}
end
section
variable{Γ : Gam}{ns : Ab Ae}{p t : Ae}
end
structure C6 where
 c0 : Ae
 c1 : Ae
 c2 : Ae
 c3 : Ae
 c4 : Ae
 c5 : Ae
noncomputable def C6.l(C : C6) : Ab Ae := [C.c0, C.c1, C.c2, C.c3, C.c4, C.c5]
noncomputable def vI(C : C6)(x : R3) : Ae := C.c0*x.1*x.1+C.c1*x.2.1*x.2.1+C.c2*x.2.2*x.2.2+(C.c3*x.1*x.2.1+C.c4*x.1*x.2.2+C.c5*x.2.1*x.2.2)
noncomputable def tw0(C : C6) : R3 := (2*C.c0, C.c3, C.c4)
noncomputable def tw1(C : C6) : R3 := (C.c3, 2*C.c1, C.c5)
noncomputable def tw2(C : C6) : R3 := (C.c4, C.c5, 2*C.c2)
noncomputable def bI(C : C6)(x y : R3) : Ae := Bz (ap (tw0 C) (tw1 C) (tw2 C) x) y
noncomputable def scC(k : Ae)(C : C6) : C6 := ⟨k*C.c0, k*C.c1, k*C.c2, k*C.c3, k*C.c4, k*C.c5⟩
noncomputable def CgC(p : Ae)(C D : C6) : Prop := Cg p C.c0 D.c0 /\ Cg p C.c1 D.c1 /\ Cg p C.c2 D.c2 /\ Cg p C.c3 D.c3 /\ Cg p C.c4 D.c4 /\ Cg p C.c5 D.c5
noncomputable def pb(C : C6)(a b c : R3) : C6 := ⟨vI C (E9 a b c), vI C (E8 a b c), vI C (E7 a b c), bI C (E9 a b c) (E8 a b c), bI C (E9 a b c) (E7 a b c), bI C (E8 a b c) (E7 a b c)⟩
section
variable{p : Ae}{C D E : C6}{a b c a' b' c' x y x' y' : R3}{k k' : Ae}
theorem C6.ext'(h0 : C.c0 = D.c0)(h1 : C.c1 = D.c1)(h2 : C.c2 = D.c2)(h3 : C.c3 = D.c3)(h4 : C.c4 = D.c4)(h5 : C.c5 = D.c5) : C = D := by
 cases C;cases D;simp_all
theorem CgC.rfl : CgC p C C := ⟨Cg.rfl, Cg.rfl, Cg.rfl, Cg.rfl, Cg.rfl, Cg.rfl⟩
theorem CgC.of(h : C = D) : CgC p C D := by rw[h];exact CgC.rfl
theorem CgC.symm(h : CgC p C D) : CgC p D C := ⟨h.1.symm, h.2.1.symm, h.2.2.1.symm, h.2.2.2.1.symm, h.2.2.2.2.1.symm, h.2.2.2.2.2.symm⟩
theorem CgC.trans(h : CgC p C D)(g : CgC p D E) : CgC p C E := ⟨h.1.trans g.1, h.2.1.trans g.2.1, h.2.2.1.trans g.2.2.1, h.2.2.2.1.trans g.2.2.2.1, h.2.2.2.2.1.trans g.2.2.2.2.1, h.2.2.2.2.2.trans g.2.2.2.2.2⟩
theorem CgC.sc(hk : Cg p k k')(h : CgC p C D) : CgC p (scC k C) (scC k' D) := ⟨hk.mul h.1, hk.mul h.2.1, hk.mul h.2.2.1, hk.mul h.2.2.2.1, hk.mul h.2.2.2.2.1, hk.mul h.2.2.2.2.2⟩
theorem Jm(h : CgC p C D)(hx : CgR p x x') : Cg p (vI C x) (vI D x'):=
 (((((h.1.mul hx.1).mul hx.1).add ((h.2.1.mul hx.2.1).mul hx.2.1)).add ((h.2.2.1.mul hx.2.2).mul hx.2.2))).add ((((h.2.2.2.1.mul hx.1).mul hx.2.1).add ((h.2.2.2.2.1.mul hx.1).mul hx.2.2)).add ((h.2.2.2.2.2.mul hx.2.1).mul hx.2.2))
theorem TM(h : CgC p C D) : CgR p (tw0 C) (tw0 D) /\ CgR p (tw1 C) (tw1 D) /\ CgR p (tw2 C) (tw2 D):=
 ⟨⟨Cg.rfl.mul h.1, h.2.2.2.1, h.2.2.2.2.1⟩, ⟨h.2.2.2.1, Cg.rfl.mul h.2.1, h.2.2.2.2.2⟩, ⟨h.2.2.2.2.1, h.2.2.2.2.2, Cg.rfl.mul h.2.2.1⟩⟩
theorem TC(ha : CgR p a a')(hb : CgR p b b')(hc : CgR p c c')(hx : CgR p x x') : CgR p (ap a b c x) (ap a' b' c' x') := ⟨FR ha hx, FR hb hx, FR hc hx⟩
theorem Jq(h : CgC p C D)(hx : CgR p x x')(hy : CgR p y y') : Cg p (bI C x y) (bI D x' y'):=
 let ⟨t0, t1, t2⟩ := TM h
 FR (TC t0 t1 t2 hx) hy
theorem LW(h : CgC p C D)(ha : CgR p a a')(hb : CgR p b b')(hc : CgR p c c') : CgC p (pb C a b c) (pb D a' b' c'):=
 let ⟨s0, s1, s2⟩ := S5 ha hb hc
 ⟨Jm h s0, Jm h s1, Jm h s2, Jq h s0 s1, Jq h s0 s2, Jq h s1 s2⟩
theorem LA(k l : Ae)(C : C6) : scC k (scC l C) = scC (k*l) C := by
 unfold scC;simp only[D3]
theorem Lm(C : C6) : scC 1 C = C := by unfold scC;simp only[DZ]
theorem UB(k : Ae)(C : C6)(a b c : R3) : pb (scC k C) a b c = scC k (pb C a b c) := by
 unfold pb scC vI bI ap tw0 tw1 tw2 Bz;refine C6.ext' ?_ ?_ ?_ ?_ ?_ ?_ <;> (simp only;grind)
theorem RI(k : Ae)(C : C6)(a b c : R3) : pb C (Bq k a) (Bq k b) (Bq k c) = scC (k*k) (pb C a b c) := by
 unfold pb scC vI bI ap tw0 tw1 tw2 Bz E9 E8 E7 Bq;refine C6.ext' ?_ ?_ ?_ ?_ ?_ ?_ <;> (simp only;grind)
noncomputable def PrC(p : Ae)(C D : C6) : Prop := ∃ d, d%p ≠ 0 /\ CgC p C (scC d D)
theorem PrC.rfl(hp : P4 p) : PrC p C C := ⟨1, hp.o1, CgC.of (Lm C).symm⟩
theorem PrC.trans(hp : P4 p)(i : PrC p C D)(j : PrC p D E) : PrC p C E := by
 obtain⟨d, dz, e⟩ := i;obtain⟨d', dz', e'⟩ := j;exact⟨d*d', EL hp dz dz', e.trans ((CgC.sc Cg.rfl e').trans (CgC.of (LA _ _ _)))⟩
theorem LF(hp : P4 p)(dz : k%p ≠ 0) : ∃ u, u%p ≠ 0 /\ Cg p (u*k) 1 := by
 obtain⟨u, u1, u2, u3⟩ := Gm hp dz;refine⟨u, by rw[Av (by omega) u2];omega, ?_⟩
 show u*k%p = 1%p;rw[Cb, u3, Av (by decide) (by have := hp.lo;omega)]
theorem PrC.symm(hp : P4 p)(i : PrC p C D) : PrC p D C := by
 obtain⟨d, dz, e⟩ := i;obtain⟨u, uz, o⟩ := LF hp dz;refine⟨u, uz, ?_⟩;have q := CgC.sc (k := u) (k' := u) Cg.rfl e;rw[LA]at q;exact(q.trans ((CgC.sc o CgC.rfl).trans (CgC.of (Lm D)))).symm
theorem PrC.pb(i : PrC p C D) : PrC p (OvC.pb C a b c) (OvC.pb D a b c) := by
 obtain⟨d, dz, e⟩ := i;exact⟨d, dz, (LW e CgR.rfl CgR.rfl CgR.rfl).trans (CgC.of (UB d D a b c))⟩
theorem PrC.tab(hp : P4 p)(kz : k%p ≠ 0)(ha : CgR p a (Bq k a'))(hb : CgR p b (Bq k b'))(hc : CgR p c (Bq k c')) : PrC p (OvC.pb C a b c) (OvC.pb C a' b' c'):=
 ⟨k*k, EL hp kz kz, (LW CgC.rfl ha hb hc).trans (CgC.of (RI k C a' b' c'))⟩
noncomputable def InC(p : Ae)(C : C6) : Prop := ∀ x ∈ C.l, 0 <= x /\ x<p
end
structure BC (C : C6) : Prop where
 b0 : Bd 10 C.c0
 b1 : Bd 10 C.c1
 b2 : Bd 10 C.c2
 b3 : Bd 10 C.c3
 b4 : Bd 10 C.c4
 b5 : Bd 10 C.c5
theorem InC.b{C:C6}(hp : P4 p)(h : InC p C) : BC C := by
 have k : ∀ x ∈ C.l, Bd 10 x := fun x hx => HC hp (h x hx).1 (h x hx).2
 exact⟨k _ (by simp[C6.l]), k _ (by simp[C6.l]), k _ (by simp[C6.l]), k _ (by simp[C6.l]), k _ (by simp[C6.l]), k _ (by simp[C6.l])⟩
noncomputable def t0(p : Ae)(C : C6) : R3 := (2*C.c0%p, C.c3, C.c4)
noncomputable def t1(p : Ae)(C : C6) : R3 := (C.c3, 2*C.c1%p, C.c5)
noncomputable def t2(p : Ae)(C : C6) : R3 := (C.c4, C.c5, 2*C.c2%p)
section
variable{Γ : Gam}{ns : Ab Ae}{p at_ : Ae}{φ : Ae -> Ae}
end
noncomputable def Pr(p : Ae)(x y : R3) : Prop := ∃ d, d%p ≠ 0 /\ CgR p x (Bq d y)
section
variable{p : Ae}{a b c x y z f g h : R3}{k : Ae}
theorem GV(x : R3) : Bq 1 x = x := by unfold Bq;simp only[DZ]
theorem Pr.rfl(hp : P4 p) : Pr p x x := ⟨1, hp.o1, CgR.of (GV x).symm⟩
theorem Pr.trans(hp : P4 p)(i : Pr p x y)(j : Pr p y z) : Pr p x z := by
 obtain⟨d, dz, e⟩ := i;obtain⟨d', dz', e'⟩ := j;exact⟨d*d', EL hp dz dz', e.trans ((CgR.sc Cg.rfl e').trans (CgR.of (Jj _ _ _)))⟩
theorem Pr.symm(hp : P4 p)(i : Pr p x y) : Pr p y x := by
 obtain⟨d, dz, e⟩ := i;obtain⟨u, u1, u2, u3⟩ := Gm hp dz;have uz : u%p ≠ 0 := by rw[Av (by omega) u2];omega
 have o : Cg p (u*d) 1 := by
  show u*d%p = 1%p;rw[Cb, u3, Av (by decide) (by have := hp.lo;omega)]
 refine⟨u, uz, ?_⟩;have q := CgR.sc (k := u) (k' := u) Cg.rfl e;rw[Jj]at q;exact(q.trans ((CgR.sc o CgR.rfl).trans (CgR.of (GV y)))).symm
theorem Pr.cg(hp : P4 p)(e : CgR p x y) : Pr p x y := ⟨1, hp.o1, e.trans (CgR.of (GV y).symm)⟩
theorem Jw{a' b' c' x':R3}(ha : CgR p a a')(hb : CgR p b b')(hc : CgR p c c')(hx : CgR p x x') : CgR p (ap a b c x) (ap a' b' c' x') := ⟨FR ha hx, FR hb hx, FR hc hx⟩
theorem Pr.ap(i : Pr p x y) : Pr p (OvC.ap a b c x) (OvC.ap a b c y) := by
 obtain⟨d, dz, e⟩ := i;exact⟨d, dz, (Jw CgR.rfl CgR.rfl CgR.rfl e).trans (CgR.of (VA a b c y d))⟩
theorem TB(k : Ae)(a b c x : R3) : ap (Bq k a) (Bq k b) (Bq k c) x = Bq k (ap a b c x) := by
 unfold ap Bq Bz;refine CD ?_ (CD ?_ ?_) <;> (simp only;grind)
theorem Pr.tab{a' b' c':R3}(kz : k%p ≠ 0)(ha : CgR p a (Bq k a'))(hb : CgR p b (Bq k b'))(hc : CgR p c (Bq k c')) : Pr p (OvC.ap a b c x) (OvC.ap a' b' c' x):=
 ⟨k, kz, (Jw ha hb hc CgR.rfl).trans (CgR.of (TB k a' b' c' x))⟩
theorem Mg(a b c v : R3) : ap (bk0 a b c) (bk1 a b c) (bk2 a b c) (ap a b c v) = Bq (AM a b c) v := by
 unfold ap Bq Bz bk0 bk1 bk2 E9 E8 E7 crs AM det;refine CD ?_ (CD ?_ ?_) <;> (simp only;grind)
end
noncomputable def tri(g : R3) : Ab Ae := [g.1, g.2.1, g.2.2]
theorem Qz{x y:R3}(hp : P4 p)(ix : In3 p x)(iy : In3 p y)(lx : A5 p (tri x) = Aa 1)(ly : A5 p (tri y) = Aa 1)(h : Pr p x y) : x = y := by
 obtain⟨d, dz, e⟩ := h;have p1 : 1<p := by have := hp.lo;omega
 have rs : (tri x).map (fun x => x%p) = ((tri y).map fun x => d*x).map (fun x => x%p) := by
  simp only[tri, B5, Fi];rw[show x.1%p = d*y.1%p from e.1, show x.2.1%p = d*y.2.1%p from e.2.1, show x.2.2%p = d*y.2.2%p from e.2.2]
 have el := GL hp dz (f := fun x => d*x) (fun _ => rfl) (tri y)
 rw[ly, <-J7 rs, lx, C4, De, EI]at el;have o : Cg p d 1 := by
  show d%p = 1%p;rw[<-el, Av (by decide) p1]
 have q := e.trans ((CgR.sc o CgR.rfl).trans (CgR.of (GV y)));have same : ∀{u v : Ae}, (0 <= u /\ u<p) -> (0 <= v /\ v<p) -> Cg p u v -> u = v := fun hu hv huv => by
  have := show _%p = _%p from huv
  rwa [Av hu.1 hu.2, Av hv.1 hv.2]at this
 exact CD (same ix.1 iy.1 q.1) (CD (same ix.2.1 iy.2.1 q.2.1) (same ix.2.2 iy.2.2 q.2.2))
theorem Oi{a b c : R3}(hp : P4 p)(nz : AM a b c%p ≠ 0) : ∃ l t, A5 p (Ca a b c) = Aa l /\ Ed p l t /\ t%p ≠ 0 /\ GoodR p (fmR p t a) (fmR p t b) (fmR p t c) /\ A5 p (Ca (fmR p t a) (fmR p t b) (fmR p t c)) = Aa 1 := by
 have p0 := hp.pos;obtain⟨l, el⟩ := OD nz;obtain⟨lz, _, _⟩ := GO p0 el;obtain⟨t, t1, t2, t3⟩ := Gm hp lz;have tz : t%p ≠ 0 := by rw[Av (by omega) t2];omega
 have ff : ∀ x, (t*(x%p)%p)%p = t*x%p := fun x => by rw[AZ _ (BF p), Bh t (x%p) p, AZ _ (BF p), <-Bh]
 have lv := GL hp tz (f := fun x => t*(x%p)%p) ff (Ca a b c)
 rw[el]at lv;refine⟨l, t, el, ⟨t1, t2, t3⟩, tz, ⟨hp, HE p0 t a, HE p0 t b, HE p0 t c, Vw ((Qr (HF p t a) (HF p t b) (HF p t c)).trans (Cg.of (S1 t t t a b c))) (EL hp (nz3 hp tz tz tz) nz)⟩, ?_⟩;have e : A5 p ((Ca a b c).map fun x => t*(x%p)%p) = Aa 1 := by rw[lv, C4, Cb, t3]
 exact e
section
variable{p : Ae}{a b c a' b' c' f0 f1 f2 f3 g0 g1 g2 g3 h0 h1 h2 h3 : R3}
end
section
variable{Γ : Gam}{ns : Ab Ae}{p : Ae}
end
section
variable{Γ : Gam}{ns : Ab Ae}{mid : Ag}{p : Ae}{a b c : R3}{s2 s4 s5 s6 s7 s8 : Sl}
end
theorem OP{lo hi:Ae}(h1 : -1000 <= lo)(h2 : lo <= 1000)(h3 : -1000 <= hi)(h4 : hi <= 1000) : Cv lo hi = .ok (C0 lo (hi-lo).toNat) := by
 unfold Cv;rw[AE (by refine⟨⟨by omega, by omega⟩, ⟨by omega, by omega⟩, ?_⟩;omega)]
theorem Th(h : 1<p) : A5 p [0, 0, 1] = Aa 1 := by
 simp[A5, Av (by decide : (0 : Ae) <= 1) h]
theorem UM(h : 1<p)(z : Ae) : A5 p [0, 1, z] = Aa 1 := by
 simp[A5, Av (by decide : (0 : Ae) <= 1) h]
theorem V8(h : 1<p)(y z : Ae) : A5 p [1, y, z] = Aa 1 := by
 simp[A5, Av (by decide : (0 : Ae) <= 1) h]
noncomputable def GX : Df := ⟨3, Ad, (.cons (.ret (.call 17 (.cons (.var 0) (.cons (.call 91 (.cons (.var 0) (.cons (.var 1) (.cons (.var 2) .nil)))) .nil)))) .nil)⟩
theorem IQ{p l : Ae}(hp : P4 p)(el : A5 p (tri r) = Aa l) : ∃ u, Ed p l u /\ In3 p (fmR p u r) /\ A5 p (tri (fmR p u r)) = Aa 1 /\ Pr p (fmR p u r) r /\ fmI p u (tri r) = tri (fmR p u r) := by
 have p0 := hp.pos;obtain⟨lz, _, _⟩ := GO p0 el;obtain⟨t, t1, t2, t3⟩ := Gm hp lz;have tz : t%p ≠ 0 := by rw[Av (by omega) t2];omega
 have ff : ∀ x, (t*(x%p)%p)%p = t*x%p := fun x => by rw[AZ _ (BF p), Bh t (x%p) p, AZ _ (BF p), <-Bh]
 have lv := GL hp tz (f := fun x => t*(x%p)%p) ff (tri r)
 rw[el, C4, Cb, t3]at lv;exact⟨t, ⟨t1, t2, t3⟩, HE p0 t r, lv, ⟨t, tz, HF p t r⟩, rfl⟩
theorem Ph(h : A5 p (tri g) = Af) : CgR p g (0, 0, 0) := by
 have hz := Hg.mp h;have k : ∀ x ∈ tri g, Cg p x 0 := fun x hx => by show x%p = 0%p;rw[hz x hx, D4]
 exact⟨k _ (by simp[tri]), k _ (by simp[tri]), k _ (by simp[tri])⟩
theorem Pw(h : CgR p g (0, 0, 0)) : A5 p (tri g) = Af := by
 refine Hg.mpr fun x hx => ?_
 have k : ∀{x : Ae}, Cg p x 0 -> x%p = 0 := fun {x} h => by rw[show x%p = _ from h, D4]
 simp only[tri, AK, Nn, or_false]at hx;rcases hx with rfl|rfl|rfl
 ·exact k h.1
 ·exact k h.2.1
 ·exact k h.2.2
theorem IU{p l : Ae}{a b c f g : R3}(hp : P4 p)(z : AM a b c%p ≠ 0)(lf : A5 p (tri f) = Aa l)(h : CgR p g (ap a b c f)) : ∃ l, A5 p (tri g) = Aa l := by
 cases el : A5 p (tri g) with
 |some l => exact⟨l, rfl⟩
 |none=>
  have q0 : CgR p (ap a b c f) (0, 0, 0) := h.symm.trans (Ph el);have q1 : CgR p (Bq (AM a b c) f) (0, 0, 0) := by
   have := Jw (CgR.rfl (a := bk0 a b c)) (CgR.rfl (a := bk1 a b c)) (CgR.rfl (a := bk2 a b c)) q0;rw[Mg]at this;refine this.trans (CgR.of ?_);unfold ap Bz;simp
  obtain⟨u, uz, o⟩ := LF hp z;have q2 : CgR p f (0, 0, 0) := by
   have w := CgR.sc (k := u) (k' := u) Cg.rfl q1;rw[Jj]at w;refine((CgR.of (GV f).symm).trans (CgR.sc o.symm CgR.rfl)).trans (w.trans (CgR.of ?_));unfold Bq;simp
  rw[Pw q2]at lf;cases lf
theorem RU(hs : Jb Γ)(hf : IX Γ)(p : Ae)(a b c f : R3)(g : GoodR p a b c)(i0 : In3 p f)(lf : A5 p (tri f) = Aa 1) : ∃ g, In3 p g /\ A5 p (tri g) = Aa 1 /\ Pr p g (ap a b c f) /\ GX.run Γ [.int p, Dk a b c, AO Ac f] = .ok (AO Ac g) := by
 have hp := g.p4;have e1 : Γ.F 91 [.int p, Dk a b c, AO Ac f] = _ := hs p Ac Ac Ac a b c f hp.pos ((G4 hp g.ia).b3 (by decide)) ((G4 hp g.ib).b3 (by decide)) ((G4 hp g.ic).b3 (by decide)) ((G4 hp i0).b3 (by decide))
 have cg : CgR p (Bz a f%p, Bz b f%p, Bz c f%p) (ap a b c f) := ⟨Cg.md rfl, Cg.md rfl, Cg.md rfl⟩;obtain⟨l, el⟩ := IU hp g.nz lf cg;obtain⟨u, iu, j, l1, pr, ef⟩ := IQ hp el;have e2 := hf p Ac _ l u hp el iu;rw[ef]at e2;generalize (Bz a f%p, Bz b f%p, Bz c f%p) = w at *;have e2' : Γ.F 17 [.int p, AO Ac w] = .ok (AO Ac (fmR p u w)) := e2;refine⟨fmR p u w, j, l1, pr.trans hp (Pr.cg hp cg), ?_⟩;simp[GX, Df.run, BU, e1, e2']
section
variable{Γ : Gam}{ns : Ab Ae}{p : Ae}{C : C6}{s3 s4 s5 s6 s7 s8 : Sl}
end
section
variable{Γ : Gam}{ns : Ab Ae}
end
section
variable{Γ : Gam}{ns : Ab Ae}{p : Ae}{C : C6}{s3 s4 s5 s6 s7 s8 : Sl}
end
noncomputable def NF(p : Ae)(x : R3) : Prop := In3 p x /\ A5 p (tri x) = Aa 1
noncomputable def ptI(p n : Ae) : R3 := if n = 0 then (0, 0, 1) else if n <= p then (0, 1, n-1) else (1, (n-p-1) / p, (n-p-1)%p)
noncomputable def Di(p : Ae) : Ab R3 := (B1 (p*p+p+1).toNat).map fun(n : Ag) => ptI p n
theorem Vf{n:Ae}(hp : P4 p)(h0 : 0 <= n)(h1 : n<p*p+p+1) : NF p (ptI p n) := by
 have p1 : 1<p := by have := hp.lo;omega
 have p0 := hp.pos;unfold ptI;by_cases z : n = 0
 ·rw[AE z];exact⟨⟨⟨by decide, p0⟩, ⟨by decide, p0⟩, ⟨by decide, p1⟩⟩, Th p1⟩
 ·rw[AJ z];by_cases z1 : n <= p
  ·rw[AE z1];exact⟨⟨⟨FF 0, p0⟩, ⟨(by decide : (0 : Ae) <= 1), p1⟩, ⟨by show 0 <= n-1;omega, by show n-1<p;omega⟩⟩, UM p1 _⟩
  ·rw[AJ z1];have d0 : 0 <= (n-p-1) / p := Int.ediv_nonneg (by omega) (by omega)
   have d1 : (n-p-1) / p<p := by rw[Int.ediv_lt_iff_lt_mul p0];omega
   exact⟨⟨⟨(by decide : (0 : Ae) <= 1), p1⟩, ⟨d0, d1⟩, ⟨A8 _ (by omega), A2 _ p0⟩⟩, V8 p1 _ _⟩
theorem UK{x:R3}(hp : P4 p)(h : NF p x) : ∃ n : Ae, 0 <= n /\ n<p*p+p+1 /\ x = ptI p n := by
 obtain⟨⟨i0, i1, i2⟩, l⟩ := h;have p1 : 1<p := by have := hp.lo;omega
 have p0 := hp.pos;have pp := FG p0 p0;obtain⟨x0, x1, x2⟩ := x;simp only at i0 i1 i2;unfold tri A5 at l;simp only at l;rw[Av i0.1 i0.2]at l;by_cases z0 : x0 = 0
 ·rw[AE z0]at l;unfold A5 at l;rw[Av i1.1 i1.2]at l;by_cases z1 : x1 = 0
  ·rw[AE z1]at l;unfold A5 at l;rw[Av i2.1 i2.2]at l;by_cases z2 : x2 = 0
   ·rw[AE z2]at l;cases l
   ·rw[AJ z2, De]at l;exact⟨0, FF 0, by omega, by rw[z0, z1, l];rfl⟩
  ·rw[AJ z1, De]at l;refine⟨x2+1, by omega, by omega, ?_⟩
   unfold ptI;rw[AJ (by omega), AE (by omega), z0, l, Int.add_sub_cancel]
 ·rw[AJ z0, De]at l;have m1 : p*x1 <= p*(p-1) := Int.mul_le_mul_of_nonneg_left (by omega) (by omega)
  have m0 : 0 <= p*x1 := Int.mul_nonneg (by omega) i1.1
  rw[Int.mul_sub, EI]at m1;refine⟨p+1+p*x1+x2, by omega, by omega, ?_⟩
  unfold ptI;have e : p+1+p*x1+x2-p-1 = x2+p*x1 := by omega
  rw[AJ (by omega), AJ (by omega), e, Int.add_mul_ediv_left _ _ (by omega), Int.ediv_eq_zero_of_lt i2.1 i2.2, Int.add_mul_emod_self_left, Av i2.1 i2.2, M5, l]
theorem QE{x:R3}(hp : P4 p) : x ∈ Di p ↔ NF p x := by
 have p0 := hp.pos;have pp := FG p0 p0;constructor
 ·intro h;obtain⟨n, hn, rfl⟩ := CH.mp h;have := B8.mp hn;exact Vf hp (by omega) (by omega)
 ·intro h;obtain⟨n, n0, n1, rfl⟩ := UK hp h;refine CH.mpr ⟨n.toNat, B8.mpr (by omega), ?_⟩
  rw[M4 n0]
theorem OW(hp : P4 p) : (Di p).Nodup := by
 rcases hp with rfl|rfl|rfl|rfl <;> decide +kernel
noncomputable def nrm(p : Ae)(r : R3) : R3 := open Classical in if h : ∃ y, NF p y /\ Pr p y r then MY h else r
theorem O5{p l : Ae}(hp : P4 p)(el : A5 p (tri r) = Aa l) : NF p (nrm p r) /\ Pr p (nrm p r) r := by
 have h : ∃ y, NF p y /\ Pr p y r := by
  obtain⟨u, iu, j, l1, pr, _⟩ := IQ hp el;exact⟨_, ⟨j, l1⟩, pr⟩
 unfold nrm;rw[dif_pos h];exact CG h
theorem GK{a b c x : R3}(hp : P4 p)(z : AM a b c%p ≠ 0)(hx : NF p x) : NF p (nrm p (ap a b c x)) /\ Pr p (nrm p (ap a b c x)) (ap a b c x) := by
 obtain⟨l, el⟩ := IU hp z hx.2 CgR.rfl;exact O5 hp el
theorem Ji{x y:R3}(hp : P4 p)(hx : NF p x)(hy : NF p y)(h : Pr p x y) : x = y := Qz hp hx.1 hy.1 hx.2 hy.2 h
theorem Kj{a b c x : R3}(hp : P4 p)(z : AM a b c%p ≠ 0)(hx : NF p x) : nrm p (ap (bk0 a b c) (bk1 a b c) (bk2 a b c) (nrm p (ap a b c x))) = x := by
 obtain⟨h1, h2⟩ := GK hp z hx;have zB : AM (bk0 a b c) (bk1 a b c) (bk2 a b c)%p ≠ 0 := by rw[Tz];exact EL hp z z
 obtain⟨h3, h4⟩ := GK hp zB h1;refine Ji hp h3 hx (h4.trans hp ((Pr.ap h2).trans hp ?_));rw[Mg];exact⟨_, z, CgR.rfl⟩
noncomputable def q4(w : Ag)(k : Ae)(y : R3) : Ae := match w with
  |0 => y.1*y.2.2-y.2.1*y.2.1
  |1 => y.1*y.1
  |2 => y.1*y.2.1
  |_ => y.1*y.1-k*(y.2.1*y.2.1)
noncomputable def LZ(pts : Ab R3) : D := .lst (pts.map (AO Ac))
section
variable{Γ : Gam}{p i j k d N : Ae}{PP x y u : D}{RL : Ab D}{s t s' t' v : Sl}
end
section
variable{Γ : Gam}{p : Ae}{pts : Ab R3}
end
theorem PX{x y:R3}(h : tri x = tri y) : x = y := by
 obtain⟨x0, x1, x2⟩ := x;obtain⟨y0, y1, y2⟩ := y;unfold tri at h;simp at h;obtain⟨rfl, rfl, rfl⟩ := h;rfl
theorem S3(k l : Ae)(a b : R3) : crs (Bq k a) (Bq l b) = Bq (k*l) (crs a b) := by
 unfold crs Bq;simp only;refine CD ?_ (CD ?_ ?_) <;> (simp only;grind)
theorem Pr.crs{a b a' b' : R3}(hp : P4 p)(h : Pr p a a')(g : Pr p b b') : Pr p (OvC.crs a b) (OvC.crs a' b') := by
 obtain⟨d, dz, e⟩ := h;obtain⟨d', dz', e'⟩ := g;exact⟨d*d', EL hp dz dz', (S4 e e').trans (CgR.of (S3 ..))⟩
noncomputable def GI : Df := ⟨2, Ad, (.cons (.asg 1 Ad (.bin .Mod (.var 1) (.bin .Add (.bin .Add (.bin .Mult (.var 0) (.var 0)) (.var 0)) (.int 1)))) (.cons (.ife (.cmp .Eq (.var 1) (.int 0)) (.cons (.ret (.tup (.cons (.int 0) (.cons (.int 0) (.cons (.int 1) .nil))))) .nil) .nil) (.cons (.ife (.cmp .LtE (.var 1) (.var 0)) (.cons (.ret (.tup (.cons (.int 0) (.cons (.int 1) (.cons (.bin .Sub (.var 1) (.int 1)) .nil))))) .nil) .nil) (.cons (.ret (.tup (.cons (.int 1) (.cons (.bin .FloorDiv (.bin .Sub (.bin .Sub (.var 1) (.var 0)) (.int 1)) (.var 0)) (.cons (.bin .Mod (.bin .Sub (.bin .Sub (.var 1) (.var 0)) (.int 1)) (.var 0)) .nil))))) .nil))))⟩
noncomputable def LQ(Γ : Gam) : Prop := ∀(p n : Ae), P4 p -> Γ.F 93 [.int p, .int n] = .ok (AO Ac (ptI p (n%(p*p+p+1))))
theorem pN{n:Ae}(hp : P4 p) : 0<p*p+p+1 /\ 0 <= n%(p*p+p+1) /\ n%(p*p+p+1)<p*p+p+1 := by
 have p0 := hp.pos;have N0 : 0<p*p+p+1 := by have := FG p0 p0;omega
 exact⟨N0, A8 n (Int.ne_of_gt N0), A2 n N0⟩
theorem RQ(Γ : Gam)(p n : Ae)(hp : P4 p) : GI.run Γ [.int p, .int n] = .ok (AO Ac (ptI p (n%(p*p+p+1)))) := by
 have pp : BE p p = Ac := DV (by have := hp.lo;omega) (by have := hp.hi;omega)
 have p0 := hp.pos;have ph := hp.hi;obtain⟨N0, h0, h1⟩ := pN (n := n) hp;have pb : p<1073741824 := by omega
 generalize hr : n%(p*p+p+1) = r at *;unfold ptI;by_cases z0 : r = 0
 ·rw[AE z0];simp[GI, Df.run, BU, pp, N0, hr, z0];rfl
 ·rw[AJ z0];by_cases z1 : r <= p
  ·rw[AE z1];simp[GI, Df.run, BU, pp, N0, hr, z0, z1];rfl
  ·rw[AJ z1];simp[GI, Df.run, BU, pp, N0, hr, z0, z1, p0, pb];rfl
noncomputable def Ix : E := (.bl Ac)
noncomputable def GH : E := (.call 93 (.cons (.var 0) (.cons (.var 1) .nil)))
noncomputable def Hi : Df := ⟨2, Ad, (.cons (.ret (.comp GH 1 (.rng (.bin .Add (.bin .Add (.bin .Mult (.var 0) (.var 0)) (.var 0)) (.int 1))) Ix)) .nil)⟩
noncomputable def RF(Γ : Gam) : Prop := ∀ p : Ae, P4 p -> Γ.F 94 [.int p] = .ok (LZ (Di p))
theorem QS(h : LQ Γ)(p : Ae)(hp : P4 p) : Hi.run Γ [.int p] = .ok (LZ (Di p)) := by
 have pp : BE p p = Ac := DV (by have := hp.lo;omega) (by have := hp.hi;omega)
 have N1 : 0 <= p*p+p+1 /\ p*p+p+1 <= 1000 := by rcases hp with rfl|rfl|rfl|rfl <;> decide
 have rg : Cv 0 (p*p+p+1) = .ok (C0 0 (p*p+p+1-0).toNat) := OP (by decide) (by decide) (by omega) (by omega)
 rw[Fh]at rg;have cp : Bo (cG Γ [si p, Af] 1 Ix) (cF Γ [si p, Af] 1 GH) (C0 0 (p*p+p+1).toNat) = .ok ((Di p).map (AO Ac)) := by
  have key : ∀ L : Ab Ag, (∀ k ∈ L, (k : Ae)<p*p+p+1) -> Bo (cG Γ [si p, Af] 1 Ix) (cF Γ [si p, Af] 1 GH) (L.map fun(k : Ag) => D.int (0+(k : Ae))) = .ok ((L.map fun(n : Ag) => ptI p n).map (AO Ac)) := fun L => by
   induction L with
   |nil => intro _;rfl
   |cons k L ih=>
    intro hL;have e := h p k hp;rw[Av (by omega) (hL k At)]at e
    have f : cF Γ [si p, Af] 1 GH (.int (0+(k : Ae))) = .ok (AO Ac (ptI p k)) := by
     rw[M5];simp[cF, GH, e]
    have ih' := ih fun m hm => hL m (Aq _ hm)
    show (R.ok Ac).bind _ = _;rw[R.bind_ok, AE rfl, f, R.bind_ok, show Bo _ _ (List.map _ L) = _ from ih']
    rfl
  exact key _ fun k hk => by have := B8.mp hk;omega
 generalize hN : p*p+p+1 = N at *;generalize C0 0 N.toNat = RL at *;have e1 : p*p+p+1 = N := hN;simp[Hi, Df.run, BU, pp, e1, rg, cp];rfl
noncomputable def TJ(Γ : Gam) : Prop := ∀(p : Ae)(a b c x : R3), GoodR p a b c -> NF p x -> Γ.F 96 [.int p, Dk a b c, AO Ac x] = .ok (AO Ac (nrm p (ap a b c x)))
theorem Qs(hd : Jx Γ){a b c x : R3}{g f : D -> R D}{gg:D -> R An}(hp : P4 p)(ha : In3 p a)(hb : In3 p b)(hc : In3 p c)(hx : In3 p x)(hg : ∀ r, gg r = .ok Ac)(hf : ∀ r y, Γ.F 95 [AO Ac r, AO Ac x] = .ok y -> f (AO Ac r) = .ok y) : Bo gg f [AO Ac a, AO Ac b, AO Ac c] = .ok [.int (Bz a x), .int (Bz b x), .int (Bz c x)] := by
 have b3 : ∀ {r}, In3 p r -> B3 r := fun h => (G4 hp h).b3 (by decide)
 have k : ∀ r, In3 p r -> f (AO Ac r) = .ok (.int (Bz r x)) := fun r hr => hf r _ (hd Ac Ac r x (b3 hr) (b3 hx))
 simp[Bo, hg, k a ha, k b hb, k c hc]
theorem RV(hd : Jx Γ)(hf : IY Γ)(p : Ae)(a b c x : R3)(G : GoodR p a b c)(hx : NF p x) : Hh.run Γ [.int p, Dk a b c, AO Ac x] = .ok (AO Ac (nrm p (ap a b c x))) := by
 have hp := G.p4;obtain⟨l, el⟩ := IU hp G.nz hx.2 CgR.rfl;obtain⟨u, iu, j, l1, pr, ef⟩ := IQ hp el;obtain⟨n1, n2⟩ := GK hp G.nz hx;have e0 : fmR p u (ap a b c x) = nrm p (ap a b c x) := Ji hp ⟨j, l1⟩ n1 (pr.trans hp (n2.symm hp));have e := hf p Ad _ l u hp el iu;rw[ef, e0]at e;have e' : Γ.F 82 [.int p, .lst [.int (Bz a x), .int (Bz b x), .int (Bz c x)]] = .ok (AO Ac (nrm p (ap a b c x))) := e;have cp := Qs (g := fun _ => .bad) (gg := cG Γ [si p, sh (Dk a b c), sh (AO Ac x), Af] 3 Kd) (f := cF Γ [si p, sh (Dk a b c), sh (AO Ac x), Af] 3 Iw) hd hp G.ia G.ib G.ic hx.1 (fun _ => rfl) (fun r y e => by
  generalize AO Ac r = rr at *;generalize AO Ac x = xx at *;simp[cF, Iw, e])
 have sq : CZ (Dk a b c) = .ok [AO Ac a, AO Ac b, AO Ac c] := rfl;generalize AO Ac (nrm p (ap a b c x)) = Y at *;generalize AO Ac x = xx at *;generalize Dk a b c = TT at *;generalize [AO Ac a, AO Ac b, AO Ac c] = LL at *;simp[Hh, Df.run, BU, sq, cp, e']
noncomputable def GF : Ss := (.cons (.asg 5 Ad (.call 92 (.cons (.var 1) (.cons (.var 2) (.cons (.var 4) .nil))))) (.cons (.ife (.or (.cons (.no (.call 86 (.cons (.var 5) (.cons (.var 1) (.cons (.int 3) .nil))))) (.cons (.cmp .NotEq (.var 5) (.call 96 (.cons (.var 1) (.cons (.var 2) (.cons (.var 4) .nil))))) (.cons (.cmp .In (.var 5) (.var 3)) .nil)))) (.cons (.ret (.bl Ad)) .nil) .nil) (.cons (.dput 3 (.var 5) (.bl Ac)) .nil)))
noncomputable def IC : Df := ⟨6, Ad, (.cons (.asg 1 Ad (.call 81 (.cons (.var 0) .nil))) (.cons (.asg 2 Ad (.call 84 (.cons (.var 1) (.cons (.call 83 (.cons (.var 0) (.cons (.var 1) (.cons (.int 1) (.cons (.call 88 (.cons (.var 0) (.cons (.int 1) .nil))) .nil))))) .nil)))) (.cons (.dnw 3) (.cons (.fors 4 (.e (.call 94 (.cons (.var 1) .nil))) GF) (.cons (.ret (.cmp .Eq (.bi .len (.cons (.var 3) .nil)) (.bin .Add (.bin .Add (.bin .Mult (.var 1) (.var 1)) (.var 1)) (.int 1)))) .nil)))))⟩
theorem Vo{Y:D}(e : CS Y = Aa k)(h : (kvs.any fun p => p.1==k) = Ad) : Bb .In Y (.dic kvs) = .ok (.bl Ad) := by
 show (match CS Y with|some k => R.ok (D.bl (kvs.any fun p => p.1==k))|none => .bad) = _
 rw[e];show R.ok (D.bl (kvs.any fun p => p.1==k)) = _
 rw[h]
theorem RY(h : (kvs.any fun p => p.1==k) = Ad) : Ge kvs k d = kvs++[(k, d)] := by
 unfold Ge;rw[AJ (by rw[h];exact Ap)]
section
variable{Γ : Gam}{ns : Ab Ae}
noncomputable def TH(Γ : Gam) : Prop := ∀(p : Ae)(a b c x : R3), GoodR p a b c -> NF p x -> Γ.F 92 [.int p, Dk a b c, AO Ac x] = .ok (AO Ac (nrm p (ap a b c x)))
theorem RT(hs : Jb Γ)(hf : IX Γ)(p : Ae)(a b c x : R3)(G : GoodR p a b c)(hx : NF p x) : GX.run Γ [.int p, Dk a b c, AO Ac x] = .ok (AO Ac (nrm p (ap a b c x))) := by
 have hp := G.p4;obtain⟨g, i, l, pr, e⟩ := RU hs hf p a b c x G hx.1 hx.2;obtain⟨n1, n2⟩ := GK hp G.nz hx;rw[e, Ji hp ⟨i, l⟩ n1 (pr.trans hp (n2.symm hp))]
theorem Rr{S T X Y : D}{s4 s5:Sl}(hr : Γ.F 86 [Y, .int p, .int 3] = .ok (.bl Ac))(h1 : Γ.F 92 [.int p, T, X] = .ok Y)(h2 : Γ.F 96 [.int p, T, X] = .ok Y)(fl : flD 5 Y = Ac)(eq : eqD Y Y = Ac)(ek : CS Y = Aa k)(no : (kvs.any fun p => p.1==k) = Ad)(sz : B7 (kvs.length+1) = Ac):Ci Γ 4 GF X [sh S,si p,sh T,Aa (.dic kvs,Ac),s4,s5] = .next [sh S,si p,sh T,Aa (.dic (kvs++[(k,.bl Ac)]),Ac),sh X,sh Y] := by
 have e1 := Vo ek no;have e2 : Fv Y = .ok k := by unfold Fv;rw[ek]
 have e3 := RY (d := .bl Ac) no;have e4 : Bb .NotEq Y Y = .ok (.bl Ad) := by
  show (if (flD 5 Y&&flD 5 Y) = Ac then R.ok (D.bl (!eqD Y Y)) else .bad) = _
  rw[fl, eq];rfl
 simp[Ci, GF, h1, hr, h2, e1, e2, e3, fl, eq, G2, sz]
structure H22 (Γ : Gam) (ns : Ab Ae) : Prop where
 prime : ∃ p, P4 p /\ Γ.F 81 [scr ns] = .ok (.int p)
 tab : ∀ p, P4 p -> ∃ n R a b c, Γ.F 88 [scr ns, .int 1] = .ok (.int n) /\ Γ.F 83 [scr ns, .int p, .int 1, .int n] = .ok R /\ Γ.F 84 [.int p, R] = .ok (Dk a b c) /\ GoodR p a b c
 all : RF Γ
 led : TH Γ
 law : TJ Γ
 rst : OZ Γ
noncomputable def kv(p : Ae)(a b c x : R3) : Ab Ae × D := (tri (nrm p (ap a b c x)), .bl Ac)
theorem UO{a b c x : R3}{L:Ab R3}(hp : P4 p)(z : AM a b c%p ≠ 0)(hx : NF p x)(hL : ∀ y ∈ L, NF p y)(ne : x ∉ L) : ((L.map (kv p a b c)).any fun q => q.1==tri (nrm p (ap a b c x))) = Ad := by
 rw[List.any_eq_false];intro q hq;obtain⟨y, hy, rfl⟩ := CH.mp hq;intro e;have e1 : nrm p (ap a b c y) = nrm p (ap a b c x) := PX (beq_iff_eq.mp e);have h1 := Kj hp z hx;have h2 := Kj hp z (hL y hy);rw[e1, h1]at h2;exact ne (h2 ▸ hy)
theorem LC(h : H22 Γ ns){p : Ae}{a b c : R3}(G : GoodR p a b c){S : D} :∀(xs L :Ab R3)(s4 s5 :Sl),(∀ x ∈ xs,NF p x)->(∀ x ∈ L,NF p x)->xs.Nodup->(∀ x ∈ xs,x ∉ L)->L.length+xs.length <= 1000->∃ s4' s5',Cw (Ci Γ 4 GF) (xs.map (AO Ac)) [sh S,si p,sh (Dk a b c),Aa (.dic (L.map (kv p a b c)),Ac),s4,s5] = .next [sh S,si p,sh (Dk a b c),Aa (.dic ((L++xs).map (kv p a b c)),Ac),s4',s5']
 |[], L, s4, s5, _, _, _, _, _ => ⟨s4, s5, by rw[BZ];rfl⟩
 |x::xs, L, s4, s5, hx, hL, nd, dj, hz => by
  have hp := G.p4;have nx := hx x At;obtain⟨n1, _⟩ := GK hp G.nz nx;have hz' : L.length+(xs.length+1) <= 1000 := hz;rw[List.nodup_cons]at nd;have t := Rr (S := S) (s4 := s4) (s5 := s5) (h.rst p (tri (nrm p (ap a b c x))) (fun i hi => by
   obtain⟨⟨i1, i2, i3⟩, _⟩ := n1;rcases AK.mp hi with rfl|hi
   ·exact i1
   rcases AK.mp hi with rfl|hi
   ·exact i2
   rcases AK.mp hi with rfl|hi
   ·exact i3
   ·cases hi)) (h.led p a b c x G nx) (h.law p a b c x G nx) rfl (by show eqD (AO Ac _) (AO Ac _) = Ac;simp[AO, BY, ds]) rfl (UO hp G.nz nx hL (dj x At)) (by rw[B0];exact Dy (by omega))
  obtain⟨s4', s5', ih⟩ := LC h G (S := S) xs (L++[x]) (sh (AO Ac x)) (sh (AO Ac (nrm p (ap a b c x)))) (fun y hy => hx y (Aq _ hy)) (fun y hy => by
   rcases DB.mp hy with hy|hy
   ·exact hL y hy
   ·rw[Bs.mp hy];exact nx) nd.2 (fun y hy hy' => by
   rcases DB.mp hy' with hy'|hy'
   ·exact dj y (Aq _ hy) hy'
   ·rw[Bs.mp hy']at hy;exact nd.1 hy) (by rw[BW, Ni];omega)
  refine⟨s4', s5', ?_⟩;rw[List.map_append]at ih;have e : L++x::xs = L++[x]++xs := by simp
  rw[e, <-ih];show (Ci Γ 4 GF (AO Ac x) _).turn _ = _;rw[t];rfl
theorem S0(h : H22 Γ ns) : IC.run Γ [scr ns] = .ok (.bl Ac) := by
 obtain⟨p, hp, e1⟩ := h.prime;obtain⟨n, RR, a, b, c, e2, e3, e4, G⟩ := h.tab p hp;have e5 := h.all p hp;have pp : BE p p = Ac := DV (by have := hp.lo;omega) (by have := hp.hi;omega)
 have N1 : 0 <= p*p+p+1 /\ p*p+p+1 <= 1000 := by rcases hp with rfl|rfl|rfl|rfl <;> decide
 have len : (Di p).length = (p*p+p+1).toNat := by unfold Di;rw[B0, List.length_range]
 obtain⟨s4, s5, e6⟩ := LC h G (S := scr ns) (Di p) [] Af Af (fun x hx => (QE hp).mp hx) (fun x hx => by cases hx) (OW hp) (fun x _ hx => by cases hx) (by rw[List.length_nil, len];omega)
 rw[List.nil_append]at e6;have len2 : ((Di p).map (kv p a b c)).length = (p*p+p+1).toNat := by rw[B0, len]
 have sz : B7 ((Di p).map (kv p a b c)).length = Ac := by rw[len2];exact Dy (by omega)
 have e7 : biD .len [.dic ((Di p).map (kv p a b c))] = .ok (.int (p*p+p+1)) := by
  show (if B7 ((Di p).map (kv p a b c)).length = Ac then R.ok (D.int ((Di p).map (kv p a b c)).length) else .bad) = _
  rw[AE sz, len2, M4 N1.1]
 have e8 : Bb .Eq (.int (p*p+p+1)) (.int (p*p+p+1)) = .ok (.bl Ac) := by
  show R.ok (D.bl (eqD _ _)) = _;simp
 have e5' : Γ.F 94 [.int p] = .ok (.lst ((Di p).map (AO Ac))) := e5;generalize (Di p).map (AO Ac) = AL at *;generalize (Di p).map (kv p a b c) = KV at *;generalize Dk a b c = TT at *;generalize hN : p*p+p+1 = N at *;simp only[Fi]at e6;simp[IC, Df.run, BU, e1, e2, e3, e4, e5', e6, e7, pp, hN]
end
noncomputable def VQ : Ag -> Ab Ag
 |2 => [2, 0]
 |3 => [3, 0]
 |_ => []
noncomputable def VP : Ag -> Ab D -> R Ex
 |2, _ => .ok ⟨2, []⟩
 |3, _ => .ok ⟨3, []⟩
 |_, _ => .bad
noncomputable def Q22 : Prg := ⟨Ac, fun
 |1 => Ja
 |9 => Ha
 |17 => He
 |91 => IB
 |92 => GX
 |79 => G9
 |81 => HU
 |82 => Iu
 |93 => GI
 |94 => Hi
 |95 => ID
 |83 => Ih
 |84 => Ik
 |96 => Hh
 |85 => HR
 |86 => HS
 |88 => Il
 |97 => IC
 | _ => ⟨0, Ad, .nil⟩, fun _ => .non, VQ, VP⟩
theorem UN(ns : Ab Ae) : (gam Q22 6).F 97 [scr ns] = .ok (.bl Ac) := by
 have rs : ∀ n, GU (gam Q22 (n+1)) := fun n p m hp => Dr (RP _ p m hp)
 have mi : ∀ n, Hu (gam Q22 (n+1)) := fun n ns k hk => Dr (RS _ ns k hk)
 have tu : ∀ n, IE (gam Q22 (n+2)) := fun n p m hp z => let ⟨t, t1, t2, t3, e⟩ := OR (rs n) p m hp z;⟨t, t1, t2, t3, Dr e⟩
 have fo : ∀ n, IX (gam Q22 (n+3)) := fun n p b xs l t hp e it => Dr (QQ (rs (n+1)) (tu n) hp e it)
 have su : ∀ n, Jb (gam Q22 (n+2)) := fun n p t q q' a b c x hp ha hb hc hx => Dr (SK (rs n) p t q q' a b c x hp ha hb hc hx)
 have f2 : ∀ n, IY (gam Q22 (n+1)) := fun n p b xs l t hp e it => Dr (QR _ hp e it)
 have tb : ∀ n, RE (gam Q22 (n+2)) := fun n p a b c l t hp e it => Dr (QO (f2 n) p a b c l t hp e it)
 have dt : ∀ n, Jx (gam Q22 (n+1)) := fun n q q' a x ha hx => Dr (Va _ q q' a x ha hx)
 have pt : ∀ n, LQ (gam Q22 (n+1)) := fun n p k hp => Dr (RQ _ p k hp)
 have gF : ∀ n i ds, (gam Q22 (n+1)).F i ds = DM Ac ((Q22.defs i).run (gam Q22 n) ds) := fun _ _ _ => rfl
 have d94 : Q22.defs 94 = Hi := rfl;have d92 : Q22.defs 92 = GX := rfl;have d96 : Q22.defs 96 = Hh := rfl;have h : H22 (gam Q22 5) ns := by
  refine⟨⟨_, R5 _, Dr (Pz (mi 3) ns)⟩, fun p hp => ?_, fun p hp => ?_, fun p a b c x G hx => ?_, fun p a b c x G hx => ?_, fun p xs hx => Dr (Py (fun x => Dr (Px _ x)) p xs hx)⟩
  ·obtain⟨n, n0, n1, e1⟩ := QP (gam Q22 4) ns 1;obtain⟨a, b, c, g, e2⟩ := SL (mi 3) ns p 1 n hp (by decide) n0 n1
   obtain⟨l, t, el, it, tz, gd, l1⟩ := Oi hp g.nz;exact⟨n, _, _, _, _, Dr e1, Dr e2, tb 3 p a b c l t hp el it, gd⟩
  ·rw[gF, d94, QS (pt 3) p hp];rfl
  ·rw[gF, d92, RT (su 2) (fo 1) p a b c x G hx];rfl
  ·rw[gF, d96, RV (dt 3) (f2 3) p a b c x G hx];rfl
 exact Dr (S0 h)
end OvC
namespace OvC
open PySem PySem.Spec PyProof.Rows Ov L2
variable{l:Dl}
noncomputable def tp22(i : Ag) : A7 := PySem.Challenge.pw_ovalfield_k22_points_led.main.body.getD i (.Pass ⟨0, 0, 0, 0⟩)
noncomputable def L6 : Ab (Aj × Ag × Ag) := ([("rest", 1, 2), ("turned_over", 9, 2), ("one_form", 17, 2), ("sums_by", 91, 3), ("led", 92, 3), ("_law_mixed", 79, 2), ("_law_prime", 81, 1), ("_law_form", 82, 2), ("_law_triple", 93, 2), ("_law_all", 94, 1), ("_law_dot", 95, 2), ("_law_rows", 83, 4), ("_law_table", 84, 2), ("_law_led", 96, 3), ("_law_whole", 85, 1), ("_law_rests", 86, 3), ("_law_steps", 88, 2), ("law", 97, 1)] : Ab (Aj × Ag × Ag))
noncomputable def MI : Ab Aj := ["all", "bool", "int", "isinstance", "len", "max", "min", "range", "tuple"]
noncomputable def LY : Ab (Aj × Ag) := []
noncomputable def L8 : Ab (Aj × Ag) := []
noncomputable def Me : Ab (Aj × Ag) := []
noncomputable abbrev C22(h : An)(ps N : Ab Aj)(i d : Ag) : An := EE 80 h L6 MI LY L8 Me ps N (tp22 i) (Q22.defs d)
theorem SV : C22 Ad ["p", "n"] ["p", "n"] 5 1 = Ac := by decide +kernel
theorem SU : C22 Ad ["p", "n"] ["p", "n", "turned"] 6 9 = Ac := by decide +kernel
theorem SR : C22 Ad ["p", "numbers"] ["p", "numbers", "rests", "first", "factor", "#5", "#6"] 8 17 = Ac := by decide +kernel
theorem SQ : C22 Ad ["p", "rows", "numbers"] ["p", "rows", "numbers", "#3"] 10 91 = Ac := by decide +kernel
theorem SN : C22 Ad ["p", "table", "point"] ["p", "table", "point"] 11 92 = Ac := by decide +kernel
theorem SM : C22 Ad ["_law_script", "_law_k"] ["_law_script", "_law_k", "_law_cell"] 13 79 = Ac := by decide +kernel
theorem Tb : C22 Ad ["_law_script"] ["_law_script"] 14 81 = Ac := by decide +kernel
theorem Ta : C22 Ad ["_law_p", "_law_numbers"] ["_law_p", "_law_numbers", "_law_rests_here", "_law_first", "_law_over", "#5", "#6", "#7", "#8"] 15 82 = Ac := by decide +kernel
theorem S9 : C22 Ad ["_law_p", "_law_number"] ["_law_p", "_law_number"] 16 93 = Ac := by decide +kernel
theorem S8 : C22 Ad ["_law_p"] ["_law_p", "#1"] 17 94 = Ac := by decide +kernel
theorem RB : C22 Ad ["_law_one", "_law_other"] ["_law_one", "_law_other"] 18 95 = Ac := by decide +kernel
theorem RA : C22 Ad ["_law_script", "_law_p", "_law_at", "_law_many"] ["_law_script", "_law_p", "_law_at", "_law_many", "_law_rows_here", "_law_k", "_law_cell", "_law_one", "_law_other", "_law_times", "_law_kept", "_law_here", "_law_there", "#13", "#14"] 19 83 = Ac := by decide +kernel
theorem Rz : C22 Ad ["_law_p", "_law_rows_here"] ["_law_p", "_law_rows_here", "_law_numbers"] 20 84 = Ac := by decide +kernel
theorem Ry : C22 Ad ["_law_p", "_law_table_here", "_law_point"] ["_law_p", "_law_table_here", "_law_point", "#3"] 21 96 = Ac := by decide +kernel
theorem Qw : C22 Ad ["_law_found"] ["_law_found"] 22 85 = Ac := by decide +kernel
theorem Qv : C22 Ad ["_law_found", "_law_p", "_law_many"] ["_law_found", "_law_p", "_law_many", "#3"] 23 86 = Ac := by decide +kernel
theorem Qu : C22 Ad ["_law_script", "_law_at"] ["_law_script", "_law_at"] 24 88 = Ac := by decide +kernel
theorem Li : C22 Ad ["_law_script"] ["_law_script", "_law_p", "_law_table_here", "_law_met", "_law_point", "_law_found"] 25 97 = Ac := by decide +kernel
set_option maxHeartbeats 0 in
theorem all22{w:AF}{K:Fg}{h:AB}{mg:Aj -> Al Ah}{fa f0 f1 f2 f3 f4 f5 f6 f7 f8 f9 f10 f11 f12 f13 f14 f15 f16 f17:Ai}(X : K.In h)(G : h.Ns AS mg)(hfa : mg "law" = Aa (.ref fa))(a0 : FnI K f0 "rest" (tp22 5))(a1 : FnI K f1 "turned_over" (tp22 6))(a2 : FnI K f2 "one_form" (tp22 8))(a3 : FnI K f3 "sums_by" (tp22 10))(a4 : FnI K f4 "led" (tp22 11))(a5 : FnI K f5 "_law_mixed" (tp22 13))(a6 : FnI K f6 "_law_prime" (tp22 14))(a7 : FnI K f7 "_law_form" (tp22 15))(a8 : FnI K f8 "_law_triple" (tp22 16))(a9 : FnI K f9 "_law_all" (tp22 17))(a10 : FnI K f10 "_law_dot" (tp22 18))(a11 : FnI K f11 "_law_rows" (tp22 19))(a12 : FnI K f12 "_law_table" (tp22 20))(a13 : FnI K f13 "_law_led" (tp22 21))(a14 : FnI K f14 "_law_whole" (tp22 22))(a15 : FnI K f15 "_law_rests" (tp22 23))(a16 : FnI K f16 "_law_steps" (tp22 24))(a17 : FnI K f17 "law" (tp22 25))(z0 : BJ K AS "all" = Aa Af)(z1 : BJ K AS "bool" = Aa Af)(z2 : BJ K AS "int" = Aa Af)(z3 : BJ K AS "isinstance" = Aa Af)(z4 : BJ K AS "len" = Aa Af)(z5 : BJ K AS "max" = Aa Af)(z6 : BJ K AS "min" = Aa Af)(z7 : BJ K AS "range" = Aa Af)(z8 : BJ K AS "tuple" = Aa Af):
    ∃ fd : Bp, (∀(s : Ak)(v : Ah), Eh s fd ⟨[v], []⟩ [("_law_script", v)]) /\ ∀ base : AB, K.In base -> base.Ns AS mg -> FnOk l.prog w K mg base (CXR l.prog w) 6 fa fd ["_law_script"] (HB K) := by
  obtain⟨_, F, e⟩ := a17;obtain⟨_, _, _, _, _, _, _, _, _, rfl, _, _⟩ := F.ex;cases hfa.symm.trans (Fc X G e);have T : Tab K mg (fun _ => Af) L6 MI LY L8 Me Q22 80 := ⟨Qj fun _ _ => rfl, all_cons (Bt X G z0) (all_cons (Bt X G z1) (all_cons (Bt X G z2) (all_cons (Bt X G z3) (all_cons (Bt X G z4) (all_cons (Bt X G z5) (all_cons (Bt X G z6) (all_cons (Bt X G z7) (all_cons (Bt X G z8) (IV))))))))), IV, all_cons (Fb 2 1 X G a0 rfl SV fun _ _ _ _ _ _ _ _ => rfl) (all_cons (Fb 2 9 X G a1 rfl SU fun _ _ _ _ _ _ _ _ => rfl) (all_cons (Fb 2 17 X G a2 rfl SR fun _ _ _ _ _ _ _ _ => rfl) (all_cons (HJ 3 91 X G a3 rfl SQ fun _ _ _ _ _ _ _ _ _ => rfl) (all_cons (HJ 3 92 X G a4 rfl SN fun _ _ _ _ _ _ _ _ _ => rfl) (all_cons (Fb 2 79 X G a5 rfl SM fun _ _ _ _ _ _ _ _ => rfl) (all_cons (HK 1 81 X G a6 rfl Tb fun _ _ _ _ _ _ _ => rfl) (all_cons (Fb 2 82 X G a7 rfl Ta fun _ _ _ _ _ _ _ _ => rfl) (all_cons (Fb 2 93 X G a8 rfl S9 fun _ _ _ _ _ _ _ _ => rfl) (all_cons (HK 1 94 X G a9 rfl S8 fun _ _ _ _ _ _ _ => rfl) (all_cons (Fb 2 95 X G a10 rfl RB fun _ _ _ _ _ _ _ _ => rfl) (all_cons (V6 4 83 X G a11 rfl RA fun _ _ _ _ _ _ _ _ _ _ => rfl) (all_cons (Fb 2 84 X G a12 rfl Rz fun _ _ _ _ _ _ _ _ => rfl) (all_cons (HJ 3 96 X G a13 rfl Ry fun _ _ _ _ _ _ _ _ _ => rfl) (all_cons (HK 1 85 X G a14 rfl Qw fun _ _ _ _ _ _ _ => rfl) (all_cons (HJ 3 86 X G a15 rfl Qv fun _ _ _ _ _ _ _ _ _ => rfl) (all_cons (Fb 2 88 X G a16 rfl Qu fun _ _ _ _ _ _ _ _ => rfl) (all_cons (HK 1 97 X G ⟨_, F, e⟩ rfl Li fun _ _ _ _ _ _ _ => rfl) (IV))))))))))))))))))⟩
  exact⟨_, fun s v => .of_eq rfl, fun base _ _ => law_fn (LJ T (IT T 5) F rfl Li) UN⟩
theorem walk22{q:Az}{loose:Ab Aj}{XP:(Aj -> Al Ah) -> AB -> Prop}{YP:AF -> AB -> Prop}{d:DefRec}{K:GB -> Fg}(hn : l.most = Aa 63)(hdf : d.params.defaults = [])(hY : ∀(w : AF)(h : AB), YP w h -> (K w.params).In h)(F : ∀(w : AF)(mg : Aj -> Al Ah)(fa : Ai)(h : AB), (K w.params).In h -> h.Ns AS mg -> mg d.name = Aa (.ref fa) ->
   ∃ fd : Bp, (∀(s : Ak)(u : Ah), Eh s fd ⟨[u], []⟩ [("_law_script", u)]) /\ ∀ base : AB, (K w.params).In base -> base.Ns AS mg -> FnOk l.prog w (K w.params) mg base (CXR l.prog w) 6 fa fd ["_law_script"] (HB (K w.params))):NS q loose XP YP l.row.toRowW d [] (fun f vs =>F3 f vs):=
 L2.walk_of (n := 63) (k := 6) (x := "_law_script") (CX := fun w => CXR l.prog w) (sp := fun w => HB (K w.params)) hn (by decide) hdf ⟨rfl, by decide, by decide, rfl⟩ hY F (fun _ H a ns hl _ hS => ⟨a, ns, rfl, hl, hS, fun _ _ z => z⟩) fun _ _ _ _ _ z => S2 z
end OvC
open PySem PySem.W PyProof.Rows
noncomputable def OvC.view22 : PySem.Program := { PySem.Challenge.pw_ovalfield_k22_points_led with main := {PySem.Challenge.pw_ovalfield_k22_points_led.main with body := [OvC.tp22 1, OvC.tp22 2, OvC.tp22 3, OvC.tp22 5, OvC.tp22 6, OvC.tp22 8, OvC.tp22 10, OvC.tp22 11, OvC.tp22 13, OvC.tp22 14, OvC.tp22 15, OvC.tp22 16, OvC.tp22 17, OvC.tp22 18, OvC.tp22 19, OvC.tp22 20, OvC.tp22 21, OvC.tp22 22, OvC.tp22 23, OvC.tp22 24, OvC.tp22 25]} }
set_option hygiene false
local macro_rules | `(tactic| o_head $H) => `(tactic| refine holds_open (q := OvC.view22) (loose := []) (Xt := fun s => xlAt OvC.view22 [] s&&recOk (RowW.records (OpenRow.toRowW (PySem.Challenge.rw_ovalfield_k22_points_led.row))) s) (XP := XL OvC.view22 []) (Yf := Hook.obs $H) (Ya := Hook.val $H) (YP := Hook.says $H) (N := 2476) ?hl (Hook.of $H) (Hook.keeps $H) (fun s e => xl_of s (Bool.and_eq_true_iff.mp e).1) XL.keeps (by rfl) (by rfl) (by rfl) (fun s e => recFacts_of (Bool.and_eq_true_iff.mp e).2) (by rfl) (by first|assumption|decide +kernel) (by decide +kernel) ⟨rfl, rfl, rfl, rfl, rfl, by decide +kernel⟩ ?hw ?hc)
set_option maxRecDepth 100000 in
set_option maxHeartbeats 0 in
theorem PySem.Challenge.cw_ovalfield_k22_points_led_holds : PySem.Challenge.rw_ovalfield_k22_points_led.Holds := by
 w_on;refine holds_law (by decide +kernel) fun said => ?_;k_head
 (case hl => intro w;unfold openEnds fencedOpening topFrom;rw[PySem.W.Fast.te10274390034422433532, PySem.W.Fast.te14364793385576792824, PySem.W.Fast.te1435165496053646825, PySem.W.Fast.te14289696077712309145, PySem.W.Fast.te14082659384304107361, PySem.W.Fast.te4187177175401517315];kernel_rfl)
 (case hw => w_witness2)
 k_fill
 refine OvC.walk22 (l := PySem.Challenge.rw_ovalfield_k22_points_led) rfl rfl (fun w h Y => NU Y) ?F
 case F=>
  intro w mg fa h KX G hmg
  refine' OvC.all22 KX G hmg ?a0 ?a1 ?a2 ?a3 ?a4 ?a5 ?a6 ?a7 ?a8 ?a9 ?a10 ?a11 ?a12 ?a13 ?a14 ?a15 ?a16 ?a17 ?z0 ?z1 ?z2 ?z3 ?z4 ?z5 ?z6 ?z7 ?z8
  case a0|a1|a2|a3|a4|a5|a6|a7|a8|a9|a10|a11|a12|a13|a14|a15|a16|a17 => (refine' Ov.fni ?a ?l ?c ?k;(case a => k_is);(case l => k_is);(case c => k_is);(case k => k_is))
  (case z0 => k_is)
  (case z1 => k_is)
  (case z2 => k_is)
  (case z3 => k_is)
  (case z4 => k_is)
  (case z5 => k_is)
  (case z6 => k_is)
  (case z7 => k_is)
  (case z8 => k_is)
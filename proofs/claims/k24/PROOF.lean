import PyProof.Rows.All
import Wide.All
import OpenK.AllK
import Wide.FinOn
import PyProof.EqAt
import KE.KSortTup
import PyProof.EqKinds
import PyProof.TupleCall
import Lean
import PySem.Challenge.RW_ovalfield_k24_after_and_back

-- CHANGE: your row's module here, as the last of these rows
set_option Elab.async false
set_option linter.all false
set_option maxRecDepth 100000
namespace L2
open PySem PySem.Spec PyProof.Rows
noncomputable abbrev Key := Sum Int Str
noncomputable def keyIs : Key → Value → Bool
  | .inl k, v => Value.isInt k v
  | .inr x, v => Value.isStrOf x v
noncomputable def keyH (w : World) : Key → Int
  | .inl k => hashInt k
  | .inr x => hashStr w x
theorem keyIs_shape : ∀ {k : Key} {v : Value}, keyIs k v = true → (∃ i t, k = Sum.inl i ∧ v = Value.int i t) ∨ (∃ x t, k = Sum.inr x ∧ v = Value.str x t)
  | .inl i, v, h => by
    obtain ⟨t, e⟩ := Value.isInt_shape (k := i) (v := v) h
    exact .inl ⟨i, t, rfl, e⟩
  | .inr x, v, h => by
    obtain ⟨t, e⟩ := Value.isStrOf_shape (x := x) (v := v) h
    exact .inr ⟨x, t, rfl, e⟩
theorem key_ll (a b : Int) : decide ((Sum.inl a : Key) = Sum.inl b) = (a == b) := by
  by_cases e : a = b
  · subst e; simp
  · have h : ¬ (Sum.inl a : Key) = Sum.inl b := fun q => e (Sum.inl.inj q)
    rw [decide_eq_false h]
    exact (beq_eq_false_iff_ne.mpr e).symm
theorem key_rr (a b : Str) : decide ((Sum.inr a : Key) = Sum.inr b) = decide (a = b) := by
  by_cases e : a = b
  · subst e; simp
  · have h : ¬ (Sum.inr a : Key) = Sum.inr b := fun q => e (Sum.inr.inj q)
    rw [decide_eq_false h, decide_eq_false e]
theorem key_lr (a : Int) (b : Str) : decide ((Sum.inl a : Key) = Sum.inr b) = false := decide_eq_false (fun q => nomatch q)
theorem key_rl (a : Str) (b : Int) : decide ((Sum.inr a : Key) = Sum.inl b) = false := decide_eq_false (fun q => nomatch q)
noncomputable def mixKind (prog : Program) (w : World) : PySem.KeyKind prog w Key where
  is := keyIs
  hash := keyH w
  inj := fun v a b ha hb => by
    rcases keyIs_shape ha with ⟨i, t, rfl, rfl⟩ | ⟨x, t, rfl, rfl⟩
    · rcases keyIs_shape hb with ⟨j, u, rfl, e⟩ | ⟨y, u, rfl, e⟩
      · injection e with e1 _; rw [e1]
      · exact nomatch e
    · rcases keyIs_shape hb with ⟨j, u, rfl, e⟩ | ⟨y, u, rfl, e⟩
      · exact nomatch e
      · injection e with e1 _; rw [e1]
  byValue := fun k v h => by
    rcases keyIs_shape h with ⟨i, t, rfl, rfl⟩ | ⟨x, t, rfl, rfl⟩ <;> rfl
  pyHash := fun hv h => by
    rcases keyIs_shape hv with ⟨i, t, rfl, rfl⟩ | ⟨x, t, rfl, rfl⟩
    · exact wpAny_pyHash_int h
    · exact wpAny_pyHash_str h
  eqBool := fun hu hv h => by
    rcases keyIs_shape hu with ⟨i, t, rfl, rfl⟩ | ⟨x, t, rfl, rfl⟩
    · rcases keyIs_shape hv with ⟨j, u, rfl, rfl⟩ | ⟨y, u, rfl, rfl⟩
      · rw [key_ll] at h; exact wpAny_eqBool_int h
      · rw [key_lr] at h; exact SeqAt.EqAt.int_str i t y u _ _ _ _ h
    · rcases keyIs_shape hv with ⟨j, u, rfl, rfl⟩ | ⟨y, u, rfl, rfl⟩
      · rw [key_rl] at h; exact SeqAt.EqAt.str_int x t j u _ _ _ _ h
      · rw [key_rr] at h; exact wpAny_eqBool_str h
  «strs» := fun k x t v h => by
    rcases keyIs_shape h with ⟨i, u, rfl, e⟩ | ⟨y, u, rfl, e⟩
    · exact nomatch e
    · injection e with e1 _
      subst e1
      cases v <;> rfl
end L2
namespace L2
open PySem PySem.Spec PyProof.Rows
inductive V where
  | non | bl (b : Bool) | int (i : Int) | str (x : Str) | byt (b : Array UInt8) | flt (b : UInt64) | ref (a : Addr) | ty (n : String)
  deriving DecidableEq
noncomputable def RelV : V → Value → Prop
  | .non, u => u = Value.none
  | .bl b, u => u = Value.bool b
  | .int i, u => ∃ t, u = Value.int i t
  | .str x, u => ∃ t, u = Value.str x t
  | .byt b, u => ∃ t, u = Value.bytes b t
  | .flt b, u => ∃ t, u = Value.float b t
  | .ref a, u => u = Value.ref a
  | .ty n, u => u = Value.type n
noncomputable abbrev Vals : List V → List Value → Prop := Paired RelV
theorem Vals.length {xs : List V} {us : List Value} (r : Vals xs us) : xs.length = us.length := Paired.length r
theorem Vals.get : ∀ {xs : List V} {us : List Value} {i : Nat} {x : V}, Vals xs us → xs[i]? = some x → ∃ u, us[i]? = some u ∧ RelV x u
  | _, _, _, _, .nil, e => by simp at e
  | _, _, 0, _, .cons r _, e => by simp at e; subst e; exact ⟨_, rfl, r⟩
  | _, _, i + 1, x, .cons _ t, e => by
    obtain ⟨u, h1, h2⟩ := Vals.get (i := i) (x := x) t (by simpa using e)
    exact ⟨u, by simpa using h1, h2⟩
theorem Vals.set {x : V} {u : Value} (r : RelV x u) : ∀ {xs : List V} {us : List Value} (i : Nat), Vals xs us → Vals (xs.set i x) (us.set i u)
  | _, _, _, .nil => .nil
  | _, _, 0, .cons _ t => .cons r t
  | _, _, i + 1, .cons q t => .cons q (Vals.set r i t)
theorem Vals.append : ∀ {xs ys : List V} {us ws : List Value}, Vals xs us → Vals ys ws → Vals (xs ++ ys) (us ++ ws)
  | _, _, _, _, .nil, s => s
  | _, _, _, _, .cons r t, s => .cons r (Vals.append t s)
theorem Vals.take : ∀ {xs : List V} {us : List Value} (n : Nat), Vals xs us → Vals (xs.take n) (us.take n)
  | _, _, 0, _ => .nil
  | _, _, _ + 1, .nil => .nil
  | _, _, n + 1, .cons r t => .cons r (Vals.take n t)
theorem Vals.drop : ∀ {xs : List V} {us : List Value} (n : Nat), Vals xs us → Vals (xs.drop n) (us.drop n)
  | _, _, 0, r => r
  | _, _, _ + 1, .nil => .nil
  | _, _, n + 1, .cons _ t => Vals.drop n t
noncomputable def RelO : Option V → Option Value → Prop
  | some v, some u => RelV v u
  | none, none => True
  | _, _ => False
noncomputable def KV {κ : Type} : List (κ × V) → List (κ × Value) → Prop := Paired fun (p : κ × V) (q : κ × Value) => p.1 = q.1 ∧ RelV p.2 q.2
noncomputable def kV : Key → V
  | .inl i => .int i
  | .inr x => .str x
inductive HO where
  /-- a list -/
  | lst (xs : List V)
  /-- a tuple (never changes) -/
  | tup (xs : List V)
  /-- a dict whose keys are ints and texts; one whose keys are tuples of ints and texts (the empty one is both) -/
  | dK (kvs : List (Key × V)) | dT (kvs : List (List Key × V))
  /-- a set of ints: its members, its size -/
  | set (S : Int → Bool) (n : Nat)
  /-- an instance of the class at C, its dict at dx, its attributes -/
  | ins (C dx : Addr) (fs : List (Str × V))
  /-- the dict of the instance at x -/
  | own (x : Addr)
  /-- the dict of an exception -/
  | xd (fs : List (Str × V))
  /-- a bound method, f of x -/
  | met (f x : Addr)
  /-- a range object lo, lo + 1, .. below hi -/
  | rng (lo hi : Int)
  /-- a thing that is known to the object (the script; a dict while a loop walks it): read, never written while it is so -/
  | frz (o : Obj) (u : HO)
  /-- a code object's table -/
  | tbl (ps : Array Value)
  /-- any other thing, by what is true of its one object (a def of one's own: SetO a S n := HO.ext fun h => ..) -/
  | ext (φ : Heap → Prop)
noncomputable abbrev Hp := Addr → Option HO
noncomputable def upd (H : Hp) (a : Addr) (o : HO) : Hp := fun b => if b = a then some o else H b
theorem upd_same {H : Hp} {a : Addr} {o : HO} : upd H a o a = some o := by unfold upd; rw [if_pos rfl]
theorem upd_ne {H : Hp} {a b : Addr} {o : HO} (h : b ≠ a) : upd H a o b = H b := by unfold upd; rw [if_neg h]
theorem ne_of_none {H : Hp} {a b : Addr} {o : HO} (h : H a = some o) (h' : H b = none) : a ≠ b := by
  intro e; subst e; rw [h] at h'; cases h'
section
variable (P : Program) (w : World)
noncomputable def ObjOk (H : Hp) (h : Heap) (a : Addr) : HO → Prop
  | .lst xs => xs.length ≤ sizeLine ∧ ∃ (its : List Value) (n : Nat), Vals xs its ∧ h.get? a = some { cls := .type "list", data := .seq its.toArray n }
  | .tup xs => xs.length ≤ sizeLine ∧ ∃ its : List Value, Vals xs its ∧ IsTup h a its.toArray
  | .dK kvs => kvs.length ≤ sizeLine ∧ (a == sysModules) = false ∧ ∃ vs, KV kvs vs ∧ h.DictOf (mixKind P w) a vs
  | .dT kvs => kvs.length ≤ sizeLine ∧ (a == sysModules) = false ∧ ∃ xs : List (List Key × Addr × Value),
      Paired (fun (p : List Key × V) (q : List Key × Addr × Value) => p.1 = q.1 ∧ H q.2.1 = some (.tup (p.1.map kV)) ∧ RelV p.2 q.2.2) kvs xs ∧
      ∃ o es ep, h.get? a = some o ∧ o.ExactDict ∧ o.data = .dict es ep ∧ es.toList = xs.map (entryOfKey (tupleKind (mixKind P w))) ∧ (xs.map (·.1)).Nodup
  | .set S n => h.SetOf (intKind P w) a S n
  | .ins C dx fs => H dx = some (.own a) ∧ fs.length ≤ 1000 ∧ dx ≠ a ∧ h.get? a = some (PySem.W.instObj C dx) ∧
      ∃ mA, h.Ns1 dx mA ∧ (∀ f, RelO (fs.lookup f) (mA f)) ∧ PySem.Within mA (fs.map (·.1))
  | .own _ => ∃ o, h.get? a = some o
  | .xd fs => ∃ mA, h.Ns1 a mA ∧ ∀ f, RelO (fs.lookup f) (mA f)
  | .rng lo hi => ∃ t u v, h.get? a = some { cls := .type "range", data := .fields #[.int lo t, .int hi u, .int 1 v] }
  | .frz o u => h.get? a = some o ∧ ObjOk H h a u
  | .tbl ps => h.get? a = some { cls := .none, data := .fields ps }
  | .met f x => h.get? a = some (PySem.W.methodObj (.ref f) (.ref x))
  | .ext φ => φ h ∧ (∃ o, h.get? a = some o) ∧ ∀ h1 h2 : Heap, φ h1 → (∀ o, h1.get? a = some o → h2.get? a = some o) → φ h2
noncomputable def HOk (H : Hp) (h : Heap) : Prop := ∀ a o, H a = some o → ObjOk P w H h a o
end
section
variable {P : Program} {w : World} {H H' : Hp} {h h' : Heap} {a : Addr} {o : HO}
theorem ObjOk.lt (x : ObjOk P w H h a o) : a < h.objs.size := by
  cases o with
  | lst xs => obtain ⟨_, _, _, _, e⟩ := x; exact Heap.lt_size e
  | tup xs => obtain ⟨_, _, _, p⟩ := x; exact p.lt
  | dK kvs => obtain ⟨_, _, _, _, o, _, _, e, _⟩ := x; exact Heap.lt_size e
  | dT kvs => obtain ⟨_, _, _, _, o, _, _, e, _⟩ := x; exact Heap.lt_size e
  | set S n => obtain ⟨o, _, _, _, e, _⟩ := x; exact Heap.lt_size e
  | ins C dx fs => obtain ⟨_, _, _, e, _⟩ := x; exact Heap.lt_size e
  | own y => obtain ⟨_, e⟩ := x; exact Heap.lt_size e
  | xd fs => obtain ⟨_, ⟨_, _, _, e, _⟩, _⟩ := x; exact Heap.lt_size e
  | rng lo hi => obtain ⟨_, _, _, e⟩ := x; exact Heap.lt_size e
  | frz ob u => obtain ⟨e, _⟩ := x; exact Heap.lt_size e
  | tbl ps => exact Heap.lt_size (show h.get? a = some _ from x)
  | met f y => exact Heap.lt_size (show h.get? a = some _ from x)
  | ext φ => obtain ⟨_, ⟨_, e⟩, _⟩ := x; exact Heap.lt_size e
theorem Paired.mapP {α β : Type} {F G : α → β → Prop} : ∀ {l₁ : List α} {l₂ : List β}, Paired F l₁ l₂ → (∀ a b, F a b → G a b) → Paired G l₁ l₂
  | _, _, .nil, _ => .nil
  | _, _, .cons r t, f => .cons (f _ _ r) (Paired.mapP t f)
theorem ObjOk.stay (x : ObjOk P w H h a o) (k : ∀ b u, (b = a ∨ H b = some (.own a)) → h.get? b = some u → h'.get? b = some u)
    (ho : ∀ b, H b = some (.own a) → H' b = some (.own a)) (ht : ∀ b xs, H b = some (.tup xs) → H' b = some (.tup xs)) : ObjOk P w H' h' a o := by
  induction o with
  | lst xs => obtain ⟨z, its, n, r, e⟩ := x; exact ⟨z, its, n, r, k _ _ (.inl rfl) e⟩
  | tup xs => obtain ⟨z, its, r, ob, e, c⟩ := x; exact ⟨z, its, r, ob, k _ _ (.inl rfl) e, c⟩
  | dK kvs => obtain ⟨z, y, vs, r, ob, es, ep, e, c⟩ := x; exact ⟨z, y, vs, r, ob, es, ep, k _ _ (.inl rfl) e, c⟩
  | dT kvs =>
    obtain ⟨z, y, xs, r, ob, es, ep, e, c⟩ := x
    exact ⟨z, y, xs, Paired.mapP r fun p q z => ⟨z.1, ht _ _ z.2.1, z.2.2⟩, ob, es, ep, k _ _ (.inl rfl) e, c⟩
  | set S n => obtain ⟨ob, es, ep, t, e, c⟩ := x; exact ⟨ob, es, ep, t, k _ _ (.inl rfl) e, c⟩
  | ins C dx fs =>
    obtain ⟨d, z, ne, e, mA, ⟨od, es, ep, e2, c⟩, r⟩ := x
    exact ⟨ho _ d, z, ne, k _ _ (.inl rfl) e, mA, ⟨od, es, ep, k _ _ (.inr d) e2, c⟩, r⟩
  | own y => obtain ⟨ob, e⟩ := x; exact ⟨ob, k _ _ (.inl rfl) e⟩
  | xd fs => obtain ⟨mA, ⟨od, es, ep, e, c⟩, r⟩ := x; exact ⟨mA, ⟨od, es, ep, k _ _ (.inl rfl) e, c⟩, r⟩
  | rng lo hi => obtain ⟨t, u, v, e⟩ := x; exact ⟨t, u, v, k _ _ (.inl rfl) e⟩
  | frz ob u ih => obtain ⟨e, q⟩ := x; exact ⟨k _ _ (.inl rfl) e, ih q⟩
  | tbl ps =>
    have e : h.get? a = some { cls := .none, data := .fields ps } := x
    show h'.get? a = some { cls := .none, data := .fields ps }
    exact k a _ (.inl rfl) e
  | met f y =>
    have e : h.get? a = some (PySem.W.methodObj (.ref f) (.ref y)) := x
    show h'.get? a = some (PySem.W.methodObj (.ref f) (.ref y))
    exact k a _ (.inl rfl) e
  | ext φ => obtain ⟨p, ⟨o, e⟩, st⟩ := x; exact ⟨st _ _ p fun o q => k _ _ (.inl rfl) q, ⟨o, k _ _ (.inl rfl) e⟩, st⟩
theorem HOk.lt (x : HOk P w H h) (e : H a = some o) : a < h.objs.size := (x a o e).lt
theorem HOk.fresh (x : HOk P w H h) (e : h.objs.size ≤ a) : H a = none := by
  cases q : H a with
  | none => rfl
  | some u => exact absurd (Nat.lt_of_lt_of_le (x.lt q) e) (Nat.lt_irrefl _)
theorem HOk.kept (x : HOk P w H h) (k : ∀ b u, h.get? b = some u → h'.get? b = some u) : HOk P w H h' := fun a o e =>
  (x a o e).stay (fun b u _ q => k b u q) (fun _ q => q) fun _ _ q => q
theorem HOk.laid (x : HOk P w H h) (k : ∀ b u, h.get? b = some u → h'.get? b = some u) (hp : h.objs.size ≤ a) (new : ObjOk P w (upd H a o) h' a o) : HOk P w (upd H a o) h' := fun b u e => by
  have hn := x.fresh hp
  by_cases hb : b = a
  · subst hb; rw [upd_same] at e; cases e; exact new
  · rw [upd_ne hb] at e
    exact (x b u e).stay (fun c v _ q => k c v q) (fun c q => by rw [upd_ne (ne_of_none q hn)]; exact q) fun c xs q => by rw [upd_ne (ne_of_none q hn)]; exact q
end
noncomputable def Rd (H : Hp) (a : Addr) (u : HO) : Prop := H a = some u ∨ ∃ o, H a = some (.frz o u)
theorem Rd.ok {P : Program} {w : World} {H : Hp} {h : Heap} {a : Addr} {u : HO} (r : Rd H a u) (x : HOk P w H h) : ObjOk P w H h a u := by
  rcases r with r | ⟨o, r⟩
  · exact x a u r
  · obtain ⟨_, q⟩ := x a _ r
    exact q
noncomputable def Mut : Option HO → Prop
  | some (.lst _) => True
  | some (.dK _) => True
  | some (.dT _) => True
  | some (.set _ _) => True
  | some (.ins _ _ _) => True
  | some (.ext _) => True
  | _ => False
section
variable {P : Program} {w : World} {H : Hp} {h h' : Heap} {x e : Addr} {o' : HO}
theorem HOk.write (ok : HOk P w H h) (mu : Mut (H x)) (he : e = x ∨ H e = some (.own x)) (k : ∀ b u, b ≠ e → h.get? b = some u → h'.get? b = some u) (heo : ∃ u, h'.get? e = some u)
    (new : ObjOk P w (upd H x o') h' x o') : HOk P w (upd H x o') h' := fun b u q => by
  have nown : ∀ c y, H c = some (.own y) → c ≠ x := fun c y r z => by subst z; rw [r] at mu; exact mu
  have ntup : ∀ c xs, H c = some (.tup xs) → c ≠ x := fun c xs r z => by subst z; rw [r] at mu; exact mu
  by_cases hb : b = x
  · subst hb; rw [upd_same] at q; cases q; exact new
  · rw [upd_ne hb] at q
    by_cases hbe : b = e
    · have q' : H b = some (.own x) := by
        rcases he with z | z
        · exact absurd (hbe.trans z) hb
        · rw [hbe]; exact z
      rw [q] at q'; cases q'
      obtain ⟨v, hv⟩ := heo
      exact ⟨v, by rw [hbe]; exact hv⟩
    · refine (ok b u q).stay (fun c v hc r => k c v ?_ r) (fun c r => by rw [upd_ne (nown c b r)]; exact r) fun c xs r => by rw [upd_ne (ntup c xs r)]; exact r
      rcases hc with rfl | hc
      · exact hbe
      · rintro rfl
        rcases he with z | z
        · exact nown c b hc z
        · rw [hc] at z; cases z; exact hb rfl
end
structure Un (fs ex : List Addr) (H H' : Hp) (h h' : Heap) : Prop where
  keep : ∀ b o, h.get? b = some o → H b = none → b ∉ fs → b ∉ ex → h'.get? b = some o
  slot : ∀ b o, h.get? b = some o → H b = none → b ∈ fs → b ∉ ex → ∃ sl, h'.get? b = some { o with slots := sl }
  free : ∀ b o, h.get? b = some o → H b = none → b ∉ ex → H' b = none
  there : ∀ b o, h.get? b = some o → b ∉ ex → ∃ o', h'.get? b = some o'
  tups : ∀ b xs, H b = some (.tup xs) → H' b = some (.tup xs)
  frzs : ∀ b o u, H b = some (.frz o u) → H' b = some (.frz o u)
  tbls : ∀ b ps, H b = some (.tbl ps) → ∃ more, H' b = some (.tbl (ps ++ more))
section
variable {fs fs' ex ex' : List Addr} {H H1 H2 : Hp} {h h1 h2 h' : Heap} {a x e : Addr} {o : HO}
theorem Un.any (u : Un fs ex H H1 h h1) {b : Addr} {ob : Obj} (q : h.get? b = some ob) (n : H b = none) (hx : b ∉ ex) : ∃ sl, h1.get? b = some { ob with slots := sl } := by
  by_cases hb : b ∈ fs
  · exact u.slot b ob q n hb hx
  · exact ⟨ob.slots, u.keep b ob q n hb hx⟩
theorem Un.kept (k : ∀ b u, h.get? b = some u → h'.get? b = some u) : Un fs ex H H h h' :=
  ⟨fun b ob q _ _ _ => k b ob q, fun b ob q _ _ _ => ⟨ob.slots, k b ob q⟩, fun _ _ _ n _ => n, fun b ob q _ => ⟨ob, k b ob q⟩, fun _ _ q => q, fun _ _ _ q => q, fun _ ps q => ⟨#[], by rw [q]; simp⟩⟩
theorem Un.refl : Un fs ex H H h h := Un.kept fun _ _ q => q
theorem Un.laid (k : ∀ b u, h.get? b = some u → h'.get? b = some u) (hp : h.objs.size ≤ a) (hn : H a = none) : Un fs ex H (upd H a o) h h' where
  keep := fun b u q _ _ _ => k b u q
  slot := fun b u q _ _ _ => ⟨u.slots, k b u q⟩
  free := fun b u q n _ => by rw [upd_ne (Nat.ne_of_lt (Nat.lt_of_lt_of_le (Heap.lt_size q) hp))]; exact n
  there := fun b u q _ => ⟨u, k b u q⟩
  tups := fun b xs q => by rw [upd_ne (ne_of_none q hn)]; exact q
  frzs := fun b u xs q => by rw [upd_ne (ne_of_none q hn)]; exact q
  tbls := fun b ps q => ⟨#[], by rw [upd_ne (ne_of_none q hn), q]; simp⟩
theorem Un.write (mu : Mut (H x)) (he : e = x ∨ H e = some (.own x)) (k : ∀ b u, b ≠ e → h.get? b = some u → h'.get? b = some u) (heo : ∃ u, h'.get? e = some u) : Un fs ex H (upd H x o) h h' := by
  have hx : ∀ b, H b = none → b ≠ x := fun b n z => by subst z; rw [n] at mu; exact mu
  have hb : ∀ b, H b = none → b ≠ e := fun b n z => by
    subst z
    rcases he with r | r
    · exact hx b n r
    · rw [n] at r; cases r
  have hm : ∀ b u, H b = some u → ¬ Mut (some u) → b ≠ x := fun b u q nm z => by subst z; rw [q] at mu; exact nm mu
  refine ⟨fun b u q n _ _ => k b u (hb b n) q, fun b u q n _ _ => ⟨u.slots, k b u (hb b n) q⟩, fun b u q n _ => by rw [upd_ne (hx b n)]; exact n, fun b u q _ => ?_,
    fun b xs q => by rw [upd_ne (hm b _ q fun z => z)]; exact q, fun b u xs q => by rw [upd_ne (hm b _ q fun z => z)]; exact q, fun b ps q => ⟨#[], by rw [upd_ne (hm b _ q fun z => z), q]; simp⟩⟩
  by_cases hbe : b = e
  · subst hbe; exact heo
  · exact ⟨u, k b u hbe q⟩
end
noncomputable def trk (h : Heap) (H : Hp) : List Addr := (List.range h.objs.size).filter fun a => (H a).isSome
noncomputable def hidT (h : Heap) (H : Hp) : Heap := PySem.W.hideAll h (trk h H)
theorem hidT_size (h : Heap) (H : Hp) : (hidT h H).objs.size = h.objs.size := PySem.W.hideAll_size _ _
theorem hidT_get {h : Heap} {H : Hp} {b : Addr} {o : Obj} (e : h.get? b = some o) (n : H b = none) : (hidT h H).get? b = some o :=
  PySem.W.hideAll_get _ e fun hm => by
    have q : (H b).isSome = true := (List.mem_filter.mp hm).2
    rw [n] at q; simp at q
theorem of_hidT {h : Heap} {H : Hp} {b : Addr} {o : Obj} (e : (hidT h H).get? b = some o) : h.get? b = some o ∧ H b = none := by
  have e' : h.get? b = some o := PySem.W.of_hideAll (trk h H) e
  refine ⟨e', ?_⟩
  cases q : H b with
  | none => rfl
  | some x =>
    have hm : b ∈ trk h H := List.mem_filter.mpr ⟨List.mem_range.mpr (Heap.lt_size e'), by simp [q]⟩
    have z : (hidT h H).get? b = none := PySem.W.hideAll_none (trk h H) hm
    rw [z] at e; cases e
noncomputable def allNews (g h : Heap) (L : Addr) : List (Addr × Obj) := (List.range h.objs.size).filterMap fun a => if a = L ∨ (g.get? a).isSome = true then none else (h.get? a).map fun o => (a, o)
noncomputable def rest (g h : Heap) (L d : Addr) : List (Addr × Obj) := (allNews g h L).filter fun p => decide (p.1 ≠ d)
end L2
namespace L2
open PySem PySem.Spec PyProof.Rows
structure Mod (K : PySem.W.Frag) (mg : Str → Option Value) (base : Heap) : Prop where
  kin : K.In base
  glob : base.Ns mainGlobals mg
  blt : ∃ mb, base.Ns builtinsNs mb ∧ ∀ x : Str, x ≠ "__name__" → mb x = bootBuiltins x
  nolimit : base.NoLimit
structure Cx where
  prog : Program
  w : World
  K : PySem.W.Frag
  mg : Str → Option Value
  base : Heap
  A : Around
  N : List Str
  s₀ : Shared
  H₀ : Hp
  env : Env
  outer : List Env
  stack : List Env
  ex : List Addr
  fn : Str → Bool
  calm : Bool
  pn : List (Addr × Obj)
  xe : Value → Shared → Prop
noncomputable def frs (l : List Env) : List Addr := l.filterMap (·.frame)
noncomputable abbrev Cx.fs (X : Cx) : List Addr := frs X.outer
noncomputable def Vis (sc : Scope) (x : Str) : Prop := sc.names.lookup x = some .local ∨ sc.names.lookup x = some .cell ∨ sc.names.lookup x = some .free
noncomputable def Loc (sc : Scope) (x : Str) : Prop := sc.names.lookup x = some .local ∨ sc.names.lookup x = some .cell
noncomputable def Look (env : Env) (h : Heap) (m : Str → Option Value) (x : Str) (u : Value) : Prop :=
  (env.kindOf x = some .local ∧ m x = some u) ∨ ((env.kindOf x = some .cell ∨ env.kindOf x = some .free) ∧ ∃ c, env.cells.lookup x = some c ∧ h.IsCell c (some u))
structure Cx.Ok (X : Cx) : Prop where
  mod : Mod X.K X.mg X.base
  kind : X.env.scope.kind = .function
  glob : X.env.globals = mainGlobals
  blt : X.env.builtins = builtinsNs
  above : X.s₀.heap.objs.size ≤ X.env.locals
  inj : ∀ x y c, X.env.cells.lookup x = some c → X.env.cells.lookup y = some c → x = y
  has : ∀ x, (X.env.kindOf x = some .cell ∨ X.env.kindOf x = some .free) → ∃ c, X.env.cells.lookup x = some c
  cab : ∀ x c, X.fn x = true → X.env.cells.lookup x = some c → X.s₀.heap.objs.size ≤ c
  hd : X.calm = true → X.A.handled = none
  frames : X.A.frames = some X.stack
  stk : X.stack = X.outer ∨ (X.stack = X.env :: X.outer ∧ X.env.frame = some X.env.locals)
  exf : ∀ b ∈ X.ex, b ≠ X.env.locals ∧ ∀ x c, X.env.cells.lookup x = some c → c ≠ b
  bs : ∀ b o, X.base.get? b = some o → X.s₀.heap.get? b = some o ∧ X.H₀ b = none
  bsz : X.base.objs.size ≤ X.s₀.heap.objs.size
  noex : ∀ b o, X.base.get? b = some o → b ∉ X.ex
  exfs : ∀ b ∈ X.ex, b ∉ X.fs
  funs : X.s₀.heap.FunFrames X.base X.outer
  frf : ∀ b ∈ X.fs, X.H₀ b = none
structure Inv (X : Cx) (pins : List (Addr × Obj)) (σ : List (Option V)) (H : Hp) (s : Shared) : Prop where
  ok : X.Ok
  os : s.os = X.s₀.os
  bare : AllBare s.gens
  base : Un X.fs X.ex X.H₀ H X.s₀.heap s.heap
  loc : ∃ m, s.heap.Ns X.env.locals m ∧ ∀ (i : Nat) (x : Str) (v : V), X.N[i]? = some x → σ[i]? = some (some v) → Vis X.env.scope x → ∃ u, RelV v u ∧ Look X.env s.heap m x u
  cell : ∀ x c, X.env.cells.lookup x = some c → ∃ v, s.heap.IsCell c v
  free : H X.env.locals = none
  freeC : ∀ x c, X.env.cells.lookup x = some c → H c = none
  pin : ∀ p ∈ X.pn ++ pins, s.heap.get? p.1 = some p.2 ∧ H p.1 = none ∧ p.1 ≠ X.env.locals ∧ p.1 ∉ X.fs ∧ ∀ v, p.2.data ≠ .cell v
  hok : HOk X.prog X.w H s.heap
  len : σ.length = X.N.length
section
variable {X : Cx} {pins : List (Addr × Obj)} {σ : List (Option V)} {H H' : Hp} {s : Shared} {h' : Heap}
theorem Cx.Ok.nofr (ok : X.Ok) {b : Addr} {o : Obj} (e : X.base.get? b = some o) : b ∉ X.fs := fun hb => by
  have := (ok.funs.mem hb).1
  rw [e] at this; cases this
theorem Inv.bs (I : Inv X pins σ H s) : ∀ b o, X.base.get? b = some o → s.heap.get? b = some o ∧ H b = none := fun b o e =>
  ⟨I.base.keep b o (I.ok.bs b o e).1 (I.ok.bs b o e).2 (I.ok.nofr e) (I.ok.noex b o e), I.base.free b o (I.ok.bs b o e).1 (I.ok.bs b o e).2 (I.ok.noex b o e)⟩
theorem Inv.bk (I : Inv X pins σ H s) : ∀ b o, X.base.get? b = some o → s.heap.get? b = some o := fun b o e => (I.bs b o e).1
theorem Inv.mod (I : Inv X pins σ H s) : Mod X.K X.mg X.base := I.ok.mod
theorem Inv.kIn (I : Inv X pins σ H s) : X.K.In s.heap := I.ok.mod.kin.keeps I.bk
theorem Inv.lt (I : Inv X pins σ H s) : X.env.locals < s.heap.objs.size := let ⟨_, hn, _⟩ := I.loc; hn.lt
theorem Inv.sz (I : Inv X pins σ H s) : X.s₀.heap.objs.size ≤ s.heap.objs.size := Nat.le_trans I.ok.above (Nat.le_of_lt I.lt)
theorem Inv.nofs (I : Inv X pins σ H s) {a : Addr} (h : s.heap.objs.size ≤ a) : a ∉ X.fs := fun hb => by
  obtain ⟨_, o, ho, _⟩ := I.ok.funs.mem hb
  exact absurd (Nat.lt_of_lt_of_le (Heap.lt_size ho) (Nat.le_trans I.sz h)) (Nat.lt_irrefl _)
theorem Inv.cne (I : Inv X pins σ H s) : ∀ x c, X.env.cells.lookup x = some c → c ≠ X.env.locals := fun x c e z => by
  obtain ⟨v, o, ho, hd⟩ := I.cell x c e
  obtain ⟨m, ⟨o', es, ep, ho', hd', _⟩, _⟩ := I.loc
  rw [z, ho'] at ho; cases ho; rw [hd'] at hd; cases hd
theorem Inv.funs (I : Inv X pins σ H s) : s.heap.FunFrames X.base X.outer := by
  have all : ∀ (l : List Env), (∀ b ∈ frs l, b ∈ X.fs) → X.s₀.heap.FunFrames X.base l → s.heap.FunFrames X.base l := by
    intro l
    induction l with
    | nil => intro _ _; trivial
    | cons env r ih =>
      intro hs hl
      obtain ⟨hk, ⟨L, o, hf, hn, ho, hd⟩, hr⟩ := hl
      have hL : L ∈ X.fs := hs L (by unfold frs; rw [List.filterMap_cons, hf]; exact List.mem_cons_self)
      obtain ⟨sl, e⟩ := I.base.slot L o ho (I.ok.frf L hL) hL fun z => I.ok.exfs L z hL
      exact ⟨hk, ⟨L, _, hf, hn, e, hd⟩, ih (fun b hb => hs b (by unfold frs; rw [List.filterMap_cons, hf]; exact List.mem_cons_of_mem _ hb)) hr⟩
  exact all X.outer (fun _ hb => hb) I.ok.funs
theorem Inv.stack (I : Inv X pins σ H s) : s.heap.FunFrames X.base X.stack := by
  rcases I.ok.stk with e | ⟨e, hf⟩
  · rw [e]; exact I.funs
  · rw [e]
    obtain ⟨m, hn, _⟩ := I.loc
    refine .cons (by rw [I.ok.kind]; decide) hf hn ?_ I.funs
    exact Heap.get?_none_of_le (Nat.le_trans I.ok.bsz I.ok.above)
theorem Inv.stkSub (I : Inv X pins σ H s) : ∀ b ∈ frs X.stack, b ∈ X.env.locals :: X.fs := fun b hb => by
  rcases I.ok.stk with e | ⟨e, hf⟩
  · rw [e] at hb; exact List.mem_cons_of_mem _ hb
  · rw [e] at hb
    unfold frs at hb
    rw [List.filterMap_cons, hf] at hb
    exact hb
theorem Inv.stkFree (I : Inv X pins σ H s) : ∀ b ∈ frs X.stack, H b = none := fun b hb => by
  rcases List.mem_cons.mp (I.stkSub b hb) with e | hb
  · rw [e]; exact I.free
  · obtain ⟨_, o, ho, _⟩ := I.ok.funs.mem hb
    exact I.base.free b o ho (I.ok.frf b hb) fun z => I.ok.exfs b z hb
theorem Inv.step {g' : Array GenState} {t' : Nat} {d' : Drawn} {ch : List Addr} (I : Inv X pins σ H s)
    (hch : ∀ b ∈ ch, (b ∈ X.ex ∨ X.s₀.heap.objs.size ≤ b) ∧ b ≠ X.env.locals ∧ (∀ x c, X.env.cells.lookup x = some c → c ≠ b) ∧ ∀ p ∈ X.pn ++ pins, p.1 ≠ b)
    (keep : ∀ b o, b ≠ X.env.locals → b ∉ X.fs → b ∉ ch → s.heap.get? b = some o → H b = none → h'.get? b = some o)
    (slot : ∀ b o, b ≠ X.env.locals → b ∈ X.fs → b ∉ ch → s.heap.get? b = some o → H b = none → ∃ sl, h'.get? b = some { o with slots := sl }) (free : ∀ b o, b ∉ ch → s.heap.get? b = some o → H b = none → H' b = none)
    (there : ∀ b o, b ∉ ch → s.heap.get? b = some o → ∃ o', h'.get? b = some o')
    (tups : ∀ b xs, H b = some (.tup xs) → H' b = some (.tup xs)) (frzs : ∀ b o u, H b = some (.frz o u) → H' b = some (.frz o u)) (tbls : ∀ b ps, H b = some (.tbl ps) → ∃ more, H' b = some (.tbl (ps ++ more)))
    (ns : ∀ m, s.heap.Ns X.env.locals m → h'.Ns X.env.locals m) (hok : HOk X.prog X.w H' h') (hg : AllBare g') :
    Inv X pins σ H' { s with heap := h', gens := g', drawn := d', toks := t' } := by
  have neL : ∀ b o, X.s₀.heap.get? b = some o → b ≠ X.env.locals := fun b o e => Nat.ne_of_lt (Nat.lt_of_lt_of_le (Heap.lt_size e) I.ok.above)
  have neC : ∀ b o, X.s₀.heap.get? b = some o → b ∉ X.ex → b ∉ ch := fun b o e hx hb => by
    rcases (hch b hb).1 with z | z
    · exact hx z
    · exact absurd (Nat.lt_of_lt_of_le (Heap.lt_size e) z) (Nat.lt_irrefl _)
  have cellK : ∀ x c, X.env.cells.lookup x = some c → ∀ v, s.heap.IsCell c v → h'.IsCell c v := fun x c e v ⟨o, ho, hd⟩ => by
    have nch : c ∉ ch := fun z => (hch c z).2.2.1 x c e rfl
    by_cases hc : c ∈ X.fs
    · obtain ⟨sl, q⟩ := slot c o (I.cne x c e) hc nch ho (I.freeC x c e)
      exact ⟨_, q, hd⟩
    · exact ⟨o, keep c o (I.cne x c e) hc nch ho (I.freeC x c e), hd⟩
  refine ⟨I.ok, I.os, hg, ⟨fun b o e n hb hx => ?_, fun b o e n hb hx => ?_, fun b o e n hx => ?_, fun b o e hx => ?_, fun b xs e => tups b xs (I.base.tups b xs e), fun b o xs e => frzs b o xs (I.base.frzs b o xs e), fun b ps e => ?_⟩, ?_, fun x c e => ?_, ?_, fun x c e => ?_, fun p hp => ?_, hok, I.len⟩
  · exact keep b o (neL b o e) hb (neC b o e hx) (I.base.keep b o e n hb hx) (I.base.free b o e n hx)
  · obtain ⟨sl, e1⟩ := I.base.slot b o e n hb hx
    obtain ⟨sl', e2⟩ := slot b _ (neL b o e) hb (neC b o e hx) e1 (I.base.free b o e n hx)
    exact ⟨sl', e2⟩
  · obtain ⟨o', e1⟩ := I.base.there b o e hx
    exact free b o' (neC b o e hx) e1 (I.base.free b o e n hx)
  · obtain ⟨o', e1⟩ := I.base.there b o e hx
    exact there b o' (neC b o e hx) e1
  · obtain ⟨m1, e1⟩ := I.base.tbls b ps e
    obtain ⟨m2, e2⟩ := tbls b _ e1
    exact ⟨m1 ++ m2, by rw [e2, Array.append_assoc]⟩
  · obtain ⟨m, hn, hl⟩ := I.loc
    refine ⟨m, ns m hn, fun i x v e1 e2 e3 => ?_⟩
    obtain ⟨u, r, l⟩ := hl i x v e1 e2 e3
    refine ⟨u, r, ?_⟩
    rcases l with l | ⟨k, c, e, z⟩
    · exact .inl l
    · exact .inr ⟨k, c, e, cellK x c e _ z⟩
  · obtain ⟨v, z⟩ := I.cell x c e
    exact ⟨v, cellK x c e v z⟩
  · obtain ⟨m, ⟨o, _, _, ho, _⟩, _⟩ := I.loc
    exact free _ o (fun z => (hch _ z).2.1 rfl) ho I.free
  · obtain ⟨v, o, ho, hd⟩ := I.cell x c e
    exact free c o (fun z => (hch c z).2.2.1 x c e rfl) ho (I.freeC x c e)
  · obtain ⟨e, n, ne, nf, d⟩ := I.pin p hp
    have nch : p.1 ∉ ch := fun z => (hch p.1 z).2.2.2 p hp rfl
    exact ⟨keep p.1 p.2 ne nf nch e n, free p.1 p.2 nch e n, ne, nf, d⟩
theorem Inv.un {t' : Nat} (I : Inv X pins σ H s) (u : Un X.fs [] H H' s.heap h') (hok : HOk X.prog X.w H' h') : Inv X pins σ H' { s with heap := h', toks := t' } := by
  obtain ⟨m, ⟨o, es, ep, ho, r⟩, _⟩ := id I.loc
  obtain ⟨sl, hL⟩ := u.any ho I.free (by simp)
  exact I.step (g' := s.gens) (d' := s.drawn) (ch := []) (fun _ z => nomatch z) (fun b o _ hb _ e n => u.keep b o e n hb (by simp)) (fun b o _ hb _ e n => u.slot b o e n hb (by simp)) (fun b o _ e n => u.free b o e n (by simp)) (fun b o _ e => u.there b o e (by simp)) u.tups u.frzs u.tbls (fun m' hm => by
    obtain ⟨o', es', ep', ho', r'⟩ := hm
    rw [ho] at ho'; cases ho'
    exact ⟨_, es', ep', hL, r'⟩) hok I.bare
theorem Inv.call {g' : Array GenState} {t' : Nat} {d' : Drawn} {ch : List Addr} (I : Inv X pins σ H s) (u : Un (frs X.stack) ch H H' s.heap h') (hok : HOk X.prog X.w H' h') (hg : AllBare g')
    (hch : ∀ b ∈ ch, (b ∈ X.ex ∨ X.s₀.heap.objs.size ≤ b) ∧ b ≠ X.env.locals ∧ (∀ x c, X.env.cells.lookup x = some c → c ≠ b) ∧ ∀ p ∈ X.pn ++ pins, p.1 ≠ b) :
    Inv X pins σ H' { s with heap := h', gens := g', drawn := d', toks := t' } := by
  obtain ⟨m, ⟨o, es, ep, ho, r⟩, _⟩ := id I.loc
  obtain ⟨sl, hL⟩ := u.any ho I.free fun z => (hch _ z).2.1 rfl
  exact I.step (ch := ch) hch (fun b o hL hb hc e n => u.keep b o e n (fun z => (List.mem_cons.mp (I.stkSub b z)).elim hL hb) hc) (fun b o _ _ hc e n => u.any e n hc) (fun b o hc e n => u.free b o e n hc) (fun b o hc e => u.there b o e hc) u.tups u.frzs u.tbls (fun m' hm => by
    obtain ⟨o', es', ep', ho', r'⟩ := hm
    rw [ho] at ho'; cases ho'
    exact ⟨_, es', ep', hL, r'⟩) hok hg
theorem Inv.turned {t' : Nat} {it : Addr} (I : Inv X pins σ H s) (k : ∀ b o, b ≠ it → s.heap.get? b = some o → h'.get? b = some o) (hn : H it = none) (hL : it ≠ X.env.locals)
    (h1 : it ∈ X.ex ∨ X.s₀.heap.objs.size ≤ it) (h2 : ∀ x c, X.env.cells.lookup x = some c → c ≠ it) (h3 : ∀ p ∈ X.pn ++ pins, p.1 ≠ it) : Inv X pins σ H { s with heap := h', toks := t' } := by
  have nit : ∀ b u, H b = some u → b ≠ it := fun b u e z => by rw [z, hn] at e; cases e
  refine I.step (g' := s.gens) (d' := s.drawn) (ch := [it]) (fun b hb => ?_) (fun b o _ _ hc e _ => k b o (fun z => hc (by simp [z])) e) (fun b o _ _ hc e _ => ⟨o.slots, k b o (fun z => hc (by simp [z])) e⟩) (fun _ _ _ _ n => n)
    (fun b o hc e => ⟨o, k b o (fun z => hc (by simp [z])) e⟩) (fun _ _ e => e) (fun _ _ _ e => e) (fun b ps e => ⟨#[], by rw [e]; simp⟩) (fun m hm => ?_) (fun b u e => ?_) I.bare
  · have e : b = it := by simpa using hb
    subst e
    exact ⟨h1, hL, h2, h3⟩
  · obtain ⟨o, es, ep, ho, r⟩ := hm
    exact ⟨o, es, ep, k _ o (Ne.symm hL) ho, r⟩
  · refine (I.hok b u e).stay (fun c v hc q => k c v ?_ q) (fun _ q => q) fun _ _ q => q
    rcases hc with z | z
    · rw [z]; exact nit b u e
    · exact nit c _ z
theorem Inv.tok (I : Inv X pins σ H s) (t : Nat) : Inv X pins σ H { s with toks := t } := I.un (h' := s.heap) (t' := t) Un.refl I.hok
theorem Inv.kept {t' : Nat} (I : Inv X pins σ H s) (k : ∀ b u, s.heap.get? b = some u → h'.get? b = some u) : Inv X pins σ H { s with heap := h', toks := t' } := I.un (Un.kept k) (I.hok.kept k)
theorem Inv.laid {a : Addr} {o : HO} {t' : Nat} (I : Inv X pins σ H s) (k : ∀ b u, s.heap.get? b = some u → h'.get? b = some u) (hp : s.heap.objs.size ≤ a) (new : ObjOk X.prog X.w (upd H a o) h' a o) :
    Inv X pins σ (upd H a o) { s with heap := h', toks := t' } := I.un (Un.laid k hp (I.hok.fresh hp)) (I.hok.laid k hp new)
theorem Inv.write {x e : Addr} {o : HO} {t' : Nat} (I : Inv X pins σ H s) (mu : Mut (H x)) (he : e = x ∨ H e = some (.own x)) (k : ∀ b u, b ≠ e → s.heap.get? b = some u → h'.get? b = some u) (heo : ∃ u, h'.get? e = some u)
    (new : ObjOk X.prog X.w (upd H x o) h' x o) : Inv X pins σ (upd H x o) { s with heap := h', toks := t' } := I.un (Un.write mu he k heo) (I.hok.write mu he k heo new)
theorem Inv.pins_of {pins' : List (Addr × Obj)} (I : Inv X pins σ H s) (h : ∀ p ∈ pins', s.heap.get? p.1 = some p.2 ∧ H p.1 = none ∧ p.1 ≠ X.env.locals ∧ p.1 ∉ X.fs ∧ ∀ v, p.2.data ≠ .cell v) : Inv X pins' σ H s :=
  ⟨I.ok, I.os, I.bare, I.base, I.loc, I.cell, I.free, I.freeC, fun p hp => (List.mem_append.mp hp).elim (fun z => I.pin p (List.mem_append_left _ z)) (h p), I.hok, I.len⟩
theorem nodup_ix {N : List Str} (hN : N.Nodup) {i j : Nat} {x : Str} (a : N[i]? = some x) (b : N[j]? = some x) : i = j := by
  obtain ⟨h1, e1⟩ := List.getElem?_eq_some_iff.mp a
  obtain ⟨h2, e2⟩ := List.getElem?_eq_some_iff.mp b
  exact (List.getElem_inj hN).mp (e1.trans e2.symm)
theorem store_ok2 {M : Model} {A : Around} {E : Value → Shared → Prop} {i : Nat} {x : Str} {v : V} {u : Value} {Q : Unit → Shared → Prop} (I : Inv X pins σ H s) (hN : X.N.Nodup) (hi : X.N[i]? = some x) (hx : Loc X.env.scope x) (r : RelV v u)
    (h : ∀ s', Inv X pins (σ.set i (some v)) H s' → (∃ a, Heap.SameBut a s.heap s'.heap ∧ (a = X.env.locals ∨ X.env.cells.lookup x = some a)) → Q () s') (hf : X.fn x = true ∨ X.env.scope.names.lookup x = some .local := by first | exact .inl rfl | exact .inr rfl | assumption) : wpAny M A (storeName X.env x u) Q E s := by
  obtain ⟨m, hn, hl⟩ := id I.loc
  have hcls : (X.env.scope.kind == .class || (X.env.scope.kind == .module && X.env.locals != X.env.globals)) = false := by rw [I.ok.kind]; rfl
  have hiσ : i < σ.length := by rw [I.len]; exact (List.getElem?_eq_some_iff.mp hi).1
  have cne := I.cne
  have tracked : ∀ {a : Addr} {h' : Heap}, (∃ o, s.heap.get? a = some o ∧ H a = none) → Heap.SameBut a s.heap h' → HOk X.prog X.w H h' := fun {a h'} ha hs b ob e => by
    obtain ⟨_, _, hfree⟩ := ha
    refine (I.hok b ob e).stay (fun c w' hc q => (hs.2 c ?_).trans q) (fun _ q => q) fun _ _ q => q
    rintro rfl
    rcases hc with rfl | hc
    · rw [hfree] at e; cases e
    · rw [hfree] at hc; cases hc
  rcases hx with hk | hk
  · refine wpAny_storeName_local hk hn (fun h' hn' hs => ?_) hcls
    obtain ⟨oL, _, _, hoL, _⟩ := id hn
    refine h _ ⟨I.ok, I.os, I.bare, ⟨fun b o e n hb hx => ?_, fun b o e n hb hx => ?_, I.base.free, fun b o e hx => ?_, I.base.tups, I.base.frzs, I.base.tbls⟩, ⟨_, hn', fun j y v' e1 e2 e3 => ?_⟩, fun y c e => ?_, I.free, I.freeC, fun p hp => ?_, tracked ⟨oL, hoL, I.free⟩ hs, by simpa using I.len⟩ ⟨_, hs, .inl rfl⟩
    · exact (hs.2 b (Nat.ne_of_lt (Nat.lt_of_lt_of_le (Heap.lt_size e) I.ok.above))).trans (I.base.keep b o e n hb hx)
    · obtain ⟨sl, e1⟩ := I.base.slot b o e n hb hx
      exact ⟨sl, (hs.2 b (Nat.ne_of_lt (Nat.lt_of_lt_of_le (Heap.lt_size e) I.ok.above))).trans e1⟩
    · obtain ⟨o', e1⟩ := I.base.there b o e hx
      exact ⟨o', (hs.2 b (Nat.ne_of_lt (Nat.lt_of_lt_of_le (Heap.lt_size e) I.ok.above))).trans e1⟩
    · by_cases hj : j = i
      · subst hj
        rw [hi] at e1; cases e1
        rw [List.getElem?_set_self hiσ] at e2
        cases e2
        exact ⟨u, r, .inl ⟨hk, by simp⟩⟩
      · rw [List.getElem?_set_ne (Ne.symm hj)] at e2
        obtain ⟨u', r', q⟩ := hl j y v' e1 e2 e3
        refine ⟨u', r', ?_⟩
        rcases q with ⟨k, e⟩ | ⟨k, c, e, z⟩
        · refine .inl ⟨k, ?_⟩
          have : y ≠ x := fun e => hj (nodup_ix hN e1 (e ▸ hi))
          simp [this, e]
        · exact .inr ⟨k, c, e, z.sameBut hs (cne y c e)⟩
    · obtain ⟨w', z⟩ := I.cell y c e
      exact ⟨w', z.sameBut hs (cne y c e)⟩
    · obtain ⟨e, n, ne, nf, d⟩ := I.pin p hp
      exact ⟨(hs.2 p.1 ne).trans e, n, ne, nf, d⟩
  · have hfn : X.fn x = true := by
      rcases hf with z | z
      · exact z
      · rw [z] at hk; cases hk
    obtain ⟨c, hc⟩ := I.ok.has x (.inl hk)
    obtain ⟨w', z⟩ := I.cell x c hc
    refine wpAny_storeName_cell I.ok.kind hk hc z (fun h' hc' hs => ?_)
    obtain ⟨oc, hoc, hocd⟩ := id z
    refine h { s with heap := h' } ⟨I.ok, I.os, I.bare, ⟨fun b o e n hb hx => ?_, fun b o e n hb hx => ?_, I.base.free, fun b o e hx => ?_, I.base.tups, I.base.frzs, I.base.tbls⟩, ⟨m, hn.sameBut hs (Ne.symm (cne x c hc)), fun j y v' e1 e2 e3 => ?_⟩, fun y c' e => ?_, I.free, I.freeC, fun p hp => ?_, tracked ⟨oc, hoc, I.freeC x c hc⟩ hs, by simpa using I.len⟩ ⟨c, hs, .inr hc⟩
    · exact (hs.2 b (Nat.ne_of_lt (Nat.lt_of_lt_of_le (Heap.lt_size e) (I.ok.cab x c hfn hc)))).trans (I.base.keep b o e n hb hx)
    · obtain ⟨sl, e1⟩ := I.base.slot b o e n hb hx
      exact ⟨sl, (hs.2 b (Nat.ne_of_lt (Nat.lt_of_lt_of_le (Heap.lt_size e) (I.ok.cab x c hfn hc)))).trans e1⟩
    · obtain ⟨o', e1⟩ := I.base.there b o e hx
      exact ⟨o', (hs.2 b (Nat.ne_of_lt (Nat.lt_of_lt_of_le (Heap.lt_size e) (I.ok.cab x c hfn hc)))).trans e1⟩
    · by_cases hj : j = i
      · subst hj
        rw [hi] at e1; cases e1
        rw [List.getElem?_set_self hiσ] at e2
        cases e2
        exact ⟨u, r, .inr ⟨.inl hk, c, hc, hc'⟩⟩
      · rw [List.getElem?_set_ne (Ne.symm hj)] at e2
        obtain ⟨u', r', q⟩ := hl j y v' e1 e2 e3
        refine ⟨u', r', ?_⟩
        rcases q with q | ⟨k, c', e, z'⟩
        · exact .inl q
        · refine .inr ⟨k, c', e, z'.sameBut hs ?_⟩
          rintro rfl
          exact hj (nodup_ix hN e1 (I.ok.inj _ _ _ e hc ▸ hi))
    · by_cases hcc : c' = c
      · subst hcc; exact ⟨_, hc'⟩
      · obtain ⟨w2, z2⟩ := I.cell y c' e
        exact ⟨w2, z2.sameBut hs hcc⟩
    · obtain ⟨e, n, ne, nf, d⟩ := I.pin p hp
      refine ⟨(hs.2 p.1 ?_).trans e, n, ne, nf, d⟩
      intro q
      rw [q, hoc] at e
      have q' : oc = p.2 := Option.some.inj e
      exact d w' (by rw [← q']; exact hocd)
theorem store_ok {M : Model} {A : Around} {E : Value → Shared → Prop} {i : Nat} {x : Str} {v : V} {u : Value} {Q : Unit → Shared → Prop} (I : Inv X pins σ H s) (hN : X.N.Nodup) (hi : X.N[i]? = some x) (hx : Loc X.env.scope x) (r : RelV v u)
    (h : ∀ s', Inv X pins (σ.set i (some v)) H s' → Q () s') (hf : X.fn x = true ∨ X.env.scope.names.lookup x = some .local := by first | exact .inl rfl | exact .inr rfl | assumption) : wpAny M A (storeName X.env x u) Q E s :=
  store_ok2 I hN hi hx r (fun s' I' _ => h s' I') hf
theorem Inv.call' {s' : Shared} {ch : List Addr} (I : Inv X pins σ H s) (ho : s'.os = s.os) (u : Un (frs X.stack) ch H H' s.heap s'.heap) (hok : HOk X.prog X.w H' s'.heap) (hg : AllBare s'.gens)
    (hch : ∀ b ∈ ch, (b ∈ X.ex ∨ X.s₀.heap.objs.size ≤ b) ∧ b ≠ X.env.locals ∧ (∀ x c, X.env.cells.lookup x = some c → c ≠ b) ∧ ∀ p ∈ X.pn ++ pins, p.1 ≠ b) : Inv X pins σ H' s' := by
  obtain ⟨h', g', d', t', o'⟩ := s'
  have e : o' = s.os := ho
  subst e
  exact I.call (g' := g') (t' := t') (d' := d') u hok hg hch
end
noncomputable abbrev XK := Value → Option Addr → Hp → Prop
noncomputable abbrev St := List (Option V)
noncomputable abbrev VK := V → Hp → Prop
noncomputable abbrev TE := St → Hp → VK → Prop
noncomputable abbrev TT := St → Hp → (Bool → Hp → Prop) → Prop
noncomputable abbrev TA := St → Hp → (List V → Hp → Prop) → Prop
structure Ends where
  nx : St → Hp → Prop
  rt : VK
  bk : St → Hp → Prop := fun _ _ => False
  ct : St → Hp → Prop := fun _ _ => False
noncomputable abbrev TS := Ends → St → Hp → Prop
noncomputable def EP (X : Cx) (pins : List (Addr × Obj)) (σ : St) (Q : VK) (u : Value) (s' : Shared) : Prop := ∃ v H', Inv X pins σ H' s' ∧ RelV v u ∧ Q v H'
noncomputable def TP (X : Cx) (pins : List (Addr × Obj)) (σ : St) (Q : Bool → Hp → Prop) (b : Bool) (s' : Shared) : Prop := ∃ H', Inv X pins σ H' s' ∧ Q b H'
noncomputable def AP (X : Cx) (pins : List (Addr × Obj)) (σ : St) (Q : List V → Hp → Prop) (us : List Value) (s' : Shared) : Prop := ∃ vs H', Inv X pins σ H' s' ∧ Vals vs us ∧ Q vs H'
noncomputable def SP (X : Cx) (pins : List (Addr × Obj)) (D : Ends) (f : Flow) (s' : Shared) : Prop :=
  match f with
  | .next => ∃ σ' H', Inv X pins σ' H' s' ∧ D.nx σ' H'
  | .brk => ∃ σ' H', Inv X pins σ' H' s' ∧ D.bk σ' H'
  | .cont => ∃ σ' H', Inv X pins σ' H' s' ∧ D.ct σ' H'
  | .ret u => ∃ v σ' H', Inv X pins σ' H' s' ∧ RelV v u ∧ D.rt v H'
noncomputable def PE (X : Cx) (e : Expr) (t : TE) : Prop :=
  ∀ (pins : List (Addr × Obj)) (s : Shared) (σ : St) (H : Hp) (Q : VK), Inv X pins σ H s → t σ H Q → wpAny (model X.prog X.w) X.A (eval e X.env) (EP X pins σ Q) X.xe s
noncomputable def PT (X : Cx) (e : Expr) (t : TT) : Prop :=
  ∀ (pins : List (Addr × Obj)) (s : Shared) (σ : St) (H : Hp) (Q : Bool → Hp → Prop), Inv X pins σ H s → t σ H Q → wpAny (model X.prog X.w) X.A (isTrue e X.env (eval e X.env)) (TP X pins σ Q) X.xe s
noncomputable def PW (X : Cx) (e : Expr) (t : TT) : Prop :=
  ∀ (whole : Sem Value) (pins : List (Addr × Obj)) (s : Shared) (σ : St) (H : Hp) (Q : Bool → Hp → Prop), Inv X pins σ H s → t σ H Q → wpAny (model X.prog X.w) X.A (isTrue e X.env whole) (TP X pins σ Q) X.xe s
theorem PW.pt {X : Cx} {e : Expr} {t : TT} (h : PW X e t) : PT X e t := h _
noncomputable def PA (X : Cx) (es : List Expr) (t : TA) : Prop :=
  ∀ (pos : Pos) (pins : List (Addr × Obj)) (s : Shared) (σ : St) (H : Hp) (Q : List V → Hp → Prop), Inv X pins σ H s → t σ H Q → wpAny (model X.prog X.w) X.A (spliced (backTo pos (starEach es X.env))) (AP X pins σ Q) X.xe s
noncomputable def PS (X : Cx) (st : Stmt) (t : TS) : Prop :=
  ∀ (pins : List (Addr × Obj)) (s : Shared) (σ : St) (H : Hp) (D : Ends), Inv X pins σ H s → t D σ H → wpAny (model X.prog X.w) X.A (exec st X.env) (SP X pins D) X.xe s
noncomputable def PSs (X : Cx) (st : List Stmt) (t : TS) : Prop :=
  ∀ (pins : List (Addr × Obj)) (s : Shared) (σ : St) (H : Hp) (D : Ends), Inv X pins σ H s → t D σ H → wpAny (model X.prog X.w) X.A (execs st X.env) (SP X pins D) X.xe s
theorem thn {α : Type} {t : Sem α} {Q Q' : α → Shared → Prop} {M : Model} {A : Around} {E : Value → Shared → Prop} {s : Shared} (h : wpAny M A t Q E s) (hQ : ∀ a s, Q a s → Q' a s) : wpAny M A t Q' E s := wpAny_mono h hQ fun _ _ x => x
end L2
namespace L2
open PySem PySem.Spec PyProof.Rows
section
variable {X : Cx}
noncomputable def tVar (i : Nat) : TE := fun σ H Q => ∃ v, σ[i]? = some (some v) ∧ Q v H
noncomputable def tC (v : V) : TE := fun _ H Q => Q v H
theorem pe_var {i : Nat} {x : Str} {pos : Pos} (hN : X.N[i]? = some x) (hv : Vis X.env.scope x) (hd : (x == ("__debug__" : Str)) = false := by decide) (hcd : (x == ("__classdict__" : Str)) = false := by decide) : PE X (.Name x pos) (tVar i) := by
  intro pins s σ H Q I h
  obtain ⟨v, e, h⟩ := h
  obtain ⟨m, hn, hl⟩ := I.loc
  obtain ⟨u, r, l⟩ := hl i x v hN e hv
  have fin : EP X pins σ Q u s := ⟨v, H, I, r, h⟩
  rcases l with ⟨hk, hm⟩ | ⟨hk, c, hc, hcell⟩
  · exact wpAny_Name (wpAny_loadName_local I.ok.kind hk hn hm fin) hd
  · rcases hk with hk | hk
    · exact wpAny_Name (wpAny_loadName_cell I.ok.kind hk hc hcell fin) hd
    · exact wpAny_Name (wpAny_loadName_free I.ok.kind hk hc hcell fin hcd) hd
theorem pe_int {i j pos} : PE X (.Constant (.int i) j pos) (tC (.int i)) := fun _ _ _ H _ I h => wpAny_Constant_int ⟨.int i, H, I.tok _, ⟨_, rfl⟩, h⟩
theorem pe_bl {b j pos} : PE X (.Constant (.bool b) j pos) (tC (.bl b)) := fun _ _ _ H _ I h => Constant_bool ⟨.bl b, H, I, rfl, h⟩
theorem pe_non {j pos} : PE X (.Constant .none j pos) (tC .non) := fun _ _ _ H _ I h => Constant_none ⟨.non, H, I, rfl, h⟩
theorem pe_str {x j pos} : PE X (.Constant (.str x) j pos) (tC (.str x)) := fun _ _ _ H _ I h => Calls.Constant_str ⟨.str x, H, I.tok _, ⟨_, rfl⟩, h⟩
noncomputable def Gl (X : Cx) (x : Str) : Prop := X.env.kindOf x = some .globalImplicit
theorem ld_glob {E : Value → Shared → Prop} {pins : List (Addr × Obj)} {s : Shared} {σ : St} {H : Hp} {x : Str} {u : Value} {pos : Pos} {Q : Value → Shared → Prop} (I : Inv X pins σ H s) (hg : Gl X x) (hm : X.mg x = some u) (h : Q u s)
    (hd : (x == ("__debug__" : Str)) = false := by decide) : wpAny (model X.prog X.w) X.A (eval (.Name x pos) X.env) Q E s :=
  Calls.Name_function_global I.ok.kind hg (Calls.loadGlobal_global (by rw [I.ok.glob]; exact I.mod.glob.keeps I.bk) hm h) hd
theorem ld_blt {E : Value → Shared → Prop} {pins : List (Addr × Obj)} {s : Shared} {σ : St} {H : Hp} {x : Str} {u : Value} {pos : Pos} {Q : Value → Shared → Prop} (I : Inv X pins σ H s) (hg : Gl X x) (hm : X.mg x = none) (hv : bootBuiltins x = some u) (h : Q u s)
    (hn : x ≠ "__name__" := by decide) (hd : (x == ("__debug__" : Str)) = false := by decide) : wpAny (model X.prog X.w) X.A (eval (.Name x pos) X.env) Q E s := by
  obtain ⟨mb, h1, h2⟩ := I.mod.blt
  exact Calls.Name_function_global I.ok.kind hg (Calls.loadGlobal_builtin (by rw [I.ok.glob]; exact I.mod.glob.keeps I.bk) hm (by rw [I.ok.blt]; exact h1.keeps I.bk) ((h2 x hn).trans hv) h) hd
theorem pe_glob {x : Str} {v : V} {u : Value} {pos : Pos} (hg : Gl X x) (hm : X.mg x = some u) (r : RelV v u) (hd : (x == ("__debug__" : Str)) = false := by decide) : PE X (.Name x pos) (tC v) :=
  fun _ _ _ H _ I h => ld_glob I hg hm ⟨v, H, I, r, h⟩ hd
theorem pe_bltn {x : Str} {v : V} {u : Value} {pos : Pos} (hg : Gl X x) (hm : X.mg x = none) (hv : bootBuiltins x = some u) (r : RelV v u) (hn : x ≠ "__name__" := by decide) (hd : (x == ("__debug__" : Str)) = false := by decide) : PE X (.Name x pos) (tC v) :=
  fun _ _ _ H _ I h => ld_blt I hg hm hv ⟨v, H, I, r, h⟩ hn hd
variable {a b : Expr} {ta tb : TE} {pos : Pos}
variable {tA tB' : TT} {rest : List Expr}
noncomputable def tAnd (t u : TT) : TT := fun σ H Q => t σ H fun c H1 => if c = true then u σ H1 Q else Q false H1
noncomputable def tOr (t u : TT) : TT := fun σ H Q => t σ H fun c H1 => if c = true then Q true H1 else u σ H1 Q
noncomputable def tNot (t : TT) : TT := fun σ H Q => t σ H fun c H1 => Q (!c) H1
theorem pw_and1 (ha : PT X a tA) : PW X (.BoolOp .And [a] pos) tA := by
  intro wh pins s σ H Q I h
  refine isTrue_and (thn (ha pins s σ H Q I h) fun c s1 e => ?_)
  cases c with
  | true => exact isTrue_and_nil e
  | false => exact e
theorem pw_or1 (ha : PT X a tA) : PW X (.BoolOp .Or [a] pos) tA := by
  intro wh pins s σ H Q I h
  refine isTrue_or (thn (ha pins s σ H Q I h) fun c s1 e => ?_)
  cases c with
  | false => exact isTrue_or_nil e
  | true => exact e
theorem pw_and (ha : PT X a tA) (hb : PW X (.BoolOp .And (b :: rest) pos) tB') : PW X (.BoolOp .And (a :: b :: rest) pos) (tAnd tA tB') := by
  intro wh pins s σ H Q I h
  refine isTrue_and (thn (ha pins s σ H _ I h) fun c s1 ⟨H1, I1, q1⟩ => ?_)
  cases c with
  | true => exact hb wh pins s1 σ H1 Q I1 q1
  | false => exact ⟨H1, I1, q1⟩
theorem pw_or (ha : PT X a tA) (hb : PW X (.BoolOp .Or (b :: rest) pos) tB') : PW X (.BoolOp .Or (a :: b :: rest) pos) (tOr tA tB') := by
  intro wh pins s σ H Q I h
  refine isTrue_or (thn (ha pins s σ H _ I h) fun c s1 ⟨H1, I1, q1⟩ => ?_)
  cases c with
  | true => exact ⟨H1, I1, q1⟩
  | false => exact hb wh pins s1 σ H1 Q I1 q1
theorem pt_not (ha : PT X a tA) : PT X (.UnaryOp .Not a pos) (tNot tA) := by
  intro pins s σ H Q I h
  exact isTrue_not (ha pins s σ H (fun c H1 => Q (!c) H1) I h)
noncomputable def tAndV (ta tb : TE) : TE := fun σ H Q => ta σ H fun x H1 => ∃ c, x = .bl c ∧ if c = true then tb σ H1 Q else Q (.bl false) H1
noncomputable def tOrV (ta tb : TE) : TE := fun σ H Q => ta σ H fun x H1 => ∃ c, x = .bl c ∧ if c = true then Q (.bl true) H1 else tb σ H1 Q
noncomputable def tNotV (ta : TE) : TE := fun σ H Q => ta σ H fun x H1 => ∃ c, x = .bl c ∧ Q (.bl (!c)) H1
theorem pe_one {op} {t : TE} (h : PE X a t) : PE X (.BoolOp op [a] pos) t := fun pins s σ H Q I hw => BoolOp_one (h pins s σ H Q I hw)
theorem pe_and (ha : PE X a ta) (hb : PE X (.BoolOp .And (b :: rest) pos) tb) : PE X (.BoolOp .And (a :: b :: rest) pos) (tAndV ta tb) := by
  intro pins s σ H Q I h
  refine BoolOp_and (thn (ha pins s σ H _ I h) fun v s1 ⟨x, H1, I1, r1, q1⟩ => ?_)
  obtain ⟨c, rfl, q1⟩ := q1
  cases r1
  refine wpAny_truthy_bool ?_
  cases c with
  | true => exact hb pins s1 σ H1 Q I1 q1
  | false => exact ⟨.bl false, H1, I1, rfl, q1⟩
theorem pe_or (ha : PE X a ta) (hb : PE X (.BoolOp .Or (b :: rest) pos) tb) : PE X (.BoolOp .Or (a :: b :: rest) pos) (tOrV ta tb) := by
  intro pins s σ H Q I h
  refine BoolOp_or (thn (ha pins s σ H _ I h) fun v s1 ⟨x, H1, I1, r1, q1⟩ => ?_)
  obtain ⟨c, rfl, q1⟩ := q1
  cases r1
  refine wpAny_truthy_bool ?_
  cases c with
  | false => exact hb pins s1 σ H1 Q I1 q1
  | true => exact ⟨.bl true, H1, I1, rfl, q1⟩
theorem pe_not (ha : PE X a ta) : PE X (.UnaryOp .Not a pos) (tNotV ta) := by
  intro pins s σ H Q I h
  refine UnaryOp_ (thn (ha pins s σ H _ I h) fun v s1 ⟨x, H1, I1, r1, q1⟩ => ?_)
  obtain ⟨c, rfl, q1⟩ := q1
  cases r1
  exact not_of (wpAny_truthy_bool ⟨.bl (!c), H1, I1, rfl, q1⟩)
end
end L2
namespace L2
open PySem PySem.Spec PyProof.Rows
noncomputable def SqL (K : PySem.W.Frag) (H : Hp) (a : Addr) (xs : List V) : Prop :=
  Rd H a (.lst xs) ∨
    ∃ (o : Obj) (its : Array Value) (n : Nat), K.lookup a = some o ∧ o.cls = .type "list" ∧ o.dict = none ∧ o.data = .seq its n ∧ its.size ≤ sizeLine ∧ Vals xs its.toList
noncomputable def SqT (K : PySem.W.Frag) (H : Hp) (a : Addr) (xs : List V) : Prop :=
  Rd H a (.tup xs) ∨
    ∃ (o : Obj) (its : Array Value) (n : Nat), K.lookup a = some o ∧ o.cls = .type "tuple" ∧ o.data = .seq its n ∧ its.size ≤ sizeLine ∧ Vals xs its.toList
noncomputable def absV : Value → Option V
  | .none => some .non
  | .bool b => some (.bl b)
  | .int i _ => some (.int i)
  | .str x _ => some (.str x)
  | .bytes b _ => some (.byt b)
  | .float b _ => some (.flt b)
  | .ref a => some (.ref a)
  | .type n => some (.ty n)
  | _ => none
theorem RelV.abs {x : V} {u : Value} (r : RelV x u) : absV u = some x := by
  cases x with
  | non => cases r; rfl
  | bl _ => cases r; rfl
  | int _ => obtain ⟨t, rfl⟩ := r; rfl
  | str _ => obtain ⟨t, rfl⟩ := r; rfl
  | byt _ => obtain ⟨t, rfl⟩ := r; rfl
  | flt _ => obtain ⟨t, rfl⟩ := r; rfl
  | ref _ => cases r; rfl
  | ty _ => cases r; rfl
theorem RelV.inj {x y : V} {u : Value} (r : RelV x u) (q : RelV y u) : x = y := Option.some.inj (r.abs.symm.trans q.abs)
theorem Vals.inj : ∀ {xs ys : List V} {us : List Value}, Vals xs us → Vals ys us → xs = ys
  | _, _, _, .nil, .nil => rfl
  | _, _, _, .cons r t, .cons r' t' => by rw [r.inj r', Vals.inj t t']
section
variable {X : Cx} {pins : List (Addr × Obj)} {σ : St} {H : Hp} {s : Shared} {a : Addr} {xs ys : List V}
theorem SqL.of {K : PySem.W.Frag} (h : H a = some (.lst xs)) : SqL K H a xs := .inl (.inl h)
theorem SqT.of {K : PySem.W.Frag} (h : H a = some (.tup xs)) : SqT K H a xs := .inl (.inl h)
theorem Inv.list (I : Inv X pins σ H s) (h : SqL X.K H a xs) : ∃ its : List Value, Vals xs its ∧ PlainL s.heap a its.toArray ∧ xs.length ≤ sizeLine := by
  rcases h with h | ⟨o, its, n, hk, hc, hd, hs, hz, r⟩
  · obtain ⟨z, its, n, r, e⟩ := h.ok I.hok
    exact ⟨its, r, ⟨_, n, e, rfl, rfl, rfl⟩, z⟩
  · refine ⟨its.toList, r, ⟨o, n, I.kIn a o hk, hc, hd, by simpa using hs⟩, ?_⟩
    have e := r.length
    simp only [Array.length_toList] at e
    omega
theorem Inv.tuple (I : Inv X pins σ H s) (h : SqT X.K H a xs) : ∃ its : List Value, Vals xs its ∧ IsTup s.heap a its.toArray ∧ xs.length ≤ sizeLine := by
  rcases h with h | ⟨o, its, n, hk, hc, hs, hz, r⟩
  · obtain ⟨z, its, r, p⟩ := h.ok I.hok
    exact ⟨its, r, p, z⟩
  · refine ⟨its.toList, r, ⟨o, I.kIn a o hk, hc, n, by simpa using hs⟩, ?_⟩
    have e := r.length
    simp only [Array.length_toList] at e
    omega
theorem Inv.list_inj (I : Inv X pins σ H s) (h : SqL X.K H a xs) (h' : SqL X.K H a ys) : xs = ys := by
  obtain ⟨its, r, ⟨o, n, e, _, _, d⟩, _⟩ := I.list h
  obtain ⟨its', r', ⟨o', n', e', _, _, d'⟩, _⟩ := I.list h'
  rw [e] at e'; cases e'
  rw [d] at d'
  injection d' with d1 _
  have : its = its' := by simpa using congrArg Array.toList d1
  subst this
  exact r.inj r'
theorem Inv.tuple_inj (I : Inv X pins σ H s) (h : SqT X.K H a xs) (h' : SqT X.K H a ys) : xs = ys := by
  obtain ⟨its, r, ⟨o, e, _, n, d⟩, _⟩ := I.tuple h
  obtain ⟨its', r', ⟨o', e', _, n', d'⟩, _⟩ := I.tuple h'
  rw [e] at e'; cases e'
  rw [d] at d'
  injection d' with d1 _
  have : its = its' := by simpa using congrArg Array.toList d1
  subst this
  exact r.inj r'
end
noncomputable abbrev Cx.wish (X : Cx) (E : Value → Shared → Prop) : Cx := { X with xe := E }
noncomputable abbrev Cx.nox (X : Cx) : Cx := X.wish fun _ _ => False
theorem Cx.Ok.wish {X : Cx} (ok : X.Ok) (E : Value → Shared → Prop) : (X.wish E).Ok :=
  ⟨ok.mod, ok.kind, ok.glob, ok.blt, ok.above, ok.inj, ok.has, ok.cab, ok.hd, ok.frames, ok.stk, ok.exf, ok.bs, ok.bsz, ok.noex, ok.exfs, ok.funs, ok.frf⟩
theorem Cx.Ok.unwish {X : Cx} {E : Value → Shared → Prop} (ok : (X.wish E).Ok) : X.Ok :=
  ⟨ok.mod, ok.kind, ok.glob, ok.blt, ok.above, ok.inj, ok.has, ok.cab, ok.hd, ok.frames, ok.stk, ok.exf, ok.bs, ok.bsz, ok.noex, ok.exfs, ok.funs, ok.frf⟩
section
variable {X : Cx} {pins : List (Addr × Obj)} {σ : St} {H : Hp} {s : Shared} {E : Value → Shared → Prop}
theorem Inv.wish (I : Inv X pins σ H s) (E : Value → Shared → Prop) : Inv (X.wish E) pins σ H s := ⟨I.ok.wish E, I.os, I.bare, I.base, I.loc, I.cell, I.free, I.freeC, I.pin, I.hok, I.len⟩
theorem Inv.unwish (I : Inv (X.wish E) pins σ H s) : Inv X pins σ H s := ⟨I.ok.unwish, I.os, I.bare, I.base, I.loc, I.cell, I.free, I.freeC, I.pin, I.hok, I.len⟩
theorem SP.unwish {D : Ends} {f : Flow} {s' : Shared} (h : SP (X.wish E) pins D f s') : SP X pins D f s' := by
  cases f with
  | next => obtain ⟨σ', H', I, q⟩ := h; exact ⟨σ', H', I.unwish, q⟩
  | brk => obtain ⟨σ', H', I, q⟩ := h; exact ⟨σ', H', I.unwish, q⟩
  | cont => obtain ⟨σ', H', I, q⟩ := h; exact ⟨σ', H', I.unwish, q⟩
  | ret u => obtain ⟨v, σ', H', I, r, q⟩ := h; exact ⟨v, σ', H', I.unwish, r, q⟩
theorem PSs.nox {st : List Stmt} {t : TS} (h : PSs X.nox st t) : PSs X st t := fun pins s σ H D I hw =>
  wpAny_mono (h pins s σ H D (I.wish _) hw) (fun _ _ q => q.unwish) fun _ _ z => False.elim z
end
section
variable {X : Cx} {st : Stmt} {rest : List Stmt} {t u : TS} {e : Expr} {te : TE} {pos : Pos}
noncomputable def tNext : TS := fun D σ H => D.nx σ H
noncomputable def tSeq (t u : TS) : TS := fun D σ H => t { D with nx := u D } σ H
theorem pss_nil : PSs X [] tNext := fun _ _ σ H _ I h => wpAny_execs_nil ⟨σ, H, I, h⟩
theorem pss_cons (h1 : PS X st t) (h2 : PSs X rest u) : PSs X (st :: rest) (tSeq t u) := by
  intro pins s σ H D I h
  refine wpAny_execs_cons (thn (h1 pins s σ H { D with nx := u D } I h) fun f s1 q => ?_)
  cases f with
  | next =>
    obtain ⟨σ', H', I', q⟩ := q
    exact h2 pins s1 σ' H' D I' q
  | ret v => exact q
  | brk => exact q
  | cont => exact q
theorem Inv.quiet {pins : List (Addr × Obj)} {σ : St} {H : Hp} {s : Shared} (I : Inv X pins σ H s) : interactive X.env = false := by simp [interactive, I.ok.kind]
noncomputable def tDrop (te : TE) : TS := fun D σ H => te σ H fun _ H1 => D.nx σ H1
theorem ps_expr (he : PE X e te) (hs : swapsWith e none pos.line X.env = pure false := by rfl) : PS X (.Expr e pos) (tDrop te) := by
  intro pins s σ H D I h
  exact wpAny_Expr_any (thn (he pins s σ H _ I h) fun v s1 ⟨x, H1, I1, r1, q1⟩ => ⟨σ, H1, I1, q1⟩) I.quiet hs
noncomputable def tRet (te : TE) : TS := fun D σ H => te σ H D.rt
theorem ps_ret (he : PE X e te) : PS X (.Return (some e) pos) (tRet te) := by
  intro pins s σ H D I h
  exact wpAny_Return_some (thn (he pins s σ H _ I h) fun v s1 ⟨x, H1, I1, r1, q1⟩ => ⟨x, σ, H1, I1, r1, q1⟩)
noncomputable def tIfS (c : TT) (t u : TS) : TS := fun D σ H => c σ H fun b H1 => if b = true then t D σ H1 else u D σ H1
theorem ps_if {c : Expr} {a b : List Stmt} {tc : TT} (hc : PT X c tc) (ha : PSs X a t) (hb : PSs X b u) : PS X (.If c a b pos) (tIfS tc t u) := by
  intro pins s σ H D I h
  refine wpAny_If (thn (hc pins s σ H _ I h) fun d s1 ⟨H1, I1, q1⟩ => ?_)
  cases d with
  | true => exact ha pins s1 σ H1 D I1 q1
  | false => exact hb pins s1 σ H1 D I1 q1
end
noncomputable abbrev TG := V → St → Hp → (St → Hp → Prop) → Prop
noncomputable abbrev TGs := List V → St → Hp → (St → Hp → Prop) → Prop
noncomputable def PG (X : Cx) (target : Expr) (t : TG) : Prop :=
  ∀ (pins : List (Addr × Obj)) (s : Shared) (σ : St) (H : Hp) (v : V) (u : Value) (Q : St → Hp → Prop), Inv X pins σ H s → RelV v u → t v σ H Q →
    wpAny (model X.prog X.w) X.A (assign target X.env u) (fun _ s' => ∃ σ' H', Inv X pins σ' H' s' ∧ Q σ' H') X.xe s
noncomputable def PGs (X : Cx) (ts : List Expr) (t : TGs) : Prop :=
  ∀ (pins : List (Addr × Obj)) (s : Shared) (σ : St) (H : Hp) (vs : List V) (us : List Value) (Q : St → Hp → Prop), Inv X pins σ H s → Vals vs us → t vs σ H Q →
    wpAny (model X.prog X.w) X.A (assignInOrder ((assignEach ts X.env).map (·.2)) us) (fun _ s' => ∃ σ' H', Inv X pins σ' H' s' ∧ Q σ' H') X.xe s
noncomputable abbrev TSet := V → V → V → Hp → (Hp → Prop) → Prop
noncomputable def PSet (X : Cx) (t : TSet) : Prop :=
  ∀ (pins : List (Addr × Obj)) (s : Shared) (σ : St) (H : Hp) (o i v : V) (ov iv u : Value) (Q : Hp → Prop), Inv X pins σ H s → RelV o ov → RelV i iv → RelV v u → t o i v H Q →
    wpAny (model X.prog X.w) X.A (setItem ov iv u) (fun _ s' => ∃ H', Inv X pins σ H' s' ∧ Q H') X.xe s
section
variable {X : Cx} {pos : Pos}
noncomputable def gName (i : Nat) : TG := fun v σ H Q => Q (σ.set i (some v)) H
theorem pg_name {i : Nat} {x : Str} (hN : X.N.Nodup) (hi : X.N[i]? = some x) (hx : Loc X.env.scope x) (hf : X.fn x = true ∨ X.env.scope.names.lookup x = some .local := by first | exact .inl rfl | exact .inr rfl | assumption) : PG X (.Name x pos) (gName i) := by
  intro pins s σ H v u Q I r h
  exact wpAny_assign_Name (store_ok I hN hi hx r (fun s' I' => ⟨_, H, I', h⟩) hf)
noncomputable def gNil : TGs := fun vs σ H Q => vs = [] ∧ Q σ H
noncomputable def gCons (t : TG) (u : TGs) : TGs := fun vs σ H Q => ∃ v r, vs = v :: r ∧ t v σ H fun σ' H' => u r σ' H' Q
theorem pgs_nil : PGs X [] gNil := by
  intro pins s σ H vs us Q I r h
  obtain ⟨e, h⟩ := h
  subst e
  cases r
  exact assignInOrder_nil ⟨σ, H, I, h⟩
theorem pgs_cons {e : Expr} {es : List Expr} {t : TG} {u : TGs} (h1 : PG X e t) (h2 : PGs X es u)
    (hs : (assignEach (e :: es) X.env).map (·.2) = assign e X.env :: (assignEach es X.env).map (·.2) := by rfl) : PGs X (e :: es) (gCons t u) := by
  intro pins s σ H vs us Q I r h
  obtain ⟨v, vr, e1, h⟩ := h
  subst e1
  cases r with
  | cons r rr =>
    rw [hs]
    refine assignInOrder_cons (thn (h1 pins s σ H _ _ _ I r h) fun _ s1 ⟨σ1, H1, I1, q1⟩ => ?_)
    exact h2 pins s1 σ1 H1 _ _ Q I1 rr q1
noncomputable def gTup (K : PySem.W.Frag) (n : Nat) (t : TGs) : TG := fun v σ H Q => ∃ a xs, v = .ref a ∧ SqT K H a xs ∧ xs.length = n ∧ t xs σ H Q
theorem pg_tup {es : List Expr} {k : Nat} {t : TGs} {n : Nat} (hc : X.calm = true) (h : PGs X es t)
    (hn : (assignEach es X.env).length = n := by rfl) (hst : (assignEach es X.env).findIdx? (·.1) = none := by rfl) : PG X (.Tuple es k pos) (gTup X.K n t) := by
  intro pins s σ H v u Q I r hw
  obtain ⟨a, xs, e1, hq, hl, hw⟩ := hw
  subst e1
  cases r
  obtain ⟨its, rv, ht, hz⟩ := I.tuple hq
  refine assign_Tuple_tuple (I.ok.hd hc) ht (by simp [hn, ← hl, rv.length]) hst fun h' hx => ?_
  have I1 : Inv X pins σ H { s with heap := h' } := I.kept (t' := s.toks) fun b o e => hx b o (Nat.ne_of_lt (Heap.lt_size e)) e
  exact h pins _ σ H xs _ Q I1 (by simpa using rv) hw
noncomputable def gSub (to ti : TE) (t : TSet) : TG := fun v σ H Q => to σ H fun o H1 => ti σ H1 fun i H2 => t o i v H2 fun H3 => Q σ H3
theorem pg_sub {o i : Expr} {to ti : TE} {t : TSet} (ho : PE X o to) (hi : PE X i ti) (hs : PSet X t)
    (ha : ∀ v, assign (.Subscript o i pos) X.env v = (do
      let ov ← holding [v] (eval o X.env)
      let iv ← holding [v, ov] (eval i X.env)
      standAt pos
      holding [v, ov, iv] (setItem ov iv v)
      release [v, ov, iv] []) := by intro _; rfl) : PG X (.Subscript o i pos) (gSub to ti t) := by
  intro pins s σ H v u Q I r h
  rw [ha]
  refine wpAny_bind (wpAny_holding (thn (ho pins s σ H _ I h) fun ov s1 ⟨x, H1, I1, r1, q1⟩ => ?_))
  refine wpAny_bind (wpAny_holding (thn (hi pins s1 σ H1 _ I1 q1) fun iv s2 ⟨y, H2, I2, r2, q2⟩ => ?_))
  refine wpAny_bind (wpAny_standAt (wpAny_bind (wpAny_holding (thn (hs pins s2 σ H2 x y v ov iv u _ I2 r1 r2 r q2) fun _ s3 ⟨H3, I3, q3⟩ => ?_))))
  exact wpAny_release ⟨σ, H3, I3, q3⟩
noncomputable def tAsg (te : TE) (g : TG) : TS := fun D σ H => te σ H fun x H1 => g x σ H1 D.nx
theorem ps_asg {tg e : Expr} {te : TE} {g : TG} (he : PE X e te) (hg : PG X tg g) (hs : swapsWithSole [tg] e pos.line X.env = pure false := by rfl) (hw : swappedStores [tg] e X.env = pure none := by rfl)
    (h1 : (assignEach [tg] X.env).map (·.2) = [assign tg X.env] := by rfl) : PS X (.Assign [tg] e pos) (tAsg te g) := by
  intro pins s σ H D I h
  refine wpAny_Assign_stores (thn (he pins s σ H _ I h) fun v s1 ⟨x, H1, I1, r1, q1⟩ => ?_) hs hw
  rw [h1]
  exact thn (hg pins s1 σ H1 x v _ I1 r1 q1) fun _ s2 q => q
theorem ps_set {i : Nat} {x : Str} {e : Expr} {te : TE} {pos' : Pos} (hN : X.N.Nodup) (hi : X.N[i]? = some x) (hx : Loc X.env.scope x) (he : PE X e te) (hs : swapsWith e (some (.Name x pos')) pos.line X.env = pure false := by rfl) (hf : X.fn x = true ∨ X.env.scope.names.lookup x = some .local := by first | exact .inl rfl | exact .inr rfl | assumption) :
    PS X (.Assign [.Name x pos'] e pos) (tAsg te (gName i)) := by
  intro pins s σ H D I h
  refine wpAny_Assign_Name (thn (he pins s σ H _ I h) fun v s1 ⟨y, H1, I1, r1, q1⟩ => ?_) hs
  exact store_ok I1 hN hi hx r1 (fun s2 I2 => ⟨_, H1, I2, q1⟩) hf
end
section
variable {X : Cx} {pos : Pos}
end
structure It where
  go : Nat → Hp → Prop
  yld : Nat → Hp → V → Hp → Prop
  stop : Nat → Hp → Prop
noncomputable def FpOk (X : Cx) (pins : List (Addr × Obj)) (H : Hp) (b : Addr) : Prop :=
  H b = none ∧ b ≠ X.env.locals ∧ b ∉ X.fs ∧ (b ∈ X.ex ∨ X.s₀.heap.objs.size ≤ b) ∧ (∀ x c, X.env.cells.lookup x = some c → c ≠ b) ∧ ∀ p ∈ X.pn ++ pins, p.1 ≠ b
theorem Inv.fpOk {X : Cx} {pins : List (Addr × Obj)} {σ : St} {H H' : Hp} {s : Shared} {b : Addr} (I : Inv X pins σ H s) (hb : s.heap.objs.size ≤ b) (hn : H' b = none) : FpOk X pins H' b := by
  refine ⟨hn, Nat.ne_of_gt (Nat.lt_of_lt_of_le I.lt hb), I.nofs hb, .inr (Nat.le_trans I.sz hb), fun x c e z => ?_, fun p hp z => ?_⟩
  · obtain ⟨v, q⟩ := I.cell x c e
    exact absurd (Nat.lt_of_lt_of_le q.lt (by rw [z]; exact hb)) (Nat.lt_irrefl _)
  · exact absurd (Nat.lt_of_lt_of_le (Heap.lt_size (I.pin p hp).1) (by rw [z]; exact hb)) (Nat.lt_irrefl _)
structure Turn (P : Program) (w : World) (K : PySem.W.Frag) (tg : Expr) (J : It) (fp : List Addr) (it : Addr) (tn : Nat → Heap → Prop) : Prop where
  mem : it ∈ fp
  obj : ∀ i h, tn i h → ∀ b ∈ fp, ∃ o, h.get? b = some o ∧ ∀ v, o.data ≠ .cell v
  keep : ∀ i h h', tn i h → (∀ b ∈ fp, ∀ o, h.get? b = some o → h'.get? b = some o) → tn i h'
  item : ∀ (X : Cx), X.prog = P → X.w = w → X.K = K → X.calm = true → ∀ (i : Nat) (pins : List (Addr × Obj)) (s : Shared) (σ : St) (H : Hp) (E : Value → Shared → Prop), Inv X pins σ H s → (∀ b ∈ fp, FpOk X pins H b) → tn i s.heap → J.go i H →
    wpAny (model P w) X.A (pyNext (.ref it)) (fun r s1 => ∃ u, r = some u ∧
      wpAny (model P w) X.A (letOwnedTupleGo tg (.ref it) u) (fun _ s2 => ∃ x H', Inv X pins σ H' s2 ∧ RelV x u ∧ J.yld i H x H' ∧ tn (i + 1) s2.heap ∧ ∀ b ∈ fp, H' b = none) E s1) E s
  done : ∀ (X : Cx), X.prog = P → X.w = w → X.K = K → X.calm = true → ∀ (i : Nat) (pins : List (Addr × Obj)) (s : Shared) (σ : St) (H : Hp) (E : Value → Shared → Prop), Inv X pins σ H s → (∀ b ∈ fp, FpOk X pins H b) → tn i s.heap → J.stop i H →
    wpAny (model P w) X.A (pyNext (.ref it)) (fun r s1 => r = none ∧ Inv X pins σ H s1) E s
  self : ∀ (A : Around) (i : Nat) (s : Shared) (Q : Value → Shared → Prop) (E : Value → Shared → Prop), tn i s.heap → Q (.ref it) s → wpAny (model P w) A (pyIter (.ref it)) Q E s
noncomputable abbrev TI := St → Hp → (It → Hp → Prop) → Prop
noncomputable def PIE (X : Cx) (pins : List (Addr × Obj)) (σ : St) (tg : Expr) (R : It → Hp → Prop) (itv : Value) (s2 : Shared) : Prop :=
  ∃ (it : Addr) (fp : List Addr) (tn : Nat → Heap → Prop) (J : It) (H' : Hp), itv = .ref it ∧ Inv X pins σ H' s2 ∧ Turn X.prog X.w X.K tg J fp it tn ∧ tn 0 s2.heap ∧ (∀ b ∈ fp, FpOk X pins H' b) ∧ R J H'
noncomputable def PI (X : Cx) (tg iter : Expr) (wi : TI) : Prop :=
  ∀ (pins : List (Addr × Obj)) (s : Shared) (σ : St) (H : Hp) (R : It → Hp → Prop), Inv X pins σ H s → wi σ H R →
    wpAny (model X.prog X.w) X.A (eval iter X.env) (fun v s1 => wpAny (model X.prog X.w) X.A (pyIter v) (PIE X pins σ tg R) X.xe s1) X.xe s
theorem go_of {M : Model} {A : Around} {E : Value → Shared → Prop} {s : Shared} {tg : Expr} {it : Addr} {u : Value} {o : Obj} {n : String} {vs : Array Value} {Q : Unit → Shared → Prop} (ho : s.heap.get? it = some o) (hc : o.cls = .type n) (hd : o.data = .fields vs)
    (hn : ["enumerate", "zip", "dict_itemiterator", "dict_reverseitemiterator", "odict_iterator", "itertools.zip_longest", "itertools.pairwise"].contains n = false) (hQ : Q () s) : wpAny M A (letOwnedTupleGo tg (.ref it) u) Q E s := by
  unfold letOwnedTupleGo
  cases tg <;> first
    | exact wpAny_pure hQ
    | (cases u <;> first
        | exact wpAny_pure hQ
        | (refine wpAny_bind (wpAny_load ho ?_)
           rw [hc, hd]
           show wpAny M A (if (["enumerate", "zip", "dict_itemiterator", "dict_reverseitemiterator", "odict_iterator", "itertools.zip_longest", "itertools.pairwise"].contains n && vs[0]? == some (rawInt _)) = true then _ else _) Q E s
           rw [if_neg (by intro h; rw [hn, Bool.false_and] at h; cases h)]
           exact wpAny_pure hQ))
noncomputable def Itl (K : PySem.W.Frag) (a : Addr) : It :=
  ⟨fun i H => ∃ xs x, SqL K H a xs ∧ xs[i]? = some x, fun i H x H' => H' = H ∧ ∀ xs, SqL K H a xs → xs[i]? = some x, fun i H => ∃ xs, SqL K H a xs ∧ xs.length ≤ i⟩
noncomputable def Itt (K : PySem.W.Frag) (a : Addr) : It :=
  ⟨fun i H => ∃ xs x, SqT K H a xs ∧ xs[i]? = some x, fun i H x H' => H' = H ∧ ∀ xs, SqT K H a xs → xs[i]? = some x, fun i H => ∃ xs, SqT K H a xs ∧ xs.length ≤ i⟩
noncomputable def Itr (lo : Int) (n : Nat) : It := ⟨fun i _ => i < n, fun i H x H' => H' = H ∧ x = .int (lo + i), fun i _ => n ≤ i⟩
theorem turn_list {P : Program} {w : World} {K : PySem.W.Frag} {tg : Expr} (a it : Addr) : Turn P w K tg (Itl K a) [it] it (fun i h => h.IsListIter it a i) where
  mem := by simp
  obj := fun i h st b hb => by
    have e : b = it := by simpa using hb
    subst e
    obtain ⟨o, e, c, d⟩ := st
    exact ⟨o, e, fun v z => by rw [d] at z; cases z⟩
  keep := fun i h h' st k => st.at fun o e => k it (by simp) o e
  item := by
    intro X hP hw hK hc i pins s σ H E I hf st hg
    subst hP hw hK
    obtain ⟨xs, x, hq, hx⟩ := hg
    obtain ⟨its, rv, p, hz⟩ := I.list hq
    obtain ⟨u, hu, ru⟩ := rv.get hx
    obtain ⟨f0, f1, f2, f3, f4, f5⟩ := hf it (by simp)
    refine wpAny_pyNext_list_item st p.isList (x := u) (by simpa using hu) fun h' st' sb => ?_
    have I1 : Inv X pins σ H { s with heap := h' } := I.turned (t' := s.toks) (fun b o hb e => (sb.2 b hb).trans e) f0 f1 f3 f4 f5
    obtain ⟨o, e, c, d⟩ := id st'
    exact ⟨u, rfl, go_of (s := { s with heap := h' }) e c d (by decide) ⟨x, H, I1, ru, ⟨rfl, fun ys hy => by rw [I.list_inj hy hq]; exact hx⟩, st', fun b hb => (hf b hb).1⟩⟩
  done := by
    intro X hP hw hK hc i pins s σ H E I hf st hg
    subst hP hw hK
    obtain ⟨xs, hq, hx⟩ := hg
    obtain ⟨its, rv, p, hz⟩ := I.list hq
    obtain ⟨f0, f1, f2, f3, f4, f5⟩ := hf it (by simp)
    have hl := rv.length
    exact wpAny_pyNext_list_end (I.ok.hd hc) st p.isList (by simp; omega) fun h' eb => ⟨rfl, I.turned (t' := s.toks) (fun b o hb e => eb b o hb e) f0 f1 f3 f4 f5⟩
  self := fun _ _ _ _ _ st h => wpAny_pyIter_listiter st h
theorem turn_tuple {P : Program} {w : World} {K : PySem.W.Frag} {tg : Expr} (a it : Addr) : Turn P w K tg (Itt K a) [it] it (fun i h => h.IsTupleIter it a i) where
  mem := by simp
  obj := fun i h st b hb => by
    have e : b = it := by simpa using hb
    subst e
    obtain ⟨o, e, c, d⟩ := st
    exact ⟨o, e, fun v z => by rw [d] at z; cases z⟩
  keep := fun i h h' st k => st.at fun o e => k it (by simp) o e
  item := by
    intro X hP hw hK hc i pins s σ H E I hf st hg
    subst hP hw hK
    obtain ⟨xs, x, hq, hx⟩ := hg
    obtain ⟨its, rv, p, hz⟩ := I.tuple hq
    obtain ⟨u, hu, ru⟩ := rv.get hx
    obtain ⟨f0, f1, f2, f3, f4, f5⟩ := hf it (by simp)
    refine wpAny_pyNext_tuple_item st (show s.heap.IsTuple a its.toArray from p) (x := u) (by simpa using hu) fun h' st' sb => ?_
    have I1 : Inv X pins σ H { s with heap := h' } := I.turned (t' := s.toks) (fun b o hb e => (sb.2 b hb).trans e) f0 f1 f3 f4 f5
    obtain ⟨o, e, c, d⟩ := id st'
    exact ⟨u, rfl, go_of (s := { s with heap := h' }) e c d (by decide) ⟨x, H, I1, ru, ⟨rfl, fun ys hy => by rw [I.tuple_inj hy hq]; exact hx⟩, st', fun b hb => (hf b hb).1⟩⟩
  done := by
    intro X hP hw hK hc i pins s σ H E I hf st hg
    subst hP hw hK
    obtain ⟨xs, hq, hx⟩ := hg
    obtain ⟨its, rv, p, hz⟩ := I.tuple hq
    obtain ⟨f0, f1, f2, f3, f4, f5⟩ := hf it (by simp)
    have hl := rv.length
    exact wpAny_pyNext_tuple_end (I.ok.hd hc) st (show s.heap.IsTuple a its.toArray from p) (by simp; omega) fun h' eb => ⟨rfl, I.turned (t' := s.toks) (fun b o hb e => eb b o hb e) f0 f1 f3 f4 f5⟩
  self := fun _ _ _ _ _ st h => wpAny_pyIter_tupleiter st h
theorem turn_range {P : Program} {w : World} {K : PySem.W.Frag} {tg : Expr} (it : Addr) (lo : Int) (n : Nat) : Turn P w K tg (Itr lo n) [it] it (fun i h => IsRangeIter h it (lo + (i : Nat) * 1) ((n : Int) - (i : Nat)) 1) where
  mem := by simp
  obj := fun i h st b hb => by
    have e : b = it := by simpa using hb
    subst e
    exact ⟨_, st, fun v z => by
      have z' : Data.fields _ = Data.cell v := z
      cases z'⟩
  keep := fun i h h' st k => k it (by simp) _ st
  item := by
    intro X hP hw hK hc i pins s σ H E I hf st hg
    subst hP hw hK
    obtain ⟨f0, f1, f2, f3, f4, f5⟩ := hf it (by simp)
    have W := Walks.range (prog := X.prog) (w := X.w) (I.ok.hd hc) it lo 1 n
    refine W.item i s _ _ hg st fun v h' tk hv st' kk => ?_
    obtain ⟨t, rfl⟩ := hv
    have I1 : Inv X pins σ H { s with heap := h', toks := tk } := I.turned (fun b o hb e => kk b o (by simpa using hb) e) f0 f1 f3 f4 f5
    refine ⟨_, rfl, go_of (s := { s with heap := h', toks := tk }) (n := "range_iterator") st' rfl rfl (by decide) ⟨.int (lo + i), H, I1, ⟨t, ?_⟩, ⟨rfl, rfl⟩, st', fun b hb => (hf b hb).1⟩⟩
    rw [Int.mul_one]
  done := by
    intro X hP hw hK hc i pins s σ H E I hf st hg
    subst hP hw hK
    obtain ⟨f0, f1, f2, f3, f4, f5⟩ := hf it (by simp)
    exact wpAny_pyNext_range_end (I.ok.hd hc) st (by have : n ≤ i := hg; omega) fun h' eb => ⟨rfl, I.turned (t' := s.toks) (fun b o hb e => eb b o hb e) f0 f1 f3 f4 f5⟩
  self := fun _ _ _ _ _ st h => wpAny_pyIter_rangeiter st h
end L2
namespace L2
open PySem PySem.Spec PyProof.Rows
section
variable {X : Cx} {tg : Expr}
theorem range_it {pins : List (Addr × Obj)} {σ : St} {H : Hp} {s : Shared} {R : It → Hp → Prop} {E : Value → Shared → Prop} {lo hi : Int} {t u v : Tok} {tk : Nat} (I : Inv X pins σ H s) (h1 : -(2 ^ 62) ≤ lo) (h2 : lo < 2 ^ 62) (h3 : -(2 ^ 62) ≤ hi) (h4 : hi < 2 ^ 62)
    (q : R (Itr lo (hi - lo).toNat) H) : wpAny (model X.prog X.w) X.A (pyIter (.ref s.heap.objs.size)) (PIE X pins σ tg R) E { s with heap := s.heap.push { cls := .type "range", data := .fields #[.int lo t, .int hi u, .int 1 v] }, toks := tk } := by
  refine wpAny_pyIter_range (IsRange.new ..) (small_one h1 h2 h3 h4) ?_
  have I1 : Inv X pins σ H { s with heap := s.heap.push { cls := .type "range", data := .fields #[.int lo t, .int hi u, .int 1 v] }, toks := tk } := I.kept fun b o e => Heap.get?_push_of_some _ e
  refine ⟨(s.heap.push { cls := .type "range", data := .fields #[.int lo t, .int hi u, .int 1 v] }).objs.size, [(s.heap.push { cls := .type "range", data := .fields #[.int lo t, .int hi u, .int 1 v] }).objs.size], _, _, H, rfl,
    I1.kept (t' := tk) fun b o e => Heap.get?_push_of_some _ e, turn_range _ lo (hi - lo).toNat, ?_, fun b hb => ?_, q⟩
  · have e1 : lo + ((0 : Nat) : Int) * 1 = lo := by simp
    have e2 : (((hi - lo).toNat : Nat) : Int) - ((0 : Nat) : Int) = Builtin.Range.rangeSize lo hi 1 := by rw [rangeSize_one]; split <;> omega
    show IsRangeIter _ _ (lo + ((0 : Nat) : Int) * 1) ((((hi - lo).toNat : Nat) : Int) - ((0 : Nat) : Int)) 1
    rw [e1, e2]
    exact Heap.get?_push_size _ rfl
  · have e : b = (s.heap.push { cls := .type "range", data := .fields #[.int lo t, .int hi u, .int 1 v] }).objs.size := by simpa using hb
    subst e
    exact I1.fpOk (Nat.le_refl _) (I1.hok.fresh (Nat.le_refl _))
noncomputable def iRng1 (ta : TA) : TI := fun σ H R => ta σ H fun vs H1 => ∃ j : Int, vs = [.int j] ∧ -(2 ^ 62) ≤ j ∧ j < 2 ^ 62 ∧ R (Itr 0 j.toNat) H1
noncomputable def iRng2 (ta : TA) : TI := fun σ H R => ta σ H fun vs H1 => ∃ i j : Int, vs = [.int i, .int j] ∧ (-(2 ^ 62) ≤ i ∧ i < 2 ^ 62 ∧ -(2 ^ 62) ≤ j ∧ j < 2 ^ 62) ∧ R (Itr i (j - i).toNat) H1
theorem pi_range1 {a : Expr} {ta : TA} {p pos : Pos} (hg : Gl X "range") (hm : X.mg "range" = none) (ha : PA X [a] ta) (hs : starEach [a] X.env = [(false, eval a X.env)] := by rfl) : PI X tg (.Call (.Name "range" p) [a] [] pos) (iRng1 ta) := by
  intro pins s σ H R I h
  refine Call_ (ld_blt I hg hm boot_range (PyProof.Rows.callWith_type1 (thn (ha pos pins s σ H _ I h) fun us s1 ⟨vs, H1, I1, r1, q1⟩ => ?_) hs rfl))
  obtain ⟨j, e, q1, q2, q⟩ := q1
  subst e
  cases r1 with
  | cons r rr =>
    cases rr
    obtain ⟨t, rfl⟩ := r
    exact call_range_1 (range_it I1 (by omega) (by omega) q1 q2 (by simpa using q))
theorem pi_range2 {a b : Expr} {ta : TA} {p pos : Pos} (hg : Gl X "range") (hm : X.mg "range" = none) (ha : PA X [a, b] ta) (hs : starEach [a, b] X.env = [(false, eval a X.env), (false, eval b X.env)] := by rfl) (hs2 : starEach [b] X.env = [(false, eval b X.env)] := by rfl) :
    PI X tg (.Call (.Name "range" p) [a, b] [] pos) (iRng2 ta) := by
  intro pins s σ H R I h
  refine Call_ (ld_blt I hg hm boot_range (PyProof.Rows.callWith_type1 (thn (ha pos pins s σ H _ I h) fun us s1 ⟨vs, H1, I1, r1, q1⟩ => ?_) (by rw [hs, hs2]) (by rw [hs2]; rfl)))
  obtain ⟨i, j, e, ⟨q1, q2, q3, q4⟩, q⟩ := q1
  subst e
  cases r1 with
  | cons r rr =>
    cases rr with
    | cons r' rr =>
      cases rr
      obtain ⟨t, rfl⟩ := r
      obtain ⟨t', rfl⟩ := r'
      exact call_range_2 (range_it I1 q1 q2 q3 q4 q)
noncomputable def tFor (wi : TI) (g : TG) (tb : TS) : TS := fun D σ H => wi σ H fun J H1 => ∃ W : Nat → Nat → St → Hp → Prop, (∃ m, W 0 m σ H1) ∧ ∀ i m σ H, W i m σ H →
  (J.stop i H ∧ D.nx σ H) ∨ (J.go i H ∧ ∃ N : St → Hp → Prop, (∀ σ' H', N σ' H' → ∃ m', m' < m ∧ W (i + 1) m' σ' H') ∧ ∀ x H', J.yld i H x H' → g x σ H' fun σ2 H2 => tb { D with nx := N, ct := N, bk := D.nx } σ2 H2)
noncomputable def pinsAt (fp : List Addr) (h : Heap) : List (Addr × Obj) := fp.filterMap fun b => (h.get? b).map fun o => (b, o)
theorem mem_pinsAt {fp : List Addr} {h : Heap} {b : Addr} {o : Obj} (hb : b ∈ fp) (e : h.get? b = some o) : (b, o) ∈ pinsAt fp h := List.mem_filterMap.mpr ⟨b, hb, by rw [e]; rfl⟩
theorem of_pinsAt {fp : List Addr} {h : Heap} {p : Addr × Obj} (hp : p ∈ pinsAt fp h) : p.1 ∈ fp ∧ h.get? p.1 = some p.2 := by
  obtain ⟨b, hb, e⟩ := List.mem_filterMap.mp hp
  cases q : h.get? b with
  | none => rw [q] at e; cases e
  | some o =>
    rw [q] at e
    have e' : (b, o) = p := Option.some.inj e
    subst e'
    exact ⟨hb, q⟩
theorem Inv.pinned {pins : List (Addr × Obj)} {σ : St} {H : Hp} {s : Shared} {fp : List Addr} (I : Inv X pins σ H s) (hf : ∀ b ∈ fp, FpOk X pins H b) (ho : ∀ b ∈ fp, ∃ o, s.heap.get? b = some o ∧ ∀ v, o.data ≠ .cell v) : Inv X (pins ++ pinsAt fp s.heap) σ H s :=
  I.pins_of fun p hp => (List.mem_append.mp hp).elim (fun z => I.pin p (List.mem_append_right _ z)) fun z => by
    obtain ⟨hb, e⟩ := of_pinsAt z
    obtain ⟨f0, f1, f2, _⟩ := hf p.1 hb
    obtain ⟨o, e', d⟩ := ho p.1 hb
    rw [e] at e'; cases e'
    exact ⟨e, f0, f1, f2, d⟩
theorem Inv.unpinned {pins pl : List (Addr × Obj)} {σ : St} {H : Hp} {s : Shared} (I : Inv X (pins ++ pl) σ H s) : Inv X pins σ H s := I.pins_of fun p hp => I.pin p (List.mem_append_right _ (List.mem_append_left _ hp))
theorem ps_for {iter : Expr} {body : List Stmt} {wi : TI} {g : TG} {tb : TS} {pos : Pos} (hp : PassesOwn (model X.prog X.w) X.A X.env X.xe) (hc : X.calm = true) (hi : PI X tg iter wi) (hg : PG X tg g) (hb : PSs X body tb)
    (hs : ∀ x, foldedSetIterable iter X.env x = pure x := by intro _; rfl) : PS X (.For tg iter body [] pos) (tFor wi g tb) := by
  intro pins s σ H D I h
  refine wpAny_For (thn (hi pins s σ H _ I h) fun v s1 h1 => thn h1 fun itv s2 h2 => ?_) hs
  obtain ⟨it, fp, tn, J, H2, e, I2, T, st2, f2, W, ⟨m0, w0⟩, turn⟩ := h2
  subst e
  -- what stays true of the iterator's objects through the loop
  have stat : ∀ {H' : Hp}, (∀ b ∈ fp, H' b = none) → ∀ b ∈ fp, FpOk X pins H' b := fun hn b hb => ⟨hn b hb, (f2 b hb).2⟩
  refine codeAny_forLoop_any (fun n s' => ∃ i σ' H', Inv X pins σ' H' s' ∧ tn i s'.heap ∧ (∀ b ∈ fp, H' b = none) ∧ W i n σ' H') ?_ m0 ⟨0, σ, H2, I2, st2, fun b hb => (f2 b hb).1, w0⟩
  rintro n s3 ⟨i, σ3, H3, I3, st3, fr3, w3⟩
  rcases turn i n σ3 H3 w3 with ⟨stop, qn⟩ | ⟨go, N, hN, step⟩
  · refine wpAny_passesOwn hp (thn (T.done X rfl rfl rfl hc i pins s3 σ3 H3 X.xe I3 (stat fr3) st3 stop) fun r s4 ⟨hr, I4⟩ => ?_)
    subst hr
    exact wpAny_execs_nil ⟨σ3, H3, I4, qn⟩
  · refine wpAny_passesOwn hp (thn (T.item X rfl rfl rfl hc i pins s3 σ3 H3 X.xe I3 (stat fr3) st3 go) fun r s4 ⟨u, hr, h4⟩ => ?_)
    subst hr
    refine wpAny_passesOwn hp (thn h4 fun _ s5 ⟨x, H5, I5, r5, y5, st5, fr5⟩ => ?_)
    have I5' := I5.pinned (stat fr5) (T.obj _ _ st5)
    refine wpAny_passesOwn hp (thn (hg _ s5 σ3 H5 x u _ I5' r5 (step x H5 y5)) fun _ s6 ⟨σ6, H6, I6, q6⟩ => ?_)
    refine wpAny_passesOwn hp (thn (hb _ s6 σ6 H6 _ I6 q6) fun f s7 q7 => ?_)
    have again : ∀ {σ7 : St} {H7 : Hp}, Inv X (pins ++ pinsAt fp s5.heap) σ7 H7 s7 → N σ7 H7 → ∃ m, m < n ∧ ∃ i σ' H', Inv X pins σ' H' s7 ∧ tn i s7.heap ∧ (∀ b ∈ fp, H' b = none) ∧ W i m σ' H' := fun {σ7 H7} I7 n7 => by
      obtain ⟨m', hm, w7⟩ := hN σ7 H7 n7
      refine ⟨m', hm, i + 1, σ7, H7, I7.unpinned, T.keep _ _ _ st5 fun b hb o e => (I7.pin (b, o) (List.mem_append_right _ (List.mem_append_right _ (mem_pinsAt hb e)))).1, fun b hb => ?_, w7⟩
      obtain ⟨o, e, d⟩ := T.obj _ _ st5 b hb
      exact (I7.pin (b, o) (List.mem_append_right _ (List.mem_append_right _ (mem_pinsAt hb e)))).2.1
    cases f with
    | next => obtain ⟨σ7, H7, I7, n7⟩ := q7; exact again I7 n7
    | cont => obtain ⟨σ7, H7, I7, n7⟩ := q7; exact again I7 n7
    | brk => obtain ⟨σ7, H7, I7, q7⟩ := q7; exact ⟨σ7, H7, I7.unpinned, q7⟩
    | ret v => obtain ⟨x7, σ7, H7, I7, r7, q7⟩ := q7; exact ⟨x7, σ7, H7, I7.unpinned, r7, q7⟩
end
end L2
namespace L2
open PySem PySem.Spec PyProof.Rows
noncomputable abbrev R2 := V → V → Hp → VK → Prop
noncomputable def OpR (X : Cx) (f : Value → Value → Sem Value) (r : R2) : Prop :=
  ∀ (pins : List (Addr × Obj)) (s : Shared) (σ : St) (H : Hp) (x y : V) (v u : Value) (Q : VK), Inv X pins σ H s → RelV x v → RelV y u → r x y H Q →
    wpAny (model X.prog X.w) X.A (f v u) (EP X pins σ Q) X.xe s
noncomputable def CallR (X : Cx) (f : Value) (r : List V → Hp → VK → Prop) : Prop :=
  ∀ (pins : List (Addr × Obj)) (s : Shared) (σ : St) (H : Hp) (xs : List V) (us : List Value) (Q : VK), Inv X pins σ H s → Vals xs us → r xs H Q →
    wpAny (model X.prog X.w) X.A (call f us) (EP X pins σ Q) X.xe s
noncomputable def TruR (X : Cx) (r : V → Hp → (Bool → Hp → Prop) → Prop) : Prop :=
  ∀ (pins : List (Addr × Obj)) (s : Shared) (σ : St) (H : Hp) (x : V) (v : Value) (Q : Bool → Hp → Prop), Inv X pins σ H s → RelV x v → r x H Q →
    wpAny (model X.prog X.w) X.A (truthy v) (TP X pins σ Q) X.xe s
noncomputable def tOp (r : R2) (ta tb : TE) : TE := fun σ H Q => ta σ H fun x H1 => tb σ H1 fun y H2 => r x y H2 Q
noncomputable def rI (C : Int → Int → Prop) (g : Int → Int → V) : R2 := fun x y H Q => ∃ i j, x = .int i ∧ y = .int j ∧ C i j ∧ Q (g i j) H
noncomputable def rI0 (g : Int → Int → V) : R2 := fun x y H Q => ∃ i j, x = .int i ∧ y = .int j ∧ Q (g i j) H
section
variable {X : Cx} {a b c : Expr} {ta tb tc : TE} {pos : Pos}
theorem binT (ha : PE X a ta) (hb : PE X b tb) {pins : List (Addr × Obj)} {s : Shared} {σ : St} {H : Hp} {R : V → V → Hp → Prop} (I : Inv X pins σ H s)
    (h : ta σ H fun x H1 => tb σ H1 fun y H2 => R x y H2) {Q : Value → Shared → Prop} {f : Value → Value → Sem Value}
    (hf : ∀ v u s2 x y H2, Inv X pins σ H2 s2 → RelV x v → RelV y u → R x y H2 → wpAny (model X.prog X.w) X.A (f v u) Q X.xe s2) :
    wpAny (model X.prog X.w) X.A (eval a X.env) (fun v s₁ => wpAny (model X.prog X.w) X.A (eval b X.env) (fun u s₂ => wpAny (model X.prog X.w) X.A (f v u) Q X.xe s₂) X.xe s₁) X.xe s := by
  refine thn (ha pins s σ H _ I h) fun v s1 ⟨x, H1, I1, r1, q1⟩ => ?_
  refine thn (hb pins s1 σ H1 _ I1 q1) fun u s2 ⟨y, H2, I2, r2, q2⟩ => ?_
  exact hf v u s2 x y H2 I2 r1 r2 q2
theorem pe_op {op : Operator} {r : R2} (ho : OpR X (binaryOp op) r) (ha : PE X a ta) (hb : PE X b tb) : PE X (.BinOp a op b pos) (tOp r ta tb) := by
  intro pins s σ H Q I h
  exact wpAny_BinOp (binT ha hb I h fun v u s2 x y H2 I2 rx ry q => ho pins s2 σ H2 x y v u Q I2 rx ry q)
theorem opI {f : Value → Value → Sem Value} {C : Int → Int → Prop} {g : Int → Int → Int}
    (rule : ∀ (i j : Int) (t u : Tok) (s : Shared) (Q : Value → Shared → Prop) (E : Value → Shared → Prop), C i j → Q (.int (g i j) s.toks) { s with toks := s.toks + 1 } → wpAny (model X.prog X.w) X.A (f (.int i t) (.int j u)) Q E s) :
    OpR X f (rI C fun i j => .int (g i j)) := by
  intro pins s σ H x y v u Q I rx ry h
  obtain ⟨i, j, rfl, rfl, hc, q⟩ := h
  obtain ⟨t, rfl⟩ := rx
  obtain ⟨t', rfl⟩ := ry
  exact rule i j t t' s _ _ hc ⟨.int (g i j), H, I.tok _, ⟨_, rfl⟩, q⟩
theorem opI0 {f : Value → Value → Sem Value} {g : Int → Int → Int}
    (rule : ∀ (i j : Int) (t u : Tok) (s : Shared) (Q : Value → Shared → Prop) (E : Value → Shared → Prop), Q (.int (g i j) s.toks) { s with toks := s.toks + 1 } → wpAny (model X.prog X.w) X.A (f (.int i t) (.int j u)) Q E s) :
    OpR X f (rI0 fun i j => .int (g i j)) := by
  intro pins s σ H x y v u Q I rx ry h
  obtain ⟨i, j, rfl, rfl, q⟩ := h
  obtain ⟨t, rfl⟩ := rx
  obtain ⟨t', rfl⟩ := ry
  exact rule i j t t' s _ _ ⟨.int (g i j), H, I.tok _, ⟨_, rfl⟩, q⟩
theorem opB0 {f : Value → Value → Sem Value} {g : Int → Int → Bool}
    (rule : ∀ (i j : Int) (t u : Tok) (s : Shared) (Q : Value → Shared → Prop) (E : Value → Shared → Prop), Q (.bool (g i j)) s → wpAny (model X.prog X.w) X.A (f (.int i t) (.int j u)) Q E s) :
    OpR X f (rI0 fun i j => .bl (g i j)) := by
  intro pins s σ H x y v u Q I rx ry h
  obtain ⟨i, j, rfl, rfl, q⟩ := h
  obtain ⟨t, rfl⟩ := rx
  obtain ⟨t', rfl⟩ := ry
  exact rule i j t t' s _ _ ⟨.bl (g i j), H, I, rfl, q⟩
noncomputable def CDiv (i j : Int) : Prop := 0 < j ∧ j < 1073741824
noncomputable def CPow (i j : Int) : Prop := 0 ≤ j ∧ j ≤ 1000000 ∧ i.natAbs < 2 ^ 64
noncomputable def CMul (i j : Int) : Prop := (-(2 ^ 64) < i ∧ i < 2 ^ 64) ∨ (-(2 ^ 64) < j ∧ j < 2 ^ 64)
theorem CMul.ok {i j : Int} (h : CMul i j) : IntMulOk i j := by
  rcases h with ⟨h1, h2⟩ | ⟨h1, h2⟩
  · exact .of_left (intBits_le_64 h1 h2)
  · exact .of_right (intBits_le_64 h1 h2)
theorem op_add : OpR X (binaryOp .Add) (rI0 fun i j => .int (i + j)) := opI0 fun _ _ _ _ _ _ _ q => add_int q
theorem op_sub : OpR X (binaryOp .Sub) (rI0 fun i j => .int (i - j)) := opI0 fun _ _ _ _ _ _ _ q => sub_int q
theorem op_fdiv : OpR X (binaryOp .FloorDiv) (rI CDiv fun i j => .int (i / j)) := opI fun i j _ _ _ _ _ hc q => by
  have h1 : (0 : Int) < j := hc.1
  have h2 : j < 1073741824 := hc.2
  exact floordiv_int (by omega) (by rw [Int.fdiv_eq_ediv_of_nonneg i (by omega)]; exact q) (.inl (PyProof.noPylong_small (by omega)))
theorem op_mod : OpR X (binaryOp .Mod) (rI (fun _ j => 0 < j) fun i j => .int (i % j)) := opI fun i j _ _ _ _ _ hc q => by
  have h1 : (0 : Int) < j := hc
  exact mod_int' (by omega) (by rw [Int.fmod_eq_emod_of_nonneg i (by omega)]; exact q)
theorem op_pow : OpR X (binaryOp .Pow) (rI CPow fun i j => .int (i ^ j.toNat)) := opI fun _ _ _ _ _ _ _ hc q => pow_int_small hc.1 hc.2.1 hc.2.2 q
end
section
variable {X : Cx} {a b c : Expr} {ta tb tc : TE} {pos : Pos}
theorem fin_bl {pins : List (Addr × Obj)} {σ : St} {H : Hp} {s : Shared} {Q : VK} {k k' : Bool} (I : Inv X pins σ H s) (q : Q (.bl k) H) (e : k = k') : EP X pins σ Q (.bool k') s := by
  subst e
  exact ⟨.bl k, H, I, rfl, q⟩
theorem op_lt : OpR X (compareOp .Lt) (rI0 fun i j => .bl (decide (i < j))) := opB0 fun _ _ _ _ _ _ _ q => lt_int q
theorem op_le : OpR X (compareOp .LtE) (rI0 fun i j => .bl (decide (i ≤ j))) := opB0 fun _ _ _ _ _ _ _ q => le_int q
theorem op_gt : OpR X (compareOp .Gt) (rI0 fun i j => .bl (decide (j < i))) := opB0 fun _ _ _ _ _ _ _ q => gt_int q
theorem op_ge : OpR X (compareOp .GtE) (rI0 fun i j => .bl (decide (j ≤ i))) := opB0 fun _ _ _ _ _ _ _ q => ge_int q
theorem op_isN : OpR X (compareOp .Is) (fun x y H Q => y = .non ∧ Q (.bl (decide (x = .non))) H) := by
  intro pins s σ H x y v u Q I rx ry h
  obtain ⟨rfl, q⟩ := h
  cases ry
  refine is_none_gen (fin_bl I q ?_)
  cases x <;> first
    | (cases rx; rfl)
    | (obtain ⟨t, rfl⟩ := rx; rfl)
theorem op_notN : OpR X (compareOp .IsNot) (fun x y H Q => y = .non ∧ Q (.bl (!decide (x = .non))) H) := by
  intro pins s σ H x y v u Q I rx ry h
  obtain ⟨rfl, q⟩ := h
  cases ry
  refine isnot_none_gen (fin_bl I q ?_)
  cases x <;> first
    | (cases rx; rfl)
    | (obtain ⟨t, rfl⟩ := rx; rfl)
theorem pe_cmpR {op : CmpOp} {r : R2} (ho : OpR X (compareOp op) r) (ha : PE X a ta) (hb : PE X b tb) (hm : behindInMarks op b = false) : PE X (.Compare a [op] [b] pos) (tOp r ta tb) := by
  intro pins s σ H Q I h
  exact wpAny_Compare1 (binT ha hb I h fun v u s2 x y H2 I2 rx ry q => ho pins s2 σ H2 x y v u Q I2 rx ry q) hm
noncomputable def tTest (t : TE) : TT := fun σ H Q => t σ H fun x H' => ∃ k, x = .bl k ∧ Q k H'
theorem pt_cmpR {op : CmpOp} {r : R2} (ho : OpR X (compareOp op) r) (ha : PE X a ta) (hb : PE X b tb) (hm : behindInMarks op b = false) : PT X (.Compare a [op] [b] pos) (tTest (tOp r ta tb)) := by
  intro pins s σ H Q I h
  refine wpAny_isTrue_Compare1 (thn (ha pins s σ H _ I h) fun v s1 ⟨x, H1, I1, r1, q1⟩ => thn (hb pins s1 σ H1 _ I1 q1) fun u s2 ⟨y, H2, I2, r2, q2⟩ =>
    thn (ho pins s2 σ H2 x y v u _ I2 r1 r2 q2) fun c s3 ⟨z, H3, I3, r3, k, e, q3⟩ => ?_) hm
  subst e
  cases r3
  exact wpAny_truthy_bool ⟨H3, I3, q3⟩
noncomputable def tChain (r r' : R2) (ta tb tc : TE) : TE := fun σ H Q => ta σ H fun x H1 => tb σ H1 fun y H2 => r x y H2 fun z H3 => ∃ k, z = .bl k ∧
  (if k = true then tc σ H3 fun w' H4 => r' y w' H4 Q else Q (.bl false) H3)
theorem pe_chain {op op' : CmpOp} {r r' : R2} (ho : OpR X (compareOp op) r) (ho' : OpR X (compareOp op') r') (ha : PE X a ta) (hb : PE X b tb) (hc : PE X c tc)
    (hm : lastMarks [op, op'] [b, c] = false := by with_unfolding_all rfl) : PE X (.Compare a [op, op'] [b, c] pos) (tChain r r' ta tb tc) := by
  intro pins s σ H Q I h
  refine Compare_chain (thn (ha pins s σ H _ I h) fun v s1 ⟨x, H1, I1, r1, q1⟩ => chain_link (thn (hb pins s1 σ H1 _ I1 q1) fun u s2 ⟨y, H2, I2, r2, q2⟩ =>
    thn (ho pins s2 σ H2 x y v u _ I2 r1 r2 q2) fun d s3 ⟨z, H3, I3, r3, k, e, q3⟩ => ?_)) hm
  subst e
  cases r3
  refine wpAny_truthy_bool ?_
  cases k with
  | false => exact ite_ff ⟨.bl false, H3, I3, rfl, q3⟩
  | true => exact ite_tt (chain_last (thn (hc pins s3 σ H3 _ I3 q3) fun w' s4 ⟨z', H4, I4, r4, q4⟩ => ho' pins s4 σ H4 y z' u w' Q I4 r2 r4 q4))
theorem pt_chain {op op' : CmpOp} {r r' : R2} (ho : OpR X (compareOp op) r) (ho' : OpR X (compareOp op') r') (ha : PE X a ta) (hb : PE X b tb) (hc : PE X c tc)
    (hm : lastMarks [op, op'] [b, c] = false := by with_unfolding_all rfl) : PT X (.Compare a [op, op'] [b, c] pos) (tTest (tChain r r' ta tb tc)) := by
  intro pins s σ H Q I h
  refine isTrue_chain (thn (ha pins s σ H _ I h) fun v s1 ⟨x, H1, I1, r1, q1⟩ => test_link (thn (hb pins s1 σ H1 _ I1 q1) fun u s2 ⟨y, H2, I2, r2, q2⟩ =>
    thn (ho pins s2 σ H2 x y v u _ I2 r1 r2 q2) fun d s3 ⟨z, H3, I3, r3, k, e, q3⟩ => ?_)) hm
  subst e
  cases r3
  refine wpAny_truthy_bool ?_
  cases k with
  | false =>
    obtain ⟨k', e', q'⟩ := q3
    cases e'
    exact ite_ff ⟨H3, I3, q'⟩
  | true =>
    refine ite_tt (test_last (thn (hc pins s3 σ H3 _ I3 q3) fun w' s4 ⟨z', H4, I4, r4, q4⟩ => thn (ho' pins s4 σ H4 y z' u w' _ I4 r2 r4 q4) fun d' s5 ⟨z2, H5, I5, r5, k2, e2, q5⟩ => ?_))
    subst e2
    cases r5
    exact wpAny_truthy_bool ⟨H5, I5, q5⟩
noncomputable def TruV (K : PySem.W.Frag) (x : V) (H : Hp) (k : Bool) : Prop :=
  match x with
  | .non => k = false
  | .bl b => k = b
  | .int i => k = (i != 0)
  | .str y => y.length ≤ sizeLine ∧ k = ((y.length : Int) != 0)
  | .byt y => y.size ≤ sizeLine ∧ k = ((y.size : Int) != 0)
  | .ref p => (∃ xs, SqL K H p xs ∧ k = !xs.isEmpty) ∨ (∃ xs, SqT K H p xs ∧ k = !xs.isEmpty) ∨ ∃ kvs, H p = some (.dK kvs) ∧ k = !kvs.isEmpty
  | _ => False
theorem isEmpty_kv {κ : Type} {kvs : List (κ × V)} {vs : List (κ × Value)} (r : KV kvs vs) : (!vs.isEmpty) = !kvs.isEmpty := by
  cases r <;> rfl
theorem isEmpty_of {xs : List V} {its : List Value} (r : Vals xs its) : (!its.toArray.isEmpty) = !xs.isEmpty := by
  cases r <;> simp
theorem line63 : (sizeLine : Nat) < 2 ^ 63 := by rw [sizeLine_eq]; decide
theorem tru_ok : TruR X (fun x H Q => ∃ k, TruV X.K x H k ∧ Q k H) := by
  intro pins s σ H x v Q I rx h
  obtain ⟨k, e, q⟩ := h
  have hl := line63
  have hs : sizeLine = 16777216 := sizeLine_eq
  cases x with
  | non =>
    cases rx
    have e' : k = false := e
    subst e'
    exact truthy_none ⟨H, I, q⟩
  | bl b =>
    cases rx
    have e' : k = b := e
    subst e'
    exact wpAny_truthy_bool ⟨H, I, q⟩
  | int i =>
    obtain ⟨t, rfl⟩ := rx
    have e' : k = (i != 0) := e
    subst e'
    exact PySem.P.truthy_int ⟨H, I, q⟩
  | str y =>
    obtain ⟨t, rfl⟩ := rx
    obtain ⟨hy, e'⟩ : y.length ≤ sizeLine ∧ k = ((y.length : Int) != 0) := e
    subst e'
    exact PySem.P.truthy_str (by omega) ⟨H, I.tok _, q⟩
  | byt y =>
    obtain ⟨t, rfl⟩ := rx
    obtain ⟨hy, e'⟩ : y.size ≤ sizeLine ∧ k = ((y.size : Int) != 0) := e
    subst e'
    exact PySem.W.truthy_bytes (by omega) ⟨H, I.tok _, q⟩
  | ref p =>
    cases rx
    have e' : (∃ xs, SqL X.K H p xs ∧ k = !xs.isEmpty) ∨ (∃ xs, SqT X.K H p xs ∧ k = !xs.isEmpty) ∨ ∃ kvs, H p = some (.dK kvs) ∧ k = !kvs.isEmpty := e
    rcases e' with ⟨xs, hx, e'⟩ | ⟨xs, hx, e'⟩ | ⟨kvs, hx, e'⟩
    · subst e'
      obtain ⟨its, r, pl, hz⟩ := I.list hx
      have hlen := r.length
      exact wpAny_truthy_list pl.isList (by simp only [List.size_toArray]; omega) ⟨H, I.tok _, by rw [isEmpty_of r]; exact q⟩
    · subst e'
      obtain ⟨its, r, pl, hz⟩ := I.tuple hx
      have hlen := r.length
      exact truthy_tuple pl (by simp only [List.size_toArray]; omega) ⟨H, I.tok _, by rw [isEmpty_of r]; exact q⟩
    · subst e'
      obtain ⟨hz, hS, vs, r, m⟩ : kvs.length ≤ sizeLine ∧ (p == sysModules) = false ∧ ∃ vs, KV kvs vs ∧ s.heap.DictOf (mixKind X.prog X.w) p vs := I.hok p _ hx
      have hlen : kvs.length = vs.length := Paired.length r
      exact wpAny_truthy_dict hS m (by omega) ⟨H, I.tok _, by rw [isEmpty_kv r]; exact q⟩
  | _ => exact (show False from e).elim
theorem pt_truth (ha : PE X a ta) (he : ∀ whole, isTrue a X.env whole = (do let v ← whole; standAt a.pos; holding [v] (truthy v))) :
    PT X a (fun σ H Q => ta σ H fun x H' => ∃ k, TruV X.K x H' k ∧ Q k H') := by
  intro pins s σ H Q I h
  exact isTrue_plain (thn (ha pins s σ H _ I h) fun v s1 ⟨x, H1, I1, r1, q1⟩ => tru_ok pins s1 σ H1 x v Q I1 r1 q1) (he _)
theorem op_add_str : OpR X (binaryOp .Add) (fun x y H Q => ∃ i j, x = .str i ∧ y = .str j ∧ i.length + j.length ≤ sizeLine ∧ Q (.str (i ++ j)) H) := by
  intro pins s σ H x y v u Q I rx ry h
  obtain ⟨i, j, rfl, rfl, hz, q⟩ := h
  obtain ⟨t, rfl⟩ := rx
  obtain ⟨t', rfl⟩ := ry
  exact add_str (fun t' tk => ⟨.str (i ++ j), H, I.tok _, ⟨_, rfl⟩, q⟩) hz
theorem vals1 {x : V} {us : List Value} (r : Vals [x] us) : ∃ u, us = [u] ∧ RelV x u := by
  cases r with
  | cons r1 r2 => cases r2; exact ⟨_, rfl, r1⟩
theorem vals2 {x y : V} {us : List Value} (r : Vals [x, y] us) : ∃ u w', us = [u, w'] ∧ RelV x u ∧ RelV y w' := by
  cases r with
  | cons r1 r2 =>
    cases r2 with
    | cons r3 r4 => cases r4; exact ⟨_, _, rfl, r1, r3⟩
theorem call_max2 (hc : X.calm = true) : CallR X (.builtin "max") (fun xs H Q => ∃ i j, xs = [.int i, .int j] ∧ Q (.int (if j > i then j else i)) H) := by
  intro pins s σ H xs us Q I r h
  obtain ⟨i, j, rfl, q⟩ := h
  obtain ⟨u, w', rfl, ⟨t, rfl⟩, ⟨t', rfl⟩⟩ := vals2 r
  refine max_two_ints (I.ok.hd hc) fun h' tk k => ⟨_, H, I.kept k, ?_, q⟩
  by_cases hj : j > i
  · rw [if_pos hj, if_pos hj]; exact ⟨_, rfl⟩
  · rw [if_neg hj, if_neg hj]; exact ⟨_, rfl⟩
theorem call_min2 (hc : X.calm = true) : CallR X (.builtin "min") (fun xs H Q => ∃ i j, xs = [.int i, .int j] ∧ Q (.int (if j < i then j else i)) H) := by
  intro pins s σ H xs us Q I r h
  obtain ⟨i, j, rfl, q⟩ := h
  obtain ⟨u, w', rfl, ⟨t, rfl⟩, ⟨t', rfl⟩⟩ := vals2 r
  refine min_two_ints (I.ok.hd hc) fun h' tk k => ⟨_, H, I.kept k, ?_, q⟩
  by_cases hj : j < i
  · rw [if_pos hj, if_pos hj]; exact ⟨_, rfl⟩
  · rw [if_neg hj, if_neg hj]; exact ⟨_, rfl⟩
theorem call_int1 : CallR X (.type "int") (fun xs H Q => (∃ i, xs = [.int i] ∧ Q (.int i) H) ∨ ∃ k, xs = [.bl k] ∧ Q (.int (if k then 1 else 0)) H) := by
  intro pins s σ H xs us Q I r h
  rcases h with ⟨i, rfl, q⟩ | ⟨k, rfl, q⟩
  · obtain ⟨u, rfl, t, rfl⟩ := vals1 r
    exact call_int_int ⟨.int i, H, I, ⟨_, rfl⟩, q⟩
  · obtain ⟨u, rfl, r1⟩ := vals1 r
    cases r1
    exact call_int_bool ⟨.int (if k then 1 else 0), H, I.tok _, ⟨_, rfl⟩, q⟩
end
end L2
namespace L2
open PySem PySem.Spec PyProof.Rows
section
variable {prog : Program} {w : World} {A : Around} {E : Value → Shared → Prop} {s : Shared} {K : PySem.W.Frag} {x dx C f : Addr} {mA : Str → Option Value} {name : Str} {v : Value}
end
section
variable {P : Program} {w : World} {H H' : Hp} {h h' : Heap} {a C dx : Addr} {fs fs' : List (Str × V)}
end
section
variable {X : Cx} {pins : List (Addr × Obj)} {σ : St} {H : Hp} {s : Shared} {a C dx : Addr} {fs : List (Str × V)} {f : Str} {v : V} {A : Around} {E : Value → Shared → Prop}
end
section
variable {X : Cx} {o e value : Expr} {f : Str} {pos pos' tpos : Pos} {ta tv : TE}
end
section
variable {X : Cx} {pins : List (Addr × Obj)} {σ : St} {H : Hp} {s : Shared} {A : Around} {E : Value → Shared → Prop} {Q : Value → Shared → Prop} {c : Value} {b : Bool}
end
end L2
namespace L2
open PySem PySem.Spec PyProof.Rows
structure Room (k : Nat) (A : Around) : Prop where
  hd : A.handled = none
  dp : A.depth + 3 * k + 5 < recursionLimit
  un : A.units + 16 * k + 200 < cLine
theorem Room.deeper {k : Nat} {A : Around} (r : Room (k + 1) A) (env : Env) : Room k (A.deeper env) :=
  ⟨r.hd, by have := r.dp; show A.depth + 1 + 3 * k + 5 < _; omega, by have := r.un; show A.units + 3 + 16 * k + 200 < _; omega⟩
theorem Room.depth {k : Nat} {A : Around} (r : Room k A) : A.depth < recursionLimit := by have := r.dp; omega
theorem Room.units {k : Nat} {A : Around} (r : Room k A) : A.units + 64 < cLine := by have := r.un; omega
noncomputable def tNil : TA := fun _ H Q => Q [] H
noncomputable def tCons (ta : TE) (tr : TA) : TA := fun σ H Q => ta σ H fun x H1 => tr σ H1 fun xs H2 => Q (x :: xs) H2
section
variable {X : Cx} {e : Expr} {es : List Expr} {te : TE} {t : TA} {pos : Pos}
theorem pa_nil : PA X [] tNil := fun _ _ _ _ H Q I h => Calls.spliced_nil ⟨[], H, I, .nil, h⟩
theorem pa_cons (ha : PE X e te) (hr : PA X es t) (hs : starEach (e :: es) X.env = (false, eval e X.env) :: starEach es X.env := by rfl) : PA X (e :: es) (tCons te t) := by
  intro pos pins s σ H Q I h
  rw [hs]
  show wpAny _ _ (spliced ((false, eval e X.env) :: backTo pos (starEach es X.env))) _ _ s
  refine Calls.spliced_cons (thn (ha pins s σ H _ I h) fun u s1 ⟨x, H1, I1, r1, q1⟩ => ?_)
  exact thn (hr pos pins s1 σ H1 _ I1 q1) fun us s2 ⟨xs, H2, I2, r2, q2⟩ => ⟨x :: xs, H2, I2, .cons r1 r2, q2⟩
noncomputable def tTup (t : TA) : TE := fun σ H Q => t σ H fun xs H1 => xs.length ≤ sizeLine ∧ ∀ p, H1 p = none → Q (.ref p) (upd H1 p (.tup xs))
noncomputable def tLst (t : TA) : TE := fun σ H Q => t σ H fun xs H1 => xs.length ≤ sizeLine ∧ ∀ p, H1 p = none → Q (.ref p) (upd H1 p (.lst xs))
theorem pe_tup {x1} (h : PA X es t) : PE X (.Tuple es x1 pos) (tTup t) := by
  intro pins s σ H Q I hq
  refine wpAny_Tuple_spliced (thn (h pos pins s σ H _ I hq) fun us s1 ⟨xs, H1, I1, r, z, q⟩ => ⟨by rw [← r.length]; exact z, ?_⟩)
  have hf : H1 s1.heap.objs.size = none := I1.hok.fresh (Nat.le_refl _)
  refine ⟨.ref s1.heap.objs.size, upd H1 s1.heap.objs.size (.tup xs), I1.laid (t' := s1.toks) (fun b u e => Heap.get?_push_of_some _ e) (Nat.le_refl _) ?_, rfl, q _ hf⟩
  exact ⟨z, us, r, ⟨_, Heap.get?_push_size _ rfl, rfl, _, rfl⟩⟩
theorem pe_lst (h : PA X es t) : PE X (.List es pos) (tLst t) := by
  intro pins s σ H Q I hq
  refine wpAny_List_spliced (thn (h pos pins s σ H _ I hq) fun us s1 ⟨xs, H1, I1, r, z, q⟩ => ⟨by rw [← r.length]; exact z, ?_⟩)
  have hf : H1 s1.heap.objs.size = none := I1.hok.fresh (Nat.le_refl _)
  refine ⟨.ref s1.heap.objs.size, upd H1 s1.heap.objs.size (.lst xs), I1.laid (t' := s1.toks) (fun b u e => Heap.get?_push_of_some _ e) (Nat.le_refl _) ?_, rfl, q _ hf⟩
  exact ⟨z, us, 0, r, Heap.get?_push_size _ rfl⟩
end
noncomputable abbrev Sp := List V → Hp → VK → XK → Prop
noncomputable abbrev CXT := List Env → Hp → Shared → XK → Value → Shared → Prop
structure Env0 (P : Program) (w : World) (K : PySem.W.Frag) (mg : Str → Option Value) (base : Heap) (A : Around) (outer : List Env) (s : Shared) (H : Hp) : Prop where
  frames : A.frames = some outer
  mod : Mod K mg base
  bs : ∀ b o, base.get? b = some o → s.heap.get? b = some o ∧ H b = none
  bsz : base.objs.size ≤ s.heap.objs.size
  funs : s.heap.FunFrames base outer
  frf : ∀ b ∈ frs outer, H b = none
  hok : HOk P w H s.heap
  bare : AllBare s.gens
noncomputable def CE (outer : List Env) (P : Program) (w : World) (H : Hp) (s : Shared) (Q : VK) (u : Value) (s' : Shared) : Prop :=
  ∃ v H', s'.os = s.os ∧ AllBare s'.gens ∧ Un (frs outer) [] H H' s.heap s'.heap ∧ HOk P w H' s'.heap ∧ RelV v u ∧ Q v H'
noncomputable def CR (CX : CXT) (outer : List Env) (P : Program) (w : World) (H : Hp) (s : Shared) (Q : VK) (E : XK) (r : Result) (s' : Shared) : Prop :=
  match r with
  | .ok (.ret u) => CE outer P w H s Q u s'
  | .ok _ => False
  | .error e => CX outer H s E e s'
structure FnOk (P : Program) (w : World) (K : PySem.W.Frag) (mg : Str → Option Value) (base : Heap) (CX : CXT) (k : Nat) (f : Addr) (fd : FuncData) (ps : List Str) (sp : Sp) : Prop where
  len : ∀ vs H Q E, sp vs H Q E → vs.length = ps.length
  run : ∀ (A : Around) (outer : List Env) (s : Shared) (H : Hp) (args : Args) (us : List Value) (vs : List V) (Q : VK) (E : XK), Room k A → Env0 P w K mg base A outer s H → BindsTo s fd args (ps.zip us) → Vals vs us → sp vs H Q E →
    codeAny (model P w) A (.call (.ref f) args) (CR CX outer P w H s Q E) s
theorem FnOk.imp {P : Program} {w : World} {K : PySem.W.Frag} {mg : Str → Option Value} {base : Heap} {CX : CXT} {k : Nat} {f : Addr} {fd : FuncData} {ps : List Str} {sp sp' : Sp} (F : FnOk P w K mg base CX k f fd ps sp)
    (h : ∀ vs H Q E, sp' vs H Q E → sp vs H Q E) : FnOk P w K mg base CX k f fd ps sp' :=
  ⟨fun vs H Q E q => F.len vs H Q E (h _ _ _ _ q), fun A outer s H args us vs Q E hr he hb hv hs => F.run A outer s H args us vs Q E hr he hb hv (h _ _ _ _ hs)⟩
section
variable {X : Cx} {pins : List (Addr × Obj)} {σ : St} {H : Hp} {s s' : Shared}
theorem Inv.env0 (I : Inv X pins σ H s) : Env0 X.prog X.w X.K X.mg X.base X.A X.stack s H :=
  ⟨I.ok.frames, I.ok.mod, I.bs, Nat.le_trans I.ok.bsz I.sz, I.stack, I.stkFree, I.hok, I.bare⟩
theorem Inv.after {Q : VK} {u : Value} (I : Inv X pins σ H s) (h : CE X.stack X.prog X.w H s Q u s') : EP X pins σ Q u s' := by
  obtain ⟨v, H', os, bare, un, hok, r, q⟩ := h
  obtain ⟨hh, g, d, t, os'⟩ := s'
  obtain rfl : os' = s.os := os
  exact ⟨v, H', I.call (h' := hh) (g' := g) (d' := d) (t' := t) (ch := []) un hok bare (fun b z => absurd z (by simp)), r, q⟩
end
noncomputable def tCall (sp : Sp) (dvs : List V) (E : XK) (t : TA) : TE := fun σ H Q => t σ H fun vs H1 => sp (vs ++ dvs) H1 Q E
noncomputable def Binds (K : PySem.W.Frag) (fd : FuncData) (ps : List Str) (ds : List Value) : Prop :=
  ∀ (s : Shared) (us : List Value), K.In s.heap → (us ++ ds).length = ps.length → BindsTo s fd ⟨us, []⟩ (ps.zip (us ++ ds))
theorem Binds.all {K : PySem.W.Frag} {fd : FuncData} {ps : List Str} (h : ∀ us : List Value, us.length = ps.length → bindArgs fd ⟨us, []⟩ = pure (ps.zip us)) : Binds K fd ps [] := fun s us _ hl => by
  rw [List.append_nil] at hl ⊢
  exact .of_eq (h us hl)
noncomputable def Passes (CX : CXT) (X : Cx) (E : XK) : Prop := ∀ (pins : List (Addr × Obj)) (σ : St) (H : Hp) (s : Shared) (e : Value) (s' : Shared), Inv X pins σ H s → CX X.stack H s E e s' → X.xe e s'
section
variable {X : Cx} {CX : CXT} {k : Nat} {f C : Addr} {fd : FuncData} {ps : List Str} {sp : Sp} {dvs : List V} {ds : List Value} {E : XK} {x m : Str} {p pos apos : Pos} {e o : Expr} {es : List Expr} {ta : TE} {t : TA}
theorem run_fn {pins : List (Addr × Obj)} {σ : St} {H : Hp} {s : Shared} {Q : VK} {us : List Value} {vs : List V} (F : FnOk X.prog X.w X.K X.mg X.base CX k f fd ps sp) (hr : Room k X.A) (hb : Binds X.K fd ps ds) (hd : Vals dvs ds) (hx : Passes CX X E)
    (I : Inv X pins σ H s) (r : Vals vs us) (h : sp (vs ++ dvs) H Q E) : wpAny (model X.prog X.w) X.A (call (.ref f) us) (EP X pins σ Q) X.xe s := by
  have r2 : Vals (vs ++ dvs) (us ++ ds) := r.append hd
  have hl : (us ++ ds).length = ps.length := by rw [← r2.length]; exact F.len _ _ _ _ h
  refine wpAny_call (codeAny_mono (F.run X.A X.stack s H ⟨us, []⟩ (us ++ ds) (vs ++ dvs) Q E hr I.env0 (hb s us I.kIn hl) r2 h) fun r s' hq => ?_)
  cases r with
  | error e => exact hx pins σ H s e s' I hq
  | ok fl =>
    cases fl with
    | ret u => exact I.after hq
    | next => exact False.elim hq
    | brk => exact False.elim hq
    | cont => exact False.elim hq
theorem pe_call (F : FnOk X.prog X.w X.K X.mg X.base CX k f fd ps sp) (hr : Room k X.A) (hg : Gl X x) (hm : X.mg x = some (.ref f)) (hk : PySem.W.keepIn X.K (.ref f) = true) (hb : Binds X.K fd ps ds) (hd : Vals dvs ds) (hx : Passes CX X E)
    (ha : PA X (e :: es) t) (hdb : (x == ("__debug__" : Str)) = false := by decide) (he : starEach (e :: es) X.env = (false, eval e X.env) :: starEach es X.env := by rfl) (hpl : (backTo pos (starEach es X.env)).any (·.1) = false := by rfl) :
    PE X (.Call (.Name x p) (e :: es) [] pos) (tCall sp dvs E t) := by
  intro pins s σ H Q I h
  refine wpAny_Call_Name_kw (ld_glob I hg hm ?_ hdb)
  refine PySem.W.callWith_K (h₀ := X.base) I.ok.mod.kin hk (thn (ha pos pins s σ H _ I h) fun us s1 ⟨vs, H1, I1, r, q⟩ => ⟨I1.kIn, ?_⟩) he hpl
  exact run_fn F hr hb hd hx I1 r q
end
section
variable {X : Cx} {CX : CXT} {k : Nat} {f C : Addr} {fd : FuncData} {ps ks : List Str} {sp : Sp} {E : XK} {x m : Str} {p pos apos kpos : Pos} {e o : Expr} {es : List Expr} {kws : List Keyword} {te ta : TE} {t tk : TA} {nm : Option Str}
variable {g : List Value → List Value → List Value} {gV : List V → List V → List V}
end
structure FnScope (N P : List Str) (sc : Scope) : Prop where
  kind : sc.kind = .function
  co : sc.isCoroutine = false
  gen : sc.isGenerator = false
  nd : N.Nodup
  pre : N.take P.length = P
  par : ∀ x ∈ P, sc.names.lookup x = some .local ∨ sc.names.lookup x = some .cell
  nofree : ∀ y ∈ sc.names, y.2 ≠ .free
theorem bindL_out {kindOf : Str → Option NameKind} {x : Str} : ∀ {binds : List (Str × Value)} {m : Str → Option Value}, (∀ v, (x, v) ∉ binds) → bindL kindOf binds m x = m x
  | [], _, _ => rfl
  | (n, v) :: r, m, h => by
    unfold bindL
    rw [bindL_out fun w hw => h w (List.mem_cons_of_mem _ hw)]
    split
    · have : x ≠ n := by rintro rfl; exact h v List.mem_cons_self
      simp [this]
    · rfl
theorem bindC_out {kindOf : Str → Option NameKind} {x : Str} : ∀ {binds : List (Str × Value)} {m : Str → Option Value}, (∀ v, (x, v) ∉ binds) → bindC kindOf binds m x = m x
  | [], _, _ => rfl
  | (n, v) :: r, m, h => by
    unfold bindC
    rw [bindC_out fun w hw => h w (List.mem_cons_of_mem _ hw)]
    split
    · rfl
    · have : x ≠ n := by rintro rfl; exact h v List.mem_cons_self
      simp [this]
theorem bindL_get {kindOf : Str → Option NameKind} {x : Str} {v : Value} : ∀ {P : List Str} {vs : List Value} {i : Nat} {m : Str → Option Value}, P.Nodup → P[i]? = some x → vs[i]? = some v → kindOf x = some .local →
    bindL kindOf (P.zip vs) m x = some v
  | [], _, _, _, _, h, _, _ => by simp at h
  | _ :: _, [], _, _, _, _, h, _ => by simp at h
  | p :: P, w :: vs, 0, m, nd, h1, h2, hk => by
    simp at h1 h2; subst h1; subst h2
    show bindL kindOf ((p, w) :: P.zip vs) m p = _
    unfold bindL
    rw [bindL_out fun v hv => (List.nodup_cons.mp nd).1 (List.of_mem_zip hv).1, if_pos hk]
    simp
  | p :: P, w :: vs, i + 1, m, nd, h1, h2, hk => by
    show bindL kindOf ((p, w) :: P.zip vs) m x = _
    unfold bindL
    exact bindL_get (i := i) (List.nodup_cons.mp nd).2 (by simpa using h1) (by simpa using h2) hk
theorem bindC_get {kindOf : Str → Option NameKind} {x : Str} {v : Value} : ∀ {P : List Str} {vs : List Value} {i : Nat} {m : Str → Option Value}, P.Nodup → P[i]? = some x → vs[i]? = some v → kindOf x ≠ some .local →
    bindC kindOf (P.zip vs) m x = some v
  | [], _, _, _, _, h, _, _ => by simp at h
  | _ :: _, [], _, _, _, _, h, _ => by simp at h
  | p :: P, w :: vs, 0, m, nd, h1, h2, hk => by
    simp at h1 h2; subst h1; subst h2
    show bindC kindOf ((p, w) :: P.zip vs) m p = _
    unfold bindC
    rw [bindC_out fun v hv => (List.nodup_cons.mp nd).1 (List.of_mem_zip hv).1, if_neg hk]
    simp
  | p :: P, w :: vs, i + 1, m, nd, h1, h2, hk => by
    show bindC kindOf ((p, w) :: P.zip vs) m x = _
    unfold bindC
    exact bindC_get (i := i) (List.nodup_cons.mp nd).2 (by simpa using h1) (by simpa using h2) hk
noncomputable def start (N : List Str) (vs : List V) : St := vs.map some ++ List.replicate (N.length - vs.length) none
noncomputable def cxOf (CX : CXT) (P : Program) (w : World) (K : PySem.W.Frag) (mg : Str → Option Value) (base : Heap) (N : List Str) (qual : Str) (scope : Scope) (f : Addr) (cd : Value) (A : Around) (outer : List Env) (s : Shared) (H : Hp) (E : XK) : Cx where
  prog := P
  w := w
  K := K
  mg := mg
  base := base
  A := A.deeper (envOfC qual scope s.heap.objs.size f cd)
  N := N
  s₀ := s
  H₀ := H
  env := envOfC qual scope s.heap.objs.size f cd
  outer := outer
  stack := envOfC qual scope s.heap.objs.size f cd :: outer
  ex := []
  calm := true
  fn := fun _ => true
  pn := []
  xe := fun e s' => wpAny (model P w) (A.deeper (envOfC qual scope s.heap.objs.size f cd)) (leaving (envOfC qual scope s.heap.objs.size f cd) e) (fun _ s'' => CX outer H s E e s'') (fun e' s'' => CX outer H s E e' s'') s'
theorem cell_has {sc : Scope} {n : Nat} {x : Str} (h : sc.names.lookup x = some .cell) : ∃ c, (cellsFrom n sc.names []).lookup x = some c := by
  have q := PySem.W.cellsFrom_some sc.names n [] (.inl h)
  exact Option.isSome_iff_exists.mp q
theorem inv_start {CX : CXT} {P : Program} {w : World} {K : PySem.W.Frag} {mg : Str → Option Value} {base : Heap} {N ps : List Str} {qual : Str} {scope : Scope} {f : Addr} {cd : Value} {A : Around} {outer : List Env} {s s1 : Shared} {H : Hp} {E : XK} {us : List Value} {vs : List V}
    (S : FnScope N ps scope) (hd : A.handled = none) (e0 : Env0 P w K mg base A outer s H) (hl : vs.length = ps.length) (r : Vals vs us)
    (x : InCallC s s.heap.objs.size (bindL (envOfC qual scope s.heap.objs.size f cd).kindOf (ps.zip us) fun _ => none) (cellsFrom (s.heap.objs.size + 1) scope.names []) (bindC (envOfC qual scope s.heap.objs.size f cd).kindOf (ps.zip us) fun _ => none) s1) :
    Inv (cxOf CX P w K mg base N qual scope f cd A outer s H E) [] (start N vs) H s1 := by
  have hpl : ps.length ≤ N.length := by have := congrArg List.length S.pre; rw [List.length_take] at this; omega
  obtain ⟨h1, tk, rfl, hk⟩ := x.done
  have noA : ∀ b : Addr, b ∉ (cxOf CX P w K mg base N qual scope f cd A outer s H E).ex := fun b z => absurd (show b ∈ ([] : List Addr) from z) (by simp)
  refine ⟨⟨e0.mod, S.kind, rfl, rfl, Nat.le_refl _, fun y z c h1 h2 => ?_, fun y hy => ?_, fun y c _ h => ?_, fun _ => hd, Around.frames_deeper e0.frames, .inr ⟨rfl, rfl⟩, fun b z => absurd z (noA b), e0.bs, e0.bsz, fun b _ _ => noA b, fun b z => absurd z (noA b), e0.funs, e0.frf⟩,
    rfl, e0.bare, Un.kept hk, ⟨_, x.toInCall.ns, fun i y v h1 h2 h3 => ?_⟩, fun y c h => ⟨_, x.cell y c h⟩, e0.hok.fresh (Nat.le_refl _), fun y c h => ?_, fun p hp => absurd (show p ∈ ([] : List (Addr × Obj)) from hp) (by simp), e0.hok.kept hk, ?_⟩
  · exact name_of_addr x.apart (PySem.mem_of_lookup h1) (PySem.mem_of_lookup h2)
  · have hy : scope.names.lookup y = some .cell ∨ scope.names.lookup y = some .free := hy
    rcases hy with hy | hy
    · exact cell_has hy
    · exact absurd rfl (S.nofree _ (PySem.mem_of_lookup hy))
  · exact Nat.le_of_lt (x.above y c (PySem.mem_of_lookup h))
  · have hi : i < vs.length := by
      unfold start at h2
      by_cases hi : i < vs.length
      · exact hi
      · rw [List.getElem?_append_right (by simpa using hi)] at h2
        rw [List.getElem?_replicate] at h2
        split at h2 <;> cases h2
    have ha : vs[i]? = some v := by
      unfold start at h2
      rw [List.getElem?_append_left (by simpa using hi), List.getElem?_map] at h2
      cases e : vs[i]? with
      | none => rw [e] at h2; cases h2
      | some a => rw [e] at h2; cases h2; rfl
    obtain ⟨u, hu, rv⟩ := r.get ha
    have hp : ps[i]? = some y := by
      rw [← S.pre, List.getElem?_take_of_lt (by omega)]; exact h1
    have ndP : ps.Nodup := by rw [← S.pre]; exact S.nd.sublist (List.take_sublist _ _)
    refine ⟨u, rv, ?_⟩
    rcases S.par y (List.mem_of_getElem? hp) with k | k
    · exact .inl ⟨k, bindL_get ndP hp hu k⟩
    · obtain ⟨c, e⟩ := cell_has (n := s.heap.objs.size + 1) k
      refine .inr ⟨.inl k, c, e, ?_⟩
      have q := x.cell y c e
      rw [bindC_get ndP hp hu (by show scope.names.lookup y ≠ _; rw [k]; decide)] at q
      exact q
  · exact e0.hok.fresh (Nat.le_of_lt (x.above y c (PySem.mem_of_lookup h)))
  · unfold start
    show _ = N.length
    rw [List.length_append, List.length_map, List.length_replicate]
    omega
theorem fn_of {CX : CXT} {P : Program} {w : World} {K : PySem.W.Frag} {mg : Str → Option Value} {base : Heap} {k : Nat} {f : Addr} {name qual : Str} {params : Arguments} {body : List Stmt} {scope : Scope} {dV kV doc pm cdv ct oc : Value} {an od : Option Addr}
    {osl : Array (Option Value)} {N ps : List Str} {sp : Sp} (lk : K.lookup f = some ⟨oc, od, .func (PySem.W.fnOf name qual params body scope dV kV doc pm an cdv ct), osl⟩) (hcd : PySem.W.codeIn K cdv qual = true) (S : FnScope N ps scope)
    (len : ∀ vs H Q E, sp vs H Q E → vs.length = ps.length)
    (hbody : ∀ (A : Around) (outer : List Env) (s : Shared) (H : Hp) (vs : List V) (Q : VK) (E : XK), Room k (A.deeper (envOfC qual scope s.heap.objs.size f cdv)) → sp vs H Q E →
      ∃ t, PSs (cxOf CX P w K mg base N qual scope f cdv A outer s H E) body t ∧ t { nx := fun _ H' => Q .non H', rt := Q } (start N vs) H) :
    FnOk P w K mg base CX (k + 1) f (PySem.W.fnOf name qual params body scope dV kV doc pm an cdv ct) ps sp := by
  refine ⟨len, fun A outer s H args us vs Q E hr e0 hb r hsp => ?_⟩
  have hl := len _ _ _ _ hsp
  have KX : K.In s.heap := e0.mod.kin.keeps fun b o e => (e0.bs b o e).1
  have lim : s.heap.NoLimit := e0.mod.nolimit.keeps fun b o e => (e0.bs b o e).1
  have hkind : ∀ y ∈ ps.zip us, scope.names.lookup y.1 = some .local ∨ (scope.names.lookup y.1 = some .cell ∧ ((cellsFrom (s.heap.objs.size + 1) scope.names []).lookup y.1).isSome = true) := fun ⟨n, v⟩ hy => by
    rcases S.par n (List.of_mem_zip hy).1 with q | q
    · exact .inl q
    · exact .inr ⟨q, PySem.W.cellsFrom_some _ _ _ (.inl q)⟩
  refine codeAny_call_function hr.depth (KX _ _ lk) rfl S.co S.gen rfl (PySem.W.codeRec_of KX hcd) (hb _ _ _ _ ?_)
  refine wpAny_newFunctionEnv_cells S.kind hkind fun env he s1 x => ?_
  subst he
  refine ⟨lim.keeps x.toInCall.keep, codeAny_func ?_⟩
  obtain ⟨t, ht, hq⟩ := hbody A outer s H vs Q E (hr.deeper _) hsp
  have I : Inv (cxOf CX P w K mg base N qual scope f cdv A outer s H E) [] (start N vs) H s1 := inv_start S hr.hd e0 hl r x
  refine wpAny_mono (ht [] s1 (start N vs) H _ I hq) (fun fl s' hs => ?_) fun e s' hs => hs
  have fin : ∀ {σ' : St} {H' : Hp} {v : V} {u : Value}, Inv (cxOf CX P w K mg base N qual scope f cdv A outer s H E) [] σ' H' s' → RelV v u → Q v H' → CE outer P w H s Q u s' :=
    fun {σ' H' v u} J rv q => ⟨v, H', J.os, J.bare, J.base, J.hok, rv, q⟩
  cases fl with
  | ret u =>
    obtain ⟨v, σ', H', J, rv, q⟩ := hs
    exact fin J rv q
  | next =>
    obtain ⟨σ', H', J, q⟩ := hs
    exact fin (v := V.non) (u := Value.none) J rfl q
  | brk =>
    obtain ⟨_, _, _, q⟩ := hs
    exact False.elim q
  | cont =>
    obtain ⟨_, _, _, q⟩ := hs
    exact False.elim q
end L2
namespace L2
open PySem PySem.Spec PyProof.Rows
section
variable {X : Cx} {x : Str} {p pos : Pos} {e : Expr} {es : List Expr} {t : TA} {id T : String} {r : List V → Hp → VK → Prop}
noncomputable def tCB (r : List V → Hp → VK → Prop) (t : TA) : TE := fun σ H Q => t σ H fun vs H1 => r vs H1 Q
theorem pe_callB (hc : CallR X (.builtin id) r) (hg : Gl X x) (hm : X.mg x = none) (hv : bootBuiltins x = some (.builtin id)) (ha : PA X (e :: es) t) (hn : x ≠ "__name__" := by decide) (hdb : (x == ("__debug__" : Str)) = false := by decide)
    (he : starEach (e :: es) X.env = (false, eval e X.env) :: starEach es X.env := by rfl) (hpl : (backTo pos (starEach es X.env)).any (·.1) = false := by rfl) : PE X (.Call (.Name x p) (e :: es) [] pos) (tCB r t) := by
  intro pins s σ H Q I h
  refine wpAny_Call_Name_kw (ld_blt I hg hm hv ?_ hn hdb)
  exact PyProof.Rows.callWith_builtin1 (thn (ha pos pins s σ H _ I h) fun us s1 ⟨vs, H1, I1, r1, q1⟩ => hc pins s1 σ H1 vs us Q I1 r1 q1) he hpl
theorem pe_callTy (hc : CallR X (.type T) r) (hg : Gl X x) (hm : X.mg x = none) (hv : bootBuiltins x = some (.type T)) (ha : PA X (e :: es) t) (hn : x ≠ "__name__" := by decide) (hdb : (x == ("__debug__" : Str)) = false := by decide)
    (he : starEach (e :: es) X.env = (false, eval e X.env) :: starEach es X.env := by rfl) (hpl : (backTo pos (starEach es X.env)).any (·.1) = false := by rfl) : PE X (.Call (.Name x p) (e :: es) [] pos) (tCB r t) := by
  intro pins s σ H Q I h
  refine wpAny_Call_Name_kw (ld_blt I hg hm hv ?_ hn hdb)
  exact PyProof.Rows.callWith_type1 (thn (ha pos pins s σ H _ I h) fun us s1 ⟨vs, H1, I1, r1, q1⟩ => hc pins s1 σ H1 vs us Q I1 r1 q1) he hpl
end
end L2
namespace HT
open PySem PyProof.Rows
section
open PySem.SeqAt
open PySem.AutoSeq1 (wpAny_loadPart')
open PySem.MeetsSeq PySem.MeetsSeq2 PySem.MeetsSeq3
end
section
variable {prog : Program} {w : World} {A : Around} {E : Value → Shared → Prop} {s : Shared}
theorem cat_tup {t b : Addr} {vs ws : List Value} {Q : Value → Shared → Prop} (ht : IsTup s.heap t vs.toArray) (hb : IsTup s.heap b ws.toArray) (hv : vs ≠ [])
    (h1 : ws = [] → Q (.ref t) s) (h2 : ws ≠ [] → Q (.ref s.heap.objs.size) { s with heap := s.heap.push { cls := .type "tuple", data := .seq (vs ++ ws).toArray } })
    (hsz : vs.length + ws.length ≤ sizeLine) : wpAny (model prog w) A (binaryOp .Add (.ref t) (.ref b)) Q E s := by
  obtain ⟨⟨cls, dd, data, sl⟩, ho, hc, n, hd⟩ := id ht
  obtain ⟨⟨cls2, dd2, data2, sl2⟩, ho2, hc2, n2, hd2⟩ := id hb
  simp only at hc hd hc2 hd2
  subst hc hd hc2 hd2
  have e : vs.toArray ++ ws.toArray = (vs ++ ws).toArray := by simp
  by_cases hw : ws = []
  · exact concat_meets ⟨_, ho, rfl⟩ ⟨_, ho2, rfl⟩ noFill_tuple_add seq_tuple_add PySem.F.slot_tuple_add PySem.F.entry_tuple_add (PySem.F.args_tuple_add_2 _ _)
      (tuple_addW1 t b vs.toArray ws.toArray n n2 dd dd2 sl sl2 (by simpa using hv) (by simp [hw])) ⟨ho, ho2, h1 hw⟩
  · refine concat_meets ⟨_, ho, rfl⟩ ⟨_, ho2, rfl⟩ noFill_tuple_add seq_tuple_add PySem.F.slot_tuple_add PySem.F.entry_tuple_add (PySem.F.args_tuple_add_2 _ _)
      (tuple_addW2 t b vs.toArray ws.toArray n n2 dd dd2 sl sl2 (by simpa using hv) (by simpa using hw) (by rw [List.size_toArray, List.size_toArray]; exact hsz)) ⟨ho, ho2, ?_⟩
    rw [e]
    exact h2 hw
noncomputable def sIx (n d : Nat) : Option Int → Nat
  | none => d
  | some v => if v < 0 then (v + (n : Int)).toNat else min v.toNat n
theorem sIx_le (n d : Nat) (hd : d ≤ n) (o : Option Int) : sIx n d o ≤ n := by
  cases o with
  | none => exact hd
  | some v =>
    show (if v < 0 then (v + (n : Int)).toNat else min v.toNat n) ≤ n
    by_cases hv : v < 0
    · rw [if_pos hv]; omega
    · rw [if_neg hv]; exact Nat.min_le_right _ _
theorem clip_eq (v : Int) (n d : Nat) : (if v < 0 then max (v + (n : Int)) 0 else min v (n : Int)) = ((sIx n d (some v) : Nat) : Int) := by
  show (if v < 0 then max (v + (n : Int)) 0 else min v (n : Int)) = (((if v < 0 then (v + (n : Int)).toNat else min v.toNat n) : Nat) : Int)
  by_cases hv : v < 0
  · simp only [if_pos hv]; omega
  · simp only [if_neg hv]; omega
theorem adjust_gen (lo hi : Option Int) (n : Nat) : Builtin.Slice.sliceAdjust lo hi 1 (n : Int) = (((sIx n 0 lo : Nat) : Int), ((sIx n n hi : Nat) : Int)) := by
  have h1 : ¬ ((1 : Int) < 0) := by omega
  unfold Builtin.Slice.sliceAdjust
  simp only [h1, if_false]
  refine Prod.ext ?_ ?_
  · cases lo with
    | none => rfl
    | some v => exact clip_eq v n 0
  · cases hi with
    | none => rfl
    | some v => exact clip_eq v n n
theorem places_gen (i j : Nat) : Builtin.Slice.slicePlaces (i : Int) (j : Int) 1 = j - i := by
  unfold Builtin.Slice.slicePlaces
  have h1 : (1 : Int) > 0 := by omega
  simp only [h1, if_true, Int.ediv_one]
  split <;> omega
theorem slicePart_ {v : Value} {o : Option Int} {Q : Option Int → Shared → Prop} (p : IsPart v o) (h : Q o s) : wpAny (model prog w) A (Builtin.Slice.slicePartIndex v) Q E s := by
  cases p with
  | none => exact slicePart_none h
  | int i t => exact slicePart_int h
theorem sliceApplied_gen {sl : Addr} {vl vu : Value} {lo hi : Option Int} {n : Nat} {Q : Int × Int × Nat → Shared → Prop} (hs : s.heap.IsSliceOf sl vl vu .none) (pl : IsPart vl lo) (pu : IsPart vu hi)
    (h : Q (((sIx n 0 lo : Nat) : Int), 1, sIx n n hi - sIx n 0 lo) s) : wpAny (model prog w) A (Builtin.Slice.sliceApplied (.ref sl) (pure (n : Int))) Q E s := by
  obtain ⟨os, hos, hcs, hds⟩ := id hs
  unfold Builtin.Slice.sliceApplied Builtin.Slice.sliceFields
  refine wpAny_bind (wpAny_bind (wpAny_field hos hds (x := vl) rfl (wpAny_bind (wpAny_field hos hds (x := vu) rfl (wpAny_bind (wpAny_field hos hds (x := .none) rfl (wpAny_pure ?_)))))))
  refine wpAny_bind (slicePart_none ?_)
  show wpAny _ _ (if ((1 : Int) == 0) = true then _ else _) _ _ s
  rw [if_neg (by decide)]
  refine wpAny_bind (slicePart_ pl (wpAny_bind (slicePart_ pu (wpAny_bind (wpAny_pure ?_)))))
  show wpAny _ _ (match Builtin.Slice.sliceAdjust lo hi 1 (n : Int) with | (lo, hi) => pure (lo, (1 : Int), Builtin.Slice.slicePlaces lo hi 1)) _ _ s
  rw [adjust_gen lo hi n]
  show wpAny _ _ (pure (((sIx n 0 lo : Nat) : Int), (1 : Int), Builtin.Slice.slicePlaces ((sIx n 0 lo : Nat) : Int) ((sIx n n hi : Nat) : Int) 1)) _ _ s
  rw [places_gen]
  exact wpAny_pure h
theorem pick_gen (xs : Array Value) (i k : Nat) : ((List.range k).filterMap fun (m : Nat) => xs[((i : Int) + (m : Int) * 1).toNat]?).toArray = ((xs.toList.drop i).take k).toArray := by
  have e : (fun (m : Nat) => xs[((i : Int) + (m : Int) * 1).toNat]?) = fun m => xs[i + m]? := by
    funext m
    have : ((i : Int) + (m : Int) * 1).toNat = i + m := by omega
    rw [this]
  rw [e]
  have := pick_run xs i k
  rw [List.filterMap_map] at this
  have e2 : ((fun x => xs[x]?) ∘ fun x => i + x) = fun m => xs[i + m]? := rfl
  rw [e2] at this
  rw [this]
theorem getItem_tuple_cut {t sl : Addr} {items : Array Value} {vl vu : Value} {lo hi : Option Int} {Q : Value → Shared → Prop} (ht : IsTup s.heap t items) (hs : s.heap.IsSliceOf sl vl vu .none) (pl : IsPart vl lo) (pu : IsPart vu hi)
    (hw : ¬ (sIx items.size 0 lo = 0 ∧ sIx items.size items.size hi = items.size))
    (h : Q (.ref s.heap.objs.size) { s with heap := s.heap.push { cls := .type "tuple", data := .seq ((items.toList.drop (sIx items.size 0 lo)).take (sIx items.size items.size hi - sIx items.size 0 lo)).toArray } })
    (hsz : items.size ≤ sizeLine) : wpAny (model prog w) A (getItem (.ref t) (.ref sl)) Q E s := by
  have htake : sizeOk (.seq ((items.toList.drop (sIx items.size 0 lo)).take (sIx items.size items.size hi - sIx items.size 0 lo)).toArray) := by
    show ((items.toList.drop (sIx items.size 0 lo)).take (sIx items.size items.size hi - sIx items.size 0 lo)).toArray.size ≤ sizeLine
    rw [List.size_toArray, List.length_take, List.length_drop, Array.length_toList]
    omega
  have hj : sIx items.size items.size hi ≤ items.size := sIx_le _ _ (Nat.le_refl _) hi
  obtain ⟨os, hos, hcs, hds⟩ := id hs
  have hTs : s.TypeIs (.ref sl) "slice" := ⟨os, hos, hcs⟩
  unfold getItem
  try with_reducible refine wpAny_holding ?_
  first | refine wpAny_bind (wpAny_pure ?_) | skip
  refine wpAny_bind (wpAny_sequenceKey ht.typeIs (by decide) ?_)
  refine wpAny_bind (wpAny_callSpecial?_slot (name := Str.ofString "__getitem__") ht.typeIs PyProof.Rows.slot_tuple_getitem
    (wpAny_call_entry PyProof.Rows.slot_tuple_getitem ht.typeIs entry_tuple_getitem ?_ (args_tuple_getitem _ _)))
  show wpAny _ _ (Builtin.Tuple.tupleItemsOf (.ref t) >>= _) _ _ s
  refine wpAny_bind (tupleItemsOf_ ht ?_)
  refine wpAny_bind (wpAny_typeOf hTs ?_)
  rw [if_pos (by decide)]
  refine wpAny_bind (sliceApplied_gen hs pl pu ?_)
  have hno : ¬ ((((sIx items.size 0 lo : Nat) : Int) == 0 && (1 : Int) == 1 && (sIx items.size items.size hi - sIx items.size 0 lo) == items.size) = true) := by
    intro q
    rw [Bool.and_eq_true, Bool.and_eq_true] at q
    have q1 : ((sIx items.size 0 lo : Nat) : Int) = 0 := eq_of_beq q.1.1
    have q2 : sIx items.size items.size hi - sIx items.size 0 lo = items.size := eq_of_beq q.2
    exact hw ⟨by omega, by omega⟩
  show wpAny _ _ (if (((sIx items.size 0 lo : Nat) : Int) == 0 && (1 : Int) == 1 && (sIx items.size items.size hi - sIx items.size 0 lo) == items.size) = true then _ else _) _ _ s
  rw [if_neg hno, pick_gen]
  first
    | exact wpAny_bind (m := Builtin.Tuple.tupleExact _) (wpAny_newObj_type (wpAny_pure ⟨_, rfl, wpAny_pure h⟩) htake)
    | exact wpAny_bind (m := Builtin.Tuple.tupleExact _) (wpAny_newObj_type (wpAny_bind (wpAny_pure (wpAny_pure ⟨_, rfl, wpAny_pure h⟩))) htake)
    | exact wpAny_bind (wpAny_bind (m := Builtin.Tuple.tupleExact _) (wpAny_newObj_type (wpAny_pure (wpAny_pure ⟨_, rfl, wpAny_pure h⟩)) htake))
    | exact wpAny_bind (wpAny_bind (m := Builtin.Tuple.tupleExact _) (wpAny_newObj_type (wpAny_pure ⟨_, rfl, wpAny_pure h⟩) htake))
end
end HT
namespace L2
open PySem PySem.Spec PyProof.Rows
noncomputable abbrev TO := St → Hp → (Option Int → Hp → Prop) → Prop
noncomputable def PO (X : Cx) (e : Option Expr) (t : TO) : Prop :=
  ∀ (pins : List (Addr × Obj)) (s : Shared) (σ : St) (H : Hp) (Q : Option Int → Hp → Prop), Inv X pins σ H s → t σ H Q →
    wpAny (model X.prog X.w) X.A (evalPart e X.env) (fun u s' => ∃ o H', Inv X pins σ H' s' ∧ IsPart u o ∧ Q o H') X.xe s
noncomputable def tNoPart : TO := fun _ H Q => Q none H
noncomputable def tPart (t : TE) : TO := fun σ H Q => t σ H fun x H1 => ∃ i, x = .int i ∧ Q (some i) H1
section
variable {X : Cx} {e : Expr} {te : TE} {lo hi : Option Expr} {tl th : TO} {pos p2 : Pos}
theorem po_none : PO X none tNoPart := by
  intro pins s σ H Q I h
  rw [evalPart_none]
  exact wpAny_pure ⟨none, H, I, .none, h⟩
theorem po_some (h : PE X e te) : PO X (some e) (tPart te) := by
  intro pins s σ H Q I hw
  rw [evalPart_some]
  refine thn (h pins s σ H _ I hw) fun u s1 ⟨x, H1, I1, r1, q1⟩ => ?_
  obtain ⟨i, rfl, q⟩ := q1
  obtain ⟨t, rfl⟩ := r1
  exact ⟨some i, H1, I1, .int i t, q⟩
noncomputable def SlR (X : Cx) (r : V → Option Int → Option Int → Hp → VK → Prop) : Prop :=
  ∀ (pins : List (Addr × Obj)) (s : Shared) (σ : St) (H : Hp) (x : V) (v vl vu : Value) (lo hi : Option Int) (sl : Addr) (Q : VK), Inv X pins σ H s → RelV x v → s.heap.IsSliceOf sl vl vu .none → IsPart vl lo → IsPart vu hi → r x lo hi H Q →
    ∃ T id, typeLookup (.type T) "__getitem__" = pure (some (.builtin id)) ∧ s.TypeIs v T ∧ wpAny (model X.prog X.w) X.A (getItem v (.ref sl)) (EP X pins σ Q) X.xe s
noncomputable def tSl (r : V → Option Int → Option Int → Hp → VK → Prop) (te : TE) (tl th : TO) : TE := fun σ H Q => te σ H fun x H1 => tl σ H1 fun l H2 => th σ H2 fun u H3 => r x l u H3 Q
theorem pe_slice {r : V → Option Int → Option Int → Hp → VK → Prop} (hr : SlR X r) (he : PE X e te) (hl : PO X lo tl) (hu : PO X hi th) : PE X (.Subscript e (.Slice lo hi none p2) pos) (tSl r te tl th) := by
  intro pins s σ H Q I h
  refine Subscript_ (thn (he pins s σ H _ I h) fun v s1 ⟨x, H1, I1, r1, q1⟩ => ?_)
  refine wpAny_Slice (thn (hl pins s1 σ H1 _ I1 q1) fun vl s2 ⟨l, H2, I2, pl, q2⟩ => thn (hu pins s2 σ H2 _ I2 q2) fun vu s3 ⟨u, H3, I3, pu, q3⟩ => ?_)
  rw [evalPart_none]
  refine wpAny_pure ?_
  have I4 : Inv X pins σ H3 { s3 with heap := s3.heap.push { cls := .type "slice", data := .fields #[vl, vu, .none] } } := I3.kept (t' := s3.toks) fun b ob q => Heap.get?_push_of_some _ q
  obtain ⟨T, id, hT, ht, hg⟩ := hr pins { s3 with heap := s3.heap.push { cls := .type "slice", data := .fields #[vl, vu, .none] } } σ H3 x v vl vu l u s3.heap.objs.size Q I4 r1 (Heap.IsSliceOf.new ..) pl pu q3
  show wpAny (model X.prog X.w) X.A (subscriptTail e (.Slice lo hi none p2) v (.ref s3.heap.objs.size)) (EP X pins σ Q) X.xe { s3 with heap := s3.heap.push { cls := .type "slice", data := .fields #[vl, vu, .none] } }
  exact tail_any (ops := [.ref s3.heap.objs.size, v]) ht hT hg (by with_unfolding_all rfl)
noncomputable def cutV (xs : List V) (lo hi : Option Int) : List V := (xs.drop (HT.sIx xs.length 0 lo)).take (HT.sIx xs.length xs.length hi - HT.sIx xs.length 0 lo)
theorem cutV_length (xs : List V) (lo hi : Option Int) : (cutV xs lo hi).length ≤ xs.length := by
  unfold cutV
  rw [List.length_take, List.length_drop]
  omega
noncomputable def rSlT (K : PySem.W.Frag) : V → Option Int → Option Int → Hp → VK → Prop := fun x lo hi H Q => ∃ a xs, x = .ref a ∧ SqT K H a xs ∧
  ¬ (HT.sIx xs.length 0 lo = 0 ∧ HT.sIx xs.length xs.length hi = xs.length) ∧ ∀ p, H p = none → Q (.ref p) (upd H p (.tup (cutV xs lo hi)))
theorem sl_tup : SlR X (rSlT X.K) := by
  intro pins s σ H x v vl vu lo hi sl Q I rx hs pl pu h
  obtain ⟨a, xs, rfl, hx, hw, q⟩ := h
  cases rx
  obtain ⟨its, r, ht, hz⟩ := I.tuple hx
  have hlen : its.toArray.size = xs.length := by rw [List.size_toArray]; exact r.length.symm
  refine ⟨"tuple", _, PyProof.Rows.slot_tuple_getitem.lookup, ht.typeIs, ?_⟩
  refine HT.getItem_tuple_cut ht hs pl pu (by rw [hlen]; exact hw) ?_ (by rw [hlen]; exact hz)
  rw [hlen]
  refine ⟨.ref s.heap.objs.size, _, I.laid (t' := s.toks) (o := .tup (cutV xs lo hi)) (fun b ob q => Heap.get?_push_of_some _ q) (Nat.le_refl _) ?_, rfl, q _ (I.hok.fresh (Nat.le_refl _))⟩
  exact ⟨Nat.le_trans (cutV_length xs lo hi) hz, _, (r.drop (HT.sIx xs.length 0 lo)).take (HT.sIx xs.length xs.length hi - HT.sIx xs.length 0 lo), IsTup.new _ _⟩
noncomputable def rCatT (K : PySem.W.Frag) : R2 := fun x y H Q => ∃ a b xs ys, x = .ref a ∧ y = .ref b ∧ SqT K H a xs ∧ SqT K H b ys ∧ xs ≠ [] ∧ xs.length + ys.length ≤ sizeLine ∧
  (ys = [] → Q (.ref a) H) ∧ (ys ≠ [] → ∀ p, H p = none → Q (.ref p) (upd H p (.tup (xs ++ ys))))
theorem Vals.nil_iff {xs : List V} {us : List Value} (r : Vals xs us) : us = [] ↔ xs = [] := by
  cases r with
  | nil => simp
  | cons _ _ => simp
theorem op_catT : OpR X (binaryOp .Add) (rCatT X.K) := by
  intro pins s σ H x y v u Q I rx ry h
  obtain ⟨a, b, xs, ys, rfl, rfl, ha, hb, hx, hz, q1, q2⟩ := h
  cases rx
  cases ry
  obtain ⟨its, r1, p1, _⟩ := I.tuple ha
  obtain ⟨its2, r2, p2, _⟩ := I.tuple hb
  refine HT.cat_tup p1 p2 (fun z => hx (r1.nil_iff.mp z)) (fun z => ⟨.ref a, H, I, rfl, q1 (r2.nil_iff.mp z)⟩) (fun z => ?_) (by rw [← r1.length, ← r2.length]; exact hz)
  refine ⟨.ref s.heap.objs.size, _, I.laid (t' := s.toks) (o := .tup (xs ++ ys)) (fun b ob q => Heap.get?_push_of_some _ q) (Nat.le_refl _) ?_, rfl, q2 (fun w => z (r2.nil_iff.mpr w)) _ (I.hok.fresh (Nat.le_refl _))⟩
  exact ⟨by rw [List.length_append]; exact hz, _, r1.append r2, IsTup.new _ _⟩
end
end L2
namespace L2
open PySem PySem.Spec PyProof.Rows
noncomputable def ixN (n : Nat) (i : Int) : Option Nat := if 0 ≤ i then (if i < n then some i.toNat else none) else if -(n : Int) ≤ i then some (i + n).toNat else none
noncomputable def atI {α : Type} (xs : List α) (i : Int) : Option α := (ixN xs.length i).bind fun j => xs[j]?
theorem ixN_seq {n : Nat} {i : Int} {j : Nat} (h : ixN n i = some j) : seqIndex? i n = some j ∧ j < n ∧ -(n : Int) ≤ i ∧ i < n := by
  unfold ixN at h
  by_cases h0 : 0 ≤ i
  · rw [if_pos h0] at h
    by_cases h1 : i < n
    · rw [if_pos h1] at h
      have e : i.toNat = j := Option.some.inj h
      exact ⟨by rw [seqIndex_of h0 h1, e], by omega, by omega, h1⟩
    · rw [if_neg h1] at h; cases h
  · rw [if_neg h0] at h
    by_cases h1 : -(n : Int) ≤ i
    · rw [if_pos h1] at h
      have e : (i + n).toNat = j := Option.some.inj h
      exact ⟨by rw [seqIndex_neg (by omega) h1, e], by omega, h1, by omega⟩
    · rw [if_neg h1] at h; cases h
theorem atI_get {α : Type} {xs : List α} {i : Int} {v : α} (h : atI xs i = some v) : ∃ j, seqIndex? i xs.length = some j ∧ xs[j]? = some v ∧ j < xs.length ∧ -(xs.length : Int) ≤ i ∧ i < xs.length := by
  unfold atI at h
  cases e : ixN xs.length i with
  | none => rw [e] at h; cases h
  | some j =>
    rw [e] at h
    obtain ⟨h1, h2, h3, h4⟩ := ixN_seq e
    exact ⟨j, h1, h, h2, h3, h4⟩
noncomputable def PlainIx (b : Expr) : Prop := ∀ o i, subscripted b false o i = operate [o, i] (getItem o i)
noncomputable def IxR (X : Cx) (r : R2) : Prop :=
  ∀ (value slice : Expr) (pins : List (Addr × Obj)) (s : Shared) (σ : St) (H : Hp) (x y : V) (v u : Value) (Q : VK), Inv X pins σ H s → RelV x v → RelV y u → r x y H Q →
    subscripted slice false v u = operate [v, u] (getItem v u) → wpAny (model X.prog X.w) X.A (subscriptTail value slice v u) (EP X pins σ Q) X.xe s
noncomputable def MtR (X : Cx) (id : String) (r : V → List V → Hp → VK → Prop) : Prop :=
  ∀ (pins : List (Addr × Obj)) (s : Shared) (σ : St) (H : Hp) (x : V) (xs : List V) (v : Value) (us : List Value) (Q : VK), Inv X pins σ H s → RelV x v → Vals xs us → r x xs H Q →
    wpAny (model X.prog X.w) X.A (call (.builtin id) (v :: us)) (EP X pins σ Q) X.xe s
section
variable {X : Cx} {a b : Expr} {ta tb : TE} {pos : Pos}
theorem IxR.or {r r' : R2} (h : IxR X r) (h' : IxR X r') : IxR X (fun x y H Q => r x y H Q ∨ r' x y H Q) := by
  intro value slice pins s σ H x y v u Q I rx ry q hs
  rcases q with q | q
  · exact h value slice pins s σ H x y v u Q I rx ry q hs
  · exact h' value slice pins s σ H x y v u Q I rx ry q hs
theorem pe_ix {r : R2} (hr : IxR X r) (ha : PE X a ta) (hb : PE X b tb) (hs : PlainIx b) : PE X (.Subscript a b pos) (tOp r ta tb) := by
  intro pins s σ H Q I h
  exact Subscript_ (binT ha hb I h fun v u s2 x y H2 I2 rx ry q => hr a b pins s2 σ H2 x y v u Q I2 rx ry q (hs _ _))
noncomputable def rIxL (K : PySem.W.Frag) : R2 := fun x y H Q => ∃ p xs i v, x = .ref p ∧ y = .int i ∧ SqL K H p xs ∧ atI xs i = some v ∧ Q v H
noncomputable def rIxT (K : PySem.W.Frag) : R2 := fun x y H Q => ∃ p xs i v, x = .ref p ∧ y = .int i ∧ SqT K H p xs ∧ atI xs i = some v ∧ Q v H
theorem ix_list : IxR X (rIxL X.K) := by
  intro value slice pins s σ H x y v u Q I rx ry h hs
  obtain ⟨p, xs, i, z, rfl, rfl, hq, he, q⟩ := h
  cases rx
  obtain ⟨t, rfl⟩ := ry
  obtain ⟨its, r, pl, hz⟩ := I.list hq
  obtain ⟨j, h1, h2, h3, h4, h5⟩ := atI_get he
  obtain ⟨w, ew, rw'⟩ := r.get h2
  have hl := r.length
  have hn := line63
  have fin : EP X pins σ Q w s := ⟨z, H, I, rw', q⟩
  by_cases h0 : 0 ≤ i
  · have hj : i.toNat = j := by
      rw [seqIndex_of h0 h5] at h1
      exact Option.some.inj h1
    exact item_listR pl.isList h0 (by omega) (by rw [hj]; simpa using ew) fin hs
  · have hj : (i + (its.toArray.size : Int)).toNat = j := by
      rw [seqIndex_neg (by omega) h4] at h1
      rw [List.size_toArray, ← hl]
      exact Option.some.inj h1
    exact subscriptTail_builtinR (x := w) pl.isList.typeIs slot_list_getitem.lookup
      (wpAny_getItem_list_neg (Q := fun r s' => r = w ∧ EP X pins σ Q r s') pl.isList (by omega) (by rw [List.size_toArray] <;> omega) (by omega) (by rw [hj]; simpa using ew) ⟨rfl, fin⟩) hs
theorem ix_tup : IxR X (rIxT X.K) := by
  intro value slice pins s σ H x y v u Q I rx ry h hs
  obtain ⟨p, xs, i, z, rfl, rfl, hq, he, q⟩ := h
  cases rx
  obtain ⟨t, rfl⟩ := ry
  obtain ⟨its, r, pl, hz⟩ := I.tuple hq
  obtain ⟨j, h1, h2, h3, h4, h5⟩ := atI_get he
  obtain ⟨w, ew, rw'⟩ := r.get h2
  have hl := r.length
  have hn := line63
  have fin : EP X pins σ Q w s := ⟨z, H, I, rw', q⟩
  exact subscriptTail_builtinR (x := w) pl.typeIs slot_tuple_getitem.lookup
    (getItem_tuple (j := j) (Q := fun r s' => r = w ∧ EP X pins σ Q r s') pl (by omega) (by omega) (by rw [List.size_toArray, ← hl]; exact h1) (by simpa using ew) ⟨rfl, fin⟩) hs
theorem mapSeq_set (its : List Value) (n j : Nat) (u : Value) : Obj.mapSeq (·.setIfInBounds j u) { cls := .type "list", data := .seq its.toArray n } = { cls := .type "list", data := .seq (its.set j u).toArray n } := by
  simp [Obj.mapSeq]
theorem Inv.lst {pins : List (Addr × Obj)} {σ : St} {H : Hp} {s : Shared} {p : Addr} {xs : List V} (I : Inv X pins σ H s) (h : H p = some (.lst xs)) :
    ∃ (its : List Value) (n : Nat), Vals xs its ∧ s.heap.get? p = some { cls := .type "list", data := .seq its.toArray n } ∧ xs.length ≤ sizeLine := by
  obtain ⟨z, its, n, r, e⟩ := I.hok p _ h
  exact ⟨its, n, r, e, z⟩
theorem Inv.lstUpd {pins : List (Addr × Obj)} {σ : St} {H : Hp} {s : Shared} {p : Addr} {xs ys : List V} {its its' : List Value} {n n' : Nat} {f : Obj → Obj} (I : Inv X pins σ H s) (h : H p = some (.lst xs))
    (ho : s.heap.get? p = some { cls := .type "list", data := .seq its.toArray n }) (hf : f { cls := .type "list", data := .seq its.toArray n } = { cls := .type "list", data := .seq its'.toArray n' }) (r : Vals ys its') (hz : ys.length ≤ sizeLine) (t : Nat) :
    Inv X pins σ (upd H p (.lst ys)) { s with heap := s.heap.update p f, toks := t } := by
  have e : (s.heap.update p f).get? p = some { cls := .type "list", data := .seq its'.toArray n' } := by
    rw [Heap.get?_update_self f ho (by rw [hf] <;> rfl), hf]
  refine I.write (x := p) (e := p) (by rw [h]; trivial) (.inl rfl) (fun b u hb q => (Heap.get?_update_other _ _ (Ne.symm hb)).trans q) ⟨_, e⟩ ?_
  exact ⟨hz, its', n', r, e⟩
noncomputable def rSetL : V → V → V → Hp → (Hp → Prop) → Prop := fun o i v H Q => ∃ p xs k j, o = .ref p ∧ i = .int k ∧ H p = some (.lst xs) ∧ ixN xs.length k = some j ∧ Q (upd H p (.lst (xs.set j v)))
theorem set_list : PSet X rSetL := by
  intro pins s σ H o i v ov iv u Q I ro ri rv h
  obtain ⟨p, xs, k, j, rfl, rfl, hp, hj, q⟩ := h
  cases ro
  obtain ⟨t, rfl⟩ := ri
  obtain ⟨its, n, r, ho, hz⟩ := I.lst hp
  obtain ⟨h1, h2, h3, h4⟩ := ixN_seq hj
  have hl := r.length
  have hn := line63
  have I' : Inv X pins σ (upd H p (.lst (xs.set j v))) { s with heap := s.heap.update p (Obj.mapSeq (·.setIfInBounds j u)) } :=
    I.lstUpd hp ho (mapSeq_set its n j u) (r.set rv j) (by rw [List.length_set]; exact hz) s.toks
  by_cases h0 : 0 ≤ k
  · have hk : k.toNat = j := by
      rw [seqIndex_of h0 h4] at h1
      exact Option.some.inj h1
    exact PySem.W.ki_setAt ho h0 (by omega) (by rw [List.size_toArray, ← hl]; exact h4) (by rw [hk]; exact ⟨_, I', q⟩)
  · have hk : (k + (its.toArray.size : Int)).toNat = j := by
      rw [seqIndex_neg (by omega) h3] at h1
      rw [List.size_toArray, ← hl]
      exact Option.some.inj h1
    exact PySem.W.ki_setBack ho (by omega) (by rw [List.size_toArray, ← hl]; exact h3) (by omega) (by rw [hk]; exact ⟨_, I', q⟩)
theorem slice_bounds (lo hi : Option Int) (n : Nat) : (sliceBounds lo hi none n).1 = ((HT.sIx n 0 lo : Nat) : Int) ∧ (sliceBounds lo hi none n).2.1 = ((HT.sIx n n hi : Nat) : Int) ∧ (sliceBounds lo hi none n).2.2 = 1 := by
  refine ⟨?_, ?_, rfl⟩
  · cases lo with
    | none => simp [sliceBounds, HT.sIx]
    | some i =>
      simp only [sliceBounds, HT.sIx, Option.getD_none, show (1 : Int) > 0 by decide, if_true]
      by_cases h : i < 0
      · simp only [h, if_true] <;> omega
      · simp only [h, if_false] <;> omega
  · cases hi with
    | none => simp [sliceBounds, HT.sIx]
    | some i =>
      simp only [sliceBounds, HT.sIx, Option.getD_none, show (1 : Int) > 0 by decide, if_true]
      by_cases h : i < 0
      · simp only [h, if_true] <;> omega
      · simp only [h, if_false] <;> omega
theorem slicePick_cut (its : List Value) (lo hi : Option Int) : slicePick its.toArray lo hi none = ((its.drop (HT.sIx its.length 0 lo)).take (HT.sIx its.length its.length hi - HT.sIx its.length 0 lo)).toArray := by
  obtain ⟨h1, h2, h3⟩ := slice_bounds lo hi its.toArray.size
  unfold slicePick
  rw [h1, h2, h3]
  simp only [sliceRange_one, pick_run, List.size_toArray] <;> rfl
noncomputable def rSlL (K : PySem.W.Frag) : V → Option Int → Option Int → Hp → VK → Prop := fun x lo hi H Q => ∃ a xs, x = .ref a ∧ SqL K H a xs ∧ ∀ p, H p = none → Q (.ref p) (upd H p (.lst (cutV xs lo hi)))
theorem sl_list : SlR X (rSlL X.K) := by
  intro pins s σ H x v vl vu lo hi sl Q I rx hs pl pu h
  obtain ⟨a, xs, rfl, hx, q⟩ := h
  cases rx
  obtain ⟨its, r, ht, hz⟩ := I.list hx
  have hlen := r.length
  refine ⟨"list", _, slot_list_getitem.lookup, ht.isList.typeIs, ?_⟩
  refine wpAny_getItem_list_slice ht.isList hs pl pu .none (by simp) ?_ (by rw [List.size_toArray] <;> omega)
  rw [slicePick_cut, ← hlen]
  refine ⟨.ref s.heap.objs.size, _, I.laid (t' := s.toks) (o := .lst (cutV xs lo hi)) (fun b ob q => Heap.get?_push_of_some _ q) (Nat.le_refl _) ?_, rfl, q _ (I.hok.fresh (Nat.le_refl _))⟩
  exact ⟨Nat.le_trans (cutV_length xs lo hi) hz, _, 0, (r.drop (HT.sIx xs.length 0 lo)).take (HT.sIx xs.length xs.length hi - HT.sIx xs.length 0 lo), Heap.get?_push_size _ rfl⟩
theorem call_len_seq : CallR X (.builtin "len") (fun xs H Q => ∃ p ys, xs = [.ref p] ∧ (SqL X.K H p ys ∨ SqT X.K H p ys) ∧ Q (.int ys.length) H) := by
  intro pins s σ H xs us Q I r h
  obtain ⟨p, ys, rfl, hq, q⟩ := h
  obtain ⟨u, rfl, rx⟩ := vals1 r
  cases rx
  have hn := line63
  rcases hq with hq | hq
  · obtain ⟨its, r', pl, hz⟩ := I.list hq
    have hlen := r'.length
    exact Calls.call_len_list pl.isList (by simp only [List.size_toArray] <;> omega) ⟨.int ys.length, H, I.tok _, ⟨s.toks + 1, by rw [List.size_toArray, hlen]⟩, q⟩
  · obtain ⟨its, r', pl, hz⟩ := I.tuple hq
    have hlen := r'.length
    exact len_tuple pl (by simp only [List.size_toArray] <;> omega) ⟨.int ys.length, H, I.tok _, ⟨s.toks + 1, by rw [List.size_toArray, hlen]⟩, q⟩
theorem call_len_str : CallR X (.builtin "len") (fun xs H Q => ∃ z, xs = [.str z] ∧ z.length ≤ sizeLine ∧ Q (.int z.length) H) := by
  intro pins s σ H xs us Q I r h
  obtain ⟨z, rfl, hz, q⟩ := h
  obtain ⟨u, rfl, t, rfl⟩ := vals1 r
  have hn := line63
  exact len_str (by omega) ⟨.int z.length, H, I.tok _, ⟨_, rfl⟩, q⟩
theorem call_list_of : CallR X (.type "list") (fun xs H Q => ∃ p ys, xs = [.ref p] ∧ (SqL X.K H p ys ∨ SqT X.K H p ys) ∧ ∀ l, H l = none → Q (.ref l) (upd H l (.lst ys))) := by
  intro pins s σ H xs us Q I r h
  obtain ⟨p, ys, rfl, hq, q⟩ := h
  obtain ⟨u, rfl, rx⟩ := vals1 r
  cases rx
  have fin : ∀ (its : List Value), Vals ys its → ys.length ≤ sizeLine → ∀ (h' : Heap) (c' : Nat), (∀ b o', s.heap.get? b = some o' → h'.get? b = some o') →
      h'.get? s.heap.objs.size = some { cls := .type "list", dict := none, data := .seq its.toArray c', slots := #[] } → EP X pins σ Q (.ref s.heap.objs.size) { s with heap := h' } := fun its r' hz h' c' kp e =>
    ⟨.ref s.heap.objs.size, _, I.laid (t' := s.toks) kp (Nat.le_refl _) (show ObjOk X.prog X.w _ h' _ (.lst ys) from ⟨hz, its, c', r', e⟩), rfl, q _ (I.hok.fresh (Nat.le_refl _))⟩
  rcases hq with hq | hq
  · obtain ⟨its, r', pl, hz⟩ := I.list hq
    have hlen := r'.length
    obtain ⟨o, ho, hc, n, hd⟩ := pl.isList
    exact call_list_seq p (.inl rfl) ho hc hd (fun h' c' kp e => fin its r' hz h' c' kp e) (by simp only [List.size_toArray] <;> omega)
  · obtain ⟨its, r', pl, hz⟩ := I.tuple hq
    have hlen := r'.length
    obtain ⟨o, ho, hc, n, hd⟩ := pl
    exact call_list_seq p (.inr rfl) ho hc hd (fun h' c' kp e => fin its r' hz h' c' kp e) (by simp only [List.size_toArray] <;> omega)
theorem call_tuple_of : CallR X (.type "tuple") (fun xs H Q => ∃ p ys, xs = [.ref p] ∧ ((SqL X.K H p ys ∧ ∀ l, H l = none → Q (.ref l) (upd H l (.tup ys))) ∨ (SqT X.K H p ys ∧ Q (.ref p) H))) := by
  intro pins s σ H xs us Q I r h
  obtain ⟨p, ys, rfl, h⟩ := h
  obtain ⟨u, rfl, rx⟩ := vals1 r
  cases rx
  rcases h with ⟨hq, q⟩ | ⟨hq, q⟩
  · obtain ⟨its, r', pl, hz⟩ := I.list hq
    have hlen := r'.length
    refine call_tuple_list pl.isList (fun h' kp => ?_) (by simp only [List.size_toArray] <;> omega)
    have I1 : Inv X pins σ H { s with heap := h' } := I.kept (t' := s.toks) kp
    have I2 : Inv X pins σ (upd H h'.objs.size (.tup ys)) { s with heap := h'.push { cls := .type "tuple", data := .seq its.toArray } } :=
      I1.laid (t' := s.toks) (fun b o e => Heap.get?_push_of_some _ e) (Nat.le_refl _) (show ObjOk X.prog X.w _ _ _ (.tup ys) from ⟨hz, its, r', IsTup.new _ _⟩)
    exact ⟨.ref h'.objs.size, _, I2, rfl, q _ (I1.hok.fresh (Nat.le_refl _))⟩
  · obtain ⟨its, r', pl, hz⟩ := I.tuple hq
    exact call_tuple_same pl ⟨.ref p, H, I, rfl, q⟩
noncomputable def tyV (K : PySem.W.Frag) (T : String) (x : V) (H : Hp) : Prop := match x with
  | .str _ => T = "str"
  | .int _ => T = "int"
  | .ref p => (T = "list" ∧ ∃ xs, SqL K H p xs) ∨ (T = "tuple" ∧ ∃ o, K.lookup p = some o ∧ o.cls = .type "tuple" ∧ o.dict = none) ∨
      (T = "dict" ∧ ((∃ kvs, H p = some (.dK kvs)) ∨ ∃ kvs, H p = some (.dT kvs))) ∨ (T = "set" ∧ ∃ S n, H p = some (.set S n))
  | _ => False
theorem tyV_is {pins : List (Addr × Obj)} {σ : St} {H : Hp} {s : Shared} {T : String} {x : V} {v : Value} (I : Inv X pins σ H s) (r : RelV x v) (ty : tyV X.K T x H) :
    s.TypeIs v T ∧ ∀ a, v = .ref a → ∃ ob, s.heap.get? a = some ob ∧ ob.dict = none := by
  cases x with
  | str z =>
    obtain ⟨t, rfl⟩ := r
    cases (show T = "str" from ty)
    exact ⟨typeIs_str s z t, fun _ e => nomatch e⟩
  | int i =>
    obtain ⟨t, rfl⟩ := r
    cases (show T = "int" from ty)
    exact ⟨typeIs_int s i t, fun _ e => nomatch e⟩
  | ref p =>
    cases r
    rcases ty with ⟨rfl, xs, hq⟩ | ⟨rfl, o, hk, hc, hd⟩ | ⟨rfl, hk⟩ | ⟨rfl, S, n, hk⟩
    · obtain ⟨its, _, pl, _⟩ := I.list hq
      refine ⟨pl.isList.typeIs, fun a e => ?_⟩
      cases e
      obtain ⟨o, n, e, c, hd, _⟩ := pl
      exact ⟨o, e, hd⟩
    · refine ⟨⟨o, I.kIn p o hk, hc⟩, fun a e => ?_⟩
      cases e
      exact ⟨o, I.kIn _ o hk, hd⟩
    · have z : ∃ o, s.heap.get? p = some o ∧ o.ExactDict := by
        rcases hk with ⟨kvs, hk⟩ | ⟨kvs, hk⟩
        · obtain ⟨_, _, _, _, o, _, _, e, ex, _⟩ := I.hok p _ hk
          exact ⟨o, e, ex⟩
        · obtain ⟨_, _, _, _, o, _, _, e, ex, _⟩ := I.hok p _ hk
          exact ⟨o, e, ex⟩
      obtain ⟨o, e, ex⟩ := z
      refine ⟨⟨o, e, ex.1⟩, fun a e2 => ?_⟩
      cases e2
      exact ⟨o, e, ex.2.1⟩
    · obtain ⟨o, _, _, _, e, ex, _⟩ := I.hok p _ hk
      refine ⟨⟨o, e, ex.1⟩, fun a e2 => ?_⟩
      cases e2
      exact ⟨o, e, ex.2.1⟩
  | _ => exact False.elim ty
noncomputable def tBM (K : PySem.W.Frag) (T : String) (r : V → List V → Hp → VK → Prop) (to : TE) (t : TA) : TE := fun σ H Q => to σ H fun x H1 => tyV K T x H1 ∧ t σ H1 fun xs H2 => r x xs H2 Q
variable {o e : Expr} {es : List Expr} {to : TE} {t : TA} {name : Str} {apos cpos : Pos} {T id : String} {r : V → List V → Hp → VK → Prop}
theorem pe_bm (pa : PlainAttrs T) (slot : Slot T name id) (hty : typeOf (.builtin id) = pure (.type "method_descriptor")) (hm : MtR X id r) (ho : PE X o to) (ha : PA X (e :: es) t)
    (hbase : attributeBase o name X.env (eval o X.env) = eval o X.env := by rfl)
    (hfew : ((backTo cpos (starEach (e :: es) X.env)).all (fun x => !x.1) && (backToKw cpos (keywordEach [] X.env)).all (fun x => x.1.isSome)
      && decide ((e :: es).length + ([] : List Keyword).length + (if ([] : List Keyword).isEmpty then 0 else 1) < 30)) = true := by rfl)
    (hline : (apos.endLine == cpos.line) = true := by rfl) (hs : starEach (e :: es) X.env = (false, eval e X.env) :: starEach es X.env := by rfl) (hplain : (backTo cpos (starEach es X.env)).any (·.1) = false := by rfl) :
    PE X (.Call (.Attribute o name apos) (e :: es) [] cpos) (tBM X.K T r to t) := by
  intro pins s σ H Q I h
  refine wpAny_Call_method_late hbase hfew hline rfl (thn (ho pins s σ H _ I h) fun v s1 ⟨x, H1, I1, r1, ty, q1⟩ => ?_)
  obtain ⟨h1, h2⟩ := tyV_is I1 r1 ty
  refine ⟨T, id, pa, slot, hty, h1, h2, ?_⟩
  have hA := ha cpos pins s1 σ H1 _ I1 q1
  rw [hs] at hA ⊢
  refine Calls.callWith_builtin (by show (false || (backTo cpos (starEach es X.env)).any (·.1)) = false; rw [hplain] <;> rfl) (Calls.evalArgs_plain ?_)
  exact thn hA fun us s2 ⟨vs, H2, I2, r2, q2⟩ => hm pins s2 σ H2 x vs v us Q I2 r1 r2 q2
/- xs.append(e), list.index on a module's tuple .. are MtR facts of 06m -/
end
end L2
namespace L2
open PySem PySem.Spec PyProof.Rows
noncomputable def MtM (X : Cx) (id : String) (r : V → List V → Hp → VK → Prop) : Prop :=
  ∀ (pins : List (Addr × Obj)) (s : Shared) (σ : St) (H : Hp) (x : V) (xs : List V) (v : Value) (us : List Value) (Q : VK), Inv X pins σ H s → RelV x v → Vals xs us → r x xs H Q →
    wpAny (model X.prog X.w) X.A (call (.builtin id) (v :: us)) (EP X pins σ Q) X.xe s
theorem Vals.one : ∀ {x : V} {us : List Value}, Vals [x] us → ∃ u, us = [u] ∧ RelV x u
  | _, _, .cons r .nil => ⟨_, rfl, r⟩
theorem Vals.zero : ∀ {us : List Value}, Vals [] us → us = []
  | _, .nil => rfl
theorem Vals.reverse {xs : List V} {us : List Value} (h : Vals xs us) : Vals xs.reverse us.reverse := by
  induction h with
  | nil => exact .nil
  | cons r t ih => rw [List.reverse_cons, List.reverse_cons]; exact Vals.append ih (.cons r .nil)
section
variable {X : Cx} {pins : List (Addr × Obj)} {σ : St} {H : Hp} {s : Shared} {l b : Addr} {xs ys zs : List V}
theorem Inv.lset {its its' : List Value} {n : Nat} {f : Array Value → Array Value} {t' : Nat} (I : Inv X pins σ H s) (hH : H l = some (.lst xs))
    (e : s.heap.get? l = some { cls := .type "list", data := .seq its.toArray n }) (hf : f its.toArray = its'.toArray) (hv : Vals ys its') (hz : ys.length ≤ sizeLine) :
    Inv X pins σ (upd H l (.lst ys)) { s with heap := s.heap.update l (Obj.mapSeq f), toks := t' } := by
  have q := PySem.IsL.update e f
  rw [hf] at q
  refine I.write (x := l) (e := l) (by rw [hH]; exact trivial) (.inl rfl) (fun b' u hb hu => (Heap.get?_update_other s.heap (Obj.mapSeq f) (Ne.symm hb)).trans hu) ⟨_, q⟩ ?_
  exact ⟨hz, its', _, hv, q⟩
theorem Inv.lnew {its : List Value} {t' : Nat} (I : Inv X pins σ H s) (hv : Vals ys its) (hz : ys.length ≤ sizeLine) :
    Inv X pins σ (upd H s.heap.objs.size (.lst ys)) { s with heap := s.heap.push { cls := .type "list", data := .seq its.toArray }, toks := t' } :=
  I.laid (fun _ _ q => Heap.get?_push_of_some _ q) (Nat.le_refl _) ⟨hz, its, 0, hv, Heap.get?_push_size _ rfl⟩
theorem Inv.fresh (I : Inv X pins σ H s) : H s.heap.objs.size = none := I.hok.fresh (Nat.le_refl _)
theorem Inv.lstM (I : Inv X pins σ H s) (hH : H l = some (.lst xs)) : xs.length ≤ sizeLine ∧ ∃ (its : List Value) (n : Nat), Vals xs its ∧ xs.length = its.length ∧ s.heap.get? l = some { cls := .type "list", data := .seq its.toArray n } := by
  obtain ⟨z, its, n, r, e⟩ := I.hok l _ hH
  exact ⟨z, its, n, r, r.length, e⟩
end
section
variable {X : Cx}
noncomputable def rAppend : V → List V → Hp → VK → Prop := fun x vs H Q => ∃ l xs y, x = .ref l ∧ vs = [y] ∧ H l = some (.lst xs) ∧ xs.length < sizeLine ∧ Q .non (upd H l (.lst (xs ++ [y])))
theorem mt_append : MtM X "list.append" rAppend := by
  intro pins s σ H x vs v us Q I rx rv h
  obtain ⟨l, xs, y, rfl, rfl, hH, hz, q⟩ := h
  cases rx
  obtain ⟨u, rfl, ru⟩ := rv.one
  obtain ⟨z, its, n, r, hl, e⟩ := I.lstM hH
  refine call_meets F.slot_list_append ⟨_, e, rfl⟩ F.entry_list_append (F.args_list_append_2 _ _) (PySem.list_append l its.toArray n u (by rw [List.size_toArray]; omega)) ⟨e, ?_⟩
  refine ⟨.non, _, I.lset (its' := its ++ [u]) hH e (by simp) (r.append (.cons ru .nil)) ?_, rfl, q⟩
  rw [List.length_append, List.length_singleton]
  omega
end
section
variable {prog : Program} {w : World} {A : Around} {E : Value → Shared → Prop} {s : Shared}
set_option maxRecDepth 100000 in
end
section
variable {X : Cx}
end
end L2
namespace Att
open PySem PySem.W PySem.Calls PyProof.Rows
theorem ints_of_wellAll {P : Params} {h : Heap} : ∀ (ns : List Int) (vs : List Value), WellAll P h vs (ns.map WData.int) → IntsAre vs ns := by
  intro ns
  induction ns with
  | nil =>
    intro vs w
    rw [List.map_nil] at w
    cases w
    exact .nil
  | cons n ns ih =>
    intro vs w
    rw [List.map_cons] at w
    cases w with
    | cons a b =>
      cases a
      exact .cons _ _ (ih _ b)
theorem script_of {l : OpenLaw} {n : Nat} (hn : l.most = some n) {P : Params} {h : Heap} {args : List WData} {vals : List Value}
    (hpre : l.row.toRowW.claim.pre args = true) (hwl : WellAll P h vals args) :
    ∃ a vs ns, vals = [Value.ref a] ∧ args = [WData.list (ns.map WData.int)] ∧ h.get? a = some { cls := .type "list", data := .seq vs.toArray } ∧ IntsAre vs ns ∧ ns.length ≤ n := by
  have hsh : WShape.hasAll [] args [.list .int] = true := (pre_splitW hpre).1
  have hc : l.pre.holds [] { args := args } = true := (pre_splitW hpre).2
  obtain ⟨d, r, rfl, h1, h2⟩ := hasAllW_cons hsh
  obtain rfl := hasAllW_nil h2
  obtain ⟨xs, rfl, h3⟩ := hasW_list h1
  obtain ⟨ns, rfl⟩ := items_int h3
  have hlen : ns.length ≤ n := by
    unfold OpenLaw.pre at hc
    have h4 : (WTm.not (.lt (.lit (.int (n : Int))) (.len (.arg 0)))).holds [] { args := [.list (ns.map .int)] } = true := by
      have h4 := (holds_andW hc).1
      rw [hn] at h4
      exact h4
    have h5 := condW_of h4 (w_not (w_lt w_lit (w_len_list (w_arg rfl))))
    rw [List.length_map] at h5
    refine Nat.le_of_not_lt fun q => ?_
    have q' : (n : Int) < ((ns.length : Nat) : Int) := by omega
    first
      | (rw [decide_eq_true q'] at h5; exact absurd h5 (by decide))
      | (simp at h5; omega)
  cases hwl with
  | cons w1 w2 =>
    cases w2
    cases w1 with
    | list ho hall => exact ⟨_, _, ns, rfl, rfl, ho, ints_of_wellAll ns _ hall, hlen⟩
theorem post_true (l : OpenLaw) (args : List WData) : l.row.toRowW.claim.post args (.bool true) args = true :=
  postW_of (r := l.row.toRowW) (X := (true == true))
    (show WShape.has [] (.bool true) .bool = true by first | rfl | decide | simp [WShape.has, WShape.arms, WShape.armsAll])
    (show (WTm.eq .res (.lit (.bool true))).value [] { args := args, res := some (.bool true), after := args } = some (.bool (true == true)) from w_eq_bool (w_res rfl) w_lit) rfl
theorem attach_call {l : OpenLaw} {n : Nat} {q : Program} {loose : List Str} {XP : (Str → Option Value) → Heap → Prop} {YP : World → Heap → Prop} {d : DefRec}
    (hn : l.most = some n) (hdf : d.params.defaults = [])
    (call : ∀ (w : World) (s₀ s₁ : Shared) (mg mb : Str → Option Value) (fa : Addr) (o : Obj) (pm cd doc : Value) (a : Addr) (vs : List Value) (ns : List Int),
      Ground q loose [] XP w s₀ mg mb s₁.heap → YP w s₁.heap →
      s₁.heap.get? fa = some o → o.data = .func (docDef d.name d.params d.body d.scope pm cd doc) → s₁.heap.CodeRec cd d.name → mg d.name = some (.ref fa) →
      s₁.heap.get? a = some { cls := .type "list", data := .seq vs.toArray } → IntsAre vs ns → ns.length ≤ n → s₁.gens = #[] →
      codeAny (model l.prog w) callerA (.call (.ref fa) ⟨[.ref a], []⟩) (fun r s' => r = .ok (.ret (.bool true)) ∧ OldK s₁.heap s'.heap ∧ s'.os = s₁.os ∧ AllBare s'.gens) s₁) :
    WalkO q loose XP YP l.row.toRowW d [] (fun f vs => PySem.call f vs) := by
  intro w s₀ s₁ mg mb G Y fa o pm cd doc dV kV ho hd hcd hD hmg hg args vals as hpre hlay hrd hwl hlo
  obtain rfl : dV = .none := Dflts.none hD hdf
  obtain rfl : kV = .none := Dflts.noKw hD
  obtain ⟨a, vs, ns, rfl, rfl, hobj, hints, hlen⟩ := script_of hn hpre hwl
  refine enter_call (codeAny_mono (call w s₀ s₁ mg mb fa o pm cd doc a vs ns G Y ho (fd_plain hd) hcd hmg hobj hints hlen hg) fun r s' hq => ?_)
  obtain ⟨rfl, h2, h3, h4⟩ := hq
  exact ⟨.inl ⟨.bool true, .bool true, [], rfl, fun _ => rfl, .bool true, post_true l _, fun _ => ⟨List.Pairwise.nil, fun _ hm => (nomatch hm)⟩⟩, h2, h3, h4⟩
section
variable {prog : Program} {w : World} {A : Around} {E : Value → Shared → Prop} {s : Shared} {K : Frag}
end
end Att
namespace L2
open PySem PySem.Spec PyProof.Rows
theorem vals_ints : ∀ {vs : List Value} {ns : List Int}, IntsAre vs ns → Vals (ns.map V.int) vs
  | _, _, .nil => .nil
  | _, _, .cons n t h => .cons ⟨t, rfl⟩ (vals_ints h)
noncomputable def Only (H : Hp) : Prop := ∀ b, H b = none ∨ ∃ o xs, H b = some (.frz o (.lst xs))
theorem law_call {P : Program} {w : World} {K : PySem.W.Frag} {mg mb : Str → Option Value} {CX : CXT} {k : Nat} {fa a : Addr} {fd : FuncData} {x : Str} {sp : Sp} {s₁ : Shared} {vs : List Value} {ns : List Int}
    (KX : K.In s₁.heap) (hns : s₁.heap.Ns mainGlobals mg) (hb : s₁.heap.Ns builtinsNs mb) (hbb : ∀ x : Str, x ≠ "__name__" → mb x = bootBuiltins x) (hlim : s₁.heap.NoLimit) (hg : s₁.gens = #[])
    (ha : s₁.heap.get? a = some { cls := .type "list", data := .seq vs.toArray }) (hi : IntsAre vs ns) (hl : ns.length ≤ sizeLine) (hr : Room k callerA)
    (F : ∀ base : Heap, K.In base → base.Ns mainGlobals mg → FnOk P w K mg base CX k fa fd [x] sp) (hbind : ∀ (s : Shared) (u : Value), BindsTo s fd ⟨[u], []⟩ [(x, u)])
    (hsp : ∀ H : Hp, Only H → SqL K H a (ns.map V.int) → sp [.ref a] H (fun v _ => v = .bl true) fun _ _ _ => False)
    (hCX : ∀ H e s', CX [] H s₁ (fun _ _ _ => False) e s' → False) :
    codeAny (model P w) callerA (.call (.ref fa) ⟨[.ref a], []⟩) (fun r s' => r = .ok (.ret (.bool true)) ∧ OldK s₁.heap s'.heap ∧ s'.os = s₁.os ∧ AllBare s'.gens) s₁ := by
  have rv := vals_ints hi
  have lenV := hi.length
  -- from an abstract heap in which nothing but the script may be tracked
  have core : ∀ H : Hp, Only H → SqL K H a (ns.map V.int) → HOk P w H s₁.heap → (∀ b, H b ≠ none → b = a) → (H a ≠ none → K.lookup a = none) →
      codeAny (model P w) callerA (.call (.ref fa) ⟨[.ref a], []⟩) (fun r s' => r = .ok (.ret (.bool true)) ∧ OldK s₁.heap s'.heap ∧ s'.os = s₁.os ∧ AllBare s'.gens) s₁ := by
    intro H hO hS hok hA hK
    have base_of : ∀ {b : Addr} {o : Obj}, s₁.heap.get? b = some o → H b = none → (hidT s₁.heap H).get? b = some o := fun e n => hidT_get e n
    have noA : ∀ {b : Addr} {o : Obj} {es : Array DictEntry} {ep : Nat}, s₁.heap.get? b = some o → o.data = .dict es ep → H b = none := fun {b o es ep} e d => by
      cases q : H b with
      | none => rfl
      | some u =>
        have e' : b = a := hA b (by rw [q]; simp)
        subst e'
        rw [ha] at e; cases e
        have d' : Data.seq vs.toArray _ = Data.dict es ep := d
        cases d'
    have nsK : ∀ {b : Addr} {m : Str → Option Value}, s₁.heap.Ns b m → (hidT s₁.heap H).Ns b m := fun {b m} ⟨o, es, ep, e, d, r⟩ => ⟨o, es, ep, base_of e (noA e d), d, r⟩
    have hKb : K.In (hidT s₁.heap H) := fun b o e => base_of (KX b o e) (by
      cases q : H b with
      | none => rfl
      | some u =>
        have e' : b = a := hA b (by rw [q]; simp)
        subst e'
        rw [hK (by rw [q]; simp)] at e; cases e)
    have hM : Mod K mg (hidT s₁.heap H) := ⟨hKb, nsK hns, ⟨mb, nsK hb, hbb⟩, let ⟨mc, h1, h2⟩ := hlim; ⟨mc, nsK h1, h2⟩⟩
    have e0 : Env0 P w K mg (hidT s₁.heap H) callerA [] s₁ H := ⟨rfl, hM, fun b o e => of_hidT e, Nat.le_of_eq (hidT_size _ _), trivial, fun b hb => absurd (show b ∈ ([] : List Addr) from hb) (by simp), hok, .of_eq hg⟩
    refine codeAny_mono ((F _ hKb (nsK hns)).run callerA [] s₁ H ⟨[.ref a], []⟩ [.ref a] [.ref a] _ _ hr e0 (hbind s₁ (.ref a)) (.cons rfl .nil) (hsp H hO hS)) fun r s' h => ?_
    cases r with
    | error e => exact (hCX H e s' h).elim
    | ok fl =>
      cases fl with
      | next => exact False.elim h
      | brk => exact False.elim h
      | cont => exact False.elim h
      | ret u =>
        obtain ⟨v, H', os, bare, un, hok', r', q⟩ := h
        have q' : v = .bl true := q
        subst q'
        obtain rfl : u = Value.bool true := r'
        refine ⟨rfl, OldK.of_keep fun b o e => ?_, os, bare⟩
        cases q : H b with
        | none => exact un.keep b o e q (by intro z; exact absurd (show b ∈ ([] : List Addr) from z) (by simp)) (by simp)
        | some u =>
          rcases hO b with z | ⟨ob, xs, z⟩
          · rw [q] at z; cases z
          · have z2 := un.frzs b ob _ z
            obtain ⟨e1, _⟩ := hok b _ z
            obtain ⟨e2, _⟩ := hok' b _ z2
            rw [e] at e1; cases e1
            exact e2
  cases hk : K.lookup a with
  | some o =>
    -- the script is one of the module's own objects
    have e := KX a o hk
    rw [ha] at e
    cases e
    refine core (fun _ => none) (fun _ => .inl rfl) (.inr ⟨_, vs.toArray, _, hk, rfl, rfl, rfl, by rw [List.size_toArray, lenV]; exact hl, by simpa using rv⟩) (fun b u z => by have z' : (none : Option HO) = some u := z; cases z') (fun b z => absurd rfl z) fun z => absurd rfl z
  | none =>
    refine core (fun b => if b = a then some (.frz { cls := .type "list", data := .seq vs.toArray } (.lst (ns.map V.int))) else none) (fun b => ?_) (.inl (.inr ⟨{ cls := .type "list", data := .seq vs.toArray }, if_pos rfl⟩)) (fun b u z => ?_) (fun b z => ?_) fun _ => hk
    · by_cases hb : b = a
      · exact .inr ⟨_, _, if_pos hb⟩
      · exact .inl (if_neg hb)
    · by_cases hb : b = a
      · have z' := (if_pos hb).symm.trans z
        cases z'
        subst hb
        exact ⟨ha, by rw [List.length_map]; exact hl, vs, _, rv, ha⟩
      · have z' := (if_neg hb).symm.trans z
        cases z'
    · by_cases hb : b = a
      · exact hb
      · exact absurd (if_neg hb) z
end L2
namespace L2
open PySem PySem.Spec PyProof.Rows
noncomputable abbrev KOf {K : PySem.W.Frag} {h : Heap} (_ : K.In h) : PySem.W.Frag := K
theorem walk_of {l : PySem.W.OpenLaw} {n k : Nat} {q : Program} {loose : List Str} {XP : (Str → Option Value) → Heap → Prop} {YP : World → Heap → Prop} {d : DefRec} {K : Params → PySem.W.Frag} {CX : World → CXT} {sp : World → Sp} {x : Str}
    (hn : l.most = some n) (hn2 : n ≤ sizeLine) (hdf : d.params.defaults = []) (hr : Room k callerA)
    (hY : ∀ (w : World) (h : Heap), YP w h → (K w.params).In h)
    (F : ∀ (w : World) (mg : Str → Option Value) (fa : Addr) (h : Heap), (K w.params).In h → h.Ns mainGlobals mg → mg d.name = some (.ref fa) →
      ∃ fd : FuncData, (∀ (s : Shared) (u : Value), BindsTo s fd ⟨[u], []⟩ [(x, u)]) ∧
        ∀ base : Heap, (K w.params).In base → base.Ns mainGlobals mg → FnOk l.prog w (K w.params) mg base (CX w) k fa fd [x] (sp w))
    (hsp : ∀ (w : World) (H : Hp) (a : Addr) (ns : List Int), ns.length ≤ n → Only H → SqL (K w.params) H a (ns.map V.int) → sp w [.ref a] H (fun v _ => v = .bl true) fun _ _ _ => False)
    (hCX : ∀ (w : World) (H : Hp) (s : Shared) (e : Value) (s' : Shared), CX w [] H s (fun _ _ _ => False) e s' → False) :
    PySem.W.WalkO q loose XP YP l.row.toRowW d [] (fun f vs => PySem.call f vs) := by
  refine Att.attach_call hn hdf fun w s₀ s₁ mg mb fa o pm cd doc a vs ns G Y ho hd hcd hmg hobj hints hlen hg => ?_
  have KX := hY w _ Y
  obtain ⟨fd, hb, hF⟩ := F w mg fa _ KX G.T.g hmg
  exact law_call KX G.T.g G.T.b G.T.builtins G.T.nolimit hg hobj hints (Nat.le_trans hlen hn2) hr hF hb (fun H hO hS => hsp w H a ns hlen hO hS) fun H e s' => hCX w H s₁ e s'
end L2
/- THE LAST THEOREM (shape; LID, My.* are yours):
   My.Adr: a structure of the addresses that your layer names (classes, functions); My.Txt K t: a structure (Prop) of the equations over K;
   My.txt_mk : {K} {implicit addresses ..} (e1 : nsIn K mainGlobals "law" = some (some (.ref f))) (e2 : K.lookup f = some ⟨oc, od, .func (fnOf "law" "law" params body scope dV kV doc pm an cdv ct), sl⟩) (e3 : codeIn K cdv "law" = true) .. : ∃ t, My.Txt K t
set_option maxRecDepth 100000 in
set_option maxHeartbeats 0 in
theorem PySem.Challenge.cw_LID_holds : PySem.Challenge.rw_LID.Holds := by
  w_on; o_law; k_head; (case hw => w_witness2)
  k_fill
  refine L2.walk_of (l := PySem.Challenge.rw_LID) (n := 63) (k := 40) (x := "script") (CX := fun w => ..) (sp := fun _ => My.sp_law) rfl (by decide) rfl ⟨rfl, by decide, by decide⟩ (fun w h Y => PySem.W.kIn_of Y) ?F ?S ?C
  case F =>
    intro w mg fa h KX G hmg
    have T : ∃ t, My.Txt (L2.KOf KX) t := by
      dsimp only [L2.KOf]                          -- K must stand as «<heap const> w.params» for k_is
      refine' My.txt_mk ?e1 ?e2 ?e3 ..
      (case e1 => PySem.W.k_is)                    -- in the order: a name -> its address -> its object -> its parts
      (case e2 => PySem.W.k_is)
      ..
    obtain ⟨t, T⟩ := T
    have e0 := hmg.symm.trans (PySem.W.mg_of KX G T.law)
    cases e0                                       -- fa is the law's own address
    exact ⟨_, fun s u => .of_eq rfl, fun base kb nb => My.law_fn T kb nb⟩     -- if «.of_eq rfl» comes too early: refine' ⟨_, ?b, fun base kb nb => My.law_fn T kb nb⟩; exact fun s u => .of_eq rfl
  case S => exact fun w H a ns hl hO hS => ..
  case C => exact ..
(the tactic k_is has no namespace: write k_is) -/
namespace L2
open PySem PySem.Spec PyProof.Rows
noncomputable def defArgs (s : Stmt) : Arguments := match s with
  | .FunctionDef _ a _ _ _ _ _ _ _ _ => a
  | _ => { posonlyargs := [], args := [], vararg := none, kwonlyargs := [], kw_defaults := [], kwarg := none, defaults := [] }
noncomputable def defBody (s : Stmt) : List Stmt := match s with
  | .FunctionDef _ _ b _ _ _ _ _ _ _ => b
  | _ => []
noncomputable def defScope (s : Stmt) : Scope := match s with
  | .FunctionDef _ _ _ _ _ _ sc _ _ _ => sc
  | _ => { kind := .function, names := [], isGenerator := false, isCoroutine := false }
noncomputable abbrev CX0 : CXT := fun _ _ _ _ _ _ => False
structure Fun (K : PySem.W.Frag) (x qual : Str) (st : Stmt) (f : Addr) (fd : FuncData) : Prop where
  ex : ∃ (oc : Value) (od : Option Addr) (kV doc pm : Value) (an : Option Addr) (cdv ct : Value) (osl : Array (Option Value)),
    fd = PySem.W.fnOf x qual (defArgs st) (defBody st) (defScope st) .none kV doc pm an cdv ct ∧ K.lookup f = some ⟨oc, od, .func fd, osl⟩ ∧ PySem.W.codeIn K cdv qual = true
  kp : PySem.W.keepIn K (.ref f) = true
section
variable {P : Program} {w : World} {K : PySem.W.Frag} {mg : Str → Option Value} {base : Heap}
theorem Fun.ok {x qual : Str} {st : Stmt} {f : Addr} {fd : FuncData} {N ps : List Str} {k : Nat} {sp : Sp} (F : Fun K x qual st f fd) (S : FnScope N ps (defScope st)) (len : ∀ vs H Q E, sp vs H Q E → vs.length = ps.length)
    (hbody : ∀ (cdv : Value) (A : Around) (outer : List Env) (s : Shared) (H : Hp) (vs : List V) (Q : VK) (E : XK), Room k (A.deeper (envOfC qual (defScope st) s.heap.objs.size f cdv)) → sp vs H Q E →
      ∃ t, PSs (cxOf CX0 P w K mg base N qual (defScope st) f cdv A outer s H E).nox (defBody st) t ∧ t { nx := fun _ H' => Q .non H', rt := Q } (start N vs) H) : FnOk P w K mg base CX0 (k + 1) f fd ps sp := by
  obtain ⟨oc, od, kV, doc, pm, an, cdv, ct, osl, rfl, lk, hcd⟩ := F.ex
  refine fn_of lk hcd S len fun A outer s H vs Q E hr hsp => ?_
  obtain ⟨t, h, q⟩ := hbody cdv A outer s H vs Q E hr hsp
  exact ⟨t, h.nox, q⟩
theorem Fun.binds {x qual : Str} {st : Stmt} {f : Addr} {fd : FuncData} {ps : List Str} (F : Fun K x qual st f fd)
    (h : ∀ (kV doc pm : Value) (an : Option Addr) (cdv ct : Value) (us : List Value), us.length = ps.length → bindArgs (PySem.W.fnOf x qual (defArgs st) (defBody st) (defScope st) .none kV doc pm an cdv ct) ⟨us, []⟩ = pure (ps.zip us)) : Binds K fd ps [] := by
  obtain ⟨oc, od, kV, doc, pm, an, cdv, ct, osl, rfl, lk, hcd⟩ := F.ex
  exact .all (h kV doc pm an cdv ct)
theorem fun_mk {x qual : Str} {st : Stmt} {f : Addr} {oc : Value} {od an : Option Addr} {osl : Array (Option Value)} {kV doc pm cdv ct : Value} (l : K.lookup f = some ⟨oc, od, .func (PySem.W.fnOf x qual (defArgs st) (defBody st) (defScope st) .none kV doc pm an cdv ct), osl⟩)
    (c : PySem.W.codeIn K cdv qual = true) (k : PySem.W.keepIn K (.ref f) = true) : Fun K x qual st f (PySem.W.fnOf x qual (defArgs st) (defBody st) (defScope st) .none kV doc pm an cdv ct) := ⟨⟨oc, od, kV, doc, pm, an, cdv, ct, osl, rfl, l, c⟩, k⟩
end
section
variable {X : Cx}
end
noncomputable def Same (H H' : Hp) : Prop := ∀ b o, H b = some o → H' b = some o
theorem Same.refl (H : Hp) : Same H H := fun _ _ h => h
theorem Same.trans {H H1 H2 : Hp} (a : Same H H1) (b : Same H1 H2) : Same H H2 := fun c o h => b c o (a c o h)
theorem Same.free {H H' : Hp} (e : Same H H') {l : Addr} (h : H' l = Option.none) : H l = Option.none := by
  cases q : H l with
  | none => rfl
  | some o =>
    rw [e l o q] at h
    cases h
end L2
section
set_option Elab.async false
set_option linter.all false
set_option maxRecDepth 100000
set_option maxHeartbeats 4000000
namespace Ov
open PySem
inductive D where
  | non | bl (b : Bool) | int (i : Int) | str (x : Str) | tup (ds : List D) | lst (ds : List D)
  | obj (c : Nat) (fs : List (Str × D)) | exc (c : Nat) (fs : List (Str × D)) | dic (kvs : List (List Int × D))
  deriving Inhabited
structure Ex where
  c : Nat
  fs : List (Str × D)
  deriving Inhabited
inductive R (α : Type) where
  | ok (a : α) | exn (x : Ex) | bad
  deriving Inhabited
noncomputable def R.bind {α β : Type} (r : R α) (f : α → R β) : R β := match r with
  | .ok a => f a
  | .exn x => .exn x
  | .bad => .bad
@[simp] theorem R.bind_ok {α β : Type} (a : α) (f : α → R β) : (R.ok a).bind f = f a := rfl
@[simp] theorem R.bind_exn {α β : Type} (x : Ex) (f : α → R β) : (R.exn x : R α).bind f = .exn x := rfl
@[simp] theorem R.bind_bad {α β : Type} (f : α → R β) : (R.bad : R α).bind f = .bad := rfl
theorem R.bind_assoc {α β γ : Type} (r : R α) (f : α → R β) (g : β → R γ) : (r.bind f).bind g = r.bind fun a => (f a).bind g := by cases r <;> rfl
noncomputable def szOk (n : Nat) : Bool := Nat.ble n 1000000
noncomputable def mulOk (i j : Int) : Bool := (decide (-(18446744073709551616 : Int) < i) && decide (i < 18446744073709551616)) || (decide (-(18446744073709551616 : Int) < j) && decide (j < 18446744073709551616))
noncomputable def bigOk (i j : Int) : Bool := decide (i.natAbs < 2 ^ 2000) && decide (j.natAbs < 2 ^ 2000)
noncomputable def binD : Operator → D → D → R D
  | .Add, .int i, .int j => .ok (.int (i + j))
  | .Sub, .int i, .int j => .ok (.int (i - j))
  | .Mult, .int i, .int j => if (mulOk i j || bigOk i j) = true then .ok (.int (i * j)) else .bad
  | .FloorDiv, .int i, .int j => if 0 < j ∧ j < 1073741824 then .ok (.int (i / j)) else .bad
  | .Mod, .int i, .int j => if 0 < j then .ok (.int (i % j)) else .bad
  | .Pow, .int i, .int j => if (0 ≤ j ∧ j ≤ 1000000) ∧ (-(18446744073709551616 : Int) < i ∧ i < 18446744073709551616) then .ok (.int (i ^ j.toNat)) else .bad
  | .Add, .str x, .str y => if szOk (x.length + y.length) = true then .ok (.str (x ++ y)) else .bad
  | .Add, .lst x, .lst y => if szOk (x.length + y.length) = true then .ok (.lst (x ++ y)) else .bad
  | .Add, .tup x, .tup y => if (!x.isEmpty && szOk (x.length + y.length)) = true then .ok (.tup (x ++ y)) else .bad
  | _, _, _ => .bad
noncomputable def unD : UnaryOp → D → R D
  | .USub, .int i => .ok (.int (-i))
  | _, _ => .bad
noncomputable def b2i (b : Bool) : Int := if b = true then 1 else 0
mutual
noncomputable def eqD : D → D → Bool
  | .non, .non => true
  | .bl a, .bl b => a == b
  | .bl a, .int j => b2i a == j
  | .int i, .bl b => i == b2i b
  | .int i, .int j => i == j
  | .str x, .str y => x == y
  | .tup xs, .tup ys => eqDs xs ys
  | .lst xs, .lst ys => eqDs xs ys
  | _, _ => false
noncomputable def eqDs : List D → List D → Bool
  | [], [] => true
  | x :: xs, y :: ys => eqD x y && eqDs xs ys
  | _, _ => false
end
noncomputable def flD : Nat → D → Bool
  | _, .non => true
  | _, .bl _ => true
  | _, .int _ => true
  | _, .str _ => true
  | n + 1, .tup xs => xs.all (flD n)
  | n + 1, .lst xs => xs.all (flD n)
  | _, _ => false
noncomputable def keyD : D → Option (List Int)
  | .tup ds => keyDs ds
  | _ => none
where keyDs : List D → Option (List Int)
  | [] => some []
  | .int i :: r => (keyDs r).map (i :: ·)
  | _ => none
noncomputable def ltD : Nat → D → D → Bool
  | 0, .int i, .int j => decide (i < j)
  | n + 1, .tup xs, .tup ys => ltDs (ltD n) xs ys
  | _, _, _ => false
where ltDs (lt : D → D → Bool) : List D → List D → Bool
  | [], [] => false
  | [], _ :: _ => true
  | _ :: _, [] => false
  | x :: xs, y :: ys => if eqD x y = true then ltDs lt xs ys else lt x y
noncomputable def rkD : Nat → D → Bool
  | 0, .int _ => true
  | n + 1, .tup xs => xs.all (rkD n)
  | _, _ => false
noncomputable def insD (lt : D → D → Bool) (x : D) : List D → List D
  | [] => [x]
  | y :: ys => if lt y x = true then y :: insD lt x ys else x :: y :: ys
noncomputable def sortD (lt : D → D → Bool) : List D → List D
  | [] => []
  | x :: xs => insD lt x (sortD lt xs)
noncomputable def nodD : List D → Bool
  | [] => true
  | x :: xs => xs.all (fun y => !eqD x y) && nodD xs
noncomputable def ascD : List D → Bool
  | [] => true
  | [_] => true
  | x :: y :: r => ltD 1 x y && ascD (y :: r)
noncomputable def sortedD (xs : List D) : R (List D) := if (xs.all (fun d => rkD 1 d && !eqD d (.tup [])) && nodD xs && (decide (xs.length < 64) || (ascD xs && decide (xs.length ≤ 1000)))) = true then .ok (sortD (ltD 1) xs) else .bad
noncomputable def cmpD : CmpOp → D → D → R D
  | .Eq, x, y => if (flD 5 x && flD 5 y) = true then .ok (.bl (eqD x y)) else .bad
  | .NotEq, x, y => if (flD 5 x && flD 5 y) = true then .ok (.bl (!eqD x y)) else .bad
  | .Lt, .int i, .int j => .ok (.bl (decide (i < j)))
  | .LtE, .int i, .int j => .ok (.bl (decide (i ≤ j)))
  | .Gt, .int i, .int j => .ok (.bl (decide (j < i)))
  | .GtE, .int i, .int j => .ok (.bl (decide (j ≤ i)))
  | .In, x, .lst ys => if (flD 5 x && ys.all (flD 5)) = true then .ok (.bl (ys.any fun y => eqD y x)) else .bad
  | .In, x, .dic kvs => match keyD x with
    | some k => .ok (.bl (kvs.any fun p => p.1 == k))
    | none => .bad
  | .In, x, .tup ys => if (flD 5 x && ys.all (flD 5)) = true then .ok (.bl (ys.any fun y => eqD y x)) else .bad
  | .NotIn, x, .lst ys => if (flD 5 x && ys.all (flD 5)) = true then .ok (.bl (!ys.any fun y => eqD y x)) else .bad
  | .NotIn, x, .tup ys => if (flD 5 x && ys.all (flD 5)) = true then .ok (.bl (!ys.any fun y => eqD y x)) else .bad
  | .Is, .non, .non => .ok (.bl true)
  | .Is, .bl _, .non => .ok (.bl false)
  | .Is, .int _, .non => .ok (.bl false)
  | .Is, .str _, .non => .ok (.bl false)
  | .Is, .tup _, .non => .ok (.bl false)
  | .Is, .lst _, .non => .ok (.bl false)
  | .Is, .obj _ _, .non => .ok (.bl false)
  | .Is, .bl a, .bl b => .ok (.bl (a == b))
  | .IsNot, .bl a, .bl b => .ok (.bl (!(a == b)))
  | .IsNot, .non, .non => .ok (.bl false)
  | .IsNot, .bl _, .non => .ok (.bl true)
  | .IsNot, .int _, .non => .ok (.bl true)
  | .IsNot, .str _, .non => .ok (.bl true)
  | .IsNot, .tup _, .non => .ok (.bl true)
  | .IsNot, .lst _, .non => .ok (.bl true)
  | .IsNot, .obj _ _, .non => .ok (.bl true)
  | _, _, _ => .bad
noncomputable def truD : D → R Bool
  | .non => .ok false
  | .bl b => .ok b
  | .int i => .ok (i != 0)
  | .str x => if szOk x.length = true then .ok (x.length != 0) else .bad
  | .tup xs => .ok (!xs.isEmpty)
  | .lst xs => .ok (!xs.isEmpty)
  | _ => .bad
noncomputable def plD (n : Nat) (i : Int) : Option Nat := if 0 ≤ i then (if i < n then some i.toNat else none) else if -(n : Int) ≤ i then some (i + n).toNat else none
noncomputable def getL (xs : List D) (i : Int) : R D := match plD xs.length i with
  | some k => match xs[k]? with
    | some d => .ok d
    | none => .bad
  | none => .bad
noncomputable def dicGet (kvs : List (List Int × D)) (k : List Int) : Option D := (kvs.find? fun p => p.1 == k).map (·.2)
noncomputable def dicPut (kvs : List (List Int × D)) (k : List Int) (v : D) : List (List Int × D) := if (kvs.any fun p => p.1 == k) = true then kvs.map (fun p => if (p.1 == k) = true then (k, v) else p) else kvs ++ [(k, v)]
noncomputable def idxD : D → D → R D
  | .lst xs, .int i => getL xs i
  | .tup xs, .int i => getL xs i
  | .dic kvs, k => match (keyD k).bind (dicGet kvs) with
    | some d => .ok d
    | none => .bad
  | _, _ => .bad
noncomputable def asInt : D → R Int
  | .int i => .ok i
  | _ => .bad
noncomputable def asBl : D → R Bool
  | .bl b => .ok b
  | _ => .bad
noncomputable def asSeq : D → R (List D)
  | .lst xs => .ok xs
  | .tup xs => .ok xs
  | _ => .bad
noncomputable def asLst : D → R (List D)
  | .lst xs => .ok xs
  | _ => .bad
inductive BI where
  | len | abs | max | min | int | list | tuple | all | any | sum | sorted | str | count | stp
  deriving DecidableEq, Inhabited
inductive Ki where
  | int | bool | str | list | tuple | verr | cls (c : Nat)
  deriving DecidableEq, Inhabited
mutual
inductive E where
  | non | bl (b : Bool) | int (i : Int) | str (x : Str)
  | var (i : Nat) | glob (g : Nat)
  | bin (op : Operator) (a b : E) | un (op : UnaryOp) (a : E) | no (a : E)
  | and (es : Es) | or (es : Es)
  | cmp (op : CmpOp) (a b : E) | cmp2 (op op' : CmpOp) (a b c : E)
  | ite (c a b : E)
  | call (f : Nat) (as : Es) | bi (b : BI) (as : Es)
  | isi (a : E) (ks : List Ki)
  | idx (a i : E) | sl (a lo hi : E)
  | tup (es : Es) | lst (es : Es)
  | comp (elt : E) (t : Nat) (it : I) (c : E) | compT (elt : E) (ts : List Nat) (it : I) (c : E) | tupI (it : I) | dnew
  | fld (o : E) (f : Str)
inductive Es where
  | nil | cons (e : E) (es : Es)
inductive I where
  | e (a : E) | rng (a : E) | rng2 (a b : E) | zip (a b : E) | zip3 (a b c : E) | enm (a : E)
end
noncomputable abbrev Sl := Option (D × Bool)
noncomputable abbrev Rho := List Sl
structure Gam where
  F : Nat → List D → R D
  G : Nat → D
  up : Nat → List Nat
  /-- the defs whose answer is a new list -/
  fr : Nat → Bool
  /-- what is raised: the class, what it is made of -/
  xn : Nat → List D → R Ex
noncomputable def rngD (lo : Int) (n : Nat) : List D := (List.range n).map fun (k : Nat) => D.int (lo + (k : Int))
noncomputable def rangeD (lo hi : Int) : R (List D) := if (-(4611686018427387904 : Int) ≤ lo ∧ lo < 4611686018427387904) ∧ (-(4611686018427387904 : Int) ≤ hi ∧ hi < 4611686018427387904) ∧ hi - lo < 1000000 then .ok (rngD lo (hi - lo).toNat) else .bad
noncomputable def kiD (up : Nat → List Nat) : Ki → D → Bool
  | .int, .int _ => true
  | .int, .bl _ => true
  | .bool, .bl _ => true
  | .str, .str _ => true
  | .list, .lst _ => true
  | .tuple, .tup _ => true
  | .cls c, .obj k _ => (up k).contains c
  | .cls c, .exc k _ => (up k).contains c
  | .verr, .exc _ _ => true
  | _, _ => false
noncomputable def clsK : Ki → Bool
  | .cls _ => true
  | .verr => true
  | _ => false
noncomputable def isiD (up : Nat → List Nat) (ks : List Ki) (x : D) : R D := match x with
  | .obj _ _ => .bad
  | .exc _ _ => if ks.all clsK = true then .ok (.bl (ks.any fun k => kiD up k x)) else .bad
  | .dic _ => .bad
  | _ => if ks.any clsK = true then .bad else .ok (.bl (ks.any fun k => kiD up k x))
noncomputable def truA : D → R Bool
  | .non => .ok false
  | .bl b => .ok b
  | .int i => .ok (i != 0)
  | _ => .bad
noncomputable def allBl : List D → R Bool
  | [] => .ok true
  | x :: r => (truA x).bind fun b => (allBl r).bind fun c => .ok (b && c)
noncomputable def anyBl : List D → R Bool
  | [] => .ok false
  | x :: r => (truA x).bind fun b => (anyBl r).bind fun c => .ok (b || c)
noncomputable def sumD : Int → List D → R Int
  | a, [] => .ok a
  | a, .int i :: r => sumD (a + i) r
  | _, _ => .bad
noncomputable def zipD : List D → List D → List D
  | x :: xs, y :: ys => .tup [x, y] :: zipD xs ys
  | _, _ => []
noncomputable def zip3D : List D → List D → List D → List D
  | x :: xs, y :: ys, z :: zs => .tup [x, y, z] :: zip3D xs ys zs
  | _, _, _ => []
noncomputable def zip3R (x y z : D) : R (List D) := (asSeq x).bind fun xs => (asSeq y).bind fun ys => (asSeq z).bind fun zs => if 0 < xs.length ∧ xs.length ≤ 1000 ∧ ys.length = xs.length ∧ zs.length = xs.length then .ok (zip3D xs ys zs) else .bad
noncomputable def enmD : Int → List D → List D
  | _, [] => []
  | i, x :: xs => .tup [.int i, x] :: enmD (i + 1) xs
noncomputable def nlD : Nat → D → Bool
  | _, .non => true
  | _, .bl _ => true
  | _, .int _ => true
  | _, .str _ => true
  | n + 1, .tup xs => xs.all (nlD n)
  | _, _ => false
noncomputable def clnD (fr : Bool) : D → Bool
  | .lst ds => fr && ds.all (nlD 5)
  | d => nlD 5 d
noncomputable def intsL : List D → Option (List Int)
  | [] => some []
  | .int i :: r => (intsL r).map (i :: ·)
  | _ => none
noncomputable def minI (i : Int) : List Int → Int
  | [] => i
  | j :: r => minI (if j < i then j else i) r
noncomputable def pk2 (k n : Nat) : List Nat := (List.range ((n - min k n + 1) / 2)).map fun j => min k n + 2 * j
noncomputable def stpD (k : Nat) (xs : List D) : List D := (pk2 k xs.length).filterMap fun i => xs[i]?
noncomputable def biD : BI → List D → R D
  | .len, [.lst xs] => .ok (.int xs.length)
  | .len, [.tup xs] => .ok (.int xs.length)
  | .len, [.str x] => if szOk x.length = true then .ok (.int x.length) else .bad
  | .abs, [.int i] => .ok (.int (if i < 0 then -i else i))
  | .max, [.int i, .int j] => .ok (.int (if i < j then j else i))
  | .min, [.int i, .int j] => .ok (.int (if j < i then j else i))
  | .min, [.lst xs] => match intsL xs with
    | some (i :: is) => .ok (.int (minI i is))
    | _ => .bad
  | .int, [.int i] => .ok (.int i)
  | .int, [.bl b] => .ok (.int (b2i b))
  | .list, [.lst xs] => .ok (.lst xs)
  | .list, [.tup xs] => .ok (.lst xs)
  | .tuple, [.lst xs] => .ok (.tup xs)
  | .tuple, [.tup xs] => .ok (.tup xs)
  | .all, [.lst xs] => (allBl xs).bind fun b => .ok (.bl b)
  | .any, [.lst xs] => (anyBl xs).bind fun b => .ok (.bl b)
  | .any, [.tup xs] => (anyBl xs).bind fun b => .ok (.bl b)
  | .sum, [.lst xs] => (sumD 0 xs).bind fun i => .ok (.int i)
  | .sum, [.tup xs] => (sumD 0 xs).bind fun i => .ok (.int i)
  | .sorted, [.lst xs] => (sortedD xs).bind fun ys => .ok (.lst ys)
  | .count, [.lst xs, x] => if (flD 5 x && xs.all (flD 5)) = true then .ok (.int ((xs.filter fun y => eqD y x).length : Nat)) else .bad
  | .len, [.dic kvs] => .ok (.int kvs.length)
  | .stp, [.lst xs, .int k] => .ok (.lst (stpD k.toNat xs))
  | _, _ => .bad
noncomputable def slE (c : E) (d : D) : R (Option Int) := match c with
  | .non => .ok none
  | _ => (asInt d).bind fun i => .ok (some i)
noncomputable def sIxD (n d : Nat) : Option Int → Nat
  | none => d
  | some i => if i < 0 then (i + n).toNat else min i.toNat n
noncomputable def cutD (xs : List D) (lo hi : Option Int) : List D := (xs.drop (sIxD xs.length 0 lo)).take (sIxD xs.length xs.length hi - sIxD xs.length 0 lo)
noncomputable def slD : D → Option Int → Option Int → R D
  | .lst xs, l, h => .ok (.lst (cutD xs l h))
  | .tup xs, l, h => if (sIxD xs.length 0 l == 0 && sIxD xs.length xs.length h == xs.length) = true then .bad else .ok (.tup (cutD xs l h))
  | _, _, _ => .bad
noncomputable def fldD : D → Str → R D
  | .obj _ fs, f => match fs.lookup f with
    | some d => .ok d
    | none => .bad
  | .exc _ fs, f => match fs.lookup f with
    | some d => .ok d
    | none => .bad
  | _, _ => .bad
noncomputable def varS (ρ : Rho) (i : Nat) : R D := match ρ[i]? with
  | some (some (d, false)) => .ok d
  | _ => .bad
noncomputable def varT (ρ : Rho) (i : Nat) : R D := match ρ[i]? with
  | some (some (d, _)) => .ok d
  | _ => .bad
noncomputable def shE (ρ : Rho) : E → Bool
  | .var i => (match ρ[i]? with
    | some (some (_, true)) => false
    | _ => true)
  | _ => true
noncomputable def shEs (ρ : Rho) : Es → Bool
  | .nil => true
  | .cons e es => shE ρ e && shEs ρ es
noncomputable def setAll : List Nat → List D → Rho → Option Rho
  | [], [], ρ => some ρ
  | t :: ts, d :: ds, ρ => setAll ts ds (ρ.set t (some (d, false)))
  | _, _, _ => none
noncomputable def asgAll (ts : List Nat) (d : D) (ρ : Rho) : R Rho := match d with
  | .tup xs => (match setAll ts xs ρ with
    | some ρ' => .ok ρ'
    | none => .bad)
  | _ => .bad
noncomputable def asgSq (ts : List Nat) (d : D) (ρ : Rho) : R Rho := match d with
  | .lst xs => (match setAll ts xs ρ with
    | some ρ' => .ok ρ'
    | none => .bad)
  | d => asgAll ts d ρ
noncomputable def compD (g : D → R Bool) (f : D → R D) : List D → R (List D)
  | [] => .ok []
  | x :: xs => (g x).bind fun b => if b = true then (f x).bind fun y => (compD g f xs).bind fun ys => .ok (y :: ys) else compD g f xs
noncomputable def noX {α : Type} : R α → R α
  | .ok a => .ok a
  | _ => .bad
noncomputable def top (ρ : Rho) (e : E) (r : R D) : R D := match e with
  | .var i => varT ρ i
  | _ => r
mutual
noncomputable def evE (Γ : Gam) (ρ : Rho) : E → R D
  | .non => .ok .non
  | .bl b => .ok (.bl b)
  | .int i => .ok (.int i)
  | .str x => .ok (.str x)
  | .var i => varS ρ i
  | .glob g => .ok (Γ.G g)
  | .bin op a b => (top ρ a (evE Γ ρ a)).bind fun x => (top ρ b (evE Γ ρ b)).bind fun y => binD op x y
  | .un op a => (top ρ a (evE Γ ρ a)).bind fun x => unD op x
  | .no a => (top ρ a (evE Γ ρ a)).bind fun x => (asBl x).bind fun b => .ok (.bl (!b))
  | .and es => evN Γ ρ es
  | .or es => evO Γ ρ es
  | .cmp op a b => (top ρ a (evE Γ ρ a)).bind fun x => (top ρ b (evE Γ ρ b)).bind fun y => cmpD op x y
  | .cmp2 op op' a b c => (top ρ a (evE Γ ρ a)).bind fun x => (top ρ b (evE Γ ρ b)).bind fun y => (cmpD op x y).bind fun z => (asBl z).bind fun k => if k = true then (top ρ c (evE Γ ρ c)).bind fun u => cmpD op' y u else .ok (.bl false)
  | .ite c a b => (top ρ c (evE Γ ρ c)).bind fun x => (truD x).bind fun k => if k = true then evE Γ ρ a else evE Γ ρ b
  | .call f as => (evB Γ ρ as).bind fun xs => (Γ.F f xs).bind fun d => if shEs ρ as = true then .ok d else if clnD (Γ.fr f) d = true then .ok d else .bad
  | .bi b as => (evB Γ ρ as).bind fun xs => biD b xs
  | .isi a ks => (top ρ a (evE Γ ρ a)).bind fun x => isiD Γ.up ks x
  | .idx a i => (top ρ a (evE Γ ρ a)).bind fun x => (top ρ i (evE Γ ρ i)).bind fun y => idxD x y
  | .sl a lo hi => (top ρ a (evE Γ ρ a)).bind fun x => (top ρ lo (evE Γ ρ lo)).bind fun l => (slE lo l).bind fun l' => (top ρ hi (evE Γ ρ hi)).bind fun h => (slE hi h).bind fun h' => slD x l' h'
  | .tup es => (evA Γ ρ es).bind fun xs => .ok (.tup xs)
  | .lst es => (evA Γ ρ es).bind fun xs => .ok (.lst xs)
  | .comp elt t it c => (evI Γ ρ it).bind fun xs => (noX (compD (fun x => (top (ρ.set t (some (x, false))) c (evE Γ (ρ.set t (some (x, false))) c)).bind truD) (fun x => evE Γ (ρ.set t (some (x, false))) elt) xs)).bind fun ys => .ok (.lst ys)
  | .compT elt ts it c => (evI Γ ρ it).bind fun xs => (noX (compD (fun x => (asgAll ts x ρ).bind fun ρ' => (top ρ' c (evE Γ ρ' c)).bind truD) (fun x => (asgAll ts x ρ).bind fun ρ' => evE Γ ρ' elt) xs)).bind fun ys => .ok (.lst ys)
  | .tupI it => (evI Γ ρ it).bind fun xs => .ok (.tup xs)
  | .dnew => .ok (.dic [])
  | .fld o f => (top ρ o (evE Γ ρ o)).bind fun x => fldD x f
noncomputable def evN (Γ : Gam) (ρ : Rho) : Es → R D
  | .nil => .bad
  | .cons e .nil => evE Γ ρ e
  | .cons e (.cons e' es) => (evE Γ ρ e).bind fun x => (asBl x).bind fun c => if c = true then evN Γ ρ (.cons e' es) else .ok (.bl false)
noncomputable def evO (Γ : Gam) (ρ : Rho) : Es → R D
  | .nil => .bad
  | .cons e .nil => evE Γ ρ e
  | .cons e (.cons e' es) => (evE Γ ρ e).bind fun x => (asBl x).bind fun c => if c = true then .ok (.bl true) else evO Γ ρ (.cons e' es)
noncomputable def evA (Γ : Gam) (ρ : Rho) : Es → R (List D)
  | .nil => .ok []
  | .cons e es => (evE Γ ρ e).bind fun x => (evA Γ ρ es).bind fun xs => .ok (x :: xs)
noncomputable def evB (Γ : Gam) (ρ : Rho) : Es → R (List D)
  | .nil => .ok []
  | .cons e es => (top ρ e (evE Γ ρ e)).bind fun x => (evB Γ ρ es).bind fun xs => .ok (x :: xs)
noncomputable def evI (Γ : Gam) (ρ : Rho) : I → R (List D)
  | .e a => (evE Γ ρ a).bind asSeq
  | .rng a => (top ρ a (evE Γ ρ a)).bind fun x => (asInt x).bind fun j => rangeD 0 j
  | .rng2 a b => (top ρ a (evE Γ ρ a)).bind fun x => (top ρ b (evE Γ ρ b)).bind fun y => (asInt x).bind fun i => (asInt y).bind fun j => rangeD i j
  | .zip a b => (evE Γ ρ a).bind fun x => (evE Γ ρ b).bind fun y => (asSeq x).bind fun xs => (asSeq y).bind fun ys => .ok (zipD xs ys)
  | .zip3 a b c => (evE Γ ρ a).bind fun x => (evE Γ ρ b).bind fun y => (evE Γ ρ c).bind fun z => zip3R x y z
  | .enm a => (evE Γ ρ a).bind fun x => (asSeq x).bind fun xs => .ok (enmD 0 xs)
end
noncomputable def newE (Γ : Gam) : E → Bool
  | .lst _ => true
  | .comp _ _ _ _ => true
  | .compT _ _ _ _ => true
  | .dnew => true
  | .bin .Add _ _ => true
  | .bi .list _ => true
  | .bi .sorted _ => true
  | .sl _ _ _ => true
  | .call f _ => Γ.fr f
  | _ => false
mutual
inductive S where
  | pass
  /-- x = e; fresh: x alone holds the new list -/
  | asg (i : Nat) (fresh : Bool) (e : E)
  /-- a, b, .. = e -/
  | asgT (ts : List Nat) (e : E)
  | expr (e : E)
  | ret (e : E) | retN
  | ife (c : E) (a b : Ss)
  | fors (t : Nat) (it : I) (body : Ss)
  | forT (ts : List Nat) (it : I) (body : Ss)
  | whl (c : E) (body : Ss)
  /-- raise C(e, ..) -/
  | rais (c : Nat) (as : Es)
  /-- try: body except C as x: h -/
  | tryx (body : Ss) (c : Nat) (x : Nat) (h : Ss)
  /-- x.append(e), x.extend(e), x.insert(k, e), x.reverse(), x.clear() -/
  | app (i : Nat) (e : E) | ext (i : Nat) (e : E) | ins (i : Nat) (k e : E) | rev (i : Nat) | clr (i : Nat)
  /-- d[k] = e, d.setdefault(k, e) -/
  | dput (i : Nat) (k e : E) | dsd (i : Nat) (k e : E)
  /-- x[k] = e -/
  | put (i : Nat) (k e : E)
  /-- x[k], x[l] = x[l], x[k] -/
  | swp (i k l : Nat)
  | brk | cont
  /-- nothing: from here on x is no longer changed -/
  | rel (i : Nat)
inductive Ss where
  | nil | cons (s : S) (ss : Ss)
end
inductive O where
  | next (ρ : Rho) | ret (d : D) (fr : Bool) | brk (ρ : Rho) | cont (ρ : Rho) | exn (x : Ex) (ρ : Rho) | bad
  deriving Inhabited
noncomputable def O.of {α : Type} (ρ : Rho) (r : R α) (f : α → O) : O := match r with
  | .ok a => f a
  | .exn x => .exn x ρ
  | .bad => .bad
@[simp] theorem O.of_ok {α : Type} (ρ : Rho) (a : α) (f : α → O) : O.of ρ (.ok a) f = f a := rfl
@[simp] theorem O.of_exn {α : Type} (ρ : Rho) (x : Ex) (f : α → O) : O.of ρ (.exn x : R α) f = .exn x ρ := rfl
@[simp] theorem O.of_bad {α : Type} (ρ : Rho) (f : α → O) : O.of ρ (.bad : R α) f = .bad := rfl
noncomputable def evIs (Γ : Gam) (ρ : Rho) (i : I) : R (List D) := evI Γ ρ i
noncomputable def ownL (ρ : Rho) (i : Nat) : R (List D) := match ρ[i]? with
  | some (some (.lst xs, true)) => .ok xs
  | _ => .bad
noncomputable def ownK (ρ : Rho) (i : Nat) : R (List (List Int × D)) := match ρ[i]? with
  | some (some (.dic xs, true)) => .ok xs
  | _ => .bad
noncomputable def asKey (d : D) : R (List Int) := match keyD d with
  | some k => .ok k
  | none => .bad
noncomputable def fuel0 : Nat := 4096
noncomputable def O.seq (o : O) (f : Rho → O) : O := match o with
  | .next ρ => f ρ
  | .ret d b => .ret d b
  | .brk ρ => .brk ρ
  | .cont ρ => .cont ρ
  | .exn x ρ => .exn x ρ
  | .bad => .bad
noncomputable def O.turn (o : O) (f : Rho → O) : O := match o with
  | .next ρ => f ρ
  | .cont ρ => f ρ
  | .brk ρ => .next ρ
  | .ret d b => .ret d b
  | .exn x ρ => .exn x ρ
  | .bad => .bad
noncomputable def forD (body : D → Rho → O) : List D → Rho → O
  | [], ρ => .next ρ
  | x :: xs, ρ => (body x ρ).turn (forD body xs)
noncomputable def whlD (c : Rho → R Bool) (body : Rho → O) : Nat → Rho → O
  | 0, _ => .bad
  | n + 1, ρ => O.of ρ (c ρ) fun b => if b = true then (body ρ).turn (whlD c body n) else .next ρ
noncomputable def intSl (ρ : Rho) (k : Nat) : R Int := (varS ρ k).bind asInt
noncomputable def swpD (ρ : Rho) (d : D) (i k l : Nat) : O := match d with
  | .tup [x, y] => O.of ρ (ownL ρ i) fun xs => O.of ρ (intSl ρ k) fun a => O.of ρ (intSl ρ l) fun b => match plD xs.length a, plD xs.length b with
    | some m, some n => .next (ρ.set i (some (.lst ((xs.set m x).set n y), true)))
    | _, _ => .bad
  | _ => .bad
mutual
noncomputable def evS (Γ : Gam) (ρ : Rho) : S → O
  | .pass => .next ρ
  | .asg i fresh e => O.of ρ (evE Γ ρ e) fun d => if fresh = true then (if newE Γ e = true then (match d with
      | .lst xs => .next (ρ.set i (some (.lst xs, true)))
      | .dic xs => .next (ρ.set i (some (.dic xs, true)))
      | _ => .bad) else .bad) else .next (ρ.set i (some (d, false)))
  | .asgT ts e => O.of ρ (evE Γ ρ e) fun d => O.of ρ (asgSq ts d ρ) fun ρ' => .next ρ'
  | .expr e => O.of ρ (evE Γ ρ e) fun _ => .next ρ
  | .ret e => O.of ρ (top ρ e (evE Γ ρ e)) fun d => .ret d (newE Γ e || (match e with | .var i => (match ρ[i]? with | some (some (_, o)) => o | _ => false) | _ => false))
  | .retN => .ret .non false
  | .ife c a b => O.of ρ ((top ρ c (evE Γ ρ c)).bind truD) fun k => if k = true then evSs Γ ρ a else evSs Γ ρ b
  | .fors t it body => O.of ρ (evIs Γ ρ it) fun xs => forD (fun x ρ' => evSs Γ (ρ'.set t (some (x, false))) body) xs ρ
  | .forT ts it body => O.of ρ (evIs Γ ρ it) fun xs => forD (fun x ρ' => O.of ρ' (asgAll ts x ρ') fun ρ'' => evSs Γ ρ'' body) xs ρ
  | .whl c body => whlD (fun ρ' => (top ρ' c (evE Γ ρ' c)).bind truD) (fun ρ' => evSs Γ ρ' body) fuel0 ρ
  | .rais c as => O.of ρ (noX (evA Γ ρ as)) fun xs => O.of ρ (Γ.xn c xs) fun x => .exn x ρ
  | .tryx body c x h => match evSs Γ ρ body with
      | .exn y ρ' => if (Γ.up y.c).contains c = true then (match evSs Γ (ρ'.set x (some (.exc y.c y.fs, false))) h with
          | .next ρ'' => .next (ρ''.set x none)
          | .ret d f => .ret d f
          | _ => .bad) else .bad
      | o => o
  | .app i e => O.of ρ (ownL ρ i) fun xs => O.of ρ (evE Γ ρ e) fun d => if szOk (xs.length + 1) = true then .next (ρ.set i (some (.lst (xs ++ [d]), true))) else .bad
  | .ext i e => O.of ρ (ownL ρ i) fun xs => O.of ρ (evE Γ ρ e) fun d => O.of ρ (asLst d) fun ys => if szOk (xs.length + ys.length) = true then .next (ρ.set i (some (.lst (xs ++ ys), true))) else .bad
  | .ins i k e => O.of ρ (ownL ρ i) fun xs => O.of ρ ((top ρ k (evE Γ ρ k)).bind asInt) fun j => O.of ρ (evE Γ ρ e) fun d => if (szOk (xs.length + 1) && decide (0 ≤ j) && decide (j ≤ xs.length)) = true then .next (ρ.set i (some (.lst (xs.take j.toNat ++ d :: xs.drop j.toNat), true))) else .bad
  | .rev i => O.of ρ (ownL ρ i) fun xs => .next (ρ.set i (some (.lst xs.reverse, true)))
  | .clr i => O.of ρ (ownL ρ i) fun _ => .next (ρ.set i (some (.lst [], true)))
  | .dput i k e => O.of ρ (evE Γ ρ e) fun d => O.of ρ (ownK ρ i) fun xs => O.of ρ ((evE Γ ρ k).bind asKey) fun j => if szOk (xs.length + 1) = true then .next (ρ.set i (some (.dic (dicPut xs j d), true))) else .bad
  | .dsd i k e => O.of ρ (ownK ρ i) fun xs => O.of ρ ((evE Γ ρ k).bind asKey) fun j => O.of ρ (evE Γ ρ e) fun d => if szOk (xs.length + 1) = true then .next (ρ.set i (some (.dic (if (xs.any fun p => p.1 == j) = true then xs else dicPut xs j d), true))) else .bad
  | .put i k e => O.of ρ (evE Γ ρ e) fun d => O.of ρ (ownL ρ i) fun xs => O.of ρ ((top ρ k (evE Γ ρ k)).bind asInt) fun j => match plD xs.length j with
      | some n => .next (ρ.set i (some (.lst (xs.set n d), true)))
      | none => .bad
  | .swp i k l => O.of ρ (evE Γ ρ (.tup (.cons (.idx (.var i) (.var l)) (.cons (.idx (.var i) (.var k)) .nil)))) fun d => swpD ρ d i k l
  | .brk => .brk ρ
  | .cont => .cont ρ
  | .rel i => match ρ[i]? with
      | some (some (d, true)) => .next (ρ.set i (some (d, false)))
      | _ => .next ρ
noncomputable def evSs (Γ : Gam) (ρ : Rho) : Ss → O
  | .nil => .next ρ
  | .cons s ss => (evS Γ ρ s).seq fun ρ' => evSs Γ ρ' ss
end
structure Df where
  n : Nat
  fr : Bool
  body : Ss
noncomputable def startR (n : Nat) (ds : List D) : Rho := ds.map (fun d => some (d, false)) ++ List.replicate (n - ds.length) none
noncomputable def isL : D → Bool
  | .lst _ => true
  | .dic _ => true
  | _ => false
noncomputable def O.ans (fr : Bool) (o : O) : R D := match o with
  | .ret d b => if (fr && (!b && isL d)) = true then .bad else .ok d
  | .next _ => if fr = true then .bad else .ok .non
  | .exn x _ => .exn x
  | _ => .bad
noncomputable def Df.run (Γ : Gam) (f : Df) (ds : List D) : R D := (evSs Γ (startR f.n ds) f.body).ans f.fr
structure Prg where
  xs : Bool
  defs : Nat → Df
  G : Nat → D
  up : Nat → List Nat
  xn : Nat → List D → R Ex
noncomputable def cutX (xs : Bool) (r : R D) : R D := match xs with
  | true => (match r with
    | .exn x => if x.fs.isEmpty = true then .exn x else .bad
    | r => r)
  | false => noX r
noncomputable def gam (P : Prg) : Nat → Gam
  | 0 => ⟨fun _ _ => .bad, P.G, P.up, fun i => (P.defs i).fr, P.xn⟩
  | n + 1 => ⟨fun i ds => cutX P.xs ((P.defs i).run (gam P n) ds), P.G, P.up, fun i => (P.defs i).fr, P.xn⟩
end Ov
end
section
set_option Elab.async false
set_option linter.all false
set_option maxRecDepth 100000
set_option maxHeartbeats 4000000
namespace Ov
open PySem
section
variable (Γ : Gam) (ρ : Rho)
@[simp] theorem evE_non : evE Γ ρ .non = .ok .non := rfl
@[simp] theorem evE_bl (b) : evE Γ ρ (.bl b) = .ok (.bl b) := rfl
@[simp] theorem evE_int (b) : evE Γ ρ (.int b) = .ok (.int b) := rfl
@[simp] theorem evE_str (b) : evE Γ ρ (.str b) = .ok (.str b) := rfl
@[simp] theorem evE_var (i) : evE Γ ρ (.var i) = varS ρ i := rfl
@[simp] theorem evE_glob (i) : evE Γ ρ (.glob i) = .ok (Γ.G i) := rfl
@[simp] theorem evE_bin (op a b) : evE Γ ρ (.bin op a b) = (top ρ a (evE Γ ρ a)).bind fun x => (top ρ b (evE Γ ρ b)).bind fun y => binD op x y := rfl
@[simp] theorem evE_un (op a) : evE Γ ρ (.un op a) = (top ρ a (evE Γ ρ a)).bind fun x => unD op x := rfl
@[simp] theorem evE_no (a) : evE Γ ρ (.no a) = (top ρ a (evE Γ ρ a)).bind fun x => (asBl x).bind fun b => .ok (.bl (!b)) := rfl
@[simp] theorem evE_and (es) : evE Γ ρ (.and es) = evN Γ ρ es := rfl
@[simp] theorem evE_or (es) : evE Γ ρ (.or es) = evO Γ ρ es := rfl
@[simp] theorem evN_one (e) : evN Γ ρ (.cons e .nil) = evE Γ ρ e := rfl
@[simp] theorem evN_cons (e e' es) : evN Γ ρ (.cons e (.cons e' es)) = (evE Γ ρ e).bind fun x => (asBl x).bind fun c => if c = true then evN Γ ρ (.cons e' es) else .ok (.bl false) := rfl
@[simp] theorem evO_one (e) : evO Γ ρ (.cons e .nil) = evE Γ ρ e := rfl
@[simp] theorem evO_cons (e e' es) : evO Γ ρ (.cons e (.cons e' es)) = (evE Γ ρ e).bind fun x => (asBl x).bind fun c => if c = true then .ok (.bl true) else evO Γ ρ (.cons e' es) := rfl
@[simp] theorem evE_cmp (op a b) : evE Γ ρ (.cmp op a b) = (top ρ a (evE Γ ρ a)).bind fun x => (top ρ b (evE Γ ρ b)).bind fun y => cmpD op x y := rfl
@[simp] theorem evE_cmp2 (op op' a b c) : evE Γ ρ (.cmp2 op op' a b c) = (top ρ a (evE Γ ρ a)).bind fun x => (top ρ b (evE Γ ρ b)).bind fun y => (cmpD op x y).bind fun z => (asBl z).bind fun k => if k = true then (top ρ c (evE Γ ρ c)).bind fun u => cmpD op' y u else .ok (.bl false) := rfl
@[simp] theorem evE_ite (c a b) : evE Γ ρ (.ite c a b) = (top ρ c (evE Γ ρ c)).bind fun x => (truD x).bind fun k => if k = true then evE Γ ρ a else evE Γ ρ b := rfl
@[simp] theorem evE_call (f as) : evE Γ ρ (.call f as) = (evB Γ ρ as).bind fun xs => (Γ.F f xs).bind fun d => if shEs ρ as = true then .ok d else if clnD (Γ.fr f) d = true then .ok d else .bad := rfl
@[simp] theorem evE_bi (f as) : evE Γ ρ (.bi f as) = (evB Γ ρ as).bind fun xs => biD f xs := rfl
@[simp] theorem evE_isi (a ks) : evE Γ ρ (.isi a ks) = (top ρ a (evE Γ ρ a)).bind fun x => isiD Γ.up ks x := rfl
@[simp] theorem evE_idx (a i) : evE Γ ρ (.idx a i) = (top ρ a (evE Γ ρ a)).bind fun x => (top ρ i (evE Γ ρ i)).bind fun y => idxD x y := rfl
@[simp] theorem evE_sl (a lo hi) : evE Γ ρ (.sl a lo hi) = (top ρ a (evE Γ ρ a)).bind fun x => (top ρ lo (evE Γ ρ lo)).bind fun l => (slE lo l).bind fun l' => (top ρ hi (evE Γ ρ hi)).bind fun h => (slE hi h).bind fun h' => slD x l' h' := rfl
@[simp] theorem evE_tup (es) : evE Γ ρ (.tup es) = (evA Γ ρ es).bind fun xs => .ok (.tup xs) := rfl
@[simp] theorem evE_lst (es) : evE Γ ρ (.lst es) = (evA Γ ρ es).bind fun xs => .ok (.lst xs) := rfl
noncomputable def cG (Γ : Gam) (ρ : Rho) (t : Nat) (c : E) : D → R Bool := fun x => (top (ρ.set t (some (x, false))) c (evE Γ (ρ.set t (some (x, false))) c)).bind truD
noncomputable def cF (Γ : Gam) (ρ : Rho) (t : Nat) (elt : E) : D → R D := fun x => evE Γ (ρ.set t (some (x, false))) elt
noncomputable def mkL (r : R (List D)) : R D := (noX r).bind fun ys => .ok (.lst ys)
@[simp] theorem mkL_ok (ys) : mkL (.ok ys) = .ok (.lst ys) := rfl
@[simp] theorem evE_comp (elt t it c) : evE Γ ρ (.comp elt t it c) = (evI Γ ρ it).bind fun xs => mkL (compD (cG Γ ρ t c) (cF Γ ρ t elt) xs) := rfl
noncomputable def cGT (Γ : Gam) (ρ : Rho) (ts : List Nat) (c : E) : D → R Bool := fun x => (asgAll ts x ρ).bind fun ρ' => (top ρ' c (evE Γ ρ' c)).bind truD
noncomputable def cFT (Γ : Gam) (ρ : Rho) (ts : List Nat) (elt : E) : D → R D := fun x => (asgAll ts x ρ).bind fun ρ' => evE Γ ρ' elt
@[simp] theorem evE_compT (elt ts it c) : evE Γ ρ (.compT elt ts it c) = (evI Γ ρ it).bind fun xs => mkL (compD (cGT Γ ρ ts c) (cFT Γ ρ ts elt) xs) := rfl
@[simp] theorem evE_tupI (it) : evE Γ ρ (.tupI it) = (evI Γ ρ it).bind fun xs => .ok (.tup xs) := rfl
@[simp] theorem evE_dnew : evE Γ ρ .dnew = .ok (.dic []) := rfl
@[simp] theorem evE_fld (o f) : evE Γ ρ (.fld o f) = (top ρ o (evE Γ ρ o)).bind fun x => fldD x f := rfl
@[simp] theorem evA_nil : evA Γ ρ .nil = .ok [] := rfl
@[simp] theorem evA_cons (e es) : evA Γ ρ (.cons e es) = (evE Γ ρ e).bind fun x => (evA Γ ρ es).bind fun xs => .ok (x :: xs) := rfl
@[simp] theorem evB_nil : evB Γ ρ .nil = .ok [] := rfl
@[simp] theorem evB_cons (e es) : evB Γ ρ (.cons e es) = (top ρ e (evE Γ ρ e)).bind fun x => (evB Γ ρ es).bind fun xs => .ok (x :: xs) := rfl
@[simp] theorem evI_e (a) : evI Γ ρ (.e a) = (evE Γ ρ a).bind asSeq := rfl
@[simp] theorem evI_rng (a) : evI Γ ρ (.rng a) = (top ρ a (evE Γ ρ a)).bind fun x => (asInt x).bind fun j => rangeD 0 j := rfl
@[simp] theorem evI_rng2 (a b) : evI Γ ρ (.rng2 a b) = (top ρ a (evE Γ ρ a)).bind fun x => (top ρ b (evE Γ ρ b)).bind fun y => (asInt x).bind fun i => (asInt y).bind fun j => rangeD i j := rfl
@[simp] theorem evI_zip (a b) : evI Γ ρ (.zip a b) = (evE Γ ρ a).bind fun x => (evE Γ ρ b).bind fun y => (asSeq x).bind fun xs => (asSeq y).bind fun ys => .ok (zipD xs ys) := rfl
@[simp] theorem evI_zip3 (a b c) : evI Γ ρ (.zip3 a b c) = (evE Γ ρ a).bind fun x => (evE Γ ρ b).bind fun y => (evE Γ ρ c).bind fun z => zip3R x y z := rfl
@[simp] theorem evI_enm (a) : evI Γ ρ (.enm a) = (evE Γ ρ a).bind fun x => (asSeq x).bind fun xs => .ok (enmD 0 xs) := rfl
@[simp] theorem evIs_zip (a b) : evIs Γ ρ (.zip a b) = evI Γ ρ (.zip a b) := rfl
@[simp] theorem evIs_zip3 (a b c) : evIs Γ ρ (.zip3 a b c) = evI Γ ρ (.zip3 a b c) := rfl
@[simp] theorem evIs_enm (a) : evIs Γ ρ (.enm a) = evI Γ ρ (.enm a) := rfl
@[simp] theorem evIs_e (a) : evIs Γ ρ (.e a) = (evE Γ ρ a).bind asSeq := rfl
@[simp] theorem evIs_rng (a) : evIs Γ ρ (.rng a) = evI Γ ρ (.rng a) := rfl
@[simp] theorem evIs_rng2 (a b) : evIs Γ ρ (.rng2 a b) = evI Γ ρ (.rng2 a b) := rfl
variable (r : R D)
@[simp] theorem top_var (i) : top ρ (.var i) r = varT ρ i := rfl
@[simp] theorem top_non : top ρ .non r = r := rfl
@[simp] theorem top_bl (b) : top ρ (.bl b) r = r := rfl
@[simp] theorem top_int (b) : top ρ (.int b) r = r := rfl
@[simp] theorem top_str (b) : top ρ (.str b) r = r := rfl
@[simp] theorem top_glob (b) : top ρ (.glob b) r = r := rfl
@[simp] theorem top_bin (op a b) : top ρ (.bin op a b) r = r := rfl
@[simp] theorem top_un (op a) : top ρ (.un op a) r = r := rfl
@[simp] theorem top_no (a) : top ρ (.no a) r = r := rfl
@[simp] theorem top_and (a) : top ρ (.and a) r = r := rfl
@[simp] theorem top_or (a) : top ρ (.or a) r = r := rfl
@[simp] theorem top_cmp (op a b) : top ρ (.cmp op a b) r = r := rfl
@[simp] theorem top_cmp2 (op op' a b c) : top ρ (.cmp2 op op' a b c) r = r := rfl
@[simp] theorem top_ite (a b c) : top ρ (.ite a b c) r = r := rfl
@[simp] theorem top_call (a b) : top ρ (.call a b) r = r := rfl
@[simp] theorem top_bi (a b) : top ρ (.bi a b) r = r := rfl
@[simp] theorem top_isi (a b) : top ρ (.isi a b) r = r := rfl
@[simp] theorem top_idx (a b) : top ρ (.idx a b) r = r := rfl
@[simp] theorem top_sl (a b c) : top ρ (.sl a b c) r = r := rfl
@[simp] theorem top_tup (a) : top ρ (.tup a) r = r := rfl
@[simp] theorem top_lst (a) : top ρ (.lst a) r = r := rfl
@[simp] theorem top_comp (a b c d) : top ρ (.comp a b c d) r = r := rfl
@[simp] theorem top_fld (a b) : top ρ (.fld a b) r = r := rfl
@[simp] theorem top_compT (a b c d) : top ρ (.compT a b c d) r = r := rfl
@[simp] theorem top_tupI (a) : top ρ (.tupI a) r = r := rfl
@[simp] theorem top_dnew : top ρ .dnew r = r := rfl
end
@[simp] theorem varT_zero (x : D × Bool) (ρ : Rho) : varT (some x :: ρ) 0 = .ok x.1 := rfl
@[simp] theorem varS_zero (x : D) (ρ : Rho) : varS (some (x, false) :: ρ) 0 = .ok x := rfl
@[simp] theorem varT_succ' (x : Sl) (ρ : Rho) (i : Nat) [NeZero i] : varT (x :: ρ) i = varT ρ (i - 1) := by
  obtain ⟨j, rfl⟩ : ∃ j, i = j + 1 := ⟨i - 1, by have := NeZero.ne i; omega⟩
  rfl
@[simp] theorem varS_succ' (x : Sl) (ρ : Rho) (i : Nat) [NeZero i] : varS (x :: ρ) i = varS ρ (i - 1) := by
  obtain ⟨j, rfl⟩ : ∃ j, i = j + 1 := ⟨i - 1, by have := NeZero.ne i; omega⟩
  rfl
noncomputable def shV (ρ : Rho) (i : Nat) : Bool := match ρ[i]? with
    | some (some (_, true)) => false
    | _ => true
@[simp] theorem shV_zero (x : D) (b : Bool) (ρ : Rho) : shV (some (x, b) :: ρ) 0 = !b := by cases b <;> rfl
@[simp] theorem shV_zeroN (ρ : Rho) : shV (none :: ρ) 0 = true := rfl
@[simp] theorem shV_succ' (x : Sl) (ρ : Rho) (i : Nat) [NeZero i] : shV (x :: ρ) i = shV ρ (i - 1) := by
  obtain ⟨j, rfl⟩ : ∃ j, i = j + 1 := ⟨i - 1, by have := NeZero.ne i; omega⟩
  rfl
section
variable (ρ : Rho)
@[simp] theorem shE_var (i) : shE ρ (.var i) = shV ρ i := rfl
@[simp] theorem shE_non : shE ρ .non = true := rfl
@[simp] theorem shE_bl (b) : shE ρ (.bl b) = true := rfl
@[simp] theorem shE_int (b) : shE ρ (.int b) = true := rfl
@[simp] theorem shE_str (b) : shE ρ (.str b) = true := rfl
@[simp] theorem shE_glob (b) : shE ρ (.glob b) = true := rfl
@[simp] theorem shE_bin (op a b) : shE ρ (.bin op a b) = true := rfl
@[simp] theorem shE_un (op a) : shE ρ (.un op a) = true := rfl
@[simp] theorem shE_no (a) : shE ρ (.no a) = true := rfl
@[simp] theorem shE_and (a) : shE ρ (.and a) = true := rfl
@[simp] theorem shE_or (a) : shE ρ (.or a) = true := rfl
@[simp] theorem shE_cmp (op a b) : shE ρ (.cmp op a b) = true := rfl
@[simp] theorem shE_cmp2 (op op' a b c) : shE ρ (.cmp2 op op' a b c) = true := rfl
@[simp] theorem shE_ite (a b c) : shE ρ (.ite a b c) = true := rfl
@[simp] theorem shE_call (a b) : shE ρ (.call a b) = true := rfl
@[simp] theorem shE_bi (a b) : shE ρ (.bi a b) = true := rfl
@[simp] theorem shE_isi (a b) : shE ρ (.isi a b) = true := rfl
@[simp] theorem shE_idx (a b) : shE ρ (.idx a b) = true := rfl
@[simp] theorem shE_sl (a b c) : shE ρ (.sl a b c) = true := rfl
@[simp] theorem shE_tup (a) : shE ρ (.tup a) = true := rfl
@[simp] theorem shE_lst (a) : shE ρ (.lst a) = true := rfl
@[simp] theorem shE_comp (a b c d) : shE ρ (.comp a b c d) = true := rfl
@[simp] theorem shE_compT (a b c d) : shE ρ (.compT a b c d) = true := rfl
@[simp] theorem shE_tupI (a) : shE ρ (.tupI a) = true := rfl
@[simp] theorem shE_dnew : shE ρ .dnew = true := rfl
@[simp] theorem shE_fld (a b) : shE ρ (.fld a b) = true := rfl
@[simp] theorem shEs_nil : shEs ρ .nil = true := rfl
@[simp] theorem shEs_cons (e es) : shEs ρ (.cons e es) = (shE ρ e && shEs ρ es) := rfl
end
@[simp] theorem setAll_nil (ρ : Rho) : setAll [] [] ρ = some ρ := rfl
@[simp] theorem setAll_cons (t ts d ds) (ρ : Rho) : setAll (t :: ts) (d :: ds) ρ = setAll ts ds (ρ.set t (some (d, false))) := rfl
@[simp] theorem asgSq_lst (ts ds) (ρ : Rho) : asgSq ts (.lst ds) ρ = match setAll ts ds ρ with
  | some ρ' => .ok ρ'
  | none => .bad := rfl
@[simp] theorem asgSq_tup (ts ds) (ρ : Rho) : asgSq ts (.tup ds) ρ = asgAll ts (.tup ds) ρ := rfl
@[simp] theorem asgAll_tup (ts ds) (ρ : Rho) : asgAll ts (.tup ds) ρ = match setAll ts ds ρ with
  | some ρ' => .ok ρ'
  | none => .bad := rfl
@[simp] theorem bind_ite {α β : Type} (c : Prop) [Decidable c] (a b : R α) (f : α → R β) : (if c then a else b).bind f = if c then a.bind f else b.bind f := by split <;> rfl
@[simp] theorem of_ite {α : Type} (ρ : Rho) (c : Prop) [Decidable c] (a b : R α) (f : α → O) : O.of ρ (if c then a else b) f = if c then O.of ρ a f else O.of ρ b f := by split <;> rfl
@[simp] theorem of_bind {α β : Type} (ρ : Rho) (a : R α) (g : α → R β) (f : β → O) : O.of ρ (a.bind g) f = O.of ρ a fun x => O.of ρ (g x) f := by cases a <;> rfl
@[simp] theorem seq_ite (c : Prop) [Decidable c] (a b : O) (f : Rho → O) : O.seq (if c then a else b) f = if c then a.seq f else b.seq f := by split <;> rfl
@[simp] theorem turn_ite (c : Prop) [Decidable c] (a b : O) (f : Rho → O) : O.turn (if c then a else b) f = if c then a.turn f else b.turn f := by split <;> rfl
@[simp] theorem ans_ite (fr : Bool) (c : Prop) [Decidable c] (a b : O) : O.ans fr (if c then a else b) = if c then a.ans fr else b.ans fr := by split <;> rfl
@[simp] theorem seq_next (ρ f) : O.seq (.next ρ) f = f ρ := rfl
@[simp] theorem seq_ret (d b f) : O.seq (.ret d b) f = .ret d b := rfl
@[simp] theorem seq_brk (ρ f) : O.seq (.brk ρ) f = .brk ρ := rfl
@[simp] theorem seq_cont (ρ f) : O.seq (.cont ρ) f = .cont ρ := rfl
@[simp] theorem seq_exn (x ρ f) : O.seq (.exn x ρ) f = .exn x ρ := rfl
@[simp] theorem seq_bad (f) : O.seq .bad f = .bad := rfl
@[simp] theorem turn_next (ρ f) : O.turn (.next ρ) f = f ρ := rfl
@[simp] theorem turn_ret (d b f) : O.turn (.ret d b) f = .ret d b := rfl
@[simp] theorem turn_brk (ρ f) : O.turn (.brk ρ) f = .next ρ := rfl
@[simp] theorem turn_cont (ρ f) : O.turn (.cont ρ) f = f ρ := rfl
@[simp] theorem turn_exn (x ρ f) : O.turn (.exn x ρ) f = .exn x ρ := rfl
@[simp] theorem turn_bad (f) : O.turn .bad f = .bad := rfl
@[simp] theorem ans_next (ρ) : O.ans false (.next ρ) = .ok .non := rfl
@[simp] theorem ans_ret (d b) : O.ans false (.ret d b) = .ok d := rfl
@[simp] theorem ans_retT (d b) : O.ans true (.ret d b) = if (!b && isL d) = true then .bad else .ok d := rfl
@[simp] theorem isL_lst (d) : isL (.lst d) = true := rfl
@[simp] theorem isL_tup (d) : isL (.tup d) = false := rfl
@[simp] theorem isL_int (d) : isL (.int d) = false := rfl
@[simp] theorem ans_exn (fr x ρ) : O.ans fr (.exn x ρ) = .exn x := rfl
@[simp] theorem ans_bad (fr) : O.ans fr .bad = .bad := rfl
@[simp] theorem add_ii (i j : Int) : binD .Add (.int i) (.int j) = .ok (.int (i + j)) := rfl
@[simp] theorem sub_ii (i j : Int) : binD .Sub (.int i) (.int j) = .ok (.int (i - j)) := rfl
@[simp] theorem mul_ii (i j : Int) : binD .Mult (.int i) (.int j) = if (mulOk i j || bigOk i j) = true then .ok (.int (i * j)) else .bad := rfl
@[simp] theorem fdiv_ii (i j : Int) : binD .FloorDiv (.int i) (.int j) = if 0 < j ∧ j < 1073741824 then .ok (.int (i / j)) else .bad := rfl
@[simp] theorem mod_ii (i j : Int) : binD .Mod (.int i) (.int j) = if 0 < j then .ok (.int (i % j)) else .bad := rfl
@[simp] theorem pow_ii (i j : Int) : binD .Pow (.int i) (.int j) = if (0 ≤ j ∧ j ≤ 1000000) ∧ (-(18446744073709551616 : Int) < i ∧ i < 18446744073709551616) then .ok (.int (i ^ j.toNat)) else .bad := rfl
@[simp] theorem add_ss (x y : Str) : binD .Add (.str x) (.str y) = if szOk (x.length + y.length) = true then .ok (.str (x ++ y)) else .bad := rfl
@[simp] theorem add_ll (x y : List D) : binD .Add (.lst x) (.lst y) = if szOk (x.length + y.length) = true then .ok (.lst (x ++ y)) else .bad := rfl
@[simp] theorem add_tt (x y : List D) : binD .Add (.tup x) (.tup y) = if (!x.isEmpty && szOk (x.length + y.length)) = true then .ok (.tup (x ++ y)) else .bad := rfl
@[simp] theorem neg_i (i : Int) : unD .USub (.int i) = .ok (.int (-i)) := rfl
@[simp] theorem eq_xy (x y : D) : cmpD .Eq x y = if (flD 5 x && flD 5 y) = true then .ok (.bl (eqD x y)) else .bad := rfl
@[simp] theorem ne_xy (x y : D) : cmpD .NotEq x y = if (flD 5 x && flD 5 y) = true then .ok (.bl (!eqD x y)) else .bad := rfl
@[simp] theorem lt_ii (i j : Int) : cmpD .Lt (.int i) (.int j) = .ok (.bl (decide (i < j))) := rfl
@[simp] theorem le_ii (i j : Int) : cmpD .LtE (.int i) (.int j) = .ok (.bl (decide (i ≤ j))) := rfl
@[simp] theorem gt_ii (i j : Int) : cmpD .Gt (.int i) (.int j) = .ok (.bl (decide (j < i))) := rfl
@[simp] theorem ge_ii (i j : Int) : cmpD .GtE (.int i) (.int j) = .ok (.bl (decide (j ≤ i))) := rfl
@[simp] theorem in_l (x : D) (ys : List D) : cmpD .In x (.lst ys) = if (flD 5 x && ys.all (flD 5)) = true then .ok (.bl (ys.any fun y => eqD y x)) else .bad := rfl
@[simp] theorem in_t (x : D) (ys : List D) : cmpD .In x (.tup ys) = if (flD 5 x && ys.all (flD 5)) = true then .ok (.bl (ys.any fun y => eqD y x)) else .bad := rfl
@[simp] theorem nin_l (x : D) (ys : List D) : cmpD .NotIn x (.lst ys) = if (flD 5 x && ys.all (flD 5)) = true then .ok (.bl (!ys.any fun y => eqD y x)) else .bad := rfl
@[simp] theorem nin_t (x : D) (ys : List D) : cmpD .NotIn x (.tup ys) = if (flD 5 x && ys.all (flD 5)) = true then .ok (.bl (!ys.any fun y => eqD y x)) else .bad := rfl
@[simp] theorem is_non : cmpD .Is .non .non = .ok (.bl true) := rfl
@[simp] theorem is_int (i) : cmpD .Is (.int i) .non = .ok (.bl false) := rfl
@[simp] theorem is_tup (i) : cmpD .Is (.tup i) .non = .ok (.bl false) := rfl
@[simp] theorem is_lst (i) : cmpD .Is (.lst i) .non = .ok (.bl false) := rfl
@[simp] theorem is_bb (a b) : cmpD .Is (.bl a) (.bl b) = .ok (.bl (a == b)) := rfl
@[simp] theorem isn_bb (a b) : cmpD .IsNot (.bl a) (.bl b) = .ok (.bl (!(a == b))) := rfl
@[simp] theorem isn_non : cmpD .IsNot .non .non = .ok (.bl false) := rfl
@[simp] theorem isn_int (i) : cmpD .IsNot (.int i) .non = .ok (.bl true) := rfl
@[simp] theorem isn_tup (i) : cmpD .IsNot (.tup i) .non = .ok (.bl true) := rfl
@[simp] theorem isn_lst (i) : cmpD .IsNot (.lst i) .non = .ok (.bl true) := rfl
@[simp] theorem eqD_int (i j : Int) : eqD (.int i) (.int j) = (i == j) := rfl
@[simp] theorem eqD_bl (i j : Bool) : eqD (.bl i) (.bl j) = (i == j) := rfl
@[simp] theorem eqD_str (i j : Str) : eqD (.str i) (.str j) = (i == j) := rfl
@[simp] theorem eqD_tup (i j : List D) : eqD (.tup i) (.tup j) = eqDs i j := rfl
@[simp] theorem eqD_lst (i j : List D) : eqD (.lst i) (.lst j) = eqDs i j := rfl
@[simp] theorem eqD_non : eqD .non .non = true := rfl
@[simp] theorem eqD_non_int (i) : eqD .non (.int i) = false := rfl
@[simp] theorem eqD_int_non (i) : eqD (.int i) .non = false := rfl
@[simp] theorem eqDs_nil : eqDs [] [] = true := rfl
@[simp] theorem eqDs_cons (x y : D) (xs ys : List D) : eqDs (x :: xs) (y :: ys) = (eqD x y && eqDs xs ys) := rfl
@[simp] theorem flD_int (n) (i : Int) : flD n (.int i) = true := by cases n <;> rfl
@[simp] theorem flD_bl (n) (i : Bool) : flD n (.bl i) = true := by cases n <;> rfl
@[simp] theorem flD_str (n) (i : Str) : flD n (.str i) = true := by cases n <;> rfl
@[simp] theorem flD_non (n) : flD n .non = true := by cases n <;> rfl
@[simp] theorem flD_tup5 (i) : flD 5 (.tup i) = i.all (flD 4) := rfl
@[simp] theorem flD_lst5 (i) : flD 5 (.lst i) = i.all (flD 4) := rfl
@[simp] theorem flD_tup4 (i) : flD 4 (.tup i) = i.all (flD 3) := rfl
@[simp] theorem flD_lst4 (i) : flD 4 (.lst i) = i.all (flD 3) := rfl
@[simp] theorem flD_tup3 (i) : flD 3 (.tup i) = i.all (flD 2) := rfl
@[simp] theorem flD_lst3 (i) : flD 3 (.lst i) = i.all (flD 2) := rfl
@[simp] theorem flD_tup2 (i) : flD 2 (.tup i) = i.all (flD 1) := rfl
@[simp] theorem flD_lst2 (i) : flD 2 (.lst i) = i.all (flD 1) := rfl
@[simp] theorem flD_tup1 (i) : flD 1 (.tup i) = i.all (flD 0) := rfl
@[simp] theorem flD_lst1 (i) : flD 1 (.lst i) = i.all (flD 0) := rfl
@[simp] theorem truD_bl (b) : truD (.bl b) = .ok b := rfl
@[simp] theorem truD_int (i) : truD (.int i) = .ok (i != 0) := rfl
@[simp] theorem truD_lst (i) : truD (.lst i) = .ok (!i.isEmpty) := rfl
@[simp] theorem truD_tup (i) : truD (.tup i) = .ok (!i.isEmpty) := rfl
@[simp] theorem truD_non : truD .non = .ok false := rfl
@[simp] theorem truA_bl (b) : truA (.bl b) = .ok b := rfl
@[simp] theorem truA_int (i) : truA (.int i) = .ok (i != 0) := rfl
@[simp] theorem truA_non : truA .non = .ok false := rfl
@[simp] theorem allBl_nil : allBl [] = .ok true := rfl
@[simp] theorem allBl_cons (x r) : allBl (x :: r) = (truA x).bind fun b => (allBl r).bind fun c => .ok (b && c) := rfl
@[simp] theorem anyBl_nil : anyBl [] = .ok false := rfl
@[simp] theorem anyBl_cons (x r) : anyBl (x :: r) = (truA x).bind fun b => (anyBl r).bind fun c => .ok (b || c) := rfl
@[simp] theorem cutX_ok (b) (d) : cutX b (.ok d) = .ok d := by cases b <;> rfl
@[simp] theorem cutX_bad (b) : cutX b .bad = .bad := by cases b <;> rfl
@[simp] theorem cutX_exn (c) : cutX true (.exn ⟨c, []⟩) = .exn ⟨c, []⟩ := rfl
@[simp] theorem cutX_false (r) : cutX false r = noX r := rfl
@[simp] theorem noX_okk {α : Type} (a : α) : noX (.ok a) = .ok a := rfl
@[simp] theorem noX_bad {α : Type} : noX (.bad : R α) = .bad := rfl
@[simp] theorem noX_exn {α : Type} (x) : noX (.exn x : R α) = .bad := rfl
@[simp] theorem asBl_bl (b) : asBl (.bl b) = .ok b := rfl
@[simp] theorem asInt_int (b) : asInt (.int b) = .ok b := rfl
@[simp] theorem asLst_lst (b) : asLst (.lst b) = .ok b := rfl
@[simp] theorem asSeq_lst (b) : asSeq (.lst b) = .ok b := rfl
@[simp] theorem asSeq_tup (b) : asSeq (.tup b) = .ok b := rfl
@[simp] theorem idx_l (xs i) : idxD (.lst xs) (.int i) = getL xs i := rfl
@[simp] theorem idx_t (xs i) : idxD (.tup xs) (.int i) = getL xs i := rfl
@[simp] theorem len_l (xs) : biD .len [.lst xs] = .ok (.int xs.length) := rfl
@[simp] theorem len_t (xs) : biD .len [.tup xs] = .ok (.int xs.length) := rfl
@[simp] theorem abs_i (i) : biD .abs [.int i] = .ok (.int (if i < 0 then -i else i)) := rfl
@[simp] theorem max_ii (i j) : biD .max [.int i, .int j] = .ok (.int (if i < j then j else i)) := rfl
@[simp] theorem min_ii (i j) : biD .min [.int i, .int j] = .ok (.int (if j < i then j else i)) := rfl
@[simp] theorem int_i (i) : biD .int [.int i] = .ok (.int i) := rfl
@[simp] theorem int_b (i) : biD .int [.bl i] = .ok (.int (b2i i)) := rfl
@[simp] theorem list_l (i) : biD .list [.lst i] = .ok (.lst i) := rfl
@[simp] theorem list_t (i) : biD .list [.tup i] = .ok (.lst i) := rfl
@[simp] theorem tuple_l (i) : biD .tuple [.lst i] = .ok (.tup i) := rfl
@[simp] theorem tuple_t (i) : biD .tuple [.tup i] = .ok (.tup i) := rfl
@[simp] theorem all_l (i) : biD .all [.lst i] = (allBl i).bind fun b => .ok (.bl b) := rfl
@[simp] theorem any_l (i) : biD .any [.lst i] = (anyBl i).bind fun b => .ok (.bl b) := rfl
@[simp] theorem any_t (i) : biD .any [.tup i] = (anyBl i).bind fun b => .ok (.bl b) := rfl
@[simp] theorem sum_l (i) : biD .sum [.lst i] = (sumD 0 i).bind fun b => .ok (.int b) := rfl
@[simp] theorem sum_t (i) : biD .sum [.tup i] = (sumD 0 i).bind fun b => .ok (.int b) := rfl
@[simp] theorem sorted_l (i) : biD .sorted [.lst i] = (sortedD i).bind fun b => .ok (.lst b) := rfl
@[simp] theorem stp_l (xs k) : biD .stp [.lst xs, .int k] = .ok (.lst (stpD k.toNat xs)) := rfl
@[simp] theorem count_l (xs x) : biD .count [.lst xs, x] = if (flD 5 x && xs.all (flD 5)) = true then .ok (.int ((xs.filter fun y => eqD y x).length : Nat)) else .bad := rfl
@[simp] theorem sl_t (xs lo hi) : slD (.tup xs) lo hi = if (sIxD xs.length 0 lo == 0 && sIxD xs.length xs.length hi == xs.length) = true then .bad else .ok (.tup (cutD xs lo hi)) := rfl
@[simp] theorem sl_l (xs lo hi) : slD (.lst xs) lo hi = .ok (.lst (cutD xs lo hi)) := rfl
@[simp] theorem slE_non (d) : slE .non d = .ok none := rfl
@[simp] theorem slE_int (k i) : slE (.int k) (.int i) = .ok (some i) := rfl
@[simp] theorem slE_var (k i) : slE (.var k) (.int i) = .ok (some i) := rfl
@[simp] theorem slE_bin (op a b i) : slE (.bin op a b) (.int i) = .ok (some i) := rfl
@[simp] theorem slE_un (op a i) : slE (.un op a) (.int i) = .ok (some i) := rfl
@[simp] theorem slE_bi (b as i) : slE (.bi b as) (.int i) = .ok (some i) := rfl
@[simp] theorem isi_non (up ks) : isiD up ks .non = if ks.any clsK = true then .bad else .ok (.bl (ks.any fun k => kiD up k .non)) := rfl
@[simp] theorem isi_bl (up ks b) : isiD up ks (.bl b) = if ks.any clsK = true then .bad else .ok (.bl (ks.any fun k => kiD up k (.bl b))) := rfl
@[simp] theorem isi_int (up ks b) : isiD up ks (.int b) = if ks.any clsK = true then .bad else .ok (.bl (ks.any fun k => kiD up k (.int b))) := rfl
@[simp] theorem isi_str (up ks b) : isiD up ks (.str b) = if ks.any clsK = true then .bad else .ok (.bl (ks.any fun k => kiD up k (.str b))) := rfl
@[simp] theorem isi_tup (up ks b) : isiD up ks (.tup b) = if ks.any clsK = true then .bad else .ok (.bl (ks.any fun k => kiD up k (.tup b))) := rfl
@[simp] theorem isi_lst (up ks b) : isiD up ks (.lst b) = if ks.any clsK = true then .bad else .ok (.bl (ks.any fun k => kiD up k (.lst b))) := rfl
@[simp] theorem isi_exc (up ks c f) : isiD up ks (.exc c f) = if ks.all clsK = true then .ok (.bl (ks.any fun k => kiD up k (.exc c f))) else .bad := rfl
@[simp] theorem clsK_cls (c) : clsK (.cls c) = true := rfl
@[simp] theorem clsK_verr : clsK .verr = true := rfl
@[simp] theorem clsK_int : clsK .int = false := rfl
@[simp] theorem clsK_bool : clsK .bool = false := rfl
@[simp] theorem clsK_str : clsK .str = false := rfl
@[simp] theorem clsK_list : clsK .list = false := rfl
@[simp] theorem clsK_tuple : clsK .tuple = false := rfl
@[simp] theorem ki_int_int (up i) : kiD up .int (.int i) = true := rfl
@[simp] theorem ki_int_non (up) : kiD up .int .non = false := rfl
@[simp] theorem ki_bool_int (up i) : kiD up .bool (.int i) = false := rfl
@[simp] theorem ki_int_tup (up i) : kiD up .int (.tup i) = false := rfl
@[simp] theorem ki_bool_bl (up i) : kiD up .bool (.bl i) = true := rfl
@[simp] theorem ki_bool_non (up) : kiD up .bool .non = false := rfl
@[simp] theorem ki_list_lst (up i) : kiD up .list (.lst i) = true := rfl
@[simp] theorem ki_tuple_tup (up i) : kiD up .tuple (.tup i) = true := rfl
@[simp] theorem ki_tuple_non (up) : kiD up .tuple .non = false := rfl
@[simp] theorem ki_cls_exc (up c k f) : kiD up (.cls c) (.exc k f) = (up k).contains c := rfl
@[simp] theorem ki_verr_exc (up k f) : kiD up .verr (.exc k f) = true := rfl
theorem getL_pos {xs : List D} {i : Int} {d : D} (h0 : 0 ≤ i) (h : xs[i.toNat]? = some d) : getL xs i = .ok d := by
  unfold getL plD
  obtain ⟨h1, _⟩ := List.getElem?_eq_some_iff.mp h
  rw [if_pos h0, if_pos (by omega)]
  dsimp only
  rw [h]
section
variable (Γ : Gam) (ρ : Rho)
@[simp] theorem evSs_nil : evSs Γ ρ .nil = .next ρ := rfl
noncomputable def goSs (Γ : Gam) (ss : Ss) (o : O) : O := o.seq fun ρ' => evSs Γ ρ' ss
@[simp] theorem evSs_cons (s ss) : evSs Γ ρ (.cons s ss) = goSs Γ ss (evS Γ ρ s) := rfl
@[simp] theorem go_next (ss) : goSs Γ ss (.next ρ) = evSs Γ ρ ss := rfl
@[simp] theorem go_ret (ss d b) : goSs Γ ss (.ret d b) = .ret d b := rfl
@[simp] theorem go_brk (ss) : goSs Γ ss (.brk ρ) = .brk ρ := rfl
@[simp] theorem go_cont (ss) : goSs Γ ss (.cont ρ) = .cont ρ := rfl
@[simp] theorem go_exn (ss x) : goSs Γ ss (.exn x ρ) = .exn x ρ := rfl
@[simp] theorem go_bad (ss) : goSs Γ ss .bad = .bad := rfl
@[simp] theorem go_ite (ss) (c : Prop) [Decidable c] (a b : O) : goSs Γ ss (if c then a else b) = if c then goSs Γ ss a else goSs Γ ss b := by split <;> rfl
@[simp] theorem go_nil (o : O) : goSs Γ .nil o = o := by cases o <;> rfl
noncomputable def forB (Γ : Gam) (t : Nat) (body : Ss) : D → Rho → O := fun x ρ' => evSs Γ (ρ'.set t (some (x, false))) body
noncomputable def whC (Γ : Gam) (c : E) : Rho → R Bool := fun ρ' => (top ρ' c (evE Γ ρ' c)).bind truD
noncomputable def whB (Γ : Gam) (body : Ss) : Rho → O := fun ρ' => evSs Γ ρ' body
noncomputable def forR (Γ : Gam) (t : Nat) (body : Ss) (ρ : Rho) (r : R (List D)) : O := O.of ρ r fun xs => forD (forB Γ t body) xs ρ
@[simp] theorem forR_ok (t body xs) : forR Γ t body ρ (.ok xs) = forD (forB Γ t body) xs ρ := rfl
@[simp] theorem evS_pass : evS Γ ρ .pass = .next ρ := rfl
@[simp] theorem evS_asg (i e) : evS Γ ρ (.asg i false e) = O.of ρ (evE Γ ρ e) fun d => .next (ρ.set i (some (d, false))) := rfl
@[simp] theorem evS_expr (e) : evS Γ ρ (.expr e) = O.of ρ (evE Γ ρ e) fun _ => .next ρ := rfl
@[simp] theorem evS_ret (e) : evS Γ ρ (.ret e) = O.of ρ (top ρ e (evE Γ ρ e)) fun d => .ret d (newE Γ e || (match e with | .var i => (match ρ[i]? with | some (some (_, o)) => o | _ => false) | _ => false)) := rfl
@[simp] theorem evS_retN : evS Γ ρ .retN = .ret .non false := rfl
@[simp] theorem evS_ife (c a b) : evS Γ ρ (.ife c a b) = O.of ρ ((top ρ c (evE Γ ρ c)).bind truD) fun k => if k = true then evSs Γ ρ a else evSs Γ ρ b := rfl
@[simp] theorem evS_fors (t it body) : evS Γ ρ (.fors t it body) = forR Γ t body ρ (evIs Γ ρ it) := rfl
noncomputable def forBT (Γ : Gam) (ts : List Nat) (body : Ss) : D → Rho → O := fun x ρ' => O.of ρ' (asgAll ts x ρ') fun ρ'' => evSs Γ ρ'' body
noncomputable def forRT (Γ : Gam) (ts : List Nat) (body : Ss) (ρ : Rho) (r : R (List D)) : O := O.of ρ r fun xs => forD (forBT Γ ts body) xs ρ
@[simp] theorem forRT_ok (t body xs) : forRT Γ t body ρ (.ok xs) = forD (forBT Γ t body) xs ρ := rfl
@[simp] theorem evS_forT (t it body) : evS Γ ρ (.forT t it body) = forRT Γ t body ρ (evIs Γ ρ it) := rfl
@[simp] theorem evS_asgT (ts e) : evS Γ ρ (.asgT ts e) = O.of ρ (evE Γ ρ e) fun d => O.of ρ (asgSq ts d ρ) fun ρ' => .next ρ' := rfl
theorem evS_asgF (i e) : evS Γ ρ (.asg i true e) = O.of ρ (evE Γ ρ e) fun d => if newE Γ e = true then (match d with
      | .lst xs => .next (ρ.set i (some (.lst xs, true)))
      | .dic xs => .next (ρ.set i (some (.dic xs, true)))
      | _ => .bad) else .bad := rfl
noncomputable def setF (ρ : Rho) (i : Nat) : D → O
  | .lst xs => .next (ρ.set i (some (.lst xs, true)))
  | .dic xs => .next (ρ.set i (some (.dic xs, true)))
  | _ => .bad
@[simp] theorem setF_l (i xs) : setF ρ i (.lst xs) = .next (ρ.set i (some (.lst xs, true))) := rfl
@[simp] theorem setF_d (i xs) : setF ρ i (.dic xs) = .next (ρ.set i (some (.dic xs, true))) := rfl
@[simp] theorem evS_asgF' (i e) : evS Γ ρ (.asg i true e) = O.of ρ (evE Γ ρ e) fun d => if newE Γ e = true then setF ρ i d else .bad := by
  rw [evS_asgF]
  congr 1
@[simp] theorem evS_app (i e) : evS Γ ρ (.app i e) = O.of ρ (ownL ρ i) fun xs => O.of ρ (evE Γ ρ e) fun d => if szOk (xs.length + 1) = true then .next (ρ.set i (some (.lst (xs ++ [d]), true))) else .bad := rfl
@[simp] theorem evS_ext (i e) : evS Γ ρ (.ext i e) = O.of ρ (ownL ρ i) fun xs => O.of ρ (evE Γ ρ e) fun d => O.of ρ (asLst d) fun ys => if szOk (xs.length + ys.length) = true then .next (ρ.set i (some (.lst (xs ++ ys), true))) else .bad := rfl
@[simp] theorem evS_rev (i) : evS Γ ρ (.rev i) = O.of ρ (ownL ρ i) fun xs => .next (ρ.set i (some (.lst xs.reverse, true))) := rfl
@[simp] theorem evS_clr (i) : evS Γ ρ (.clr i) = O.of ρ (ownL ρ i) fun _ => .next (ρ.set i (some (.lst [], true))) := rfl
theorem evS_put (i k e) : evS Γ ρ (.put i k e) = O.of ρ (evE Γ ρ e) fun d => O.of ρ (ownL ρ i) fun xs => O.of ρ ((top ρ k (evE Γ ρ k)).bind asInt) fun j => match plD xs.length j with
      | some n => .next (ρ.set i (some (.lst (xs.set n d), true)))
      | none => .bad := rfl
@[simp] theorem evS_tryx (body c x h) : evS Γ ρ (.tryx body c x h) = match evSs Γ ρ body with
      | .exn y ρ' => if (Γ.up y.c).contains c = true then (match evSs Γ (ρ'.set x (some (.exc y.c y.fs, false))) h with
          | .next ρ'' => .next (ρ''.set x none)
          | .ret d f => .ret d f
          | _ => .bad) else .bad
      | o => o := rfl
@[simp] theorem evS_whl (c body) : evS Γ ρ (.whl c body) = whlD (whC Γ c) (whB Γ body) fuel0 ρ := rfl
@[simp] theorem evS_rais (c as) : evS Γ ρ (.rais c as) = O.of ρ (noX (evA Γ ρ as)) fun xs => O.of ρ (Γ.xn c xs) fun x => .exn x ρ := rfl
@[simp] theorem evS_brk : evS Γ ρ .brk = .brk ρ := rfl
@[simp] theorem evS_cont : evS Γ ρ .cont = .cont ρ := rfl
end
end Ov
namespace Ov
open PySem
theorem forD_inv {body : D → Rho → O} (P : Rho → Prop) : ∀ (xs : List D) (ρ : Rho), P ρ → (∀ x ∈ xs, ∀ ρ, P ρ → ∃ ρ', body x ρ = .next ρ' ∧ P ρ') → ∃ ρ', forD body xs ρ = .next ρ' ∧ P ρ'
  | [], ρ, h, _ => ⟨ρ, rfl, h⟩
  | x :: xs, ρ, h, k => by
    obtain ⟨ρ1, e1, h1⟩ := k x List.mem_cons_self ρ h
    obtain ⟨ρ2, e2, h2⟩ := forD_inv P xs ρ1 h1 fun y hy => k y (List.mem_cons_of_mem _ hy)
    exact ⟨ρ2, by show (body x ρ).turn _ = _; rw [e1]; exact e2, h2⟩
theorem rangeD_ok {lo hi : Int} (h1 : 0 ≤ lo) (h2 : lo < 1000000) (h3 : 0 ≤ hi) (h4 : hi < 1000000) : rangeD lo hi = .ok (rngD lo (hi - lo).toNat) := by
  unfold rangeD
  rw [if_pos (by omega)]
theorem range0_ok {hi : Int} (h3 : 0 ≤ hi) (h4 : hi < 1000000) : rangeD 0 hi = .ok (rngD 0 hi.toNat) := by
  rw [rangeD_ok (by omega) (by omega) h3 h4, Int.sub_zero]
theorem mem_rngD {lo : Int} {n : Nat} {x : D} (h : x ∈ rngD lo n) : ∃ k : Nat, k < n ∧ x = .int (lo + (k : Int)) := by
  obtain ⟨k, hk, e⟩ := List.mem_map.mp h
  exact ⟨k, List.mem_range.mp hk, e.symm⟩
theorem length_rngD (lo : Int) (n : Nat) : (rngD lo n).length = n := by simp [rngD]
theorem get_rngD {lo : Int} {n i : Nat} {x : D} (h : (rngD lo n)[i]? = some x) : i < n ∧ x = .int (lo + (i : Int)) := by
  have hl := (List.getElem?_eq_some_iff.mp h).1
  rw [length_rngD] at hl
  unfold rngD at h
  rw [List.getElem?_map, List.getElem?_range hl] at h
  cases h
  exact ⟨hl, rfl⟩
noncomputable def Ss.take : Nat → Ss → Ss
  | 0, _ => .nil
  | _, .nil => .nil
  | n + 1, .cons s ss => .cons s (ss.take n)
noncomputable def Ss.drop : Nat → Ss → Ss
  | 0, ss => ss
  | _, .nil => .nil
  | n + 1, .cons _ ss => ss.drop n
theorem evSs_cut (Γ : Gam) : ∀ (n : Nat) (ss : Ss) (ρ : Rho), evSs Γ ρ ss = goSs Γ (ss.drop n) (evSs Γ ρ (ss.take n))
  | 0, _, _ => rfl
  | _ + 1, .nil, _ => rfl
  | n + 1, .cons s ss, ρ => by
    show (evS Γ ρ s).seq (fun ρ' => evSs Γ ρ' ss) = goSs Γ (ss.drop n) ((evS Γ ρ s).seq fun ρ' => evSs Γ ρ' (ss.take n))
    cases evS Γ ρ s with
    | next ρ' => exact evSs_cut Γ n ss ρ'
    | _ => rfl
end Ov
end
section
set_option linter.all false
set_option maxRecDepth 100000
set_option maxHeartbeats 4000000
namespace OvC
open PySem Ov PyProof.Rows
noncomputable abbrev scr (ns : List Int) : D := .lst (ns.map .int)
noncomputable abbrev sh (d : D) : Sl := some (d, false)
noncomputable abbrev si (i : Int) : Sl := some (.int i, false)
theorem four {P : Nat → Prop} {j : Int} (h0 : P 0) (h1 : P 1) (h2 : P 2) (h3 : P 3) : P (j % 4).toNat := by
  have : (j % 4).toNat = 0 ∨ (j % 4).toNat = 1 ∨ (j % 4).toNat = 2 ∨ (j % 4).toNat = 3 := by omega
  rcases this with e | e | e | e <;> rw [e] <;> assumption
noncomputable def P4 (p : Int) : Prop := p = 3 ∨ p = 5 ∨ p = 7 ∨ p = 11
noncomputable def pr4 (j : Int) : Int := [3, 5, 7, 11].getD (j % 4).toNat 0
theorem pr4_is (j) : P4 (pr4 j) := by
  unfold pr4
  exact four (P := fun j => P4 ([3, 5, 7, 11].getD j 0)) (.inl rfl) (.inr (.inl rfl)) (.inr (.inr (.inl rfl))) (.inr (.inr (.inr rfl)))
theorem P4.pos {p} (h : P4 p) : 0 < p := by rcases h with rfl | rfl | rfl | rfl <;> decide
theorem P4.lo {p} (h : P4 p) : 3 ≤ p := by rcases h with rfl | rfl | rfl | rfl <;> decide
theorem P4.hi {p} (h : P4 p) : p ≤ 11 := by rcases h with rfl | rfl | rfl | rfl <;> decide
theorem getL_pr4 (j : Int) : getL [.int 3, .int 5, .int 7, .int 11] (j % 4) = .ok (.int (pr4 j)) := by
  have h := four (P := fun j => [D.int 3, D.int 5, D.int 7, D.int 11][j]? = some (D.int ([3, 5, 7, 11].getD j 0))) (j := j) rfl rfl rfl rfl
  exact getL_pos (by omega) h
theorem mulOk_l {i j : Int} (h0 : -18446744073709551616 < i) (h1 : i < 18446744073709551616) : mulOk i j = true := by simp [mulOk]; left; exact ⟨h0, h1⟩
theorem mulOk_r {i j : Int} (h0 : -18446744073709551616 < j) (h1 : j < 18446744073709551616) : mulOk i j = true := by simp [mulOk]; right; exact ⟨h0, h1⟩
noncomputable def c_rest : Df := ⟨2, false, (.cons (.ret (.bin .Mod (.var 1) (.var 0))) .nil)⟩
noncomputable def S_rest (Γ : Gam) : Prop := ∀ p n : Int, 0 < p → Γ.F 1 [.int p, .int n] = .ok (.int (n % p))
theorem r_rest (Γ : Gam) (p n : Int) (h : 0 < p) : c_rest.run Γ [.int p, .int n] = .ok (.int (n % p)) := by simp [c_rest, Df.run, startR, h]
end OvC
end
section
set_option Elab.async false
set_option linter.all false
set_option maxRecDepth 100000
set_option maxHeartbeats 4000000
namespace Ov
open PySem PySem.Spec PyProof.Rows L2
noncomputable abbrev ClA := Nat → Option Addr
noncomputable def KL (K : PySem.W.Frag) (a : Addr) (xs : List V) : Prop := ∃ (o : Obj) (its : Array Value) (n : Nat), K.lookup a = some o ∧ o.cls = .type "list" ∧ o.dict = none ∧ o.data = .seq its n ∧ its.size ≤ sizeLine ∧ Vals xs its.toList
noncomputable def KT (K : PySem.W.Frag) (a : Addr) (xs : List V) : Prop := ∃ (o : Obj) (its : Array Value) (n : Nat), K.lookup a = some o ∧ o.cls = .type "tuple" ∧ o.data = .seq its n ∧ its.size ≤ sizeLine ∧ Vals xs its.toList
section
variable (K : PySem.W.Frag) (CL : ClA) (H : Hp) (A : Addr → Prop)
mutual
noncomputable def Rep : V → D → Prop
  | v, .non => v = .non
  | v, .bl b => v = .bl b
  | v, .int i => v = .int i
  | v, .str x => v = .str x
  | v, .tup ds => ∃ a xs, v = .ref a ∧ (¬ A a ∨ KT K a xs) ∧ SqT K H a xs ∧ Reps xs ds
  | v, .lst ds => ∃ a xs, v = .ref a ∧ (¬ A a ∨ KL K a xs) ∧ SqL K H a xs ∧ Reps xs ds
  | v, .obj c fs => ∃ a C dx vs, v = .ref a ∧ ¬ A a ∧ CL c = some C ∧ H a = some (.ins C dx vs) ∧ Repf vs fs
  | _, .dic _ => False
  | v, .exc c fs => ∃ a C φ, v = .ref a ∧ ¬ A a ∧ CL c = some C ∧ H a = some (.ext φ) ∧ (∀ h, φ h → ∃ o, h.get? a = some o ∧ o.cls = .ref C) ∧ (fs = [] ∨ ∃ dx vs, ¬ A dx ∧ H dx = some (.xd vs) ∧ Repf vs fs ∧ ∀ h, φ h → ∃ o, h.get? a = some o ∧ o.dict = some dx)
noncomputable def Reps : List V → List D → Prop
  | [], [] => True
  | v :: vs, d :: ds => Rep v d ∧ Reps vs ds
  | _, _ => False
noncomputable def Repf : List (Str × V) → List (Str × D) → Prop
  | [], [] => True
  | v :: vs, d :: ds => Repp v d ∧ Repf vs ds
  | _, _ => False
noncomputable def Repp : Str × V → Str × D → Prop
  | v, (n, d) => v.1 = n ∧ Rep v.2 d
end
noncomputable def RepT (v : V) (d : D) : Prop := Rep K CL H A v d ∨ ∃ a xs ds, v = .ref a ∧ d = .lst ds ∧ H a = some (.lst xs) ∧ Reps K CL H A xs ds
end
noncomputable def Kp (A : Addr → Prop) (H H' : Hp) : Prop := ∀ b o, H b = some o → ¬ A b → H' b = some o
noncomputable def AOk (H : Hp) (A : Addr → Prop) : Prop := ∀ a, A a → ∃ xs, H a = some (.lst xs)
theorem Kp.of {A : Addr → Prop} {H H' : Hp} (h : Same H H') : Kp A H H' := fun b o e _ => h b o e
theorem AOk.same {A : Addr → Prop} {H H' : Hp} (h : AOk H A) (s : Same H H') : AOk H' A := fun a ha => let ⟨xs, e⟩ := h a ha; ⟨xs, s _ _ e⟩
theorem AOk.new {A : Addr → Prop} {H : Hp} {p : Addr} (h : AOk H A) (e : H p = none) : ¬ A p := fun ha => by
  obtain ⟨xs, q⟩ := h p ha; rw [e] at q; cases q
section
variable {K : PySem.W.Frag} {CL : ClA} {H H' : Hp} {A B : Addr → Prop}
theorem rd_kp {a : Addr} {u : HO} (k : Kp A H H') (na : ¬ A a) (h : Rd H a u) : Rd H' a u := by
  rcases h with h | ⟨o, h⟩
  · exact .inl (k _ _ h na)
  · exact .inr ⟨o, k _ _ h na⟩
theorem sql_kp {a : Addr} {xs : List V} (k : Kp A H H') (na : ¬ A a ∨ KL K a xs) (h : SqL K H a xs) : SqL K H' a xs := na.elim (fun na => h.imp (rd_kp k na) id) .inr
theorem sqt_kp {a : Addr} {xs : List V} (k : Kp A H H') (na : ¬ A a ∨ KT K a xs) (h : SqT K H a xs) : SqT K H' a xs := na.elim (fun na => h.imp (rd_kp k na) id) .inr
mutual
theorem Rep.kp (k : Kp A H H') : ∀ {v : V} (d : D), Rep K CL H A v d → Rep K CL H' A v d
  | _, .non, h => h
  | _, .bl _, h => h
  | _, .int _, h => h
  | _, .str _, h => h
  | _, .dic _, h => h.elim
  | _, .tup ds, h => by
    obtain ⟨a, xs, e, na, s, r⟩ := h
    exact ⟨a, xs, e, na, by first | exact sqt_kp k na s | exact sql_kp k na s, Reps.kp k ds r⟩
  | _, .lst ds, h => by
    obtain ⟨a, xs, e, na, s, r⟩ := h
    exact ⟨a, xs, e, na, by first | exact sqt_kp k na s | exact sql_kp k na s, Reps.kp k ds r⟩
  | _, .obj c fs, h => by
    obtain ⟨a, C, dx, vs, e, na, c, s, r⟩ := h
    exact ⟨a, C, dx, vs, e, na, c, k _ _ s na, Repf.kp k fs r⟩
  | _, .exc c fs, h => by
    obtain ⟨a, C, φ, e, na, c, s, p, q⟩ := h
    refine ⟨a, C, φ, e, na, c, k _ _ s na, p, q.imp id ?_⟩
    rintro ⟨dx, vs, nx, s2, r, z⟩
    exact ⟨dx, vs, nx, k _ _ s2 nx, Repf.kp k fs r, z⟩
theorem Reps.kp (k : Kp A H H') : ∀ {vs : List V} (ds : List D), Reps K CL H A vs ds → Reps K CL H' A vs ds
  | [], [], h => h
  | _ :: _, d :: ds, h => ⟨Rep.kp k d h.1, Reps.kp k ds h.2⟩
  | [], _ :: _, h => h.elim
  | _ :: _, [], h => h.elim
theorem Repf.kp (k : Kp A H H') : ∀ {vs : List (Str × V)} (ds : List (Str × D)), Repf K CL H A vs ds → Repf K CL H' A vs ds
  | [], [], h => h
  | _ :: _, d :: ds, h => ⟨Repp.kp k d h.1, Repf.kp k ds h.2⟩
  | [], _ :: _, h => h.elim
  | _ :: _, [], h => h.elim
theorem Repp.kp (k : Kp A H H') : ∀ {v : Str × V} (d : Str × D), Repp K CL H A v d → Repp K CL H' A v d
  | _, (_, d), h => ⟨h.1, Rep.kp k d h.2⟩
end
mutual
theorem Rep.sub (k : ∀ a, B a → A a) : ∀ {v : V} (d : D), Rep K CL H A v d → Rep K CL H B v d
  | _, .non, h => h
  | _, .bl _, h => h
  | _, .int _, h => h
  | _, .str _, h => h
  | _, .dic _, h => h.elim
  | _, .tup ds, h => by
    obtain ⟨a, xs, e, na, s, r⟩ := h
    exact ⟨a, xs, e, na.imp (fun na z => na (k _ z)) id, s, Reps.sub k ds r⟩
  | _, .lst ds, h => by
    obtain ⟨a, xs, e, na, s, r⟩ := h
    exact ⟨a, xs, e, na.imp (fun na z => na (k _ z)) id, s, Reps.sub k ds r⟩
  | _, .obj c fs, h => by
    obtain ⟨a, C, dx, vs, e, na, c, s, r⟩ := h
    exact ⟨a, C, dx, vs, e, fun z => na (k _ z), c, s, Repf.sub k fs r⟩
  | _, .exc c fs, h => by
    obtain ⟨a, C, φ, e, na, c, s, p, q⟩ := h
    refine ⟨a, C, φ, e, fun z => na (k _ z), c, s, p, q.imp id ?_⟩
    rintro ⟨dx, vs, nx, s2, r, z⟩
    exact ⟨dx, vs, fun z => nx (k _ z), s2, Repf.sub k fs r, z⟩
theorem Reps.sub (k : ∀ a, B a → A a) : ∀ {vs : List V} (ds : List D), Reps K CL H A vs ds → Reps K CL H B vs ds
  | [], [], h => h
  | _ :: _, d :: ds, h => ⟨Rep.sub k d h.1, Reps.sub k ds h.2⟩
  | [], _ :: _, h => h.elim
  | _ :: _, [], h => h.elim
theorem Repf.sub (k : ∀ a, B a → A a) : ∀ {vs : List (Str × V)} (ds : List (Str × D)), Repf K CL H A vs ds → Repf K CL H B vs ds
  | [], [], h => h
  | _ :: _, d :: ds, h => ⟨Repp.sub k d h.1, Repf.sub k ds h.2⟩
  | [], _ :: _, h => h.elim
  | _ :: _, [], h => h.elim
theorem Repp.sub (k : ∀ a, B a → A a) : ∀ {v : Str × V} (d : Str × D), Repp K CL H A v d → Repp K CL H B v d
  | _, (_, d), h => ⟨h.1, Rep.sub k d h.2⟩
end
mutual
theorem Rep.wide (hp : ∀ a, B a → A a ∨ H a = none) : ∀ {v : V} (d : D), Rep K CL H A v d → Rep K CL H B v d
  | _, .non, h => h
  | _, .bl _, h => h
  | _, .int _, h => h
  | _, .str _, h => h
  | _, .dic _, h => h.elim
  | _, .tup ds, h => by
    obtain ⟨a, xs, e, na, s, r⟩ := h
    refine ⟨a, xs, e, ?_, s, Reps.wide hp ds r⟩
    rcases s with s | s
    · refine na.imp (fun na z => (hp _ z).elim na fun e => ?_) id
      rcases s with s | ⟨o, s⟩ <;> rw [e] at s <;> cases s
    · exact .inr s
  | _, .lst ds, h => by
    obtain ⟨a, xs, e, na, s, r⟩ := h
    refine ⟨a, xs, e, ?_, s, Reps.wide hp ds r⟩
    rcases s with s | s
    · refine na.imp (fun na z => (hp _ z).elim na fun e => ?_) id
      rcases s with s | ⟨o, s⟩ <;> rw [e] at s <;> cases s
    · exact .inr s
  | _, .obj c fs, h => by
    obtain ⟨a, C, dx, vs, e, na, c, s, r⟩ := h
    exact ⟨a, C, dx, vs, e, (fun z => (hp _ z).elim na fun e => by rw [e] at s; cases s), c, s, Repf.wide hp fs r⟩
  | _, .exc c fs, h => by
    obtain ⟨a, C, φ, e, na, c, s, p, q⟩ := h
    refine ⟨a, C, φ, e, (fun z => (hp _ z).elim na fun e => by rw [e] at s; cases s), c, s, p, q.imp id ?_⟩
    rintro ⟨dx, vs, nx, s2, r, z⟩
    exact ⟨dx, vs, (fun z => (hp _ z).elim nx fun e => by rw [e] at s2; cases s2), s2, Repf.wide hp fs r, z⟩
theorem Reps.wide (hp : ∀ a, B a → A a ∨ H a = none) : ∀ {vs : List V} (ds : List D), Reps K CL H A vs ds → Reps K CL H B vs ds
  | [], [], h => h
  | _ :: _, d :: ds, h => ⟨Rep.wide hp d h.1, Reps.wide hp ds h.2⟩
  | [], _ :: _, h => h.elim
  | _ :: _, [], h => h.elim
theorem Repf.wide (hp : ∀ a, B a → A a ∨ H a = none) : ∀ {vs : List (Str × V)} (ds : List (Str × D)), Repf K CL H A vs ds → Repf K CL H B vs ds
  | [], [], h => h
  | _ :: _, d :: ds, h => ⟨Repp.wide hp d h.1, Repf.wide hp ds h.2⟩
  | [], _ :: _, h => h.elim
  | _ :: _, [], h => h.elim
theorem Repp.wide (hp : ∀ a, B a → A a ∨ H a = none) : ∀ {v : Str × V} (d : Str × D), Repp K CL H A v d → Repp K CL H B v d
  | _, (_, d), h => ⟨h.1, Rep.wide hp d h.2⟩
end
theorem Rep.same {v : V} {d : D} (s : Same H H') (h : Rep K CL H A v d) : Rep K CL H' A v d := Rep.kp (Kp.of s) d h
theorem Reps.same {v : List V} {d : List D} (s : Same H H') (h : Reps K CL H A v d) : Reps K CL H' A v d := Reps.kp (Kp.of s) d h
theorem RepT.same {v : V} {d : D} (s : Same H H') (h : RepT K CL H A v d) : RepT K CL H' A v d := by
  rcases h with h | ⟨a, xs, ds, e, e2, q, r⟩
  · exact .inl (h.same s)
  · exact .inr ⟨a, xs, ds, e, e2, s _ _ q, r.same s⟩
theorem Reps.length : ∀ {vs : List V} {ds : List D}, Reps K CL H A vs ds → vs.length = ds.length
  | [], [], _ => rfl
  | _ :: _, _ :: _, h => congrArg (· + 1) (Reps.length h.2)
  | [], _ :: _, h => h.elim
  | _ :: _, [], h => h.elim
theorem Reps.append : ∀ {vs ws : List V} {ds es : List D}, Reps K CL H A vs ds → Reps K CL H A ws es → Reps K CL H A (vs ++ ws) (ds ++ es)
  | [], _, [], _, _, h => h
  | _ :: _, _, _ :: _, _, h, g => ⟨h.1, Reps.append h.2 g⟩
  | [], _, _ :: _, _, h, _ => h.elim
  | _ :: _, _, [], _, h, _ => h.elim
theorem Reps.get : ∀ {vs : List V} {ds : List D} {i : Nat} {d : D}, Reps K CL H A vs ds → ds[i]? = some d → ∃ v, vs[i]? = some v ∧ Rep K CL H A v d
  | [], [], _, _, _, e => by simp at e
  | v :: _, _ :: _, 0, _, h, e => by simp at e; subst e; exact ⟨v, rfl, h.1⟩
  | _ :: _, _ :: _, i + 1, _, h, e => by
    obtain ⟨v, q, r⟩ := Reps.get (i := i) h.2 (by simpa using e)
    exact ⟨v, by simpa using q, r⟩
  | [], _ :: _, _, _, h, _ => h.elim
  | _ :: _, [], _, _, h, _ => h.elim
theorem Reps.take : ∀ {vs : List V} {ds : List D} (n : Nat), Reps K CL H A vs ds → Reps K CL H A (vs.take n) (ds.take n)
  | _, _, 0, _ => trivial
  | [], [], _ + 1, _ => trivial
  | _ :: _, _ :: _, n + 1, h => ⟨h.1, Reps.take n h.2⟩
  | [], _ :: _, _ + 1, h => h.elim
  | _ :: _, [], _ + 1, h => h.elim
theorem Reps.drop : ∀ {vs : List V} {ds : List D} (n : Nat), Reps K CL H A vs ds → Reps K CL H A (vs.drop n) (ds.drop n)
  | _, _, 0, h => h
  | [], [], _ + 1, _ => trivial
  | _ :: _, _ :: _, n + 1, h => Reps.drop n h.2
  | [], _ :: _, _ + 1, h => h.elim
  | _ :: _, [], _ + 1, h => h.elim
theorem Reps.set {x : V} {e : D} (r : Rep K CL H A x e) : ∀ {vs : List V} {ds : List D} (n : Nat), Reps K CL H A vs ds → Reps K CL H A (vs.set n x) (ds.set n e)
  | [], [], _, _ => trivial
  | _ :: _, _ :: _, 0, h => ⟨r, h.2⟩
  | _ :: _, _ :: _, n + 1, h => ⟨h.1, Reps.set r n h.2⟩
  | [], _ :: _, _, h => h.elim
  | _ :: _, [], _, h => h.elim
end
structure Good (K : PySem.W.Frag) (CL : ClA) (A : Addr → Prop) (ρ : Rho) (σ : L2.St) (H : Hp) : Prop where
  sh : ∀ (i : Nat) (d : D), ρ[i]? = some (some (d, false)) → ∃ v, σ[i]? = some (some v) ∧ Rep K CL H A v d
  ow : ∀ (i : Nat) (d : D), ρ[i]? = some (some (d, true)) → ∃ a xs ds, σ[i]? = some (some (.ref a)) ∧ d = .lst ds ∧ A a ∧ H a = some (.lst xs) ∧ Reps K CL H A xs ds
  len : ρ.length = σ.length
theorem Good.same {K : PySem.W.Frag} {CL : ClA} {A : Addr → Prop} {ρ : Rho} {σ : L2.St} {H H' : Hp} (g : Good K CL A ρ σ H) (s : Same H H') : Good K CL A ρ σ H' :=
  ⟨fun i d e => let ⟨v, q, r⟩ := g.sh i d e; ⟨v, q, r.same s⟩, fun i d e => let ⟨a, xs, ds, q, z, na, h, r⟩ := g.ow i d e; ⟨a, xs, ds, q, z, na, s _ _ h, r.same s⟩, g.len⟩
noncomputable abbrev XW := Ex → Hp → Prop
noncomputable def Post (Rp : Hp → V → D → Prop) (W : XW) (H : Hp) (r : R D) (Q : VK) : Prop := match r with
  | .ok d => ∀ v H', Same H H' → Rp H' v d → Q v H'
  | .exn x => ∀ H', Same H H' → W x H'
  | .bad => False
noncomputable def PostS (Rp : Hp → List V → List D → Prop) (W : XW) (H : Hp) (r : R (List D)) (Q : List V → Hp → Prop) : Prop := match r with
  | .ok d => ∀ v H', Same H H' → Rp H' v d → Q v H'
  | .exn x => ∀ H', Same H H' → W x H'
  | .bad => False
noncomputable def PostB (W : XW) (H : Hp) (r : R Bool) (Q : Bool → Hp → Prop) : Prop := match r with
  | .ok b => ∀ H', Same H H' → Q b H'
  | .exn x => ∀ H', Same H H' → W x H'
  | .bad => False
theorem Post.same {Rp : Hp → V → D → Prop} {W : XW} {H H' : Hp} {r : R D} {Q : VK} (s : Same H H') (h : Post Rp W H r Q) : Post Rp W H' r Q := by
  cases r with
  | ok d => exact fun v H2 s2 q => h v H2 (s.trans s2) q
  | exn x => exact fun H2 s2 => h H2 (s.trans s2)
  | bad => exact h
theorem PostB.same {W : XW} {H H' : Hp} {r : R Bool} {Q : Bool → Hp → Prop} (s : Same H H') (h : PostB W H r Q) : PostB W H' r Q := by
  cases r with
  | ok d => exact fun H2 s2 => h H2 (s.trans s2)
  | exn x => exact fun H2 s2 => h H2 (s.trans s2)
  | bad => exact h
theorem Post.bind {Rp Rq : Hp → V → D → Prop} {W : XW} {H : Hp} {r : R D} {f : D → R D} {Q Q' : VK} (h : Post Rq W H (r.bind f) Q) (k : ∀ d v H', r = .ok d → Same H H' → Rp H' v d → Post Rq W H' (f d) Q → Q' v H') : Post Rp W H r Q' := by
  cases r with
  | ok d => exact fun v H2 s2 q => k d v H2 rfl s2 q (Post.same s2 h)
  | exn x => exact h
  | bad => exact h
section
variable (X : Cx) (CL : ClA) (W : XW)
noncomputable def SE (e : Expr) (f : Rho → R D) : Prop := ∀ A, PE X e (fun σ H Q => AOk H A ∧ ∃ ρ, Good X.K CL A ρ σ H ∧ Post (fun H => Rep X.K CL H A) W H (f ρ) Q)
noncomputable def ST (e : Expr) (f : Rho → R D) : Prop := ∀ A, PE X e (fun σ H Q => AOk H A ∧ ∃ ρ, Good X.K CL A ρ σ H ∧ Post (fun H => RepT X.K CL H A) W H (f ρ) Q)
noncomputable def SB (e : Expr) (f : Rho → R Bool) : Prop := ∀ A, PT X e (fun σ H Q => AOk H A ∧ ∃ ρ, Good X.K CL A ρ σ H ∧ PostB W H (f ρ) Q)
noncomputable def SA (es : List Expr) (f : Rho → R (List D)) : Prop := ∀ A, PA X es (fun σ H Q => AOk H A ∧ ∃ ρ, Good X.K CL A ρ σ H ∧ PostS (fun H => Reps X.K CL H A) W H (f ρ) Q)
end
theorem PE.weak {X : Cx} {e : Expr} {t t' : TE} (h : PE X e t) (k : ∀ σ H Q, t' σ H Q → t σ H Q) : PE X e t' := fun pins s σ H Q I q => h pins s σ H Q I (k _ _ _ q)
theorem PT.weak {X : Cx} {e : Expr} {t t' : TT} (h : PT X e t) (k : ∀ σ H Q, t' σ H Q → t σ H Q) : PT X e t' := fun pins s σ H Q I q => h pins s σ H Q I (k _ _ _ q)
theorem PA.weak {X : Cx} {e : List Expr} {t t' : TA} (h : PA X e t) (k : ∀ σ H Q, t' σ H Q → t σ H Q) : PA X e t' := fun pos pins s σ H Q I q => h pos pins s σ H Q I (k _ _ _ q)
noncomputable def OpD (X : Cx) (CL : ClA) (W : XW) (f : Value → Value → Sem Value) (g : D → D → R D) : Prop :=
  ∀ A, OpR X f (fun x y H Q => AOk H A ∧ ∃ dx dy, RepT X.K CL H A x dx ∧ RepT X.K CL H A y dy ∧ Post (fun H => Rep X.K CL H A) W H (g dx dy) Q)
end Ov
end
section
set_option Elab.async false
set_option linter.all false
set_option maxRecDepth 100000
set_option maxHeartbeats 4000000
namespace Ov
open PySem PySem.Spec PyProof.Rows L2
section
variable {X : Cx} {CL : ClA} {W : XW} {a b c : Expr} {fa fb fc : Rho → R D} {pos : Pos}
theorem SE.st (h : SE X CL W a fa) : ST X CL W a fa := fun A => PE.weak (h A) fun σ H Q ⟨hA, ρ, g, p⟩ => ⟨hA, ρ, g, by
  cases e : fa ρ with
  | ok d => rw [e] at p; exact fun v H' s r => p v H' s (.inl r)
  | exn x => rw [e] at p; exact p
  | bad => rw [e] at p; exact p⟩
theorem SE.congr {f g : Rho → R D} (h : SE X CL W a f) (e : ∀ ρ, g ρ = f ρ) : SE X CL W a g := fun A => PE.weak (h A) fun σ H Q ⟨hA, ρ, q, p⟩ => ⟨hA, ρ, q, by rw [← e]; exact p⟩
theorem se_of {d : D} {v : V} (h : PE X a (tC v)) (r : ∀ H A, AOk H A → Rep X.K CL H A v d) : SE X CL W a (fun _ => .ok d) := fun A => PE.weak h fun σ H Q ⟨hA, ρ, g, p⟩ => p v H (Same.refl H) (r H A hA)
theorem se_int {i j} : SE X CL W (.Constant (.int i) j pos) (fun _ => .ok (.int i)) := se_of pe_int fun _ _ _ => rfl
theorem se_bl {b j} : SE X CL W (.Constant (.bool b) j pos) (fun _ => .ok (.bl b)) := se_of pe_bl fun _ _ _ => rfl
theorem se_non {j} : SE X CL W (.Constant .none j pos) (fun _ => .ok .non) := se_of pe_non fun _ _ _ => rfl
theorem se_str {x j} : SE X CL W (.Constant (.str x) j pos) (fun _ => .ok (.str x)) := se_of pe_str fun _ _ _ => rfl
theorem varS_ok {ρ : Rho} {i : Nat} {d : D} (h : varS ρ i = .ok d) : ρ[i]? = some (some (d, false)) := by
  unfold varS at h
  split at h
  · rename_i e; cases h; exact e
  · cases h
theorem varT_ok {ρ : Rho} {i : Nat} {d : D} (h : varT ρ i = .ok d) : ∃ o, ρ[i]? = some (some (d, o)) := by
  unfold varT at h
  split at h
  · rename_i e; cases h; exact ⟨_, e⟩
  · cases h
theorem varS_nex {ρ : Rho} {i : Nat} {x : Ex} (h : varS ρ i = .exn x) : False := by
  unfold varS at h
  split at h <;> cases h
theorem varT_nex {ρ : Rho} {i : Nat} {x : Ex} (h : varT ρ i = .exn x) : False := by
  unfold varT at h
  split at h <;> cases h
theorem se_var {i : Nat} (h : PE X a (tVar i)) : SE X CL W a (fun ρ => varS ρ i) := fun A => PE.weak h fun σ H Q ⟨hA, ρ, g, p⟩ => by
  dsimp only at p
  cases e : varS ρ i with
  | ok d =>
    rw [e] at p
    obtain ⟨v, q, r⟩ := g.sh i d (varS_ok e)
    exact ⟨v, q, p v H (Same.refl H) r⟩
  | exn x => exact (varS_nex e).elim
  | bad => rw [e] at p; exact p.elim
theorem st_var {i : Nat} (h : PE X a (tVar i)) : ST X CL W a (fun ρ => varT ρ i) := fun A => PE.weak h fun σ H Q ⟨hA, ρ, g, p⟩ => by
  dsimp only at p
  cases e : varT ρ i with
  | ok d =>
    rw [e] at p
    obtain ⟨o, e⟩ := varT_ok e
    cases o with
    | false =>
      obtain ⟨v, q, r⟩ := g.sh i d e
      exact ⟨v, q, p v H (Same.refl H) (.inl r)⟩
    | true =>
      obtain ⟨x, xs, ds, q, rfl, ha, hh, r⟩ := g.ow i d e
      exact ⟨_, q, p _ H (Same.refl H) (.inr ⟨x, xs, ds, rfl, rfl, hh, r⟩)⟩
  | exn x => exact (varT_nex e).elim
  | bad => rw [e] at p; exact p.elim
theorem op2 {A : Addr → Prop} {σ : L2.St} {H : Hp} {Q : VK} {g : D → D → R D} {Rq : Hp → V → D → Prop} (h : AOk H A ∧ ∃ ρ, Good X.K CL A ρ σ H ∧ Post Rq W H ((fa ρ).bind fun x => (fb ρ).bind fun y => g x y) Q) :
    AOk H A ∧ ∃ ρ, Good X.K CL A ρ σ H ∧ Post (fun H => RepT X.K CL H A) W H (fa ρ) (fun x H1 => AOk H1 A ∧ ∃ ρ, Good X.K CL A ρ σ H1 ∧ Post (fun H => RepT X.K CL H A) W H1 (fb ρ) (fun y H2 =>
      AOk H2 A ∧ ∃ dx dy, RepT X.K CL H2 A x dx ∧ RepT X.K CL H2 A y dy ∧ Post Rq W H2 (g dx dy) Q)) := by
  obtain ⟨hA, ρ, gd, p⟩ := h
  refine ⟨hA, ρ, gd, Post.bind p fun dx x H1 _ s1 r1 p1 => ⟨hA.same s1, ρ, gd.same s1, Post.bind p1 fun dy y H2 _ s2 r2 p2 => ⟨(hA.same s1).same s2, dx, dy, r1.same s2, r2, p2⟩⟩⟩
theorem se_bin {op : Operator} {g : D → D → R D} (ho : OpD X CL W (binaryOp op) g) (ha : ST X CL W a fa) (hb : ST X CL W b fb) : SE X CL W (.BinOp a op b pos) (fun ρ => (fa ρ).bind fun x => (fb ρ).bind fun y => g x y) :=
  fun A => PE.weak (pe_op (ho A) (ha A) (hb A)) fun σ H Q h => op2 h
theorem se_cmp {op : CmpOp} {g : D → D → R D} (ho : OpD X CL W (compareOp op) g) (ha : ST X CL W a fa) (hb : ST X CL W b fb) (hm : behindInMarks op b = false) : SE X CL W (.Compare a [op] [b] pos) (fun ρ => (fa ρ).bind fun x => (fb ρ).bind fun y => g x y) :=
  fun A => PE.weak (pe_cmpR (ho A) (ha A) (hb A) hm) fun σ H Q h => op2 h
theorem RepT.int_of {K : PySem.W.Frag} {H : Hp} {A : Addr → Prop} {v : V} {i : Int} (h : RepT K CL H A v (.int i)) : v = .int i := by
  rcases h with h | ⟨_, _, _, _, e, _⟩
  · exact h
  · cases e
theorem RepT.str_of {K : PySem.W.Frag} {H : Hp} {A : Addr → Prop} {v : V} {i : Str} (h : RepT K CL H A v (.str i)) : v = .str i := by
  rcases h with h | ⟨_, _, _, _, e, _⟩
  · exact h
  · cases e
theorem RepT.bl_of {K : PySem.W.Frag} {H : Hp} {A : Addr → Prop} {v : V} {i : Bool} (h : RepT K CL H A v (.bl i)) : v = .bl i := by
  rcases h with h | ⟨_, _, _, _, e, _⟩
  · exact h
  · cases e
theorem RepT.non_of {K : PySem.W.Frag} {H : Hp} {A : Addr → Prop} {v : V} (h : RepT K CL H A v .non) : v = .non := by
  rcases h with h | ⟨_, _, _, _, e, _⟩
  · exact h
  · cases e
theorem RepT.lst_of {K : PySem.W.Frag} {H : Hp} {A : Addr → Prop} {v : V} {ds : List D} (h : RepT K CL H A v (.lst ds)) : ∃ a xs, v = .ref a ∧ SqL K H a xs ∧ Reps K CL H A xs ds := by
  rcases h with ⟨a, xs, e, _, s, r⟩ | ⟨a, xs, es, rfl, e, s, r⟩
  · exact ⟨a, xs, e, s, r⟩
  · cases e; exact ⟨a, xs, rfl, SqL.of s, r⟩
theorem RepT.tup_of {K : PySem.W.Frag} {H : Hp} {A : Addr → Prop} {v : V} {ds : List D} (h : RepT K CL H A v (.tup ds)) : ∃ a xs, v = .ref a ∧ (¬ A a ∨ KT K a xs) ∧ SqT K H a xs ∧ Reps K CL H A xs ds := by
  rcases h with ⟨a, xs, e, n, s, r⟩ | ⟨_, _, _, _, e, _⟩
  · exact ⟨a, xs, e, n, s, r⟩
  · cases e
theorem mulOk_c {i j : Int} (h : mulOk i j = true) : CMul i j := by
  unfold mulOk at h
  simp only [Bool.or_eq_true, Bool.and_eq_true, decide_eq_true_eq] at h
  unfold CMul
  omega
theorem bits_le {a : Int} (h : a.natAbs < 2 ^ 2000) : Builtin.Int.intBits a ≤ 2 ^ 20 := by
  unfold Builtin.Int.intBits
  split
  · omega
  · rename_i hz
    have h0 : a.natAbs ≠ 0 := by intro z; exact hz (by rw [Int.natAbs_eq_zero.mp z]; rfl)
    have := (Nat.log2_lt h0).mpr h
    omega
theorem mulOk_i {i j : Int} (h : (mulOk i j || bigOk i j) = true) : IntMulOk i j := by
  rcases Bool.or_eq_true_iff.mp h with h | h
  · exact (mulOk_c h).ok
  · unfold bigOk at h
    rw [Bool.and_eq_true, decide_eq_true_eq, decide_eq_true_eq] at h
    exact .of_bits (bits_le h.1) (bits_le h.2)
theorem op_mulI {X : Cx} : OpR X (binaryOp .Mult) (rI IntMulOk fun i j => .int (i * j)) := opI fun _ _ _ _ _ _ _ hc q => mul_int q hc
theorem szOk_line {n : Nat} (h : szOk n = true) : n ≤ sizeLine := by
  unfold szOk at h
  rw [sizeLine_eq]
  have := Nat.le_of_ble_eq_true h
  omega
theorem new_lst {K : PySem.W.Frag} {H : Hp} {A : Addr → Prop} {p : Addr} {xs : List V} {ds : List D} (hA : AOk H A) (hp : H p = none) (r : Reps K CL H A xs ds) : Rep K CL (upd H p (.lst xs)) A (.ref p) (.lst ds) :=
  ⟨p, xs, rfl, .inl (hA.new hp), SqL.of upd_same, r.same fun b o e => by rw [upd_ne (ne_of_none e hp)]; exact e⟩
theorem new_tup {K : PySem.W.Frag} {H : Hp} {A : Addr → Prop} {p : Addr} {xs : List V} {ds : List D} (hA : AOk H A) (hp : H p = none) (r : Reps K CL H A xs ds) : Rep K CL (upd H p (.tup xs)) A (.ref p) (.tup ds) :=
  ⟨p, xs, rfl, .inl (hA.new hp), SqT.of upd_same, r.same fun b o e => by rw [upd_ne (ne_of_none e hp)]; exact e⟩
theorem same_new {H : Hp} {p : Addr} (h : H p = none) (o : HO) : Same H (upd H p o) := fun b u q => by rw [upd_ne (ne_of_none q h)]; exact q
noncomputable def rCatG (K : PySem.W.Frag) : R2 := fun x y H Q => ∃ l b xs zs, x = .ref l ∧ y = .ref b ∧ SqL K H l xs ∧ SqL K H b zs ∧ xs.length + zs.length ≤ sizeLine ∧ ∀ p, H p = none → Q (.ref p) (upd H p (.lst (xs ++ zs)))
end
end Ov
end
section
set_option Elab.async false
set_option linter.all false
set_option maxRecDepth 100000
set_option maxHeartbeats 4000000
namespace Ov
open PySem PySem.Spec PyProof.Rows L2
section
variable {X : Cx} {CL : ClA} {W : XW}
theorem op_catG : OpR X (binaryOp .Add) (rCatG X.K) := by
  intro pins s σ H x y v u Q I rx ry h
  obtain ⟨l, b, xs, zs, rfl, rfl, hH, hB, hz, q⟩ := h
  cases rx
  cases ry
  obtain ⟨its, r, ⟨o, n, e, c, dd, dt⟩, z⟩ := I.list hH
  obtain ⟨its2, r2, ⟨o2, n2, e2, c2, dd2, dt2⟩, z2⟩ := I.list hB
  have hl := r.length
  have hl2 := r2.length
  obtain ⟨cls, dd0, data, sl⟩ := o
  obtain ⟨cls2, dd02, data2, sl2⟩ := o2
  simp only at c dd dt c2 dd2 dt2
  subst c dd dt c2 dd2 dt2
  have ea : its.toArray ++ its2.toArray = (its ++ its2).toArray := by simp
  refine concat_meets ⟨_, e, rfl⟩ ⟨_, e2, rfl⟩ noFill_list_add seq_list_add PySem.F.slot_list_add PySem.F.entry_list_add (PySem.F.args_list_add_2 _ _) (list_addW l b its.toArray its2.toArray n n2 none none sl sl2 (by simp; omega)) ⟨e, e2, ?_⟩
  rw [ea]
  exact ⟨.ref _, _, I.lnew (t' := s.toks) (r.append r2) (by rw [List.length_append]; omega), rfl, q _ I.fresh⟩
theorem opd_add : OpD X CL W (binaryOp .Add) (binD .Add) := by
  intro A pins s σ H x y v u Q I rx ry ⟨hA, dx, dy, hx, hy, p⟩
  cases dx with
  | int i =>
    cases dy with
    | int j =>
      have ex := hx.int_of; have ey := hy.int_of
      subst ex ey
      exact op_add pins s σ H _ _ v u Q I rx ry ⟨i, j, rfl, rfl, p _ H (Same.refl H) rfl⟩
    | _ => exact p.elim
  | str i =>
    cases dy with
    | str j =>
      have ex := hx.str_of; have ey := hy.str_of
      subst ex ey
      simp only [add_ss] at p
      split at p
      · rename_i h
        exact op_add_str pins s σ H _ _ v u Q I rx ry ⟨i, j, rfl, rfl, szOk_line h, p _ H (Same.refl H) rfl⟩
      · exact p.elim
    | _ => exact p.elim
  | lst ds =>
    cases dy with
    | lst es =>
      obtain ⟨a, xs, rfl, s1, r1⟩ := hx.lst_of
      obtain ⟨b, ys, rfl, s2, r2⟩ := hy.lst_of
      simp only [add_ll] at p
      split at p
      · rename_i h
        refine op_catG pins s σ H _ _ v u Q I rx ry ⟨a, b, xs, ys, rfl, rfl, s1, s2, by rw [r1.length, r2.length]; exact szOk_line h, fun q hq => ?_⟩
        exact p _ _ (same_new hq _) (new_lst hA hq (r1.append r2))
      · exact p.elim
    | _ => exact p.elim
  | tup ds =>
    cases dy with
    | tup es =>
      obtain ⟨a, xs, rfl, na1, s1, r1⟩ := hx.tup_of
      obtain ⟨b, ys, rfl, _, s2, r2⟩ := hy.tup_of
      simp only [add_tt] at p
      split at p
      · rename_i h
        simp only [Bool.and_eq_true] at h
        refine op_catT pins s σ H _ _ v u Q I rx ry ⟨a, b, xs, ys, rfl, rfl, s1, s2, ?_, by rw [r1.length, r2.length]; exact szOk_line h.2, fun hy0 => ?_, fun _ q hq => ?_⟩
        · rintro rfl
          cases ds with
          | nil => cases h.1
          | cons _ _ => exact r1.elim
        · subst hy0
          cases es with
          | nil => rw [List.append_nil] at p; exact p _ H (Same.refl H) ⟨a, xs, rfl, na1, s1, r1⟩
          | cons _ _ => exact r2.elim
        · exact p _ _ (same_new hq _) (new_tup hA hq (r1.append r2))
      · exact p.elim
    | _ => exact p.elim
  | _ => exact p.elim
theorem opd_int {op : Operator} {C : Int → Int → Prop} {g : Int → Int → Int} (ho : OpR X (binaryOp op) (rI C fun i j => .int (g i j)))
    (hg : ∀ dx dy, (∃ i j, dx = .int i ∧ dy = .int j ∧ ((C i j ∧ binD op dx dy = .ok (.int (g i j))) ∨ binD op dx dy = .bad)) ∨ binD op dx dy = .bad) : OpD X CL W (binaryOp op) (binD op) := by
  intro A pins s σ H x y v u Q I rx ry ⟨hA, dx, dy, hx, hy, p⟩
  rcases hg dx dy with ⟨i, j, rfl, rfl, ⟨c, e⟩ | e⟩ | e
  · have ex := hx.int_of; have ey := hy.int_of
    subst ex ey
    rw [e] at p
    exact ho pins s σ H _ _ v u Q I rx ry ⟨i, j, rfl, rfl, c, p _ H (Same.refl H) rfl⟩
  · rw [e] at p; exact p.elim
  · rw [e] at p; exact p.elim
theorem opd_sub : OpD X CL W (binaryOp .Sub) (binD .Sub) := by
  intro A pins s σ H x y v u Q I rx ry ⟨hA, dx, dy, hx, hy, p⟩
  cases dx with
  | int i =>
    cases dy with
    | int j =>
      have ex := hx.int_of; have ey := hy.int_of
      subst ex ey
      exact op_sub pins s σ H _ _ v u Q I rx ry ⟨i, j, rfl, rfl, p _ H (Same.refl H) rfl⟩
    | _ => exact p.elim
  | _ => exact p.elim
theorem opd_mul : OpD X CL W (binaryOp .Mult) (binD .Mult) := opd_int op_mulI fun dx dy => by
  cases dx with
  | int i =>
    cases dy with
    | int j =>
      refine .inl ⟨i, j, rfl, rfl, ?_⟩
      rw [mul_ii]
      split
      · rename_i h; exact .inl ⟨mulOk_i h, rfl⟩
      · exact .inr rfl
    | _ => exact .inr rfl
  | _ => exact .inr rfl
theorem opd_fdiv : OpD X CL W (binaryOp .FloorDiv) (binD .FloorDiv) := opd_int op_fdiv fun dx dy => by
  cases dx with
  | int i =>
    cases dy with
    | int j =>
      refine .inl ⟨i, j, rfl, rfl, ?_⟩
      rw [fdiv_ii]
      split
      · rename_i h; exact .inl ⟨h, rfl⟩
      · exact .inr rfl
    | _ => exact .inr rfl
  | _ => exact .inr rfl
theorem opd_mod : OpD X CL W (binaryOp .Mod) (binD .Mod) := opd_int op_mod fun dx dy => by
  cases dx with
  | int i =>
    cases dy with
    | int j =>
      refine .inl ⟨i, j, rfl, rfl, ?_⟩
      rw [mod_ii]
      split
      · rename_i h; exact .inl ⟨h, rfl⟩
      · exact .inr rfl
    | _ => exact .inr rfl
  | _ => exact .inr rfl
theorem opd_pow : OpD X CL W (binaryOp .Pow) (binD .Pow) := opd_int op_pow fun dx dy => by
  cases dx with
  | int i =>
    cases dy with
    | int j =>
      refine .inl ⟨i, j, rfl, rfl, ?_⟩
      rw [pow_ii]
      split
      · rename_i h; exact .inl ⟨⟨h.1.1, h.1.2, by omega⟩, rfl⟩
      · exact .inr rfl
    | _ => exact .inr rfl
  | _ => exact .inr rfl
theorem opd_bin (op : Operator) : OpD X CL W (binaryOp op) (binD op) := by
  cases op with
  | Add => exact opd_add
  | Sub => exact opd_sub
  | Mult => exact opd_mul
  | FloorDiv => exact opd_fdiv
  | Mod => exact opd_mod
  | Pow => exact opd_pow
  | _ =>
    intro A pins s σ H x y v u Q I rx ry ⟨hA, dx, dy, hx, hy, p⟩
    cases dx <;> cases dy <;> exact p.elim
noncomputable abbrev A0 : Addr → Prop := fun _ => False
theorem RepT.plain {K : PySem.W.Frag} {H : Hp} {A : Addr → Prop} {v : V} {d : D} (h : RepT K CL H A v d) : Rep K CL H A0 v d := by
  rcases h with h | ⟨a, xs, ds, rfl, rfl, e, r⟩
  · exact Rep.sub (fun _ z => z.elim) d h
  · exact ⟨a, xs, rfl, .inl fun z => z.elim, SqL.of e, Reps.sub (fun _ z => z.elim) ds r⟩
mutual
theorem eqD_refl : ∀ (n : Nat) (d : D), flD n d = true → eqD d d = true
  | _, .non, _ => rfl
  | _, .bl b, _ => by simp
  | _, .int i, _ => by simp
  | _, .str x, _ => by simp
  | n + 1, .tup ds, h => by
    show eqDs ds ds = true
    exact eqDs_refl n ds h
  | n + 1, .lst ds, h => by
    show eqDs ds ds = true
    exact eqDs_refl n ds h
  | 0, .tup ds, h => by cases h
  | 0, .lst ds, h => by cases h
  | n, .obj _ _, h => by cases n <;> cases h
  | n, .exc _ _, h => by cases n <;> cases h
  | n, .dic _, h => by cases n <;> cases h
theorem eqDs_refl : ∀ (n : Nat) (ds : List D), ds.all (flD n) = true → eqDs ds ds = true
  | _, [], _ => rfl
  | n, d :: ds, h => by
    simp only [List.all_cons, Bool.and_eq_true] at h
    simp only [eqDs_cons, Bool.and_eq_true]
    exact ⟨eqD_refl n d h.1, eqDs_refl n ds h.2⟩
end
theorem SqL_ne_SqT {pins : List (Addr × Obj)} {σ : L2.St} {H : Hp} {s : Shared} {a : Addr} {xs ys : List V} (I : Inv X pins σ H s) (h : SqL X.K H a xs) (h' : SqT X.K H a ys) : False := by
  obtain ⟨its, r, ⟨o, n, e, c, _, _⟩, _⟩ := I.list h
  obtain ⟨its', r', ⟨o', e', c', _⟩, _⟩ := I.tuple h'
  rw [e] at e'; cases e'
  rw [c] at c'
  injection c' with z
  exact absurd z (by decide)
mutual
theorem rep_inj {pins : List (Addr × Obj)} {σ : L2.St} {H : Hp} {s : Shared} (I : Inv X pins σ H s) : ∀ (n : Nat) (d e : D) {v : V}, flD n d = true → flD n e = true → Rep X.K CL H A0 v d → Rep X.K CL H A0 v e → d = e
  | n, .tup ds, e, v, hd, he, r, q => by
    obtain ⟨a, xs, rfl, _, s1, r1⟩ := r
    cases e with
    | tup es =>
      obtain ⟨b, ys, e, _, s2, r2⟩ := q
      cases e
      have z := I.tuple_inj s1 s2
      subst z
      cases n with
      | zero => cases hd
      | succ n => rw [reps_inj I n ds es hd he r1 r2]
    | lst es =>
      obtain ⟨b, ys, e, _, s2, r2⟩ := q
      cases e
      exact (SqL_ne_SqT I s2 s1).elim
    | obj => cases n <;> cases he
    | exc => cases n <;> cases he
    | dic => cases n <;> cases he
    | _ => cases q
  | n, .lst ds, e, v, hd, he, r, q => by
    obtain ⟨a, xs, rfl, _, s1, r1⟩ := r
    cases e with
    | lst es =>
      obtain ⟨b, ys, e, _, s2, r2⟩ := q
      cases e
      have z := I.list_inj s1 s2
      subst z
      cases n with
      | zero => cases hd
      | succ n => rw [reps_inj I n ds es hd he r1 r2]
    | tup es =>
      obtain ⟨b, ys, e, _, s2, r2⟩ := q
      cases e
      exact (SqL_ne_SqT I s1 s2).elim
    | obj => cases n <;> cases he
    | exc => cases n <;> cases he
    | dic => cases n <;> cases he
    | _ => cases q
  | n, .obj _ _, e, v, hd, he, r, q => by cases n <;> cases hd
  | n, .exc _ _, e, v, hd, he, r, q => by cases n <;> cases hd
  | n, .dic _, e, v, hd, he, r, q => by cases n <;> cases hd
  | n, .non, e, v, hd, he, r, q => by
    cases r
    cases e with
    | tup => obtain ⟨_, _, z, _⟩ := q; cases z
    | lst => obtain ⟨_, _, z, _⟩ := q; cases z
    | obj => cases n <;> cases he
    | exc => cases n <;> cases he
    | dic => cases n <;> cases he
    | _ => cases q <;> rfl
  | n, .bl b, e, v, hd, he, r, q => by
    cases r
    cases e with
    | tup => obtain ⟨_, _, z, _⟩ := q; cases z
    | lst => obtain ⟨_, _, z, _⟩ := q; cases z
    | obj => cases n <;> cases he
    | exc => cases n <;> cases he
    | dic => cases n <;> cases he
    | _ => cases q <;> rfl
  | n, .int b, e, v, hd, he, r, q => by
    cases r
    cases e with
    | tup => obtain ⟨_, _, z, _⟩ := q; cases z
    | lst => obtain ⟨_, _, z, _⟩ := q; cases z
    | obj => cases n <;> cases he
    | exc => cases n <;> cases he
    | dic => cases n <;> cases he
    | _ => cases q <;> rfl
  | n, .str b, e, v, hd, he, r, q => by
    cases r
    cases e with
    | tup => obtain ⟨_, _, z, _⟩ := q; cases z
    | lst => obtain ⟨_, _, z, _⟩ := q; cases z
    | obj => cases n <;> cases he
    | exc => cases n <;> cases he
    | dic => cases n <;> cases he
    | _ => cases q <;> rfl
theorem reps_inj {pins : List (Addr × Obj)} {σ : L2.St} {H : Hp} {s : Shared} (I : Inv X pins σ H s) : ∀ (n : Nat) (ds es : List D) {xs : List V}, ds.all (flD n) = true → es.all (flD n) = true → Reps X.K CL H A0 xs ds → Reps X.K CL H A0 xs es → ds = es
  | _, [], [], _, _, _, _, _ => rfl
  | n, d :: ds, e :: es, x :: xs, hd, he, r, q => by
    simp only [List.all_cons, Bool.and_eq_true] at hd he
    rw [rep_inj I n d e hd.1 he.1 r.1 q.1, reps_inj I n ds es hd.2 he.2 r.2 q.2]
  | _, [], _ :: _, [], _, _, _, q => q.elim
  | _, [], _ :: _, _ :: _, _, _, r, _ => r.elim
  | _, _ :: _, [], [], _, _, r, _ => r.elim
  | _, _ :: _, [], _ :: _, _, _, _, q => q.elim
  | _, _ :: _, _ :: _, [], _, _, r, _ => r.elim
end
theorem eqDs_len : ∀ {ds es : List D}, ds.length ≠ es.length → eqDs ds es = false
  | [], [], h => absurd rfl h
  | [], _ :: _, _ => rfl
  | _ :: _, [], _ => rfl
  | d :: ds, e :: es, h => by
    simp only [eqDs_cons, eqDs_len (ds := ds) (es := es) (by simpa using h), Bool.and_false]
theorem range_all_succ (n : Nat) (f : Nat → Bool) : (List.range (n + 1)).all f = (f 0 && (List.range n).all fun j => f (j + 1)) := by
  rw [List.range_succ_eq_map, List.all_cons, List.all_map]
  rfl
theorem eqDs_all : ∀ {ds es : List D}, ds.length = es.length → eqDs ds es = (List.range ds.length).all fun j => eqD (ds.getD j .non) (es.getD j .non)
  | [], [], _ => rfl
  | d :: ds, e :: es, h => by
    rw [eqDs_cons, eqDs_all (ds := ds) (es := es) (by simpa using h), List.length_cons, range_all_succ]
    rfl
  | [], _ :: _, h => by cases h
  | _ :: _, [], h => by cases h
theorem at_rep {K : PySem.W.Frag} {H : Hp} {xs : List V} {ds : List D} {its : List Value} (r : Reps K CL H A0 xs ds) (rv : Vals xs its) {j : Nat} (h : j < its.length) :
    ∃ x, Rep K CL H A0 x (ds.getD j .non) ∧ RelV x its[j] := by
  have e1 := rv.length
  have e2 := r.length
  have hd : ds[j]? = some (ds.getD j .non) := by
    rw [List.getD_eq_getElem?_getD, List.getElem?_eq_getElem (by omega)]; rfl
  obtain ⟨x, hx, q⟩ := r.get hd
  obtain ⟨u, hu, ru⟩ := rv.get hx
  refine ⟨x, q, ?_⟩
  rw [List.getElem?_eq_getElem h] at hu
  cases hu
  exact ru
theorem all_getD {n : Nat} {ds : List D} (h : ds.all (flD n) = true) (j : Nat) : flD n (ds.getD j .non) = true := by
  rw [List.getD_eq_getElem?_getD]
  cases e : ds[j]? with
  | none => cases n <;> rfl
  | some d => exact List.all_eq_true.mp h d (List.mem_of_getElem? e)
noncomputable def RcEq (B : Around) (s : Shared) (u t : Value) (k : Bool) : Prop := SeqAt.RcAt B s u t k ∧ SeqAt.EqAt B s u t k ∧ SeqAt.RcNeAt B s u t (!k)
section
variable {B : Around} {s : Shared}
open SeqAt
theorem rq_nn : RcEq B s .none .none true := ⟨RcAt.none_none, EqAt.same _, RcNeAt.none_none⟩
theorem rq_bb (a b : Bool) : RcEq B s (.bool a) (.bool b) (a == b) := ⟨RcAt.bool_bool _ _, EqAt.bool_bool _ _, RcNeAt.bool_bool _ _⟩
theorem rq_nb (b : Bool) : RcEq B s .none (.bool b) false := ⟨RcAt.none_bool _, EqAt.none_bool _, RcNeAt.none_bool _⟩
theorem rq_bn (b : Bool) : RcEq B s (.bool b) .none false := ⟨RcAt.bool_none _, EqAt.bool_none _, RcNeAt.bool_none _⟩
theorem rq_ii (a : Int) (t : Tok) (b : Int) (u : Tok) : RcEq B s (.int a t) (.int b u) (a == b) := ⟨RcAt.int_int _ _ _ _, EqAt.int_int _ _ _ _, RcNeAt.int_int _ _ _ _⟩
theorem rq_ss (a : Str) (t : Tok) (b : Str) (u : Tok) : RcEq B s (.str a t) (.str b u) (a == b) := ⟨RcAt.str_str _ _ _ _, EqAt.str_str _ _ _ _, RcNeAt.str_str _ _ _ _⟩
theorem rq_is (a : Int) (t : Tok) (b : Str) (u : Tok) : RcEq B s (.int a t) (.str b u) false := ⟨RcAt.int_str _ _ _ _, EqAt.int_str _ _ _ _, RcNeAt.int_str _ _ _ _⟩
theorem rq_si (a : Str) (t : Tok) (b : Int) (u : Tok) : RcEq B s (.str a t) (.int b u) false := ⟨RcAt.str_int _ _ _ _, EqAt.str_int _ _ _ _, RcNeAt.str_int _ _ _ _⟩
theorem rq_ni (b : Int) (u : Tok) : RcEq B s .none (.int b u) false := ⟨RcAt.none_int _ _, EqAt.none_int _ _, RcNeAt.none_int _ _⟩
theorem rq_in (b : Int) (u : Tok) : RcEq B s (.int b u) .none false := ⟨RcAt.int_none _ _, EqAt.int_none _ _, RcNeAt.int_none _ _⟩
theorem rq_ns (b : Str) (u : Tok) : RcEq B s .none (.str b u) false := ⟨RcAt.none_str _ _, EqAt.none_str _ _, RcNeAt.none_str _ _⟩
theorem rq_sn (b : Str) (u : Tok) : RcEq B s (.str b u) .none false := ⟨RcAt.str_none _ _, EqAt.str_none _ _, RcNeAt.str_none _ _⟩
theorem rq_bi (a : Bool) (b : Int) (u : Tok) : RcEq B s (.bool a) (.int b u) (b2i a == b) := ⟨RcAt.bool_int _ _ _, EqAt.bool_int _ _ _, RcNeAt.bool_int _ _ _⟩
theorem rq_ib (a : Bool) (b : Int) (u : Tok) : RcEq B s (.int b u) (.bool a) (b == b2i a) := ⟨RcAt.int_bool _ _ _, EqAt.int_bool _ _ _, RcNeAt.int_bool _ _ _⟩
theorem rq_bs (a : Bool) (b : Str) (u : Tok) : RcEq B s (.bool a) (.str b u) false := ⟨RcAt.bool_str _ _ _, EqAt.bool_str _ _ _, RcNeAt.bool_str _ _ _⟩
theorem rq_sb (a : Bool) (b : Str) (u : Tok) : RcEq B s (.str b u) (.bool a) false := ⟨RcAt.str_bool _ _ _, EqAt.str_bool _ _ _, RcNeAt.str_bool _ _ _⟩
variable {l : Addr} {items : Array Value}
theorem rq_ln (h : s.heap.IsList l items) (hu : B.units < cLine) : RcEq B s (.ref l) .none false := ⟨RcAt.list_none h hu, EqAt.list_none h hu, RcNeAt.list_none h hu⟩
theorem rq_nl (h : s.heap.IsList l items) (hu : B.units < cLine) : RcEq B s .none (.ref l) false := ⟨RcAt.none_list h hu, EqAt.none_list h hu, RcNeAt.none_list h hu⟩
theorem rq_lb (b : Bool) (h : s.heap.IsList l items) (hu : B.units < cLine) : RcEq B s (.ref l) (.bool b) false := ⟨RcAt.list_bool b h hu, EqAt.list_bool b h hu, RcNeAt.list_bool b h hu⟩
theorem rq_bl (b : Bool) (h : s.heap.IsList l items) (hu : B.units < cLine) : RcEq B s (.bool b) (.ref l) false := ⟨RcAt.bool_list b h hu, EqAt.bool_list b h hu, RcNeAt.bool_list b h hu⟩
theorem rq_li (b : Int) (u : Tok) (h : s.heap.IsList l items) (hu : B.units < cLine) : RcEq B s (.ref l) (.int b u) false := ⟨RcAt.list_int b u h hu, EqAt.list_int b u h hu, RcNeAt.list_int b u h hu⟩
theorem rq_il (b : Int) (u : Tok) (h : s.heap.IsList l items) (hu : B.units < cLine) : RcEq B s (.int b u) (.ref l) false := ⟨RcAt.int_list b u h hu, EqAt.int_list b u h hu, RcNeAt.int_list b u h hu⟩
theorem rq_ls (b : Str) (u : Tok) (h : s.heap.IsList l items) (hu : B.units < cLine) : RcEq B s (.ref l) (.str b u) false := ⟨RcAt.list_str b u h hu, EqAt.list_str b u h hu, RcNeAt.list_str b u h hu⟩
theorem rq_sl (b : Str) (u : Tok) (h : s.heap.IsList l items) (hu : B.units < cLine) : RcEq B s (.str b u) (.ref l) false := ⟨RcAt.str_list b u h hu, EqAt.str_list b u h hu, RcNeAt.str_list b u h hu⟩
theorem rq_tn (h : s.heap.IsTuple l items) (hu : B.units < cLine) : RcEq B s (.ref l) .none false := ⟨RcAt.tuple_none h hu, EqAt.tuple_none h hu, RcNeAt.tuple_none h hu⟩
theorem rq_nt (h : s.heap.IsTuple l items) (hu : B.units < cLine) : RcEq B s .none (.ref l) false := ⟨RcAt.none_tuple h hu, EqAt.none_tuple h hu, RcNeAt.none_tuple h hu⟩
theorem rq_tb (b : Bool) (h : s.heap.IsTuple l items) (hu : B.units < cLine) : RcEq B s (.ref l) (.bool b) false := ⟨RcAt.tuple_bool b h hu, EqAt.tuple_bool b h hu, RcNeAt.tuple_bool b h hu⟩
theorem rq_bt (b : Bool) (h : s.heap.IsTuple l items) (hu : B.units < cLine) : RcEq B s (.bool b) (.ref l) false := ⟨RcAt.bool_tuple b h hu, EqAt.bool_tuple b h hu, RcNeAt.bool_tuple b h hu⟩
theorem rq_ti (b : Int) (u : Tok) (h : s.heap.IsTuple l items) (hu : B.units < cLine) : RcEq B s (.ref l) (.int b u) false := ⟨RcAt.tuple_int b u h hu, EqAt.tuple_int b u h hu, RcNeAt.tuple_int b u h hu⟩
theorem rq_it (b : Int) (u : Tok) (h : s.heap.IsTuple l items) (hu : B.units < cLine) : RcEq B s (.int b u) (.ref l) false := ⟨RcAt.int_tuple b u h hu, EqAt.int_tuple b u h hu, RcNeAt.int_tuple b u h hu⟩
theorem rq_ts (b : Str) (u : Tok) (h : s.heap.IsTuple l items) (hu : B.units < cLine) : RcEq B s (.ref l) (.str b u) false := ⟨RcAt.tuple_str b u h hu, EqAt.tuple_str b u h hu, RcNeAt.tuple_str b u h hu⟩
theorem rq_st (b : Str) (u : Tok) (h : s.heap.IsTuple l items) (hu : B.units < cLine) : RcEq B s (.str b u) (.ref l) false := ⟨RcAt.str_tuple b u h hu, EqAt.str_tuple b u h hu, RcNeAt.str_tuple b u h hu⟩
theorem rq_lt {b : Addr} {items2 : Array Value} (h : s.heap.IsList l items) (h2 : s.heap.IsTuple b items2) (hu : B.units < cLine) : RcEq B s (.ref l) (.ref b) false := ⟨RcAt.list_tuple h h2 hu, EqAt.list_tuple h h2 hu, RcNeAt.list_tuple h h2 hu⟩
theorem rq_tl {b : Addr} {items2 : Array Value} (h : s.heap.IsTuple l items) (h2 : s.heap.IsList b items2) (hu : B.units < cLine) : RcEq B s (.ref l) (.ref b) false := ⟨RcAt.tuple_list h h2 hu, EqAt.tuple_list h h2 hu, RcNeAt.tuple_list h h2 hu⟩
end
end
end Ov
end
section
set_option Elab.async false
set_option linter.all false
set_option maxRecDepth 100000
set_option maxHeartbeats 1000000
namespace Ov
open PySem PySem.Spec PyProof.Rows L2
section
variable {X : Cx} {CL : ClA} {W : XW}
theorem isL_of {h : Heap} {a : Addr} {its : Array Value} (x : PlainL h a its) : h.IsList a its := let ⟨o, n, e, c, _, d⟩ := x; ⟨o, e, c, n, d⟩
noncomputable def Seen (X : Cx) (CL : ClA) (H : Hp) (s : Shared) (d : D) (u : Value) : Prop := match d with
  | .non => u = .none
  | .bl b => u = .bool b
  | .int i => ∃ t, u = .int i t
  | .str x => ∃ t, u = .str x t
  | .tup ds => ∃ a xs its, u = .ref a ∧ Reps X.K CL H A0 xs ds ∧ Vals xs its ∧ s.heap.IsTuple a its.toArray
  | .lst ds => ∃ a xs its, u = .ref a ∧ Reps X.K CL H A0 xs ds ∧ Vals xs its ∧ s.heap.IsList a its.toArray
  | _ => False
theorem seen_of {pins : List (Addr × Obj)} {σ : L2.St} {H : Hp} {s : Shared} (I : Inv X pins σ H s) {n : Nat} {d : D} {v : V} {u : Value} (hd : flD n d = true) (r : Rep X.K CL H A0 v d) (q : RelV v u) : Seen X CL H s d u := by
  cases d with
  | non => cases r; exact q
  | bl b => cases r; exact q
  | int b => cases r; exact q
  | str b => cases r; exact q
  | tup ds =>
    obtain ⟨a, xs, rfl, _, sq, r⟩ := r
    obtain ⟨its, rv, p, _⟩ := I.tuple sq
    cases q
    exact ⟨a, xs, its, rfl, r, rv, p⟩
  | lst ds =>
    obtain ⟨a, xs, rfl, _, sq, r⟩ := r
    obtain ⟨its, rv, p, _⟩ := I.list sq
    cases q
    exact ⟨a, xs, its, rfl, r, rv, isL_of p⟩
  | obj => cases n <;> cases hd
  | exc => cases n <;> cases hd
  | dic => cases n <;> cases hd
theorem rq_seqL {B : Around} {s : Shared} {l b : Addr} {its its2 : List Value} {ds es : List D} (hl : s.heap.IsList l its.toArray) (hb : s.heap.IsList b its2.toArray) (e1 : its.length = ds.length) (e2 : its2.length = es.length) (hu : B.units < cLine)
    (hs : l = b → eqDs ds es = true)
    (he : ∀ j (h1 : j < its.length) (h2 : j < its2.length), SeqAt.EqAt B.in1 s its[j] its2[j] (eqD (ds.getD j .non) (es.getD j .non))) : RcEq B s (.ref l) (.ref b) (eqDs ds es) := by
  have rc : SeqAt.RcAt B s (.ref l) (.ref b) (eqDs ds es) := by
    by_cases hz : its.length = its2.length
    · have q := SeqAt.RcAt.lists (e := fun j => eqD (ds.getD j .non) (es.getD j .non)) hl hb (by simpa using hz) hu (fun j h1 h2 => by simpa using he j (by simpa using h1) (by simpa using h2))
      rw [eqDs_all (by omega)]
      have e : its.toArray.size = ds.length := by simpa using e1
      rw [e] at q
      exact q
    · rw [eqDs_len (by omega)]
      exact SeqAt.RcAt.lists_lengths hl hb (by simpa using hz) hu
  have ne : SeqAt.RcNeAt B s (.ref l) (.ref b) (!eqDs ds es) := by
    by_cases hz : its.length = its2.length
    · have q := SeqAt.RcNeAt.lists (e := fun j => eqD (ds.getD j .non) (es.getD j .non)) hl hb (by simpa using hz) hu (fun j h1 h2 => by simpa using he j (by simpa using h1) (by simpa using h2))
      rw [eqDs_all (by omega)]
      have e : its.toArray.size = ds.length := by simpa using e1
      rw [e] at q
      exact q
    · rw [eqDs_len (by omega)]
      exact SeqAt.RcNeAt.lists_lengths hl hb (by simpa using hz) hu
  refine ⟨rc, ?_, ne⟩
  by_cases hlb : l = b
  · rw [hs hlb, hlb]
    exact SeqAt.EqAt.same _
  · exact SeqAt.EqAt.of_refs hlb rc
theorem rq_seqT {B : Around} {s : Shared} {l b : Addr} {its its2 : List Value} {ds es : List D} (hl : s.heap.IsTuple l its.toArray) (hb : s.heap.IsTuple b its2.toArray) (e1 : its.length = ds.length) (e2 : its2.length = es.length) (hu : B.units < cLine)
    (hs : l = b → eqDs ds es = true)
    (he : ∀ j (h1 : j < its.length) (h2 : j < its2.length), SeqAt.EqAt B.in1 s its[j] its2[j] (eqD (ds.getD j .non) (es.getD j .non))) : RcEq B s (.ref l) (.ref b) (eqDs ds es) := by
  have rc : SeqAt.RcAt B s (.ref l) (.ref b) (eqDs ds es) := by
    have q := SeqAt.RcAt.tuples (e := fun j => eqD (ds.getD j .non) (es.getD j .non)) hl hb hu (fun j h1 h2 => by simpa using he j (by simpa using h1) (by simpa using h2))
    have e : its.toArray.size = ds.length := by simpa using e1
    have e' : its2.toArray.size = es.length := by simpa using e2
    rw [e, e'] at q
    by_cases hz : ds.length = es.length
    · rw [eqDs_all hz]
      rw [hz, Nat.min_self, beq_self_eq_true, Bool.and_true] at q
      rw [hz]
      exact q
    · rw [eqDs_len hz]
      rw [beq_eq_false_iff_ne.mpr hz, Bool.and_false] at q
      exact q
  have ne : SeqAt.RcNeAt B s (.ref l) (.ref b) (!eqDs ds es) := by
    have q := SeqAt.RcNeAt.tuples (e := fun j => eqD (ds.getD j .non) (es.getD j .non)) hl hb hu (fun j h1 h2 => by simpa using he j (by simpa using h1) (by simpa using h2))
    have e : its.toArray.size = ds.length := by simpa using e1
    have e' : its2.toArray.size = es.length := by simpa using e2
    rw [e, e'] at q
    by_cases hz : ds.length = es.length
    · rw [eqDs_all hz]
      rw [hz, Nat.min_self, beq_self_eq_true, Bool.and_true] at q
      rw [hz]
      exact q
    · rw [eqDs_len hz]
      rw [beq_eq_false_iff_ne.mpr hz, Bool.and_false] at q
      exact q
  refine ⟨rc, ?_, ne⟩
  by_cases hlb : l = b
  · rw [hs hlb, hlb]
    exact SeqAt.EqAt.same _
  · exact SeqAt.EqAt.of_refs hlb rc
theorem eq_rep {pins : List (Addr × Obj)} {σ : L2.St} {H : Hp} {s : Shared} (I : Inv X pins σ H s) : ∀ (n : Nat) (d e : D) (v w' : V) (u t : Value) (B : Around), flD n d = true → flD n e = true → Rep X.K CL H A0 v d → Rep X.K CL H A0 w' e → RelV v u → RelV w' t → B.units + n < cLine →
    RcEq B s u t (eqD d e)
  | n, d, e, v, w', u, t, B, hd, he, r, q, rv, rw', hu => by
    have hu0 : B.units < cLine := by omega
    have sd := seen_of I hd r rv
    have se := seen_of I he q rw'
    match d, e, sd, se with
    | .non, .non, s1, s2 => cases s1; cases s2; exact rq_nn
    | .non, .bl b, s1, s2 => cases s1; cases s2; exact rq_nb b
    | .non, .int b, s1, s2 => cases s1; obtain ⟨_, rfl⟩ := s2; exact rq_ni b _
    | .non, .str b, s1, s2 => cases s1; obtain ⟨_, rfl⟩ := s2; exact rq_ns b _
    | .non, .tup es, s1, s2 => cases s1; obtain ⟨_, _, _, rfl, _, _, p⟩ := s2; exact rq_nt p hu0
    | .non, .lst es, s1, s2 => cases s1; obtain ⟨_, _, _, rfl, _, _, p⟩ := s2; exact rq_nl p hu0
    | .bl a, .non, s1, s2 => cases s1; cases s2; exact rq_bn a
    | .bl a, .bl b, s1, s2 => cases s1; cases s2; exact rq_bb a b
    | .bl a, .int b, s1, s2 => cases s1; obtain ⟨_, rfl⟩ := s2; exact rq_bi a b _
    | .bl a, .str b, s1, s2 => cases s1; obtain ⟨_, rfl⟩ := s2; exact rq_bs a b _
    | .bl a, .tup es, s1, s2 => cases s1; obtain ⟨_, _, _, rfl, _, _, p⟩ := s2; exact rq_bt a p hu0
    | .bl a, .lst es, s1, s2 => cases s1; obtain ⟨_, _, _, rfl, _, _, p⟩ := s2; exact rq_bl a p hu0
    | .int a, .non, s1, s2 => obtain ⟨_, rfl⟩ := s1; cases s2; exact rq_in a _
    | .int a, .bl b, s1, s2 => obtain ⟨_, rfl⟩ := s1; cases s2; exact rq_ib b a _
    | .int a, .int b, s1, s2 => obtain ⟨_, rfl⟩ := s1; obtain ⟨_, rfl⟩ := s2; exact rq_ii a _ b _
    | .int a, .str b, s1, s2 => obtain ⟨_, rfl⟩ := s1; obtain ⟨_, rfl⟩ := s2; exact rq_is a _ b _
    | .int a, .tup es, s1, s2 => obtain ⟨_, rfl⟩ := s1; obtain ⟨_, _, _, rfl, _, _, p⟩ := s2; exact rq_it a _ p hu0
    | .int a, .lst es, s1, s2 => obtain ⟨_, rfl⟩ := s1; obtain ⟨_, _, _, rfl, _, _, p⟩ := s2; exact rq_il a _ p hu0
    | .str a, .non, s1, s2 => obtain ⟨_, rfl⟩ := s1; cases s2; exact rq_sn a _
    | .str a, .bl b, s1, s2 => obtain ⟨_, rfl⟩ := s1; cases s2; exact rq_sb b a _
    | .str a, .int b, s1, s2 => obtain ⟨_, rfl⟩ := s1; obtain ⟨_, rfl⟩ := s2; exact rq_si a _ b _
    | .str a, .str b, s1, s2 => obtain ⟨_, rfl⟩ := s1; obtain ⟨_, rfl⟩ := s2; exact rq_ss a _ b _
    | .str a, .tup es, s1, s2 => obtain ⟨_, rfl⟩ := s1; obtain ⟨_, _, _, rfl, _, _, p⟩ := s2; exact rq_st a _ p hu0
    | .str a, .lst es, s1, s2 => obtain ⟨_, rfl⟩ := s1; obtain ⟨_, _, _, rfl, _, _, p⟩ := s2; exact rq_sl a _ p hu0
    | .tup ds, .non, s1, s2 => cases s2; obtain ⟨_, _, _, rfl, _, _, p⟩ := s1; exact rq_tn p hu0
    | .tup ds, .bl b, s1, s2 => cases s2; obtain ⟨_, _, _, rfl, _, _, p⟩ := s1; exact rq_tb b p hu0
    | .tup ds, .int b, s1, s2 => obtain ⟨_, rfl⟩ := s2; obtain ⟨_, _, _, rfl, _, _, p⟩ := s1; exact rq_ti b _ p hu0
    | .tup ds, .str b, s1, s2 => obtain ⟨_, rfl⟩ := s2; obtain ⟨_, _, _, rfl, _, _, p⟩ := s1; exact rq_ts b _ p hu0
    | .tup ds, .lst es, s1, s2 => obtain ⟨_, _, _, rfl, _, _, p⟩ := s1; obtain ⟨_, _, _, rfl, _, _, p2⟩ := s2; exact rq_tl p p2 hu0
    | .lst ds, .non, s1, s2 => cases s2; obtain ⟨_, _, _, rfl, _, _, p⟩ := s1; exact rq_ln p hu0
    | .lst ds, .bl b, s1, s2 => cases s2; obtain ⟨_, _, _, rfl, _, _, p⟩ := s1; exact rq_lb b p hu0
    | .lst ds, .int b, s1, s2 => obtain ⟨_, rfl⟩ := s2; obtain ⟨_, _, _, rfl, _, _, p⟩ := s1; exact rq_li b _ p hu0
    | .lst ds, .str b, s1, s2 => obtain ⟨_, rfl⟩ := s2; obtain ⟨_, _, _, rfl, _, _, p⟩ := s1; exact rq_ls b _ p hu0
    | .lst ds, .tup es, s1, s2 => obtain ⟨_, _, _, rfl, _, _, p⟩ := s1; obtain ⟨_, _, _, rfl, _, _, p2⟩ := s2; exact rq_lt p p2 hu0
    | .tup ds, .tup es, s1, s2 =>
      match n, hd, he, hu with
      | n + 1, hd, he, hu =>
        obtain ⟨a, xs, its, rfl, r1, v1, p1⟩ := s1
        obtain ⟨b, ys, its2, rfl, r2, v2, p2⟩ := s2
        have l1 := v1.length; have l2 := r1.length; have l3 := v2.length; have l4 := r2.length
        refine rq_seqT p1 p2 (by omega) (by omega) hu0 (fun hab => ?_) fun j h1 h2 => ?_
        · have e1 : v = .ref a := RelV.inj rv rfl
          have e2 : w' = .ref b := RelV.inj rw' rfl
          subst e1 e2 hab
          have z := rep_inj I (n + 1) _ _ hd he r q
          injection z with z
          rw [z]
          exact eqDs_refl n es he
        · obtain ⟨x, rx, qx⟩ := at_rep r1 v1 h1
          obtain ⟨y, ry, qy⟩ := at_rep r2 v2 h2
          exact (eq_rep I n _ _ x y _ _ B.in1 (all_getD hd j) (all_getD he j) rx ry qx qy (by show B.units + 1 + n < cLine; omega)).2.1
    | .lst ds, .lst es, s1, s2 =>
      match n, hd, he, hu with
      | n + 1, hd, he, hu =>
        obtain ⟨a, xs, its, rfl, r1, v1, p1⟩ := s1
        obtain ⟨b, ys, its2, rfl, r2, v2, p2⟩ := s2
        have l1 := v1.length; have l2 := r1.length; have l3 := v2.length; have l4 := r2.length
        refine rq_seqL p1 p2 (by omega) (by omega) hu0 (fun hab => ?_) fun j h1 h2 => ?_
        · have e1 : v = .ref a := RelV.inj rv rfl
          have e2 : w' = .ref b := RelV.inj rw' rfl
          subst e1 e2 hab
          have z := rep_inj I (n + 1) _ _ hd he r q
          injection z with z
          rw [z]
          exact eqDs_refl n es he
        · obtain ⟨x, rx, qx⟩ := at_rep r1 v1 h1
          obtain ⟨y, ry, qy⟩ := at_rep r2 v2 h2
          exact (eq_rep I n _ _ x y _ _ B.in1 (all_getD hd j) (all_getD he j) rx ry qx qy (by show B.units + 1 + n < cLine; omega)).2.1
    | .obj _ _, _, s1, _ => exact s1.elim
    | .exc _ _, _, s1, _ => exact s1.elim
    | .dic _, _, s1, _ => exact s1.elim
    | _, .obj _ _, _, s2 => exact s2.elim
    | _, .exc _ _, _, s2 => exact s2.elim
    | _, .dic _, _, s2 => exact s2.elim
end
end Ov
end
section
set_option Elab.async false
set_option linter.all false
set_option maxRecDepth 100000
set_option maxHeartbeats 1000000
namespace Ov
open PySem PySem.Spec PyProof.Rows L2
section
variable {X : Cx} {CL : ClA} {W : XW}
theorem in_rep {pins : List (Addr × Obj)} {σ : L2.St} {H : Hp} {s : Shared} (I : Inv X pins σ H s) {n : Nat} {xs : List V} {ds : List D} {its : List Value} {d : D} {v : V} {u : Value} (B : Around) (hd : flD n d = true) (hs : ds.all (flD n) = true)
    (r : Reps X.K CL H A0 xs ds) (rv : Vals xs its) (q : Rep X.K CL H A0 v d) (qv : RelV v u) (hu : B.units + n < cLine) :
    ∃ e : Value → Bool, (∀ y, y ∈ its.toArray → SeqAt.EqAt B s y u (e y)) ∧ its.toArray.any e = ds.any fun y => eqD y d := by
  have l1 := rv.length; have l2 := r.length
  have key : ∀ y, y ∈ its → ∃ k : Bool, SeqAt.EqAt B s y u k ∧ ∀ j (h : j < its.length), its[j] = y → eqD (ds.getD j .non) d = k := fun y hy => by
    obtain ⟨j, hj, rfl⟩ := List.getElem_of_mem hy
    obtain ⟨x, rx, qx⟩ := at_rep r rv hj
    refine ⟨eqD (ds.getD j .non) d, (eq_rep I n _ _ x v _ _ B (all_getD hs j) hd rx q qx qv hu).2.1, fun j' hj' e => ?_⟩
    obtain ⟨x', rx', qx'⟩ := at_rep r rv hj'
    rw [e] at qx'
    have z := RelV.inj qx qx'
    subst z
    rw [rep_inj I n _ _ (all_getD hs j') (all_getD hs j) rx' rx]
  have key2 : ∀ y, ∃ k : Bool, y ∈ its → SeqAt.EqAt B s y u k ∧ ∀ j (h : j < its.length), its[j] = y → eqD (ds.getD j .non) d = k := fun y => by
    by_cases hy : y ∈ its
    · obtain ⟨k, hk⟩ := key y hy; exact ⟨k, fun _ => hk⟩
    · exact ⟨true, fun h => absurd h hy⟩
  refine ⟨fun y => Classical.choose (key2 y), fun y hy => (Classical.choose_spec (key2 y) (by simpa using hy)).1, ?_⟩
  rw [Bool.eq_iff_iff]
  simp only [List.any_toArray, List.any_eq_true]
  constructor
  · rintro ⟨y, hy, hk⟩
    obtain ⟨j, hj, rfl⟩ := List.getElem_of_mem hy
    have z := (Classical.choose_spec (key2 its[j]) hy).2 j hj rfl
    rw [hk] at z
    refine ⟨ds.getD j .non, ?_, z⟩
    rw [List.getD_eq_getElem?_getD, List.getElem?_eq_getElem (by omega)]
    exact List.getElem_mem _
  · rintro ⟨y, hy, hk⟩
    obtain ⟨j, hj, rfl⟩ := List.getElem_of_mem hy
    have hj' : j < its.length := by omega
    refine ⟨its[j], List.getElem_mem _, ?_⟩
    have z := (Classical.choose_spec (key2 its[j]) (List.getElem_mem _)).2 j hj' rfl
    rw [← z, List.getD_eq_getElem?_getD, List.getElem?_eq_getElem hj]
    exact hk
theorem opd_cmpI {op : CmpOp} {g : Int → Int → Bool} (ho : OpR X (compareOp op) (rI0 fun i j => .bl (g i j))) (hg : ∀ dx dy, (∃ i j, dx = .int i ∧ dy = .int j ∧ cmpD op dx dy = .ok (.bl (g i j))) ∨ cmpD op dx dy = .bad) : OpD X CL W (compareOp op) (cmpD op) := by
  intro A pins s σ H x y v u Q I rx ry ⟨hA, dx, dy, hx, hy, p⟩
  rcases hg dx dy with ⟨i, j, rfl, rfl, e⟩ | e
  · have ex := hx.int_of; have ey := hy.int_of
    subst ex ey
    rw [e] at p
    exact ho pins s σ H _ _ v u Q I rx ry ⟨i, j, rfl, rfl, p _ H (Same.refl H) rfl⟩
  · rw [e] at p; exact p.elim
theorem isN_of {A : Addr → Prop} {H : Hp} {x : V} {d : D} (h : RepT X.K CL H A x d) (hd : d ≠ .non) : x ≠ .non := by
  rintro rfl
  have h := h.plain
  cases d with
  | non => exact hd rfl
  | tup => obtain ⟨_, _, e, _⟩ := h; cases e
  | lst => obtain ⟨_, _, e, _⟩ := h; cases e
  | obj => obtain ⟨_, _, _, _, e, _⟩ := h; cases e
  | exc => obtain ⟨_, _, _, e, _⟩ := h; cases e
  | dic => exact h.elim
  | _ => cases h
theorem opd_cmp (hu : X.A.units + 64 < cLine) (op : CmpOp) : OpD X CL W (compareOp op) (cmpD op) := by
  cases op with
  | Eq =>
    intro A pins s σ H x y v u Q I rx ry ⟨hA, dx, dy, hx, hy, p⟩
    rw [eq_xy] at p
    split at p
    · rename_i h
      simp only [Bool.and_eq_true] at h
      exact (eq_rep I 5 dx dy x y v u X.A h.1 h.2 hx.plain hy.plain rx ry (by omega)).1 X.prog X.w X.xe _ ⟨.bl _, H, I, rfl, p _ H (Same.refl H) rfl⟩
    · exact p.elim
  | NotEq =>
    intro A pins s σ H x y v u Q I rx ry ⟨hA, dx, dy, hx, hy, p⟩
    rw [ne_xy] at p
    split at p
    · rename_i h
      simp only [Bool.and_eq_true] at h
      exact (eq_rep I 5 dx dy x y v u X.A h.1 h.2 hx.plain hy.plain rx ry (by omega)).2.2 X.prog X.w X.xe _ ⟨.bl _, H, I, rfl, p _ H (Same.refl H) rfl⟩
    · exact p.elim
  | Lt => exact opd_cmpI op_lt fun dx dy => by cases dx <;> cases dy <;> first | exact .inl ⟨_, _, rfl, rfl, rfl⟩ | exact .inr rfl
  | LtE => exact opd_cmpI op_le fun dx dy => by cases dx <;> cases dy <;> first | exact .inl ⟨_, _, rfl, rfl, rfl⟩ | exact .inr rfl
  | Gt => exact opd_cmpI op_gt fun dx dy => by cases dx <;> cases dy <;> first | exact .inl ⟨_, _, rfl, rfl, rfl⟩ | exact .inr rfl
  | GtE => exact opd_cmpI op_ge fun dx dy => by cases dx <;> cases dy <;> first | exact .inl ⟨_, _, rfl, rfl, rfl⟩ | exact .inr rfl
  | In =>
    intro A pins s σ H x y v u Q I rx ry ⟨hA, dx, dy, hx, hy, p⟩
    cases dy with
    | lst es =>
      rw [in_l] at p
      split at p
      · rename_i h
        simp only [Bool.and_eq_true] at h
        obtain ⟨a, xs, e, _, sq, r⟩ := hy.plain
        subst e
        cases ry
        obtain ⟨its, rv, pl, _⟩ := I.list sq
        obtain ⟨e, he, ha⟩ := in_rep I (n := 5) X.A.in1 h.1 h.2 r rv hx.plain rx (by show X.A.units + 1 + 5 < cLine; omega)
        refine SeqAt.in_listAt e (isL_of pl) he ?_
        rw [ha]
        exact ⟨.bl _, H, I, rfl, p _ H (Same.refl H) rfl⟩
      · exact p.elim
    | tup es =>
      rw [in_t] at p
      split at p
      · rename_i h
        simp only [Bool.and_eq_true] at h
        obtain ⟨a, xs, e, _, sq, r⟩ := hy.plain
        subst e
        cases ry
        obtain ⟨its, rv, pl, _⟩ := I.tuple sq
        obtain ⟨e, he, ha⟩ := in_rep I (n := 5) X.A.in1 h.1 h.2 r rv hx.plain rx (by show X.A.units + 1 + 5 < cLine; omega)
        refine SeqAt.in_tupleAt e pl he ?_
        rw [ha]
        exact ⟨.bl _, H, I, rfl, p _ H (Same.refl H) rfl⟩
      · exact p.elim
    | dic kvs => exact hy.plain.elim
    | _ => cases dx <;> exact p.elim
  | NotIn =>
    intro A pins s σ H x y v u Q I rx ry ⟨hA, dx, dy, hx, hy, p⟩
    cases dy with
    | lst es =>
      rw [nin_l] at p
      split at p
      · rename_i h
        simp only [Bool.and_eq_true] at h
        obtain ⟨a, xs, e, _, sq, r⟩ := hy.plain
        subst e
        cases ry
        obtain ⟨its, rv, pl, _⟩ := I.list sq
        obtain ⟨e, he, ha⟩ := in_rep I (n := 5) X.A.in1 h.1 h.2 r rv hx.plain rx (by show X.A.units + 1 + 5 < cLine; omega)
        refine SeqAt.notIn_listAt e (isL_of pl) he ?_
        rw [ha]
        exact ⟨.bl _, H, I, rfl, p _ H (Same.refl H) rfl⟩
      · exact p.elim
    | tup es =>
      rw [nin_t] at p
      split at p
      · rename_i h
        simp only [Bool.and_eq_true] at h
        obtain ⟨a, xs, e, _, sq, r⟩ := hy.plain
        subst e
        cases ry
        obtain ⟨its, rv, pl, _⟩ := I.tuple sq
        obtain ⟨e, he, ha⟩ := in_rep I (n := 5) X.A.in1 h.1 h.2 r rv hx.plain rx (by show X.A.units + 1 + 5 < cLine; omega)
        refine SeqAt.notIn_tupleAt e pl he ?_
        rw [ha]
        exact ⟨.bl _, H, I, rfl, p _ H (Same.refl H) rfl⟩
      · exact p.elim
    | _ => cases dx <;> exact p.elim
  | Is =>
    intro A pins s σ H x y v u Q I rx ry ⟨hA, dx, dy, hx, hy, p⟩
    cases dy with
    | non =>
      have ey := hy.non_of
      subst ey
      refine op_isN pins s σ H _ _ v u Q I rx ry ⟨rfl, ?_⟩
      cases dx with
      | non =>
        have ex := hx.non_of
        subst ex
        exact p _ H (Same.refl H) rfl
      | exc => exact p.elim
      | dic => exact p.elim
      | _ => rw [decide_eq_false (isN_of hx (by simp))]; exact p _ H (Same.refl H) rfl
    | bl b =>
      cases dx with
      | bl a =>
        have ey := hy.bl_of
        have ex := hx.bl_of
        subst ex ey
        cases rx
        cases ry
        refine wpAny_is_plain rfl ⟨.bl (a == b), H, I, ?_, p _ H (Same.refl H) rfl⟩
        cases a <;> cases b <;> rfl
      | _ => exact p.elim
    | _ => cases dx <;> exact p.elim
  | IsNot =>
    intro A pins s σ H x y v u Q I rx ry ⟨hA, dx, dy, hx, hy, p⟩
    cases dy with
    | non =>
      have ey := hy.non_of
      subst ey
      refine op_notN pins s σ H _ _ v u Q I rx ry ⟨rfl, ?_⟩
      cases dx with
      | non =>
        have ex := hx.non_of
        subst ex
        exact p _ H (Same.refl H) rfl
      | exc => exact p.elim
      | dic => exact p.elim
      | _ => rw [decide_eq_false (isN_of hx (by simp))]; exact p _ H (Same.refl H) rfl
    | bl b =>
      cases dx with
      | bl a =>
        have ey := hy.bl_of
        have ex := hx.bl_of
        subst ex ey
        cases rx
        cases ry
        refine wpAny_isNot_plain rfl ⟨.bl (!(a == b)), H, I, ?_, p _ H (Same.refl H) rfl⟩
        cases a <;> cases b <;> rfl
      | _ => exact p.elim
    | _ => cases dx <;> exact p.elim
end
end Ov
end
section
set_option Elab.async false
set_option linter.all false
set_option maxRecDepth 100000
set_option maxHeartbeats 1000000
namespace Ov
open PySem PySem.Spec PyProof.Rows L2
section
variable {X : Cx} {CL : ClA} {W : XW} {a b c : Expr} {fa fb fc : Rho → R D} {pos : Pos}
theorem PostB.bind {Rp : Hp → V → D → Prop} {W : XW} {H : Hp} {r : R D} {f : D → R Bool} {Q : Bool → Hp → Prop} {Q' : VK} (h : PostB W H (r.bind f) Q) (k : ∀ d v H', r = .ok d → Same H H' → Rp H' v d → PostB W H' (f d) Q → Q' v H') : Post Rp W H r Q' := by
  cases r with
  | ok d => exact fun v H2 s2 q => k d v H2 rfl s2 q (PostB.same s2 h)
  | exn x => exact h
  | bad => exact h
theorem PostB.bindB {W : XW} {H : Hp} {r : R Bool} {f : Bool → R Bool} {Q : Bool → Hp → Prop} {Q' : Bool → Hp → Prop} (h : PostB W H (r.bind f) Q) (k : ∀ b H', r = .ok b → Same H H' → PostB W H' (f b) Q → Q' b H') : PostB W H r Q' := by
  cases r with
  | ok d => exact fun H2 s2 => k d H2 rfl s2 (PostB.same s2 h)
  | exn x => exact h
  | bad => exact h
theorem PostS.bind {Rp : Hp → List V → List D → Prop} {Rq : Hp → V → D → Prop} {W : XW} {H : Hp} {r : R (List D)} {f : List D → R D} {Q : VK} {Q' : List V → Hp → Prop} (h : Post Rq W H (r.bind f) Q) (k : ∀ d v H', r = .ok d → Same H H' → Rp H' v d → Post Rq W H' (f d) Q → Q' v H') : PostS Rp W H r Q' := by
  cases r with
  | ok d => exact fun v H2 s2 q => k d v H2 rfl s2 q (Post.same s2 h)
  | exn x => exact h
  | bad => exact h
theorem asBl_bind {Rq : Hp → V → D → Prop} {H : Hp} {d : D} {f : Bool → R D} {Q : VK} (h : Post Rq W H ((asBl d).bind f) Q) : ∃ c, d = .bl c ∧ Post Rq W H (f c) Q := by
  cases d with
  | bl c => exact ⟨c, rfl, h⟩
  | _ => exact h.elim
theorem se_not (ha : ST X CL W a fa) : SE X CL W (.UnaryOp .Not a pos) (fun ρ => (fa ρ).bind fun x => (asBl x).bind fun b => .ok (.bl (!b))) := fun A => PE.weak (pe_not (ha A)) fun σ H Q ⟨hA, ρ, g, p⟩ => ⟨hA, ρ, g, Post.bind p fun d v H1 _ s1 r1 p1 => by
  obtain ⟨c, rfl, p2⟩ := asBl_bind p1
  exact ⟨c, r1.bl_of, p2 _ H1 (Same.refl H1) rfl⟩⟩
theorem se_one {op} (ha : SE X CL W a fa) : SE X CL W (.BoolOp op [a] pos) fa := fun A => pe_one (ha A)
theorem se_and {rest : List Expr} (ha : SE X CL W a fa) (hb : SE X CL W (.BoolOp .And (b :: rest) pos) fb) : SE X CL W (.BoolOp .And (a :: b :: rest) pos) (fun ρ => (fa ρ).bind fun x => (asBl x).bind fun c => if c = true then fb ρ else .ok (.bl false)) :=
  fun A => PE.weak (pe_and (ha A) (hb A)) fun σ H Q ⟨hA, ρ, g, p⟩ => ⟨hA, ρ, g, Post.bind p fun d v H1 _ s1 r1 p1 => by
    obtain ⟨c, rfl, p2⟩ := asBl_bind p1
    refine ⟨c, r1, ?_⟩
    cases c with
    | true => exact ⟨hA.same s1, ρ, g.same s1, p2⟩
    | false => exact p2 _ H1 (Same.refl H1) rfl⟩
theorem se_or {rest : List Expr} (ha : SE X CL W a fa) (hb : SE X CL W (.BoolOp .Or (b :: rest) pos) fb) : SE X CL W (.BoolOp .Or (a :: b :: rest) pos) (fun ρ => (fa ρ).bind fun x => (asBl x).bind fun c => if c = true then .ok (.bl true) else fb ρ) :=
  fun A => PE.weak (pe_or (ha A) (hb A)) fun σ H Q ⟨hA, ρ, g, p⟩ => ⟨hA, ρ, g, Post.bind p fun d v H1 _ s1 r1 p1 => by
    obtain ⟨c, rfl, p2⟩ := asBl_bind p1
    refine ⟨c, r1, ?_⟩
    cases c with
    | false => exact ⟨hA.same s1, ρ, g.same s1, p2⟩
    | true => exact p2 _ H1 (Same.refl H1) rfl⟩
theorem se_chain {op op' : CmpOp} (hu : X.A.units + 64 < cLine) (ha : ST X CL W a fa) (hb : ST X CL W b fb) (hc : ST X CL W c fc) (hm : lastMarks [op, op'] [b, c] = false) :
    SE X CL W (.Compare a [op, op'] [b, c] pos) (fun ρ => (fa ρ).bind fun x => (fb ρ).bind fun y => (cmpD op x y).bind fun z => (asBl z).bind fun k => if k = true then (fc ρ).bind fun u => cmpD op' y u else .ok (.bl false)) :=
  fun A => PE.weak (pe_chain (opd_cmp hu op A) (opd_cmp hu op' A) (ha A) (hb A) (hc A) hm) fun σ H Q ⟨hA, ρ, g, p⟩ => ⟨hA, ρ, g, Post.bind p fun dx x H1 _ s1 r1 p1 => ⟨hA.same s1, ρ, g.same s1, Post.bind p1 fun dy y H2 _ s2 r2 p2 =>
    ⟨(hA.same s1).same s2, dx, dy, r1.same s2, r2, Post.bind p2 fun dz z H3 _ s3 r3 p3 => by
      obtain ⟨k, rfl, p4⟩ := asBl_bind p3
      refine ⟨k, r3, ?_⟩
      cases k with
      | false => exact p4 _ H3 (Same.refl H3) rfl
      | true => exact ⟨((hA.same s1).same s2).same s3, ρ, ((g.same s1).same s2).same s3, Post.bind p4 fun du u H4 _ s4 r4 p5 => ⟨(((hA.same s1).same s2).same s3).same s4, dy, du, (r2.same s3).same s4, r4, p5⟩⟩⟩⟩⟩
theorem getL_at {xs : List D} {i : Int} {d : D} (h : getL xs i = .ok d) : ∃ k, plD xs.length i = some k ∧ xs[k]? = some d := by
  unfold getL at h
  split at h
  · rename_i k e
    split at h
    · rename_i d' e'; cases h; exact ⟨k, e, e'⟩
    · cases h
  · cases h
theorem getL_nex {xs : List D} {i : Int} {x : Ex} (h : getL xs i = .exn x) : False := by
  unfold getL at h
  split at h
  · split at h <;> cases h
  · cases h
theorem atI_rep {K : PySem.W.Frag} {H : Hp} {A : Addr → Prop} {xs : List V} {ds : List D} {i : Int} {d : D} (r : Reps K CL H A xs ds) (h : getL ds i = .ok d) : ∃ v, atI xs i = some v ∧ Rep K CL H A v d := by
  obtain ⟨k, e, q⟩ := getL_at h
  obtain ⟨v, hv, rv⟩ := r.get q
  refine ⟨v, ?_, rv⟩
  unfold atI
  have : ixN xs.length i = some k := by rw [r.length]; exact e
  rw [this]
  exact hv
theorem se_idx (hs : PlainIx b) (ha : ST X CL W a fa) (hb : ST X CL W b fb) : SE X CL W (.Subscript a b pos) (fun ρ => (fa ρ).bind fun x => (fb ρ).bind fun y => idxD x y) :=
  fun A => PE.weak (pe_ix (r := fun x y H Q => rIxL X.K x y H Q ∨ rIxT X.K x y H Q) (ix_list.or ix_tup) (ha A) (hb A) hs) fun σ H Q h => by
    obtain ⟨hA, ρ, g, h⟩ := op2 h
    refine ⟨hA, ρ, g, ?_⟩
    cases e : fa ρ with
    | bad => rw [e] at h; exact h
    | exn x => rw [e] at h; exact h
    | ok dx0 =>
      rw [e] at h
      intro x H1 s1 r1
      obtain ⟨hA1, ρ1, g1, h1⟩ := h x H1 s1 r1
      refine ⟨hA1, ρ1, g1, ?_⟩
      cases e1 : fb ρ1 with
      | bad => rw [e1] at h1; exact h1
      | exn x => rw [e1] at h1; exact h1
      | ok dy0 =>
        rw [e1] at h1
        intro y H2 s2 r2
        obtain ⟨hA2, dx, dy, rx, ry, p⟩ := h1 y H2 s2 r2
        cases dy with
        | int i =>
          have ey := ry.int_of
          subst ey
          cases dx with
          | lst ds =>
            obtain ⟨q, xs, rfl, sq, r⟩ := rx.lst_of
            rw [idx_l] at p
            cases e2 : getL ds i with
            | ok d =>
              rw [e2] at p
              obtain ⟨v, hv, rv⟩ := atI_rep r e2
              exact .inl ⟨q, xs, i, v, rfl, rfl, sq, hv, p v H2 (Same.refl H2) rv⟩
            | exn x => exact (getL_nex e2).elim
            | bad => rw [e2] at p; exact p.elim
          | tup ds =>
            obtain ⟨q, xs, rfl, _, sq, r⟩ := rx.tup_of
            rw [idx_t] at p
            cases e2 : getL ds i with
            | ok d =>
              rw [e2] at p
              obtain ⟨v, hv, rv⟩ := atI_rep r e2
              exact .inr ⟨q, xs, i, v, rfl, rfl, sq, hv, p v H2 (Same.refl H2) rv⟩
            | exn x => exact (getL_nex e2).elim
            | bad => rw [e2] at p; exact p.elim
          | dic => exact rx.plain.elim
          | _ => exact p.elim
        | _ => cases dx <;> first | exact p.elim | exact rx.plain.elim
theorem sa_nil : SA X CL W [] (fun _ => .ok []) := fun A => PA.weak pa_nil fun σ H Q ⟨hA, ρ, g, p⟩ => p [] H (Same.refl H) trivial
theorem sa_cons {es : List Expr} {fs : Rho → R (List D)} (ha : SE X CL W a fa) (hs : SA X CL W es fs) (hst : starEach (a :: es) X.env = (false, eval a X.env) :: starEach es X.env) : SA X CL W (a :: es) (fun ρ => (fa ρ).bind fun x => (fs ρ).bind fun xs => .ok (x :: xs)) :=
  fun A => PA.weak (pa_cons (ha A) (hs A) hst) fun σ H Q ⟨hA, ρ, g, p⟩ => by
    dsimp only at p
    refine ⟨hA, ρ, g, ?_⟩
    cases e : fa ρ with
    | bad => rw [e] at p; exact p
    | exn x => rw [e] at p; exact p
    | ok d =>
      rw [e] at p
      intro v H1 s1 r1
      refine ⟨hA.same s1, ρ, g.same s1, ?_⟩
      cases e1 : fs ρ with
      | bad => rw [R.bind_ok, e1] at p; exact p
      | exn x => rw [R.bind_ok, e1] at p; exact fun H2 s2 => p H2 (s1.trans s2)
      | ok ds =>
        rw [R.bind_ok, e1] at p
        exact fun vs H2 s2 r2 => p (v :: vs) H2 (s1.trans s2) ⟨r1.same s2, r2⟩
theorem se_tup {es : List Expr} {fs : Rho → R (List D)} {k : Nat} (hs : SA X CL W es fs) (hz : ∀ ρ ds, fs ρ = .ok ds → ds.length ≤ 100000) : SE X CL W (.Tuple es k pos) (fun ρ => (fs ρ).bind fun xs => .ok (.tup xs)) :=
  fun A => PE.weak (pe_tup (hs A)) fun σ H Q ⟨hA, ρ, g, p⟩ => ⟨hA, ρ, g, PostS.bind p fun ds vs H1 e s1 r1 p1 => ⟨by
    rw [r1.length, sizeLine_eq]; have := hz ρ ds e; omega, fun q hq => p1 _ _ (same_new hq _) (new_tup (hA.same s1) hq r1)⟩⟩
noncomputable def PostO (W : XW) (H : Hp) (r : R (Option Int)) (Q : Option Int → Hp → Prop) : Prop := match r with
  | .ok o => ∀ H', Same H H' → Q o H'
  | .exn x => ∀ H', Same H H' → W x H'
  | .bad => False
theorem PostO.bind {Rq : Hp → V → D → Prop} {W : XW} {H : Hp} {r : R (Option Int)} {f : Option Int → R D} {Q : VK} {Q' : Option Int → Hp → Prop} (h : Post Rq W H (r.bind f) Q) (k : ∀ o H', r = .ok o → Same H H' → Post Rq W H' (f o) Q → Q' o H') : PostO W H r Q' := by
  cases r with
  | ok d => exact fun H2 s2 => k d H2 rfl s2 (Post.same s2 h)
  | exn x => exact h
  | bad => exact h
noncomputable def SO (X : Cx) (CL : ClA) (W : XW) (e : Option Expr) (f : Rho → R (Option Int)) : Prop := ∀ A, PO X e (fun σ H Q => AOk H A ∧ ∃ ρ, Good X.K CL A ρ σ H ∧ PostO W H (f ρ) Q)
theorem PO.weak {X : Cx} {e : Option Expr} {t t' : TO} (h : PO X e t) (k : ∀ σ H Q, t' σ H Q → t σ H Q) : PO X e t' := fun pins s σ H Q I q => h pins s σ H Q I (k _ _ _ q)
theorem so_none : SO X CL W none (fun _ => .ok none) := fun A => PO.weak po_none fun σ H Q ⟨hA, ρ, g, p⟩ => p H (Same.refl H)
theorem so_some (ha : ST X CL W a fa) : SO X CL W (some a) (fun ρ => (fa ρ).bind fun d => (asInt d).bind fun i => .ok (some i)) := fun A => PO.weak (po_some (ha A)) fun σ H Q ⟨hA, ρ, g, p⟩ => by
  dsimp only at p
  refine ⟨hA, ρ, g, ?_⟩
  cases e : fa ρ with
  | bad => rw [e] at p; exact p
  | exn x => rw [e] at p; exact p
  | ok d =>
    rw [e] at p
    intro v H1 s1 r1
    cases d with
    | int i => exact ⟨i, r1.int_of, p H1 s1⟩
    | _ => exact p.elim
theorem cut_rep {K : PySem.W.Frag} {H : Hp} {A : Addr → Prop} {xs : List V} {ds : List D} (lo hi : Option Int) (r : Reps K CL H A xs ds) : Reps K CL H A (cutV xs lo hi) (cutD ds lo hi) := by
  unfold cutV cutD
  have e : ∀ d o, HT.sIx xs.length d o = sIxD ds.length d o := fun d o => by rw [r.length]; cases o <;> rfl
  rw [e, e, r.length]
  exact (r.drop _).take _
end
end Ov
end
section
set_option Elab.async false
set_option linter.all false
set_option maxRecDepth 100000
set_option maxHeartbeats 1000000
namespace Ov
open PySem PySem.Spec PyProof.Rows L2
section
variable {X : Cx} {CL : ClA} {W : XW} {a b c : Expr} {fa fb fc : Rho → R D} {pos : Pos}
noncomputable def RepTs (K : PySem.W.Frag) (CL : ClA) (H : Hp) (A : Addr → Prop) : List V → List D → Prop
  | [], [] => True
  | v :: vs, d :: ds => RepT K CL H A v d ∧ RepTs K CL H A vs ds
  | _, _ => False
theorem RepTs.same {K : PySem.W.Frag} {H H' : Hp} {A : Addr → Prop} (s : Same H H') : ∀ {vs : List V} {ds : List D}, RepTs K CL H A vs ds → RepTs K CL H' A vs ds
  | [], [], h => h
  | _ :: _, _ :: _, h => ⟨h.1.same s, RepTs.same s h.2⟩
  | [], _ :: _, h => h.elim
  | _ :: _, [], h => h.elim
theorem RepTs.one {K : PySem.W.Frag} {H : Hp} {A : Addr → Prop} {vs : List V} {d : D} (h : RepTs K CL H A vs [d]) : ∃ v, vs = [v] ∧ RepT K CL H A v d := by
  cases vs with
  | nil => exact h.elim
  | cons v vs =>
    cases vs with
    | nil => exact ⟨v, rfl, h.1⟩
    | cons => exact h.2.elim
theorem RepTs.two {K : PySem.W.Frag} {H : Hp} {A : Addr → Prop} {vs : List V} {d e : D} (h : RepTs K CL H A vs [d, e]) : ∃ v w', vs = [v, w'] ∧ RepT K CL H A v d ∧ RepT K CL H A w' e := by
  cases vs with
  | nil => exact h.elim
  | cons v vs =>
    cases vs with
    | nil => exact h.2.elim
    | cons w' vs =>
      cases vs with
      | nil => exact ⟨v, w', rfl, h.1, h.2.1⟩
      | cons => exact h.2.2.elim
noncomputable def SAT (X : Cx) (CL : ClA) (W : XW) (es : List Expr) (f : Rho → R (List D)) : Prop := ∀ A, PA X es (fun σ H Q => AOk H A ∧ ∃ ρ, Good X.K CL A ρ σ H ∧ PostS (fun H => RepTs X.K CL H A) W H (f ρ) Q)
theorem sat_nil : SAT X CL W [] (fun _ => .ok []) := fun A => PA.weak pa_nil fun σ H Q ⟨hA, ρ, g, p⟩ => p [] H (Same.refl H) trivial
theorem sat_cons {es : List Expr} {fs : Rho → R (List D)} (ha : ST X CL W a fa) (hs : SAT X CL W es fs) (hst : starEach (a :: es) X.env = (false, eval a X.env) :: starEach es X.env) : SAT X CL W (a :: es) (fun ρ => (fa ρ).bind fun x => (fs ρ).bind fun xs => .ok (x :: xs)) :=
  fun A => PA.weak (pa_cons (ha A) (hs A) hst) fun σ H Q ⟨hA, ρ, g, p⟩ => by
    dsimp only at p
    refine ⟨hA, ρ, g, ?_⟩
    cases e : fa ρ with
    | bad => rw [e] at p; exact p
    | exn x => rw [e] at p; exact p
    | ok d =>
      rw [e] at p
      intro v H1 s1 r1
      refine ⟨hA.same s1, ρ, g.same s1, ?_⟩
      cases e1 : fs ρ with
      | bad => rw [R.bind_ok, e1] at p; exact p
      | exn x => rw [R.bind_ok, e1] at p; exact fun H2 s2 => p H2 (s1.trans s2)
      | ok ds =>
        rw [R.bind_ok, e1] at p
        exact fun vs H2 s2 r2 => p (v :: vs) H2 (s1.trans s2) ⟨r1.same s2, r2⟩
noncomputable def CallD (X : Cx) (CL : ClA) (W : XW) (f : Value) (g : List D → R D) : Prop := ∀ A, CallR X f (fun xs H Q => AOk H A ∧ ∃ ds, RepTs X.K CL H A xs ds ∧ Post (fun H => Rep X.K CL H A) W H (g ds) Q)
theorem se_biB {x : Str} {id : String} {p : Pos} {e : Expr} {es : List Expr} {fs : Rho → R (List D)} {g : List D → R D} (hc : CallD X CL W (.builtin id) g) (hg : Gl X x) (hm : X.mg x = none) (hv : bootBuiltins x = some (.builtin id)) (ha : SAT X CL W (e :: es) fs)
    (hn : x ≠ "__name__") (hdb : (x == ("__debug__" : Str)) = false) (he : starEach (e :: es) X.env = (false, eval e X.env) :: starEach es X.env) (hpl : ∀ pos, (backTo pos (starEach es X.env)).any (·.1) = false) :
    SE X CL W (.Call (.Name x p) (e :: es) [] pos) (fun ρ => (fs ρ).bind g) := fun A => PE.weak (pe_callB (hc A) hg hm hv (ha A) hn hdb he (hpl _)) fun σ H Q ⟨hA, ρ, gd, q⟩ => ⟨hA, ρ, gd, PostS.bind q fun ds vs H1 _ s1 r1 p1 => ⟨hA.same s1, ds, r1, p1⟩⟩
theorem se_biT {x : Str} {T : String} {p : Pos} {e : Expr} {es : List Expr} {fs : Rho → R (List D)} {g : List D → R D} (hc : CallD X CL W (.type T) g) (hg : Gl X x) (hm : X.mg x = none) (hv : bootBuiltins x = some (.type T)) (ha : SAT X CL W (e :: es) fs)
    (hn : x ≠ "__name__") (hdb : (x == ("__debug__" : Str)) = false) (he : starEach (e :: es) X.env = (false, eval e X.env) :: starEach es X.env) (hpl : ∀ pos, (backTo pos (starEach es X.env)).any (·.1) = false) :
    SE X CL W (.Call (.Name x p) (e :: es) [] pos) (fun ρ => (fs ρ).bind g) := fun A => PE.weak (pe_callTy (hc A) hg hm hv (ha A) hn hdb he (hpl _)) fun σ H Q ⟨hA, ρ, gd, q⟩ => ⟨hA, ρ, gd, PostS.bind q fun ds vs H1 _ s1 r1 p1 => ⟨hA.same s1, ds, r1, p1⟩⟩
theorem cd_len : CallD X CL W (.builtin "len") (biD .len) := by
  intro A pins s σ H xs us Q I r ⟨hA, ds, rs, p⟩
  match ds, rs, p with
  | [.lst es], rs, p =>
    obtain ⟨v, rfl, rv⟩ := rs.one
    obtain ⟨q, ys, rfl, sq, ry⟩ := rv.lst_of
    exact call_len_seq pins s σ H _ us Q I r ⟨q, ys, rfl, .inl sq, p _ H (Same.refl H) (by rw [ry.length]; rfl)⟩
  | [.tup es], rs, p =>
    obtain ⟨v, rfl, rv⟩ := rs.one
    obtain ⟨q, ys, rfl, _, sq, ry⟩ := rv.tup_of
    exact call_len_seq pins s σ H _ us Q I r ⟨q, ys, rfl, .inr sq, p _ H (Same.refl H) (by rw [ry.length]; rfl)⟩
  | [.str x], rs, p =>
    obtain ⟨v, rfl, rv⟩ := rs.one
    have e := rv.str_of
    subst e
    have p' : Post (fun H => Rep X.K CL H A) W H (if szOk x.length = true then .ok (.int x.length) else .bad) Q := p
    split at p'
    · rename_i h
      exact call_len_str pins s σ H _ us Q I r ⟨x, rfl, szOk_line h, p' _ H (Same.refl H) rfl⟩
    · exact p'.elim
  | [], _, p => exact p.elim
  | [.non], _, p => exact p.elim
  | [.bl _], _, p => exact p.elim
  | [.int _], _, p => exact p.elim
  | [.obj _ _], _, p => exact p.elim
  | [.exc _ _], _, p => exact p.elim
  | [.dic _], rs, p => first | exact p.elim | (obtain ⟨v, rfl, rv⟩ := rs.one; exact rv.plain.elim)
  | x :: _ :: _, _, p => cases x <;> exact p.elim
theorem max_cases (ds : List D) : (∃ i j, ds = [.int i, .int j]) ∨ biD .max ds = .bad := by
  match ds with
  | [.int i, .int j] => exact .inl ⟨i, j, rfl⟩
  | [] => exact .inr rfl
  | [x] => cases x <;> exact .inr rfl
  | x :: y :: z :: r => cases x <;> cases y <;> exact .inr rfl
  | [x, .non] => cases x <;> exact .inr rfl
  | [x, .bl _] => cases x <;> exact .inr rfl
  | [x, .str _] => cases x <;> exact .inr rfl
  | [x, .tup _] => cases x <;> exact .inr rfl
  | [x, .lst _] => cases x <;> exact .inr rfl
  | [x, .obj _ _] => cases x <;> exact .inr rfl
  | [x, .exc _ _] => cases x <;> exact .inr rfl
  | [x, .dic _] => cases x <;> exact .inr rfl
  | [.non, .int _] => exact .inr rfl
  | [.bl _, .int _] => exact .inr rfl
  | [.str _, .int _] => exact .inr rfl
  | [.tup _, .int _] => exact .inr rfl
  | [.lst _, .int _] => exact .inr rfl
  | [.obj _ _, .int _] => exact .inr rfl
  | [.exc _ _, .int _] => exact .inr rfl
  | [.dic _, .int _] => exact .inr rfl
theorem minI_spec : ∀ (is : List Int) (i : Int), minI i is ∈ i :: is ∧ ∀ a ∈ i :: is, minI i is ≤ a
  | [], i => ⟨List.mem_cons_self, fun a h => by rw [List.mem_singleton] at h; rw [h]; exact Int.le_refl _⟩
  | j :: r, i => by
    obtain ⟨h1, h2⟩ := minI_spec r (if j < i then j else i)
    refine ⟨?_, fun a h => ?_⟩
    · show minI (if j < i then j else i) r ∈ _
      rcases List.mem_cons.mp h1 with e | e
      · rw [e]
        split
        · exact List.mem_cons_of_mem _ List.mem_cons_self
        · exact List.mem_cons_self
      · exact List.mem_cons_of_mem _ (List.mem_cons_of_mem _ e)
    · show minI (if j < i then j else i) r ≤ a
      have h0 := h2 _ List.mem_cons_self
      rcases List.mem_cons.mp h with e | e
      · subst e
        refine Int.le_trans h0 ?_
        split <;> omega
      · rcases List.mem_cons.mp e with e | e
        · subst e
          refine Int.le_trans h0 ?_
          split <;> omega
        · exact h2 a (List.mem_cons_of_mem _ e)
theorem ints_items : ∀ {is : List Int} {its : List Value}, Vals (is.map V.int) its → ∃ xs : Array (Int × Tok), its.toArray = intItems xs ∧ xs.toList.map (·.1) = is
  | [], _, h => by cases h; exact ⟨#[], by simp [intItems], rfl⟩
  | i :: is, _, h => by
    cases h with
    | cons h1 h2 =>
      obtain ⟨t, rfl⟩ := h1
      obtain ⟨xs, e1, e2⟩ := ints_items h2
      refine ⟨((i, t) :: xs.toList).toArray, ?_, ?_⟩
      · apply Array.toList_inj.mp
        have e1' := congrArg Array.toList e1
        simp [intItems] at e1' ⊢
        exact e1'
      · simp [e2]
theorem call_minL {X : Cx} (hc : X.calm = true) : CallR X (.builtin "min") (fun xs H Q => ∃ a i is, xs = [.ref a] ∧ SqL X.K H a ((i :: is).map V.int) ∧ Q (.int (minI i is)) H) := by
  intro pins s σ H xs us Q I r h
  obtain ⟨a, i, is, rfl, sq, q⟩ := h
  obtain ⟨u, rfl, ru⟩ := vals1 r
  cases ru
  obtain ⟨its, rv, pl, hz⟩ := I.list sq
  obtain ⟨ys, e1, e2⟩ := ints_items rv
  have hsz : 0 < ys.size := by
    have := congrArg List.length e2
    simp at this
    omega
  have hl := pl.isList
  rw [e1] at hl
  refine min_intList (I.ok.hd hc) hl hsz fun v h' tk hv hk => ?_
  obtain ⟨t, rfl⟩ := intItems_at hv
  obtain ⟨h1, h2⟩ := argBest_lt (numAt ys) (ys.size - 1)
  have nm : ∀ j, j < ys.size → numAt ys j ∈ i :: is := fun j hj => by
    rw [← e2]
    unfold numAt
    rw [Array.getElem?_eq_getElem hj]
    simp only [Option.map_some, Option.getD_some]
    exact List.mem_map.mpr ⟨ys[j], by simp, rfl⟩
  have nx : ∀ x ∈ i :: is, ∃ j, j < ys.size ∧ numAt ys j = x := fun x hx => by
    rw [← e2] at hx
    obtain ⟨y, hy, rfl⟩ := List.mem_map.mp hx
    obtain ⟨j, hj, ej⟩ := Array.mem_iff_getElem.mp (Array.mem_toList_iff.mp hy)
    refine ⟨j, hj, ?_⟩
    unfold numAt
    rw [Array.getElem?_eq_getElem hj, ej]
    rfl
  obtain ⟨m1, m2⟩ := minI_spec is i
  have em : numAt ys (argBest (fun i j => decide (numAt ys i < numAt ys j)) (ys.size - 1)) = minI i is := by
    refine Int.le_antisymm ?_ (m2 _ (nm _ (by omega)))
    obtain ⟨j, hj, ej⟩ := nx _ m1
    rw [← ej]
    exact h2 j (by omega)
  rw [em]
  exact ⟨.int (minI i is), H, I.kept hk, ⟨_, rfl⟩, q⟩
theorem intsL_reps {K : PySem.W.Frag} {CL : ClA} {H : Hp} {A : Addr → Prop} : ∀ {es : List D} {is : List Int} {ys : List V}, intsL es = some is → Reps K CL H A ys es → ys = is.map V.int
  | [], _, [], h, _ => by cases h; rfl
  | [], _, _ :: _, _, r => r.elim
  | _ :: _, _, [], _, r => r.elim
  | e :: es, is, y :: ys, h, r => by
    cases e with
    | int i =>
      have h' : (intsL es).map (i :: ·) = some is := h
      cases e2 : intsL es with
      | none => rw [e2] at h'; cases h'
      | some js =>
        rw [e2] at h'
        cases h'
        have ih := intsL_reps e2 r.2
        have e1 : y = .int i := r.1
        rw [ih, e1]
        rfl
    | _ => cases h
theorem min_cases (ds : List D) (hl : ∀ es, ds ≠ [.lst es]) : (∃ i j, ds = [.int i, .int j]) ∨ biD .min ds = .bad := by
  match ds with
  | [.int i, .int j] => exact .inl ⟨i, j, rfl⟩
  | [] => exact .inr rfl
  | [x] => cases x <;> first | exact .inr rfl | exact absurd rfl (hl _)
  | x :: y :: z :: r => cases x <;> cases y <;> exact .inr rfl
  | [x, .non] => cases x <;> exact .inr rfl
  | [x, .bl _] => cases x <;> exact .inr rfl
  | [x, .str _] => cases x <;> exact .inr rfl
  | [x, .tup _] => cases x <;> exact .inr rfl
  | [x, .lst _] => cases x <;> exact .inr rfl
  | [x, .obj _ _] => cases x <;> exact .inr rfl
  | [x, .exc _ _] => cases x <;> exact .inr rfl
  | [x, .dic _] => cases x <;> exact .inr rfl
  | [.non, .int _] => exact .inr rfl
  | [.bl _, .int _] => exact .inr rfl
  | [.str _, .int _] => exact .inr rfl
  | [.tup _, .int _] => exact .inr rfl
  | [.lst _, .int _] => exact .inr rfl
  | [.obj _ _, .int _] => exact .inr rfl
  | [.exc _ _, .int _] => exact .inr rfl
  | [.dic _, .int _] => exact .inr rfl
theorem cd_max (hc : X.calm = true) : CallD X CL W (.builtin "max") (biD .max) := by
  intro A pins s σ H xs us Q I r ⟨hA, ds, rs, p⟩
  rcases max_cases ds with ⟨i, j, rfl⟩ | e
  · obtain ⟨v, w', rfl, rv, rw'⟩ := rs.two
    have e1 := rv.int_of; have e2 := rw'.int_of
    subst e1 e2
    exact call_max2 hc pins s σ H _ us Q I r ⟨i, j, rfl, p _ H (Same.refl H) rfl⟩
  · rw [e] at p; exact p.elim
theorem cd_min (hc : X.calm = true) : CallD X CL W (.builtin "min") (biD .min) := by
  intro A pins s σ H xs us Q I r ⟨hA, ds, rs, p⟩
  by_cases hls : ∃ es, ds = [.lst es]
  · obtain ⟨es, rfl⟩ := hls
    obtain ⟨v, rfl, rv⟩ := rs.one
    obtain ⟨a, ys, rfl, sq, ry⟩ := rv.lst_of
    have p' : Post (Rep X.K CL · A) W H (match intsL es with
      | some (i :: is) => R.ok (.int (minI i is))
      | _ => .bad) Q := p
    cases e1 : intsL es with
    | none => rw [e1] at p'; exact p'.elim
    | some is =>
      cases is with
      | nil => rw [e1] at p'; exact p'.elim
      | cons i is =>
        rw [e1] at p'
        have ey := intsL_reps e1 ry
        subst ey
        exact call_minL hc pins s σ H _ us Q I r ⟨a, i, is, rfl, sq, p' _ H (Same.refl H) rfl⟩
  rcases min_cases ds (fun es z => hls ⟨es, z⟩) with ⟨i, j, rfl⟩ | e
  · obtain ⟨v, w', rfl, rv, rw'⟩ := rs.two
    have e1 := rv.int_of; have e2 := rw'.int_of
    subst e1 e2
    exact call_min2 hc pins s σ H _ us Q I r ⟨i, j, rfl, p _ H (Same.refl H) rfl⟩
  · rw [e] at p; exact p.elim
theorem cd_int : CallD X CL W (.type "int") (biD .int) := by
  intro A pins s σ H xs us Q I r ⟨hA, ds, rs, p⟩
  match ds, rs, p with
  | [.int i], rs, p =>
    obtain ⟨v, rfl, rv⟩ := rs.one
    have e := rv.int_of
    subst e
    exact call_int1 pins s σ H _ us Q I r (.inl ⟨i, rfl, p _ H (Same.refl H) rfl⟩)
  | [.bl i], rs, p =>
    obtain ⟨v, rfl, rv⟩ := rs.one
    have e := rv.bl_of
    subst e
    exact call_int1 pins s σ H _ us Q I r (.inr ⟨i, rfl, p _ H (Same.refl H) rfl⟩)
  | [], _, p => exact p.elim
  | [.non], _, p => exact p.elim
  | [.str _], _, p => exact p.elim
  | [.tup _], _, p => exact p.elim
  | [.lst _], _, p => exact p.elim
  | [.obj _ _], _, p => exact p.elim
  | [.exc _ _], _, p => exact p.elim
  | [.dic _], rs, p => first | exact p.elim | (obtain ⟨v, rfl, rv⟩ := rs.one; exact rv.plain.elim)
  | x :: _ :: _, _, p => cases x <;> exact p.elim
theorem cd_tuple : CallD X CL W (.type "tuple") (biD .tuple) := by
  intro A pins s σ H xs us Q I r ⟨hA, ds, rs, p⟩
  match ds, rs, p with
  | [.lst es], rs, p =>
    obtain ⟨v, rfl, rv⟩ := rs.one
    obtain ⟨q, ys, rfl, sq, ry⟩ := rv.lst_of
    exact call_tuple_of pins s σ H _ us Q I r ⟨q, ys, rfl, .inl ⟨sq, fun l hl => p _ _ (same_new hl _) (new_tup hA hl ry)⟩⟩
  | [.tup es], rs, p =>
    obtain ⟨v, rfl, rv⟩ := rs.one
    obtain ⟨q, ys, rfl, na, sq, ry⟩ := rv.tup_of
    exact call_tuple_of pins s σ H _ us Q I r ⟨q, ys, rfl, .inr ⟨sq, p _ H (Same.refl H) ⟨q, ys, rfl, na, sq, ry⟩⟩⟩
  | [], _, p => exact p.elim
  | [.non], _, p => exact p.elim
  | [.bl _], _, p => exact p.elim
  | [.int _], _, p => exact p.elim
  | [.str _], _, p => exact p.elim
  | [.obj _ _], _, p => exact p.elim
  | [.exc _ _], _, p => exact p.elim
  | [.dic _], rs, p => first | exact p.elim | (obtain ⟨v, rfl, rv⟩ := rs.one; exact rv.plain.elim)
  | x :: _ :: _, _, p => cases x <;> exact p.elim
end
end Ov
end
section
set_option Elab.async false
set_option linter.all false
set_option maxRecDepth 100000
set_option maxHeartbeats 1000000
namespace Ov
open PySem PySem.Spec PyProof.Rows L2
section
variable {X : Cx} {CL : ClA} {W : XW} {a b c : Expr} {fa fb fc : Rho → R D} {pos : Pos}
theorem SB.congr {f g : Rho → R Bool} (h : SB X CL W a f) (e : ∀ ρ, g ρ = f ρ) : SB X CL W a g := fun A => PT.weak (h A) fun σ H Q ⟨hA, ρ, q, p⟩ => ⟨hA, ρ, q, by rw [← e]; exact p⟩
theorem sb_not {f : Rho → R Bool} (ha : SB X CL W a f) : SB X CL W (.UnaryOp .Not a pos) (fun ρ => (f ρ).bind fun b => .ok (!b)) := fun A => PT.weak (pt_not (ha A)) fun σ H Q ⟨hA, ρ, g, p⟩ => ⟨hA, ρ, g, PostB.bindB p fun b H1 _ s1 p1 => p1 H1 (Same.refl H1)⟩
noncomputable def SW (X : Cx) (CL : ClA) (W : XW) (e : Expr) (f : Rho → R Bool) : Prop := ∀ A, PW X e (fun σ H Q => AOk H A ∧ ∃ ρ, Good X.K CL A ρ σ H ∧ PostB W H (f ρ) Q)
theorem PW.weak {X : Cx} {e : Expr} {t t' : TT} (h : PW X e t) (k : ∀ σ H Q, t' σ H Q → t σ H Q) : PW X e t' := fun wh pins s σ H Q I q => h wh pins s σ H Q I (k _ _ _ q)
theorem SW.sb {f : Rho → R Bool} (h : SW X CL W a f) : SB X CL W a f := fun A => PW.pt (h A)
theorem SW.congr {f g : Rho → R Bool} (h : SW X CL W a f) (e : ∀ ρ, g ρ = f ρ) : SW X CL W a g := fun A => PW.weak (h A) fun σ H Q ⟨hA, ρ, q, p⟩ => ⟨hA, ρ, q, by rw [← e]; exact p⟩
theorem sw_and1 {f : Rho → R Bool} (ha : SB X CL W a f) : SW X CL W (.BoolOp .And [a] pos) f := fun A => pw_and1 (ha A)
theorem sw_or1 {f : Rho → R Bool} (ha : SB X CL W a f) : SW X CL W (.BoolOp .Or [a] pos) f := fun A => pw_or1 (ha A)
theorem sw_and {f g : Rho → R Bool} {rest : List Expr} (ha : SB X CL W a f) (hb : SW X CL W (.BoolOp .And (b :: rest) pos) g) : SW X CL W (.BoolOp .And (a :: b :: rest) pos) (fun ρ => (f ρ).bind fun c => if c = true then g ρ else .ok false) :=
  fun A => PW.weak (pw_and (ha A) (hb A)) fun σ H Q ⟨hA, ρ, gd, p⟩ => ⟨hA, ρ, gd, PostB.bindB p fun c H1 _ s1 p1 => by
    cases c with
    | true => exact ⟨hA.same s1, ρ, gd.same s1, p1⟩
    | false => exact p1 H1 (Same.refl H1)⟩
theorem sw_or {f g : Rho → R Bool} {rest : List Expr} (ha : SB X CL W a f) (hb : SW X CL W (.BoolOp .Or (b :: rest) pos) g) : SW X CL W (.BoolOp .Or (a :: b :: rest) pos) (fun ρ => (f ρ).bind fun c => if c = true then .ok true else g ρ) :=
  fun A => PW.weak (pw_or (ha A) (hb A)) fun σ H Q ⟨hA, ρ, gd, p⟩ => ⟨hA, ρ, gd, PostB.bindB p fun c H1 _ s1 p1 => by
    cases c with
    | false => exact ⟨hA.same s1, ρ, gd.same s1, p1⟩
    | true => exact p1 H1 (Same.refl H1)⟩
theorem sb_cmp {op : CmpOp} {g : D → D → R D} (ho : OpD X CL W (compareOp op) g) (ha : ST X CL W a fa) (hb : ST X CL W b fb) (hm : behindInMarks op b = false) : SB X CL W (.Compare a [op] [b] pos) (fun ρ => (fa ρ).bind fun x => (fb ρ).bind fun y => (g x y).bind asBl) :=
  fun A => PT.weak (pt_cmpR (ho A) (ha A) (hb A) hm) fun σ H Q ⟨hA, ρ, gd, p⟩ => ⟨hA, ρ, gd, PostB.bind p fun dx x H1 _ s1 r1 p1 => ⟨hA.same s1, ρ, gd.same s1, PostB.bind p1 fun dy y H2 _ s2 r2 p2 =>
    ⟨(hA.same s1).same s2, dx, dy, r1.same s2, r2, PostB.bind p2 fun dz z H3 _ s3 r3 p3 => by
      cases dz with
      | bl k => exact ⟨k, r3, p3 H3 (Same.refl H3)⟩
      | _ => exact p3.elim⟩⟩⟩
theorem sb_chain {op op' : CmpOp} (hu : X.A.units + 64 < cLine) (ha : ST X CL W a fa) (hb : ST X CL W b fb) (hc : ST X CL W c fc) (hm : lastMarks [op, op'] [b, c] = false) :
    SB X CL W (.Compare a [op, op'] [b, c] pos) (fun ρ => (fa ρ).bind fun x => (fb ρ).bind fun y => (cmpD op x y).bind fun z => (asBl z).bind fun k => if k = true then (fc ρ).bind fun u => (cmpD op' y u).bind asBl else .ok false) :=
  fun A => PT.weak (pt_chain (opd_cmp hu op A) (opd_cmp hu op' A) (ha A) (hb A) (hc A) hm) fun σ H Q ⟨hA, ρ, g, p⟩ => ⟨hA, ρ, g, PostB.bind p fun dx x H1 _ s1 r1 p1 => ⟨hA.same s1, ρ, g.same s1, PostB.bind p1 fun dy y H2 _ s2 r2 p2 =>
    ⟨(hA.same s1).same s2, dx, dy, r1.same s2, r2, PostB.bind p2 fun dz z H3 _ s3 r3 p3 => by
      cases dz with
      | bl k =>
        refine ⟨k, r3, ?_⟩
        cases k with
        | false => exact ⟨false, rfl, p3 H3 (Same.refl H3)⟩
        | true => exact ⟨((hA.same s1).same s2).same s3, ρ, ((g.same s1).same s2).same s3, PostB.bind p3 fun du u H4 _ s4 r4 p5 => ⟨(((hA.same s1).same s2).same s3).same s4, dy, du, (r2.same s3).same s4, r4, PostB.bind p5 fun dv v H5 _ s5 r5 p6 => by
            cases dv with
            | bl k' => exact ⟨k', r5, p6 H5 (Same.refl H5)⟩
            | _ => exact p6.elim⟩⟩
      | _ => exact p3.elim⟩⟩⟩
theorem sb_val (ha : ST X CL W a fa) (he : ∀ whole, isTrue a X.env whole = (do let v ← whole; standAt a.pos; holding [v] (truthy v))) : SB X CL W a (fun ρ => (fa ρ).bind truD) :=
  fun A => PT.weak (pt_truth (ha A) he) fun σ H Q ⟨hA, ρ, g, p⟩ => ⟨hA, ρ, g, PostB.bind p fun d v H1 _ s1 r1 p1 => by
    cases d with
    | non =>
      have e := r1.non_of
      subst e
      exact ⟨false, rfl, p1 H1 (Same.refl H1)⟩
    | bl b =>
      have e := r1.bl_of
      subst e
      exact ⟨b, rfl, p1 H1 (Same.refl H1)⟩
    | int i =>
      have e := r1.int_of
      subst e
      exact ⟨_, rfl, p1 H1 (Same.refl H1)⟩
    | str x =>
      have e := r1.str_of
      subst e
      have p2 : PostB W H1 (if szOk x.length = true then .ok (x.length != 0) else .bad) Q := p1
      split at p2
      · rename_i h
        refine ⟨_, ⟨szOk_line h, rfl⟩, ?_⟩
        have e : ((x.length : Int) != 0) = (x.length != 0) := by
          rw [Bool.eq_iff_iff]; simp
        rw [e]
        exact p2 H1 (Same.refl H1)
      · exact p2.elim
    | tup ds =>
      obtain ⟨q, xs, rfl, _, sq, r⟩ := r1.tup_of
      refine ⟨_, .inr (.inl ⟨xs, sq, rfl⟩), ?_⟩
      have e : xs.isEmpty = ds.isEmpty := by
        have := r.length
        cases xs <;> cases ds <;> first | rfl | cases this
      rw [e]
      exact p1 H1 (Same.refl H1)
    | lst ds =>
      obtain ⟨q, xs, rfl, sq, r⟩ := r1.lst_of
      refine ⟨_, .inl ⟨xs, sq, rfl⟩, ?_⟩
      have e : xs.isEmpty = ds.isEmpty := by
        have := r.length
        cases xs <;> cases ds <;> first | rfl | cases this
      rw [e]
      exact p1 H1 (Same.refl H1)
    | _ => exact p1.elim⟩
noncomputable def XRep (K : PySem.W.Frag) (CL : ClA) (H : Hp) (A : Addr → Prop) (cls : Value) (dx : Option Addr) (x : Ex) : Prop :=
  ∃ C, CL x.c = some C ∧ cls = .ref C ∧ (x.fs = [] ∨ ∃ d vs, dx = some d ∧ ¬ A d ∧ H d = some (.xd vs) ∧ Repf K CL H A vs x.fs)
end
end Ov
end
section
set_option Elab.async false
set_option linter.all false
set_option maxRecDepth 100000
set_option maxHeartbeats 1000000
namespace Ov
open PySem PySem.Spec PyProof.Rows L2
noncomputable def OwnA (B : Addr → Prop) (ρ : Rho) (σ : L2.St) : Addr → Prop := fun a => B a ∨ ∃ (j : Nat) (d : D), ρ[j]? = some (some (d, true)) ∧ σ[j]? = some (some (.ref a))
structure Sx (K : PySem.W.Frag) (CL : ClA) (Fz : Addr → HO → Prop) (B : Addr → Prop) (ρ : Rho) (σ : L2.St) (H : Hp) : Prop where
  good : Good K CL (OwnA B ρ σ) ρ σ H
  aok : AOk H (OwnA B ρ σ)
  new : ∀ (j : Nat) (d : D) (a : Addr), ρ[j]? = some (some (d, true)) → σ[j]? = some (some (.ref a)) → (∀ o, ¬ Fz a o) ∧ ¬ B a
  dis : ∀ (i j : Nat) (d e : D) (a : Addr), ρ[i]? = some (some (d, true)) → ρ[j]? = some (some (e, true)) → σ[i]? = some (some (.ref a)) → σ[j]? = some (some (.ref a)) → i = j
  same : ∀ b o, Fz b o → H b = some o
  len : ρ.length = σ.length
noncomputable def PostSt (K : PySem.W.Frag) (CL : ClA) (Fz : Addr → HO → Prop) (B : Addr → Prop) (W : XW) (o : O) (D : Ends) : Prop := match o with
  | .next ρ => ∀ σ H, Sx K CL Fz B ρ σ H → D.nx σ H
  | .brk ρ => ∀ σ H, Sx K CL Fz B ρ σ H → D.bk σ H
  | .cont ρ => ∀ σ H, Sx K CL Fz B ρ σ H → D.ct σ H
  | .ret d fr => ∀ v H, (∀ b o, Fz b o → H b = some o) → Rep K CL H B v d → (fr = true → ∀ ds, d = .lst ds → ∃ a xs, v = .ref a ∧ (∀ o, ¬ Fz a o) ∧ H a = some (.lst xs) ∧ Reps K CL H (fun b => B b ∨ b = a) xs ds) → D.rt v H
  | .exn x _ => ∀ H, (∀ b o, Fz b o → H b = some o) → W x H
  | .bad => False
section
variable {K : PySem.W.Frag} {CL : ClA} {Fz Fy : Addr → HO → Prop} {B : Addr → Prop} {ρ : Rho} {σ : L2.St} {H H' : Hp}
theorem Sx.mono (k : ∀ b o, Fz b o → Fy b o) (x : Sx K CL Fy B ρ σ H) : Sx K CL Fz B ρ σ H := ⟨x.good, x.aok, fun j d a h1 h2 => ⟨fun o z => (x.new j d a h1 h2).1 o (k _ _ z), (x.new j d a h1 h2).2⟩, x.dis, fun b o z => x.same b o (k _ _ z), x.len⟩
theorem Sx.grow (x : Sx K CL Fz B ρ σ H) (s : Same H H') : Sx K CL Fz B ρ σ H' := ⟨x.good.same s, x.aok.same s, x.new, x.dis, fun b o z => s _ _ (x.same b o z), x.len⟩
theorem get_set_ne {α : Type} {l : List α} {i j : Nat} {v : α} (h : i ≠ j) : (l.set i v)[j]? = l[j]? := by rw [List.getElem?_set_ne h]
theorem get_set_self {α : Type} {l : List α} {i : Nat} {v w' : α} (h : (l.set i v)[i]? = some w') : w' = v := by
  rw [List.getElem?_set_self'] at h
  cases e : l[i]? with
  | none => rw [e] at h; cases h
  | some x => rw [e] at h; cases h; rfl
theorem Sx.set (x : Sx K CL Fz B ρ σ H) {v : V} {d : D} (i : Nat) (r : Rep K CL H (OwnA B ρ σ) v d) : Sx K CL Fz B (ρ.set i (some (d, false))) (σ.set i (some v)) H := by
  have own : ∀ (j : Nat) (e : D), (ρ.set i (some (d, false)))[j]? = some (some (e, true)) → i ≠ j ∧ ρ[j]? = some (some (e, true)) := fun j e h => by
    by_cases hj : i = j
    · subst hj
      have := get_set_self h
      cases this
    · exact ⟨hj, by rw [get_set_ne hj] at h; exact h⟩
  have sub : ∀ a, OwnA B (ρ.set i (some (d, false))) (σ.set i (some v)) a → OwnA B ρ σ a := fun a h => by
    rcases h with h | ⟨j, e, h1, h2⟩
    · exact .inl h
    · obtain ⟨hj, h1⟩ := own j e h1
      rw [get_set_ne hj] at h2
      exact .inr ⟨j, e, h1, h2⟩
  refine ⟨⟨fun j e h => ?_, fun j e h => ?_, by rw [List.length_set, List.length_set]; exact x.len⟩, fun a h => x.aok a (sub a h), fun j e a h1 h2 => ?_, fun j k e f a h1 h2 h3 h4 => ?_, x.same, by rw [List.length_set, List.length_set]; exact x.len⟩
  · by_cases hj : i = j
    · subst hj
      have e1 := get_set_self h
      cases e1
      refine ⟨v, ?_, Rep.sub sub _ r⟩
      have hl : i < σ.length := by
        rw [← x.len]
        have := (List.getElem?_eq_some_iff.mp h).1
        simpa using this
      rw [List.getElem?_set_self hl]
    · rw [get_set_ne hj] at h
      obtain ⟨w', q, rw'⟩ := x.good.sh j e h
      exact ⟨w', by rw [get_set_ne hj]; exact q, Rep.sub sub _ rw'⟩
  · obtain ⟨hj, h1⟩ := own j e h
    obtain ⟨a, xs, ds, q, z, ha, hh, rr⟩ := x.good.ow j e h1
    exact ⟨a, xs, ds, by rw [get_set_ne hj]; exact q, z, .inr ⟨j, e, h, by rw [get_set_ne hj]; exact q⟩, hh, Reps.sub sub _ rr⟩
  · obtain ⟨hj, h1⟩ := own j e h1
    rw [get_set_ne hj] at h2
    exact x.new j e a h1 h2
  · obtain ⟨hj, h1⟩ := own j e h1
    obtain ⟨hk, h2⟩ := own k f h2
    rw [get_set_ne hj] at h3
    rw [get_set_ne hk] at h4
    exact x.dis j k e f a h1 h2 h3 h4
end
section
variable {X : Cx} {CL : ClA} {W : XW} {pos : Pos} {e : Expr} {fe : Rho → R D}
noncomputable def SS (X : Cx) (CL : ClA) (W : XW) (st : Stmt) (f : Rho → O) : Prop := ∀ Fz B, PS X st (fun D σ H => ∃ ρ, Sx X.K CL Fz B ρ σ H ∧ PostSt X.K CL Fz B W (f ρ) D)
noncomputable def SSs (X : Cx) (CL : ClA) (W : XW) (st : List Stmt) (f : Rho → O) : Prop := ∀ Fz B, PSs X st (fun D σ H => ∃ ρ, Sx X.K CL Fz B ρ σ H ∧ PostSt X.K CL Fz B W (f ρ) D)
theorem PS.weak {X : Cx} {e : Stmt} {t t' : TS} (h : PS X e t) (k : ∀ D σ H, t' D σ H → t D σ H) : PS X e t' := fun pins s σ H D I q => h pins s σ H D I (k _ _ _ q)
theorem PSs.weak {X : Cx} {e : List Stmt} {t t' : TS} (h : PSs X e t) (k : ∀ D σ H, t' D σ H → t D σ H) : PSs X e t' := fun pins s σ H D I q => h pins s σ H D I (k _ _ _ q)
theorem PostSt.ex {Fz : Addr → HO → Prop} {B : Addr → Prop} {ρ : Rho} {σ : L2.St} {H : Hp} {r : R D} {f : D → O} {D' : Ends} {Q : VK} {Rp : Hp → V → D → Prop} (x : Sx X.K CL Fz B ρ σ H) (h : PostSt X.K CL Fz B W (O.of ρ r f) D')
    (k : ∀ d v H', r = .ok d → Same H H' → Rp H' v d → Sx X.K CL Fz B ρ σ H' → PostSt X.K CL Fz B W (f d) D' → Q v H') : Post Rp W H r Q := by
  cases r with
  | ok d => exact fun v H' s r => k d v H' rfl s r (x.grow s) h
  | exn y => exact fun H' s => h H' fun b o z => s _ _ (x.same b o z)
  | bad => exact h
theorem PostSt.exB {Fz : Addr → HO → Prop} {B : Addr → Prop} {ρ : Rho} {σ : L2.St} {H : Hp} {r : R Bool} {f : Bool → O} {D' : Ends} {Q : Bool → Hp → Prop} (x : Sx X.K CL Fz B ρ σ H) (h : PostSt X.K CL Fz B W (O.of ρ r f) D')
    (k : ∀ b H', r = .ok b → Same H H' → Sx X.K CL Fz B ρ σ H' → PostSt X.K CL Fz B W (f b) D' → Q b H') : PostB W H r Q := by
  cases r with
  | ok d => exact fun H' s => k d H' rfl s (x.grow s) h
  | exn y => exact fun H' s => h H' fun b o z => s _ _ (x.same b o z)
  | bad => exact h
theorem ss_expr (he : SE X CL W e fe) (hs : swapsWith e none pos.line X.env = pure false) : SS X CL W (.Expr e pos) (fun ρ => O.of ρ (fe ρ) fun _ => .next ρ) := fun Fz B pins s σ H D I ⟨ρ, x, p⟩ =>
  ps_expr (he (OwnA B ρ σ)) hs pins s σ H D I ⟨x.aok, ρ, x.good, PostSt.ex x p fun d v H' _ s r x' q => q σ H' x'⟩
theorem ss_set {i : Nat} {n : Str} {pos' : Pos} (hN : X.N.Nodup) (hi : X.N[i]? = some n) (hx : Loc X.env.scope n) (he : SE X CL W e fe) (hs : swapsWith e (some (.Name n pos')) pos.line X.env = pure false) (hf : X.fn n = true ∨ X.env.scope.names.lookup n = some .local) :
    SS X CL W (.Assign [.Name n pos'] e pos) (fun ρ => O.of ρ (fe ρ) fun d => .next (ρ.set i (some (d, false)))) := fun Fz B pins s σ H D I ⟨ρ, x, p⟩ =>
  ps_set hN hi hx (he (OwnA B ρ σ)) hs hf pins s σ H D I ⟨x.aok, ρ, x.good, PostSt.ex x p fun d v H' _ s r x' q => q _ H' (x'.set i r)⟩
theorem ss_retS (he : SE X CL W e fe) : SS X CL W (.Return (some e) pos) (fun ρ => O.of ρ (fe ρ) fun d => .ret d false) := fun Fz B pins s σ H D I ⟨ρ, x, p⟩ =>
  ps_ret (he (OwnA B ρ σ)) pins s σ H D I ⟨x.aok, ρ, x.good, PostSt.ex x p fun d v H' _ s r x' q => q v H' x'.same (Rep.sub (fun a h => .inl h) _ r) fun z => nomatch z⟩
theorem ss_if {c : Expr} {fc : Rho → R Bool} {a b : List Stmt} {fa fb : Rho → O} (hc : SB X CL W c fc) (ha : SSs X CL W a fa) (hb : SSs X CL W b fb) : SS X CL W (.If c a b pos) (fun ρ => O.of ρ (fc ρ) fun k => if k = true then fa ρ else fb ρ) := fun Fz B pins s σ H D I ⟨ρ, x, p⟩ =>
  ps_if (hc (OwnA B ρ σ)) (ha Fz B) (hb Fz B) pins s σ H D I ⟨x.aok, ρ, x.good, PostSt.exB x p fun k H' _ s x' q => by
    cases k with
    | true => exact ⟨ρ, x', q⟩
    | false => exact ⟨ρ, x', q⟩⟩
theorem sss_nil : SSs X CL W [] (fun ρ => .next ρ) := fun Fz B => PSs.weak pss_nil fun D σ H ⟨ρ, x, p⟩ => p σ H x
theorem sss_cons {st : Stmt} {rest : List Stmt} {f g : Rho → O} (h1 : SS X CL W st f) (h2 : SSs X CL W rest g) : SSs X CL W (st :: rest) (fun ρ => (f ρ).seq g) := fun Fz B => PSs.weak (pss_cons (h1 Fz B) (h2 Fz B)) fun D σ H ⟨ρ, x, p⟩ => ⟨ρ, x, by
  dsimp only at p
  cases e : f ρ with
  | next ρ' => rw [e] at p; exact fun σ' H' x' => ⟨ρ', x', p⟩
  | ret d b => rw [e] at p; exact p
  | brk ρ' => rw [e] at p; exact p
  | cont ρ' => rw [e] at p; exact p
  | exn y ρ' => rw [e] at p; exact p
  | bad => rw [e] at p; exact p⟩
end
end Ov
end
section
set_option Elab.async false
set_option linter.all false
set_option maxRecDepth 100000
set_option maxHeartbeats 1000000
namespace Ov
open PySem PySem.Spec PyProof.Rows L2
noncomputable def Ylds (K : PySem.W.Frag) (CL : ClA) (A : Addr → Prop) (ds : List D) (J : It) (H1 : Hp) : Prop := ∀ H, Kp A H1 H → ∀ i : Nat, (ds.length ≤ i → J.stop i H) ∧ ∀ d, ds[i]? = some d → J.go i H ∧ ∀ x H', J.yld i H x H' → Same H H' ∧ ∀ B, (∀ a, B a → A a ∨ H1 a = none) → AOk H B → Rep K CL H' B x d
noncomputable def PostI (K : PySem.W.Frag) (CL : ClA) (A : Addr → Prop) (W : XW) (H : Hp) (r : R (List D)) (Q : It → Hp → Prop) : Prop := match r with
  | .ok ds => ∀ J H', Same H H' → Ylds K CL A ds J H' → ds.length ≤ sizeLine → Q J H'
  | .exn x => ∀ H', Same H H' → W x H'
  | .bad => False
noncomputable def SI (X : Cx) (CL : ClA) (W : XW) (tg iter : Expr) (f : Rho → R (List D)) : Prop := ∀ A, PI X tg iter (fun σ H R => AOk H A ∧ ∃ ρ, Good X.K CL A ρ σ H ∧ PostI X.K CL A W H (f ρ) R)
theorem PI.weak {X : Cx} {tg e : Expr} {t t' : TI} (h : PI X tg e t) (k : ∀ σ H Q, t' σ H Q → t σ H Q) : PI X tg e t' := fun pins s σ H Q I q => h pins s σ H Q I (k _ _ _ q)
section
variable {X : Cx} {CL : ClA} {W : XW} {pos p : Pos} {tg e a b : Expr} {fe fa fb : Rho → R D}
theorem PostI.ex {A : Addr → Prop} {H : Hp} {r : R D} {f : D → R (List D)} {Q : It → Hp → Prop} {Q' : VK} {Rp : Hp → V → D → Prop} (h : PostI X.K CL A W H (r.bind f) Q) (k : ∀ d v H', r = .ok d → Same H H' → Rp H' v d → PostI X.K CL A W H' (f d) Q → Q' v H') : Post Rp W H r Q' := by
  cases r with
  | ok d => exact fun v H' s q => k d v H' rfl s q (by
      have h' : PostI X.K CL A W H (f d) Q := h
      cases e : f d with
      | ok ds => rw [e] at h'; exact fun J H2 s2 y z => h' J H2 (s.trans s2) y z
      | exn y => rw [e] at h'; exact fun H2 s2 => h' H2 (s.trans s2)
      | bad => rw [e] at h'; exact h')
  | exn y => exact h
  | bad => exact h
theorem rep_later {K : PySem.W.Frag} {A B : Addr → Prop} {H1 H : Hp} {x : V} {d : D} (r : Rep K CL H1 A x d) (k : Kp A H1 H) (hB : ∀ a, B a → A a ∨ H1 a = none) : Rep K CL H B x d := by
  have r1 : Rep K CL H1 (fun a => A a ∨ B a) x d := Rep.wide (fun a ha => ha.elim .inl (hB a)) _ r
  have r2 : Rep K CL H (fun a => A a ∨ B a) x d := Rep.kp (fun b o e na => k b o e fun z => na (.inl z)) _ r1
  exact Rep.sub (fun a ha => .inr ha) _ r2
theorem ylds_list' {K : PySem.W.Frag} {A : Addr → Prop} {H : Hp} {q : Addr} {xs : List V} {ds : List D} (na : ¬ A q ∨ KL K q xs) (s : SqL K H q xs) (r : Reps K CL H A xs ds) : Ylds K CL A ds (Itl K q) H := fun H' k i => by
  have s' := sql_kp k na s
  refine ⟨fun h => ⟨xs, s', by rw [r.length]; exact h⟩, fun d hd => ?_⟩
  obtain ⟨v, hv, rv⟩ := r.get hd
  exact ⟨⟨xs, v, s', hv⟩, fun x H2 ⟨e, y⟩ => by
    subst e
    have := y xs s'
    rw [hv] at this
    cases this
    exact ⟨Same.refl _, fun B hB _ => rep_later rv k hB⟩⟩
theorem ylds_tup {K : PySem.W.Frag} {A : Addr → Prop} {H : Hp} {q : Addr} {xs : List V} {ds : List D} (na : ¬ A q ∨ KT K q xs) (s : SqT K H q xs) (r : Reps K CL H A xs ds) : Ylds K CL A ds (Itt K q) H := fun H' k i => by
  have s' := sqt_kp k na s
  refine ⟨fun h => ⟨xs, s', by rw [r.length]; exact h⟩, fun d hd => ?_⟩
  obtain ⟨v, hv, rv⟩ := r.get hd
  exact ⟨⟨xs, v, s', hv⟩, fun x H2 ⟨e, y⟩ => by
    subst e
    have := y xs s'
    rw [hv] at this
    cases this
    exact ⟨Same.refl _, fun B hB _ => rep_later rv k hB⟩⟩
theorem ylds_rng {K : PySem.W.Frag} {A : Addr → Prop} {H : Hp} (lo : Int) (n : Nat) : Ylds K CL A (rngD lo n) (Itr lo n) H := fun H' k i => by
  refine ⟨fun h => by rw [length_rngD] at h; exact h, fun d hd => ?_⟩
  obtain ⟨h1, rfl⟩ := get_rngD hd
  exact ⟨h1, fun x H2 ⟨e, y⟩ => by
    subst e y
    exact ⟨Same.refl _, fun _ _ _ => rfl⟩⟩
theorem pi_seq {l : Expr} {tl : TE} (hl : PE X l tl) : PI X tg l (fun σ H R => tl σ H fun x H1 => (∃ a, x = .ref a ∧ (∃ xs, SqL X.K H1 a xs ∧ (xs.length ≤ sizeLine → R (Itl X.K a) H1))) ∨ ∃ a, x = .ref a ∧ (∃ xs, SqT X.K H1 a xs ∧ (xs.length ≤ sizeLine → R (Itt X.K a) H1))) := by
  intro pins s σ H R I h
  refine thn (hl pins s σ H _ I h) fun v s1 ⟨x, H1, I1, r1, q1⟩ => ?_
  rcases q1 with ⟨a, e, xs, hq, q⟩ | ⟨a, e, xs, hq, q⟩
  · subst e
    cases r1
    obtain ⟨its, rv, p, hz⟩ := I1.list hq
    refine wpAny_pyIter_list p.isList ?_
    refine ⟨s1.heap.objs.size, [s1.heap.objs.size], _, _, H1, rfl, I1.kept (t' := s1.toks) fun b o e => Heap.get?_push_of_some _ e, turn_list a _, ⟨_, Heap.get?_push_size _ rfl, rfl, rfl⟩, fun b hb => ?_, q hz⟩
    have e : b = s1.heap.objs.size := by simpa using hb
    subst e
    exact I1.fpOk (Nat.le_refl _) (I1.hok.fresh (Nat.le_refl _))
  · subst e
    cases r1
    obtain ⟨its, rv, p, hz⟩ := I1.tuple hq
    refine wpAny_pyIter_tuple (show s1.heap.IsTuple a its.toArray from p) ?_
    refine ⟨s1.heap.objs.size, [s1.heap.objs.size], _, _, H1, rfl, I1.kept (t' := s1.toks) fun b o e => Heap.get?_push_of_some _ e, turn_tuple a _, ⟨_, Heap.get?_push_size _ rfl, rfl, rfl⟩, fun b hb => ?_, q hz⟩
    have e : b = s1.heap.objs.size := by simpa using hb
    subst e
    exact I1.fpOk (Nat.le_refl _) (I1.hok.fresh (Nat.le_refl _))
theorem si_e (he : SE X CL W e fe) : SI X CL W tg e (fun ρ => (fe ρ).bind asSeq) := fun A => PI.weak (pi_seq (he A)) fun σ H R ⟨hA, ρ, g, p⟩ => ⟨hA, ρ, g, PostI.ex p fun d v H1 _ s1 r1 p1 => by
  cases d with
  | lst ds =>
    obtain ⟨q, xs, rfl, na, sq, r⟩ := r1
    exact .inl ⟨q, rfl, xs, sq, fun hz => p1 _ H1 (Same.refl H1) (ylds_list' na sq r) (by rw [← r.length]; exact hz)⟩
  | tup ds =>
    obtain ⟨q, xs, rfl, na, sq, r⟩ := r1
    exact .inr ⟨q, rfl, xs, sq, fun hz => p1 _ H1 (Same.refl H1) (ylds_tup na sq r) (by rw [← r.length]; exact hz)⟩
  | _ => exact p1.elim⟩
theorem rangeD_in {lo hi : Int} {ds : List D} (h : rangeD lo hi = .ok ds) : (-(2 ^ 62) ≤ lo ∧ lo < 2 ^ 62) ∧ (-(2 ^ 62) ≤ hi ∧ hi < 2 ^ 62) ∧ ds = rngD lo (hi - lo).toNat ∧ (rngD lo (hi - lo).toNat).length ≤ sizeLine := by
  unfold rangeD at h
  split at h
  · rename_i q; cases h; exact ⟨by omega, by omega, rfl, by rw [length_rngD, sizeLine_eq]; omega⟩
  · cases h
theorem rangeD_nex {lo hi : Int} {x : Ex} (h : rangeD lo hi = .exn x) : False := by
  unfold rangeD at h
  split at h <;> cases h
theorem si_rng (ha : ST X CL W a fa) (hg : Gl X "range") (hm : X.mg "range" = none) (hs : starEach [a] X.env = [(false, eval a X.env)]) : SI X CL W tg (.Call (.Name "range" p) [a] [] pos) (fun ρ => (fa ρ).bind fun x => (asInt x).bind fun j => rangeD 0 j) :=
  fun A => PI.weak (pi_range1 hg hm (pa_cons (ha A) pa_nil hs) hs) fun σ H R ⟨hA, ρ, g, q⟩ => ⟨hA, ρ, g, PostI.ex q fun d v H1 _ s1 r1 p1 => by
    cases d with
    | int j =>
      have e := r1.int_of
      subst e
      have p2 : PostI X.K CL A W H1 (rangeD 0 j) R := p1
      cases e2 : rangeD 0 j with
      | ok ds =>
        rw [e2] at p2
        obtain ⟨_, h2, rfl, hz⟩ := rangeD_in e2
        exact ⟨j, rfl, h2.1, h2.2, p2 _ H1 (Same.refl H1) (by rw [Int.sub_zero]; exact ylds_rng 0 j.toNat) hz⟩
      | exn y => exact (rangeD_nex e2).elim
      | bad => rw [e2] at p2; exact p2.elim
    | _ => exact p1.elim⟩
theorem si_rng2 (ha : ST X CL W a fa) (hb : ST X CL W b fb) (hg : Gl X "range") (hm : X.mg "range" = none) (hs : starEach [a, b] X.env = [(false, eval a X.env), (false, eval b X.env)]) (hs2 : starEach [b] X.env = [(false, eval b X.env)]) :
    SI X CL W tg (.Call (.Name "range" p) [a, b] [] pos) (fun ρ => (fa ρ).bind fun x => (fb ρ).bind fun y => (asInt x).bind fun i => (asInt y).bind fun j => rangeD i j) :=
  fun A => PI.weak (pi_range2 hg hm (pa_cons (ha A) (pa_cons (hb A) pa_nil hs2) (by rw [hs, hs2])) hs hs2) fun σ H R ⟨hA, ρ, g, q⟩ => ⟨hA, ρ, g, PostI.ex q fun d v H1 _ s1 r1 p1 => ⟨hA.same s1, ρ, g.same s1, PostI.ex p1 fun d2 v2 H2 _ s2 r2 p2 => by
    cases d with
    | int i =>
      cases d2 with
      | int j =>
        have e := r1.int_of; have e' := r2.int_of
        subst e e'
        have p3 : PostI X.K CL A W H2 (rangeD i j) R := p2
        cases e2 : rangeD i j with
        | ok ds =>
          rw [e2] at p3
          obtain ⟨h1, h2, rfl, hz⟩ := rangeD_in e2
          exact ⟨i, j, rfl, ⟨h1.1, h1.2, h2.1, h2.2⟩, p3 _ H2 (Same.refl H2) (ylds_rng _ _) hz⟩
        | exn y => exact (rangeD_nex e2).elim
        | bad => rw [e2] at p3; exact p3.elim
      | _ => exact p2.elim
    | _ => exact p2.elim⟩⟩
theorem PostSt.exI {Fz : Addr → HO → Prop} {B A : Addr → Prop} {ρ : Rho} {σ : L2.St} {H : Hp} {r : R (List D)} {f : List D → O} {D' : Ends} {Q : It → Hp → Prop} (x : Sx X.K CL Fz B ρ σ H) (h : PostSt X.K CL Fz B W (O.of ρ r f) D')
    (k : ∀ ds J H', r = .ok ds → Same H H' → Ylds X.K CL A ds J H' → ds.length ≤ sizeLine → Sx X.K CL Fz B ρ σ H' → PostSt X.K CL Fz B W (f ds) D' → Q J H') : PostI X.K CL A W H r Q := by
  cases r with
  | ok d => exact fun J H' s y z => k d J H' rfl s y z (x.grow s) h
  | exn y => exact fun H' s => h H' fun b o z => s _ _ (x.same b o z)
  | bad => exact h
theorem PostSt.turn {K : PySem.W.Frag} {Fz Fy : Addr → HO → Prop} {B : Addr → Prop} {o : O} {g : Rho → O} {D' : Ends} {N : L2.St → Hp → Prop} (hf : ∀ b q, Fz b q → Fy b q) (h : PostSt K CL Fz B W (o.turn g) D') (k : ∀ ρ' σ' H', Sx K CL Fy B ρ' σ' H' → PostSt K CL Fz B W (g ρ') D' → N σ' H') :
    PostSt K CL Fy B W o { D' with nx := N, ct := N, bk := D'.nx } := by
  cases o with
  | next ρ' => exact fun σ' H' x => k ρ' σ' H' x h
  | cont ρ' => exact fun σ' H' x => k ρ' σ' H' x h
  | brk ρ' => exact fun σ' H' x => h σ' H' (x.mono hf)
  | ret d b => exact fun v H' s r n => h v H' (fun b o z => s b o (hf b o z)) r fun z ds e => let ⟨a, xs, h1, h2, h3⟩ := n z ds e; ⟨a, xs, h1, fun o q => h2 o (hf a o q), h3⟩
  | exn y ρ' => exact fun H' s => h H' (fun b o z => s b o (hf b o z))
  | bad => exact h
noncomputable def hideR (ts : List Nat) (ρ : Rho) : Rho := ts.foldl (fun ρ t => ρ.set t none) ρ
noncomputable def GT (K : PySem.W.Frag) (CL : ClA) (as : D → Rho → R Rho) (g : TG) : Prop := ∀ Fz B ρ σ H v d ρ' Q, Sx K CL Fz B ρ σ H → Rep K CL H (OwnA B ρ σ) v d → as d ρ = .ok ρ' → (∀ σ', Sx K CL Fz B ρ' σ' H → Q σ' H) → g v σ H Q
theorem gt_name {K : PySem.W.Frag} (i : Nat) : GT K CL (fun d ρ => .ok (ρ.set i (some (d, false)))) (gName i) := fun Fz B ρ σ H v d ρ' Q x r e k => by
  cases e
  exact k _ (x.set i r)
theorem gs_all {K : PySem.W.Frag} {Fz : Addr → HO → Prop} {B : Addr → Prop} {H : Hp} : ∀ (ts : List Nat) (ds : List D) (vs : List V) (ρ ρ' : Rho) (σ : L2.St) (Q : L2.St → Hp → Prop), Sx K CL Fz B ρ σ H → Reps K CL H (OwnA B ρ σ) vs ds → setAll ts ds ρ = some ρ' → (∀ σ', Sx K CL Fz B ρ' σ' H → Q σ' H) → (ts.foldr (fun t u => gCons (gName t) u) gNil) vs σ H Q
  | [], [], [], ρ, ρ', σ, Q, x, _, e, k => by
    cases e
    exact ⟨rfl, k σ x⟩
  | t :: ts, d :: ds, v :: vs, ρ, ρ', σ, Q, x, r, e, k => by
    refine ⟨v, vs, rfl, gs_all ts ds vs _ ρ' _ Q (x.set t r.1) (Reps.sub (fun a ha => ?_) ds r.2) e k⟩
    rcases ha with ha | ⟨j, c, h1, h2⟩
    · exact .inl ha
    · by_cases hj : t = j
      · subst hj
        have := get_set_self h1
        cases this
      · rw [get_set_ne hj] at h1 h2
        exact .inr ⟨j, c, h1, h2⟩
  | [], _ :: _, _, _, _, _, _, _, _, e, _ => by cases e
  | _ :: _, [], _, _, _, _, _, _, _, e, _ => by cases e
  | [], [], _ :: _, _, _, _, _, _, r, _, _ => r.elim
  | _ :: _, _ :: _, [], _, _, _, _, _, r, _, _ => r.elim
theorem setAll_len : ∀ (ts : List Nat) (ds : List D) (ρ ρ' : Rho), setAll ts ds ρ = some ρ' → ds.length = ts.length
  | [], [], _, _, _ => rfl
  | _ :: ts, _ :: ds, _, _, e => congrArg (· + 1) (setAll_len ts ds _ _ e)
  | [], _ :: _, _, _, e => by cases e
  | _ :: _, [], _, _, e => by cases e
theorem gt_tup {K : PySem.W.Frag} (ts : List Nat) : GT K CL (asgAll ts) (gTup K ts.length (ts.foldr (fun t u => gCons (gName t) u) gNil)) := fun Fz B ρ σ H v d ρ' Q x r e k => by
  cases d with
  | tup ds =>
    obtain ⟨a, xs, rfl, na, sq, rs⟩ := r
    rw [asgAll_tup] at e
    cases e2 : setAll ts ds ρ with
    | none => rw [e2] at e; cases e
    | some ρ2 =>
      rw [e2] at e
      cases e
      exact ⟨a, xs, rfl, sq, by rw [rs.length]; exact setAll_len _ _ _ _ e2, gs_all ts ds xs ρ _ σ Q x rs e2 k⟩
  | _ => cases e
theorem ss_for {tg iter : Expr} {body : List Stmt} {fi : Rho → R (List D)} {fbd : Rho → O} {as : D → Rho → R Rho} {g : TG} (hp : PassesOwn (model X.prog X.w) X.A X.env X.xe) (hc : X.calm = true) (hGT : GT X.K CL as g) (hg : PG X tg g)
    (hit : SI X CL W tg iter fi) (hb : SSs X CL W body fbd) (hs : ∀ x, foldedSetIterable iter X.env x = pure x) (hax : ∀ d ρ x, as d ρ ≠ .exn x) :
    SS X CL W (.For tg iter body [] pos) (fun ρ => O.of ρ (fi ρ) fun xs => forD (fun x ρ' => O.of ρ' (as x ρ') fbd) xs ρ) := fun Fz B pins s σ H D I ⟨ρ, x, p⟩ => by
  refine ps_for hp hc (hit (OwnA B ρ σ)) hg (tb := fun D σ H => ∃ Fy, (fun D σ H => ∃ ρ, Sx X.K CL Fy B ρ σ H ∧ PostSt X.K CL Fy B W (fbd ρ) D) D σ H) (fun pins s σ H D I ⟨Fy, q⟩ => hb Fy B pins s σ H D I q) hs pins s σ H D I ⟨x.aok, ρ, x.good, PostSt.exI x p fun ds J H1 _ s1 y _ x1 q => ?_⟩
  let Fy : Addr → HO → Prop := fun b o => H1 b = some o ∧ ¬ ∃ (j : Nat) (d : Ov.D), ρ[j]? = some (some (d, true)) ∧ σ[j]? = some (some (.ref b))
  have hfy : ∀ b o, Fz b o → Fy b o := fun b o z => ⟨x1.same b o z, fun ⟨j, d, h1, h2⟩ => (x1.new j d b h1 h2).1 o z⟩
  have xy : Sx X.K CL Fy B ρ σ H1 := ⟨x1.good, x1.aok, fun j d a h1 h2 => ⟨fun o z => z.2 ⟨j, d, h1, h2⟩, (x1.new j d a h1 h2).2⟩, x1.dis, fun b o z => z.1, x1.len⟩
  refine ⟨fun k m σ' H' => m = ds.length - k ∧ k ≤ ds.length ∧ ∃ ρ', Sx X.K CL Fy B ρ' σ' H' ∧ PostSt X.K CL Fz B W (forD (fun x ρ' => O.of ρ' (as x ρ') fbd) (ds.drop k) ρ') D, ⟨ds.length, by simp, Nat.zero_le _, ρ, xy, q⟩, ?_⟩
  rintro k m σ' H' ⟨rfl, hk, ρ', x', q'⟩
  have kp : Kp (OwnA B ρ σ) H1 H' := fun b o e na => x'.same b o ⟨e, fun z => na (.inr z)⟩
  obtain ⟨yst, ygo⟩ := y H' kp k
  by_cases hlt : k < ds.length
  · have hd : ds[k]? = some ds[k] := List.getElem?_eq_getElem hlt
    obtain ⟨hgo, hyl⟩ := ygo _ hd
    refine .inr ⟨hgo, fun σ'' H'' => ∃ ρ'', Sx X.K CL Fy B ρ'' σ'' H'' ∧ PostSt X.K CL Fz B W (forD (fun x ρ' => O.of ρ' (as x ρ') fbd) (ds.drop (k + 1)) ρ'') D, fun σ'' H'' z => ⟨ds.length - (k + 1), by omega, rfl, hlt, z⟩, fun v H2 hv => ?_⟩
    obtain ⟨e2, rv⟩ := hyl v H2 hv
    rw [List.drop_eq_getElem_cons hlt] at q'
    have q2 : PostSt X.K CL Fz B W ((O.of ρ' (as ds[k] ρ') fbd).turn (forD (fun x ρ' => O.of ρ' (as x ρ') fbd) (ds.drop (k + 1)))) D := q'
    have rv' : Rep X.K CL H2 (OwnA B ρ' σ') v ds[k] := rv _ (fun a ha => by
        rcases ha with ha | ⟨j, d, h1, h2⟩
        · exact .inl (.inl ha)
        · cases e : H1 a with
          | none => exact .inr rfl
          | some o =>
            by_cases ho : ∃ (j : Nat) (d : Ov.D), ρ[j]? = some (some (d, true)) ∧ σ[j]? = some (some (.ref a))
            · exact .inl (.inr ho)
            · exact absurd ⟨e, ho⟩ ((x'.new j d a h1 h2).1 o)) x'.aok
    cases ea : as ds[k] ρ' with
    | bad => rw [ea] at q2; exact q2.elim
    | exn z => exact absurd ea (hax _ _ z)
    | ok ρ2 =>
      rw [ea, O.of_ok] at q2
      exact hGT Fy B ρ' σ' H2 v ds[k] ρ2 _ (x'.grow e2) rv' ea fun σ3 x3 => ⟨Fy, ρ2, x3, PostSt.turn hfy q2 fun ρ3 σ3 H3 x3 q3 => ⟨ρ3, x3, q3⟩⟩
  · have hk' : ds.length ≤ k := by omega
    rw [List.drop_eq_nil_of_le hk'] at q'
    exact .inl ⟨yst hk', q' σ' H' (x'.mono hfy)⟩
end
end Ov
end
section
set_option Elab.async false
set_option linter.all false
set_option maxRecDepth 100000
set_option maxHeartbeats 1000000
namespace Ov
open PySem PySem.Spec PyProof.Rows L2
section
variable {X : Cx} {CL : ClA} {W : XW} {a b c : Expr} {fa fb fc : Rho → R D} {pos : Pos}
noncomputable def tyK : Ki → Option String
  | .int => some "int"
  | .bool => some "bool"
  | .str => some "str"
  | .list => some "list"
  | .tuple => some "tuple"
  | _ => none
noncomputable def plainD : D → Bool
  | .obj _ _ => false
  | .exc _ _ => false
  | .dic _ => false
  | _ => true
theorem isi_ok {pins : List (Addr × Obj)} {σ : L2.St} {H : Hp} {s : Shared} {A : Addr → Prop} {v : V} {u : Value} {d : D} {k : Ki} {T : String} {up : Nat → List Nat} {Q : Value → Shared → Prop} {E : Value → Shared → Prop}
    (I : Inv X pins σ H s) (r : RepT X.K CL H A v d) (q : RelV v u) (hT : tyK k = some T) (hd : plainD d = true) (h : ∀ s', Inv X pins σ H s' → Q (.bool (kiD up k d)) s') :
    wpAny (model X.prog X.w) X.A (call (.builtin "isinstance") [u, .type T]) Q E s := by
  have r' := r.plain
  have it := fun t => h _ (I.tok t)
  cases d with
  | obj => cases hd
  | exc => cases hd
  | dic => cases hd
  | non =>
    cases r'
    cases q
    cases k <;> simp only [tyK] at hT <;> cases hT
    · exact IsiPair.NoneType_int (it _)
    · exact IsiPair.NoneType_bool (it _)
    · exact IsiPair.NoneType_str (it _)
    · exact IsiPair.NoneType_list (it _)
    · exact IsiPair.NoneType_tuple (it _)
  | bl b =>
    cases r'
    cases q
    cases k <;> simp only [tyK] at hT <;> cases hT
    · exact IsiPair.bool_int (h _ I)
    · exact IsiPair.bool_bool (h _ I)
    · exact IsiPair.bool_str (it _)
    · exact IsiPair.bool_list (it _)
    · exact IsiPair.bool_tuple (it _)
  | int i =>
    cases r'
    obtain ⟨t, rfl⟩ := q
    cases k <;> simp only [tyK] at hT <;> cases hT
    · exact IsiPair.int_int (h _ I)
    · exact IsiPair.int_bool (it _)
    · exact IsiPair.int_str (it _)
    · exact IsiPair.int_list (it _)
    · exact IsiPair.int_tuple (it _)
  | str x =>
    cases r'
    obtain ⟨t, rfl⟩ := q
    cases k <;> simp only [tyK] at hT <;> cases hT
    · exact IsiPair.str_int (it _)
    · exact IsiPair.str_bool (it _)
    · exact IsiPair.str_str (h _ I)
    · exact IsiPair.str_list (it _)
    · exact IsiPair.str_tuple (it _)
  | tup ds =>
    obtain ⟨p, xs, rfl, _, sq, rr⟩ := r'
    obtain ⟨its, rv, pt, _⟩ := I.tuple sq
    cases q
    have pt' : s.heap.IsTuple p its.toArray := pt
    cases k <;> simp only [tyK] at hT <;> cases hT
    · exact IsiPair.isTuple_int pt' (fun _ _ e => e) (it _)
    · exact IsiPair.isTuple_bool pt' (fun _ _ e => e) (it _)
    · exact IsiPair.isTuple_str pt' (fun _ _ e => e) (it _)
    · exact IsiPair.isTuple_list pt' (fun _ _ e => e) (it _)
    · exact IsiPair.isTuple_tuple pt' (fun _ _ e => e) (h _ I)
  | lst ds =>
    obtain ⟨p, xs, rfl, _, sq, rr⟩ := r'
    obtain ⟨its, rv, pl, _⟩ := I.list sq
    cases q
    have pt' : s.heap.IsList p its.toArray := isL_of pl
    cases k <;> simp only [tyK] at hT <;> cases hT
    · exact IsiPair.isList_int pt' (fun _ _ e => e) (it _)
    · exact IsiPair.isList_bool pt' (fun _ _ e => e) (it _)
    · exact IsiPair.isList_str pt' (fun _ _ e => e) (it _)
    · exact IsiPair.isList_list pt' (fun _ _ e => e) (h _ I)
    · exact IsiPair.isList_tuple pt' (fun _ _ e => e) (it _)
theorem isi_plain {up : Nat → List Nat} {k : Ki} {T : String} {d : D} {Rp : Hp → V → D → Prop} {H : Hp} {Q : VK} (hT : tyK k = some T) (p : Post Rp W H (isiD up [k] d) Q) : plainD d = true ∧ Post Rp W H (.ok (.bl (kiD up k d))) Q := by
  cases k <;> simp only [tyK] at hT <;> cases hT <;> cases d <;> first | exact p.elim | exact ⟨rfl, by simpa using p⟩
theorem se_isi {k : Ki} {T : String} {x : Str} {up : Nat → List Nat} {p p2 : Pos} (hT : tyK k = some T) (hg : Gl X "isinstance") (hm : X.mg "isinstance" = none) (hg2 : Gl X x) (hm2 : X.mg x = none) (hv : bootBuiltins x = some (.type T)) (hn : x ≠ "__name__") (hdb : (x == ("__debug__" : Str)) = false)
    (ha : ST X CL W a fa) (he : starEach [a, .Name x p2] X.env = (false, eval a X.env) :: starEach [.Name x p2] X.env) : SE X CL W (.Call (.Name "isinstance" p) [a, .Name x p2] [] pos) (fun ρ => (fa ρ).bind fun x => isiD up [k] x) := fun A =>
  PE.weak (pe_callB (r := fun xs H Q => ∃ y d, xs = [y, .ty T] ∧ RepT X.K CL H A y d ∧ plainD d = true ∧ Q (.bl (kiD up k d)) H) (fun pins s σ H xs us Q I r ⟨y, d, e, ry, hd, q⟩ => by
      subst e
      obtain ⟨u, w', rfl, r1, r2⟩ := vals2 r
      cases r2
      exact isi_ok I ry r1 hT hd fun s' I' => ⟨.bl _, H, I', rfl, q⟩)
    hg hm boot_isinstance (pa_cons (ha A) (pa_cons (pe_bltn (v := .ty T) hg2 hm2 hv rfl hn hdb) pa_nil rfl) he) (by decide) (by decide) he rfl) fun σ H Q ⟨hA, ρ, g, q⟩ => ⟨hA, ρ, g, Post.bind q fun d v H1 _ s1 r1 p1 => by
      obtain ⟨hd, p2⟩ := isi_plain hT p1
      exact ⟨v, d, rfl, r1, hd, p2 _ H1 (Same.refl H1) rfl⟩⟩
theorem truA_of {H : Hp} {A : Addr → Prop} {v : V} {u : Value} {d : D} {b : Bool} {A' : Around} {E : Value → Shared → Prop} {Q : Bool → Shared → Prop} {s : Shared} {prog : Program} {w : World} (r : Rep X.K CL H A v d) (q : RelV v u) (h : truA d = .ok b) (hq : Q b s) : wpAny (model prog w) A' (truthy u) Q E s := by
  cases d with
  | non =>
    cases r; cases q; cases h
    exact truthy_none hq
  | bl k =>
    cases r; cases q; cases h
    exact wpAny_truthy_bool hq
  | int i =>
    cases r
    obtain ⟨t, rfl⟩ := q
    cases h
    exact truthy_int hq
  | _ => cases h
theorem allBl_range : ∀ {ds : List D} {b : Bool}, allBl ds = .ok b → (∀ j, j < ds.length → ∃ c, truA (ds.getD j .non) = .ok c) ∧ b = (List.range ds.length).all fun j => match truA (ds.getD j .non) with
    | .ok c => c
    | _ => false
  | [], b, h => by cases h; exact ⟨fun j hj => absurd hj (Nat.not_lt_zero _), rfl⟩
  | d :: ds, b, h => by
    rw [allBl_cons] at h
    cases e : truA d with
    | bad => rw [e] at h; cases h
    | exn x => rw [e] at h; cases h
    | ok c =>
      rw [e, R.bind_ok] at h
      cases e2 : allBl ds with
      | bad => rw [e2] at h; cases h
      | exn x => rw [e2] at h; cases h
      | ok c2 =>
        rw [e2, R.bind_ok] at h
        cases h
        obtain ⟨h1, h2⟩ := allBl_range e2
        refine ⟨fun j hj => ?_, ?_⟩
        · cases j with
          | zero => exact ⟨c, e⟩
          | succ j => exact h1 j (by simpa using hj)
        · rw [List.length_cons, range_all_succ, h2]
          show (c && _) = ((match truA d with | .ok c => c | _ => false) && _)
          rw [e]
          rfl
theorem at_item {H : Hp} {xs : List V} {ds : List D} {its : List Value} (r : Reps X.K CL H A0 xs ds) (rv : Vals xs its) {j : Nat} {v : Value} (h : its.toArray[j]? = some v) : j < ds.length ∧ ∃ x, Rep X.K CL H A0 x (ds.getD j .non) ∧ RelV x v := by
  have h' : its[j]? = some v := by simpa using h
  obtain ⟨hj, e⟩ := List.getElem?_eq_some_iff.mp h'
  obtain ⟨x, rx, q⟩ := at_rep r rv hj
  have l1 := rv.length; have l2 := r.length
  exact ⟨by omega, x, rx, by rw [← e]; exact q⟩
theorem keptB {h h' : Heap} {o : Obj} (k : ∀ b q, b ∉ [h.objs.size] → (h.push o).get? b = some q → h'.get? b = some q) : ∀ b q, h.get? b = some q → h'.get? b = some q := fun b q e => k b q (by
  intro z
  have := List.mem_singleton.mp z
  rw [this] at e
  exact absurd (Heap.lt_size e) (Nat.lt_irrefl _)) (Heap.get?_push_of_some _ e)
theorem cd_all (hc : X.calm = true) : CallD X CL W (.builtin "all") (biD .all) := by
  intro A pins s σ H xs us Q I r ⟨hA, ds, rs, p⟩
  match ds, rs, p with
  | [.lst es], rs, p =>
    obtain ⟨v, rfl, rv⟩ := rs.one
    obtain ⟨q, ys, e, _, sq, ry⟩ := rv.plain
    subst e
    obtain ⟨u, rfl, ru⟩ := vals1 r
    cases ru
    rw [all_l] at p
    cases e1 : allBl es with
    | bad => rw [e1] at p; exact p.elim
    | exn x =>
      exfalso
      have : ∀ (es : List D) x, allBl es ≠ .exn x := by
        intro es
        induction es with
        | nil => intro x h; cases h
        | cons d ds ih =>
          intro x h
          rw [allBl_cons] at h
          cases e : truA d with
          | bad => rw [e] at h; cases h
          | exn y => cases d <;> cases e
          | ok c =>
            rw [e, R.bind_ok] at h
            cases e2 : allBl ds with
            | bad => rw [e2] at h; cases h
            | exn y => exact ih y e2
            | ok c2 => rw [e2] at h; cases h
      exact this es x e1
    | ok b =>
      rw [e1, R.bind_ok] at p
      obtain ⟨h1, h2⟩ := allBl_range e1
      obtain ⟨its, rvv, pl, _⟩ := I.list sq
      have hlt : q < s.heap.objs.size := by obtain ⟨o, n, e, _⟩ := pl; exact Heap.lt_size e
      have hl : its.toArray.size = es.length := by rw [List.size_toArray, ← rvv.length, ry.length]
      refine call_all_walk (wpAny_pyIter_list (isL_of pl) ⟨s.heap.objs.size, _, _, _, _, _, (fun j => match truA (es.getD j .non) with | .ok c => c | _ => false), rfl, Walks.list (A := X.A.in1) (I.ok.hd hc) s.heap.objs.size q (Nat.ne_of_lt hlt) its.toArray, ⟨⟨_, Heap.get?_push_size _ rfl, rfl, rfl⟩, (isL_of pl).push _⟩, fun j v s' Q' E' hv hQ => ?_, fun h' tk k => ?_⟩)
      · obtain ⟨hj, x, rx, qx⟩ := at_item ry rvv hv
        obtain ⟨c, ec⟩ := h1 j hj
        exact truA_of rx qx ec (by dsimp only at hQ; rw [ec] at hQ; exact hQ)
      · rw [hl, ← h2]
        exact ⟨.bl b, H, I.kept (keptB k), rfl, p _ H (Same.refl H) rfl⟩
  | [], _, p => exact p.elim
  | [.non], _, p => exact p.elim
  | [.bl _], _, p => exact p.elim
  | [.int _], _, p => exact p.elim
  | [.str _], _, p => exact p.elim
  | [.tup _], _, p => exact p.elim
  | [.obj _ _], _, p => exact p.elim
  | [.exc _ _], _, p => exact p.elim
  | [.dic _], _, p => exact p.elim
  | x :: _ :: _, _, p => cases x <;> exact p.elim
end
end Ov
end
section
set_option Elab.async false
set_option linter.all false
set_option maxRecDepth 100000
set_option maxHeartbeats 1000000
namespace Ov
open PySem PySem.Spec PyProof.Rows L2
section
variable (K : PySem.W.Frag) (CL : ClA)
noncomputable def Fresh (H0 : Hp) (A : Addr → Prop) (H : Hp) (v : V) (d : D) : Prop := ∀ ds, d = .lst ds → ∃ a xs, v = .ref a ∧ H0 a = none ∧ H a = some (.lst xs) ∧ Reps K CL H (fun b => A b ∨ b = a) xs ds
noncomputable def RepC (fr : Bool) (H0 : Hp) (A : Addr → Prop) (H : Hp) (v : V) (d : D) : Prop := Rep K CL H A v d ∧ (fr = true → Fresh K CL H0 A H v d)
end
section
variable {X : Cx} {CL : ClA} {W : XW} {a b c : Expr} {fa fb fc : Rho → R D} {pos : Pos}
noncomputable def SC (X : Cx) (CL : ClA) (W : XW) (fr : Bool) (e : Expr) (f : Rho → R D) : Prop := ∀ A, PE X e (fun σ H Q => AOk H A ∧ ∃ ρ, Good X.K CL A ρ σ H ∧ Post (RepC X.K CL fr H A) W H (f ρ) Q)
theorem SC.se {fr : Bool} (h : SC X CL W fr a fa) : SE X CL W a fa := fun A => PE.weak (h A) fun σ H Q ⟨hA, ρ, g, p⟩ => ⟨hA, ρ, g, by
  cases e : fa ρ with
  | ok d => rw [e] at p; exact fun v H' s r => p v H' s r.1
  | exn x => rw [e] at p; exact p
  | bad => rw [e] at p; exact p⟩
theorem SE.sc (h : SE X CL W a fa) : SC X CL W false a fa := fun A => PE.weak (h A) fun σ H Q ⟨hA, ρ, g, p⟩ => ⟨hA, ρ, g, by
  cases e : fa ρ with
  | ok d => rw [e] at p; exact fun v H' s r => p v H' s ⟨r, fun z => nomatch z⟩
  | exn x => rw [e] at p; exact p
  | bad => rw [e] at p; exact p⟩
theorem SC.congr {fr : Bool} {f g : Rho → R D} (h : SC X CL W fr a f) (e : ∀ ρ, g ρ = f ρ) : SC X CL W fr a g := fun A => PE.weak (h A) fun σ H Q ⟨hA, ρ, q, p⟩ => ⟨hA, ρ, q, by rw [← e]; exact p⟩
theorem repC_new {K : PySem.W.Frag} {H0 H : Hp} {A : Addr → Prop} {p : Addr} {xs : List V} {ds : List D} (s : Same H0 H) (hA : AOk H A) (hp : H p = none) (r : Reps K CL H A xs ds) : RepC K CL true H0 A (upd H p (.lst xs)) (.ref p) (.lst ds) :=
  ⟨new_lst hA hp r, fun _ ds' e => by
    cases e
    exact ⟨p, xs, rfl, s.free hp, upd_same, (Reps.wide (fun a ha => ha.imp id fun e => by rw [e]; exact hp) _ r).same (same_new hp _)⟩⟩
theorem repC_no {K : PySem.W.Frag} {H0 H : Hp} {A : Addr → Prop} {v : V} {d : D} {fr : Bool} (r : Rep K CL H A v d) (h : ∀ ds, d ≠ .lst ds) : RepC K CL fr H0 A H v d := ⟨r, fun _ ds e => absurd e (h ds)⟩
theorem sn_lst {es : List Expr} {fs : Rho → R (List D)} (hs : SA X CL W es fs) (hz : ∀ ρ ds, fs ρ = .ok ds → ds.length ≤ 100000) : SC X CL W true (.List es pos) (fun ρ => (fs ρ).bind fun xs => .ok (.lst xs)) :=
  fun A => PE.weak (pe_lst (hs A)) fun σ H Q ⟨hA, ρ, g, p⟩ => ⟨hA, ρ, g, PostS.bind p fun ds vs H1 e s1 r1 p1 => ⟨by
    rw [r1.length, sizeLine_eq]; have := hz ρ ds e; omega, fun q hq => p1 _ _ (same_new hq _) (repC_new s1 (hA.same s1) hq r1)⟩⟩
theorem Post.bindF {Rp : Hp → V → D → Prop} {fr : Bool} {K : PySem.W.Frag} {A : Addr → Prop} {W : XW} {H : Hp} {r : R D} {f : D → R D} {Q Q' : VK} (h : Post (RepC K CL fr H A) W H (r.bind f) Q) (k : ∀ d v H', r = .ok d → Same H H' → Rp H' v d → Post (RepC K CL fr H A) W H' (f d) Q → Q' v H') : Post Rp W H r Q' := by
  cases r with
  | ok d => exact fun v H2 s2 q => k d v H2 rfl s2 q (Post.same s2 h)
  | exn x => exact h
  | bad => exact h
theorem PostS.bindF {Rp : Hp → List V → List D → Prop} {Rq : Hp → V → D → Prop} {W : XW} {H : Hp} {r : R (List D)} {f : List D → R D} {Q : VK} {Q' : List V → Hp → Prop} (h : Post Rq W H (r.bind f) Q) (k : ∀ d v H', r = .ok d → Same H H' → Rp H' v d → Post Rq W H' (f d) Q → Q' v H') : PostS Rp W H r Q' := by
  cases r with
  | ok d => exact fun v H2 s2 q => k d v H2 rfl s2 q (Post.same s2 h)
  | exn x => exact h
  | bad => exact h
theorem PostO.bindF {Rq : Hp → V → D → Prop} {W : XW} {H : Hp} {r : R (Option Int)} {f : Option Int → R D} {Q : VK} {Q' : Option Int → Hp → Prop} (h : Post Rq W H (r.bind f) Q) (k : ∀ o H', r = .ok o → Same H H' → Post Rq W H' (f o) Q → Q' o H') : PostO W H r Q' := by
  cases r with
  | ok d => exact fun H2 s2 => k d H2 rfl s2 (Post.same s2 h)
  | exn x => exact h
  | bad => exact h
theorem sn_sl {lo hi : Option Expr} {fl fh : Rho → R (Option Int)} {p2 : Pos} (ha : ST X CL W a fa) (hl : SO X CL W lo fl) (hh : SO X CL W hi fh) : SC X CL W true (.Subscript a (.Slice lo hi none p2) pos) (fun ρ => (fa ρ).bind fun x => (fl ρ).bind fun l => (fh ρ).bind fun h => slD x l h) :=
  fun A => PE.weak (pe_slice (r := fun x l h H Q => rSlL X.K x l h H Q ∨ rSlT X.K x l h H Q) (fun pins s σ H x v vl vu lo hi sl Q I rx hs pl pu h => h.elim (sl_list pins s σ H x v vl vu lo hi sl Q I rx hs pl pu) (sl_tup pins s σ H x v vl vu lo hi sl Q I rx hs pl pu)) (ha A) (hl A) (hh A)) fun σ H Q ⟨hA, ρ, g, p⟩ => ⟨hA, ρ, g, Post.bindF p fun dx x H1 _ s1 r1 p1 => ⟨hA.same s1, ρ, g.same s1, PostO.bindF p1 fun l H2 _ s2 p2 => ⟨(hA.same s1).same s2, ρ, (g.same s1).same s2, PostO.bindF p2 fun h H3 _ s3 p3 => by
    cases dx with
    | lst ds =>
      obtain ⟨q, xs, rfl, sq, r⟩ := ((r1.same s2).same s3).lst_of
      exact .inl ⟨q, xs, rfl, sq, fun t ht => p3 _ _ (same_new ht _) (repC_new ((s1.trans s2).trans s3) (((hA.same s1).same s2).same s3) ht (cut_rep l h r))⟩
    | tup ds =>
      obtain ⟨q, xs, rfl, _, sq, r⟩ := ((r1.same s2).same s3).tup_of
      rw [sl_t] at p3
      split at p3
      · exact p3.elim
      · rename_i hw
        refine .inr ⟨q, xs, rfl, sq, ?_, fun t ht => p3 _ _ (same_new ht _) (repC_no (new_tup (((hA.same s1).same s2).same s3) ht (cut_rep l h r)) (by intro _ z; cases z))⟩
        rintro ⟨h1, h2⟩
        refine hw ?_
        have e : ∀ d o, HT.sIx xs.length d o = sIxD ds.length d o := fun d o => by rw [r.length]; cases o <;> rfl
        rw [e] at h1 h2
        rw [r.length] at h2
        simp [h1, h2]
    | _ => exact p3.elim⟩⟩⟩
noncomputable def OpN (X : Cx) (CL : ClA) (W : XW) (f : Value → Value → Sem Value) (g : D → D → R D) : Prop :=
  ∀ A H0, OpR X f (fun x y H Q => Same H0 H ∧ AOk H A ∧ ∃ dx dy, RepT X.K CL H A x dx ∧ RepT X.K CL H A y dy ∧ Post (RepC X.K CL true H0 A) W H (g dx dy) Q)
theorem opn_add : OpN X CL W (binaryOp .Add) (binD .Add) := by
  intro A H0 pins s σ H x y v u Q I rx ry ⟨s0, hA, dx, dy, hx, hy, p⟩
  have key : (∀ ds, dx ≠ .lst ds) → EP X pins σ Q = EP X pins σ Q → wpAny (model X.prog X.w) X.A (binaryOp .Add v u) (EP X pins σ Q) X.xe s := fun hd _ => by
    refine opd_add (W := W) A pins s σ H x y v u Q I rx ry ⟨hA, dx, dy, hx, hy, ?_⟩
    cases e : binD .Add dx dy with
    | bad => rw [e] at p; exact p
    | exn x => rw [e] at p; exact p
    | ok d =>
      rw [e] at p
      refine fun v' H' s' r' => p v' H' s' (repC_no r' fun ds z => ?_)
      subst z
      cases dx with
      | lst ds => exact hd _ rfl
      | _ => cases dy <;> first | (cases e; done) | (simp only [binD] at e; split at e <;> cases e)
  cases dx with
  | lst ds =>
    cases dy with
    | lst es =>
      obtain ⟨a, xs, rfl, s1, r1⟩ := hx.lst_of
      obtain ⟨b, ys, rfl, s2, r2⟩ := hy.lst_of
      simp only [add_ll] at p
      split at p
      · rename_i h
        refine op_catG pins s σ H _ _ v u Q I rx ry ⟨a, b, xs, ys, rfl, rfl, s1, s2, by rw [r1.length, r2.length]; exact szOk_line h, fun q hq => ?_⟩
        exact p _ _ (same_new hq _) (repC_new s0 hA hq (r1.append r2))
      · exact p.elim
    | _ => exact p.elim
  | _ => exact key (by intro _ z; cases z) rfl
theorem sn_add (ha : ST X CL W a fa) (hb : ST X CL W b fb) : SC X CL W true (.BinOp a .Add b pos) (fun ρ => (fa ρ).bind fun x => (fb ρ).bind fun y => binD .Add x y) :=
  fun A pins s σ H Q I h => by
    obtain ⟨hA, ρ, g, p⟩ := h
    exact pe_op (opn_add (W := W) A H) (ha A) (hb A) pins s σ H Q I ⟨hA, ρ, g, Post.bindF p fun dx x H1 _ s1 r1 p1 => ⟨hA.same s1, ρ, g.same s1, Post.bind (Rq := RepC X.K CL true H A) p1 fun dy y H2 _ s2 r2 p2 => ⟨s1.trans s2, (hA.same s1).same s2, dx, dy, r1.same s2, r2, p2⟩⟩⟩
noncomputable def CallN (X : Cx) (CL : ClA) (W : XW) (f : Value) (g : List D → R D) : Prop := ∀ A H0, CallR X f (fun xs H Q => Same H0 H ∧ AOk H A ∧ ∃ ds, RepTs X.K CL H A xs ds ∧ Post (RepC X.K CL true H0 A) W H (g ds) Q)
theorem cn_list : CallN X CL W (.type "list") (biD .list) := by
  intro A H0 pins s σ H xs us Q I r ⟨s0, hA, ds, rs, p⟩
  match ds, rs, p with
  | [.lst es], rs, p =>
    obtain ⟨v, rfl, rv⟩ := rs.one
    obtain ⟨q, ys, rfl, sq, ry⟩ := rv.lst_of
    exact call_list_of pins s σ H _ us Q I r ⟨q, ys, rfl, .inl sq, fun l hl => p _ _ (same_new hl _) (repC_new s0 hA hl ry)⟩
  | [.tup es], rs, p =>
    obtain ⟨v, rfl, rv⟩ := rs.one
    obtain ⟨q, ys, rfl, _, sq, ry⟩ := rv.tup_of
    exact call_list_of pins s σ H _ us Q I r ⟨q, ys, rfl, .inr sq, fun l hl => p _ _ (same_new hl _) (repC_new s0 hA hl ry)⟩
  | [], _, p => exact p.elim
  | [.non], _, p => exact p.elim
  | [.bl _], _, p => exact p.elim
  | [.int _], _, p => exact p.elim
  | [.str _], _, p => exact p.elim
  | [.obj _ _], _, p => exact p.elim
  | [.exc _ _], _, p => exact p.elim
  | [.dic _], _, p => exact p.elim
  | x :: _ :: _, _, p => cases x <;> exact p.elim
theorem sn_biT {x : Str} {T : String} {p : Pos} {e : Expr} {es : List Expr} {fs : Rho → R (List D)} {g : List D → R D} (hc : CallN X CL W (.type T) g) (hg : Gl X x) (hm : X.mg x = none) (hv : bootBuiltins x = some (.type T)) (ha : SAT X CL W (e :: es) fs)
    (hn : x ≠ "__name__") (hdb : (x == ("__debug__" : Str)) = false) (he : starEach (e :: es) X.env = (false, eval e X.env) :: starEach es X.env) (hpl : ∀ pos, (backTo pos (starEach es X.env)).any (·.1) = false) :
    SC X CL W true (.Call (.Name x p) (e :: es) [] pos) (fun ρ => (fs ρ).bind g) := fun A pins s σ H Q I ⟨hA, ρ, gd, q⟩ =>
  pe_callTy (hc A H) hg hm hv (ha A) hn hdb he (hpl _) pins s σ H Q I ⟨hA, ρ, gd, PostS.bindF q fun ds vs H1 _ s1 r1 p1 => ⟨s1, hA.same s1, ds, r1, p1⟩⟩
mutual
theorem nl_up {K : PySem.W.Frag} {H : Hp} {A : Addr → Prop} (hA : AOk H A) : ∀ (n : Nat) (d : D) {v : V}, nlD n d = true → Rep K CL H A0 v d → Rep K CL H A v d
  | _, .non, _, _, h => h
  | _, .bl _, _, _, h => h
  | _, .int _, _, _, h => h
  | _, .str _, _, _, h => h
  | 0, .tup _, _, hn, _ => by cases hn
  | n + 1, .tup ds, _, hn, h => by
    obtain ⟨a, xs, e, _, s, r⟩ := h
    refine ⟨a, xs, e, ?_, s, nls_up hA n ds hn r⟩
    rcases s with s | s
    · refine .inl fun z => ?_
      obtain ⟨ys, q⟩ := hA a z
      rcases s with s | ⟨o, s⟩ <;> rw [q] at s <;> cases s
    · exact .inr s
  | n, .lst _, _, hn, _ => by cases n <;> cases hn
  | n, .obj _ _, _, hn, _ => by cases n <;> cases hn
  | n, .exc _ _, _, hn, _ => by cases n <;> cases hn
  | n, .dic _, _, hn, _ => by cases n <;> cases hn
theorem nls_up {K : PySem.W.Frag} {H : Hp} {A : Addr → Prop} (hA : AOk H A) : ∀ (n : Nat) (ds : List D) {vs : List V}, ds.all (nlD n) = true → Reps K CL H A0 vs ds → Reps K CL H A vs ds
  | _, [], [], _, h => h
  | n, d :: ds, _ :: _, hn, h => by
    simp only [List.all_cons, Bool.and_eq_true] at hn
    exact ⟨nl_up hA n d hn.1 h.1, nls_up hA n ds hn.2 h.2⟩
  | _, [], _ :: _, _, h => h.elim
  | _, _ :: _, [], _, h => h.elim
end
theorem cln_up {K : PySem.W.Frag} {H0 H : Hp} {A : Addr → Prop} {fr : Bool} {v : V} {d : D} (hA0 : AOk H0 A) (s : Same H0 H) (hc : clnD fr d = true) (r : RepC K CL fr H0 A0 H v d) : RepC K CL fr H0 A H v d := by
  have hA := hA0.same s
  cases d with
  | lst ds =>
    have hc' : (fr && ds.all (nlD 5)) = true := hc
    rw [Bool.and_eq_true] at hc'
    obtain ⟨a, xs, e, h0, h1, rs⟩ := r.2 hc'.1 ds rfl
    have hA2 : AOk H (fun b => A b ∨ b = a) := fun b hb => hb.elim (hA b) fun e => by rw [e]; exact ⟨xs, h1⟩
    have rs' := nls_up hA2 5 ds hc'.2 (Reps.sub (fun _ z => z.elim) _ rs)
    refine ⟨⟨a, xs, e, .inl (hA0.new h0), SqL.of h1, Reps.sub (fun _ z => .inl z) _ rs'⟩, fun _ ds' e' => ?_⟩
    cases e'
    exact ⟨a, xs, e, h0, h1, rs'⟩
  | _ => exact ⟨nl_up hA 5 _ hc r.1, fun _ _ z => nomatch z⟩
noncomputable def spD (K : PySem.W.Frag) (CL : ClA) (n : Nat) (fr : Bool) (F : List D → R D) : Sp := fun vs H Q E => ∃ (ds : List D) (A : Addr → Prop), vs.length = n ∧ AOk H A ∧ Reps K CL H A vs ds ∧ (match F ds with
  | .ok d => ∀ v H', Same H H' → RepC K CL fr H A H' v d → Q v H'
  | .exn x => ∀ cls dx H', Same H H' → XRep K CL H' A cls dx x → E cls dx H'
  | .bad => False)
noncomputable def EKW (K : PySem.W.Frag) (CL : ClA) (A : Addr → Prop) (W : XW) : XK := fun cls dx H' => ∃ x, XRep K CL H' A cls dx x ∧ W x H'
theorem RepTs.plain {K : PySem.W.Frag} {H : Hp} {A : Addr → Prop} : ∀ {vs : List V} {ds : List D}, RepTs K CL H A vs ds → Reps K CL H A0 vs ds
  | [], [], h => trivial
  | _ :: _, _ :: _, h => ⟨h.1.plain, RepTs.plain h.2⟩
  | [], _ :: _, h => h.elim
  | _ :: _, [], h => h.elim
theorem sc_call {CX : CXT} {k n : Nat} {fr : Bool} {f : Addr} {fd : FuncData} {ps : List Str} {F : List D → R D} {x : Str} {p : Pos} {e : Expr} {es : List Expr} {fs ft : Rho → R (List D)} {sh : Rho → Bool} (G : FnOk X.prog X.w X.K X.mg X.base CX k f fd ps (spD X.K CL n fr F)) (hr : Room k X.A) (hg : Gl X x) (hm : X.mg x = some (.ref f))
    (hk : PySem.W.keepIn X.K (.ref f) = true) (hb : Binds X.K fd ps []) (hx : ∀ A, Passes CX X (EKW X.K CL A W)) (ha : SA X CL W (e :: es) fs) (hat : SAT X CL W (e :: es) ft) (hst : ∀ ρ, sh ρ = true → ft ρ = fs ρ) (hn : ∀ ρ ds, ft ρ = .ok ds → ds.length = n)
    (hdb : (x == ("__debug__" : Str)) = false) (he : starEach (e :: es) X.env = (false, eval e X.env) :: starEach es X.env) (hpl : ∀ pos, (backTo pos (starEach es X.env)).any (·.1) = false) :
    SC X CL W fr (.Call (.Name x p) (e :: es) [] pos) (fun ρ => (ft ρ).bind fun ds => (F ds).bind fun d => if sh ρ = true then .ok d else if clnD fr d = true then .ok d else .bad) := fun A pins s σ H Q I ⟨hA, ρ, gd, q⟩ => by
  dsimp only at q
  by_cases hs : sh ρ = true
  · rw [hst ρ hs] at q
    refine pe_call G hr hg hm hk hb .nil (hx A) (ha A) hdb he (hpl _) pins s σ H Q I ⟨hA, ρ, gd, ?_⟩
    cases e1 : fs ρ with
    | bad => rw [e1] at q; exact q
    | exn y => rw [e1] at q; exact q
    | ok ds =>
      rw [e1] at q
      intro vs H1 s1 r1
      refine ⟨ds, A, by rw [List.append_nil, r1.length]; exact hn ρ ds (by rw [hst ρ hs]; exact e1), hA.same s1, by rw [List.append_nil]; exact r1, ?_⟩
      have q' : Post (RepC X.K CL fr H A) W H ((F ds).bind fun d => if sh ρ = true then .ok d else if clnD fr d = true then .ok d else .bad) Q := q
      cases e2 : F ds with
      | ok d =>
        rw [e2, R.bind_ok, if_pos hs] at q'
        exact fun v H2 s2 r2 => q' v H2 (s1.trans s2) ⟨r2.1, fun z ds' e' => let ⟨a, xs, z1, z2, z3⟩ := r2.2 z ds' e'; ⟨a, xs, z1, s1.free z2, z3⟩⟩
      | exn y => rw [e2] at q'; exact fun cls dx H2 s2 xr => ⟨y, xr, q' H2 (s1.trans s2)⟩
      | bad => rw [e2] at q'; exact q'.elim
  · refine pe_call G hr hg hm hk hb .nil (hx A0) (hat A) hdb he (hpl _) pins s σ H Q I ⟨hA, ρ, gd, ?_⟩
    cases e1 : ft ρ with
    | bad => rw [e1] at q; exact q
    | exn y => rw [e1] at q; exact q
    | ok ds =>
      rw [e1] at q
      intro vs H1 s1 r1
      refine ⟨ds, A0, by rw [List.append_nil, r1.plain.length]; exact hn ρ ds e1, fun _ z => z.elim, by rw [List.append_nil]; exact r1.plain, ?_⟩
      have q' : Post (RepC X.K CL fr H A) W H ((F ds).bind fun d => if sh ρ = true then .ok d else if clnD fr d = true then .ok d else .bad) Q := q
      cases e2 : F ds with
      | ok d =>
        rw [e2, R.bind_ok, if_neg hs] at q'
        split at q'
        · rename_i hc
          exact fun v H2 s2 r2 => q' v H2 (s1.trans s2) (cln_up hA (s1.trans s2) hc ⟨r2.1, fun z ds' e' => let ⟨a, xs, z1, z2, z3⟩ := r2.2 z ds' e'; ⟨a, xs, z1, s1.free z2, z3⟩⟩)
        · exact q'.elim
      | exn y => rw [e2] at q'; exact fun cls dx H2 s2 xr => ⟨y, xr, q' H2 (s1.trans s2)⟩
      | bad => rw [e2] at q'; exact q'.elim
end
end Ov
end
section
set_option Elab.async false
set_option linter.all false
set_option maxRecDepth 100000
set_option maxHeartbeats 2000000
namespace Ov
open PySem PySem.Spec PyProof.Rows L2
theorem closure_go (env : Env) : ∀ (ns : List (Str × NameKind)) (acc : List (Str × Addr)), (∀ x ∈ ns, x.2 = .free → ∃ c, env.cells.lookup x.1 = some c) → (∀ x c, acc.lookup x = some c → env.cells.lookup x = some c) →
    ∃ cl, (forIn ns acc fun (x : Str × NameKind) (cs : List (Str × Addr)) => (if (x.2 == .free) = true then do let c ← cellOf env x.1; pure (ForInStep.yield ((x.1, c) :: cs)) else pure (ForInStep.yield cs) : Sem (ForInStep (List (Str × Addr))))) = pure cl ∧
      (∀ x c, cl.lookup x = some c → env.cells.lookup x = some c) ∧ (∀ x, ((x, NameKind.free) ∈ ns ∨ ∃ c, acc.lookup x = some c) → ∃ c, cl.lookup x = some c)
  | [], acc, _, h2 => ⟨acc, by rw [List.forIn_nil], h2, fun x hx => hx.elim (fun z => nomatch z) id⟩
  | (n, k) :: r, acc, h1, h2 => by
    rw [List.forIn_cons]
    by_cases hk : k = .free
    · subst hk
      obtain ⟨c, hc⟩ := h1 (n, .free) List.mem_cons_self rfl
      obtain ⟨cl, e, p, q⟩ := closure_go env r ((n, c) :: acc) (fun x hx => h1 x (List.mem_cons_of_mem _ hx)) (fun x d hd => by
        rw [List.lookup_cons] at hd
        split at hd
        · rename_i hx
          cases hd
          rw [eq_of_beq hx]; exact hc
        · exact h2 x d hd)
      refine ⟨cl, ?_, p, fun x hx => q x ?_⟩
      · have e1 : cellOf env n = pure c := by unfold cellOf; dsimp only at hc; rw [hc]
        rw [if_pos (by rfl), e1]
        exact e
      · rcases hx with hx | ⟨d, hd⟩
        · rcases List.mem_cons.mp hx with z | z
          · cases z
            exact .inr ⟨c, by simp [List.lookup_cons]⟩
          · exact .inl z
        · by_cases hxn : x = n
          · exact .inr ⟨c, by subst hxn; simp [List.lookup_cons]⟩
          · exact .inr ⟨d, by rw [List.lookup_cons]; rw [beq_eq_false_iff_ne.mpr hxn]; exact hd⟩
    · obtain ⟨cl, e, p, q⟩ := closure_go env r acc (fun x hx => h1 x (List.mem_cons_of_mem _ hx)) h2
      refine ⟨cl, ?_, p, fun x hx => q x ?_⟩
      · rw [if_neg (by simpa using hk)]
        exact e
      · rcases hx with hx | hx
        · rcases List.mem_cons.mp hx with z | z
          · cases z; exact absurd rfl hk
          · exact .inl z
        · exact .inr hx
theorem closure_ok {scope : Scope} {env : Env} (h : ∀ x ∈ scope.names, x.2 = .free → ∃ c, env.cells.lookup x.1 = some c) :
    ∃ cl, closureFor scope env = pure cl ∧ (∀ x c, cl.lookup x = some c → env.cells.lookup x = some c) ∧ ∀ x, (x, NameKind.free) ∈ scope.names → ∃ c, cl.lookup x = some c := by
  obtain ⟨cl, e, p, q⟩ := closure_go env scope.names [] h (fun x c z => by simp at z)
  refine ⟨cl, ?_, p, fun x hx => q x (.inl hx)⟩
  unfold closureFor
  first
    | exact e
    | (simp only [bind_pure]; exact e)
    | (rw [show (forIn scope.names ([] : List (Str × Addr)) _ : Sem _) = pure cl from e]; rfl)
theorem cells_own : ∀ (names : List (Str × NameKind)) (h : Heap) (acc : List (Str × Addr)) (x : Str) (c : Addr), (cellsFrom h.objs.size names acc).lookup x = some c →
    acc.lookup x = some c ∨ ((x, NameKind.cell) ∈ names ∧ h.objs.size ≤ c ∧ (pushCells h names).IsCell c none)
  | [], _, _, _, _, e => .inl e
  | (n, k) :: r, h, acc, x, c, e => by
    unfold cellsFrom at e
    unfold pushCells
    by_cases hk : (k == NameKind.cell) = true
    · rw [if_pos hk] at e ⊢
      have hs : h.objs.size + 1 = (h.push { cls := .type "cell", data := .cell none }).objs.size := (Heap.size_push ..).symm
      rw [hs] at e
      rcases cells_own r _ _ x c e with q | ⟨q1, q2, q3⟩
      · rw [List.lookup_cons] at q
        cases hx : x == n with
        | true =>
          rw [hx] at q
          cases q
          refine .inr ⟨?_, Nat.le_refl _, ?_⟩
          · rw [eq_of_beq hx, eq_of_beq hk]; exact List.mem_cons_self
          · exact ⟨_, pushCells_keeps r _ _ _ (Heap.get?_push_size _ rfl), rfl⟩
        | false => rw [hx] at q; exact .inl q
      · exact .inr ⟨List.mem_cons_of_mem _ q1, by omega, q3⟩
    · rw [if_neg hk] at e ⊢
      rcases cells_own r h acc x c e with q | ⟨q1, q2, q3⟩
      · exact .inl q
      · exact .inr ⟨List.mem_cons_of_mem _ q1, q2, q3⟩
theorem cells_inj : ∀ (names : List (Str × NameKind)) (h : Heap) (acc : List (Str × Addr)), (∀ x y c, acc.lookup x = some c → acc.lookup y = some c → x = y) → (∀ x c, acc.lookup x = some c → c < h.objs.size) →
    ∀ x y c, (cellsFrom h.objs.size names acc).lookup x = some c → (cellsFrom h.objs.size names acc).lookup y = some c → x = y
  | [], _, _, i, _, x, y, c, e1, e2 => i x y c e1 e2
  | (n, k) :: r, h, acc, i, b, x, y, c, e1, e2 => by
    unfold cellsFrom at e1 e2
    by_cases hk : (k == NameKind.cell) = true
    · rw [if_pos hk] at e1 e2
      have hs : h.objs.size + 1 = (h.push { cls := .type "cell", data := .cell none }).objs.size := (Heap.size_push ..).symm
      rw [hs] at e1 e2
      have look : ∀ z d, List.lookup z ((n, h.objs.size) :: acc) = some d → (z = n ∧ d = h.objs.size) ∨ (z ≠ n ∧ acc.lookup z = some d) := fun z d q => by
        rw [List.lookup_cons] at q
        cases hx : z == n with
        | true => rw [hx] at q; cases q; exact .inl ⟨eq_of_beq hx, rfl⟩
        | false => rw [hx] at q; exact .inr ⟨fun e => by rw [e] at hx; simp at hx, q⟩
      refine cells_inj r _ _ (fun z z' d q q' => ?_) (fun z d q => ?_) x y c e1 e2
      · rcases look z d q with ⟨rfl, q1⟩ | ⟨_, q1⟩ <;> rcases look z' d q' with ⟨rfl, q2⟩ | ⟨_, q2⟩
        · rfl
        · exact absurd (b _ _ q2) (by rw [q1]; exact Nat.lt_irrefl _)
        · exact absurd (b _ _ q1) (by rw [q2]; exact Nat.lt_irrefl _)
        · exact i _ _ _ q1 q2
      · rw [← hs]
        rcases look z d q with ⟨_, q1⟩ | ⟨_, q1⟩
        · rw [q1]; exact Nat.lt_succ_self _
        · exact Nat.lt_succ_of_lt (b _ _ q1)
    · rw [if_neg hk] at e1 e2
      exact cells_inj r h acc i b x y c e1 e2
theorem cells_free : ∀ (names : List (Str × NameKind)) (n : Nat) (acc : List (Str × Addr)) (x : Str), (x, NameKind.cell) ∉ names → (cellsFrom n names acc).lookup x = acc.lookup x
  | [], _, _, _, _ => rfl
  | (m, k) :: r, n, acc, x, hx => by
    unfold cellsFrom
    have hr : (x, NameKind.cell) ∉ r := fun z => hx (List.mem_cons_of_mem _ z)
    by_cases hk : (k == NameKind.cell) = true
    · rw [if_pos hk, cells_free r _ _ x hr, List.lookup_cons]
      cases q : x == m with
      | true => exact absurd (by rw [eq_of_beq q, eq_of_beq hk]; exact List.mem_cons_self) hx
      | false => rfl
    · rw [if_neg hk]
      exact cells_free r n acc x hr
theorem cells_has (n0 : Nat) : ∀ (names : List (Str × NameKind)) (n : Nat) (acc : List (Str × Addr)) (x : Str), n0 ≤ n → ((x, NameKind.cell) ∈ names ∨ ∃ c, acc.lookup x = some c ∧ n0 ≤ c) → ∃ c, (cellsFrom n names acc).lookup x = some c ∧ n0 ≤ c
  | [], _, _, _, _, h => h.elim (fun z => nomatch z) id
  | (m, k) :: r, n, acc, x, hn, h => by
    unfold cellsFrom
    by_cases hk : (k == NameKind.cell) = true
    · rw [if_pos hk]
      refine cells_has n0 r _ _ x (by omega) ?_
      by_cases hx : (x == m) = true
      · exact .inr ⟨n, by rw [List.lookup_cons, hx], hn⟩
      · rcases h with h | ⟨c, h, hc⟩
        · rcases List.mem_cons.mp h with z | z
          · cases z; simp at hx
          · exact .inl z
        · exact .inr ⟨c, by rw [List.lookup_cons]; simp only [hx]; exact h, hc⟩
    · rw [if_neg hk]
      refine cells_has n0 r _ _ x hn (h.imp (fun h => ?_) id)
      rcases List.mem_cons.mp h with z | z
      · cases z; simp at hk
      · exact z
theorem wpAny_newBlock {M : Model} {A : Around} {E : Value → Shared → Prop} {s : Shared} {scope : Scope} {globals : Addr} {cl : List (Str × Addr)} {qual : Str} {env : Env} {Q : Env → Shared → Prop}
    (hQ : Q (newEnv scope s.heap.objs.size globals (cellsFrom (s.heap.objs.size + 1) scope.names cl) qual none .none (some env) builtinsNs) { s with heap := pushCells (s.heap.push { cls := .type "dict", data := .dict #[] }) scope.names }) :
    wpAny M A (newFunctionEnv scope globals cl [] qual none .none (some env)) Q E s := by
  simp only [newFunctionEnv, Option.isSome_some, if_true]
  refine wpAny_bind (wpAny_alloc ?_)
  refine wpAny_bind (wpAny_layCells _ (fun name kind cells => by cases hkc : kind == NameKind.cell <;> simp [hkc]) _ _ _ _ ?_)
  rw [show ({ s with heap := s.heap.push { cls := .type "dict", data := .dict #[] } } : Shared).heap.objs.size = s.heap.objs.size + 1 from Heap.size_push ..]
  rw [List.forIn_nil]
  exact wpAny_bind (wpAny_pure (wpAny_pure hQ))
noncomputable def cxC (X : Cx) (scope : Scope) (cl : List (Str × Addr)) (C : Addr) (N' : List Str) (s₀ : Shared) (H₀ : Hp) (fp : List Addr) : Cx where
  prog := X.prog
  w := X.w
  K := X.K
  mg := X.mg
  base := X.base
  A := X.A
  N := N'
  s₀ := s₀
  H₀ := H₀
  env := compEnvC scope cl C X.env
  outer := X.stack
  stack := X.stack
  ex := fp
  fn := fun x => scope.names.lookup x == some NameKind.cell
  calm := X.calm
  pn := []
  xe := fun _ _ => False
theorem lookup_relabel_other {env : Env} : ∀ {names : List (Str × NameKind)} {x : Str} {k : NameKind}, (names.map fun (n, k) => if (k == NameKind.free && env.scope.kind == .function && env.kindOf n == some .cell) then (n, NameKind.cell) else (n, k)).lookup x = some k →
    names.lookup x = some k ∨ (k = .cell ∧ names.lookup x = some .free)
  | [], _, _, h => by simp at h
  | (n, j) :: r, x, k, h => by
    have ih := @lookup_relabel_other env r x k
    have h' : List.lookup x ((if (j == NameKind.free && env.scope.kind == .function && env.kindOf n == some .cell) = true then (n, NameKind.cell) else (n, j)) :: (r.map fun (n, k) => if (k == NameKind.free && env.scope.kind == .function && env.kindOf n == some .cell) then (n, NameKind.cell) else (n, k))) = some k := h
    by_cases hc : (j == NameKind.free && env.scope.kind == .function && env.kindOf n == some .cell) = true
    · rw [if_pos hc] at h'
      rw [List.lookup_cons] at h' ⊢
      cases hx : x == n with
      | true =>
        rw [hx] at h'
        cases h'
        simp only [Bool.and_eq_true] at hc
        exact .inr ⟨rfl, by rw [eq_of_beq hc.1.1]⟩
      | false => rw [hx] at h'; exact ih h'
    · rw [if_neg hc] at h'
      rw [List.lookup_cons] at h' ⊢
      cases hx : x == n with
      | true => rw [hx] at h'; exact .inl h'
      | false => rw [hx] at h'; exact ih h'
structure BlockOk (X : Cx) (scope : Scope) (N' : List Str) (ts : List Nat) : Prop where
  kind : scope.kind = .function
  uniq : ∀ y ∈ scope.names, scope.names.lookup y.1 = some y.2
  names : ∀ y ∈ scope.names, y.2 = .local → scope.names.lookup y.1 = some .local
  free : ∀ y ∈ scope.names, y.2 = .free → X.env.scope.names.lookup y.1 = some .cell ∨ X.env.scope.names.lookup y.1 = some .free
  len : N'.length = X.N.length
  same : ∀ i x, N'[i]? = some x → scope.names.lookup x = some .free → i ∉ ts → X.N[i]? = some x
  loc : ∀ i x, N'[i]? = some x → (scope.names.lookup x = some .local ∨ scope.names.lookup x = some .cell) → i ∈ ts
structure BCells (X : Cx) (scope : Scope) (cl : List (Str × Addr)) (C : Addr) (h : Heap) : Prop where
  own : ∀ x c, cl.lookup x = some c → X.env.cells.lookup x = some c ∨ (scope.names.lookup x = some .cell ∧ C < c ∧ h.IsCell c none)
  inj : ∀ x y c, cl.lookup x = some c → cl.lookup y = some c → x = y
  has : ∀ x, scope.names.lookup x = some .cell → ∃ c, cl.lookup x = some c ∧ C < c
  fr : ∀ x, (x, NameKind.free) ∈ scope.names → ∃ c, cl.lookup x = some c ∧ X.env.cells.lookup x = some c
section
variable {X : Cx} {pins : List (Addr × Obj)} {σ : L2.St} {H : Hp} {s : Shared}
noncomputable def hideT (ts : List Nat) (σ : L2.St) : L2.St := ts.foldl (fun σ t => σ.set t none) σ
theorem hideT_len : ∀ (ts : List Nat) (σ : L2.St), (hideT ts σ).length = σ.length
  | [], _ => rfl
  | t :: ts, σ => by show (hideT ts (σ.set t none)).length = _; rw [hideT_len ts, List.length_set]
theorem hideT_get : ∀ (ts : List Nat) (σ : L2.St) {i : Nat} {v : V}, (hideT ts σ)[i]? = some (some v) → σ[i]? = some (some v) ∧ i ∉ ts
  | [], _, _, _, h => ⟨h, by simp⟩
  | t :: ts, σ, i, v, h => by
    obtain ⟨h1, h2⟩ := hideT_get ts (σ.set t none) (i := i) (v := v) h
    by_cases e : t = i
    · subst e
      have := get_set_self h1
      cases this
    · rw [get_set_ne e] at h1
      exact ⟨h1, by simp only [List.mem_cons, not_or]; exact ⟨fun z => e z.symm, h2⟩⟩
theorem block_start {scope : Scope} {cl : List (Str × Addr)} {N' : List Str} {ts : List Nat} {fp : List Addr} {h' : Heap} {tk : Nat} {C : Addr} {m : Str → Option Value} (I : Inv X pins σ H s) (B : BlockOk X scope N' ts) (hf : ∀ b ∈ fp, FpOk X pins H b) (hfo : ∀ b ∈ fp, b < s.heap.objs.size)
    (hb : BCells X scope cl C h')
    (hk : ∀ b o, s.heap.get? b = some o → h'.get? b = some o) (hC : s.heap.objs.size ≤ C) (hn : h'.Ns C m) : Inv (cxC X scope cl C N' s H fp) [] (hideT ts σ) H { s with heap := h', toks := tk } := by
  have stf : ∀ b ∈ fp, b ∉ frs X.stack := fun b hb z => by
    rcases List.mem_cons.mp (I.stkSub b z) with e | e
    · exact (hf b hb).2.1 e
    · exact (hf b hb).2.2.1 e
  have frOf : ∀ x, ((relabel scope X.env).names.lookup x = some .cell ∨ (relabel scope X.env).names.lookup x = some .free) → scope.names.lookup x = some .free ∨ scope.names.lookup x = some .cell := fun x hx => by
    rcases hx with z | z
    · rcases lookup_relabel_other z with z | ⟨_, z⟩
      · exact .inr z
      · exact .inl z
    · rcases lookup_relabel_other z with z | ⟨z, _⟩
      · exact .inl z
      · cases z
  have gtC : ∀ c : Addr, C < c → s.heap.objs.size ≤ c := fun c z => Nat.le_trans hC (Nat.le_of_lt z)
  have cellK : ∀ c v, s.heap.IsCell c v → h'.IsCell c v := fun c v ⟨o, ho, hd⟩ => ⟨o, hk _ _ ho, hd⟩
  refine ⟨⟨I.ok.mod, B.kind, I.ok.glob, I.ok.blt, hC, hb.inj, fun x hx => ?_, fun x c h e => ?_, I.ok.hd, I.ok.frames, .inl rfl, fun b hbb => ⟨?_, fun x c e => ?_⟩, I.bs, Nat.le_trans I.ok.bsz I.sz, fun b o e hbb => ?_, stf, I.stack, I.stkFree⟩, rfl, I.bare, Un.kept hk, ⟨m, hn, fun i x v h1 h2 h3 => ?_⟩, fun x c e => ?_, I.hok.fresh hC, fun x c e => (hb.own x c e).elim (I.freeC x c) (fun z => I.hok.fresh (gtC c z.2.1)), fun p hp => absurd (show p ∈ ([] : List (Addr × Obj)) from hp) (by simp), I.hok.kept hk, ?_⟩
  · rcases frOf x hx with z | z
    · obtain ⟨c, q, _⟩ := hb.fr x (PySem.mem_of_lookup z)
      exact ⟨c, q⟩
    · obtain ⟨c, q, _⟩ := hb.has x z
      exact ⟨c, q⟩
  · obtain ⟨c', q, z⟩ := hb.has x (eq_of_beq h)
    have e' : cl.lookup x = some c := e
    rw [q] at e'
    cases e'
    exact gtC _ z
  · intro z
    have z' : b = C := z
    have := hfo b hbb
    rw [z'] at this
    exact absurd (Nat.lt_of_lt_of_le this hC) (Nat.lt_irrefl _)
  · rcases hb.own x c e with z | z
    · exact (hf b hbb).2.2.2.2.1 x c z
    · intro q
      have := hfo b hbb
      have := gtC c z.2.1
      rw [q] at this
      exact absurd ‹b < _› (Nat.not_lt.mpr this)
  · rcases (hf b hbb).2.2.2.1 with z | z
    · exact I.ok.noex b o e z
    · exact absurd (Nat.lt_of_lt_of_le (Heap.lt_size e) (Nat.le_trans I.ok.bsz z)) (Nat.lt_irrefl _)
  · obtain ⟨h2, hts⟩ := hideT_get ts σ h2
    have h3' : (relabel scope X.env).names.lookup x = some .local ∨ (relabel scope X.env).names.lookup x = some .cell ∨ (relabel scope X.env).names.lookup x = some .free := h3
    have h1' : N'[i]? = some x := h1
    rcases h3' with z | z
    · rcases lookup_relabel_other z with z | ⟨z, _⟩
      · exact absurd (B.loc i x h1' (.inl z)) hts
      · cases z
    · have fr := (frOf x z).resolve_right fun q => hts (B.loc i x h1' (.inr q))
      have hm := PySem.mem_of_lookup fr
      have hX := B.same i x h1' fr hts
      obtain ⟨m0, hn0, hl0⟩ := I.loc
      obtain ⟨u, ru, lk⟩ := hl0 i x v hX h2 (by
        rcases B.free _ hm rfl with q | q
        · exact .inr (.inl q)
        · exact .inr (.inr q))
      refine ⟨u, ru, ?_⟩
      obtain ⟨c, hc, hcX⟩ := hb.fr x hm
      rcases lk with ⟨q, _⟩ | ⟨_, c', hc', hcell⟩
      · have q' : X.env.scope.names.lookup x = some .local := q
        rcases B.free _ hm rfl with p | p
        · rw [show X.env.scope.names.lookup x = _ from p] at q'; cases q'
        · rw [show X.env.scope.names.lookup x = _ from p] at q'; cases q'
      · have e := hcX
        rw [hc'] at e
        cases e
        exact .inr ⟨z, c, hc, cellK _ _ hcell⟩
  · rcases hb.own x c e with z | z
    · obtain ⟨v, q⟩ := I.cell x c z
      exact ⟨v, cellK _ _ q⟩
    · exact ⟨_, z.2.2⟩
  · show (hideT ts σ).length = N'.length
    rw [hideT_len, I.len, B.len]
theorem block_end {scope : Scope} {cl : List (Str × Addr)} {N' : List Str} {fp : List Addr} {C D : Addr} {s' : Shared} {H' : Hp} {σ' : L2.St} {pins' : List (Addr × Obj)} {h'' : Heap} {xs : List V} {ys : List Value} {n : Nat}
    (I : Inv X pins σ H s) (hf : ∀ b ∈ fp, FpOk X pins H b) (I' : Inv (cxC X scope cl C N' s H fp) pins' σ' H' s') (hD : s.heap.objs.size ≤ D) (hDC : D ≠ C) (hC : s.heap.objs.size ≤ C) (hd : s'.heap.get? D = some { cls := .type "list", data := .seq ys.toArray n }) (hDn : H' D = none) (rv : Vals xs ys) (hz : xs.length ≤ sizeLine)
    (hs : Heap.SameBut C s'.heap h'') : Inv X pins σ (upd H' D (.lst xs)) { s' with heap := h'' } := by
  have u : Un (frs X.stack) fp H H' s.heap s'.heap := I'.base
  have lt : ∀ b o, s.heap.get? b = some o → b ≠ C ∧ b ≠ D := fun b o e => ⟨fun z => absurd (Nat.lt_of_lt_of_le (Heap.lt_size e) (z ▸ hC)) (Nat.lt_irrefl _), fun z => absurd (Nat.lt_of_lt_of_le (Heap.lt_size e) (z ▸ hD)) (Nat.lt_irrefl _)⟩
  have HD : H D = none := I.hok.fresh hD
  have hCn : H' C = none := I'.free
  have kb : ∀ b o, b ≠ C → s'.heap.get? b = some o → h''.get? b = some o := fun b o hb e => (hs.2 b hb).trans e
  have u2 : Un (frs X.stack) fp H (upd H' D (.lst xs)) s.heap h'' := ⟨fun b o e q hb hx => kb b o (lt b o e).1 (u.keep b o e q hb hx), fun b o e q hb hx => by
      obtain ⟨sl, e1⟩ := u.slot b o e q hb hx
      exact ⟨sl, kb b _ (lt b o e).1 e1⟩, fun b o e q hx => by rw [upd_ne (lt b o e).2]; exact u.free b o e q hx, fun b o e hx => by
      obtain ⟨o', e1⟩ := u.there b o e hx
      exact ⟨o', kb b _ (lt b o e).1 e1⟩, fun b zs q => by rw [upd_ne (ne_of_none q HD)]; exact u.tups b zs q, fun b o zs q => by rw [upd_ne (ne_of_none q HD)]; exact u.frzs b o zs q, fun b ps q => by rw [upd_ne (ne_of_none q HD)]; exact u.tbls b ps q⟩
  have hok : HOk X.prog X.w (upd H' D (.lst xs)) h'' := fun b o e => by
    by_cases hb : b = D
    · subst hb
      rw [upd_same] at e
      cases e
      exact ⟨hz, ys, n, rv, kb _ _ hDC hd⟩
    · rw [upd_ne hb] at e
      refine (I'.hok b o e).stay (fun c v hc q => kb c v ?_ q) (fun c q => by rw [upd_ne (ne_of_none q hDn)]; exact q) fun c zs q => by rw [upd_ne (ne_of_none q hDn)]; exact q
      rcases hc with rfl | hc
      · exact ne_of_none e hCn
      · exact ne_of_none hc hCn
  exact I.call' (s' := { s' with heap := h'' }) (ch := fp) I'.os u2 hok I'.bare fun b hb => ⟨(hf b hb).2.2.2.1, (hf b hb).2.1, (hf b hb).2.2.2.2.1, (hf b hb).2.2.2.2.2⟩
end
noncomputable def PTs (X : Cx) (ifs : List Expr) (tt : TT) : Prop := ∀ (pins : List (Addr × Obj)) (s : Shared) (σ : L2.St) (H : Hp) (Q : Bool → Hp → Prop), Inv X pins σ H s → tt σ H Q →
  wpAny (model X.prog X.w) X.A (forIn ifs true fun c r => if r = true then do let ok ← isTrue c X.env (eval c X.env); pure (ForInStep.yield ok) else pure (ForInStep.yield r)) (TP X pins σ Q) X.xe s
theorem pts_nil {X : Cx} : PTs X [] (fun σ H Q => Q true H) := fun pins s σ H Q I h => wpAny_tests_nil ⟨H, I, h⟩
theorem pts_one {X : Cx} {c : Expr} {t : TT} (h : PT X c t) : PTs X [c] t := fun pins s σ H Q I q => wpAny_tests_one (h pins s σ H Q I q)
theorem acc_append {X : Cx} {pins : List (Addr × Obj)} {σ : L2.St} {H : Hp} {s : Shared} {D : Addr} {ys : List Value} {n : Nat} {y : Value} {E : Value → Shared → Prop} {Q : Value → Shared → Prop} (I : Inv X ((D, { cls := .type "list", data := .seq ys.toArray n }) :: pins) σ H s) (hD : X.s₀.heap.objs.size ≤ D) (hp : ∀ p ∈ X.pn ++ pins, p.1 ≠ D) (hc : ∀ x c, X.env.cells.lookup x = some c → c ≠ D) (hz : ys.length ≤ sizeLine)
    (h : ∀ s', Inv X ((D, { cls := .type "list", data := .seq (ys ++ [y]).toArray (n + 1) }) :: pins) σ H s' → (∀ b o, b ≠ D → s.heap.get? b = some o → s'.heap.get? b = some o) → Q .none s') : wpAny (model X.prog X.w) X.A (call (.builtin "list.append") [.ref D, y]) Q E s := by
  obtain ⟨e, hn, hL, hfs, _⟩ := I.pin (D, { cls := .type "list", data := .seq ys.toArray n }) (List.mem_append_right _ List.mem_cons_self)
  refine append_at (hsz := by rw [List.size_toArray]; exact hz) e fun h' hs hd => ?_
  have hd' : h'.get? D = some { cls := .type "list", data := .seq (ys ++ [y]).toArray (n + 1) } := by rw [hd]; simp
  have kb : ∀ b o, b ≠ D → s.heap.get? b = some o → h'.get? b = some o := fun b o hb q => (hs.2 b hb).trans q
  have I0 : Inv X pins σ H s := I.pins_of fun p hp => I.pin p (List.mem_append_right _ (List.mem_cons_of_mem _ hp))
  have I1 : Inv X pins σ H { s with heap := h' } := I0.turned (t' := s.toks) kb hn hL (.inr hD) hc hp
  refine h _ (I1.pins_of fun p hp => ?_) kb
  rcases List.mem_cons.mp hp with rfl | hp
  · exact ⟨hd', hn, hL, hfs, fun v z => by
      have z' : Data.seq _ _ = Data.cell v := z
      cases z'⟩
  · exact I1.pin p (List.mem_append_right _ hp)
section
variable {prog : Program} {w : World} {A : Around} {R : Result → Shared → Prop} {s : Shared}
theorem compLoop_go {elt target iter : Expr} {ifs : List Expr} {scope : Scope} {pos : Pos} {it acc : Value} {env : Env} (I : Nat → Shared → Prop)
    (turn : ∀ n s, I n s → wpAny (model prog w) A (pyNext it) (fun r s₁ => match r with
      | none => R (.ok .next) s₁
      | some v => wpAny (model prog w) A (letOwnedTupleGo target it v) (fun _ s₁' => wpAny (model prog w) A (assign target env v) (fun _ s₂ =>
          wpAny (model prog w) A (forIn ifs true fun c r => if r = true then do let ok ← isTrue c env (eval c env); pure (ForInStep.yield ok) else pure (ForInStep.yield r)) (fun ok s₃ =>
            if ok = true then wpAny (model prog w) A (eval elt env) (fun x s₄ =>
              wpAny (model prog w) A (call (.builtin "list.append") [acc, x]) (fun _ s₅ => ∃ m, m < n ∧ I m s₅) (notedBy (model prog w) A env fun e s' => R (.error e) s') s₄) (notedBy (model prog w) A env fun e s' => R (.error e) s') s₃
            else ∃ m, m < n ∧ I m s₃) (notedBy (model prog w) A env fun e s' => R (.error e) s') s₂) (notedBy (model prog w) A env fun e s' => R (.error e) s') s₁') (notedBy (model prog w) A env fun e s' => R (.error e) s') s₁) (notedBy (model prog w) A env fun e s' => R (.error e) s') s)
    (n : Nat) (h : I n s) :
    codeAny (model prog w) A (.compLoop (.ListComp elt [⟨target, iter, ifs, 0⟩] scope pos) 0 it acc env) R s := by
  refine codeAny_loop rfl I (fun n s hI => ?_) n h
  show wpAny _ A ((compTurn (.ListComp elt [⟨target, iter, ifs, 0⟩] scope pos) 0 it acc env).onRaise (fun x => do noteFrame x env; theTreesLotGoes x)) _ _ s
  refine wpAny_noted ?_
  rw [compTurn_list]
  refine wpAny_bind (wpAny_standAt (wpAny_bind (wpAny_mono (turn n s hI) (fun r s₁ h₁ => ?_) fun _ _ h' => h')))
  cases r with
  | none => exact wpAny_pure h₁
  | some v =>
    refine wpAny_bind (wpAny_mono h₁ (fun _ s₁' h₁' => ?_) fun _ _ h' => h')
    refine wpAny_bind (wpAny_mono h₁' (fun _ s₂ h₂ => wpAny_bind (wpAny_mono h₂ (fun ok s₃ h₃ => ?_) fun _ _ h' => h')) fun _ _ h' => h')
    cases ok with
    | false => exact wpAny_pure ⟨rfl, h₃⟩
    | true =>
      exact wpAny_bind (wpAny_bind (wpAny_mono h₃ (fun x s₄ h₄ => wpAny_bind (wpAny_mono h₄ (fun _ s₅ h₅ => wpAny_pure (wpAny_pure ⟨rfl, h₅⟩)) fun _ _ h' => h')) fun _ _ h' => h'))
end
noncomputable def CompRest (J : It) (ts : List Nat) (g : TG) (tt : TT) (te : TE) (σ : L2.St) (H : Hp) (Q : VK) : Prop := ∃ W : Nat → Nat → List V → L2.St → Hp → Prop, (∃ m, W 0 m [] (hideT ts σ) H) ∧ ∀ i m xs σ H, W i m xs σ H →
  (J.stop i H ∧ ∀ p, H p = none → Q (.ref p) (upd H p (.lst xs))) ∨
  (J.go i H ∧ xs.length < sizeLine ∧ ∀ x H', J.yld i H x H' → g x σ H' fun σ2 H2 => tt σ2 H2 fun b H3 => if b = true then te σ2 H3 fun y H4 => ∃ m', m' < m ∧ W (i + 1) m' (xs ++ [y]) σ2 H4 else ∃ m', m' < m ∧ W (i + 1) m' xs σ2 H3)
theorem comp_run {X : Cx} {pins : List (Addr × Obj)} {σ : L2.St} {H : Hp} {s : Shared} {tg iter elt : Expr} {ifs : List Expr} {scope : Scope} {cl : List (Str × Addr)} {pos : Pos} {N' : List Str} {ts : List Nat} {g : TG} {tt : TT} {te : TE} {it : Addr} {fp : List Addr} {tn : Nat → Heap → Prop} {J : It} {Q : VK} {E : Value → Shared → Prop} {RR : Value → Addr → Result → Shared → Prop}
    (hc : X.calm = true) (B : BlockOk X scope N' ts) (I : Inv X pins σ H s) (T : Turn X.prog X.w X.K tg J fp it tn) (st : tn 0 s.heap) (hf : ∀ b ∈ fp, FpOk X pins H b)
    (hcl : ∀ x c, cl.lookup x = some c → X.env.cells.lookup x = some c) (hcl2 : ∀ x, (x, NameKind.free) ∈ scope.names → ∃ c, cl.lookup x = some c)
    (hg : ∀ cl C s H, PG (cxC X scope cl C N' s H fp) tg g) (ht : ∀ cl C s H, PTs (cxC X scope cl C N' s H fp) ifs tt) (he : ∀ cl C s H, PE (cxC X scope cl C N' s H fp) elt te) (h : CompRest J ts g tt te σ H Q)
    (hRR : ∀ cl D C s' H' σ' pins' xs ys n m, Inv (cxC X scope cl C N' s H fp) pins' σ' H' s' → s'.heap.get? D = some { cls := .type "list", data := .seq (List.toArray ys) n } → H' D = none → Vals xs ys → xs.length ≤ sizeLine → s.heap.objs.size ≤ D → D ≠ C → s.heap.objs.size ≤ C → s'.heap.Ns C m → Q (.ref D) (upd H' D (.lst xs)) → RR (.ref D) C (.ok .next) s') :
    wpAny (model X.prog X.w) X.A (newList []) (fun acc s₃ => wpAny (model X.prog X.w) X.A (newFunctionEnv scope X.env.globals cl [] X.env.qual none .none (some X.env)) (fun cenv s₄ =>
      codeAny (model X.prog X.w) X.A (.compStart (.ListComp elt [⟨tg, iter, ifs, 0⟩] scope pos) 0 (.ref it) acc { cenv with scope := relabel scope X.env }) (RR acc cenv.locals) s₄) E s₃) E s := by
  refine wpAny_newObj_type (wpAny_newBlock ?_)
  dsimp only
  generalize hH2 : s.heap.push { cls := .type "list", dict := none, data := .seq ([] : List Value).toArray } = H2
  have hns₁ : (pushCells (H2.push { cls := .type "dict", data := .dict #[] }) scope.names).Ns H2.objs.size (fun _ => none) := (Heap.Ns.new H2 (.type "dict")).keeps (pushCells_keeps _ _)
  have hkp₁ : ∀ b o, H2.get? b = some o → (pushCells (H2.push { cls := .type "dict", data := .dict #[] }) scope.names).get? b = some o := fun b o e => pushCells_keeps _ _ b o (Heap.get?_push_of_some _ e)
  have hown := cells_own scope.names (H2.push { cls := .type "dict", data := .dict #[] }) cl
  have hinj := cells_inj scope.names (H2.push { cls := .type "dict", data := .dict #[] }) cl
  rw [Heap.size_push] at hown hinj
  generalize hcl' : cellsFrom (H2.objs.size + 1) scope.names cl = cl' at hown hinj
  have hcf : ∀ x, (x, NameKind.cell) ∉ scope.names → cl'.lookup x = cl.lookup x := fun x hx => by rw [← hcl']; exact cells_free _ _ _ x hx
  have hch : ∀ x, (x, NameKind.cell) ∈ scope.names → ∃ c, cl'.lookup x = some c ∧ H2.objs.size + 1 ≤ c := fun x hx => by rw [← hcl']; exact cells_has _ _ _ _ x (Nat.le_refl _) (.inl hx)
  generalize hh₁ : pushCells (H2.push { cls := .type "dict", data := .dict #[] }) scope.names = h₁ at hns₁ hkp₁ hown
  have hC : H2.objs.size = s.heap.objs.size + 1 := by rw [← hH2, Heap.size_push]
  have hCle : s.heap.objs.size ≤ H2.objs.size := by rw [hC]; exact Nat.le_succ _
  have hDC : s.heap.objs.size ≠ H2.objs.size := by rw [hC]; exact Nat.ne_of_lt (Nat.lt_succ_self _)
  have below : ∀ b, b < s.heap.objs.size → b ≠ H2.objs.size := fun b hb => by rw [hC]; exact Nat.ne_of_lt (Nat.lt_succ_of_lt hb)
  have old : ∀ b o, s.heap.get? b = some o → h₁.get? b = some o := fun b o e => hkp₁ b o (hH2 ▸ Heap.get?_push_of_some _ e)
  have hacc : h₁.get? s.heap.objs.size = some { cls := .type "list", data := .seq ([] : List Value).toArray 0 } := hkp₁ _ _ (hH2 ▸ Heap.get?_push_size _ rfl)
  have clt : ∀ x c, cl.lookup x = some c → c < s.heap.objs.size := fun x c e => by
    obtain ⟨v, q⟩ := I.cell x c (hcl x c e)
    exact q.lt
  have bc : BCells X scope cl' H2.objs.size h₁ := by
    refine ⟨fun x c e => ?_, hinj (fun x y c e1 e2 => I.ok.inj x y c (hcl x c e1) (hcl y c e2)) (fun x c e => Nat.lt_succ_of_lt (Nat.lt_of_lt_of_le (clt x c e) hCle)), fun x hx => ?_, fun x hx => ?_⟩
    · rcases hown x c e with q | ⟨q1, q2, q3⟩
      · exact .inl (hcl x c q)
      · exact .inr ⟨B.uniq _ q1, q2, q3⟩
    · have hm := PySem.mem_of_lookup hx
      obtain ⟨c, e, hc⟩ := hch x hm
      exact ⟨c, e, hc⟩
    · have hno : (x, NameKind.cell) ∉ scope.names := fun z => by
        have e1 := B.uniq _ hx
        have e2 := B.uniq _ z
        rw [show scope.names.lookup x = _ from e1] at e2
        cases e2
      obtain ⟨c, e⟩ := hcl2 x hx
      exact ⟨c, by rw [hcf x hno]; exact e, hcl x c e⟩
  have hfo : ∀ b ∈ fp, b < s.heap.objs.size := fun b hb => by
    obtain ⟨o, e, _⟩ := T.obj 0 _ st b hb
    exact Heap.lt_size e
  generalize hD : s.heap.objs.size = D at *
  generalize hC' : H2.objs.size = C at *
  have I0 : Inv (cxC X scope cl' C N' s H fp) [] (hideT ts σ) H { s with heap := h₁, toks := s.toks + ([] : List (Str × Value)).length } := block_start (tk := s.toks + ([] : List (Str × Value)).length) I B hf (fun b hb => by rw [hD]; exact hfo b hb) bc old (by rw [hD]; exact hCle) hns₁
  have nD : H D = none := I.hok.fresh (by rw [hD]; exact Nat.le_refl _)
  have noD : ∀ b ∈ fp, b ≠ D := fun b hb => Nat.ne_of_lt (hfo b hb)
  have noC : ∀ b ∈ fp, b ≠ C := fun b hb => below b (hfo b hb)
  have stfs : D ∉ frs X.stack := fun z => by
    obtain ⟨_, o, ho, _⟩ := I.stack.mem z
    exact absurd (Heap.lt_size ho) (by rw [hD]; exact Nat.lt_irrefl _)
  have cD : ∀ x c, cl'.lookup x = some c → c ≠ D := fun x c e z => by
    rcases bc.own x c e with q | ⟨_, q, _⟩
    · obtain ⟨v, q⟩ := I.cell x c q
      exact absurd q.lt (by rw [z, hD]; exact Nat.lt_irrefl _)
    · rw [z] at q
      exact absurd (Nat.lt_of_lt_of_le q hCle) (Nat.lt_irrefl _)
  have I1 : Inv (cxC X scope cl' C N' s H fp) [(D, { cls := .type "list", data := .seq ([] : List Value).toArray 0 })] (hideT ts σ) H { s with heap := h₁, toks := s.toks + ([] : List (Str × Value)).length } := I0.pins_of fun p hp => by
    have e := List.mem_singleton.mp hp
    subst e
    exact ⟨hacc, nD, hDC, stfs, fun v z => by
      have z' : Data.seq _ _ = Data.cell v := z
      cases z'⟩
  have st1 : tn 0 h₁ := T.keep _ _ _ st fun b _ o e => old b o e
  obtain ⟨W, ⟨m0, w0⟩, turn⟩ := h
  have fpk : ∀ {pl : List (Addr × Obj)} {H' : Hp}, (∀ p ∈ pl, p.1 = D) → (∀ b ∈ fp, H' b = none) → ∀ b ∈ fp, FpOk (cxC X scope cl' C N' s H fp) pl H' b := fun {pl H'} hp hn b hb =>
    ⟨hn b hb, noC b hb, fun z => by
      rcases List.mem_cons.mp (I.stkSub b z) with e | e
      · exact (hf b hb).2.1 e
      · exact (hf b hb).2.2.1 e, .inl hb, fun x c e => (bc.own x c e).elim ((hf b hb).2.2.2.2.1 x c) (fun z q => absurd (Nat.lt_of_le_of_lt hCle z.2.1) (Nat.not_lt.mpr (by rw [q]; exact Nat.le_of_lt (hfo b hb)))), fun p hp' => by
      have hp2 : p ∈ pl := hp'
      rw [hp p hp2]
      exact (noD b hb).symm⟩
  have loop : ∀ s₃ : Shared, s₃ = { s with heap := h₁, toks := s.toks + ([] : List (Str × Value)).length } →
      codeAny (model X.prog X.w) X.A (.compLoop (.ListComp elt [⟨tg, iter, ifs, 0⟩] scope pos) 0 (.ref it) (.ref D) (compEnvC scope cl' C X.env)) (RR (.ref D) C) s₃ := by
    rintro s₃ rfl
    refine compLoop_go (fun k s' => ∃ i σ' H' xs ys n, Inv (cxC X scope cl' C N' s H fp) [(D, { cls := .type "list", data := .seq (List.toArray ys) n })] σ' H' s' ∧ tn i s'.heap ∧ (∀ b ∈ fp, H' b = none) ∧ Vals xs ys ∧ xs.length ≤ sizeLine ∧ W i k xs σ' H') ?_ m0
      ⟨0, _, H, [], [], 0, I1, st1, fun b hb => (hf b hb).1, .nil, Nat.zero_le _, w0⟩
    rintro k s' ⟨i, σ', H', xs, ys, n, I', st', fr', rv, hz, w'⟩
    have one : ∀ p ∈ [((D, { cls := .type "list", data := .seq (List.toArray ys) n }) : Addr × Obj)], p.1 = D := fun p hp => by rw [List.mem_singleton.mp hp]
    rcases turn i k xs σ' H' w' with ⟨stop, q⟩ | ⟨go, hlt, step⟩
    · refine wpAny_mono (T.done (cxC X scope cl' C N' s H fp) rfl rfl rfl hc i _ s' σ' H' (fun _ _ => False) I' (fpk one fr') st' stop) (fun r s1 ⟨hr, J1⟩ => ?_) fun _ _ f => f.elim
      subst hr
      obtain ⟨e, hn, _⟩ := J1.pin _ (List.mem_append_right _ List.mem_cons_self)
      obtain ⟨m, hm, _⟩ := J1.loc
      exact hRR cl' D C s1 H' σ' _ xs ys n m J1 e hn rv hz (Nat.le_refl _) hDC hCle hm (q D hn)
    · refine wpAny_mono (T.item (cxC X scope cl' C N' s H fp) rfl rfl rfl hc i _ s' σ' H' (fun _ _ => False) I' (fpk one fr') st' go) (fun r s1 ⟨u, hr, h4⟩ => ?_) fun _ _ f => f.elim
      subst hr
      refine wpAny_mono h4 (fun _ s5 ⟨x, H5, I5, r5, y5, st5, fr5⟩ => ?_) fun _ _ f => f.elim
      have I5' := I5.pinned (fpk one fr5) (T.obj _ _ st5)
      refine wpAny_mono (hg cl' C s H _ s5 σ' H5 x u _ I5' r5 (step x H5 y5)) (fun _ s6 ⟨σ6, H6, I6, q6⟩ => ?_) fun _ _ f => f.elim
      refine wpAny_mono (ht cl' C s H _ s6 σ6 H6 _ I6 q6) (fun ok s7 ⟨H7, I7, q7⟩ => ?_) fun _ _ f => f.elim
      have again : ∀ {s8 : Shared} {H8 : Hp} {ys' : List Value} {n' : Nat}, Inv (cxC X scope cl' C N' s H fp) ((D, { cls := .type "list", data := .seq (List.toArray ys') n' }) :: pinsAt fp s5.heap) σ6 H8 s8 → Inv (cxC X scope cl' C N' s H fp) [(D, { cls := .type "list", data := .seq (List.toArray ys') n' })] σ6 H8 s8 ∧ tn (i + 1) s8.heap ∧ ∀ b ∈ fp, H8 b = none := fun {s8 H8 ys' n'} I8 =>
        ⟨I8.pins_of fun p hp => I8.pin p (List.mem_append_right _ (by rw [List.mem_singleton.mp hp]; exact List.mem_cons_self)), T.keep _ _ _ st5 fun b hb o e => (I8.pin (b, o) (List.mem_append_right _ (List.mem_cons_of_mem _ (mem_pinsAt hb e)))).1, fun b hb => by
          obtain ⟨o, e, d⟩ := T.obj _ _ st5 b hb
          exact (I8.pin (b, o) (List.mem_append_right _ (List.mem_cons_of_mem _ (mem_pinsAt hb e)))).2.1⟩
      cases ok with
      | false =>
        rw [if_neg (by decide)] at q7
        obtain ⟨m', hm, w7⟩ := q7
        obtain ⟨a1, a2, a3⟩ := again I7
        rw [if_neg (by decide)]
        exact ⟨m', hm, i + 1, σ6, H7, xs, ys, n, a1, a2, a3, rv, hz, w7⟩
      | true =>
        rw [if_pos rfl] at q7
        rw [if_pos rfl]
        refine wpAny_mono (he cl' C s H _ s7 σ6 H7 _ I7 q7) (fun val s8 ⟨y, H8, I8, r8, m', hm, w8⟩ => ?_) fun _ _ f => f.elim
        have hl := rv.length
        refine acc_append (X := cxC X scope cl' C N' s H fp) (ys := ys) (n := n) (pins := pinsAt fp s5.heap) I8 (by show s.heap.objs.size ≤ D; rw [hD]; exact Nat.le_refl _) (fun p hp => ?_) cD (by omega) fun s9 I9 kb => ?_
        · have hp2 : p ∈ pinsAt fp s5.heap := hp
          exact noD _ (of_pinsAt hp2).1
        · obtain ⟨a1, a2, a3⟩ := again I9
          exact ⟨m', hm, i + 1, σ6, H8, xs ++ [y], ys ++ [val], n + 1, a1, a2, a3, rv.append (.cons r8 .nil), by rw [List.length_append]; exact hlt, w8⟩
  exact codeAny_compStart_list (loop _ rfl) (T.self _ 0 _ _ _ st1 (loop _ rfl))
theorem pe_comp {X : Cx} {tg iter elt : Expr} {ifs : List Expr} {scope : Scope} {pos : Pos} {N' : List Str} {ts : List Nat} {wi : TI} {g : TG} {tt : TT} {te : TE} (hc : X.calm = true) (B : BlockOk X scope N' ts) (hi : PI X tg iter wi)
    (hg : ∀ cl C s H fp, PG (cxC X scope cl C N' s H fp) tg g) (ht : ∀ cl C s H fp, PTs (cxC X scope cl C N' s H fp) ifs tt) (he : ∀ cl C s H fp, PE (cxC X scope cl C N' s H fp) elt te) (hs : ∀ x, foldedSetIterable iter X.env x = pure x) :
    PE X (.ListComp elt [⟨tg, iter, ifs, 0⟩] scope pos) (fun σ H Q => wi σ H fun J H1 => CompRest J ts g tt te σ H1 Q) := by
  intro pins s σ H Q I h
  obtain ⟨cl, hclos, hcl, hcl2⟩ := closure_ok (scope := scope) (env := X.env) fun x hx hk => I.ok.has x.1 ((B.free x hx hk).imp id id)
  rw [eval_ListComp]
  refine wpAny_comprehension_free (use := none) rfl hs hclos B.kind B.names (thn (hi pins s σ H _ I h) fun v s1 h1 => thn h1 fun itv s2 h2 => ?_)
  obtain ⟨it, fp, tn, J, H2, e, I2, T, st2, f2, h3⟩ := h2
  subst e
  refine comp_run (RR := fun acc C => compPost (model X.prog X.w) X.A X.xe none (EP X pins σ Q) acc C) hc B I2 T st2 f2 hcl hcl2 (fun cl C s H => hg cl C s H fp) (fun cl C s H => ht cl C s H fp) (fun cl C s H => he cl C s H fp) h3 fun cl' D C s' H' σ' pins' xs ys n m I' hd hDn rv hz hD hDC hC hm q => ?_
  exact ⟨m, hm, fun h'' hs'' => ⟨.ref D, _, block_end I2 f2 I' hD hDC hC hd hDn rv hz hs'', rfl, q⟩⟩
theorem ps_setC {X : Cx} {i : Nat} {n : Str} {pos' pos2 : Pos} {tg iter elt : Expr} {ifs : List Expr} {scope : Scope} {pos : Pos} {N' : List Str} {ts : List Nat} {wi : TI} {g : TG} {tt : TT} {te : TE} (hc : X.calm = true) (B : BlockOk X scope N' ts) (hi : PI X tg iter wi)
    (hg : ∀ cl C s H fp, PG (cxC X scope cl C N' s H fp) tg g) (ht : ∀ cl C s H fp, PTs (cxC X scope cl C N' s H fp) ifs tt) (he : ∀ cl C s H fp, PE (cxC X scope cl C N' s H fp) elt te) (hs : ∀ x, foldedSetIterable iter X.env x = pure x)
    (hN : X.N.Nodup) (hni : X.N[i]? = some n) (hx : X.env.scope.names.lookup n = some .local) (hsw : swapsWith (.ListComp elt [⟨tg, iter, ifs, 0⟩] scope pos) (some (.Name n pos')) pos2.line X.env = pure true) :
    PS X (.Assign [.Name n pos'] (.ListComp elt [⟨tg, iter, ifs, 0⟩] scope pos) pos2) (tAsg (fun σ H Q => wi σ H fun J H1 => CompRest J ts g tt te σ H1 Q) (gName i)) := by
  intro pins s σ H Dn I h
  obtain ⟨cl, hclos, hcl, hcl2⟩ := closure_ok (scope := scope) (env := X.env) fun x hx hk => I.ok.has x.1 ((B.free x hx hk).imp id id)
  rw [exec_Assign_Name_used _ _ _ _ hsw]
  refine wpAny_bind (wpAny_standAt (wpAny_bind ?_))
  show wpAny _ X.A (do let _ ← comprehension (.ListComp elt [⟨tg, iter, ifs, 0⟩] scope pos) scope X.env _ (newList []) false (eval iter X.env) (some (assign (.Name n pos') X.env))) _ _ s
  refine wpAny_bind (wpAny_mono (wpAny_comprehension_free (use := some (assign (.Name n pos') X.env)) (Q := fun _ s' => SP X pins Dn .next s') rfl hs hclos B.kind B.names
    (thn (hi pins s σ H _ I h) fun v s1 h1 => thn h1 fun itv s2 h2 => ?_)) (fun _ s' hq => wpAny_pure (wpAny_pure hq)) fun _ _ e => e)
  obtain ⟨it, fp, tn, J, H2, e, I2, T, st2, f2, h3⟩ := h2
  subst e
  refine comp_run (RR := fun acc C => compPost (model X.prog X.w) X.A X.xe (some (assign (.Name n pos') X.env)) (fun _ s' => SP X pins Dn .next s') acc C) hc B I2 T st2 f2 hcl hcl2 (fun cl C s H => hg cl C s H fp) (fun cl C s H => ht cl C s H fp) (fun cl C s H => he cl C s H fp) h3 fun cl' D C s' H' σ' pins' xs ys n' m I' hd hDn rv hz hD hDC hC hm q => ?_
  have J0 : Inv X pins σ (upd H' D (.lst xs)) s' := block_end I2 f2 I' hD hDC hC hd hDn rv hz (Heap.SameBut.refl ..)
  refine wpAny_assign_Name (store_ok2 J0 hN hni (.inl hx) (show RelV (.ref D) (.ref D) from rfl) (fun s'' J1 ⟨a, sb, ha⟩ => ?_) (.inr hx))
  have hC0 : X.s₀.heap.objs.size ≤ C := Nat.le_trans I2.sz hC
  have hL : C ≠ X.env.locals := fun z => absurd (Nat.lt_of_lt_of_le I2.lt (z ▸ hC)) (Nat.lt_irrefl _)
  have hcC : ∀ x c, X.env.cells.lookup x = some c → c ≠ C := fun x c e z => by
    obtain ⟨v, q'⟩ := I2.cell x c e
    exact absurd (Nat.lt_of_lt_of_le q'.lt (by rw [z]; exact hC)) (Nat.lt_irrefl _)
  have hp : ∀ p ∈ X.pn ++ pins, p.1 ≠ C := fun p hp z => absurd (Nat.lt_of_lt_of_le (Heap.lt_size (I2.pin p hp).1) (by rw [z]; exact hC)) (Nat.lt_irrefl _)
  have hCn : upd H' D (.lst xs) C = none := by rw [upd_ne hDC.symm]; exact I'.free
  have hCa : C ≠ a := by
    rcases ha with rfl | ha
    · exact hL
    · exact fun z => hcC n a ha z.symm
  refine ⟨m, hm.sameBut sb hCa, fun h'' hs'' => ⟨_, _, J1.turned (t' := s''.toks) (fun b o hb e => (hs''.2 b hb).trans e) hCn hL (.inr hC0) hcC hp, q⟩⟩
end Ov
end
section
set_option Elab.async false
set_option linter.all false
set_option maxRecDepth 100000
set_option maxHeartbeats 2000000
namespace Ov
open PySem PySem.Spec PyProof.Rows L2
theorem hideR_get : ∀ (ts : List Nat) (ρ : Rho) (j : Nat), (hideR ts ρ)[j]? = if j ∈ ts then (ρ[j]?).map (fun _ => none) else ρ[j]?
  | [], ρ, j => by simp [hideR]
  | t :: ts, ρ, j => by
    show (hideR ts (ρ.set t none))[j]? = _
    rw [hideR_get ts]
    by_cases h1 : j ∈ ts
    · rw [if_pos h1, if_pos (List.mem_cons_of_mem _ h1)]
      by_cases h2 : t = j
      · subst h2
        rw [List.getElem?_set_self']
        cases ρ[t]? <;> rfl
      · rw [get_set_ne h2]
    · rw [if_neg h1]
      by_cases h2 : t = j
      · subst h2
        rw [if_pos List.mem_cons_self, List.getElem?_set_self']
        cases ρ[t]? <;> rfl
      · rw [get_set_ne h2, if_neg (by simp only [List.mem_cons, not_or]; exact ⟨fun z => h2 z.symm, h1⟩)]
theorem hideR_len : ∀ (ts : List Nat) (ρ : Rho), (hideR ts ρ).length = ρ.length
  | [], _ => rfl
  | t :: ts, ρ => by show (hideR ts (ρ.set t none)).length = _; rw [hideR_len ts, List.length_set]
theorem hideT_keep : ∀ (ts : List Nat) (σ : L2.St) {i : Nat}, i ∉ ts → (hideT ts σ)[i]? = σ[i]?
  | [], _, _, _ => rfl
  | t :: ts, σ, i, h => by
    simp only [List.mem_cons, not_or] at h
    show (hideT ts (σ.set t none))[i]? = _
    rw [hideT_keep ts _ h.2, get_set_ne (fun z => h.1 z.symm)]
section
variable {K : PySem.W.Frag} {CL : ClA} {A : Addr → Prop} {ρ ρ' : Rho} {σ : L2.St} {H : Hp}
theorem Good.less (g : Good K CL A ρ σ H) (hl : ρ'.length = ρ.length) (h : ∀ (i : Nat) (d : D) (o : Bool), ρ'[i]? = some (some (d, o)) → ρ[i]? = some (some (d, o))) : Good K CL A ρ' σ H := ⟨fun i d e => g.sh i d (h i d false e), fun i d e => g.ow i d (h i d true e), hl.trans g.len⟩
theorem Good.put (g : Good K CL A ρ σ H) {v : V} {d : D} (t : Nat) (r : Rep K CL H A v d) : Good K CL A (ρ.set t (some (d, false))) (σ.set t (some v)) H := by
  refine ⟨fun j e h => ?_, fun j e h => ?_, by rw [List.length_set, List.length_set]; exact g.len⟩
  · by_cases hj : t = j
    · subst hj
      have e1 := get_set_self h
      cases e1
      have hl : t < σ.length := by
        rw [← g.len]
        have := (List.getElem?_eq_some_iff.mp h).1
        simpa using this
      exact ⟨v, by rw [List.getElem?_set_self hl], r⟩
    · rw [get_set_ne hj] at h
      obtain ⟨w', q, rw'⟩ := g.sh j e h
      exact ⟨w', by rw [get_set_ne hj]; exact q, rw'⟩
  · have hj : t ≠ j := by
      rintro rfl
      have := get_set_self h
      cases this
    rw [get_set_ne hj] at h
    obtain ⟨a, xs, ds, q, z⟩ := g.ow j e h
    exact ⟨a, xs, ds, by rw [get_set_ne hj]; exact q, z⟩
theorem Good.hide (g : Good K CL A ρ σ H) (ts : List Nat) : Good K CL A (hideR ts ρ) σ H := g.less (hideR_len _ _) fun i d o e => by
  rw [hideR_get] at e
  split at e
  · cases q : ρ[i]? with
    | none => rw [q] at e; cases e
    | some x => rw [q] at e; cases e
  · exact e
theorem Good.hideT (g : Good K CL A ρ σ H) (ts : List Nat) : Good K CL A (hideR ts ρ) (hideT ts σ) H := by
  have key : ∀ i x, (hideR ts ρ)[i]? = some (some x) → ρ[i]? = some (some x) ∧ i ∉ ts := fun i x e => by
    rw [hideR_get] at e
    split at e
    · cases q : ρ[i]? with
      | none => rw [q] at e; cases e
      | some x => rw [q] at e; cases e
    · exact ⟨e, by assumption⟩
  refine ⟨fun i d e => ?_, fun i d e => ?_, by rw [hideR_len, hideT_len]; exact g.len⟩
  · obtain ⟨e1, e2⟩ := key i _ e
    obtain ⟨v, q, r⟩ := g.sh i d e1
    exact ⟨v, by rw [hideT_keep _ _ e2]; exact q, r⟩
  · obtain ⟨e1, e2⟩ := key i _ e
    obtain ⟨a, xs, ds, q, r⟩ := g.ow i d e1
    exact ⟨a, xs, ds, by rw [hideT_keep _ _ e2]; exact q, r⟩
end
noncomputable def GG (K : PySem.W.Frag) (CL : ClA) (ts : List Nat) (as : D → Rho → R Rho) (g : TG) : Prop := ∀ A ρ σ H v d ρ' Q, Good K CL A (hideR ts ρ) σ H → Rep K CL H A v d → as d ρ = .ok ρ' → (∀ σ', Good K CL A ρ' σ' H → Good K CL A (hideR ts ρ) σ' H → Q σ' H) → g v σ H Q
theorem gg_name {K : PySem.W.Frag} {CL : ClA} (i : Nat) : GG K CL [i] (fun d ρ => .ok (ρ.set i (some (d, false)))) (gName i) := fun A ρ σ H v d ρ' Q g r e k => by
  cases e
  have g2 := g.put i r
  have e1 : (hideR [i] ρ).set i (some (d, false)) = ρ.set i (some (d, false)) := by
    show (ρ.set i none).set i (some (d, false)) = _
    rw [List.set_set]
  rw [e1] at g2
  refine k _ g2 ?_
  have := g2.hide [i]
  have e2 : hideR [i] (ρ.set i (some (d, false))) = hideR [i] ρ := by
    show (ρ.set i _).set i none = ρ.set i none
    rw [List.set_set]
  rw [e2] at this
  exact this
noncomputable abbrev W0 : XW := fun _ _ => False
noncomputable def STs (X : Cx) (CL : ClA) (ifs : List Expr) (f : Rho → R Bool) : Prop := ∀ A, PTs X ifs (fun σ H Q => AOk H A ∧ ∃ ρ, Good X.K CL A ρ σ H ∧ PostB W0 H (f ρ) Q)
theorem sts_nil {X : Cx} {CL : ClA} : STs X CL [] (fun _ => .ok true) := fun A pins s σ H Q I ⟨hA, ρ, g, p⟩ => pts_nil pins s σ H Q I (p H (Same.refl H))
theorem sts_one {X : Cx} {CL : ClA} {c : Expr} {f : Rho → R Bool} (h : SB X CL W0 c f) : STs X CL [c] f := fun A pins s σ H Q I q => pts_one (h A) pins s σ H Q I q
section
variable {X : Cx} {CL : ClA} {W : XW} {tg iter elt : Expr} {ifs : List Expr} {scope : Scope} {pos : Pos} {N' : List Str} {ts : List Nat} {fi : Rho → R (List D)} {fc : Rho → R Bool} {fe : Rho → R D} {as : D → Rho → R Rho} {g : TG}
theorem compD_cons_ok {g : D → R Bool} {f : D → R D} {x : D} {xs ys : List D} (h : compD g f (x :: xs) = .ok ys) : (g x = .ok false ∧ compD g f xs = .ok ys) ∨ ∃ y r, g x = .ok true ∧ f x = .ok y ∧ compD g f xs = .ok r ∧ ys = y :: r := by
  unfold compD at h
  cases e : g x with
  | bad => rw [e] at h; cases h
  | exn z => rw [e] at h; cases h
  | ok b =>
    rw [e, R.bind_ok] at h
    cases b with
    | false => exact .inl ⟨rfl, h⟩
    | true =>
      rw [if_pos rfl] at h
      cases e2 : f x with
      | bad => rw [e2] at h; cases h
      | exn z => rw [e2] at h; cases h
      | ok y =>
        rw [e2, R.bind_ok] at h
        cases e3 : compD g f xs with
        | bad => rw [e3] at h; cases h
        | exn z => rw [e3] at h; cases h
        | ok r =>
          rw [e3, R.bind_ok] at h
          cases h
          exact .inr ⟨y, r, rfl, rfl, rfl, rfl⟩
theorem bind_ok_of {α β : Type} {r : R α} {f : α → R β} {b : β} (h : r.bind f = .ok b) : ∃ a, r = .ok a ∧ f a = .ok b := by
  cases r with
  | ok a => exact ⟨a, rfl, h⟩
  | exn x => cases h
  | bad => cases h
theorem comp_data {A : Addr → Prop} {ρ : Rho} {σ : L2.St} {H1 : Hp} {J : It} {ds ys : List D} {Q : VK} {K : PySem.W.Frag} (hGG : GG K CL ts as g) (hA : AOk H1 A) (gd : Good K CL A ρ σ H1) (yl : Ylds K CL A ds J H1) (hz : ds.length ≤ sizeLine)
    (hcp : compD (fun x => (as x ρ).bind fc) (fun x => (as x ρ).bind fe) ds = .ok ys) (q : ∀ xs H2, Same H1 H2 → Reps K CL H2 A xs ys → ∀ p, H2 p = none → Q (.ref p) (upd H2 p (.lst xs))) :
    CompRest J ts g (fun σ H Q => AOk H A ∧ ∃ ρ, Good K CL A ρ σ H ∧ PostB W0 H (fc ρ) Q) (fun σ H Q => AOk H A ∧ ∃ ρ, Good K CL A ρ σ H ∧ Post (fun H => Rep K CL H A) W0 H (fe ρ) Q) σ H1 Q := by
  refine ⟨fun i m xs σ' H' => m = ds.length - i ∧ i ≤ ds.length ∧ xs.length ≤ i ∧ Same H1 H' ∧ Good K CL A (hideR ts ρ) σ' H' ∧ ∃ outs rest, Reps K CL H' A xs outs ∧ compD (fun x => (as x ρ).bind fc) (fun x => (as x ρ).bind fe) (ds.drop i) = .ok rest ∧ ys = outs ++ rest,
    ⟨ds.length, by simp, Nat.zero_le _, Nat.le_refl _, Same.refl _, gd.hideT ts, [], ys, trivial, hcp, rfl⟩, ?_⟩
  rintro i m xs σ' H' ⟨rfl, hi, hxl, sm, g', outs, rest, rs, hc, e⟩
  obtain ⟨yst, ygo⟩ := yl H' (Kp.of sm) i
  by_cases hlt : i < ds.length
  · have hd : ds[i]? = some ds[i] := List.getElem?_eq_getElem hlt
    obtain ⟨hgo, hyl⟩ := ygo _ hd
    refine .inr ⟨hgo, by omega, fun x H2 hx => ?_⟩
    obtain ⟨s2, rx⟩ := hyl x H2 hx
    have rx' := rx A (fun a ha => .inl ha) (hA.same sm)
    rw [List.drop_eq_getElem_cons hlt] at hc
    have sm2 := sm.trans s2
    rcases compD_cons_ok hc with ⟨h1, h2⟩ | ⟨y, r, h1, h2, h3, h4⟩
    · obtain ⟨ρ', ea, ec⟩ := bind_ok_of h1
      refine hGG A ρ σ' H2 x ds[i] ρ' _ (g'.same s2) rx' ea fun σ3 g3 g4 => ⟨hA.same sm2, ρ', g3, ?_⟩
      rw [ec]
      exact fun H3 s3 => by
        dsimp only
        rw [if_neg (by decide)]
        exact ⟨ds.length - (i + 1), by omega, rfl, hlt, by omega, sm2.trans s3, g4.same s3, outs, rest, (rs.same s2).same s3, h2, e⟩
    · obtain ⟨ρ', ea, ec⟩ := bind_ok_of h1
      obtain ⟨ρ2, ea2, ee⟩ := bind_ok_of h2
      rw [ea] at ea2
      cases ea2
      refine hGG A ρ σ' H2 x ds[i] ρ' _ (g'.same s2) rx' ea fun σ3 g3 g4 => ⟨hA.same sm2, ρ', g3, ?_⟩
      rw [ec]
      exact fun H3 s3 => by
        dsimp only
        rw [if_pos rfl]
        refine ⟨(hA.same sm2).same s3, ρ', g3.same s3, ?_⟩
        rw [ee]
        exact fun v H4 s4 r4 => ⟨ds.length - (i + 1), by omega, rfl, hlt, by rw [List.length_append, List.length_singleton]; omega, (sm2.trans s3).trans s4, (g4.same s3).same s4, outs ++ [y], r, (((rs.same s2).same s3).same s4).append ⟨r4, trivial⟩, h3, by rw [e, h4]; simp⟩
  · have hk' : ds.length ≤ i := by omega
    rw [List.drop_eq_nil_of_le hk'] at hc
    have hr : rest = [] := by cases hc; rfl
    subst hr
    rw [List.append_nil] at e
    subst e
    exact .inl ⟨yst hk', fun p hp => q xs H' sm rs p hp⟩
theorem PostI.ok_of {K : PySem.W.Frag} {A : Addr → Prop} {H : Hp} {r : R (List D)} {f : List D → R D} {Q : VK} {Q' : It → Hp → Prop} {Rq : Hp → V → D → Prop} (h : Post Rq W H (r.bind f) Q) (k : ∀ ds J H', r = .ok ds → Same H H' → Ylds K CL A ds J H' → ds.length ≤ sizeLine → Post Rq W H' (f ds) Q → Q' J H') : PostI K CL A W H r Q' := by
  cases r with
  | ok d => exact fun J H2 s2 y z => k d J H2 rfl s2 y z (Post.same s2 h)
  | exn x => exact h
  | bad => exact h
theorem noX_ok {α : Type} {r : R α} {a : α} (h : noX r = .ok a) : r = .ok a := by
  cases r with
  | ok b => exact h
  | exn x => cases h
  | bad => cases h
theorem comp_post {A : Addr → Prop} {ρ : Rho} {σ : L2.St} {H : Hp} {Q : VK} (hGG : GG X.K CL ts as g) (hA : AOk H A) (gd : Good X.K CL A ρ σ H)
    (p : Post (RepC X.K CL true H A) W H ((fi ρ).bind fun xs => (noX (compD (fun x => (as x ρ).bind fc) (fun x => (as x ρ).bind fe) xs)).bind fun ys => .ok (.lst ys)) Q) :
    PostI X.K CL A W H (fi ρ) (fun J H1 => CompRest J ts g (fun σ H Q => AOk H A ∧ ∃ ρ, Good X.K CL A ρ σ H ∧ PostB W0 H (fc ρ) Q) (fun σ H Q => AOk H A ∧ ∃ ρ, Good X.K CL A ρ σ H ∧ Post (fun H => Rep X.K CL H A) W0 H (fe ρ) Q) σ H1 Q) :=
  PostI.ok_of p fun ds J H1 e1 s1 yl hz p1 => by
    cases e2 : noX (compD (fun x => (as x ρ).bind fc) (fun x => (as x ρ).bind fe) ds) with
    | ok ys =>
      rw [e2] at p1
      exact comp_data hGG (hA.same s1) (gd.same s1) yl hz (noX_ok e2) fun xs H2 s2 rs q hq => p1 _ _ (s2.trans (same_new hq _)) (repC_new (s1.trans s2) ((hA.same s1).same s2) hq rs)
    | exn x => rw [e2] at p1; cases hq : compD (fun x => (as x ρ).bind fc) (fun x => (as x ρ).bind fe) ds <;> rw [hq] at e2 <;> cases e2
    | bad => rw [e2] at p1; exact p1.elim
theorem sc_comp (hc : X.calm = true) (B : BlockOk X scope N' ts) (hi : SI X CL W tg iter fi) (hGG : GG X.K CL ts as g) (hg : ∀ cl C s H fp, PG (cxC X scope cl C N' s H fp) tg g) (ht : ∀ cl C s H fp, STs (cxC X scope cl C N' s H fp) CL ifs fc) (he : ∀ cl C s H fp, SE (cxC X scope cl C N' s H fp) CL W0 elt fe)
    (hs : ∀ x, foldedSetIterable iter X.env x = pure x) : SC X CL W true (.ListComp elt [⟨tg, iter, ifs, 0⟩] scope pos) (fun ρ => (fi ρ).bind fun xs => (noX (compD (fun x => (as x ρ).bind fc) (fun x => (as x ρ).bind fe) xs)).bind fun ys => .ok (.lst ys)) := fun A pins s σ H Q I ⟨hA, ρ, gd, p⟩ =>
  pe_comp hc B (hi A) hg (fun cl C s H fp => ht cl C s H fp A) (fun cl C s H fp => he cl C s H fp A) hs pins s σ H Q I ⟨hA, ρ, gd, comp_post hGG hA gd p⟩
end
end Ov
end
section
set_option Elab.async false
set_option linter.all false
set_option maxRecDepth 100000
set_option maxHeartbeats 2000000
namespace Ov
open PySem PySem.Spec PyProof.Rows L2
section
variable {K : PySem.W.Frag} {CL : ClA} {Fz : Addr → HO → Prop} {B : Addr → Prop} {ρ : Rho} {σ : L2.St} {H H' : Hp}
theorem Sx.setF (x : Sx K CL Fz B ρ σ H) (s : Same H H') {i : Nat} {a : Addr} {xs : List V} {ds : List D} (h0 : H a = none) (h1 : H' a = some (.lst xs)) (r : Reps K CL H' (fun b => OwnA B ρ σ b ∨ b = a) xs ds) : Sx K CL Fz B (ρ.set i (some (.lst ds, true))) (σ.set i (some (.ref a))) H' := by
  have nA : ¬ OwnA B ρ σ a := x.aok.new h0
  have own : ∀ (j : Nat) (e : D), (ρ.set i (some (.lst ds, true)))[j]? = some (some (e, true)) → (i = j ∧ e = .lst ds) ∨ (i ≠ j ∧ ρ[j]? = some (some (e, true))) := fun j e h => by
    by_cases hj : i = j
    · subst hj
      have := get_set_self h
      cases this
      exact .inl ⟨rfl, rfl⟩
    · exact .inr ⟨hj, by rw [get_set_ne hj] at h; exact h⟩
  have atI : ∀ {j : Nat} {y : Sl}, (ρ.set i (some (.lst ds, true)))[j]? = some y → i = j → (σ.set i (some (.ref a)))[j]? = some (some (.ref a)) := fun {j y} h e => by
    subst e
    have hl : i < σ.length := by
      rw [← x.len]
      have := (List.getElem?_eq_some_iff.mp h).1
      simpa using this
    rw [List.getElem?_set_self hl]
  have sub : ∀ b, OwnA B (ρ.set i (some (.lst ds, true))) (σ.set i (some (.ref a))) b → OwnA B ρ σ b ∨ b = a := fun b h => by
    rcases h with h | ⟨j, e, h1, h2⟩
    · exact .inl (.inl h)
    · rcases own j e h1 with ⟨hj, _⟩ | ⟨hj, h1'⟩
      · rw [atI h1 hj] at h2
        cases h2
        exact .inr rfl
      · rw [get_set_ne hj] at h2
        exact .inl (.inr ⟨j, e, h1', h2⟩)
  have wide : ∀ {v : V} {d : D}, Rep K CL H (OwnA B ρ σ) v d → Rep K CL H' (OwnA B (ρ.set i (some (.lst ds, true))) (σ.set i (some (.ref a)))) v d := fun r => (Rep.wide (fun b hb => (sub b hb).imp id fun e => by rw [e]; exact h0) _ r).same s
  have wides : ∀ {v : List V} {d : List D}, Reps K CL H (OwnA B ρ σ) v d → Reps K CL H' (OwnA B (ρ.set i (some (.lst ds, true))) (σ.set i (some (.ref a)))) v d := fun r => (Reps.wide (fun b hb => (sub b hb).imp id fun e => by rw [e]; exact h0) _ r).same s
  refine ⟨⟨fun j e h => ?_, fun j e h => ?_, by rw [List.length_set, List.length_set]; exact x.len⟩, fun b h => ?_, fun j e b g1 g2 => ?_, fun j k e f b g1 g2 g3 g4 => ?_, fun b o z => s _ _ (x.same b o z), by rw [List.length_set, List.length_set]; exact x.len⟩
  · have hj : i ≠ j := by
      rintro rfl
      have := get_set_self h
      cases this
    rw [get_set_ne hj] at h
    obtain ⟨w', q, rw'⟩ := x.good.sh j e h
    exact ⟨w', by rw [get_set_ne hj]; exact q, wide rw'⟩
  · rcases own j e h with ⟨hj, rfl⟩ | ⟨hj, h'⟩
    · have q := atI h hj
      exact ⟨a, xs, ds, q, rfl, .inr ⟨j, _, h, q⟩, h1, Reps.sub sub _ r⟩
    · obtain ⟨b, ys, es, q, z, ha, hh, rr⟩ := x.good.ow j e h'
      have q' : (σ.set i (some (.ref a)))[j]? = some (some (.ref b)) := by rw [get_set_ne hj]; exact q
      exact ⟨b, ys, es, q', z, .inr ⟨j, e, h, q'⟩, s _ _ hh, wides rr⟩
  · rcases sub b h with z | z
    · obtain ⟨ys, q⟩ := x.aok b z
      exact ⟨ys, s _ _ q⟩
    · rw [z]; exact ⟨xs, h1⟩
  · rcases own j e g1 with ⟨hj, _⟩ | ⟨hj, h'⟩
    · rw [atI g1 hj] at g2
      cases g2
      refine ⟨fun o z => ?_, fun z => nA (.inl z)⟩
      have := x.same a o z
      rw [h0] at this; cases this
    · rw [get_set_ne hj] at g2
      exact x.new j e b h' g2
  · rcases own j e g1 with ⟨hj, _⟩ | ⟨hj, h'⟩
    · rw [atI g1 hj] at g3
      cases g3
      rcases own k f g2 with ⟨hk, _⟩ | ⟨hk, h''⟩
      · exact hj.symm.trans hk
      · rw [get_set_ne hk] at g4
        exact absurd (.inr ⟨k, f, h'', g4⟩) nA
    · rw [get_set_ne hj] at g3
      rcases own k f g2 with ⟨hk, _⟩ | ⟨hk, h''⟩
      · rw [atI g2 hk] at g4
        cases g4
        exact absurd (.inr ⟨j, e, h', g3⟩) nA
      · rw [get_set_ne hk] at g4
        exact x.dis j k e f b h' h'' g3 g4
theorem Sx.upd (x : Sx K CL Fz B ρ σ H) {i : Nat} {d : D} {a : Addr} {xs : List V} {ds : List D} (hi : ρ[i]? = some (some (d, true))) (ha : σ[i]? = some (some (.ref a))) (r : Reps K CL H (OwnA B ρ σ) xs ds) : Sx K CL Fz B (ρ.set i (some (.lst ds, true))) σ (L2.upd H a (.lst xs)) := by
  have oa : OwnA B ρ σ a := .inr ⟨i, d, hi, ha⟩
  have hil : i < ρ.length := (List.getElem?_eq_some_iff.mp hi).1
  have get : ∀ (j : Nat) (e : D), (ρ.set i (some (.lst ds, true)))[j]? = some (some (e, true)) ↔ (i = j ∧ e = .lst ds) ∨ (i ≠ j ∧ ρ[j]? = some (some (e, true))) := fun j e => by
    by_cases hj : i = j
    · subst hj
      rw [List.getElem?_set_self hil]
      simp
      exact ⟨fun z => z.symm, fun z => z.symm⟩
    · rw [get_set_ne hj]; simp [hj]
  have same : ∀ b, OwnA B (ρ.set i (some (.lst ds, true))) σ b ↔ OwnA B ρ σ b := fun b => by
    constructor
    · rintro (h | ⟨j, e, h1, h2⟩)
      · exact .inl h
      · rcases (get j e).mp h1 with ⟨rfl, _⟩ | ⟨_, h1⟩
        · exact .inr ⟨i, d, hi, h2⟩
        · exact .inr ⟨j, e, h1, h2⟩
    · rintro (h | ⟨j, e, h1, h2⟩)
      · exact .inl h
      · by_cases hj : i = j
        · subst hj
          exact .inr ⟨i, .lst ds, (get i _).mpr (.inl ⟨rfl, rfl⟩), h2⟩
        · exact .inr ⟨j, e, (get j e).mpr (.inr ⟨hj, h1⟩), h2⟩
  have kp : Kp (OwnA B ρ σ) H (L2.upd H a (.lst xs)) := fun b o e na => by
    have hne : b ≠ a := by
      rintro rfl
      exact na oa
    rw [upd_ne hne]; exact e
  refine ⟨⟨fun j e h => ?_, fun j e h => ?_, by rw [List.length_set]; exact x.len⟩, fun b h => ?_, fun j e b g1 g2 => ?_, fun j k e f b g1 g2 g3 g4 => ?_, fun b o z => ?_, by rw [List.length_set]; exact x.len⟩
  · have hj : i ≠ j := by
      rintro rfl
      have := get_set_self h
      cases this
    rw [get_set_ne hj] at h
    obtain ⟨w', q, rw'⟩ := x.good.sh j e h
    exact ⟨w', q, Rep.sub (fun b hb => (same b).mp hb) _ (Rep.kp kp _ rw')⟩
  · rcases (get j e).mp h with ⟨rfl, rfl⟩ | ⟨hj, h'⟩
    · exact ⟨a, xs, ds, ha, rfl, (same a).mpr oa, upd_same, Reps.sub (fun b hb => (same b).mp hb) _ (Reps.kp kp _ r)⟩
    · obtain ⟨b, ys, es, q, z, hb, hh, rr⟩ := x.good.ow j e h'
      have hne : b ≠ a := fun z => hj (x.dis i j d e a hi h' ha (z ▸ q))
      exact ⟨b, ys, es, q, z, (same b).mpr hb, by rw [upd_ne hne]; exact hh, Reps.sub (fun b hb => (same b).mp hb) _ (Reps.kp kp _ rr)⟩
  · obtain ⟨ys, q⟩ := x.aok b ((same b).mp h)
    by_cases e : b = a
    · rw [e]; exact ⟨xs, upd_same⟩
    · exact ⟨ys, by rw [upd_ne e]; exact q⟩
  · rcases (get j e).mp g1 with ⟨rfl, _⟩ | ⟨_, h'⟩
    · exact x.new i d b hi g2
    · exact x.new j e b h' g2
  · rcases (get j e).mp g1 with ⟨rfl, _⟩ | ⟨hj, h'⟩
    · rcases (get k f).mp g2 with ⟨rfl, _⟩ | ⟨hk, h''⟩
      · rfl
      · exact x.dis i k d f b hi h'' g3 g4
    · rcases (get k f).mp g2 with ⟨rfl, _⟩ | ⟨hk, h''⟩
      · exact x.dis j i e d b h' hi g3 g4
      · exact x.dis j k e f b h' h'' g3 g4
  · have hne : b ≠ a := fun e => (x.new i d a hi ha).1 o (e ▸ z)
    rw [upd_ne hne]
    exact x.same b o z
theorem Sx.rel (x : Sx K CL Fz B ρ σ H) {i : Nat} {d : D} (hi : ρ[i]? = some (some (d, true))) : Sx K CL Fz B (ρ.set i (some (d, false))) σ H := by
  obtain ⟨a, xs, ds, q, rfl, oa, hh, rr⟩ := x.good.ow i d hi
  have own : ∀ (j : Nat) (e : D), (ρ.set i (some (.lst ds, false)))[j]? = some (some (e, true)) → i ≠ j ∧ ρ[j]? = some (some (e, true)) := fun j e h => by
    by_cases hj : i = j
    · subst hj
      have := get_set_self h
      cases this
    · exact ⟨hj, by rw [get_set_ne hj] at h; exact h⟩
  have sub : ∀ b, OwnA B (ρ.set i (some (.lst ds, false))) σ b → OwnA B ρ σ b := fun b h => by
    rcases h with h | ⟨j, e, h1, h2⟩
    · exact .inl h
    · exact .inr ⟨j, e, (own j e h1).2, h2⟩
  have na : ¬ OwnA B (ρ.set i (some (.lst ds, false))) σ a := fun h => by
    rcases h with h | ⟨j, e, h1, h2⟩
    · exact (x.new i _ a hi q).2 h
    · obtain ⟨hj, h1⟩ := own j e h1
      exact hj (x.dis i j _ e a hi h1 q h2)
  refine ⟨⟨fun j e h => ?_, fun j e h => ?_, by rw [List.length_set]; exact x.len⟩, fun b h => x.aok b (sub b h), fun j e b g1 g2 => x.new j e b (own j e g1).2 g2, fun j k e f b g1 g2 g3 g4 => x.dis j k e f b (own j e g1).2 (own k f g2).2 g3 g4, x.same, by rw [List.length_set]; exact x.len⟩
  · by_cases hj : i = j
    · subst hj
      have e1 := get_set_self h
      cases e1
      exact ⟨_, q, a, xs, rfl, .inl na, SqL.of hh, Reps.sub sub _ rr⟩
    · rw [get_set_ne hj] at h
      obtain ⟨w', q', rw'⟩ := x.good.sh j e h
      exact ⟨w', q', Rep.sub sub _ rw'⟩
  · obtain ⟨hj, h'⟩ := own j e h
    obtain ⟨b, ys, es, q', z, hb, hh', rr'⟩ := x.good.ow j e h'
    exact ⟨b, ys, es, q', z, .inr ⟨j, e, h, q'⟩, hh', Reps.sub sub _ rr'⟩
end
section
variable {X : Cx} {CL : ClA} {W : XW} {pos : Pos} {e : Expr} {fe : Rho → R D} {fr : Bool}
theorem PostSt.exC {Fz : Addr → HO → Prop} {B : Addr → Prop} {ρ : Rho} {σ : L2.St} {H : Hp} {r : R D} {f : D → O} {D' : Ends} {Q : VK} {A : Addr → Prop} (x : Sx X.K CL Fz B ρ σ H) (h : PostSt X.K CL Fz B W (O.of ρ r f) D')
    (k : ∀ d v H', r = .ok d → Same H H' → RepC X.K CL fr H A H' v d → Sx X.K CL Fz B ρ σ H' → PostSt X.K CL Fz B W (f d) D' → Q v H') : Post (RepC X.K CL fr H A) W H r Q := by
  cases r with
  | ok d => exact fun v H' s r => k d v H' rfl s r (x.grow s) h
  | exn y => exact fun H' s => h H' fun b o z => s _ _ (x.same b o z)
  | bad => exact h
noncomputable def SAs (X : Cx) (CL : ClA) (W : XW) (fr : Bool) (i : Nat) (st : Stmt) (f : Rho → R D) : Prop := ∀ A, PS X st (tAsg (fun σ H Q => AOk H A ∧ ∃ ρ, Good X.K CL A ρ σ H ∧ Post (RepC X.K CL fr H A) W H (f ρ) Q) (gName i))
theorem SC.sas {i : Nat} {n : Str} {pos' : Pos} (hN : X.N.Nodup) (hi : X.N[i]? = some n) (hx : Loc X.env.scope n) (he : SC X CL W fr e fe) (hs : swapsWith e (some (.Name n pos')) pos.line X.env = pure false) (hf : X.fn n = true ∨ X.env.scope.names.lookup n = some .local) : SAs X CL W fr i (.Assign [.Name n pos'] e pos) fe :=
  fun A => ps_set hN hi hx (he A) hs hf
theorem sas_comp {i : Nat} {n : Str} {pos' pos2 : Pos} {tg iter elt : Expr} {ifs : List Expr} {scope : Scope} {N' : List Str} {ts : List Nat} {fi : Rho → R (List D)} {fc : Rho → R Bool} {fe : Rho → R D} {as : D → Rho → R Rho} {g : TG} (hc : X.calm = true) (B : BlockOk X scope N' ts) (hi : SI X CL W tg iter fi) (hGG : GG X.K CL ts as g) (hg : ∀ cl C s H fp, PG (cxC X scope cl C N' s H fp) tg g) (ht : ∀ cl C s H fp, STs (cxC X scope cl C N' s H fp) CL ifs fc) (he : ∀ cl C s H fp, SE (cxC X scope cl C N' s H fp) CL W0 elt fe)
    (hs : ∀ x, foldedSetIterable iter X.env x = pure x) (hN : X.N.Nodup) (hni : X.N[i]? = some n) (hx : X.env.scope.names.lookup n = some .local) (hsw : swapsWith (.ListComp elt [⟨tg, iter, ifs, 0⟩] scope pos) (some (.Name n pos')) pos2.line X.env = pure true) :
    SAs X CL W true i (.Assign [.Name n pos'] (.ListComp elt [⟨tg, iter, ifs, 0⟩] scope pos) pos2) (fun ρ => (fi ρ).bind fun xs => (noX (compD (fun x => (as x ρ).bind fc) (fun x => (as x ρ).bind fe) xs)).bind fun ys => .ok (.lst ys)) := fun A pins s σ H Dn I ⟨hA, ρ, gd, p⟩ =>
  ps_setC hc B (hi A) hg (fun cl C s H fp => ht cl C s H fp A) (fun cl C s H fp => he cl C s H fp A) hs hN hni hx hsw pins s σ H Dn I ⟨hA, ρ, gd, comp_post hGG hA gd p⟩
theorem ss_asg {i : Nat} {st : Stmt} (h : SAs X CL W fr i st fe) : SS X CL W st (fun ρ => O.of ρ (fe ρ) fun d => .next (ρ.set i (some (d, false)))) := fun Fz B pins s σ H D I ⟨ρ, x, p⟩ =>
  h (OwnA B ρ σ) pins s σ H D I ⟨x.aok, ρ, x.good, PostSt.exC x p fun d v H' _ s r x' q => q _ H' (x'.set i r.1)⟩
theorem ss_asgF {i : Nat} {st : Stmt} (h : SAs X CL W true i st fe) : SS X CL W st (fun ρ => O.of ρ (fe ρ) fun d => setF ρ i d) := fun Fz B pins s σ H D I ⟨ρ, x, p⟩ =>
  h (OwnA B ρ σ) pins s σ H D I ⟨x.aok, ρ, x.good, PostSt.exC x p fun d v H' _ s r x' q => by
    cases d with
    | lst ds =>
      obtain ⟨a, xs, rfl, h0, h1, rs⟩ := r.2 rfl ds rfl
      exact q _ H' (x.setF s h0 h1 rs)
    | dic ds => exact r.1.elim
    | _ => exact q.elim⟩
theorem ss_retC (he : SC X CL W true e fe) : SS X CL W (.Return (some e) pos) (fun ρ => O.of ρ (fe ρ) fun d => .ret d true) := fun Fz B pins s σ H D I ⟨ρ, x, p⟩ =>
  ps_ret (he (OwnA B ρ σ)) pins s σ H D I ⟨x.aok, ρ, x.good, PostSt.exC x p fun d v H' _ s r x' q => q v H' x'.same (Rep.sub (fun a h => .inl h) _ r.1) fun _ ds e => by
    obtain ⟨a, xs, h0, h1, h2, h3⟩ := r.2 rfl ds e
    refine ⟨a, xs, h0, fun o z => ?_, h2, Reps.sub (fun b hb => hb.imp .inl id) _ h3⟩
    have := x.same a o z
    rw [h1] at this; cases this⟩
noncomputable def ownB (ρ : Rho) (i : Nat) : Bool := match ρ[i]? with
  | some (some (_, o)) => o
  | _ => false
theorem ss_retV {i : Nat} {e : Expr} (he : PE X e (tVar i)) : SS X CL W (.Return (some e) pos) (fun ρ => O.of ρ (varT ρ i) fun d => .ret d (ownB ρ i)) := fun Fz B pins s σ H D I ⟨ρ, x, p⟩ =>
  ps_ret he pins s σ H D I (by
    dsimp only at p
    cases e : varT ρ i with
    | bad => rw [e] at p; exact p.elim
    | exn z => exact (varT_nex e).elim
    | ok d =>
      rw [e] at p
      obtain ⟨o, e⟩ := varT_ok e
      have eo : ownB ρ i = o := by unfold ownB; rw [e]
      rw [O.of_ok, eo] at p
      cases o with
      | false =>
        obtain ⟨v, q, r⟩ := x.good.sh i d e
        exact ⟨v, q, p v H x.same (Rep.sub (fun a h => .inl h) _ r) fun z => nomatch z⟩
      | true =>
        obtain ⟨a, xs, ds, q, rfl, ha, hh, r⟩ := x.good.ow i d e
        obtain ⟨n1, n2⟩ := x.new i _ a e q
        refine ⟨_, q, p _ H x.same ⟨a, xs, rfl, .inl n2, SqL.of hh, Reps.sub (fun a h => .inl h) _ r⟩ fun _ ds' e' => ?_⟩
        cases e'
        exact ⟨a, xs, rfl, n1, hh, Reps.sub (fun b hb => hb.elim .inl fun z => z ▸ ha) _ r⟩)
theorem ownL_ok {ρ : Rho} {i : Nat} {ds : List D} (h : ownL ρ i = .ok ds) : ρ[i]? = some (some (.lst ds, true)) := by
  unfold ownL at h
  split at h
  · rename_i e; cases h; exact e
  · cases h
theorem ownL_nex {ρ : Rho} {i : Nat} {x : Ex} (h : ownL ρ i = .exn x) : False := by
  unfold ownL at h
  split at h <;> cases h
variable {o : Expr} {i : Nat} {apos cpos : Pos}
theorem ss_app (ho : PE X o (tVar i)) (he : SE X CL W e fe) (hbase : attributeBase o "append" X.env (eval o X.env) = eval o X.env) (hfew : ((backTo cpos (starEach [e] X.env)).all (fun x => !x.1) && (backToKw cpos (keywordEach [] X.env)).all (fun x => x.1.isSome) && decide ([e].length + ([] : List Keyword).length + (if ([] : List Keyword).isEmpty then 0 else 1) < 30)) = true)
    (hline : (apos.endLine == cpos.line) = true) (hs : starEach [e] X.env = [(false, eval e X.env)]) (hsw : swapsWith (.Call (.Attribute o "append" apos) [e] [] cpos) none pos.line X.env = pure false) :
    SS X CL W (.Expr (.Call (.Attribute o "append" apos) [e] [] cpos) pos) (fun ρ => O.of ρ (ownL ρ i) fun xs => O.of ρ (fe ρ) fun d => if szOk (xs.length + 1) = true then .next (ρ.set i (some (.lst (xs ++ [d]), true))) else .bad) := fun Fz B pins s σ H D I ⟨ρ, x, p⟩ => by
  refine ps_expr (pe_bm PySem.F.plainAttrs_list PySem.F.slot_list_append PySem.F.type_list_append mt_append ho (pa_cons (he (OwnA B ρ σ)) pa_nil hs) hbase hfew hline hs rfl) hsw pins s σ H D I ?_
  dsimp only at p
  cases e1 : ownL ρ i with
  | bad => rw [e1] at p; exact p.elim
  | exn z => exact (ownL_nex e1).elim
  | ok ds =>
    rw [e1, O.of_ok] at p
    have hi := ownL_ok e1
    obtain ⟨a, xs, ds', q, e2, ha, hh, r⟩ := x.good.ow i _ hi
    cases e2
    refine ⟨_, q, .inl ⟨rfl, xs, SqL.of hh⟩, x.aok, ρ, x.good, PostSt.ex x p fun d v H' _ s rv x' q' => ?_⟩
    split at q'
    · rename_i hz
      refine ⟨a, xs, v, rfl, rfl, s _ _ hh, ?_, q' _ _ (x'.upd hi q ((r.same s).append ⟨rv, trivial⟩))⟩
      have := szOk_line hz
      rw [r.length]; omega
    · exact q'.elim
theorem ss_put {k : Expr} {fk : Rho → R Ov.D} {spos : Pos} (ho : PE X o (tVar i)) (hk : ST X CL W k fk) (he : SE X CL W e fe) (ha : ∀ v, assign (.Subscript o k spos) X.env v = (do
      let ov ← holding [v] (eval o X.env)
      let iv ← holding [v, ov] (eval k X.env)
      standAt spos
      holding [v, ov, iv] (setItem ov iv v)
      release [v, ov, iv] [])) (hs : swapsWithSole [.Subscript o k spos] e pos.line X.env = pure false) (hw : swappedStores [.Subscript o k spos] e X.env = pure none) (h1 : (assignEach [.Subscript o k spos] X.env).map (·.2) = [assign (.Subscript o k spos) X.env]) :
    SS X CL W (.Assign [.Subscript o k spos] e pos) (fun ρ => O.of ρ (fe ρ) fun d => O.of ρ (ownL ρ i) fun xs => O.of ρ ((fk ρ).bind asInt) fun j => match plD xs.length j with
      | some n => .next (ρ.set i (some (.lst (xs.set n d), true)))
      | none => .bad) := fun Fz B pins s σ H D I ⟨ρ, x, p⟩ =>
  ps_asg (he (OwnA B ρ σ)) (pg_sub ho (hk (OwnA B ρ σ)) set_list ha) hs hw h1 pins s σ H D I ⟨x.aok, ρ, x.good, PostSt.ex x p fun d v H' _ s rv x' q' => by
    cases e1 : ownL ρ i with
    | bad => rw [e1] at q'; exact q'.elim
    | exn z => exact (ownL_nex e1).elim
    | ok ds =>
      rw [e1, O.of_ok] at q'
      have hi := ownL_ok e1
      obtain ⟨a, xs, ds', q, e2, ha, hh, r⟩ := x'.good.ow i _ hi
      cases e2
      refine ⟨_, q, x'.aok, ρ, x'.good, ?_⟩
      cases e3 : fk ρ with
      | bad => rw [e3] at q'; exact q'.elim
      | exn z => rw [e3] at q'; exact fun H2 s2 => q' H2 fun b o z => s2 _ _ (x'.same b o z)
      | ok dk =>
        rw [e3] at q'
        intro y H2 s2 ry
        cases dk with
        | int j =>
          have ey := ry.int_of
          subst ey
          rw [R.bind_ok, asInt_int, O.of_ok] at q'
          cases e4 : plD ds.length j with
          | none => rw [e4] at q'; exact q'.elim
          | some n =>
            rw [e4] at q'
            refine ⟨a, xs, j, n, rfl, rfl, s2 _ _ hh, ?_, q' _ _ ((x'.grow s2).upd hi q (Reps.set (rv.same s2) n (r.same s2)))⟩
            rw [r.length]; exact e4
        | _ => exact q'.elim⟩
theorem sss_rel {rest : List Stmt} {f : Rho → O} (i : Nat) (h : SSs X CL W rest f) : SSs X CL W rest (fun ρ => (match ρ[i]? with
      | some (some (d, true)) => O.next (ρ.set i (some (d, false)))
      | _ => O.next ρ).seq f) := fun Fz B => PSs.weak (h Fz B) fun D σ H ⟨ρ, x, p⟩ => by
  dsimp only at p
  split at p
  · rename_i d e
    exact ⟨_, x.rel e, p⟩
  · exact ⟨ρ, x, p⟩
end
end Ov
end
section
set_option Elab.async false
set_option linter.all false
set_option maxRecDepth 100000
set_option maxHeartbeats 4000000
namespace Ov
open PySem PySem.Spec PyProof.Rows L2
section
variable {prog : Program} {w : World} {A : Around} {E : Value → Shared → Prop} {s : Shared}
theorem nx_tup {j t : Addr} {k : Nat} {its : Array Value} {x : Value} {Q : Value → Shared → Prop} (st : s.heap.IsTupleIter j t k) (sq : s.heap.IsTuple t its) (at_ : its[k]? = some x)
    (go : ∀ h2, h2.IsTupleIter j t (k + 1) → Heap.SameBut j s.heap h2 → Q x { s with heap := h2 }) : wpAny (model prog w) A (Builtin.SmallTypes.nextOf (.ref j)) Q E s := by
  obtain ⟨oj, gj, cj, dj⟩ := id st
  obtain ⟨ot, gt, _, nt, dt⟩ := sq
  show wpAny _ _ (callSpecial? _ _ >>= _) _ _ _
  refine wpAny_bind (wpAny_callSpecial?_slot st.typeIs F.slot_tuple_iterator_next (wpAny_call_entry F.slot_tuple_iterator_next st.typeIs F.entry_tuple_iterator_next ?_ (F.args_tuple_iterator_next_1 _)))
  show wpAny _ _ (field (.ref j) 0 >>= _) _ _ _
  refine wpAny_bind (wpAny_field gj dj (x := .ref t) rfl ?_)
  show wpAny _ _ (field (.ref j) 1 >>= _) _ _ _
  refine wpAny_bind (wpAny_field gj dj (x := .int k 0) rfl ?_)
  refine wpAny_bind (wpAny_seqItems gt dt ?_)
  simp only [Int.toNat_natCast, at_]
  exact wpAny_bind (wpAny_setField gj dj (by simp) (wpAny_pure ⟨x, rfl, wpAny_pure (go _ ⟨_, Heap.get?_update_self _ gj (Obj.isFreed_of_fields (Obj.data_mapFields dj _)), (Obj.cls_mapFields ..).trans cj, by rw [Obj.data_mapFields dj]; simp [rawInt]⟩ (Heap.SameBut.update ..))⟩))
theorem nx_tupEnd {j t : Addr} {k : Nat} {its : Array Value} {Q : Value → Shared → Prop} (calm : A.handled = none) (st : s.heap.IsTupleIter j t k) (sq : s.heap.IsTuple t its) (at_ : its[k]? = none)
    (up : ∀ h2 e, Heap.ExtBut j s.heap h2 → (∃ o, h2.get? e = some o ∧ o.cls = .type "StopIteration") → E (.ref e) { s with heap := h2 }) : wpAny (model prog w) A (Builtin.SmallTypes.nextOf (.ref j)) Q E s := by
  obtain ⟨oj, gj, cj, dj⟩ := id st
  obtain ⟨ot, gt, _, nt, dt⟩ := sq
  show wpAny _ _ (callSpecial? _ _ >>= _) _ _ _
  refine wpAny_bind (wpAny_callSpecial?_slot st.typeIs F.slot_tuple_iterator_next (wpAny_call_entry F.slot_tuple_iterator_next st.typeIs F.entry_tuple_iterator_next ?_ (F.args_tuple_iterator_next_1 _)))
  show wpAny _ _ (field (.ref j) 0 >>= _) _ _ _
  refine wpAny_bind (wpAny_field gj dj (x := .ref t) rfl ?_)
  show wpAny _ _ (field (.ref j) 1 >>= _) _ _ _
  refine wpAny_bind (wpAny_field gj dj (x := .int k 0) rfl ?_)
  refine wpAny_bind (wpAny_seqItems gt dt ?_)
  simp only [Int.toNat_natCast, at_]
  refine wpAny_bind (wpAny_rule (wpAny_bind (wpAny_setField gj dj (by simp) ?_)))
  refine wpAny_bind ?_
  simp only [newExc, newTuple]
  refine wpAny_bind (wpAny_newObj_type ?_ (by size_fits))
  refine wpAny_bind (m := firstArgMember _ _) (wpAny_of_eq (a := .none) (by first | rfl | (simp only [firstArgMember]; rfl)) (wpAny_newObj_type ?_ (by size_fits)))
  simp only [raiseNew]
  refine wpAny_bind (wpAny_handled ?_)
  first | rw [show A.in1.handled = none from calm] | rw [calm]
  exact wpAny_bind (wpAny_pure (wpAny_throw (up _ _ (((Heap.SameBut.update ..).extBut.push _).push _) ⟨_, Heap.get?_push_size _ rfl, rfl⟩)))
end
structure Dw (prog : Program) (w : World) (A : Around) (j : Addr) (fp : List Addr) (n : Nat) (P : Nat → Value → Prop) (S : Nat → Heap → Prop) : Prop where
  frame : ∀ i h h2, S i h → (∀ c ∈ fp, ∀ o, h.get? c = some o → h2.get? c = some o) → S i h2
  item : ∀ i (s : Shared) (Q : Value → Shared → Prop) (E : Value → Shared → Prop), i < n → S i s.heap → (∀ x h2 tk, P i x → S (i + 1) h2 → Heap.SameBut j s.heap h2 → Q x { s with heap := h2, toks := tk }) → wpAny (model prog w) A (Builtin.SmallTypes.nextOf (.ref j)) Q E s
  done : ∀ i (s : Shared) (Q : Value → Shared → Prop) (E : Value → Shared → Prop), n ≤ i → S i s.heap → (∀ h2 e, Heap.ExtBut j s.heap h2 → (∃ o, h2.get? e = some o ∧ o.cls = .type "StopIteration") → E (.ref e) { s with heap := h2 }) → wpAny (model prog w) A (Builtin.SmallTypes.nextOf (.ref j)) Q E s
noncomputable def IsIt (t : Bool) (h : Heap) (j l : Addr) (i : Nat) : Prop := match t with
  | true => h.IsTupleIter j l i
  | false => h.IsListIter j l i
noncomputable def IsSq (t : Bool) (h : Heap) (l : Addr) (its : Array Value) : Prop := match t with
  | true => h.IsTuple l its
  | false => h.IsList l its
theorem dw_of {prog : Program} {w : World} {A : Around} (calm : A.handled = none) (t : Bool) (j l : Addr) (ne : l ≠ j) (its : Array Value) : Dw prog w A j [j, l] its.size (fun i v => its[i]? = some v) (fun i h => IsIt t h j l i ∧ IsSq t h l its) := by
  cases t with
  | true => exact ⟨fun _ _ _ z k => ⟨z.1.at fun o e => k j (by simp) o e, z.2.at fun o e => k l (by simp) o e⟩, fun i s Q E hi z q => nx_tup z.1 z.2 (x := its[i]) (by simp [hi]) fun h2 z2 sb => q _ h2 s.toks (by simp [hi]) ⟨z2, z.2.extBut sb.extBut ne⟩ sb, fun i s Q E hi z q => nx_tupEnd calm z.1 z.2 (by simp [hi]) q⟩
  | false => exact ⟨fun _ _ _ z k => ⟨z.1.at fun o e => k j (by simp) o e, z.2.at fun o e => k l (by simp) o e⟩, fun i s Q E hi z q => wpAny_nextOf_list_item z.1 z.2 (x := its[i]) (by simp [hi]) fun h2 z2 sb => q _ h2 s.toks (by simp [hi]) ⟨z2, z.2.extBut sb.extBut ne⟩ sb, fun i s Q E hi z q => wpAny_nextOf_list_end calm z.1 z.2 (by simp [hi]) q⟩
theorem nij {I i j : Nat} (h : i ≠ j) : I + i ≠ I + j := by omega
section
variable {prog : Program} {w : World} {A : Around} {E : Value → Shared → Prop} {s : Shared}
end
noncomputable def SqX (t : Bool) (K : PySem.W.Frag) (H : Hp) (a : Addr) (xs : List V) : Prop := match t with
  | true => SqT K H a xs
  | false => SqL K H a xs
theorem inv_sq {X : Cx} {pins : List (Addr × Obj)} {σ : L2.St} {H : Hp} {s : Shared} {t : Bool} {a : Addr} {xs : List V} (I : Inv X pins σ H s) (h : SqX t X.K H a xs) : ∃ its : List Value, Vals xs its ∧ IsSq t s.heap a its.toArray ∧ xs.length ≤ sizeLine := by
  cases t with
  | true =>
    obtain ⟨its, rv, p, z⟩ := I.tuple h
    exact ⟨its, rv, p, z⟩
  | false =>
    obtain ⟨its, rv, p, z⟩ := I.list h
    exact ⟨its, rv, p.isList, z⟩
theorem inv_sq_inj {X : Cx} {pins : List (Addr × Obj)} {σ : L2.St} {H : Hp} {s : Shared} {t : Bool} {a : Addr} {xs ys : List V} (I : Inv X pins σ H s) (h : SqX t X.K H a xs) (h2 : SqX t X.K H a ys) : xs = ys := by
  cases t with
  | true => exact I.tuple_inj h h2
  | false => exact I.list_inj h h2
theorem Inv.turnedL {X : Cx} {pins : List (Addr × Obj)} {σ : L2.St} {H : Hp} {s : Shared} {h' : Heap} {t' : Nat} (ch : List Addr) (I : Inv X pins σ H s) (k : ∀ b o, b ∉ ch → s.heap.get? b = some o → h'.get? b = some o) (hf : ∀ b ∈ ch, FpOk X pins H b) : Inv X pins σ H { s with heap := h', toks := t' } := by
  have nit : ∀ b u, H b = some u → b ∉ ch := fun b u e z => by rw [(hf b z).1] at e; cases e
  refine I.step (g' := s.gens) (d' := s.drawn) (ch := ch) (fun b hb => ⟨(hf b hb).2.2.2.1, (hf b hb).2.1, (hf b hb).2.2.2.2.1, (hf b hb).2.2.2.2.2⟩) (fun b o _ _ hc e _ => k b o hc e) (fun b o _ _ hc e _ => ⟨o.slots, k b o hc e⟩) (fun _ _ _ _ n => n)
    (fun b o hc e => ⟨o, k b o hc e⟩) (fun _ _ e => e) (fun _ _ _ e => e) (fun b ps e => ⟨#[], by rw [e]; simp⟩) (fun m ⟨o, es, ep, ho, r⟩ => ⟨o, es, ep, k _ o (fun z => (hf _ z).2.1 rfl) ho, r⟩) (fun b u e => (I.hok b u e).stay (fun c v hc q => k c v ?_ q) (fun _ q => q) fun _ _ q => q) I.bare
  rcases hc with z | z
  · rw [z]; exact nit b u e
  · exact nit c _ z
theorem IsIt.obj {t : Bool} {h : Heap} {j l : Addr} {i : Nat} (z : IsIt t h j l i) : ∃ o, h.get? j = some o ∧ ∀ v, o.data ≠ .cell v := by
  cases t with
  | true => obtain ⟨o, e, c, d⟩ := z; exact ⟨o, e, fun v z => by rw [d] at z; cases z⟩
  | false => obtain ⟨o, e, c, d⟩ := z; exact ⟨o, e, fun v z => by rw [d] at z; cases z⟩
theorem IsIt.at' {t : Bool} {h h2 : Heap} {j l : Addr} {i : Nat} (z : IsIt t h j l i) (k : ∀ o, h.get? j = some o → h2.get? j = some o) : IsIt t h2 j l i := by
  cases t with
  | true => exact PySem.Heap.IsTupleIter.at z k
  | false => exact PySem.Heap.IsListIter.at z k
section
variable {prog : Program} {w : World} {A : Around} {E : Value → Shared → Prop} {s : Shared}
noncomputable def itO (t : Bool) (l : Addr) : Obj := match t with
  | true => { cls := .type "tuple_iterator", data := .fields #[.ref l, .int 0 0] }
  | false => { cls := .type "list_iterator", data := .fields #[.ref l, .int 0 0] }
theorem it_sq {t : Bool} {l : Addr} {its : Array Value} {Q : Value → Shared → Prop} (h : IsSq t s.heap l its) (q : Q (.ref s.heap.objs.size) { s with heap := s.heap.push (itO t l) }) : wpAny (model prog w) A (pyIter (.ref l)) Q E s := by
  cases t with
  | true => exact wpAny_pyIter_tuple h q
  | false => exact wpAny_pyIter_list h q
theorem IsSq.push {t : Bool} {l : Addr} {its : Array Value} {h : Heap} (z : IsSq t h l its) (o : Obj) : IsSq t (h.push o) l its := by
  cases t with
  | true => exact PySem.Heap.IsTuple.at z fun _ e => Heap.get?_push_of_some _ e
  | false => exact PySem.Heap.IsList.at z fun _ e => Heap.get?_push_of_some _ e
theorem itO_is {t : Bool} {l j : Addr} {h : Heap} (e : h.get? j = some (itO t l)) : IsIt t h j l 0 := by
  cases t with
  | true => exact ⟨_, e, rfl, rfl⟩
  | false => exact ⟨_, e, rfl, rfl⟩
theorem itO_live (t : Bool) (l : Addr) : (itO t l).isFreed = false := by cases t <;> rfl
end
theorem IsSq.lt {t : Bool} {h : Heap} {a : Addr} {its : Array Value} (z : IsSq t h a its) : a < h.objs.size := by
  cases t with
  | true => obtain ⟨o, e, _⟩ := z; exact Heap.lt_size e
  | false => obtain ⟨o, e, _⟩ := z; exact Heap.lt_size e
theorem sq_of {K : PySem.W.Frag} {CL : ClA} {H : Hp} {A : Addr → Prop} {v : V} {d : D} {ds : List D} (r : Rep K CL H A v d) (e : asSeq d = .ok ds) : ∃ t a xs, v = .ref a ∧ (∀ H2, Kp A H H2 → SqX t K H2 a xs) ∧ Reps K CL H A xs ds := by
  cases d with
  | lst es =>
    cases e
    obtain ⟨q, xs, rfl, na, sq, r⟩ := r
    exact ⟨false, q, xs, rfl, fun H2 k => sql_kp k na sq, r⟩
  | tup es =>
    cases e
    obtain ⟨q, xs, rfl, na, sq, r⟩ := r
    exact ⟨true, q, xs, rfl, fun H2 k => sqt_kp k na sq, r⟩
  | _ => cases e
section
variable {X : Cx} {CL : ClA} {W : XW} {pos p : Pos} {a b : Expr} {fa fb : Rho → R D}
end
end Ov
end
section
set_option Elab.async false
set_option linter.all false
set_option maxRecDepth 100000
set_option maxHeartbeats 4000000
namespace Ov
open PySem PySem.Spec PyProof.Rows L2
theorem IsIt.keep {t : Bool} {h h2 : Heap} {j l i : Nat} (z : IsIt t h j l i) (k : ∀ o, h.get? j = some o → h2.get? j = some o) : IsIt t h2 j l i := by
  cases t with
  | true => exact PySem.Heap.IsTupleIter.at z k
  | false => exact PySem.Heap.IsListIter.at z k
section
variable {prog : Program} {w : World} {A : Around} {E : Value → Shared → Prop} {s : Shared}
end
section
variable {X : Cx} {CL : ClA} {W : XW} {pos p : Pos} {a : Expr} {fa : Rho → R D}
end
end Ov
end
section
set_option Elab.async false
set_option linter.all false
set_option maxRecDepth 100000
set_option maxHeartbeats 4000000
namespace Ov
open PySem PySem.Spec PyProof.Rows L2
noncomputable abbrev IsZg (h : Heap) (z TI TO : Addr) (f0 f1 : Value) : Prop := h.get? z = some { cls := .type "zip", dict := none, data := .fields #[f0, f1, .bool false, .ref TI, .ref TO], slots := #[] }
noncomputable abbrev IsTr (h : Heap) (T : Addr) (a b c : Value) : Prop := h.get? T = some { cls := .type "tuple", data := .seq #[a, b, c] }
section
variable {prog : Program} {w : World} {A : Around} {E : Value → Shared → Prop} {s : Shared}
theorem nb3 {I l c : Nat} {j : Nat} (b : l < I) (h : c ∈ [I + j, l]) (i : Nat) (hi : i ≠ j) : c ≠ I + i := by
  have h' : c = I + j ∨ c = l := by simpa using h
  omega
theorem zip_kept {z TI TO T1 : Nat} {f1 : Bool} {o1 : Obj} {Q : Bool → Shared → Prop} (hz : IsZg s.heap z TI TO (rawInt T1) (.bool f1)) (hT : s.heap.get? T1 = some o1) (go : ∀ h1, IsZg h1 z TI TO (rawInt T1) (.bool true) → (∀ c o, c ≠ z → s.heap.get? c = some o → h1.get? c = some o) → h1.objs.size = s.heap.objs.size → Q false { s with heap := h1 }) :
    wpAny (model prog w) A (Builtin.SmallTypes.ownedTupleIsFree (.ref z)) Q E s := by
  simp only [Builtin.SmallTypes.ownedTupleIsFree]
  refine wpAny_bind (wpAny_field hz rfl (x := rawInt T1) rfl ?_)
  show wpAny _ _ (loadIfAlive T1 >>= _) _ _ _
  refine wpAny_bind (fun Γ p _ => ?_)
  show wpAny _ _ _ _ _ _
  rw [hT]
  show wpAny _ _ (field (.ref z) 1 >>= _) _ _ _
  refine wpAny_bind (wpAny_field hz rfl (x := .bool f1) rfl ?_)
  cases f1 with
  | true => exact wpAny_pure (go s.heap hz (fun _ _ _ e => e) rfl)
  | false => exact wpAny_bind (wpAny_setField_rec hz (by simp) fun h1 z1 sb => wpAny_pure (go h1 z1 (fun c o nc e => sb.extBut c o nc e) sb.1))
theorem zip_free {z TI TO : Nat} {f0 f1 : Value} {Q : Bool → Shared → Prop} (hz : IsZg s.heap z TI TO f0 f1) (hf : f0 = .none ∨ ∃ T1 : Nat, f0 = rawInt T1 ∧ s.heap.get? T1 = none) (go : Q true s) : wpAny (model prog w) A (Builtin.SmallTypes.ownedTupleIsFree (.ref z)) Q E s := by
  simp only [Builtin.SmallTypes.ownedTupleIsFree]
  rcases hf with rfl | ⟨T1, rfl, hT⟩
  · exact wpAny_bind (wpAny_field hz rfl (x := .none) rfl (wpAny_pure go))
  · refine wpAny_bind (wpAny_field hz rfl (x := rawInt T1) rfl ?_)
    show wpAny _ _ (loadIfAlive T1 >>= _) _ _ _
    refine wpAny_bind (fun Γ p _ => ?_)
    show wpAny _ _ _ _ _ _
    rw [hT]
    exact wpAny_pure go
theorem zip3_next {I l1 l2 l3 n1 n2 n3 k T1 : Nat} {P1 P2 P3 : Nat → Value → Prop} {S1 S2 S3 : Nat → Heap → Prop} {f1 : Bool} {o1 : Obj} {Q : Value → Shared → Prop} (b1 : l1 < I) (b2 : l2 < I) (b3 : l3 < I)
    (D1 : Dw prog w A (I + 0) [I + 0, l1] n1 P1 S1) (D2 : Dw prog w A (I + 1) [I + 1, l2] n2 P2 S2) (D3 : Dw prog w A (I + 2) [I + 2, l3] n3 P3 S3)
    (hz : IsZg s.heap (I + 5) (I + 3) (I + 4) (rawInt T1) (.bool f1)) (hI : IsTr s.heap (I + 3) (.ref (I + 0)) (.ref (I + 1)) (.ref (I + 2))) (hT : s.heap.get? T1 = some o1) (g1 : S1 k s.heap) (g2 : S2 k s.heap) (g3 : S3 k s.heap) (k1 : k < n1) (k2 : k < n2) (k3 : k < n3)
    (go : ∀ x y u h2 tk, P1 k x → P2 k y → P3 k u → IsZg h2 (I + 5) (I + 3) (I + 4) (rawInt T1) (.bool true) → S1 (k + 1) h2 → S2 (k + 1) h2 → S3 (k + 1) h2 → IsTr h2 s.heap.objs.size x y u → h2.objs.size = s.heap.objs.size + 1 →
      (∀ c o, c ∉ [I + 0, I + 1, I + 2, I + 5] → s.heap.get? c = some o → h2.get? c = some o) → Q (.ref s.heap.objs.size) { s with heap := h2, toks := tk }) :
    wpAny (model prog w) A (Builtin.«zip.__next__» ⟨[.ref (I + 5)], []⟩) (fun fin s' => ∃ v, fin = .done (.ret v) ∧ Q v s') E s := by
  refine wpAny_bind (m := field (.ref (I + 5)) 2) (wpAny_field hz rfl (x := .bool false) rfl ?_)
  refine wpAny_bind (m := field (.ref (I + 5)) 3) (wpAny_field hz rfl (x := .ref (I + 3)) rfl (wpAny_bind (wpAny_seqItems hI rfl ?_)))
  refine wpAny_bind (m := Builtin.SmallTypes.ownedTupleIsFree (.ref (I + 5))) (zip_kept hz hT fun p1 z1 e1 s1 => ?_)
  rw [if_neg (by decide)]
  refine wpAny_bind ?_
  simp only [← Array.forIn_toList, List.forIn_cons, List.forIn_nil]
  have f1' : S1 k p1 := D1.frame _ _ _ g1 fun c hc o q => e1 c o (nb3 b1 hc 5 (by decide)) q
  refine wpAny_bind (wpAny_bind (wpAny_holding (wpAny_bind (m := Builtin.SmallTypes.nextOf (.ref (I + 0))) (D1.item k _ _ _ k1 f1' fun x p2 t2 px s2 e2 => wpAny_pure (wpAny_pure ?_)))))
  have f2' : S2 k p2 := D2.frame _ _ _ g2 fun c hc o q => e2.extBut c o (nb3 b2 hc 0 (by decide)) (e1 c o (nb3 b2 hc 5 (by decide)) q)
  refine wpAny_bind (wpAny_bind (wpAny_holding (wpAny_bind (m := Builtin.SmallTypes.nextOf (.ref (I + 1))) (D2.item k _ _ _ k2 f2' fun y p3 t3 py s3 e3 => wpAny_pure (wpAny_pure ?_)))))
  have f3' : S3 k p3 := D3.frame _ _ _ g3 fun c hc o q => e3.extBut c o (nb3 b3 hc 1 (by decide)) (e2.extBut c o (nb3 b3 hc 0 (by decide)) (e1 c o (nb3 b3 hc 5 (by decide)) q))
  refine wpAny_bind (wpAny_bind (wpAny_holding (wpAny_bind (m := Builtin.SmallTypes.nextOf (.ref (I + 2))) (D3.item k _ _ _ k3 f3' fun u p4 t4 pu s4 e4 => wpAny_pure (wpAny_pure (wpAny_pure ?_))))))
  refine wpAny_bind (wpAny_newTuple (hsz := by show 3 ≤ sizeLine; decide) (wpAny_pure ⟨_, rfl, ?_⟩))
  have sz : p4.objs.size = s.heap.objs.size := by rw [e4.1, e3.1, e2.1, s1]
  have z4 : IsZg p4 (I + 5) (I + 3) (I + 4) (rawInt T1) (.bool true) := e4.extBut _ _ (nij (by decide)) (e3.extBut _ _ (nij (by decide)) (e2.extBut _ _ (nij (by decide)) z1))
  have a1 : S1 (k + 1) p4 := D1.frame _ _ _ s2 fun c hc o q => e4.extBut c o (nb3 b1 hc 2 (by decide)) (e3.extBut c o (nb3 b1 hc 1 (by decide)) q)
  have a2 : S2 (k + 1) p4 := D2.frame _ _ _ s3 fun c hc o q => e4.extBut c o (nb3 b2 hc 2 (by decide)) q
  have psh : ∀ {c o}, p4.get? c = some o → (p4.push { cls := .type "tuple", data := .seq #[x, y, u] }).get? c = some o := fun q => Heap.get?_push_of_some _ q
  have q := go x y u (p4.push { cls := .type "tuple", data := .seq #[x, y, u] }) t4 px py pu (psh z4) (D1.frame _ _ _ a1 fun c _ o q => psh q) (D2.frame _ _ _ a2 fun c _ o q => psh q) (D3.frame _ _ _ s4 fun c _ o q => psh q) (by rw [← sz]; exact Heap.get?_push_size _ rfl) (by rw [Heap.size_push, sz]) (fun c o nc q => by
    simp only [List.mem_cons, List.not_mem_nil, or_false, not_or] at nc
    exact psh (e4.extBut c o nc.2.2.1 (e3.extBut c o nc.2.1 (e2.extBut c o nc.1 (e1 c o nc.2.2.2 q)))))
  rw [← sz] at q
  exact q
theorem zip3_stop {I l1 n1 k T1 : Nat} {P1 : Nat → Value → Prop} {S1 : Nat → Heap → Prop} {f1 : Bool} {o1 : Obj} {Q : Fin → Shared → Prop} (b1 : l1 < I) (D1 : Dw prog w A (I + 0) [I + 0, l1] n1 P1 S1)
    (hz : IsZg s.heap (I + 5) (I + 3) (I + 4) (rawInt T1) (.bool f1)) (hI : IsTr s.heap (I + 3) (.ref (I + 0)) (.ref (I + 1)) (.ref (I + 2))) (hT : s.heap.get? T1 = some o1) (g1 : S1 k s.heap) (k1 : n1 ≤ k)
    (up : ∀ h2 e, (∀ c o, c ∉ [I + 0, I + 5] → s.heap.get? c = some o → h2.get? c = some o) → (∃ o, h2.get? e = some o ∧ o.cls = .type "StopIteration") → E (.ref e) { s with heap := h2 }) :
    wpAny (model prog w) A (Builtin.«zip.__next__» ⟨[.ref (I + 5)], []⟩) Q E s := by
  refine wpAny_bind (m := field (.ref (I + 5)) 2) (wpAny_field hz rfl (x := .bool false) rfl ?_)
  refine wpAny_bind (m := field (.ref (I + 5)) 3) (wpAny_field hz rfl (x := .ref (I + 3)) rfl (wpAny_bind (wpAny_seqItems hI rfl ?_)))
  refine wpAny_bind (m := Builtin.SmallTypes.ownedTupleIsFree (.ref (I + 5))) (zip_kept hz hT fun p1 z1 e1 s1 => ?_)
  rw [if_neg (by decide)]
  refine wpAny_bind ?_
  simp only [← Array.forIn_toList, List.forIn_cons, List.forIn_nil]
  have f1' : S1 k p1 := D1.frame _ _ _ g1 fun c hc o q => e1 c o (nb3 b1 hc 5 (by decide)) q
  refine wpAny_bind (wpAny_bind (wpAny_holding (wpAny_bind (m := Builtin.SmallTypes.nextOf (.ref (I + 0))) (D1.done k _ _ _ k1 f1' fun p2 e e2 he => up p2 e (fun c o nc q => ?_) he))))
  simp only [List.mem_cons, List.not_mem_nil, or_false, not_or] at nc
  exact e2 c o nc.1 (e1 c o nc.2 q)
theorem zip3_fin {I l1 n1 k : Nat} {P1 : Nat → Value → Prop} {S1 : Nat → Heap → Prop} {f0 f1 : Value} {Q : Fin → Shared → Prop} (b1 : l1 < I) (D1 : Dw prog w A (I + 0) [I + 0, l1] n1 P1 S1)
    (hz : IsZg s.heap (I + 5) (I + 3) (I + 4) f0 f1) (hf : f0 = .none ∨ ∃ T1 : Nat, f0 = rawInt T1 ∧ s.heap.get? T1 = none) (hI : IsTr s.heap (I + 3) (.ref (I + 0)) (.ref (I + 1)) (.ref (I + 2))) (g1 : S1 k s.heap) (k1 : n1 ≤ k)
    (up : ∀ h2 e, (∀ c o, c ∉ [I + 0, I + 5] → s.heap.get? c = some o → h2.get? c = some o) → (∃ o, h2.get? e = some o ∧ o.cls = .type "StopIteration") → E (.ref e) { s with heap := h2 }) :
    wpAny (model prog w) A (Builtin.«zip.__next__» ⟨[.ref (I + 5)], []⟩) Q E s := by
  refine wpAny_bind (m := field (.ref (I + 5)) 2) (wpAny_field hz rfl (x := .bool false) rfl ?_)
  refine wpAny_bind (m := field (.ref (I + 5)) 3) (wpAny_field hz rfl (x := .ref (I + 3)) rfl (wpAny_bind (wpAny_seqItems hI rfl ?_)))
  refine wpAny_bind (m := Builtin.SmallTypes.ownedTupleIsFree (.ref (I + 5))) (zip_free hz hf ?_)
  rw [if_pos rfl]
  refine wpAny_bind (wpAny_rule (wpAny_bind (wpAny_field hz rfl (x := .ref (I + 4)) rfl (wpAny_bind (wpAny_setField_rec hz (by simp) fun p1 z1 e1 => wpAny_bind ?_)))))
  have z1' : IsZg p1 (I + 5) (I + 3) (I + 4) .ellipsis f1 := z1
  simp only [List.zipIdx_cons, List.zipIdx_nil, List.forIn_cons, List.forIn_nil]
  have g1' : S1 k p1 := D1.frame _ _ _ g1 fun c hc o q => e1.extBut c o (nb3 b1 hc 5 (by decide)) q
  refine wpAny_bind (wpAny_bind (wpAny_onRaise (wpAny_bind (m := Builtin.SmallTypes.nextOf (.ref (I + 0))) (D1.done _ _ _ _ k1 g1' fun p2 e e2 he => ?_))))
  obtain ⟨oe, hoe, hce⟩ := he
  have z2 : IsZg p2 (I + 5) (I + 3) (I + 4) .ellipsis f1 := e2 _ _ (nij (by decide)) z1'
  have ne : e ≠ I + 5 := fun x => by subst x; rw [z2] at hoe; cases hoe; simp at hce
  refine wpAny_setField_rec z2 (by simp) fun p3 _ e3 => up p3 e (fun c o nc q => ?_) ⟨oe, e3.extBut _ _ ne hoe, hce⟩
  simp only [List.mem_cons, List.not_mem_nil, or_false, not_or] at nc
  exact e3.extBut c o nc.2 (e2 c o nc.1 (e1.extBut c o nc.2 q))
theorem upd_tr {T : Addr} {a b c x : Value} {k : Nat} {Q : Unit → Shared → Prop} (h : IsTr s.heap T a b c) (go : ∀ h2, h2.get? T = some { cls := .type "tuple", data := .seq ((#[a, b, c] : Array Value).setIfInBounds k x) } → Heap.SameBut T s.heap h2 → Q () { s with heap := h2 }) : wpAny (model prog w) A (updateSeq T (·.setIfInBounds k x)) Q E s := by
  refine wpAny_updateSeq h rfl (go _ ?_ (Heap.SameBut.update ..)) (by show 3 ≤ sizeLine; decide) (by show ((#[a, b, c] : Array Value).setIfInBounds k x).size ≤ sizeLine + 1; rw [Array.size_setIfInBounds]; show 3 ≤ sizeLine + 1; decide)
  rw [Heap.get?_update_self _ h rfl]
  simp [Obj.mapSeq]
theorem zip3_first {I l1 l2 l3 n1 n2 n3 k : Nat} {P1 P2 P3 : Nat → Value → Prop} {S1 S2 S3 : Nat → Heap → Prop} {a b c f0 f1 : Value} {Q : Value → Shared → Prop} (b1 : l1 < I) (b2 : l2 < I) (b3 : l3 < I)
    (D1 : Dw prog w A (I + 0) [I + 0, l1] n1 P1 S1) (D2 : Dw prog w A (I + 1) [I + 1, l2] n2 P2 S2) (D3 : Dw prog w A (I + 2) [I + 2, l3] n3 P3 S3)
    (hz : IsZg s.heap (I + 5) (I + 3) (I + 4) f0 f1) (hf : f0 = .none ∨ ∃ T1 : Nat, f0 = rawInt T1 ∧ s.heap.get? T1 = none) (hI : IsTr s.heap (I + 3) (.ref (I + 0)) (.ref (I + 1)) (.ref (I + 2))) (hO : IsTr s.heap (I + 4) a b c) (g1 : S1 k s.heap) (g2 : S2 k s.heap) (g3 : S3 k s.heap) (k1 : k < n1) (k2 : k < n2) (k3 : k < n3)
    (go : ∀ x y u h2 tk, P1 k x → P2 k y → P3 k u → IsZg h2 (I + 5) (I + 3) (I + 4) (rawInt s.heap.objs.size) (.bool false) → S1 (k + 1) h2 → S2 (k + 1) h2 → S3 (k + 1) h2 → IsTr h2 s.heap.objs.size x y u → IsTr h2 (I + 4) x y u → h2.objs.size = s.heap.objs.size + 1 →
      (∀ c o, c ∉ [I + 0, I + 1, I + 2, I + 4, I + 5] → s.heap.get? c = some o → h2.get? c = some o) → Q (.ref s.heap.objs.size) { s with heap := h2, toks := tk }) :
    wpAny (model prog w) A (Builtin.«zip.__next__» ⟨[.ref (I + 5)], []⟩) (fun fin s' => ∃ v, fin = .done (.ret v) ∧ Q v s') E s := by
  refine wpAny_bind (m := field (.ref (I + 5)) 2) (wpAny_field hz rfl (x := .bool false) rfl ?_)
  refine wpAny_bind (m := field (.ref (I + 5)) 3) (wpAny_field hz rfl (x := .ref (I + 3)) rfl (wpAny_bind (wpAny_seqItems hI rfl ?_)))
  refine wpAny_bind (m := Builtin.SmallTypes.ownedTupleIsFree (.ref (I + 5))) (zip_free hz hf ?_)
  rw [if_pos rfl]
  refine wpAny_bind (wpAny_rule (wpAny_bind (wpAny_field hz rfl (x := .ref (I + 4)) rfl (wpAny_bind (wpAny_setField_rec hz (by simp) fun p1 z1 e1 => wpAny_bind ?_)))))
  have z1' : IsZg p1 (I + 5) (I + 3) (I + 4) .ellipsis f1 := z1
  simp only [List.zipIdx_cons, List.zipIdx_nil, List.forIn_cons, List.forIn_nil]
  have f1' : S1 k p1 := D1.frame _ _ _ g1 fun c hc o q => e1.extBut c o (nb3 b1 hc 5 (by decide)) q
  refine wpAny_bind (wpAny_bind (wpAny_onRaise (wpAny_bind (m := Builtin.SmallTypes.nextOf (.ref (I + 0))) (D1.item k _ _ _ k1 f1' fun x p2 t2 px s2 e2 => wpAny_pure ?_))))
  have o2 : IsTr p2 (I + 4) a b c := e2.extBut _ _ (nij (by decide)) (e1.extBut _ _ (nij (by decide)) hO)
  refine wpAny_bind (wpAny_seqItems o2 rfl (wpAny_bind (upd_tr o2 fun p3 o3 e3 => wpAny_bind (wpAny_letGo (wpAny_pure ?_)))))
  have o3' : IsTr p3 (I + 4) x b c := o3
  have f2' : S2 k p3 := D2.frame _ _ _ g2 fun c hc o q => e3.extBut c o (nb3 b2 hc 4 (by decide)) (e2.extBut c o (nb3 b2 hc 0 (by decide)) (e1.extBut c o (nb3 b2 hc 5 (by decide)) q))
  refine wpAny_bind (wpAny_bind (wpAny_onRaise (wpAny_bind (m := Builtin.SmallTypes.nextOf (.ref (I + 1))) (D2.item k _ _ _ k2 f2' fun y p4 t4 py s4 e4 => wpAny_pure ?_))))
  have o4 : IsTr p4 (I + 4) x b c := e4.extBut _ _ (nij (by decide)) o3'
  refine wpAny_bind (wpAny_seqItems o4 rfl (wpAny_bind (upd_tr o4 fun p5 o5 e5 => wpAny_bind (wpAny_letGo (wpAny_pure ?_)))))
  have o5' : IsTr p5 (I + 4) x y c := o5
  have f3' : S3 k p5 := D3.frame _ _ _ g3 fun c hc o q => e5.extBut c o (nb3 b3 hc 4 (by decide)) (e4.extBut c o (nb3 b3 hc 1 (by decide)) (e3.extBut c o (nb3 b3 hc 4 (by decide)) (e2.extBut c o (nb3 b3 hc 0 (by decide)) (e1.extBut c o (nb3 b3 hc 5 (by decide)) q))))
  refine wpAny_bind (wpAny_bind (wpAny_onRaise (wpAny_bind (m := Builtin.SmallTypes.nextOf (.ref (I + 2))) (D3.item k _ _ _ k3 f3' fun u p6 t6 pu s6 e6 => wpAny_pure ?_))))
  have o6 : IsTr p6 (I + 4) x y c := e6.extBut _ _ (nij (by decide)) o5'
  refine wpAny_bind (wpAny_seqItems o6 rfl (wpAny_bind (upd_tr o6 fun p7 o7 e7 => wpAny_bind (wpAny_letGo (wpAny_pure (wpAny_pure ?_))))))
  have o7' : IsTr p7 (I + 4) x y u := o7
  have sz : p7.objs.size = s.heap.objs.size := by rw [e7.1, e6.1, e5.1, e4.1, e3.1, e2.1, e1.1]
  have z7 : IsZg p7 (I + 5) (I + 3) (I + 4) .ellipsis f1 := e7.extBut _ _ (nij (by decide)) (e6.extBut _ _ (nij (by decide)) (e5.extBut _ _ (nij (by decide)) (e4.extBut _ _ (nij (by decide)) (e3.extBut _ _ (nij (by decide)) (e2.extBut _ _ (nij (by decide)) z1')))))
  refine wpAny_bind (wpAny_seqItems o7' rfl (wpAny_bind (wpAny_newTuple (hsz := by show 3 ≤ sizeLine; decide) ?_)))
  refine wpAny_bind (m := Builtin.SmallTypes.ownedTupleHandOut (.ref (I + 5)) (.ref p7.objs.size)) ?_
  simp only [Builtin.SmallTypes.ownedTupleHandOut]
  have z8 : IsZg (p7.push { cls := .type "tuple", data := .seq #[x, y, u] }) (I + 5) (I + 3) (I + 4) .ellipsis f1 := Heap.get?_push_of_some _ z7
  refine wpAny_bind (wpAny_setField_rec z8 (by simp) fun p9 z9 e9 => ?_)
  have z9' : IsZg p9 (I + 5) (I + 3) (I + 4) (rawInt p7.objs.size) f1 := z9
  refine wpAny_setField_rec z9' (by simp) fun pa za ea => wpAny_pure ⟨_, rfl, ?_⟩
  have za' : IsZg pa (I + 5) (I + 3) (I + 4) (rawInt p7.objs.size) (.bool false) := za
  have lt5 : I + 5 < p7.objs.size := Heap.lt_size z7
  have up : ∀ c o, c ≠ I + 5 → p7.get? c = some o → pa.get? c = some o := fun c o nc q => ea.extBut _ _ nc (e9.extBut _ _ nc (Heap.get?_push_of_some _ q))
  have a1 : S1 (k + 1) pa := D1.frame _ _ _ s2 fun c hc o q => up c o (nb3 b1 hc 5 (by decide)) (e7.extBut c o (nb3 b1 hc 4 (by decide)) (e6.extBut c o (nb3 b1 hc 2 (by decide)) (e5.extBut c o (nb3 b1 hc 4 (by decide)) (e4.extBut c o (nb3 b1 hc 1 (by decide)) (e3.extBut c o (nb3 b1 hc 4 (by decide)) q)))))
  have a2 : S2 (k + 1) pa := D2.frame _ _ _ s4 fun c hc o q => up c o (nb3 b2 hc 5 (by decide)) (e7.extBut c o (nb3 b2 hc 4 (by decide)) (e6.extBut c o (nb3 b2 hc 2 (by decide)) (e5.extBut c o (nb3 b2 hc 4 (by decide)) q)))
  have a3 : S3 (k + 1) pa := D3.frame _ _ _ s6 fun c hc o q => up c o (nb3 b3 hc 5 (by decide)) (e7.extBut c o (nb3 b3 hc 4 (by decide)) q)
  have tp : IsTr pa p7.objs.size x y u := ea.extBut _ _ (Nat.ne_of_gt lt5) (e9.extBut _ _ (Nat.ne_of_gt lt5) (Heap.get?_push_size _ rfl))
  have q := go x y u pa t6 px py pu (by rw [← sz]; exact za') a1 a2 a3 (by rw [← sz]; exact tp) (up _ _ (nij (by decide)) o7') (by rw [ea.1, e9.1, Heap.size_push, sz]) (fun c o nc q => by
    simp only [List.mem_cons, List.not_mem_nil, or_false, not_or] at nc
    exact up c o nc.2.2.2.2 (e7.extBut c o nc.2.2.2.1 (e6.extBut c o nc.2.2.1 (e5.extBut c o nc.2.2.2.1 (e4.extBut c o nc.2.1 (e3.extBut c o nc.2.2.2.1 (e2.extBut c o nc.1 (e1.extBut c o nc.2.2.2.2 q))))))))
  rw [← sz] at q
  exact q
noncomputable def Z3 (t1 t2 t3 : Bool) (I l1 l2 l3 i : Nat) (h : Heap) : Prop := IsTr h (I + 3) (.ref (I + 0)) (.ref (I + 1)) (.ref (I + 2)) ∧ IsIt t1 h (I + 0) l1 i ∧ IsIt t2 h (I + 1) l2 i ∧ IsIt t3 h (I + 2) l3 i ∧ (∃ a b c, IsTr h (I + 4) a b c) ∧
  (IsZg h (I + 5) (I + 3) (I + 4) .none (.bool false) ∨ ∃ (T1 : Nat) (f1 : Bool), IsZg h (I + 5) (I + 3) (I + 4) (rawInt T1) (.bool f1))
noncomputable def z3w (I : Nat) : List Addr := [I + 0, I + 1, I + 2, I + 4, I + 5]
theorem z3_step {t1 t2 t3 : Bool} {I l1 l2 l3 i : Nat} {xs ys us : Array Value} {x y u : Value} {Q : Option Value → Shared → Prop} (calm : A.handled = none) (b1 : l1 < I) (b2 : l2 < I) (b3 : l3 < I) (z : Z3 t1 t2 t3 I l1 l2 l3 i s.heap) (q1 : IsSq t1 s.heap l1 xs) (q2 : IsSq t2 s.heap l2 ys) (q3 : IsSq t3 s.heap l3 us)
    (hx : xs[i]? = some x) (hy : ys[i]? = some y) (hu : us[i]? = some u)
    (go : ∀ h2 tk, Z3 t1 t2 t3 I l1 l2 l3 (i + 1) h2 → IsTr h2 s.heap.objs.size x y u → h2.objs.size = s.heap.objs.size + 1 → (∀ c o, c ∉ z3w I → s.heap.get? c = some o → h2.get? c = some o) → Q (some (.ref s.heap.objs.size)) { s with heap := h2, toks := tk }) : wpAny (model prog w) A (pyNext (.ref (I + 5))) Q E s := by
  obtain ⟨zI, i1, i2, i3, zz⟩ := z
  have calm' : A.in1.handled = none := calm
  have lt : ∀ {v : Array Value} {k : Nat} {a : Value}, v[k]? = some a → k < v.size := fun h => by
    rw [Array.getElem?_eq_some_iff] at h
    exact h.1
  have inj : ∀ {v : Array Value} {k : Nat} {a b : Value}, v[k]? = some a → v[k]? = some b → b = a := fun h1 h2 => by
    rw [h1] at h2
    exact (Option.some.inj h2).symm
  have d1 := dw_of (prog := prog) (w := w) calm' t1 (I + 0) l1 (Nat.ne_of_lt b1) xs
  have d2 := dw_of (prog := prog) (w := w) calm' t2 (I + 1) l2 (Nat.ne_of_lt (Nat.lt_of_lt_of_le b2 (Nat.le_add_right _ _))) ys
  have d3 := dw_of (prog := prog) (w := w) calm' t3 (I + 2) l3 (Nat.ne_of_lt (Nat.lt_of_lt_of_le b3 (Nat.le_add_right _ _))) us
  obtain ⟨⟨a, b, c, hO⟩, zz⟩ := zz
  have fst : ∀ {f0 f1 : Value}, IsZg s.heap (I + 5) (I + 3) (I + 4) f0 f1 → (f0 = .none ∨ ∃ T1 : Nat, f0 = rawInt T1 ∧ s.heap.get? T1 = none) → wpAny (model prog w) A (pyNext (.ref (I + 5))) Q E s := fun hz hf => by
    have hty : s.TypeIs (.ref (I + 5)) "zip" := ⟨_, hz, rfl⟩
    simp only [pyNext]
    refine wpAny_bind (wpAny_attempt (wpAny_callSpecial?_slot hty F.slot_zip_next (wpAny_call_entry F.slot_zip_next hty F.entry_zip_next (zip3_first (k := i) b1 b2 b3 d1 d2 d3 hz hf zI hO ⟨i1, q1⟩ ⟨i2, q2⟩ ⟨i3, q3⟩ (lt hx) (lt hy) (lt hu) fun x' y' u' h2 tk px py pu c1 c2 c3 c4 c5 c6 c7 kp => wpAny_pure ?_) (F.args_zip_next_1 _))))
    rw [inj hx px, inj hy py, inj hu pu] at c5
    exact go h2 tk ⟨kp _ _ (by simp) zI, c2.1, c3.1, c4.1, ⟨_, _, _, c6⟩, .inr ⟨_, _, c1⟩⟩ c5 c7 kp
  rcases zz with hz | ⟨T1, f1, hz⟩
  · exact fst hz (.inl rfl)
  · cases hT : s.heap.get? T1 with
    | none => exact fst hz (.inr ⟨T1, rfl, hT⟩)
    | some o1 =>
      have hty : s.TypeIs (.ref (I + 5)) "zip" := ⟨_, hz, rfl⟩
      simp only [pyNext]
      refine wpAny_bind (wpAny_attempt (wpAny_callSpecial?_slot hty F.slot_zip_next (wpAny_call_entry F.slot_zip_next hty F.entry_zip_next (zip3_next (k := i) b1 b2 b3 d1 d2 d3 hz zI hT ⟨i1, q1⟩ ⟨i2, q2⟩ ⟨i3, q3⟩ (lt hx) (lt hy) (lt hu) fun x' y' u' h2 tk px py pu c1 c2 c3 c4 c5 c6 kp => wpAny_pure ?_) (F.args_zip_next_1 _))))
      rw [inj hx px, inj hy py, inj hu pu] at c5
      exact go h2 tk ⟨kp _ _ (by simp) zI, c2.1, c3.1, c4.1, ⟨a, b, c, kp _ _ (by simp) hO⟩, .inr ⟨T1, true, c1⟩⟩ c5 c6 (fun c o nc q => kp c o (fun h => nc (by simp only [z3w, List.mem_cons, List.not_mem_nil, or_false] at h ⊢; rcases h with h | h | h | h <;> simp [h])) q)
theorem z3_end {t1 t2 t3 : Bool} {I l1 l2 l3 i : Nat} {xs : Array Value} {Q : Option Value → Shared → Prop} (calm : A.handled = none) (b1 : l1 < I) (z : Z3 t1 t2 t3 I l1 l2 l3 i s.heap) (q1 : IsSq t1 s.heap l1 xs) (hx : xs.size ≤ i)
    (go : ∀ h2, (∀ c o, c ∉ z3w I → s.heap.get? c = some o → h2.get? c = some o) → Q none { s with heap := h2 }) : wpAny (model prog w) A (pyNext (.ref (I + 5))) Q E s := by
  obtain ⟨zI, i1, i2, i3, zz⟩ := z
  have calm' : A.in1.handled = none := calm
  have d1 := dw_of (prog := prog) (w := w) calm' t1 (I + 0) l1 (Nat.ne_of_lt b1) xs
  have go' : ∀ h2 e, (∀ c o, c ∉ [I + 0, I + 5] → s.heap.get? c = some o → h2.get? c = some o) → (∃ o, h2.get? e = some o ∧ o.cls = .type "StopIteration") → wpAny (model prog w) A (isInstance (.ref e) (.type "StopIteration") >>= fun b => if b = true then pure none else throw (.ref e)) Q E { s with heap := h2 } := fun h2 e kp ⟨o, ho, hcl⟩ =>
    wpAny_bind (wpAny_isInstance (T := "StopIteration") (b := true) ⟨o, ho, hcl⟩ isSubtype_stop (wpAny_pure (go h2 fun c o nc q => kp c o (fun h => nc (by simp only [z3w, List.mem_cons, List.not_mem_nil, or_false] at h ⊢; rcases h with h | h <;> simp [h])) q)))
  have fin : ∀ {f0 f1 : Value}, IsZg s.heap (I + 5) (I + 3) (I + 4) f0 f1 → (f0 = .none ∨ ∃ T1 : Nat, f0 = rawInt T1 ∧ s.heap.get? T1 = none) → wpAny (model prog w) A (pyNext (.ref (I + 5))) Q E s := fun hz hf => by
    have hty : s.TypeIs (.ref (I + 5)) "zip" := ⟨_, hz, rfl⟩
    simp only [pyNext]
    exact wpAny_bind (wpAny_attempt (wpAny_callSpecial?_slot hty F.slot_zip_next (wpAny_call_entry F.slot_zip_next hty F.entry_zip_next (zip3_fin (k := i) b1 d1 hz hf zI ⟨i1, q1⟩ hx fun h2 e kp he => go' h2 e kp he) (F.args_zip_next_1 _))))
  obtain ⟨_, zz⟩ := zz
  rcases zz with hz | ⟨T1, f1, hz⟩
  · exact fin hz (.inl rfl)
  · cases hT : s.heap.get? T1 with
    | none => exact fin hz (.inr ⟨T1, rfl, hT⟩)
    | some o1 =>
      have hty : s.TypeIs (.ref (I + 5)) "zip" := ⟨_, hz, rfl⟩
      simp only [pyNext]
      exact wpAny_bind (wpAny_attempt (wpAny_callSpecial?_slot hty F.slot_zip_next (wpAny_call_entry F.slot_zip_next hty F.entry_zip_next (zip3_stop (k := i) b1 d1 hz zI hT ⟨i1, q1⟩ hx fun h2 e kp he => go' h2 e kp he) (F.args_zip_next_1 _))))
end
end Ov
end
section
set_option Elab.async false
set_option linter.all false
set_option maxRecDepth 100000
set_option maxHeartbeats 4000000
namespace Ov
open PySem PySem.Spec PyProof.Rows L2
section
variable {prog : Program} {w : World} {A : Around} {R : Result → Shared → Prop}
noncomputable def Drawn3 (I S : Nat) (xs ys us : Array Value) (i : Nat) (acc : Array Value) (h : Heap) : Prop := acc.size = i ∧ (∀ j, j < i → ∃ (a : Nat) (x y u : Value), acc[j]? = some (.ref a) ∧ xs[j]? = some x ∧ ys[j]? = some y ∧ us[j]? = some u ∧ IsTr h a x y u ∧ I + 5 < a ∧ a ≠ S) ∧ ∀ (j1 j2 a : Nat), acc[j1]? = some (Value.ref a) → acc[j2]? = some (Value.ref a) → j1 = j2
theorem IsSq.at' {t : Bool} {h h2 : Heap} {l : Addr} {its : Array Value} (z : IsSq t h l its) (k : ∀ o, h.get? l = some o → h2.get? l = some o) : IsSq t h2 l its := by
  cases t with
  | true => exact PySem.Heap.IsTuple.at z k
  | false => exact PySem.Heap.IsList.at z k
theorem notw {I a : Nat} (h : I + 5 < a) : a ∉ z3w I := by
  intro z
  simp only [z3w, List.mem_cons, List.not_mem_nil, or_false] at z
  rcases z with z | z | z | z | z <;> · rw [z] at h; exact absurd h (Nat.not_lt.mpr (Nat.add_le_add_left (by decide) I))
theorem notw' {I l : Nat} (h : l < I) : l ∉ z3w I := by
  intro z
  simp only [z3w, List.mem_cons, List.not_mem_nil, or_false] at z
  rcases z with z | z | z | z | z <;> · rw [z] at h; exact absurd h (Nat.not_lt.mpr (Nat.le_add_right I _))
theorem Z3.at' {t1 t2 t3 : Bool} {I l1 l2 l3 i : Nat} {h h2 : Heap} (z : Z3 t1 t2 t3 I l1 l2 l3 i h) (k : ∀ j, j ≤ 5 → ∀ o, h.get? (I + j) = some o → h2.get? (I + j) = some o) : Z3 t1 t2 t3 I l1 l2 l3 i h2 := by
  obtain ⟨zI, i1, i2, i3, ⟨a, b, c, hO⟩, zz⟩ := z
  exact ⟨k 3 (by decide) _ zI, i1.at' fun o q => k 0 (by decide) o q, i2.at' fun o q => k 1 (by decide) o q, i3.at' fun o q => k 2 (by decide) o q, ⟨a, b, c, k 4 (by decide) _ hO⟩, zz.imp (k 5 (by decide) _) fun ⟨T1, f1, hz⟩ => ⟨T1, f1, k 5 (by decide) _ hz⟩⟩
theorem z3_loop {t1 t2 t3 : Bool} {I l1 l2 l3 n : Nat} {xs ys us : Array Value} {res : Value} (calm : A.handled = none) (b1 : l1 < I) (b2 : l2 < I) (b3 : l3 < I) (S : Nat) (hS : I + 5 < S) (n0 : 0 < n) (nn : n ≤ 1000) (e1 : xs.size = n) (e2 : ys.size = n) (e3 : us.size = n) :
    ∀ (k i : Nat) (s : Shared) (acc : Array Value) (c : Nat), n - i = k → i ≤ n → Z3 t1 t2 t3 I l1 l2 l3 i s.heap → IsSq t1 s.heap l1 xs → IsSq t2 s.heap l2 ys → IsSq t3 s.heap l3 us →
    s.heap.get? S = some { cls := .type "list", dict := none, data := .seq acc c, slots := #[] } → Drawn3 I S xs ys us i acc s.heap →
    (∀ h2 acc2 c2 tk, (∀ d o, d ∉ z3w I → d ≠ S → s.heap.get? d = some o → h2.get? d = some o) → h2.get? S = some { cls := .type "list", dict := none, data := .seq acc2 c2, slots := #[] } → Drawn3 I S xs ys us n acc2 h2 → R (.ok (.ret res)) { s with heap := h2, toks := tk }) →
    codeAny (model prog w) A (.builtin "list.extend.loop" ⟨[.ref S, .ref (I + 5), res], []⟩) R s := by
  have calm' : A.in1.handled = none := calm
  intro k
  induction k with
  | zero =>
    intro i s acc c hk hi hz q1 q2 q3 hSo hd hR
    have ein : i = n := Nat.le_antisymm hi (Nat.le_of_sub_eq_zero hk)
    subst ein
    refine codeAny_builtin F.entry_extend_loop ?_
    rw [Around.under_plainId F.plain_extend_loop _]
    refine wpAny_bind (m := pyNext (.ref (I + 5))) (z3_end calm' b1 hz q1 (Nat.le_of_eq e1) fun h2 kp => ?_)
    exact wpAny_pure (hR h2 acc c s.toks (fun d o nd _ q => kp d o nd q) (kp _ _ (notw hS) hSo) ⟨hd.1, fun j hj => by
      obtain ⟨a, x, y, u, r1, r2, r3, r4, r5, r6, r7⟩ := hd.2.1 j hj
      exact ⟨a, x, y, u, r1, r2, r3, r4, kp _ _ (notw r6) r5, r6, r7⟩, hd.2.2⟩)
  | succ k ih =>
    intro i s acc c hk hi hz q1 q2 q3 hSo hd hR
    have lt : i < n := by omega
    refine codeAny_builtin F.entry_extend_loop ?_
    rw [Around.under_plainId F.plain_extend_loop _]
    refine wpAny_bind (m := pyNext (.ref (I + 5))) (z3_step calm' b1 b2 b3 hz q1 q2 q3 (Array.getElem?_eq_getElem (by omega)) (Array.getElem?_eq_getElem (by omega)) (Array.getElem?_eq_getElem (by omega)) fun h2 tk z2 tr sz kp => ?_)
    have hS2 := kp _ _ (notw hS) hSo
    refine wpAny_bind (m := updateSeq S _) ?_
    have ot : ∀ (f : Obj → Obj) d o, d ≠ S → h2.get? d = some o → (h2.update S f).get? d = some o := fun f d o nd q => (Heap.get?_update_other _ _ (Ne.symm nd)).trans q
    have lS : I + 5 < s.heap.objs.size := Nat.lt_trans hS (Heap.lt_size hSo)
    have nT : s.heap.objs.size ≠ S := Nat.ne_of_gt (Heap.lt_size hSo)
    have hS3 := Heap.get?_update_self (Obj.mapSeq (·.push (.ref s.heap.objs.size))) hS2 rfl
    have lne : ∀ {l : Nat}, l < I → l ≠ S := fun h e => by rw [e] at h; exact absurd (Nat.lt_trans h (Nat.lt_of_le_of_lt (Nat.le_add_right I 5) hS)) (Nat.lt_irrefl _)
    refine wpAny_updateSeq hS2 rfl (wpAny_pure ⟨plainId_quiet F.plain_extend_loop _, ih (i + 1) { s with heap := h2.update S (Obj.mapSeq (·.push (.ref s.heap.objs.size))), toks := tk } _ _ (by omega) lt (z2.at' fun j hj o q => ot _ _ o (fun e => by rw [← e] at hS; exact absurd hS (Nat.not_lt.mpr (Nat.add_le_add_left hj I))) q) ?_ ?_ ?_ hS3 ⟨by rw [Array.size_push, hd.1], fun j hj => ?_, ?_⟩ fun h4 acc4 c4 tk4 kp4 hS4 hd4 => hR h4 acc4 c4 tk4 (fun d o nd ns q => kp4 d o nd ns (ot _ d o ns (kp d o nd q))) hS4 hd4⟩) ?_ ?_
    · exact q1.at' fun o q => ot _ _ o (lne b1) (kp _ o (notw' b1) q)
    · exact q2.at' fun o q => ot _ _ o (lne b2) (kp _ o (notw' b2) q)
    · exact q3.at' fun o q => ot _ _ o (lne b3) (kp _ o (notw' b3) q)
    · by_cases ej : j = i
      · subst ej
        exact ⟨s.heap.objs.size, _, _, _, by rw [Array.getElem?_push, if_pos hd.1.symm], Array.getElem?_eq_getElem (by omega), Array.getElem?_eq_getElem (by omega), Array.getElem?_eq_getElem (by omega), ot _ _ _ nT tr, lS, nT⟩
      · obtain ⟨a, x, y, u, r1, r2, r3, r4, r5, r6, r7⟩ := hd.2.1 j (by omega)
        exact ⟨a, x, y, u, by rw [Array.getElem?_push, if_neg (by rw [hd.1]; exact ej)]; exact r1, r2, r3, r4, ot _ _ _ r7 (kp _ _ (notw r6) r5), r6, r7⟩
    · have old : ∀ (j a : Nat), acc[j]? = some (Value.ref a) → a < s.heap.objs.size := fun j a e => by
        have hj : j < i := by rw [← hd.1]; exact (Array.getElem?_eq_some_iff.mp e).1
        obtain ⟨a', x, y, u, r1, r2, r3, r4, r5, r6, r7⟩ := hd.2.1 j hj
        rw [e] at r1
        cases r1
        exact Heap.lt_size r5
      intro j1 j2 a q1 q2
      rw [Array.getElem?_push] at q1 q2
      split at q1
      · split at q2
        · omega
        · cases q1; exact absurd (old _ _ q2) (Nat.lt_irrefl _)
      · split at q2
        · cases q2; exact absurd (old _ _ q1) (Nat.lt_irrefl _)
        · exact hd.2.2 _ _ _ q1 q2
    · rw [hd.1]; exact Nat.le_trans (Nat.le_trans hi nn) (by decide)
    · show (acc.push _).size ≤ sizeLine + 1
      rw [Array.size_push, hd.1]
      exact Nat.le_trans (Nat.succ_le_succ (Nat.le_trans hi nn)) (by decide)
end
end Ov
end
section
set_option Elab.async false
set_option linter.all false
set_option maxRecDepth 100000
set_option maxHeartbeats 4000000
namespace Ov
open PySem PySem.Spec PyProof.Rows L2
theorem zip3_type (a b c : Value) : checkTypeCall "zip" ⟨[a, b, c], []⟩ = pure () := by kernel_rfl
theorem zip3_chk (a b c : Value) : checkBuiltinCall "zip.__new__" ⟨[.type "zip", a, b, c], []⟩ = pure () := by kernel_rfl
theorem init_4 (a b c d : Value) : argsOk "object.__init__" ⟨[a, b, c, d], []⟩ := by
  unfold argsOk; rw [signature?_of (id := "object.__init__") (n := ['_', '_', 't', 'i', 'n', 'i', '_', '_']) (o := ['t', 'c', 'e', 'j', 'b', 'o']) (by kernel_rfl) F.owner_object]; kernel_rfl
section
variable {prog : Program} {w : World} {A : Around} {E : Value → Shared → Prop} {s : Shared}
noncomputable abbrev yh3 (t1 t2 t3 : Bool) (h : Heap) (l1 l2 l3 : Addr) : Heap := ((h.push (itO t1 l1)).push (itO t2 l2)).push (itO t3 l3)
noncomputable abbrev yh4 (t1 t2 t3 : Bool) (h : Heap) (l1 l2 l3 : Addr) : Heap := (yh3 t1 t2 t3 h l1 l2 l3).push { cls := .type "tuple", data := .seq #[.ref h.objs.size, .ref (h.push (itO t1 l1)).objs.size, .ref ((h.push (itO t1 l1)).push (itO t2 l2)).objs.size] }
noncomputable abbrev yh5 (t1 t2 t3 : Bool) (h : Heap) (l1 l2 l3 : Addr) : Heap := (yh4 t1 t2 t3 h l1 l2 l3).push { cls := .type "tuple", data := .seq #[.none, .none, .none] }
noncomputable abbrev yh6 (t1 t2 t3 : Bool) (h : Heap) (l1 l2 l3 : Addr) : Heap := (yh5 t1 t2 t3 h l1 l2 l3).push { cls := .type "zip", data := .fields #[.none, .bool false, .bool false, .ref (yh3 t1 t2 t3 h l1 l2 l3).objs.size, .ref (yh4 t1 t2 t3 h l1 l2 l3).objs.size] }
theorem zip3_new (t1 t2 t3 : Bool) (l1 l2 l3 : Addr) (xs ys us : Array Value) : Meets (Builtin.«zip.__new__» ⟨[.type "zip", .ref l1, .ref l2, .ref l3], []⟩) (fun _ R s => IsSq t1 s.heap l1 xs ∧ IsSq t2 s.heap l2 ys ∧ IsSq t3 s.heap l3 us ∧ R (.ok (.ret (.ref (yh5 t1 t2 t3 s.heap l1 l2 l3).objs.size))) { s with heap := yh6 t1 t2 t3 s.heap l1 l2 l3 }) :=
  .of_wp fun prog w A R s h => by
    obtain ⟨hp, g, d, tk, os⟩ := s
    obtain ⟨a1, a2, a3, q⟩ := h
    have hsub := sub_zip
    have L1 : IsSq t1 (Shared.heap ⟨hp, g, d, tk, os⟩) l1 xs := a1
    have L2 : IsSq t2 (Shared.heap ⟨hp.push (itO t1 l1), g, d, tk, os⟩) l2 ys := a2.push _
    have L3 : IsSq t3 (Shared.heap ⟨(hp.push (itO t1 l1)).push (itO t2 l2), g, d, tk, os⟩) l3 us := (a3.push _).push _
    wp_walk using it_sq L1, it_sq L2, it_sq L3
    exact ⟨_, rfl, q⟩
theorem zip3_call {t1 t2 t3 : Bool} {l1 l2 l3 : Addr} {xs ys us : Array Value} {Q : Value → Shared → Prop} (a1 : IsSq t1 s.heap l1 xs) (a2 : IsSq t2 s.heap l2 ys) (a3 : IsSq t3 s.heap l3 us)
    (q : ∀ h2, Z3 t1 t2 t3 s.heap.objs.size l1 l2 l3 0 h2 → h2.objs.size = s.heap.objs.size + 6 → (∀ c o, s.heap.get? c = some o → h2.get? c = some o) → Q (.ref (s.heap.objs.size + 5)) { s with heap := h2 }) : wpAny (model prog w) A (call (.type "zip") [.ref l1, .ref l2, .ref l3]) Q E s := by
  refine callType_new F.called_zip (by decide) (zip3_type _ _ _) (zip3_chk _ _ _) (fun obj => init_4 obj _ _ _) F.entry_zip_new (zip3_new t1 t2 t3 l1 l2 l3 xs ys us) ⟨a1, a2, a3, ?_⟩
  have s1 : (s.heap.push (itO t1 l1)).objs.size = s.heap.objs.size + 1 := Heap.size_push ..
  have s2 : ((s.heap.push (itO t1 l1)).push (itO t2 l2)).objs.size = s.heap.objs.size + 2 := by rw [Heap.size_push, s1]
  have s3 : (yh3 t1 t2 t3 s.heap l1 l2 l3).objs.size = s.heap.objs.size + 3 := by rw [Heap.size_push, s2]
  have s4 : (yh4 t1 t2 t3 s.heap l1 l2 l3).objs.size = s.heap.objs.size + 4 := by rw [Heap.size_push, s3]
  have s5 : (yh5 t1 t2 t3 s.heap l1 l2 l3).objs.size = s.heap.objs.size + 5 := by rw [Heap.size_push, s4]
  have s6 : (yh6 t1 t2 t3 s.heap l1 l2 l3).objs.size = s.heap.objs.size + 6 := by rw [Heap.size_push, s5]
  have u6 : ∀ {c o}, (yh5 t1 t2 t3 s.heap l1 l2 l3).get? c = some o → (yh6 t1 t2 t3 s.heap l1 l2 l3).get? c = some o := fun e => Heap.get?_push_of_some _ e
  have u5 : ∀ {c o}, (yh4 t1 t2 t3 s.heap l1 l2 l3).get? c = some o → (yh6 t1 t2 t3 s.heap l1 l2 l3).get? c = some o := fun e => u6 (Heap.get?_push_of_some _ e)
  have u4 : ∀ {c o}, (yh3 t1 t2 t3 s.heap l1 l2 l3).get? c = some o → (yh6 t1 t2 t3 s.heap l1 l2 l3).get? c = some o := fun e => u5 (Heap.get?_push_of_some _ e)
  have u3 : ∀ {c o}, ((s.heap.push (itO t1 l1)).push (itO t2 l2)).get? c = some o → (yh6 t1 t2 t3 s.heap l1 l2 l3).get? c = some o := fun e => u4 (Heap.get?_push_of_some _ e)
  have u2 : ∀ {c o}, (s.heap.push (itO t1 l1)).get? c = some o → (yh6 t1 t2 t3 s.heap l1 l2 l3).get? c = some o := fun e => u3 (Heap.get?_push_of_some _ e)
  have g6 : (yh6 t1 t2 t3 s.heap l1 l2 l3).get? (yh5 t1 t2 t3 s.heap l1 l2 l3).objs.size = some _ := Heap.get?_push_size _ rfl
  have g5 : (yh6 t1 t2 t3 s.heap l1 l2 l3).get? (yh4 t1 t2 t3 s.heap l1 l2 l3).objs.size = some _ := u6 (Heap.get?_push_size _ rfl)
  have g4 : (yh6 t1 t2 t3 s.heap l1 l2 l3).get? (yh3 t1 t2 t3 s.heap l1 l2 l3).objs.size = some _ := u5 (Heap.get?_push_size _ rfl)
  have g3 : (yh6 t1 t2 t3 s.heap l1 l2 l3).get? ((s.heap.push (itO t1 l1)).push (itO t2 l2)).objs.size = some _ := u4 (Heap.get?_push_size _ (itO_live _ _))
  have g2 : (yh6 t1 t2 t3 s.heap l1 l2 l3).get? (s.heap.push (itO t1 l1)).objs.size = some _ := u3 (Heap.get?_push_size _ (itO_live _ _))
  have g1 : (yh6 t1 t2 t3 s.heap l1 l2 l3).get? s.heap.objs.size = some _ := u2 (Heap.get?_push_size _ (itO_live _ _))
  show _ ∧ _
  rw [s3, s4, s5] at g6
  rw [s4] at g5
  rw [s1, s2, s3] at g4
  rw [s2] at g3
  rw [s1] at g2
  rw [s5]
  exact ⟨⟨_, g6, rfl⟩, q _ ⟨g4, itO_is g1, itO_is g2, itO_is g3, ⟨_, _, _, g5⟩, .inl g6⟩ s6 fun c o e => u2 (Heap.get?_push_of_some _ e)⟩
end
end Ov
end
section
set_option Elab.async false
set_option linter.all false
set_option maxRecDepth 100000
set_option maxHeartbeats 4000000
namespace Ov
open PySem PySem.Spec PyProof.Rows L2
theorem zip_no_len : typeLookup (.type "zip") "__len__" = pure none := by rw [typeLookup_type, builtinLookup_eq_fast]; kernel_rfl
theorem zip_no_hint : typeLookup (.type "zip") "__length_hint__" = pure none := by rw [typeLookup_type, builtinLookup_eq_fast]; kernel_rfl
theorem Z3.ty {t1 t2 t3 : Bool} {I l1 l2 l3 i : Nat} {s : Shared} (z : Z3 t1 t2 t3 I l1 l2 l3 i s.heap) : s.TypeIs (.ref (I + 5)) "zip" := by
  obtain ⟨_, _, _, _, _, hz | ⟨_, _, hz⟩⟩ := z
  · exact ⟨_, hz, rfl⟩
  · exact ⟨_, hz, rfl⟩
theorem Z3.lt {t1 t2 t3 : Bool} {I l1 l2 l3 i : Nat} {s : Shared} (z : Z3 t1 t2 t3 I l1 l2 l3 i s.heap) : I + 5 < s.heap.objs.size := by
  obtain ⟨o, h, _⟩ := z.ty
  exact Heap.lt_size h
theorem z3_push {t1 t2 t3 : Bool} {I l1 l2 l3 i : Nat} {h : Heap} {o : Obj} (z : Z3 t1 t2 t3 I l1 l2 l3 i h) : Z3 t1 t2 t3 I l1 l2 l3 i (h.push o) := by
  have k : ∀ {c u}, h.get? c = some u → (h.push o).get? c = some u := fun q => Heap.get?_push_of_some _ q
  obtain ⟨zI, i1, i2, i3, zz⟩ := z
  refine ⟨k zI, i1.at' fun o q => k q, i2.at' fun o q => k q, i3.at' fun o q => k q, ?_⟩
  obtain ⟨⟨a, b, c, hO⟩, zz⟩ := zz
  refine ⟨⟨a, b, c, k hO⟩, ?_⟩
  rcases zz with hz | ⟨T1, f1, hz⟩
  · exact .inl (k hz)
  · exact .inr ⟨T1, f1, k hz⟩
section
variable {prog : Program} {w : World} {A : Around} {E : Value → Shared → Prop} {s : Shared}
theorem zip_self {z : Addr} {Q : Value → Shared → Prop} (hT : s.TypeIs (.ref z) "zip") (h : Q (.ref z) s) : wpAny (model prog w) A (pyIter (.ref z)) Q E s := by
  refine wpAny_pyIter_slot hT F.slot_zip_iter (wpAny_call_entry F.slot_zip_iter hT F.entry_zip_iter ?_ (F.args_zip_iter_1 _))
  show wpAny _ _ (ret (.ref z)) _ _ s
  exact wpAny_pure ⟨_, rfl, "zip", _, hT, F.slot_zip_next.lookup, h⟩
theorem z3_collect {t1 t2 t3 : Bool} {I l1 l2 l3 n : Nat} {xs ys us : Array Value} {Q : List Value → Shared → Prop} (calm : A.handled = none) (b1 : l1 < I) (b2 : l2 < I) (b3 : l3 < I) (n0 : 0 < n) (nn : n ≤ 1000) (e1 : xs.size = n) (e2 : ys.size = n) (e3 : us.size = n)
    (hz : Z3 t1 t2 t3 I l1 l2 l3 0 s.heap) (q1 : IsSq t1 s.heap l1 xs) (q2 : IsSq t2 s.heap l2 ys) (q3 : IsSq t3 s.heap l3 us)
    (hQ : ∀ h2 acc tk, (∀ d o, d ∉ z3w I → s.heap.get? d = some o → h2.get? d = some o) → Drawn3 I s.heap.objs.size xs ys us n acc h2 → Q acc.toList { s with heap := h2, toks := tk }) : wpAny (model prog w) A (collect (.ref (I + 5))) Q E s := by
  have lt := hz.lt
  have hSI : s.heap.objs.size ≠ I + 5 := Nat.ne_of_gt lt
  unfold collect
  refine wpAny_bind (wpAny_runValue (codeAny_builtin F.entry_proto_collect ?_))
  rw [Around.under_plainId F.plain_proto_collect _]
  show wpAny _ A.in1 (newList [] >>= fun l => again (.builtin "list.__iadd__" ⟨[l, .ref (I + 5)], []⟩)) _ _ s
  refine wpAny_bind (wpAny_newObj_type ?_)
  refine wpAny_pure ⟨plainId_quiet F.plain_list_iadd _, codeAny_builtin F.entry_list_iadd ?_⟩
  rw [Around.under_plainId F.plain_list_iadd _]
  have hz1 : Z3 t1 t2 t3 I l1 l2 l3 0 (s.heap.push { cls := .type "list", data := .seq ([] : List Value).toArray }) := z3_push hz
  have ty1 : Shared.TypeIs { s with heap := s.heap.push { cls := .type "list", data := .seq ([] : List Value).toArray } } (.ref (I + 5)) "zip" := Z3.ty (s := { s with heap := s.heap.push { cls := .type "list", data := .seq ([] : List Value).toArray } }) hz1
  show wpAny _ A.in1 (Builtin.List.listExtendWith (.ref s.heap.objs.size) (.ref (I + 5)) (.ref s.heap.objs.size)) _ _ _
  unfold Builtin.List.listExtendWith
  refine wpAny_bind (wpAny_typeOf ty1 ?_)
  have h1 : Builtin.List.listSameRef (.ref s.heap.objs.size) (.ref (I + 5)) = false := by simp [Builtin.List.listSameRef, hSI]
  have h2 : (Value.type "zip" == Value.type "list") = false := by decide
  have h3 : (Value.type "zip" == Value.type "tuple") = false := by decide
  simp only [h1, h2, h3, Bool.or_false, Bool.false_eq_true, if_false]
  refine wpAny_bind (zip_self ty1 ?_)
  refine wpAny_bind (wpAny_holding ?_)
  unfold Builtin.List.listLengthHint
  refine wpAny_bind (wpAny_specialOf ty1 zip_no_len ?_)
  show wpAny _ A.in1 (specialOf (Value.ref (I + 5)) (Str.ofString "__length_hint__") >>= _) _ _ _
  refine wpAny_bind (wpAny_specialOf ty1 zip_no_hint ?_)
  refine wpAny_pure ?_
  show wpAny _ A.in1 (rule "list.extend.makes-room" >>= fun _ => Builtin.List.listTouch (.ref s.heap.objs.size) >>= fun _ =>
    again (.builtin "list.extend.loop" ⟨[.ref s.heap.objs.size, .ref (I + 5), .ref s.heap.objs.size], []⟩)) _ _ _
  refine wpAny_bind (wpAny_rule ?_)
  have hS₁ : (s.heap.push { cls := .type "list", data := .seq ([] : List Value).toArray }).get? s.heap.objs.size = some { cls := .type "list", data := .seq ([] : List Value).toArray } := Heap.get?_push_size _ rfl
  refine wpAny_bind ?_
  show wpAny _ A.in1 (updateSeq s.heap.objs.size (·.push .none) >>= fun _ => updateSeq s.heap.objs.size (·.pop)) _ _ _
  refine wpAny_bind (wpAny_updateSeq hS₁ rfl ?_)
  have hS₂ := Heap.get?_update_self (Obj.mapSeq (·.push Value.none)) hS₁ rfl
  refine wpAny_updateSeq hS₂ rfl ?_
  have hS₃ := Heap.get?_update_self (Obj.mapSeq (·.pop)) hS₂ rfl
  have oth : ∀ b o, b ≠ s.heap.objs.size → (s.heap.push { cls := .type "list", data := .seq ([] : List Value).toArray }).get? b = some o →
      (((s.heap.push { cls := .type "list", data := .seq ([] : List Value).toArray }).update s.heap.objs.size (Obj.mapSeq (·.push Value.none))).update s.heap.objs.size (Obj.mapSeq (·.pop))).get? b = some o :=
    fun b o hb e => (Heap.get?_update_other _ _ (Ne.symm hb)).trans ((Heap.get?_update_other _ _ (Ne.symm hb)).trans e)
  have oth' : ∀ b o, s.heap.get? b = some o → (((s.heap.push { cls := .type "list", data := .seq ([] : List Value).toArray }).update s.heap.objs.size (Obj.mapSeq (·.push Value.none))).update s.heap.objs.size (Obj.mapSeq (·.pop))).get? b = some o :=
    fun b o e => oth b o (Nat.ne_of_lt (Heap.lt_size e)) (Heap.get?_push_of_some _ e)
  refine wpAny_pure ⟨plainId_quiet F.plain_extend_loop _, z3_loop calm b1 b2 b3 s.heap.objs.size lt n0 nn e1 e2 e3 n 0 _ _ _ rfl (Nat.zero_le _) (hz1.at' fun j hj o q => oth _ o (fun e => by rw [← e] at lt; exact absurd lt (Nat.not_lt.mpr (Nat.add_le_add_left hj I))) q) (q1.at' fun o e => oth' _ o e) (q2.at' fun o e => oth' _ o e) (q3.at' fun o e => oth' _ o e) hS₃ ⟨rfl, fun j hj => absurd hj (Nat.not_lt_zero _), fun j1 j2 a e => by simp [Obj.mapSeq] at e⟩ fun h2 acc c tk kp hS hd => ?_⟩
  show wpAny _ A (load s.heap.objs.size >>= _) _ _ _
  refine wpAny_bind (wpAny_load hS ?_)
  exact wpAny_pure (hQ h2 acc tk (fun d o nd e => kp d o nd (Nat.ne_of_lt (Heap.lt_size e)) (oth' d o e)) hd)
theorem z3_code {t1 t2 t3 : Bool} {I l1 l2 l3 n : Nat} {xs ys us : Array Value} {Q₁ : Value → Shared → Prop} (calm : A.handled = none) (b1 : l1 < I) (b2 : l2 < I) (b3 : l3 < I) (n0 : 0 < n) (nn : n ≤ 1000) (e1 : xs.size = n) (e2 : ys.size = n) (e3 : us.size = n)
    (hz : Z3 t1 t2 t3 I l1 l2 l3 0 s.heap) (q1 : IsSq t1 s.heap l1 xs) (q2 : IsSq t2 s.heap l2 ys) (q3 : IsSq t3 s.heap l3 us)
    (h : ∀ h2 acc tk, (∀ d o, d ∉ z3w I → s.heap.get? d = some o → h2.get? d = some o) → Drawn3 I s.heap.objs.size xs ys us n acc h2 → Q₁ (.ref h2.objs.size) { s with heap := h2.push { cls := .type "tuple", data := .seq acc }, toks := tk }) :
    codeAny (model prog w) A (.call (.builtin "tuple.__new__") ⟨[.type "tuple", .ref (I + 5)], []⟩) (wants Q₁ E) s := by
  refine codeAny_of_tree ?_
  show wpAny _ A.in1 (do checkBuiltinCall "tuple.__new__" ⟨[.type "tuple", .ref (I + 5)], []⟩; again (.builtin "tuple.__new__" ⟨[.type "tuple", .ref (I + 5)], []⟩)) _ _ s
  refine wpAny_bind (wpAny_of_eq (F.newCall_tuple_1 _) (wpAny_pure ⟨plainId_quiet F.plain_tuple_new _, codeAny_builtin F.entry_tuple_new ?_⟩))
  rw [Around.under_plainId F.plain_tuple_new _]
  have hsub := sub_tuple_self
  have hinit := init_tuple_lookup
  have hmh := madeHere_tuple
  have hTI := hz.ty
  have calm2 : A.in1.handled = none := calm
  wp_walk using wpAny_typeOf hTI, z3_collect calm2 b1 b2 b3 n0 nn e1 e2 e3 hz q1 q2 q3
  intro h2 acc tk kp hd
  show wpAny _ _ (Builtin.Tuple.tupleExact acc.toList.toArray >>= fun v => ret v) _ _ _
  unfold Builtin.Tuple.tupleExact
  refine wpAny_bind (wpAny_newObj_type ?_ (by show acc.toList.toArray.size ≤ sizeLine; simp only [Array.toArray_toList]; rw [hd.1, sizeLine_eq]; omega))
  refine wpAny_pure ?_
  have e : acc.toList.toArray = acc := by simp
  rw [e]
  exact h h2 acc tk kp hd
theorem z3_tuple {t1 t2 t3 : Bool} {I l1 l2 l3 n : Nat} {xs ys us : Array Value} {Q : Value → Shared → Prop} (calm : A.handled = none) (b1 : l1 < I) (b2 : l2 < I) (b3 : l3 < I) (n0 : 0 < n) (nn : n ≤ 1000) (e1 : xs.size = n) (e2 : ys.size = n) (e3 : us.size = n)
    (hz : Z3 t1 t2 t3 I l1 l2 l3 0 s.heap) (q1 : IsSq t1 s.heap l1 xs) (q2 : IsSq t2 s.heap l2 ys) (q3 : IsSq t3 s.heap l3 us)
    (h : ∀ h2 acc tk, (∀ d o, d ∉ z3w I → s.heap.get? d = some o → h2.get? d = some o) → Drawn3 I s.heap.objs.size xs ys us n acc h2 → Q (.ref h2.objs.size) { s with heap := h2.push { cls := .type "tuple", data := .seq acc }, toks := tk }) :
    wpAny (model prog w) A (call (.type "tuple") [.ref (I + 5)]) Q E s := by
  refine callType_codes (Q₁ := fun obj s₁ => s₁.TypeIs obj "tuple" ∧ Q obj s₁) F.called_tuple (F.typeCall_tuple_1 _) F.entry_object_init
    (z3_code (by exact calm) b1 b2 b3 n0 nn e1 e2 e3 hz q1 q2 q3 fun h2 acc tk kp hd => ⟨⟨_, Heap.get?_push_size _ rfl, rfl⟩, h h2 acc tk kp hd⟩) fun obj s₁ h₁ => ?_
  exact ⟨h₁.1, F.args_object_init_2 obj _, object_init_meets F.called_tuple.init.lookup F.called_tuple.made (by decide) prog w A.in1 _ s₁ ⟨h₁.1, rfl, h₁.2⟩⟩
end
end Ov
end
section
set_option Elab.async false
set_option linter.all false
set_option maxRecDepth 100000
set_option maxHeartbeats 4000000
namespace Ov
open PySem PySem.Spec PyProof.Rows L2
noncomputable def updT (H : Hp) (ps : List (Addr × List V)) : Hp := fun b => match ps.lookup b with
  | some xs => some (.tup xs)
  | none => H b
theorem lk_mem {ps : List (Addr × List V)} {a : Addr} {xs : List V} (h : ps.lookup a = some xs) : (a, xs) ∈ ps := by
  induction ps with
  | nil => cases h
  | cons p ps ih =>
    obtain ⟨b, ys⟩ := p
    rw [List.lookup_cons] at h
    split at h
    · rename_i e
      cases h
      rw [beq_iff_eq] at e
      subst e
      exact List.mem_cons_self
    · exact List.mem_cons_of_mem _ (ih h)
theorem updT_old {H : Hp} {ps : List (Addr × List V)} {b : Addr} (h : ∀ p ∈ ps, p.1 ≠ b) : updT H ps b = H b := by
  unfold updT
  cases e : ps.lookup b with
  | none => rfl
  | some xs => exact absurd rfl (h _ (lk_mem e))
theorem inv_tups {X : Cx} {pins : List (Addr × Obj)} {σ : L2.St} {H : Hp} {s : Shared} {h' : Heap} {t' : Nat} (ps : List (Addr × List V)) (I : Inv X pins σ H s) (k : ∀ b u, s.heap.get? b = some u → h'.get? b = some u) (hp : ∀ p ∈ ps, s.heap.objs.size ≤ p.1)
    (new : ∀ p ∈ ps, p.2.length ≤ sizeLine ∧ ∃ its : List Value, Vals p.2 its ∧ IsTup h' p.1 its.toArray) : Inv X pins σ (updT H ps) { s with heap := h', toks := t' } := by
  have old : ∀ b, b < s.heap.objs.size → updT H ps b = H b := fun b hb => updT_old fun p hq e => by
    have := hp p hq
    rw [e] at this
    exact absurd hb (Nat.not_lt.mpr this)
  have hl : ∀ b o, H b = some o → updT H ps b = some o := fun b o q => by rw [old b (I.hok.lt q)]; exact q
  refine I.un ⟨fun b u q _ _ _ => k b u q, fun b u q _ _ _ => ⟨u.slots, k b u q⟩, fun b u q n _ => by rw [old b (Heap.lt_size q)]; exact n, fun b u q _ => ⟨u, k b u q⟩, fun b xs q => hl b _ q, fun b u xs q => hl b _ q, fun b xs q => ⟨#[], by rw [hl b _ q]; simp⟩⟩ fun b u e => ?_
  unfold updT at e
  split at e
  · rename_i xs hx
    cases e
    exact new _ (lk_mem hx)
  · exact (I.hok b u e).stay (fun c v _ q => k c v q) (fun c q => hl c _ q) fun c xs q => hl c _ q
noncomputable def rows3 : List V → List V → List V → List (List V)
  | x :: xs, y :: ys, u :: us => [x, y, u] :: rows3 xs ys us
  | _, _, _ => []
theorem rows3_get : ∀ (xs ys us : List V) (j : Nat) (r : List V), (rows3 xs ys us)[j]? = some r → ∃ x y u, xs[j]? = some x ∧ ys[j]? = some y ∧ us[j]? = some u ∧ r = [x, y, u]
  | [], _, _, j, r, h => by simp [rows3] at h
  | _ :: _, [], _, j, r, h => by simp [rows3] at h
  | _ :: _, _ :: _, [], j, r, h => by simp [rows3] at h
  | x :: xs, y :: ys, u :: us, 0, r, h => by
    simp only [rows3, List.getElem?_cons_zero, Option.some.injEq] at h
    exact ⟨x, y, u, rfl, rfl, rfl, h.symm⟩
  | x :: xs, y :: ys, u :: us, j + 1, r, h => by
    simp only [rows3, List.getElem?_cons_succ] at h ⊢
    exact rows3_get xs ys us j r h
theorem mem_zip_get {α β : Type} : ∀ {as : List α} {bs : List β} {a : α} {b : β}, (a, b) ∈ as.zip bs → ∃ j : Nat, as[j]? = some a ∧ bs[j]? = some b
  | [], _, _, _, h => by simp at h
  | _ :: _, [], _, _, h => by simp at h
  | x :: as, y :: bs, a, b, h => by
    simp only [List.zip_cons_cons, List.mem_cons, Prod.mk.injEq] at h
    rcases h with ⟨rfl, rfl⟩ | h
    · exact ⟨0, rfl, rfl⟩
    · obtain ⟨j, h1, h2⟩ := mem_zip_get h
      exact ⟨j + 1, h1, h2⟩
noncomputable def tCol (K : PySem.W.Frag) (ta : TA) : TE := fun σ H Q => ta σ H fun vs H1 => ∃ t1 t2 t3 a b c xs ys us, vs = [.ref a, .ref b, .ref c] ∧ SqX t1 K H1 a xs ∧ SqX t2 K H1 b ys ∧ SqX t3 K H1 c us ∧ 0 < xs.length ∧ xs.length ≤ 1000 ∧ ys.length = xs.length ∧ us.length = xs.length ∧
  ∀ (as : List Addr) (T : Addr), as.length = xs.length → as.Nodup → (∀ p ∈ as, H1 p = none) → T ∉ as → H1 T = none → Q (.ref T) (updT H1 ((T, as.map .ref) :: as.zip (rows3 xs ys us)))
theorem drawn_as {I S : Nat} {xs ys us acc : Array Value} {n : Nat} {h : Heap} (d : Drawn3 I S xs ys us n acc h) : ∃ as : List Addr, acc.toList = as.map Value.ref ∧ as.length = n ∧ as.Nodup ∧ ∀ (j : Nat) (a : Addr), as[j]? = some a → ∃ x y u, xs[j]? = some x ∧ ys[j]? = some y ∧ us[j]? = some u ∧ IsTr h a x y u ∧ I + 5 < a := by
  obtain ⟨hn, hj, inj⟩ := d
  let f : Value → Addr := fun v => match v with
    | .ref a => a
    | _ => 0
  have hg : ∀ j v, acc.toList[j]? = some v → ∃ (a : Nat) (x y u : Value), v = Value.ref a ∧ xs[j]? = some x ∧ ys[j]? = some y ∧ us[j]? = some u ∧ IsTr h a x y u ∧ I + 5 < a := fun j v e => by
    rw [Array.getElem?_toList] at e
    have lt : j < n := by rw [← hn]; exact (Array.getElem?_eq_some_iff.mp e).1
    obtain ⟨a, x, y, u, r1, r2, r3, r4, r5, r6, _⟩ := hj j lt
    rw [e] at r1
    cases r1
    exact ⟨a, x, y, u, rfl, r2, r3, r4, r5, r6⟩
  have hf : ∀ v ∈ acc.toList, Value.ref (f v) = v := fun v hv => by
    obtain ⟨j, hj⟩ := List.getElem?_of_mem hv
    obtain ⟨a, _, _, _, rfl, _⟩ := hg j v hj
    rfl
  have hm : acc.toList = (acc.toList.map f).map Value.ref := by
    rw [List.map_map]
    conv => lhs; rw [← List.map_id acc.toList]
    exact List.map_congr_left fun v hv => (hf v hv).symm
  refine ⟨acc.toList.map f, hm, by rw [List.length_map, Array.length_toList, hn], ?_, fun j a e => ?_⟩
  · rw [List.nodup_iff_pairwise_ne, List.pairwise_iff_getElem]
    intro i j hi hj' lt e
    rw [List.length_map, Array.length_toList] at hi hj'
    have at' : ∀ (k : Nat) (hk : k < acc.size) (hk' : k < (acc.toList.map f).length), acc[k]? = some (Value.ref (acc.toList.map f)[k]) := fun k hk hk' => by
      rw [Array.getElem?_eq_getElem hk, List.getElem_map, hf _ (List.getElem_mem _), Array.getElem_toList]
    have := inj i j _ (at' i hi _) (by rw [e]; exact at' j hj' _)
    omega
  · rw [List.getElem?_map, Option.map_eq_some_iff] at e
    obtain ⟨v, hv, rfl⟩ := e
    obtain ⟨a, x, y, u, rfl, r⟩ := hg j v hv
    exact ⟨x, y, u, r⟩
theorem pe_col {X : Cx} {a b c : Expr} {ta : TA} {p p' pos pos' : Pos} (hc : X.calm = true) (hg : Gl X "tuple") (hm : X.mg "tuple" = none) (hg' : Gl X "zip") (hm' : X.mg "zip" = none) (ha : PA X [a, b, c] ta)
    (hs : starEach [a, b, c] X.env = [(false, eval a X.env), (false, eval b X.env), (false, eval c X.env)]) (hs2 : starEach [b, c] X.env = [(false, eval b X.env), (false, eval c X.env)]) :
    PE X (.Call (.Name "tuple" p) [.Call (.Name "zip" p') [a, b, c] [] pos'] [] pos) (tCol X.K ta) := by
  intro pins s σ H Q I h
  refine Call_ (ld_blt I hg hm PyProof.Rows.boot_tuple (PyProof.Rows.callWith_type1 ?_ rfl rfl))
  show wpAny _ _ (spliced ((false, eval (.Call (.Name "zip" p') [a, b, c] [] pos') X.env) :: backTo pos (starEach [] X.env))) _ _ s
  refine Calls.spliced_cons ?_
  refine Call_ (ld_blt I hg' hm' PyProof.Rows.boot_zip (PyProof.Rows.callWith_type1 (thn (ha pos' pins s σ H _ I h) fun us s1 ⟨vs, H1, I1, r1, q1⟩ => ?_) (by rw [hs, hs2]) (by rw [hs2]; rfl)))
  obtain ⟨t1, t2, t3, l1, l2, l3, xs, ys, zs, e, sx, sy, sz, n0, nn, ey, ez, q⟩ := q1
  subst e
  cases r1 with
  | cons r rr =>
    cases rr with
    | cons r' rr =>
      cases rr with
      | cons r'' rr =>
        cases rr
        cases r
        cases r'
        cases r''
        obtain ⟨xv, rx, ix, _⟩ := inv_sq I1 sx
        obtain ⟨yv, ry, iy, _⟩ := inv_sq I1 sy
        obtain ⟨zv, rz, iz, _⟩ := inv_sq I1 sz
        refine zip3_call ix iy iz fun h2 z hsz kp => Calls.spliced_nil ?_
        have lx := rx.length
        have ly := ry.length
        have lz := rz.length
        refine z3_tuple (s := { s1 with heap := h2 }) (n := xs.length) (I1.ok.hd hc) ix.lt iy.lt iz.lt n0 nn (by simp [lx]) (by simp [← ly, ey]) (by simp [← lz, ez]) z (ix.at' fun o e => kp _ o e) (iy.at' fun o e => kp _ o e) (iz.at' fun o e => kp _ o e) fun h3 acc tk kp3 dr => ?_
        obtain ⟨as, e1, e2, nd, each⟩ := drawn_as dr
        have nw : ∀ b, b < s1.heap.objs.size → b ∉ z3w s1.heap.objs.size := fun b hb => notw' hb
        have kp4 : ∀ b o, s1.heap.get? b = some o → (h3.push { cls := .type "tuple", data := .seq acc }).get? b = some o := fun b o e => Heap.get?_push_of_some _ (kp3 b o (nw b (Heap.lt_size e)) (kp b o e))
        have big : ∀ a ∈ as, s1.heap.objs.size ≤ a ∧ a < h3.objs.size := fun a ha => by
          obtain ⟨j, hj⟩ := List.getElem?_of_mem ha
          obtain ⟨x, y, u, _, _, _, tr, lt⟩ := each j a hj
          exact ⟨Nat.le_of_lt (Nat.lt_of_le_of_lt (Nat.le_add_right _ 5) lt), Heap.lt_size tr⟩
        have b3 : s1.heap.objs.size ≤ h3.objs.size := by
          obtain ⟨a, ha⟩ : ∃ a, a ∈ as := List.exists_mem_of_length_pos (by rw [e2]; exact n0)
          exact Nat.le_of_lt (Nat.lt_of_le_of_lt (big a ha).1 (big a ha).2)
        refine ⟨.ref h3.objs.size, _, inv_tups (s := s1) (h' := h3.push { cls := .type "tuple", data := .seq acc }) (t' := tk) ((h3.objs.size, as.map V.ref) :: as.zip (rows3 xs ys zs)) I1 kp4 (fun p hp => ?_) (fun p hp => ?_), rfl, q as h3.objs.size e2 nd (fun p hp => I1.hok.fresh (big p hp).1) (fun hT => absurd (big _ hT).2 (Nat.lt_irrefl _)) (I1.hok.fresh b3)⟩
        · rcases List.mem_cons.mp hp with rfl | hp
          · exact b3
          · obtain ⟨j, h1, h2⟩ := mem_zip_get (a := p.1) (b := p.2) hp
            exact (big _ (List.mem_of_getElem? h1)).1
        · rcases List.mem_cons.mp hp with rfl | hp
          · refine ⟨by rw [List.length_map, e2, sizeLine_eq]; omega, as.map Value.ref, ?_, ?_⟩
            · clear q each big hp e1 e2 nd
              induction as with
              | nil => exact .nil
              | cons a as ih => exact .cons rfl ih
            · rw [← e1, Array.toArray_toList]
              exact IsTup.new _ _
          · obtain ⟨j, h1, h2⟩ := mem_zip_get (a := p.1) (b := p.2) hp
            obtain ⟨x, y, u, g1, g2, g3, er⟩ := rows3_get _ _ _ _ _ h2
            obtain ⟨x', y', u', k1, k2, k3, tr, _⟩ := each j _ h1
            obtain ⟨x2, m1, w1⟩ := rx.get g1
            obtain ⟨y2, m2, w2⟩ := ry.get g2
            obtain ⟨u2, m3, w3⟩ := rz.get g3
            rw [List.getElem?_toArray] at k1 k2 k3
            cases m1.symm.trans k1
            cases m2.symm.trans k2
            cases m3.symm.trans k3
            rw [er]
            exact ⟨by show 3 ≤ sizeLine; decide, [x', y', u'], .cons w1 (.cons w2 (.cons w3 .nil)), ⟨_, Heap.get?_push_of_some _ tr, rfl, _, rfl⟩⟩
theorem zip3D_reps {K : PySem.W.Frag} {CL : ClA} {H H3 : Hp} {A : Addr → Prop} (hA : AOk H A) (sm : Same H H3) : ∀ {as : List Addr} {xs ys us : List V} {ds es fs : List D}, (∀ (j : Nat) (a : Addr) (r : List V), as[j]? = some a → (rows3 xs ys us)[j]? = some r → H3 a = some (.tup r)) → (∀ p ∈ as, H p = none) →
    as.length = xs.length → ys.length = xs.length → us.length = xs.length → Reps K CL H A xs ds → Reps K CL H A ys es → Reps K CL H A us fs → Reps K CL H3 A (as.map .ref) (zip3D ds es fs)
  | [], [], [], [], [], [], [], _, _, _, _, _, _, _, _ => trivial
  | a :: as, x :: xs, y :: ys, u :: us, d :: ds, e :: es, f :: fs, h, hn, l1, l2, l3, r1, r2, r3 =>
    ⟨⟨a, [x, y, u], rfl, .inl (hA.new (hn a List.mem_cons_self)), SqT.of (h 0 a _ rfl rfl), r1.1.same sm, r2.1.same sm, r3.1.same sm, trivial⟩,
      zip3D_reps hA sm (fun j a' r p q => h (j + 1) a' r p q) (fun p hp => hn p (List.mem_cons_of_mem _ hp)) (Nat.succ.inj l1) (Nat.succ.inj l2) (Nat.succ.inj l3) r1.2 r2.2 r3.2⟩
  | [], _ :: _, _, _, _, _, _, _, _, l, _, _, _, _, _ => nomatch l
  | _ :: _, [], _, _, _, _, _, _, _, l, _, _, _, _, _ => nomatch l
  | _, [], _ :: _, _, _, _, _, _, _, _, l, _, _, _, _ => nomatch l
  | _, [], _, _ :: _, _, _, _, _, _, _, _, l, _, _, _ => nomatch l
  | _, _ :: _, [], _, _, _, _, _, _, _, l, _, _, _, _ => nomatch l
  | _, _ :: _, _, [], _, _, _, _, _, _, _, l, _, _, _ => nomatch l
  | _, [], _, _, _ :: _, _, _, _, _, _, _, _, r, _, _ => r.elim
  | _, _ :: _, _, _, [], _, _, _, _, _, _, _, r, _, _ => r.elim
  | _, _, [], _, _, _ :: _, _, _, _, _, _, _, _, r, _ => r.elim
  | _, _, _ :: _, _, _, [], _, _, _, _, _, _, _, r, _ => r.elim
  | _, _, _, [], _, _, _ :: _, _, _, _, _, _, _, _, r => r.elim
  | _, _, _, _ :: _, _, _, [], _, _, _, _, _, _, _, r => r.elim
theorem lk_zip : ∀ {as : List Addr} {rs : List (List V)} {j : Nat} {a : Addr} {r : List V}, as.Nodup → as[j]? = some a → rs[j]? = some r → (as.zip rs).lookup a = some r
  | [], _, _, _, _, _, h, _ => by simp at h
  | _ :: _, [], _, _, _, _, _, h => by simp at h
  | b :: as, q :: rs, 0, a, r, nd, h1, h2 => by
    simp only [List.getElem?_cons_zero, Option.some.injEq] at h1 h2
    subst h1 h2
    rw [List.zip_cons_cons, List.lookup_cons_self]
  | b :: as, q :: rs, j + 1, a, r, nd, h1, h2 => by
    simp only [List.getElem?_cons_succ] at h1 h2
    have nb : a ≠ b := fun e => by subst e; exact (List.nodup_cons.mp nd).1 (List.mem_of_getElem? h1)
    rw [List.zip_cons_cons, List.lookup_cons, beq_false_of_ne nb]
    exact lk_zip (List.nodup_cons.mp nd).2 h1 h2
section
variable {X : Cx} {CL : ClA} {W : XW} {pos p pos' p' : Pos} {a b c : Expr} {fa fb fc : Rho → R D}
theorem se_col (ha : SE X CL W a fa) (hb : SE X CL W b fb) (hd : SE X CL W c fc) (hc : X.calm = true) (hg : Gl X "tuple") (hm : X.mg "tuple" = none) (hg' : Gl X "zip") (hm' : X.mg "zip" = none)
    (hs : starEach [a, b, c] X.env = [(false, eval a X.env), (false, eval b X.env), (false, eval c X.env)]) (hs2 : starEach [b, c] X.env = [(false, eval b X.env), (false, eval c X.env)]) (hs3 : starEach [c] X.env = [(false, eval c X.env)]) :
    SE X CL W (.Call (.Name "tuple" p) [.Call (.Name "zip" p') [a, b, c] [] pos'] [] pos) (fun ρ => ((fa ρ).bind fun x => (fb ρ).bind fun y => (fc ρ).bind fun z => zip3R x y z).bind fun xs => .ok (.tup xs)) :=
  fun A => PE.weak (pe_col hc hg hm hg' hm' (pa_cons (ha A) (pa_cons (hb A) (pa_cons (hd A) pa_nil hs3) (by rw [hs2, hs3])) (by rw [hs, hs2])) hs hs2) fun σ H Q ⟨hA, ρ, g, q⟩ => by
    simp only [R.bind_assoc] at q
    refine ⟨hA, ρ, g, Post.bind q fun d v H1 _ s1 r1 p1 => ⟨hA.same s1, ρ, g.same s1, Post.bind p1 fun d2 v2 H2 _ s2 r2 p2 => ⟨(hA.same s1).same s2, ρ, (g.same s1).same s2, Post.bind p2 fun d3 v3 H3 _ s3 r3 p3 => ?_⟩⟩⟩
    unfold zip3R at p3
    cases e1 : asSeq d with
    | bad => rw [e1] at p3; exact p3.elim
    | exn z => exact absurd e1 (by cases d <;> simp [asSeq])
    | ok ds =>
      cases e2 : asSeq d2 with
      | bad => rw [e1, e2] at p3; exact p3.elim
      | exn z => exact absurd e2 (by cases d2 <;> simp [asSeq])
      | ok es =>
        cases e3 : asSeq d3 with
        | bad => rw [e1, e2, e3] at p3; exact p3.elim
        | exn z => exact absurd e3 (by cases d3 <;> simp [asSeq])
        | ok fs =>
          rw [e1, e2, e3] at p3
          simp only [R.bind_ok] at p3
          obtain ⟨t1, c1, xs, rfl, k1, rs1⟩ := sq_of ((r1.same s2).same s3) e1
          obtain ⟨t2, c2, ys, rfl, k2, rs2⟩ := sq_of (r2.same s3) e2
          obtain ⟨t3, c3, us, rfl, k3, rs3⟩ := sq_of r3 e3
          split at p3
          · rename_i hn
            obtain ⟨n0, nn, ny, nz⟩ := hn
            rw [← rs1.length] at n0 nn ny nz
            rw [← rs2.length] at ny
            rw [← rs3.length] at nz
            refine ⟨t1, t2, t3, c1, c2, c3, xs, ys, us, rfl, k1 H3 (Kp.of (Same.refl H3)), k2 H3 (Kp.of (Same.refl H3)), k3 H3 (Kp.of (Same.refl H3)), n0, nn, ny, nz, fun as T el nd fr hT fT => ?_⟩
            have hA3 : AOk H3 A := ((hA.same s1).same s2).same s3
            have fr' : ∀ q ∈ (T, as.map V.ref) :: as.zip (rows3 xs ys us), H3 q.1 = none := fun q hq => by
              rcases List.mem_cons.mp hq with rfl | hq
              · exact fT
              · obtain ⟨j, h1, h2⟩ := mem_zip_get (a := q.1) (b := q.2) hq
                exact fr _ (List.mem_of_getElem? h1)
            have sm : Same H3 (updT H3 ((T, as.map V.ref) :: as.zip (rows3 xs ys us))) := fun b o e => by
              rw [updT_old fun q hq z => by rw [← z, fr' q hq] at e; cases e]
              exact e
            refine p3 _ _ sm ⟨T, as.map V.ref, rfl, .inl (hA3.new fT), SqT.of ?_, zip3D_reps hA3 sm (fun j a r h1 h2 => ?_) fr el ny nz rs1 rs2 rs3⟩
            · unfold updT
              rw [List.lookup_cons_self]
            · have na : a ≠ T := fun e => by subst e; exact hT (List.mem_of_getElem? h1)
              unfold updT
              rw [List.lookup_cons, beq_false_of_ne na, lk_zip nd h1 h2]
          · exact p3.elim
end
end Ov
end
section
set_option Elab.async false
set_option linter.all false
set_option maxRecDepth 100000
set_option maxHeartbeats 4000000
namespace Ov
open PySem PySem.Spec PyProof.Rows L2
noncomputable def It3 (K : PySem.W.Frag) (t1 t2 t3 : Bool) (a b c : Addr) : It :=
  ⟨fun i H => ∃ xs ys us x y u, SqX t1 K H a xs ∧ SqX t2 K H b ys ∧ SqX t3 K H c us ∧ xs[i]? = some x ∧ ys[i]? = some y ∧ us[i]? = some u,
   fun i H v H' => ∃ p x y u, H p = none ∧ v = .ref p ∧ (∀ xs, SqX t1 K H a xs → xs[i]? = some x) ∧ (∀ ys, SqX t2 K H b ys → ys[i]? = some y) ∧ (∀ us, SqX t3 K H c us → us[i]? = some u) ∧ H' = upd H p (.tup [x, y, u]),
   fun i H => ∃ xs, SqX t1 K H a xs ∧ xs.length ≤ i⟩
noncomputable def z3Fp (I : Nat) : List Addr := [I + 0, I + 1, I + 2, I + 3, I + 4, I + 5]
theorem fp_mem {I j : Nat} (h : j ≤ 5) : I + j ∈ z3Fp I := by
  unfold z3Fp
  match j, h with
  | 0, _ => simp
  | 1, _ => simp
  | 2, _ => simp
  | 3, _ => simp
  | 4, _ => simp
  | 5, _ => simp
theorem mem_fp {I c : Nat} (h : c ∈ z3Fp I) : ∃ j, j ≤ 5 ∧ c = I + j := by
  simp only [z3Fp, List.mem_cons, List.not_mem_nil, or_false] at h
  rcases h with h | h | h | h | h | h
  · exact ⟨0, by decide, h⟩
  · exact ⟨1, by decide, h⟩
  · exact ⟨2, by decide, h⟩
  · exact ⟨3, by decide, h⟩
  · exact ⟨4, by decide, h⟩
  · exact ⟨5, by decide, h⟩
theorem w_fp {I c : Nat} (h : c ∈ z3w I) : c ∈ z3Fp I := by
  simp only [z3w, z3Fp, List.mem_cons, List.not_mem_nil, or_false] at h ⊢
  rcases h with h | h | h | h | h <;> simp [h]
theorem turn_zip3 {P : Program} {w : World} {K : PySem.W.Frag} {x : Str} {pos : Pos} (t1 t2 t3 : Bool) (I l1 l2 l3 : Nat) (b1 : l1 < I) (b2 : l2 < I) (b3 : l3 < I) : Turn P w K (.Name x pos) (It3 K t1 t2 t3 l1 l2 l3) (z3Fp I) (I + 5) (Z3 t1 t2 t3 I l1 l2 l3) where
  mem := fp_mem (by decide)
  obj := fun i h ⟨zI, i1, i2, i3, ⟨a, b, c, hO⟩, zz⟩ d hd => by
    simp only [z3Fp, List.mem_cons, List.not_mem_nil, or_false] at hd
    rcases hd with rfl | rfl | rfl | rfl | rfl | rfl
    · exact i1.obj
    · exact i2.obj
    · exact i3.obj
    · exact ⟨_, zI, fun v z => by cases z⟩
    · exact ⟨_, hO, fun v z => by cases z⟩
    · rcases zz with hz | ⟨_, _, hz⟩
      · exact ⟨_, hz, fun v z => by cases z⟩
      · exact ⟨_, hz, fun v z => by cases z⟩
  keep := fun i h h2 z k => z.at' fun j hj o q => k _ (fp_mem hj) o q
  item := by
    intro X hP hw hK hc i pins s σ H E Iv hf z ⟨xs, ys, us, x, y, u, q1, q2, q3, hx, hy, hu⟩
    subst hP hw hK
    obtain ⟨xv, rx, sx, _⟩ := inv_sq Iv q1
    obtain ⟨yv, ry, sy, _⟩ := inv_sq Iv q2
    obtain ⟨uv, ru, su, _⟩ := inv_sq Iv q3
    obtain ⟨x', hx', wx⟩ := rx.get hx
    obtain ⟨y', hy', wy⟩ := ry.get hy
    obtain ⟨u', hu', wu⟩ := ru.get hu
    have lt5 : I + 5 < s.heap.objs.size := z.lt
    refine z3_step (Iv.ok.hd hc) b1 b2 b3 z sx sy su (by simpa using hx') (by simpa using hy') (by simpa using hu') fun h2 tk z2 tr sz kp => ⟨_, rfl, wpAny_pure ?_⟩
    have nT : ∀ c ∈ z3Fp I, c ≠ s.heap.objs.size := fun c hc z => by
      obtain ⟨j, hj, rfl⟩ := mem_fp hc
      exact absurd (z ▸ Nat.lt_of_le_of_lt (Nat.add_le_add_left hj I) lt5) (Nat.lt_irrefl _)
    have I1 : Inv X pins σ (upd H s.heap.objs.size (.tup [x, y, u])) { s with heap := s.heap.push { cls := .type "tuple", data := .seq #[x', y', u'] }, toks := s.toks } :=
      Iv.laid (fun _ _ q => Heap.get?_push_of_some _ q) (Nat.le_refl _) ⟨(by decide : 3 ≤ sizeLine), [x', y', u'], .cons wx (.cons wy (.cons wu .nil)), ⟨_, Heap.get?_push_size _ rfl, rfl, _, rfl⟩⟩
    have hf' : ∀ b ∈ z3Fp I, FpOk X pins (upd H s.heap.objs.size (.tup [x, y, u])) b := fun b hb => ⟨by rw [upd_ne (nT b hb)]; exact (hf b hb).1, (hf b hb).2⟩
    have I2 : Inv X pins σ (upd H s.heap.objs.size (.tup [x, y, u])) { s with heap := h2, toks := tk } := Inv.turnedL (s := { s with heap := s.heap.push { cls := .type "tuple", data := .seq #[x', y', u'] }, toks := s.toks }) (z3Fp I) I1 (fun c o nc q => by
      rcases Heap.get?_push_cases q with ⟨e1, e2⟩ | e1
      · subst e1 e2
        exact tr
      · exact kp c o (fun h => nc (w_fp h)) e1) hf'
    exact ⟨.ref s.heap.objs.size, _, I2, rfl, ⟨s.heap.objs.size, x, y, u, Iv.fresh, rfl, fun zs hz => by rw [inv_sq_inj Iv hz q1]; exact hx, fun zs hz => by rw [inv_sq_inj Iv hz q2]; exact hy, fun zs hz => by rw [inv_sq_inj Iv hz q3]; exact hu, rfl⟩, z2, fun b hb => (hf' b hb).1⟩
  done := by
    intro X hP hw hK hc i pins s σ H E Iv hf z ⟨xs, q1, hk⟩
    subst hP hw hK
    obtain ⟨xv, rx, sx, _⟩ := inv_sq Iv q1
    have e1 := rx.length
    exact z3_end (Iv.ok.hd hc) b1 z sx (by simp only [List.size_toArray]; omega) fun h2 kp => ⟨rfl, Inv.turnedL (z3Fp I) Iv (fun c o nc q => kp c o (fun h => nc (w_fp h)) q) hf⟩
  self := fun _ _ _ _ _ st h => zip_self st.ty h
noncomputable def iZip3 (K : PySem.W.Frag) (ta : TA) : TI := fun σ H R => ta σ H fun vs H1 => ∃ t1 t2 t3 a b c xs ys us, vs = [.ref a, .ref b, .ref c] ∧ SqX t1 K H1 a xs ∧ SqX t2 K H1 b ys ∧ SqX t3 K H1 c us ∧ R (It3 K t1 t2 t3 a b c) H1
theorem pi_zip3 {X : Cx} {a b c : Expr} {ta : TA} {p pos tpos : Pos} {x : Str} (hg : Gl X "zip") (hm : X.mg "zip" = none) (ha : PA X [a, b, c] ta)
    (hs : starEach [a, b, c] X.env = [(false, eval a X.env), (false, eval b X.env), (false, eval c X.env)]) (hs2 : starEach [b, c] X.env = [(false, eval b X.env), (false, eval c X.env)]) :
    PI X (.Name x tpos) (.Call (.Name "zip" p) [a, b, c] [] pos) (iZip3 X.K ta) := by
  intro pins s σ H R I h
  refine Call_ (ld_blt I hg hm PyProof.Rows.boot_zip (PyProof.Rows.callWith_type1 (thn (ha pos pins s σ H _ I h) fun us s1 ⟨vs, H1, I1, r1, q1⟩ => ?_) (by rw [hs, hs2]) (by rw [hs2]; rfl)))
  obtain ⟨t1, t2, t3, l1, l2, l3, xs, ys, zs, e, sx, sy, sz, q⟩ := q1
  subst e
  cases r1 with
  | cons r rr =>
    cases rr with
    | cons r' rr =>
      cases rr with
      | cons r'' rr =>
        cases rr
        cases r
        cases r'
        cases r''
        obtain ⟨xv, rx, ix, _⟩ := inv_sq I1 sx
        obtain ⟨yv, ry, iy, _⟩ := inv_sq I1 sy
        obtain ⟨zv, rz, iz, _⟩ := inv_sq I1 sz
        refine zip3_call ix iy iz fun h2 z hsz kp => zip_self (Z3.ty (s := { s1 with heap := h2 }) z) ?_
        refine ⟨s1.heap.objs.size + 5, z3Fp s1.heap.objs.size, _, _, H1, rfl, I1.kept (t' := s1.toks) kp, turn_zip3 t1 t2 t3 s1.heap.objs.size l1 l2 l3 ix.lt iy.lt iz.lt, z, fun b hb => ?_, q⟩
        have hb' : s1.heap.objs.size ≤ b := by
          obtain ⟨j, _, rfl⟩ := mem_fp hb
          exact Nat.le_add_right _ _
        exact I1.fpOk hb' (I1.hok.fresh hb')
theorem zip3D_len : ∀ (xs ys us : List D), ys.length = xs.length → us.length = xs.length → (zip3D xs ys us).length = xs.length
  | [], [], [], _, _ => rfl
  | x :: xs, y :: ys, u :: us, h1, h2 => by
    rw [zip3D, List.length_cons, zip3D_len xs ys us (Nat.succ.inj h1) (Nat.succ.inj h2)]
    rfl
theorem zip3D_get : ∀ (xs ys us : List D) (i : Nat) (d : D), (zip3D xs ys us)[i]? = some d → ∃ x y u, xs[i]? = some x ∧ ys[i]? = some y ∧ us[i]? = some u ∧ d = .tup [x, y, u]
  | [], _, _, i, d, h => by simp [zip3D] at h
  | _ :: _, [], _, i, d, h => by simp [zip3D] at h
  | _ :: _, _ :: _, [], i, d, h => by simp [zip3D] at h
  | x :: xs, y :: ys, u :: us, 0, d, h => by
    rw [zip3D] at h
    simp only [List.getElem?_cons_zero, Option.some.injEq] at h
    exact ⟨x, y, u, rfl, rfl, rfl, h.symm⟩
  | x :: xs, y :: ys, u :: us, i + 1, d, h => by
    rw [zip3D] at h
    simp only [List.getElem?_cons_succ] at h ⊢
    exact zip3D_get xs ys us i d h
theorem ylds_zip3 {K : PySem.W.Frag} {CL : ClA} {A : Addr → Prop} {H1 : Hp} {t1 t2 t3 : Bool} {a b c : Addr} {xs ys us : List V} {ds es fs : List D} (s1 : ∀ H2, Kp A H1 H2 → SqX t1 K H2 a xs) (s2 : ∀ H2, Kp A H1 H2 → SqX t2 K H2 b ys) (s3 : ∀ H2, Kp A H1 H2 → SqX t3 K H2 c us) (r1 : Reps K CL H1 A xs ds) (r2 : Reps K CL H1 A ys es) (r3 : Reps K CL H1 A us fs) (n1 : es.length = ds.length) (n2 : fs.length = ds.length) : Ylds K CL A (zip3D ds es fs) (It3 K t1 t2 t3 a b c) H1 := fun H k i => by
  refine ⟨fun hi => ⟨xs, s1 H k, ?_⟩, fun d hd => ?_⟩
  · rw [zip3D_len _ _ _ n1 n2] at hi
    rw [r1.length]
    omega
  · obtain ⟨x, y, u, hx, hy, hu, rfl⟩ := zip3D_get _ _ _ _ _ hd
    obtain ⟨x', hx', rx⟩ := r1.get hx
    obtain ⟨y', hy', ry⟩ := r2.get hy
    obtain ⟨u', hu', ru⟩ := r3.get hu
    refine ⟨⟨xs, ys, us, x', y', u', s1 H k, s2 H k, s3 H k, hx', hy', hu'⟩, ?_⟩
    rintro w' H' ⟨p, x2, y2, u2, hp, rfl, c1, c2, c3, rfl⟩
    have ex : x2 = x' := Option.some.inj ((c1 xs (s1 H k)).symm.trans hx')
    have ey : y2 = y' := Option.some.inj ((c2 ys (s2 H k)).symm.trans hy')
    have eu : u2 = u' := Option.some.inj ((c3 us (s3 H k)).symm.trans hu')
    subst ex ey eu
    have sm := same_new hp (.tup [x2, y2, u2])
    exact ⟨sm, fun B hB aB => new_tup aB hp ⟨rep_later rx k hB, rep_later ry k hB, rep_later ru k hB, trivial⟩⟩
section
variable {X : Cx} {CL : ClA} {W : XW} {pos p tpos : Pos} {a b c : Expr} {fa fb fc : Rho → R D} {x : Str}
theorem si_zip3 (ha : SE X CL W a fa) (hb : SE X CL W b fb) (hd : SE X CL W c fc) (hg : Gl X "zip") (hm : X.mg "zip" = none)
    (hs : starEach [a, b, c] X.env = [(false, eval a X.env), (false, eval b X.env), (false, eval c X.env)]) (hs2 : starEach [b, c] X.env = [(false, eval b X.env), (false, eval c X.env)]) (hs3 : starEach [c] X.env = [(false, eval c X.env)]) :
    SI X CL W (.Name x tpos) (.Call (.Name "zip" p) [a, b, c] [] pos) (fun ρ => (fa ρ).bind fun x => (fb ρ).bind fun y => (fc ρ).bind fun z => zip3R x y z) :=
  fun A => PI.weak (pi_zip3 hg hm (pa_cons (ha A) (pa_cons (hb A) (pa_cons (hd A) pa_nil hs3) (by rw [hs2, hs3])) (by rw [hs, hs2])) hs hs2) fun σ H R ⟨hA, ρ, g, q⟩ => ⟨hA, ρ, g, PostI.ex q fun d v H1 _ s1 r1 p1 => ⟨hA.same s1, ρ, g.same s1, PostI.ex p1 fun d2 v2 H2 _ s2 r2 p2 => ⟨(hA.same s1).same s2, ρ, (g.same s1).same s2, PostI.ex p2 fun d3 v3 H3 _ s3 r3 p3 => by
    unfold zip3R at p3
    cases e1 : asSeq d with
    | bad => rw [e1] at p3; exact p3.elim
    | exn z => exact absurd e1 (by cases d <;> simp [asSeq])
    | ok ds =>
      cases e2 : asSeq d2 with
      | bad => rw [e1, e2] at p3; exact p3.elim
      | exn z => exact absurd e2 (by cases d2 <;> simp [asSeq])
      | ok es =>
        cases e3 : asSeq d3 with
        | bad => rw [e1, e2, e3] at p3; exact p3.elim
        | exn z => exact absurd e3 (by cases d3 <;> simp [asSeq])
        | ok fs =>
          rw [e1, e2, e3] at p3
          simp only [Ov.R.bind_ok] at p3
          obtain ⟨t1, c1, xs, rfl, k1, rs1⟩ := sq_of ((r1.same s2).same s3) e1
          obtain ⟨t2, c2, ys, rfl, k2, rs2⟩ := sq_of (r2.same s3) e2
          obtain ⟨t3, c3, us, rfl, k3, rs3⟩ := sq_of r3 e3
          by_cases hn : 0 < ds.length ∧ ds.length ≤ 1000 ∧ es.length = ds.length ∧ fs.length = ds.length
          · rw [if_pos hn] at p3
            obtain ⟨n0, nn, ny, nz⟩ := hn
            refine ⟨t1, t2, t3, c1, c2, c3, xs, ys, us, rfl, k1 H3 (Kp.of (Same.refl H3)), k2 H3 (Kp.of (Same.refl H3)), k3 H3 (Kp.of (Same.refl H3)), p3 _ H3 (Same.refl H3) (ylds_zip3 k1 k2 k3 rs1 rs2 rs3 ny nz) ?_⟩
            rw [zip3D_len _ _ _ ny nz, sizeLine_eq]
            omega
          · rw [if_neg hn] at p3
            exact p3.elim⟩⟩⟩
end
end Ov
end
section
set_option Elab.async false
set_option linter.all false
set_option maxRecDepth 100000
set_option maxHeartbeats 4000000
namespace Ov
open PySem PySem.Spec PyProof.Rows L2
noncomputable def pkV {α : Type} (k : Nat) (xs : List α) : List α := (pk2 k xs.length).filterMap fun i => xs[i]?
theorem pk_range (k n : Nat) : sliceRange (sliceBounds (some (k : Int)) none (some 2) n).1 (sliceBounds (some (k : Int)) none (some 2) n).2.1 (sliceBounds (some (k : Int)) none (some 2) n).2.2 = pk2 k n := by
  have h1 : (sliceBounds (some (k : Int)) none (some 2) n).1 = ((min k n : Nat) : Int) := by
    simp only [sliceBounds, Option.getD_some, show (2 : Int) > 0 by decide, if_true]
    rw [if_neg (by omega)]
    omega
  have h2 : (sliceBounds (some (k : Int)) none (some 2) n).2.1 = (n : Int) := by
    simp only [sliceBounds, Option.getD_some, show (2 : Int) > 0 by decide, if_true]
  have h3 : (sliceBounds (some (k : Int)) none (some 2) n).2.2 = 2 := rfl
  rw [h1, h2, h3]
  unfold sliceRange pk2
  simp only [show (2 : Int) > 0 by decide, if_true]
  have hc : ((if ((min k n : Nat) : Int) < (n : Int) then ((n : Int) - ((min k n : Nat) : Int) + 2 - 1) / 2 else 0) : Int).toNat = (n - min k n + 1) / 2 := by
    by_cases h : ((min k n : Nat) : Int) < (n : Int)
    · rw [if_pos h]; omega
    · rw [if_neg h]; omega
  rw [hc]
  refine List.map_congr_left fun j _ => ?_
  omega
theorem pick_pk (its : List Value) (k : Nat) : slicePick its.toArray (some (k : Int)) none (some 2) = (pkV k its).toArray := by
  unfold slicePick pkV
  rw [pk_range]
  simp
theorem pk_vals {xs : List V} {us : List Value} (r : Vals xs us) (L : List Nat) : Vals (L.filterMap fun i => xs[i]?) (L.filterMap fun i => us[i]?) := by
  induction L with
  | nil => exact .nil
  | cons i L ih =>
    cases e : xs[i]? with
    | none =>
      have : us[i]? = none := by
        rw [List.getElem?_eq_none_iff] at e ⊢
        rw [← r.length]; exact e
      rw [List.filterMap_cons_none e, List.filterMap_cons_none this]
      exact ih
    | some x =>
      obtain ⟨u, hu, ru⟩ := r.get e
      rw [List.filterMap_cons_some e, List.filterMap_cons_some hu]
      exact .cons ru ih
theorem pk_len {α : Type} (k : Nat) (xs : List α) : (pkV k xs).length ≤ xs.length := by
  unfold pkV
  refine Nat.le_trans (List.length_filterMap_le _ _) ?_
  unfold pk2
  rw [List.length_map, List.length_range]
  omega
theorem pk_reps {K : PySem.W.Frag} {CL : ClA} {H : Hp} {A : Addr → Prop} {xs : List V} {ds : List D} (r : Reps K CL H A xs ds) (L : List Nat) : Reps K CL H A (L.filterMap fun i => xs[i]?) (L.filterMap fun i => ds[i]?) := by
  induction L with
  | nil => trivial
  | cons i L ih =>
    cases e : ds[i]? with
    | none =>
      have : xs[i]? = none := by
        rw [List.getElem?_eq_none_iff] at e ⊢
        rw [r.length]; exact e
      rw [List.filterMap_cons_none e, List.filterMap_cons_none this]
      exact ih
    | some d =>
      obtain ⟨x, hx, rx⟩ := r.get e
      rw [List.filterMap_cons_some e, List.filterMap_cons_some hx]
      exact ⟨rx, ih⟩
noncomputable def tStp (K : PySem.W.Frag) (k : Nat) (te : TE) : TE := fun σ H Q => te σ H fun x H1 => ∃ a xs, x = .ref a ∧ SqL K H1 a xs ∧ ∀ p, H1 p = none → Q (.ref p) (upd H1 p (.lst (pkV k xs)))
theorem pe_stp {X : Cx} {e : Expr} {te : TE} {k : Nat} {u1 u2 : Nat} {p1 p2 p3 pos : Pos} (he : PE X e te) : PE X (.Subscript e (.Slice (some (.Constant (.int (k : Int)) u1 p1)) none (some (.Constant (.int 2) u2 p2)) p3) pos) (tStp X.K k te) := by
  intro pins s σ H Q I h
  refine Subscript_ (thn (he pins s σ H _ I h) fun v s1 ⟨x, H1, I1, r1, q1⟩ => ?_)
  refine wpAny_Slice (thn (po_some (X := X) pe_int pins s1 σ H1 (fun o H' => o = some (k : Int) ∧ H' = H1) I1 ⟨_, rfl, rfl, rfl⟩) fun vl s2 ⟨l, H2, I2, pl, el, eH⟩ => ?_)
  subst el eH
  rw [evalPart_none]
  refine wpAny_pure ?_
  refine thn (po_some (X := X) pe_int pins s2 σ H2 (fun o H' => o = some 2 ∧ H' = H2) I2 ⟨_, rfl, rfl, rfl⟩) fun vk s4 ⟨l', H4, I4, pk, el', eH'⟩ => ?_
  subst el' eH'
  obtain ⟨a, xs, rfl, hx, q⟩ := q1
  cases r1
  have I5 : Inv X pins σ H4 { s4 with heap := s4.heap.push { cls := .type "slice", data := .fields #[vl, .none, vk] } } := I4.kept (t' := s4.toks) fun b ob q => Heap.get?_push_of_some _ q
  obtain ⟨its, r, ht, hz⟩ := I5.list hx
  have hlen := r.length
  show wpAny (model X.prog X.w) X.A (subscriptTail e _ (.ref a) (.ref s4.heap.objs.size)) (EP X pins σ Q) X.xe { s4 with heap := s4.heap.push { cls := .type "slice", data := .fields #[vl, .none, vk] } }
  refine tail_any (ops := [.ref a, .ref s4.heap.objs.size]) ht.isList.typeIs slot_list_getitem.lookup (wpAny_getItem_list_slice ht.isList (Heap.IsSliceOf.new ..) pl .none pk (by simp) ?_ (by rw [List.size_toArray] <;> omega)) (by with_unfolding_all rfl)
  rw [pick_pk]
  refine ⟨.ref _, _, I5.laid (t' := s4.toks) (o := .lst (pkV k xs)) (fun b ob q => Heap.get?_push_of_some _ q) (Nat.le_refl _) ?_, rfl, q _ (I5.hok.fresh (Nat.le_refl _))⟩
  refine ⟨Nat.le_trans (pk_len k xs) hz, _, 0, ?_, Heap.get?_push_size _ rfl⟩
  unfold pkV
  rw [hlen]
  exact pk_vals r _
section
variable {X : Cx} {CL : ClA} {W : XW} {a : Expr} {fa : Rho → R D}
theorem se_stp {k : Nat} {u1 u2 : Nat} {p1 p2 p3 pos : Pos} (ha : ST X CL W a fa) : SE X CL W (.Subscript a (.Slice (some (.Constant (.int (k : Int)) u1 p1)) none (some (.Constant (.int 2) u2 p2)) p3) pos) (fun ρ => (fa ρ).bind fun x => biD .stp [x, .int (k : Int)]) :=
  fun A => PE.weak (pe_stp (ha A)) fun σ H Q ⟨hA, ρ, g, p⟩ => ⟨hA, ρ, g, Post.bind p fun d v H1 _ s1 r1 p1 => by
    cases d with
    | lst ds =>
      obtain ⟨q, xs, rfl, sq, r⟩ := r1.lst_of
      refine ⟨q, xs, rfl, sq, fun t ht => p1 _ _ (same_new ht _) ?_⟩
      have rr : Reps X.K CL H1 A (pkV k xs) (stpD (k : Int).toNat ds) := by
        unfold pkV stpD
        rw [r.length, Int.toNat_natCast]
        exact pk_reps r _
      exact new_lst (hA.same s1) ht rr
    | _ => exact p1.elim⟩
end
end Ov
end
section
set_option Elab.async false
set_option linter.all false
set_option maxRecDepth 100000
set_option maxHeartbeats 4000000
namespace Ov
open PySem PySem.Spec PyProof.Rows L2
section
variable {X : Cx} {CL : ClA} {W : XW}
end
end Ov
end
section
set_option Elab.async false
set_option linter.all false
set_option maxRecDepth 100000
set_option maxHeartbeats 4000000
namespace Ov
open PySem PySem.Spec PyProof.Rows L2
section
variable {X : Cx}
variable {CL : ClA} {W : XW} {pos p pos' p' : Pos} {a b : Expr} {fa fb : Rho → R D}
end
end Ov
end
section
set_option Elab.async false
set_option linter.all false
set_option maxRecDepth 100000
set_option maxHeartbeats 4000000
namespace Ov
open PySem PySem.Spec PyProof.Rows L2
section
variable {X : Cx} {CL : ClA} {W : XW} {e o o' k l : Expr} {fe : Rho → R Ov.D} {i ik il : Nat} {pos spos spos' tpos : Pos} {kt : Nat}
end
end Ov
end
section
set_option Elab.async false
set_option linter.all false
set_option maxRecDepth 100000
set_option maxHeartbeats 4000000
namespace Ov
open PySem PySem.Spec PyProof.Rows L2
section
variable {prog : Program} {w : World} {A : Around} {E : Value → Shared → Prop} {s : Shared}
end
section
variable {X : Cx} {pos : Pos} {CL : ClA}
end
end Ov
end
section
set_option Elab.async false
set_option linter.all false
set_option maxRecDepth 100000
set_option maxHeartbeats 4000000
namespace Ov
open PySem PySem.Spec PyProof.Rows L2
section
variable {X : Cx} {CL : ClA} {W : XW}
end
end Ov
end
section
set_option Elab.async false
set_option linter.all false
set_option maxRecDepth 100000
set_option maxHeartbeats 4000000
namespace Ov
open PySem PySem.W PyProof.Rows
noncomputable def Kr {α : Type} (lt : Nat → Nat → Bool) (n : Nat) : KasT α → (α → Prop) → Prop
  | .ret a, Q => Q a
  | .ask i j k, Q => i < n ∧ j < n ∧ Kr lt n (k (lt i j)) Q
theorem Kr.mono {α : Type} {lt : Nat → Nat → Bool} {n : Nat} {Q Q' : α → Prop} : ∀ {t : KasT α}, Kr lt n t Q → (∀ a, Q a → Q' a) → Kr lt n t Q'
  | .ret _, h, k => k _ h
  | .ask i j f, h, k => ⟨h.1, h.2.1, Kr.mono (t := f (lt i j)) h.2.2 k⟩
theorem Kr.bind {α β : Type} {lt : Nat → Nat → Bool} {n : Nat} {f : α → KasT β} {Q : β → Prop} : ∀ {t : KasT α}, Kr lt n t (fun a => Kr lt n (f a) Q) → Kr lt n (t.bind f) Q
  | .ret _, h => h
  | .ask i j k, h => ⟨h.1, h.2.1, Kr.bind (t := k (lt i j)) h.2.2⟩
structure Sto (lt : Nat → Nat → Bool) (n : Nat) : Prop where
  tr : ∀ i j k, i < n → j < n → k < n → lt i j = true → lt j k = true → lt i k = true
  tot : ∀ i j, i < n → j < n → i ≠ j → lt i j = false → lt j i = true
  asy : ∀ i j, i < n → j < n → lt i j = true → lt j i = false
noncomputable def at0 (p : Array Nat) (x : Nat) : Nat := p.getD x 0
structure Pm (n : Nat) (p : Array Nat) : Prop where
  sz : p.size = n
  lt : ∀ x, x < n → at0 p x < n
  inj : ∀ x y, x < n → y < n → at0 p x = at0 p y → x = y
section
variable {lt : Nat → Nat → Bool} {n : Nat}
noncomputable def SoTo (lt : Nat → Nat → Bool) (p : Array Nat) (m : Nat) : Prop := ∀ x y, x < y → y < m → lt (at0 p x) (at0 p y) = true
noncomputable def DeTo (lt : Nat → Nat → Bool) (p : Array Nat) (m : Nat) : Prop := ∀ x y, x < y → y < m → lt (at0 p y) (at0 p x) = true
theorem SoTo.succ {p : Array Nat} {m : Nat} (S : Sto lt n) (hp : Pm n p) (h1 : 1 ≤ m) (hm : m < n) (h : SoTo lt p m) (e : lt (at0 p (m - 1)) (at0 p m) = true) : SoTo lt p (m + 1) := fun x y hxy hy => by
  by_cases hym : y < m
  · exact h x y hxy hym
  · have : y = m := by omega
    subst this
    by_cases hx : x = y - 1
    · rw [hx]; exact e
    · exact S.tr _ _ _ (hp.lt _ (by omega)) (hp.lt _ (by omega)) (hp.lt _ hm) (h x (y - 1) (by omega) (by omega)) e
theorem DeTo.succ {p : Array Nat} {m : Nat} (S : Sto lt n) (hp : Pm n p) (h1 : 1 ≤ m) (hm : m < n) (h : DeTo lt p m) (e : lt (at0 p m) (at0 p (m - 1)) = true) : DeTo lt p (m + 1) := fun x y hxy hy => by
  by_cases hym : y < m
  · exact h x y hxy hym
  · have : y = m := by omega
    subst this
    by_cases hx : x = y - 1
    · rw [hx]; exact e
    · exact S.tr _ _ _ (hp.lt _ hm) (hp.lt _ (by omega)) (hp.lt _ (by omega)) e (h x (y - 1) (by omega) (by omega))
end
section
variable {prog : Program} {w : World} {A : Around} {E : Value → Shared → Prop} {κ : SortKind} {it : Array Keyed}
end
section
variable {lt : Nat → Nat → Bool} {n : Nat}
end
end Ov
end
section
set_option Elab.async false
set_option linter.all false
set_option maxRecDepth 100000
set_option maxHeartbeats 4000000
namespace Ov
open PySem PySem.W PyProof.Rows
noncomputable def TupInts (h : Heap) (v : Value) (r : List Int) : Prop := ∃ a its, v = .ref a ∧ IsTup h a its ∧ IntsAre its.toList r ∧ r ≠ []
theorem TupInts.kept {h h' : Heap} {v : Value} {r : List Int} (t : TupInts h v r) (k : ∀ b o, h.get? b = some o → h'.get? b = some o) : TupInts h' v r := by
  obtain ⟨a, its, e, ⟨o, ho, q⟩, i, n⟩ := t
  exact ⟨a, its, e, ⟨o, k _ _ ho, q⟩, i, n⟩
section
variable {prog : Program} {w : World} {A : Around} {E : Value → Shared → Prop} {s : Shared}
end
end Ov
end
section
set_option Elab.async false
set_option linter.all false
set_option maxRecDepth 100000
set_option maxHeartbeats 1000000
namespace Ov
open PySem PySem.Spec PyProof.Rows L2
section
variable {X : Cx} {CL : ClA} {W : XW}
end
end Ov
end
section
set_option Elab.async false
set_option linter.all false
set_option maxRecDepth 100000
set_option maxHeartbeats 2000000
namespace Ov
open PySem PySem.Spec PyProof.Rows L2
noncomputable def Fly (e T : Addr) (cls : Value) (h : Heap) : Prop := ∃ oe vs oT ts a0, h.get? e = some oe ∧ oe.cls = cls ∧ vs[0]? = some a0 ∧ oe.data = .fields vs ∧ vs[1]? = some (.ref T) ∧ T ≠ e ∧ h.get? T = some oT ∧ oT.data = .fields ts ∧ ts[3]? = some Value.none
structure Shift (ex fs : List Addr) (h h' : Heap) : Prop where
  keep : ∀ b o, h.get? b = some o → b ∉ ex → b ∉ fs → h'.get? b = some o
  slot : ∀ b o, h.get? b = some o → b ∈ fs → ∃ sl, h'.get? b = some { o with slots := sl }
theorem Shift.trans {ex fs : List Addr} {h h1 h2 : Heap} (a : Shift ex fs h h1) (b : Shift ex fs h1 h2) : Shift ex fs h h2 :=
  ⟨fun c o q n m => b.keep c o (a.keep c o q n m) n m, fun c o q m => by
    obtain ⟨sl, e1⟩ := a.slot c o q m
    obtain ⟨sl', e2⟩ := b.slot c _ e1 m
    exact ⟨sl', e2⟩⟩
theorem ObjOk.isThere {P : Program} {w : World} {H : Hp} {h : Heap} {a : Addr} : ∀ (o : HO), L2.ObjOk P w H h a o → ∃ ob, h.get? a = some ob
  | .lst _, x => by obtain ⟨_, _, _, _, e⟩ := x; exact ⟨_, e⟩
  | .tup _, x => by obtain ⟨_, _, _, p⟩ := x; obtain ⟨o, e, _⟩ := p; exact ⟨_, e⟩
  | .dK _, x => by obtain ⟨_, _, _, _, o, _, _, e, _⟩ := x; exact ⟨_, e⟩
  | .dT _, x => by obtain ⟨_, _, _, _, o, _, _, e, _⟩ := x; exact ⟨_, e⟩
  | .set _ _, x => by obtain ⟨o, _, _, _, e, _⟩ := x; exact ⟨_, e⟩
  | .ins _ _ _, x => by obtain ⟨_, _, _, e, _⟩ := x; exact ⟨_, e⟩
  | .own _, x => x
  | .xd _, x => by obtain ⟨_, ⟨_, _, _, e, _⟩, _⟩ := x; exact ⟨_, e⟩
  | .met _ _, x => ⟨_, x⟩
  | .rng _ _, x => by obtain ⟨_, _, _, e⟩ := x; exact ⟨_, e⟩
  | .frz _ _, x => ⟨_, x.1⟩
  | .tbl _, x => ⟨_, x⟩
  | .ext _, x => x.2.1
theorem hok_free {P : Program} {w : World} {H : Hp} {h : Heap} {a : Addr} (x : HOk P w H h) (e : h.get? a = none) : H a = none := by
  cases q : H a with
  | none => rfl
  | some o =>
    obtain ⟨ob, z⟩ := ObjOk.isThere o (x a o q)
    rw [e] at z; cases z
theorem HOk.shift {P : Program} {w : World} {H : Hp} {h h' : Heap} {ex fs : List Addr} (x : HOk P w H h) (sh : Shift ex fs h h') (h1 : ∀ b ∈ ex, H b = none) (h2 : ∀ b ∈ fs, H b = none) : HOk P w H h' := fun a o e =>
  (x a o e).stay (fun b u hb q => by
    have hs : ∃ v, H b = some v := by
      rcases hb with rfl | hb
      · exact ⟨_, e⟩
      · exact ⟨_, hb⟩
    obtain ⟨v, hv⟩ := hs
    exact sh.keep b u q (fun z => by rw [h1 b z] at hv; cases hv) (fun z => by rw [h2 b z] at hv; cases hv)) (fun _ q => q) fun _ _ q => q
theorem Un.shift {fs0 fs ex : List Addr} {H H' : Hp} {h0 h h' : Heap} (u : Un fs0 [] H H' h0 h) (sh : Shift ex fs h h') (h1 : ∀ b ∈ ex, h0.get? b = none) (h2 : ∀ b ∈ fs, b ∈ fs0 ∨ h0.get? b = none) : Un fs0 [] H H' h0 h' where
  keep := fun b o q n hb hx => sh.keep b o (u.keep b o q n hb hx) (fun z => by rw [h1 b z] at q; cases q) fun z => (h2 b z).elim hb fun e => by rw [e] at q; cases q
  slot := fun b o q n hb hx => by
    obtain ⟨sl, e1⟩ := u.slot b o q n hb hx
    by_cases hf : b ∈ fs
    · obtain ⟨sl', e2⟩ := sh.slot b _ e1 hf
      exact ⟨sl', e2⟩
    · exact ⟨sl, sh.keep b _ e1 (fun z => by rw [h1 b z] at q; cases q) hf⟩
  free := u.free
  there := fun b o q hx => by
    obtain ⟨o', e1⟩ := u.there b o q hx
    by_cases hf : b ∈ fs
    · obtain ⟨sl', e2⟩ := sh.slot b _ e1 hf
      exact ⟨_, e2⟩
    · exact ⟨o', sh.keep b _ e1 (fun z => by rw [h1 b z] at q; cases q) hf⟩
  tups := u.tups
  frzs := u.frzs
  tbls := u.tbls
section
variable {M : Model} {A : Around} {E : Value → Shared → Prop} {s : Shared} {env : Env} {outer : List Env} {L e T : Addr} {cls : Value} {base h : Heap}
theorem frs_mem (l : List Env) : ∀ env ∈ l, ∀ a, env.frame = some a → a ∈ frs l := fun env he a hf => List.mem_filterMap.mpr ⟨env, he, hf⟩
theorem fly_hide {l : List Env} (ff : h.FunFrames base l) (fl : Fly e T cls h) : ∃ a0, Heap.FlyingW (PySem.W.hideAll h (e :: T :: frs l)) l e cls a0 h := by
  obtain ⟨oe, vs, oT, ts, a0, he, hc, h0, hd, h1, hTe, hT, hdT, h3⟩ := fl
  exact ⟨a0, fun b o q => PySem.W.of_hideAll _ q, PySem.W.hideAll_none _ List.mem_cons_self, PySem.W.funFrames_hide ff fun env he a hf => List.mem_cons_of_mem _ (List.mem_cons_of_mem _ (frs_mem l env he a hf)),
    oe, vs, T, oT, ts, he, ⟨hc, h0⟩, hd, h1, PySem.W.hideAll_none _ (List.mem_cons_of_mem _ List.mem_cons_self), hTe, hT, hdT, h3⟩
theorem up_slot {l : List Env} {h' : Heap} (ff : h.FunFrames base l) (up : h.UpToSlots h') {b : Addr} {o : Obj} (ho : h.get? b = some o) (hb : b ∈ frs l) : ∃ sl, h'.get? b = some { o with slots := sl } := by
  obtain ⟨_, o', ho', hn⟩ := ff.mem hb
  rw [ho] at ho'; cases ho'
  exact up b o ho hn
theorem no_frame {l : List Env} {h' : Heap} {oT : Obj} {ts : Array Value} (ff : h.FunFrames base l) (up : h.UpToSlots h') (hT : h'.get? T = some oT) (hd : oT.data = .fields ts) : T ∉ frs l := fun hb => by
  obtain ⟨_, o', ho', hn⟩ := ff.mem hb
  obtain ⟨sl, e1⟩ := up T o' ho' hn
  rw [hT] at e1
  cases e1
  exact hn ts hd
theorem fly_of {l : List Env} {B h' : Heap} {a0 : Value} (x : Heap.FlyingW B l e cls a0 h') : ∃ T', Fly e T' cls h' ∧ B.get? T' = none ∧ ∃ oT ts, h'.get? T' = some oT ∧ oT.data = .fields ts := by
  obtain ⟨_, _, _, oe, vs, T', oT, ts, he, ⟨hc, h0⟩, hd, h1, hn, hTe, hT, hdT, h3⟩ := x
  exact ⟨T', ⟨oe, vs, oT, ts, a0, he, hc, h0, hd, h1, hTe, hT, hdT, h3⟩, hn, oT, ts, hT, hdT⟩
theorem fly_shift {l : List Env} {h' : Heap} (ff : h.FunFrames base l) (st : (PySem.W.hideAll h (e :: T :: frs l)).StaysIn h') (up : h.UpToSlots h') : Shift [e, T] (frs l) h h' :=
  ⟨fun b o q n1 n2 => st b o (PySem.W.hideAll_get _ q (by simp only [List.mem_cons, not_or, List.not_mem_nil, or_false] at n1 ⊢; exact ⟨n1.1, by first | exact n1.2 | exact n1.2.1, n2⟩)), fun b o q hb => up_slot ff up q hb⟩
theorem entry_new {l : List Env} {h' : Heap} {T' : Addr} {oT : Obj} {ts : Array Value} (ff : h.FunFrames base l) (up : h.UpToSlots h') (hn : (PySem.W.hideAll h (e :: T :: frs l)).get? T' = none) (hT : h'.get? T' = some oT) (hd : oT.data = .fields ts) (hne : T' ≠ e) : T' = T ∨ h.get? T' = none := by
  cases q : h.get? T' with
  | none => exact .inr rfl
  | some o =>
    refine .inl ?_
    by_cases hm : T' ∈ e :: T :: frs l
    · rcases List.mem_cons.mp hm with z | hm
      · exact absurd z hne
      · rcases List.mem_cons.mp hm with z | hm
        · exact z
        · exact absurd hm (no_frame ff up hT hd)
    · have := PySem.W.hideAll_get _ q hm
      rw [hn] at this; cases this
theorem Fly.ne (x : Fly e T cls h) : T ≠ e := by obtain ⟨_, _, _, _, _, _, _, _, _, _, z, _⟩ := x; exact z
theorem fly_leave {Q : Unit → Shared → Prop} (hfr : A.frames = some (env :: outer)) (hf : env.frame = some L) (ff : s.heap.FunFrames base (env :: outer)) (fl : Fly e T cls s.heap)
    (hQ : ∀ h' T', Fly e T' cls h' → Shift [e, T] (frs (env :: outer)) s.heap h' → (T' = T ∨ s.heap.get? T' = none) → Q () { s with heap := h' }) : wpAny M A (leaving env (.ref e)) Q E s := by
  obtain ⟨a0, fw⟩ := fly_hide ff fl
  refine wpAny_leaves_onW hfr hf fw fun h' fw' up => ?_
  obtain ⟨T', fl', hn, oT, ts, hT, hd⟩ := fly_of fw'
  exact hQ h' T' fl' (fly_shift ff fw'.1 up) (entry_new ff up hn hT hd fl'.ne)
theorem made_leave {args : List Value} {Q : Unit → Shared → Prop} (hfr : A.frames = some (env :: outer)) (hf : env.frame = some L) (ff : h.FunFrames base (env :: outer)) (hx : Heap.MadeExcOf h s.heap e cls args)
    (hQ : ∀ h' T', Fly e T' cls h' → Shift [] (frs (env :: outer)) h h' → h.get? T' = none → Q () { s with heap := h' }) : wpAny M A (leaving env (.ref e)) Q E s := by
  have fh := PySem.W.funFrames_hide (as := frs (env :: outer)) ff (frs_mem _)
  refine wpAny_leaves_madeW hfr hf (fun b o q => PySem.W.of_hideAll _ q) fh hx fun h' t fw _ _ up => ?_
  have up' : h.UpToSlots h' := (Heap.UpToSlots.of_keeps hx.keeps).trans up
  obtain ⟨T', fl', hn, oT, ts, hT, hd⟩ := fly_of fw
  refine hQ h' T' fl' ⟨fun b o q _ n2 => fw.1 b o (PySem.W.hideAll_get _ q n2), fun b o q hb => up_slot ff up' q hb⟩ ?_
  cases q : h.get? T' with
  | none => rfl
  | some o =>
    have := PySem.W.hideAll_get _ q (no_frame ff up' hT hd)
    rw [hn] at this; cases this
end
noncomputable def CXR (P : Program) (w : World) : CXT := fun outer H s E ev s' => ∃ e T cls H', ev = .ref e ∧ s'.os = s.os ∧ AllBare s'.gens ∧ Un (frs outer) [] H H' s.heap s'.heap ∧ HOk P w H' s'.heap ∧ Fly e T cls s'.heap ∧ H' e = none ∧ H' T = none ∧ s.heap.get? e = none ∧ s.heap.get? T = none ∧ E cls none H'
noncomputable def RzOk (X : Cx) (CL : ClA) (W : XW) : Prop := ∀ pins σ H s h' e C vs x, Inv X pins σ H s → Heap.MadeExcOf s.heap h' e (.ref C) vs → CL x.c = some C → x.fs = [] → W x H → X.xe (.ref e) { s with heap := h' }
section
variable {P : Program} {w : World} {K : PySem.W.Frag} {mg : Str → Option Value} {base : Heap} {N : List Str} {qual : Str} {scope : Scope} {f : Addr} {cd : Value} {A : Around} {outer : List Env} {s : Shared} {H : Hp} {E : XK} {CL : ClA} {W : XW}
theorem frs_new {X : Cx} {pins : List (Addr × Obj)} {σ : L2.St} {H : Hp} {s : Shared} (I : Inv X pins σ H s) : ∀ b ∈ frs X.stack, b ∈ X.fs ∨ X.s₀.heap.get? b = none := fun b hb => by
  rcases List.mem_cons.mp (I.stkSub b hb) with z | z
  · exact .inr (by rw [z]; exact Heap.get?_none_of_le I.ok.above)
  · exact .inl z
theorem old_none {X : Cx} {pins : List (Addr × Obj)} {σ : L2.St} {H : Hp} {s : Shared} {b : Addr} (I : Inv X pins σ H s) (hx : X.ex = []) (h : s.heap.get? b = none) : X.s₀.heap.get? b = none := by
  cases q : X.s₀.heap.get? b with
  | none => rfl
  | some o =>
    obtain ⟨o', z⟩ := I.base.there b o q (by rw [hx]; simp)
    rw [h] at z; cases z
theorem passR (hE : ∀ x cls H', W x H' → (∃ C, CL x.c = some C ∧ cls = .ref C) → E cls none H') : ∀ A', Passes (CXR P w) (cxOf (CXR P w) P w K mg base N qual scope f cd A outer s H E) (EKW K CL A' W) := by
  intro A' pins σ H1 s1 ev s2 I h
  obtain ⟨e, T, cls, H', rfl, os, bare, un, hok, fl, he, hT, ne, nT, x, xr, wx⟩ := h
  have I' := I.call' (s' := s2) (ch := []) os un hok bare (fun b z => absurd z (by simp))
  have hb0 : Un (frs outer) [] H H' s.heap s2.heap := I'.base
  show wpAny (model P w) (A.deeper (envOfC qual scope s.heap.objs.size f cd)) (leaving (envOfC qual scope s.heap.objs.size f cd) (.ref e)) _ _ s2
  refine fly_leave (L := s.heap.objs.size) I'.ok.frames rfl I'.stack fl fun h' T' fl' sh hT' => ?_
  have e0 : s.heap.get? e = none := old_none I rfl ne
  have T0 : s.heap.get? T = none := old_none I rfl nT
  refine ⟨e, T', cls, H', rfl, I'.os, bare, Un.shift hb0 sh ?_ (frs_new I'), HOk.shift hok sh ?_ I'.stkFree, fl', he, ?_, e0, ?_, ?_⟩
  · intro b hb
    rcases List.mem_cons.mp hb with rfl | hb
    · exact e0
    · rw [List.mem_singleton.mp hb]; exact T0
  · intro b hb
    rcases List.mem_cons.mp hb with rfl | hb
    · exact he
    · rw [List.mem_singleton.mp hb]; exact hT
  · rcases hT' with rfl | z
    · exact hT
    · exact hok_free hok z
  · rcases hT' with rfl | z
    · exact T0
    · exact old_none I' rfl z
  · obtain ⟨C, c1, c2, _⟩ := xr
    exact hE x cls H' wx ⟨C, c1, c2⟩
theorem rzR (hE : ∀ x cls H', W x H' → (∃ C, CL x.c = some C ∧ cls = .ref C) → E cls none H') : RzOk (cxOf (CXR P w) P w K mg base N qual scope f cd A outer s H E) CL W := by
  intro pins σ H1 s1 h2 e C vs x I hm hc hf hw
  have hb0 : Un (frs outer) [] H H1 s.heap s1.heap := I.base
  show wpAny (model P w) (A.deeper (envOfC qual scope s.heap.objs.size f cd)) (leaving (envOfC qual scope s.heap.objs.size f cd) (.ref e)) _ _ { s1 with heap := h2 }
  refine made_leave (s := { s1 with heap := h2 }) (h := s1.heap) (L := s.heap.objs.size) I.ok.frames rfl I.stack hm fun h' T' fl' sh hT' => ?_
  refine ⟨e, T', .ref C, H1, rfl, I.os, I.bare, Un.shift hb0 sh (fun b hb => nomatch hb) (frs_new I), HOk.shift I.hok sh (fun b hb => nomatch hb) I.stkFree, fl', hok_free I.hok hm.new, hok_free I.hok hT', old_none I rfl hm.new, old_none I rfl hT', hE x _ H1 hw ⟨C, hc, rfl⟩⟩
theorem ownR : PassesOwn (model P w) (cxOf (CXR P w) P w K mg base N qual scope f cd A outer s H E).A (cxOf (CXR P w) P w K mg base N qual scope f cd A outer s H E).env (cxOf (CXR P w) P w K mg base N qual scope f cd A outer s H E).xe := PassesOwn.leaving
end
end Ov
end
section
set_option Elab.async false
set_option linter.all false
set_option maxRecDepth 100000
set_option maxHeartbeats 2000000
namespace Ov
open PySem PySem.Spec PyProof.Rows L2
noncomputable def veB : List Value := [.type "ValueError", .type "Exception", .type "BaseException", .type "object"]
structure XcOk (K : PySem.W.Frag) (C : Addr) : Prop where
  exc : PySem.W.excIn K C veB "ValueError.__new__" = true
  ga : PySem.W.findIn K (.ref C) "__getattribute__" = some (some (.builtin "BaseException.__getattribute__"))
  gt : PySem.W.findIn K (.ref C) "__getattr__" = some none
  cl : PySem.W.findIn K (.ref C) "__class__" = some (some (.builtin "object.__class__"))
  ob : PySem.W.mroIn K C (.type "object") = some true
  be : PySem.W.subIn K (.ref C) (.type "BaseException") = some true
  cs : (PySem.W.clsIn K C).isSome = true
  ve : PySem.W.kitOne K (.ref C) (.type "ValueError") = some true
noncomputable def XAt (e C : Addr) (h : Heap) : Prop := ∃ o, h.get? e = some o ∧ o.cls = .ref C
section
variable {prog : Program} {w : World} {A : Around} {E : Value → Shared → Prop} {h : Heap} {g : Array GenState} {d : Drawn} {t : Nat} {os : OsState} {K : PySem.W.Frag} {e C : Addr}
theorem xat_ty {M : Model} (p : XAt e C h) : PySem.W.Looks M h (typeOf (.ref e)) (.ref C) := by
  obtain ⟨o, h1, h2⟩ := p
  exact h2 ▸ (PySem.W.Looks.ld h1).andThen .now
theorem xcls_get {R : Result → Shared → Prop} {tp : Value} (X : K.In h) (p : XAt e C h) (hm : PySem.W.mroIn K C (.type "object") = some true) (hq : R (.ok (.ret (.ref C))) ⟨h, g, d, t, os⟩) :
    codeAny (model prog w) A (.call (.builtin "getset_descriptor.__get__") ⟨[.builtin "object.__class__", .ref e, tp], []⟩) R ⟨h, g, d, t, os⟩ := by
  have L0 := xat_ty (M := model prog w) p
  have L1 := PySem.W.looks_mroIn (M := model prog w) X hm
  refine codeAny_call_builtin PySem.W.KF.slot_gs.plain PySem.W.KF.entry_gs (PySem.W.KF.slot_gs.check _ _ _ _ _ _ _ _ PySem.W.KF.type_class (PySem.W.KF.args_gs _ _ _) ?_)
  unfold Builtin.«getset_descriptor.__get__» Builtin.Getset_descriptor.descrGet
  rw [PySem.W.dga_obj]
  refine wpAny_bind (wpAny_pure ?_)
  unfold Builtin.Getset_descriptor.descrGetter Builtin.Getset_descriptor.descrCheckInstance Builtin.Getset_descriptor.descrNameAndClass isInstance
  simp only [PySem.W.KF.owner_class]
  repeat lk
  refine ⟨Code.quiet_builtin _ (by decide +kernel), codeAny_builtin PySem.W.KF.entry_class ?_⟩
  unfold Builtin.«object.__class__» shownTypeOf
  repeat lk
  exact hq
theorem xcls_entry {tk : Tok} {Q : Fin → Shared → Prop} (X : K.In h) (x : XcOk K C) (p : XAt e C h) (hq : Q (.done (.ret (.ref C))) ⟨h, g, d, t, os⟩) :
    wpAny (model prog w) A (Builtin.«object.__getattribute__» ⟨[.ref e, .str "__class__" tk], []⟩) Q E ⟨h, g, d, t, os⟩ := by
  have L0 := xat_ty (M := model prog w) p
  have L1 := PySem.W.looks_findIn (M := model prog w) X x.cl
  have hT5 : (⟨h, g, d, t, os⟩ : Shared).TypeIs (.builtin "object.__class__") "getset_descriptor" := F.typeOf_object_class
  have f5 := F.typeOf_object_class
  have f6 := F.slot_gs_get.lookup
  have f7 := F.slot_gs_set.lookup
  repeat (any_goals (first | assumption | with_reducible refine L0.at ?_ | with_reducible refine L1.at ?_ | wp_step))
  refine xcls_get X p x.ob ?_
  repeat (any_goals (first | assumption | wp_step))
theorem xcls_check {M : Model} {nameV : Value} {Q : Unit → Shared → Prop} (X : K.In h) (x : XcOk K C) (p : XAt e C h) (hq : Q () ⟨h, g, d, t, os⟩) : wpAny M A (checkBuiltinCall "BaseException.__getattribute__" ⟨[.ref e, nameV], []⟩) Q E ⟨h, g, d, t, os⟩ := by
  have hk : builtinKind "BaseException.__getattribute__" = some .slot := by decide +kernel
  have hsplit : splitId "BaseException.__getattribute__" = some ("BaseException", "__getattribute__") := by decide +kernel
  have L0 := xat_ty (M := M) p
  have L1 := PySem.W.looks_subIn (M := M) X x.be
  have ha := F.args_bexc_ga (.ref e) nameV
  simp only [checkBuiltinCall, hk, hsplit]
  refine wpAny_bind ?_
  · unfold isInstance
    repeat (first | (with_reducible refine wpAny_bind (L0.at ?_)) | (with_reducible refine L1.at ?_) | wp_step)
    exact hq
theorem xcls_by {tk : Tok} {fill expr : Bool} {Q : Value → Shared → Prop} (X : K.In h) (x : XcOk K C) (p : XAt e C h) (hq : Q (.ref C) ⟨h, g, d, t, os⟩) : wpAny (model prog w) A (getAttrBy (.ref e) (.str "__class__" tk) fill expr) Q E ⟨h, g, d, t, os⟩ := by
  have L0 := xat_ty (M := model prog w) p
  have L1 := PySem.W.looks_findIn (M := model prog w) X x.ga
  have L2 := PySem.W.looks_findIn (M := model prog w) X x.gt
  have f3 := F.attr_ValueError.ga.bind (.ref e)
  have hx0 : (expr && onTheHeap (Value.builtin "BaseException.__getattribute__")) = false := by cases expr <;> rfl
  have hx2 : (Value.builtin "BaseException.__getattribute__" == Value.builtin "object.__getattribute__") = false := by decide +kernel
  have hx1 : (onTheHeap (Value.ref C) && Value.builtin "BaseException.__getattribute__" == Value.builtin "object.__getattribute__") = false := by rw [hx2]; rfl
  repeat (any_goals (first | assumption | with_reducible refine L0.at ?_ | with_reducible refine L1.at ?_ | with_reducible refine L2.at ?_ | wp_step))
  refine codeAny_call_builtin F.attr_ValueError.ga.plain F.entry_bexc_ga (xcls_check X x p (xcls_entry X x p ?_))
  repeat (any_goals (first | assumption | wp_step))
theorem xcls_attr {Q : Option Value → Shared → Prop} (X : K.In h) (x : XcOk K C) (p : XAt e C h) (hq : Q (some (.ref C)) ⟨h, g, d, t + 1, os⟩) : wpAny (model prog w) A (getAttr? (.ref e) "__class__") Q E ⟨h, g, d, t, os⟩ := by
  unfold getAttr? getAttrBy?
  repeat (any_goals (first | assumption | with_reducible apply xcls_by X x p | wp_step))
end
theorem kitx_exc {K : PySem.W.Frag} {e C : Addr} (x : XcOk K C) : PySem.W.KitX K (.ref e) (.ref C) (XAt e C) where
  ty := fun M h _ p => xat_ty p
  it := fun M h X _ => by
    obtain ⟨cd, hc⟩ := Option.isSome_iff_exists.mp x.cs
    unfold PySem.W.clsIn at hc
    split at hc
    · rename_i c' d' cd' sl' ho
      intro A' Q' E' s' k q
      unfold isType loadHead
      exact wpAny_bind (wpAny_loadPart (k _ _ (X _ _ ho)) (wpAny_pure q))
    · cases hc
  ne := fun h tp dd its n sl X htp => by
    obtain ⟨cd, hc⟩ := Option.isSome_iff_exists.mp x.cs
    refine Bool.eq_false_iff.mpr fun q => ?_
    have e : C = tp := Value.ref.inj (beq_iff_eq.mp q)
    subst e
    unfold PySem.W.clsIn at hc
    split at hc
    · rename_i c' d' cd' sl' ho
      have z := (X _ _ ho).symm.trans htp
      cases z
    · cases hc
  ca := fun {_ _ _ _ _ s} X p k => by
    obtain ⟨h, g, d, t, os⟩ := s
    exact xcls_attr X x p k
end Ov
end
section
set_option Elab.async false
set_option linter.all false
set_option maxRecDepth 100000
set_option maxHeartbeats 2000000
namespace Ov
open PySem PySem.Spec PyProof.Rows L2
noncomputable def Apart (X : Cx) (pins : List (Addr × Obj)) (e : Addr) : Prop := e ≠ X.env.locals ∧ (∀ x c, X.env.cells.lookup x = some c → c ≠ e) ∧ (∀ p ∈ X.pn ++ pins, p.1 ≠ e) ∧ X.s₀.heap.get? e = none
section
variable {X : Cx} {pins : List (Addr × Obj)} {σ : L2.St} {H : Hp} {s : Shared} {e : Addr}
end
noncomputable def Cx.hot (X : Cx) (e : Addr) : Cx := { X with A := X.A.mark (some (.ref e)), calm := false, xe := fun _ _ => False }
section
variable {X : Cx} {pins : List (Addr × Obj)} {σ : L2.St} {H : Hp} {s : Shared} {e : Addr}
theorem ok_hot (ok : X.Ok) : (Cx.hot X e).Ok := ⟨ok.mod, ok.kind, ok.glob, ok.blt, ok.above, ok.inj, ok.has, ok.cab, fun z => (nomatch z), ok.frames, ok.stk, ok.exf, ok.bs, ok.bsz, ok.noex, ok.exfs, ok.funs, ok.frf⟩
theorem inv_hot (I : Inv X pins σ H s) (e : Addr) : Inv (Cx.hot X e) pins σ H s := ⟨ok_hot I.ok, I.os, I.bare, I.base, I.loc, I.cell, I.free, I.freeC, I.pin, I.hok, I.len⟩
end
noncomputable def XWant (X : Cx) (CL : ClA) (pins : List (Addr × Obj)) (σ : L2.St) (H : Hp) (y : Ex) (Xw : Value → Shared → Prop) : Prop :=
  ∀ s' H' e T C, Inv X pins σ H' s' → Same H H' → Fly e T (.ref C) s'.heap → H' e = none → H' T = none → Apart X pins e → Apart X pins T → CL y.c = some C → y.fs = [] → Xw (.ref e) s'
noncomputable def STB (X : Cx) (CL : ClA) (body : List Stmt) (f : Rho → O) : Prop := ∀ Fz B pins s σ H D ρ (Xw : Value → Shared → Prop), PassesOwn (model X.prog X.w) X.A X.env Xw → Inv X pins σ H s → Sx X.K CL Fz B ρ σ H →
  (match f ρ with
   | .exn y ρ' => ρ' = ρ → XWant X CL pins σ H y Xw
   | o => PostSt X.K CL Fz B (fun _ _ => False) o D) → (∀ y ρ', f ρ = .exn y ρ' → ρ' = ρ) → wpAny (model X.prog X.w) X.A (execs body X.env) (SP X pins D) Xw s
end Ov
end
section
set_option Elab.async false
set_option linter.all false
set_option maxRecDepth 100000
set_option maxHeartbeats 2000000
namespace Ov
open PySem PySem.Spec PyProof.Rows L2
noncomputable def Cx.pw (X : Cx) (pins : List (Addr × Obj)) (Xw : Value → Shared → Prop) : Cx := { X with pn := X.pn ++ pins, xe := Xw }
section
variable {X : Cx} {pins pins' : List (Addr × Obj)} {σ : L2.St} {H : Hp} {s : Shared} {Xw : Value → Shared → Prop}
end
section
variable {X : Cx} {CL : ClA} {k n : Nat} {fr : Bool} {f : Addr} {fd : FuncData} {ps : List Str} {F : List D → R D} {x : Str} {p pos pos2 : Pos} {e : Expr} {es : List Expr} {fs ft : Rho → R (List D)} {sh : Rho → Bool}
variable (hx0 : X.ex = []) (G : FnOk X.prog X.w X.K X.mg X.base (CXR X.prog X.w) k f fd ps (spD X.K CL n fr F)) (hr : Room k X.A) (hg : Gl X x) (hm : X.mg x = some (.ref f))
    (hk : PySem.W.keepIn X.K (.ref f) = true) (hb : Binds X.K fd ps []) (hst : ∀ ρ, sh ρ = true → ft ρ = fs ρ) (hn : ∀ ρ ds, ft ρ = .ok ds → ds.length = n) (hnx : ∀ ρ y, ft ρ ≠ .exn y)
    (hdb : (x == ("__debug__" : Str)) = false) (he : starEach (e :: es) X.env = (false, eval e X.env) :: starEach es X.env) (hpl : ∀ pos, (backTo pos (starEach es X.env)).any (·.1) = false)
    (ha : ∀ pins Xw, PassesOwn (model X.prog X.w) X.A X.env Xw → SA (Cx.pw X pins Xw) CL (fun _ _ => False) (e :: es) fs ∧ SAT (Cx.pw X pins Xw) CL (fun _ _ => False) (e :: es) ft)
include hx0 G hr hg hm hk hb hst hn hnx hdb he hpl ha
end
end Ov
end
section
set_option Elab.async false
set_option linter.all false
set_option maxRecDepth 100000
set_option maxHeartbeats 2000000
namespace Ov
open PySem PySem.Spec PyProof.Rows L2
section
variable {X : Cx} {CL : ClA} {W : XW}
noncomputable def KitAll (K : PySem.W.Frag) (CL : ClA) (up : Nat → List Nat) (c' : Nat) (C' : Addr) : Prop := ∀ c C, CL c = some C → PySem.W.kitOne K (.ref C) (.ref C') = some ((up c).contains c')
theorem isx_call {pins : List (Addr × Obj)} {s : Shared} {σ : L2.St} {H : Hp} {a C : Addr} {φ : Heap → Prop} {cv : Value} {b : Bool} {Q : VK} (I : Inv X pins σ H s) (ha : H a = some (.ext φ)) (hφ : ∀ h, φ h → ∃ o, h.get? a = some o ∧ o.cls = .ref C) (xc : XcOk X.K C) (e : PySem.W.kitOne X.K (.ref C) cv = some b) (q : Q (.bl b) H) :
    wpAny (model X.prog X.w) X.A (call (.builtin "isinstance") [.ref a, cv]) (EP X pins σ Q) X.xe s := by
  have p : XAt a C s.heap := hφ _ (I.hok a _ ha).1
  exact PySem.W.kia_one (kitx_exc xc) I.kIn p e (by intro z; cases z) fun tk => ⟨.bl b, H, I.tok tk, rfl, q⟩
theorem vals_refs : ∀ (Cs : List Addr) {its : List Value}, Vals (Cs.map V.ref) its → its = Cs.map Value.ref
  | [], _, rv => by cases rv; rfl
  | c :: cs, _, rv => by
    cases rv with
    | cons h1 h2 => rw [vals_refs cs h2]; cases h1; rfl
theorem isx_tup {pins : List (Addr × Obj)} {s : Shared} {σ : L2.St} {H : Hp} {a C tp : Addr} {φ : Heap → Prop} {Cs : List Addr} {b : Bool} {Q : VK} (I : Inv X pins σ H s) (ha : H a = some (.ext φ)) (hφ : ∀ h, φ h → ∃ o, h.get? a = some o ∧ o.cls = .ref C) (xc : XcOk X.K C) (ht : H tp = some (.tup (Cs.map V.ref))) (e : PySem.W.kitAny X.K (.ref C) (Cs.map Value.ref) = some b) (q : Q (.bl b) H) :
    wpAny (model X.prog X.w) X.A (call (.builtin "isinstance") [.ref a, .ref tp]) (EP X pins σ Q) X.xe s := by
  have p : XAt a C s.heap := hφ _ (I.hok a _ ha).1
  obtain ⟨_, its, rv, ⟨o, ho, hc, n, hd⟩⟩ := I.hok tp _ ht
  have ei : its = Cs.map Value.ref := vals_refs Cs rv
  subst ei
  obtain ⟨cls, dd, dat, sl⟩ := o
  have hc' : cls = .type "tuple" := hc
  have hd' : dat = .seq (List.toArray (Cs.map Value.ref)) n := hd
  subst hc' hd'
  exact PySem.W.kia_tup (kitx_exc xc) I.kIn p ho e (by intro z; cases z) fun tk => ⟨.bl b, H, I.tok tk, rfl, q⟩
theorem kit_all {K : PySem.W.Frag} {up : Nat → List Nat} {c : Nat} {C : Addr} (h : CL c = some C) : ∀ (cs : List (Nat × Addr)), (∀ p ∈ cs, KitAll K CL up p.1 p.2) → PySem.W.kitAny K (.ref C) ((cs.map fun q : Nat × Addr => q.2).map Value.ref) = some (cs.any fun p => (up c).contains p.1)
  | [], _ => rfl
  | p :: cs, hk => by
    have h1 := hk p List.mem_cons_self c C h
    have h2 := kit_all h cs fun q hq => hk q (List.mem_cons_of_mem _ hq)
    show (match PySem.W.kitOne K (.ref C) (.ref p.2) with
      | some true => some true
      | some false => PySem.W.kitAny K (.ref C) ((cs.map fun q : Nat × Addr => q.2).map Value.ref)
      | none => none) = _
    rw [h1, List.any_cons]
    cases (up c).contains p.1 with
    | true => rfl
    | false => rw [h2]; rfl
theorem isi_excP {up : Nat → List Nat} {ks : List Ki} {d : D} {Rp : Hp → V → D → Prop} {H : Hp} {Q : VK} (hk : ks.all clsK = true) (hne : ks ≠ []) (p : Post Rp W H (isiD up ks d) Q) : ∃ c fs, d = .exc c fs ∧ Post Rp W H (.ok (.bl (ks.any fun k => kiD up k d))) Q := by
  have ha : ks.any clsK = true := by
    cases ks with
    | nil => exact absurd rfl hne
    | cons k ks => simp only [List.all_cons, Bool.and_eq_true] at hk; simp [List.any_cons, hk.1]
  cases d with
  | exc c fs => exact ⟨c, fs, rfl, by
      have p' : Post Rp W H (if ks.all clsK = true then .ok (.bl (ks.any fun k => kiD up k (.exc c fs))) else .bad) Q := p
      rw [if_pos hk] at p'
      exact p'⟩
  | obj c fs => exact False.elim p
  | dic _ => exact False.elim p
  | non => simp only [isiD, ha, if_true] at p; exact False.elim p
  | bl _ => simp only [isiD, ha, if_true] at p; exact False.elim p
  | int _ => simp only [isiD, ha, if_true] at p; exact False.elim p
  | str _ => simp only [isiD, ha, if_true] at p; exact False.elim p
  | tup _ => simp only [isiD, ha, if_true] at p; exact False.elim p
  | lst _ => simp only [isiD, ha, if_true] at p; exact False.elim p
theorem rep_exc {K : PySem.W.Frag} {H : Hp} {A : Addr → Prop} {v : V} {c : Nat} {fs : List (Str × D)} (r : RepT K CL H A v (.exc c fs)) : ∃ a C φ, v = .ref a ∧ CL c = some C ∧ H a = some (.ext φ) ∧ ∀ h, φ h → ∃ o, h.get? a = some o ∧ o.cls = .ref C := by
  rcases r with ⟨a, C, φ, e, _, hc, hH, hφ, _⟩ | ⟨a, xs, ds, _, z, _⟩
  · exact ⟨a, C, φ, e, hc, hH, hφ⟩
  · cases z
variable {a : Expr} {fa : Rho → R D} {up : Nat → List Nat} {x : Str} {p p2 pos : Pos}
theorem se_isc {c' : Nat} {C' : Addr} (hxc : ∀ c C, CL c = some C → XcOk X.K C) (hg : Gl X "isinstance") (hm : X.mg "isinstance" = none) (hg2 : Gl X x) (hm2 : X.mg x = some (.ref C')) (hkit : KitAll X.K CL up c' C') (hdb : (x == ("__debug__" : Str)) = false)
    (ha : ST X CL W a fa) (he : starEach [a, .Name x p2] X.env = (false, eval a X.env) :: starEach [.Name x p2] X.env) : SE X CL W (.Call (.Name "isinstance" p) [a, .Name x p2] [] pos) (fun ρ => (fa ρ).bind fun x => isiD up [.cls c'] x) := fun A =>
  PE.weak (pe_callB (r := fun xs H Q => ∃ a C φ c, xs = [.ref a, .ref C'] ∧ CL c = some C ∧ H a = some (.ext φ) ∧ (∀ h, φ h → ∃ o, h.get? a = some o ∧ o.cls = .ref C) ∧ Q (.bl ((up c).contains c')) H) (fun pins s σ H xs us Q I r ⟨b, C, φ, c, e, hc, hH, hφ, q⟩ => by
      subst e
      obtain ⟨u, w', rfl, r1, r2⟩ := vals2 r
      cases r1
      cases r2
      exact isx_call I hH hφ (hxc c C hc) (hkit c C hc) q)
    hg hm boot_isinstance (pa_cons (ha A) (pa_cons (pe_glob (v := .ref C') hg2 hm2 rfl hdb) pa_nil rfl) he) (by decide) (by decide) he rfl) fun σ H Q ⟨hA, ρ, g, q⟩ => ⟨hA, ρ, g, Post.bind q fun d v H1 _ s1 r1 p1 => by
      obtain ⟨c, fs, rfl, p2⟩ := isi_excP (by rfl) (by simp) p1
      obtain ⟨b, C, φ, rfl, hc, hH, hφ⟩ := rep_exc r1
      refine ⟨b, C, φ, c, rfl, hc, hH, hφ, p2 _ H1 (Same.refl H1) ?_⟩
      show V.bl _ = V.bl _
      simp [kiD]⟩
theorem se_isv (hxc : ∀ c C, CL c = some C → XcOk X.K C) (hg : Gl X "isinstance") (hm : X.mg "isinstance" = none) (hg2 : Gl X "ValueError") (hm2 : X.mg "ValueError" = none)
    (ha : ST X CL W a fa) (he : starEach [a, .Name "ValueError" p2] X.env = (false, eval a X.env) :: starEach [.Name "ValueError" p2] X.env) : SE X CL W (.Call (.Name "isinstance" p) [a, .Name "ValueError" p2] [] pos) (fun ρ => (fa ρ).bind fun x => isiD up [.verr] x) := fun A =>
  PE.weak (pe_callB (r := fun xs H Q => ∃ a C φ c, xs = [.ref a, .ty "ValueError"] ∧ CL c = some C ∧ H a = some (.ext φ) ∧ (∀ h, φ h → ∃ o, h.get? a = some o ∧ o.cls = .ref C) ∧ Q (.bl true) H) (fun pins s σ H xs us Q I r ⟨b, C, φ, c, e, hc, hH, hφ, q⟩ => by
      subst e
      obtain ⟨u, w', rfl, r1, r2⟩ := vals2 r
      cases r1
      cases r2
      exact isx_call I hH hφ (hxc c C hc) (hxc c C hc).ve q)
    hg hm boot_isinstance (pa_cons (ha A) (pa_cons (pe_bltn (v := .ty "ValueError") hg2 hm2 PyProof.Rows.Boot.«ValueError» rfl (by decide) (by decide)) pa_nil rfl) he) (by decide) (by decide) he rfl) fun σ H Q ⟨hA, ρ, g, q⟩ => ⟨hA, ρ, g, Post.bind q fun d v H1 _ s1 r1 p1 => by
      obtain ⟨c, fs, rfl, p2⟩ := isi_excP (by rfl) (by simp) p1
      obtain ⟨b, C, φ, rfl, hc, hH, hφ⟩ := rep_exc r1
      refine ⟨b, C, φ, c, rfl, hc, hH, hφ, p2 _ H1 (Same.refl H1) ?_⟩
      show V.bl _ = V.bl _
      simp [kiD]⟩
noncomputable def tCls (Cs : List Addr) : TA := fun _ H Q => Q (Cs.map V.ref) H
theorem se_ist {ts : List Expr} {kk : Nat} {cs : List (Nat × Addr)} (hxc : ∀ c C, CL c = some C → XcOk X.K C) (hg : Gl X "isinstance") (hm : X.mg "isinstance" = none) (hts : PA X ts (tCls (cs.map fun q : Nat × Addr => q.2))) (hne : cs ≠ []) (hl : cs.length ≤ 1000) (hkit : ∀ q ∈ cs, KitAll X.K CL up q.1 q.2)
    (ha : ST X CL W a fa) (he : starEach [a, .Tuple ts kk p2] X.env = (false, eval a X.env) :: starEach [.Tuple ts kk p2] X.env) : SE X CL W (.Call (.Name "isinstance" p) [a, .Tuple ts kk p2] [] pos) (fun ρ => (fa ρ).bind fun x => isiD up (cs.map fun q => .cls q.1) x) := fun A =>
  PE.weak (pe_callB (r := fun xs H Q => ∃ a C φ c tp, xs = [.ref a, .ref tp] ∧ CL c = some C ∧ H a = some (.ext φ) ∧ (∀ h, φ h → ∃ o, h.get? a = some o ∧ o.cls = .ref C) ∧ H tp = some (.tup ((cs.map fun q : Nat × Addr => q.2).map V.ref)) ∧ Q (.bl (cs.any fun q => (up c).contains q.1)) H) (fun pins s σ H xs us Q I r ⟨b, C, φ, c, tp, e, hc, hH, hφ, ht, q⟩ => by
      subst e
      obtain ⟨u, w', rfl, r1, r2⟩ := vals2 r
      cases r1
      cases r2
      exact isx_tup I hH hφ (hxc c C hc) ht (kit_all hc cs hkit) q)
    hg hm boot_isinstance (pa_cons (ha A) (pa_cons (pe_tup hts) pa_nil rfl) he) (by decide) (by decide) he rfl) fun σ H Q ⟨hA, ρ, g, q⟩ => ⟨hA, ρ, g, Post.bind q fun d v H1 _ s1 r1 p1 => by
      have hk : (cs.map fun q => Ki.cls q.1).all clsK = true := by simp [List.all_map, clsK]
      obtain ⟨c, fs, rfl, p2⟩ := isi_excP hk (by simpa using hne) p1
      obtain ⟨b, C, φ, rfl, hc, hH, hφ⟩ := rep_exc r1
      refine ⟨by rw [List.length_map, List.length_map, sizeLine_eq]; omega, fun t ht => ?_⟩
      have hbt : b ≠ t := ne_of_none hH ht
      refine ⟨b, C, φ, c, t, rfl, hc, by rw [upd_ne hbt]; exact hH, hφ, upd_same, p2 _ _ (same_new ht _) ?_⟩
      show V.bl _ = V.bl _
      simp [kiD, List.any_map, Function.comp_def]⟩
end
end Ov
end
section
set_option Elab.async false
set_option linter.all false
set_option maxRecDepth 100000
set_option maxHeartbeats 2000000
namespace Ov
open PySem PySem.Spec PyProof.Rows L2
end Ov
end
section
set_option Elab.async false
set_option linter.all false
set_option maxRecDepth 100000
set_option maxHeartbeats 2000000
namespace Ov
open PySem PySem.Spec PyProof.Rows L2
noncomputable abbrev NoCX : CXT := fun _ _ _ _ _ _ => False
structure HotOk (P : Program) (w : World) (K : PySem.W.Frag) (mg : Str → Option Value) (base : Heap) (k : Nat) (f : Addr) (fd : FuncData) (ps : List Str) (sp : Sp) : Prop where
  len : ∀ vs H Q E, sp vs H Q E → vs.length = ps.length
  run : ∀ (A : Around) (ev : Addr) (outer : List Env) (s : Shared) (H : Hp) (args : Args) (us : List Value) (vs : List V) (Q : VK) (E : XK), Room k A → Env0 P w K mg base (A.mark (some (.ref ev))) outer s H → BindsTo s fd args (ps.zip us) → Vals vs us → sp vs H Q E →
    codeAny (model P w) (A.mark (some (.ref ev))) (.call (.ref f) args) (CR NoCX outer P w H s Q E) s
theorem hot_of {P : Program} {w : World} {K : PySem.W.Frag} {mg : Str → Option Value} {base : Heap} {k : Nat} {f : Addr} {name qual : Str} {params : Arguments} {body : List Stmt} {scope : Scope} {dV kV doc pm cdv ct oc : Value} {an od : Option Addr}
    {osl : Array (Option Value)} {N ps : List Str} {sp : Sp} (lk : K.lookup f = some ⟨oc, od, .func (PySem.W.fnOf name qual params body scope dV kV doc pm an cdv ct), osl⟩) (hcd : PySem.W.codeIn K cdv qual = true) (S : FnScope N ps scope)
    (len : ∀ vs H Q E, sp vs H Q E → vs.length = ps.length)
    (hbody : ∀ (A : Around) (ev : Addr) (outer : List Env) (s : Shared) (H : Hp) (vs : List V) (Q : VK) (E : XK), Room k (A.deeper (envOfC qual scope s.heap.objs.size f cdv)) → sp vs H Q E →
      ∃ t, PSs (Cx.hot (cxOf NoCX P w K mg base N qual scope f cdv A outer s H E) ev) body t ∧ t { nx := fun _ H' => Q .non H', rt := Q } (start N vs) H) :
    HotOk P w K mg base (k + 1) f (PySem.W.fnOf name qual params body scope dV kV doc pm an cdv ct) ps sp := by
  refine ⟨len, fun A ev outer s H args us vs Q E hr e0 hb r hsp => ?_⟩
  have hl := len _ _ _ _ hsp
  have e1 : Env0 P w K mg base A outer s H := ⟨e0.frames, e0.mod, e0.bs, e0.bsz, e0.funs, e0.frf, e0.hok, e0.bare⟩
  have KX : K.In s.heap := e0.mod.kin.keeps fun b o e => (e0.bs b o e).1
  have lim : s.heap.NoLimit := e0.mod.nolimit.keeps fun b o e => (e0.bs b o e).1
  have hkind : ∀ y ∈ ps.zip us, scope.names.lookup y.1 = some .local ∨ (scope.names.lookup y.1 = some .cell ∧ ((cellsFrom (s.heap.objs.size + 1) scope.names []).lookup y.1).isSome = true) := fun ⟨n, v⟩ hy => by
    rcases S.par n (List.of_mem_zip hy).1 with q | q
    · exact .inl q
    · exact .inr ⟨q, PySem.W.cellsFrom_some _ _ _ (.inl q)⟩
  have hdp : (A.mark (some (.ref ev))).depth < recursionLimit := hr.depth
  refine codeAny_call_function hdp (KX _ _ lk) rfl S.co S.gen rfl (PySem.W.codeRec_of KX hcd) (hb _ _ _ _ ?_)
  refine wpAny_newFunctionEnv_cells S.kind hkind fun env he s1 x => ?_
  subst he
  refine ⟨lim.keeps x.toInCall.keep, codeAny_func ?_⟩
  obtain ⟨t, ht, hq⟩ := hbody A ev outer s H vs Q E (hr.deeper _) hsp
  have I : Inv (cxOf NoCX P w K mg base N qual scope f cdv A outer s H E) [] (start N vs) H s1 := inv_start S hr.hd e1 hl r x
  refine wpAny_mono (ht [] s1 (start N vs) H _ (inv_hot I ev) hq) (fun fl s' hs => ?_) fun e s' hs => hs.elim
  have fin : ∀ {σ' : L2.St} {H' : Hp} {v : V} {u : Value}, Inv (Cx.hot (cxOf NoCX P w K mg base N qual scope f cdv A outer s H E) ev) [] σ' H' s' → RelV v u → Q v H' → CE outer P w H s Q u s' :=
    fun {σ' H' v u} J rv q => ⟨v, H', J.os, J.bare, J.base, J.hok, rv, q⟩
  cases fl with
  | ret u =>
    obtain ⟨v, σ', H', J, rv, q⟩ := hs
    exact fin J rv q
  | next =>
    obtain ⟨σ', H', J, q⟩ := hs
    exact fin (v := V.non) (u := Value.none) J rfl q
  | brk =>
    obtain ⟨_, _, _, q⟩ := hs
    exact False.elim q
  | cont =>
    obtain ⟨_, _, _, q⟩ := hs
    exact False.elim q
noncomputable def spH (K : PySem.W.Frag) (CL : ClA) (n : Nat) (fr : Bool) (F : List D → R D) : Sp := fun vs H Q _ => ∃ (ds : List D) (A : Addr → Prop), vs.length = n ∧ AOk H A ∧ Reps K CL H A vs ds ∧ (match F ds with
  | .ok d => ∀ v H', Same H H' → RepC K CL fr H A H' v d → Q v H'
  | .exn _ => False
  | .bad => False)
section
variable {X : Cx} {CL : ClA} {ev : Addr}
theorem pe_callH {k : Nat} {f : Addr} {fd : FuncData} {ps : List Str} {sp : Sp} {E : XK} {x : Str} {p pos : Pos} {e : Expr} {es : List Expr} {t : TA} (F : HotOk X.prog X.w X.K X.mg X.base k f fd ps sp) (hr : Room k X.A) (hg : Gl X x) (hm : X.mg x = some (.ref f)) (hk : PySem.W.keepIn X.K (.ref f) = true) (hb : Binds X.K fd ps [])
    (ha : PA (Cx.hot X ev) (e :: es) t) (hdb : (x == ("__debug__" : Str)) = false) (he : starEach (e :: es) X.env = (false, eval e X.env) :: starEach es X.env) (hpl : (backTo pos (starEach es X.env)).any (·.1) = false) :
    PE (Cx.hot X ev) (.Call (.Name x p) (e :: es) [] pos) (fun σ H Q => t σ H fun vs H1 => sp vs H1 Q E) := by
  intro pins s σ H Q I h
  refine wpAny_Call_Name_kw (ld_glob (X := Cx.hot X ev) I hg hm ?_ hdb)
  refine PySem.W.callWith_K (h₀ := X.base) I.ok.mod.kin hk (thn (ha pos pins s σ H _ I h) fun us s1 ⟨vs, H1, I1, r, q⟩ => ⟨I1.kIn, ?_⟩) he hpl
  have hl : us.length = ps.length := by rw [← r.length]; exact F.len _ _ _ _ q
  have hb' : BindsTo s1 fd ⟨us, []⟩ (ps.zip us) := by
    have := hb s1 us I1.kIn (by rw [List.append_nil]; exact hl)
    rw [List.append_nil] at this
    exact this
  refine wpAny_call (codeAny_mono (F.run X.A ev X.stack s1 H1 ⟨us, []⟩ us vs Q E hr I1.env0 hb' r q) fun r s' hq => ?_)
  cases r with
  | error e => exact False.elim hq
  | ok fl =>
    cases fl with
    | ret u => exact I1.after hq
    | next => exact False.elim hq
    | brk => exact False.elim hq
    | cont => exact False.elim hq
theorem sc_callH {k n : Nat} {fr : Bool} {f : Addr} {fd : FuncData} {ps : List Str} {F : List D → R D} {x : Str} {p pos : Pos} {e : Expr} {es : List Expr} {fs ft : Rho → R (List D)} {sh : Rho → Bool} (G : HotOk X.prog X.w X.K X.mg X.base k f fd ps (spH X.K CL n fr F)) (hr : Room k X.A) (hg : Gl X x) (hm : X.mg x = some (.ref f))
    (hk : PySem.W.keepIn X.K (.ref f) = true) (hb : Binds X.K fd ps []) (ha : SA (Cx.hot X ev) CL (fun _ _ => False) (e :: es) fs) (hat : SAT (Cx.hot X ev) CL (fun _ _ => False) (e :: es) ft) (hst : ∀ ρ, sh ρ = true → ft ρ = fs ρ) (hn : ∀ ρ ds, ft ρ = .ok ds → ds.length = n)
    (hdb : (x == ("__debug__" : Str)) = false) (he : starEach (e :: es) X.env = (false, eval e X.env) :: starEach es X.env) (hpl : ∀ pos, (backTo pos (starEach es X.env)).any (·.1) = false) :
    SC (Cx.hot X ev) CL (fun _ _ => False) fr (.Call (.Name x p) (e :: es) [] pos) (fun ρ => (ft ρ).bind fun ds => (F ds).bind fun d => if sh ρ = true then .ok d else if clnD fr d = true then .ok d else .bad) := fun A pins s σ H Q I ⟨hA, ρ, gd, q⟩ => by
  dsimp only at q
  by_cases hs : sh ρ = true
  · rw [hst ρ hs] at q
    refine pe_callH (E := fun _ _ _ => False) G hr hg hm hk hb (ha A) hdb he (hpl _) pins s σ H Q I ⟨hA, ρ, gd, ?_⟩
    cases e1 : fs ρ with
    | bad => rw [e1] at q; exact q
    | exn y => rw [e1] at q; exact q
    | ok ds =>
      rw [e1] at q
      intro vs H1 s1 r1
      refine ⟨ds, A, by rw [r1.length]; exact hn ρ ds (by rw [hst ρ hs]; exact e1), hA.same s1, r1, ?_⟩
      have q' : Post (RepC X.K CL fr H A) (fun _ _ => False) H ((F ds).bind fun d => if sh ρ = true then .ok d else if clnD fr d = true then .ok d else .bad) Q := q
      cases e2 : F ds with
      | ok d =>
        rw [e2, R.bind_ok, if_pos hs] at q'
        exact fun v H2 s2 r2 => q' v H2 (s1.trans s2) ⟨r2.1, fun z ds' e' => let ⟨a, xs, z1, z2, z3⟩ := r2.2 z ds' e'; ⟨a, xs, z1, s1.free z2, z3⟩⟩
      | exn y => rw [e2] at q'; exact (q' H (Same.refl H)).elim
      | bad => rw [e2] at q'; exact q'.elim
  · refine pe_callH (E := fun _ _ _ => False) G hr hg hm hk hb (hat A) hdb he (hpl _) pins s σ H Q I ⟨hA, ρ, gd, ?_⟩
    cases e1 : ft ρ with
    | bad => rw [e1] at q; exact q
    | exn y => rw [e1] at q; exact q
    | ok ds =>
      rw [e1] at q
      intro vs H1 s1 r1
      refine ⟨ds, A0, by rw [r1.plain.length]; exact hn ρ ds e1, fun _ z => z.elim, r1.plain, ?_⟩
      have q' : Post (RepC X.K CL fr H A) (fun _ _ => False) H ((F ds).bind fun d => if sh ρ = true then .ok d else if clnD fr d = true then .ok d else .bad) Q := q
      cases e2 : F ds with
      | ok d =>
        rw [e2, R.bind_ok, if_neg hs] at q'
        split at q'
        · rename_i hc
          exact fun v H2 s2 r2 => q' v H2 (s1.trans s2) (cln_up hA (s1.trans s2) hc ⟨r2.1, fun z ds' e' => let ⟨a, xs, z1, z2, z3⟩ := r2.2 z ds' e'; ⟨a, xs, z1, s1.free z2, z3⟩⟩)
        · exact q'.elim
      | exn y => rw [e2] at q'; exact (q' H (Same.refl H)).elim
      | bad => rw [e2] at q'; exact q'.elim
end
end Ov
end
section
set_option Elab.async false
set_option linter.all false
set_option maxRecDepth 100000
set_option maxHeartbeats 2000000
namespace Ov
open PySem PySem.Spec PyProof.Rows L2
structure Tc where
  sc : Scope
  N : List Str
  /-- a def's name, its number, how many parameters it has -/
  fns : List (Str × Nat × Nat)
  /-- built-in names that the text does not hide -/
  bl : List Str
  /-- exceptions' classes by their names: those that are raised, all that are asked for -/
  rzs : List (Str × Nat)
  exs : List (Str × Nat)
  /-- the text's constants -/
  gls : List (Str × Nat)
noncomputable def visB (T : Tc) (x : Str) : Bool := match T.sc.names.lookup x with
  | some .local => true
  | some .cell => true
  | some .free => true
  | _ => false
noncomputable def locB (T : Tc) (x : Str) : Bool := match T.sc.names.lookup x with
  | some .local => true
  | some .cell => true
  | _ => false
noncomputable def glB (T : Tc) (x : Str) : Bool := T.sc.names.lookup x == some .globalImplicit
noncomputable def namB (x : Str) : Bool := !(x == ("__debug__" : Str)) && !(x == ("__classdict__" : Str)) && !(x == ("__name__" : Str))
noncomputable def isV (T : Tc) (x : Str) (i : Nat) : Bool := T.N[i]? == some x && visB T x && namB x
noncomputable def isB (T : Tc) (x : Str) : Bool := T.bl.contains x && glB T x && namB x
noncomputable def noStar : Expr → Bool
  | .Starred _ _ => false
  | _ => true
noncomputable def noSlice : Expr → Bool
  | .Slice _ _ _ _ => false
  | _ => true
noncomputable def noSet : Expr → Bool
  | .Set _ _ _ => false
  | _ => true
noncomputable def noComp : Expr → Bool
  | .ListComp _ _ _ _ => false
  | .SetComp _ _ _ _ => false
  | .DictComp _ _ _ _ _ => false
  | _ => true
noncomputable def tgOk (tu : Bool) : Expr → Bool
  | .Tuple .. => tu
  | .Name .. => !tu
  | _ => false
noncomputable def isTup : Expr → Bool
  | .Tuple _ _ _ => true
  | _ => false
noncomputable def plainTest : Expr → Bool
  | .UnaryOp _ _ _ => false
  | .BoolOp _ _ _ => false
  | .IfExp _ _ _ _ => false
  | .Compare _ _ _ _ => false
  | _ => true
noncomputable def nameK : Ki → Option Str
  | .int => some "int"
  | .bool => some "bool"
  | .str => some "str"
  | .list => some "list"
  | .tuple => some "tuple"
  | _ => none
noncomputable def nameB : BI → Option Str
  | .len => some "len"
  | .abs => none
  | .max => some "max"
  | .min => some "min"
  | .int => some "int"
  | .list => some "list"
  | .tuple => some "tuple"
  | .all => some "all"
  | .any => none
  | .sum => none
  | .sorted => none
  | _ => none
noncomputable def relSc (o scope : Scope) : Scope := { scope with names := scope.names.map fun (n, k) => if (k == .free && o.kind == .function && o.names.lookup n == some .cell) then (n, .cell) else (n, k) }
noncomputable def swpN : List Nat → List Str → List Str → List Str
  | t :: ts, x :: xs, N => swpN ts xs ((N.map fun y => if y == x then N.getD t x else y).set t x)
  | _, _, N => N
noncomputable def nodupB : List Str → Bool
  | [] => true
  | x :: xs => !xs.contains x && nodupB xs
noncomputable def blkB (T : Tc) (scope : Scope) (ts : List Nat) (N' : List Str) : Bool :=
  scope.kind == .function && scope.names.all (fun y => scope.names.lookup y.1 == some y.2) &&
  scope.names.all (fun y => y.2 != .free || T.sc.names.lookup y.1 == some .cell || T.sc.names.lookup y.1 == some .free) &&
  N'.length == T.N.length && nodupB N' &&
  (List.range N'.length).all fun i => ts.contains i || (match N'[i]? with
    | some x => (scope.names.lookup x != some .local && scope.names.lookup x != some .cell) && (scope.names.lookup x != some .free || T.N[i]? == some x)
    | none => true)
noncomputable def tgNames : List Expr → Option (List Str)
  | [] => some []
  | .Name x _ :: r => (tgNames r).map (x :: ·)
  | _ => none
noncomputable def tgN (ys : List Expr) : List Str := (tgNames ys).getD []
noncomputable def tgO (T : Tc) (scope : Scope) (t : Nat) (x : Str) : Bool := T.N[t]? == some x && (T.sc.names.lookup x == some .local || (T.sc.names.lookup x == some .cell && scope.names.lookup x == some .cell))
noncomputable def tgC (T : Tc) : List Nat → List Str → Bool
  | [], [] => true
  | t :: ts, x :: xs => T.N[t]? == some x && locB T x && tgC T ts xs
  | _, _ => false
noncomputable def Tc.blk (T : Tc) (scope : Scope) (ts : List Nat) (xs : List Str) : Tc := { T with sc := relSc T.sc scope, N := swpN ts xs T.N }
noncomputable def inX (l : List (Str × Nat)) (g : Str) (c : Nat) : Bool := l.any fun p => p.1 == g && p.2 == c
noncomputable def cntE (T : Tc) (e : Expr) (b : BI) (as : Es) : Bool := false
noncomputable def cllE : Expr → Option (Str × Str × List Expr)
  | .Call f as ks _ => (match f with
    | .Name g _ => (match as with
      | [a] => (match ks with
        | [] => (match a with
          | .Call f' bs ks' _ => (match f' with
            | .Name h _ => (match ks' with
              | [] => some (g, h, bs)
              | _ => none)
            | _ => none)
          | _ => none)
        | _ => none)
      | _ => none)
    | _ => none)
  | _ => none
theorem cllE_eq {e : Expr} {g h : Str} {bs : List Expr} (q : cllE e = some (g, h, bs)) : ∃ p p' pos pos', e = .Call (.Name g p) [.Call (.Name h p') bs [] pos'] [] pos := by
  cases e with
  | Call f as ks pos =>
    cases f with
    | Name g' p =>
      cases as with
      | nil => cases q
      | cons a r =>
        cases r with
        | cons _ _ => cases q
        | nil =>
          cases ks with
          | cons _ _ => cases q
          | nil =>
            cases a with
            | Call f' bs' ks' pos' =>
              cases f' with
              | Name h' p' =>
                cases ks' with
                | cons _ _ => cases q
                | nil =>
                  cases q
                  exact ⟨_, _, _, _, rfl⟩
              | _ => cases q
            | _ => cases q
    | _ => cases q
  | _ => cases q
noncomputable def colE (e : Expr) : Option (Str × Str × Expr × Expr × Expr) := match cllE e with
  | some (g, h, bs) => (match bs with
    | [x, y, z] => some (g, h, x, y, z)
    | _ => none)
  | none => none
theorem colE_eq {e : Expr} {g h : Str} {x y z : Expr} (q : colE e = some (g, h, x, y, z)) : ∃ p p' pos pos', e = .Call (.Name g p) [.Call (.Name h p') [x, y, z] [] pos'] [] pos := by
  unfold colE at q
  cases c : cllE e with
  | none => rw [c] at q; cases q
  | some t =>
    obtain ⟨g', h', bs⟩ := t
    rw [c] at q
    match bs, q, c with
    | [a, b, d], q, c => cases q; exact cllE_eq c
noncomputable def lrgE (e : Expr) : Option (Str × Str × Expr × Expr) := match cllE e with
  | some (g, h, bs) => (match bs with
    | [x, y] => some (g, h, x, y)
    | _ => none)
  | none => none
noncomputable def asLrg (_ : Es) : Option (E × E) := none
noncomputable def two : Expr → Option (Expr × Expr)
  | .Tuple es _ _ => (match es with
    | [a, b] => some (a, b)
    | _ => none)
  | _ => none
noncomputable def stpX : Expr → Option (Expr × Int)
  | .Subscript v s _ => (match s with
    | .Slice lo hi st _ => (match lo with
      | some (.Constant (.int k) _ _) => (match hi with
        | none => (match st with
          | some (.Constant (.int j) _ _) => if j = 2 then some (v, k) else none
          | _ => none)
        | some _ => none)
      | _ => none)
    | _ => none)
  | _ => none
theorem stpX_eq {e v : Expr} {k : Int} (q : stpX e = some (v, k)) : ∃ u1 p1 u2 p2 p3 pos, e = .Subscript v (.Slice (some (.Constant (.int k) u1 p1)) none (some (.Constant (.int 2) u2 p2)) p3) pos := by
  unfold stpX at q
  repeat' split at q
  all_goals first | cases q; done | skip
  rename_i h
  subst h
  cases q
  exact ⟨_, _, _, _, _, _, rfl⟩
noncomputable def asStp : Es → Option (E × Int)
  | .cons a r => (match r with
    | .cons b r' => (match b with
      | .int k => (match r' with
        | .nil => some (a, k)
        | _ => none)
      | _ => none)
    | _ => none)
  | _ => none
theorem asStp_eq {as : Es} {a : E} {k : Int} (q : asStp as = some (a, k)) : as = .cons a (.cons (.int k) .nil) := by
  unfold asStp at q
  repeat' split at q
  all_goals first | cases q; done | skip
  cases q
  rfl
mutual
noncomputable def chkE : Nat → Tc → Expr → E → Bool
  | 0, _, _, _ => false
  | n + 1, T, e, c => match c with
    | .non => (match e with | .Constant .none _ _ => true | _ => false)
    | .bl b => (match e with | .Constant (.bool b') _ _ => b' == b | _ => false)
    | .int i => (match e with | .Constant (.int j) _ _ => decide (j = i) | _ => false)
    | .str x => (match e with | .Constant (.str y) _ _ => decide (y = x) | _ => false)
    | .var i => (match e with | .Name x _ => isV T x i | _ => false)
    | .glob g => false
    | .bin op a b => (match e with | .BinOp x op' y _ => decide (op' = op) && chkE n T x a && chkE n T y b | _ => false)
    | .un op a => false
    | .no a => (match e with | .UnaryOp .Not x _ => chkE n T x a | _ => false)
    | .and es => (match e with | .BoolOp .And xs _ => chkEs n T xs es && !xs.isEmpty | _ => false)
    | .or es => (match e with | .BoolOp .Or xs _ => chkEs n T xs es && !xs.isEmpty | _ => false)
    | .cmp op a b => (match e with | .Compare x [op'] [y] _ => decide (op' = op) && !behindInMarks op y && chkE n T x a && chkE n T y b | _ => false)
    | .cmp2 op1 op2 a b c => (match e with | .Compare x [o1, o2] [y, z] _ => decide (o1 = op1) && decide (o2 = op2) && !lastMarks [op1, op2] [y, z] && chkE n T x a && chkE n T y b && chkE n T z c | _ => false)
    | .ite c a b => false
    | .call f as => (match e with | .Call (.Name g _) (x :: xs) [] _ => (T.fns.any fun p => p.1 == g && p.2.1 == f && p.2.2 == xs.length + 1) && decide (xs.length < 900) && glB T g && namB g && chkEs n T (x :: xs) as | _ => false)
    | .bi b as => (match e with | .Call (.Name g _) (x :: xs) [] _ => nameB b == some g && isB T g && chkEs n T (x :: xs) as | _ => false) || cntE T e b as || (match asLrg as with | some (a, c) => (match lrgE e with | some (g, h, x, y) => decide (b = .list) && g == ("list" : Str) && h == ("range" : Str) && isB T g && isB T h && noStar x && noStar y && chkE n T x a && chkE n T y c | none => false) | none => false) || (match asStp as with | some (a, k) => (match stpX e with | some (x, j) => decide (b = .stp) && decide (j = k) && decide (0 ≤ k) && chkE n T x a | none => false) | none => false)
    | .isi a ks => (match ks with | [k] => (match e with | .Call (.Name g _) [x, .Name t _] [] _ => g == ("isinstance" : Str) && isB T g && nameK k == some t && isB T t && noStar x && chkE n T x a | _ => false) | _ => false)
    | .idx a i => (match e with | .Subscript x y _ => noSlice y && chkE n T x a && chkE n T y i | _ => false)
    | .sl a lo hi => (match e with | .Subscript x (.Slice l h none _) _ => chkE n T x a && chkO n T l lo && chkO n T h hi | _ => false)
    | .tup es => (match e with | .Tuple xs _ _ => chkEs n T xs es && decide (xs.length ≤ 1000) | _ => false)
    | .lst es => (match e with | .List xs _ => chkEs n T xs es && decide (xs.length ≤ 1000) | _ => false)
    | .comp elt t it c => (match e with | .ListComp x [⟨.Name y _, iter, ifs, 0⟩] scope _ => chkI n T false iter it && noSet iter && blkB T scope [t] (swpN [t] [y] T.N) && tgO (T.blk scope [t] [y]) scope t y && chkT n (T.blk scope [t] [y]) ifs c && chkE n (T.blk scope [t] [y]) x elt | _ => false)
    | .compT elt ts it c => false
    | .tupI it => (match it with | .zip3 a b c => (match colE e with | some (g, h, x, y, z) => g == ("tuple" : Str) && h == ("zip" : Str) && isB T g && isB T h && noStar x && noStar y && noStar z && chkE n T x a && chkE n T y b && chkE n T z c | none => false) | _ => false)
    | .dnew => false
    | .fld _ _ => false
noncomputable def chkB : Nat → Tc → Expr → E → Bool
  | 0, _, _, _ => false
  | n + 1, T, e, c => match e with
    | .UnaryOp .Not x _ => (match c with | .no a => chkB n T x a | _ => false)
    | .BoolOp .And xs _ => (match c with | .and es => chkBs n T xs es && !xs.isEmpty | _ => false)
    | .BoolOp .Or xs _ => (match c with | .or es => chkBs n T xs es && !xs.isEmpty | _ => false)
    | .Compare x ops ys _ => (match c with
      | .cmp op a b => (match ops, ys with | [op'], [y] => decide (op' = op) && !behindInMarks op y && chkE n T x a && chkE n T y b | _, _ => false)
      | .cmp2 op1 op2 a b c => (match ops, ys with | [o1, o2], [y, z] => decide (o1 = op1) && decide (o2 = op2) && !lastMarks [op1, op2] [y, z] && chkE n T x a && chkE n T y b && chkE n T z c | _, _ => false)
      | _ => false)
    | e => plainTest e && chkE n T e c
noncomputable def chkBs : Nat → Tc → List Expr → Es → Bool
  | 0, _, _, _ => false
  | n + 1, T, xs, es => match xs, es with
    | [], .nil => true
    | x :: xs, .cons e es => chkB n T x e && chkBs n T xs es
    | _, _ => false
noncomputable def chkEs : Nat → Tc → List Expr → Es → Bool
  | 0, _, _, _ => false
  | n + 1, T, xs, es => match xs, es with
    | [], .nil => true
    | x :: xs, .cons e es => noStar x && chkE n T x e && chkEs n T xs es
    | _, _ => false
noncomputable def chkO : Nat → Tc → Option Expr → E → Bool
  | 0, _, _, _ => false
  | n + 1, T, x, e => match x with
    | none => (match e with | .non => true | _ => false)
    | some x => (match e with | .non => false | e => chkE n T x e)
noncomputable def chkT : Nat → Tc → List Expr → E → Bool
  | 0, _, _, _ => false
  | n + 1, T, xs, e => match xs with
    | [] => (match e with | .bl true => true | _ => false)
    | [x] => chkB n T x e
    | _ => false
noncomputable def chkI : Nat → Tc → Bool → Expr → I → Bool
  | 0, _, _, _, _ => false
  | n + 1, T, tu, e, i => match i with
    | .e a => chkE n T e a
    | .rng a => (match e with | .Call (.Name g _) [x] [] _ => g == ("range" : Str) && isB T g && noStar x && chkE n T x a | _ => false)
    | .enm a => false
    | .zip a b => false
    | .rng2 a b => (match e with | .Call (.Name g _) [x, y] [] _ => g == ("range" : Str) && isB T g && noStar x && noStar y && chkE n T x a && chkE n T y b | _ => false)
    | .zip3 a b c => (match e with | .Call (.Name g _) [x, y, z] [] _ => !tu && g == ("zip" : Str) && isB T g && noStar x && noStar y && noStar z && chkE n T x a && chkE n T y b && chkE n T z c | _ => false)
end
noncomputable def clsNs (T : Tc) : List Expr → List Ki → Bool
  | [], [] => true
  | .Name t _ :: r, .cls c :: ks => inX T.exs t c && glB T t && namB t && clsNs T r ks
  | _, _ => false
noncomputable def hotB (T : Tc) (g : Str) (f : Nat) : Bool := (T.fns.any fun p => p.1 == g && p.2.1 == f && p.2.2 == 1001) && glB T g && namB g
noncomputable def chkHe : Nat → Tc → Nat → Expr → E → Bool
  | 0, _, _, _, _ => false
  | n + 1, T, x, e, c => match c with
    | .bl b => (match e with | .Constant (.bool b') _ _ => b' == b | _ => false)
    | .no a => (match e with | .UnaryOp .Not y _ => chkHe n T x y a | _ => false)
    | .and (.cons a .nil) => (match e with | .BoolOp .And [y] _ => chkHe n T x y a | _ => false)
    | .and (.cons a (.cons a' as)) => (match e with | .BoolOp .And (y :: z :: zs) p => chkHe n T x y a && chkHe n T x (.BoolOp .And (z :: zs) p) (.and (.cons a' as)) | _ => false)
    | .isi (.var i) [.verr] => (match e with | .Call (.Name g _) [.Name v _, .Name t _] [] _ => i == x && g == ("isinstance" : Str) && isB T g && isV T v x && t == ("ValueError" : Str) && isB T t | _ => false)
    | .isi (.var i) [.cls c] => (match e with
      | .Call (.Name g _) [.Name v _, .Name t _] [] _ => i == x && g == ("isinstance" : Str) && isB T g && isV T v x && inX T.exs t c && glB T t && namB t
      | _ => false)
    | .isi (.var i) (.cls c :: k :: ks) => (match e with
      | .Call (.Name g _) [.Name v _, .Tuple ts _ _] [] _ => i == x && g == ("isinstance" : Str) && isB T g && isV T v x && clsNs T ts (.cls c :: k :: ks) && decide (ts.length ≤ 1000)
      | _ => false)
    | .call f (.cons (.var i) .nil) => (match e with
      | .Call (.Name g _) [.Name v _] [] _ => hotB T g f && isV T v i
      | _ => false)
    | _ => false
noncomputable def chkHbs (n : Nat) (T : Tc) (x : Nat) : List Expr → Es → Bool
  | [], .nil => true
  | y :: ys, .cons e es => plainTest y && chkHe n T x y e && chkHbs n T x ys es
  | _, _ => false
noncomputable def chkHb (n : Nat) (T : Tc) (x : Nat) (e : Expr) (c : E) : Bool := match e with
  | .BoolOp .Or ys _ => (match c with | .or es => chkHbs n T x ys es && !ys.isEmpty | _ => false)
  | e => plainTest e && chkHe n T x e c
noncomputable def isiE : E → Bool
  | .isi _ _ => true
  | .bl _ => true
  | _ => false
noncomputable def chkHs : Nat → Tc → Nat → List Stmt → Ss → Bool
  | 0, _, _, _, _ => false
  | n + 1, T, x, sts, ss => match ss with
    | .nil => sts.isEmpty
    | .cons (.asg i false e) ss => (match sts with
      | .Assign [.Name y _] v _ :: r => T.N[i]? == some y && locB T y && noComp v && chkHe n T x v e && chkHs n T x r ss
      | _ => false)
    | .cons (.ife c a .nil) ss => (match sts with
      | .If t xs [] _ :: r => chkHb n T x t c && chkHs n T x xs a && chkHs n T x r ss
      | _ => false)
    | .cons (.ret e) ss => (match sts with
      | .Return (some v) _ :: r => isiE e && chkHe n T x v e && chkHs n T x r ss
      | _ => false)
    | _ => false
mutual
noncomputable def chkS : Nat → Tc → Stmt → S → Bool
  | 0, _, _, _ => false
  | n + 1, T, st, s => match s with
    | .pass => false
    | .brk => false
    | .cont => false
    | .asg i _ e => (match st with | .Assign [.Name x _] v _ => T.N[i]? == some x && locB T x && chkE n T v e | _ => false)
    | .asgT ts e => false
    | .expr e => (match st with | .Expr v _ => noComp v && chkE n T v e | _ => false)
    | .ret e => (match st with | .Return (some v) _ => chkE n T v e | _ => false)
    | .retN => false
    | .ife c a b => (match st with | .If t xs ys _ => chkB n T t c && chkSs n T xs a && chkSs n T ys b | _ => false)
    | .fors t it body => (match st with | .For (.Name x _) iter xs [] _ => tgC T [t] [x] && noSet iter && chkI n T false iter it && chkSs n T xs body | _ => false)
    | .forT ts it body => (match st with | .For (.Tuple ys _ _) iter xs [] _ => (tgNames ys).isSome && tgC T ts (tgN ys) && noSet iter && chkI n T true iter it && chkSs n T xs body | _ => false)
    | .whl c body => false
    | .rais c as => !(T.rzs.any fun p => p.2 == c)
    | .tryx _ _ _ _ => false
    | .app i e => (match st with | .Expr (.Call (.Attribute (.Name x _) m ap) [v] [] cp) _ => m == ("append" : Str) && isV T x i && ap.endLine == cp.line && noStar v && chkE n T v e | _ => false)
    | .ext i e => false
    | .rev i => false
    | .clr i => false
    | .put i k e => (match st with | .Assign [.Subscript (.Name x _) y _] v _ => isV T x i && noSlice y && chkE n T y k && chkE n T v e | _ => false)
    | .swp _ _ _ => false
    | .ins _ _ _ => false
    | .dput _ _ _ => false
    | .dsd _ _ _ => false
    | .rel _ => false
noncomputable def chkSs : Nat → Tc → List Stmt → Ss → Bool
  | 0, _, _, _ => false
  | n + 1, T, sts, ss => match ss with
    | .nil => sts.isEmpty
    | .cons (.rel i) ss => chkSs n T sts ss
    | .cons s ss => (match sts with
      | st :: r => chkS n T st s && chkSs n T r ss
      | [] => false)
end
noncomputable def chkD (fuel : Nat) (hot : Bool) (fns : List (Str × Nat × Nat)) (bl : List Str) (rzs exs gls : List (Str × Nat)) (ps N : List Str) (st : Stmt) (df : Df) : Bool :=
  let sc := defScope st
  sc.kind == .function && !sc.isCoroutine && !sc.isGenerator && nodupB N && N.take ps.length == ps && ps.all (fun x => sc.names.lookup x == some .local || sc.names.lookup x == some .cell) && sc.names.all (fun y => y.2 != .free) && N.length == df.n &&
  (match hot with
  | true => chkHs fuel ⟨sc, N, fns, bl, rzs, exs, gls⟩ 0 (defBody st) df.body
  | false => chkSs fuel ⟨sc, N, fns, bl, rzs, exs, gls⟩ (defBody st) df.body)
end Ov
end
section
set_option Elab.async false
set_option linter.all false
set_option maxRecDepth 100000
set_option maxHeartbeats 4000000
namespace Ov
open PySem PySem.Spec PyProof.Rows L2
structure XT (up : Nat → List Nat) (xn : Nat → List D → R Ex) (CL : ClA) (rzs exs : List (Str × Nat)) (K : PySem.W.Frag) (mg : Str → Option Value) : Prop where
  xc : ∀ c C, CL c = some C → XcOk K C
  rz : ∀ p ∈ rzs, ∃ C, CL p.2 = some C ∧ mg p.1 = some (.ref C)
  ex : ∀ p ∈ exs, ∃ C, mg p.1 = some (.ref C) ∧ KitAll K CL up p.2 C ∧ ∀ c D, CL c = some D → PySem.W.subIn K (.ref D) (.ref C) = some ((up c).contains p.2)
  made : ∀ c ds, xn c ds = .bad ∨ xn c ds = .ok ⟨c, []⟩
  xb : ∀ c, (∀ p ∈ rzs, p.2 ≠ c) → ∀ ds, xn c ds = .bad
noncomputable def GlOk (K : PySem.W.Frag) (mg : Str → Option Value) (CL : ClA) (x : Str) (d : D) : Prop := ∃ u v, mg x = some u ∧ RelV v u ∧ ∀ H A, Rep K CL H A v d
structure VX (Γ : Gam) (CL : ClA) (k : Nat) (W : XW) (T : Tc) (X : Cx) : Prop where
  sc : X.env.scope = T.sc
  kd : T.sc.kind = .function
  N : X.N = T.N
  nd : T.N.Nodup
  calm : X.calm = true
  room : Room k X.A
  bl : ∀ x, x ∈ T.bl → X.mg x = none
  fn : ∀ p ∈ T.fns, ∃ f fd ps, X.mg p.1 = some (.ref f) ∧ PySem.W.keepIn X.K (.ref f) = true ∧ Binds X.K fd ps [] ∧ ps.length = p.2.2 % 1000 ∧ (p.2.2 < 1000 → FnOk X.prog X.w X.K X.mg X.base (CXR X.prog X.w) k f fd ps (spD X.K CL (p.2.2 % 1000) (Γ.fr p.2.1) (Γ.F p.2.1))) ∧ (1000 ≤ p.2.2 → HotOk X.prog X.w X.K X.mg X.base k f fd ps (spH X.K CL (p.2.2 % 1000) (Γ.fr p.2.1) (Γ.F p.2.1)))
  own : PassesOwn (model X.prog X.w) X.A X.env X.xe
  px : ∀ A, Passes (CXR X.prog X.w) X (EKW X.K CL A W)
  rz : RzOk X CL W
  xt : XT Γ.up Γ.xn CL T.rzs T.exs X.K X.mg
  gl : ∀ p ∈ T.gls, GlOk X.K X.mg CL p.1 (Γ.G p.2)
theorem passNo {X : Cx} {CL : ClA} : ∀ A, Passes (CXR X.prog X.w) X (EKW X.K CL A W0) := fun A pins σ H s ev s' I h => by
  obtain ⟨e, T, cls, H', _, _, _, _, _, _, _, _, _, _, x, _, w⟩ := h
  exact w.elim
theorem rzNo {X : Cx} {CL : ClA} : RzOk X CL W0 := fun _ _ _ _ _ _ _ _ _ _ _ _ _ z => z.elim
noncomputable def Rf {α : Type} (g f : Rho → R α) : Prop := ∀ ρ, g ρ = .bad ∨ g ρ = f ρ
section
variable {X : Cx} {CL : ClA} {W : XW} {a : Expr} {f g : Rho → R D}
theorem SE.ref (h : SE X CL W a f) (r : Rf g f) : SE X CL W a g := fun A => PE.weak (h A) fun σ H Q ⟨hA, ρ, q, p⟩ => ⟨hA, ρ, q, by
  rcases r ρ with e | e
  · rw [e] at p; exact p.elim
  · rw [e] at p; exact p⟩
theorem SB.ref {f g : Rho → R Bool} (h : SB X CL W a f) (r : Rf g f) : SB X CL W a g := fun A => PT.weak (h A) fun σ H Q ⟨hA, ρ, q, p⟩ => ⟨hA, ρ, q, by
  rcases r ρ with e | e
  · rw [e] at p; exact p.elim
  · rw [e] at p; exact p⟩
theorem SW.ref {f g : Rho → R Bool} (h : SW X CL W a f) (r : Rf g f) : SW X CL W a g := fun A => PW.weak (h A) fun σ H Q ⟨hA, ρ, q, p⟩ => ⟨hA, ρ, q, by
  rcases r ρ with e | e
  · rw [e] at p; exact p.elim
  · rw [e] at p; exact p⟩
theorem SC.ref {fr : Bool} (h : SC X CL W fr a f) (r : Rf g f) : SC X CL W fr a g := fun A => PE.weak (h A) fun σ H Q ⟨hA, ρ, q, p⟩ => ⟨hA, ρ, q, by
  rcases r ρ with e | e
  · rw [e] at p; exact p.elim
  · rw [e] at p; exact p⟩
theorem SS.ref {st : Stmt} {f g : Rho → O} (h : SS X CL W st f) (r : ∀ ρ, g ρ = .bad ∨ g ρ = f ρ) : SS X CL W st g := fun Fz B => PS.weak (h Fz B) fun D σ H ⟨ρ, x, p⟩ => ⟨ρ, x, by
  rcases r ρ with e | e
  · rw [e] at p; exact p.elim
  · rw [e] at p; exact p⟩
end
theorem nodupB_ok : ∀ {l : List Str}, nodupB l = true → l.Nodup
  | [], _ => List.nodup_nil
  | x :: xs, h => by
    unfold nodupB at h
    simp only [Bool.and_eq_true, Bool.not_eq_true', List.contains_eq_mem, decide_eq_false_iff_not] at h
    exact List.nodup_cons.mpr ⟨h.1, nodupB_ok h.2⟩
section
variable {T : Tc} {X : Cx} {Γ : Gam} {CL : ClA} {k : Nat} {W : XW}
theorem visB_ok {x : Str} (h : visB T x = true) : Vis T.sc x := by
  unfold visB at h
  split at h
  · exact .inl (by assumption)
  · exact .inr (.inl (by assumption))
  · exact .inr (.inr (by assumption))
  · cases h
theorem locB_ok {x : Str} (h : locB T x = true) : Loc T.sc x := by
  unfold locB at h
  split at h
  · exact .inl (by assumption)
  · exact .inr (by assumption)
  · cases h
theorem namB_ok {x : Str} (h : namB x = true) : (x == ("__debug__" : Str)) = false ∧ (x == ("__classdict__" : Str)) = false ∧ x ≠ "__name__" := by
  unfold namB at h
  simp only [Bool.and_eq_true, Bool.not_eq_true'] at h
  exact ⟨h.1.1, h.1.2, fun e => by subst e; exact absurd h.2 (by simp)⟩
theorem isV_ok {x : Str} {i : Nat} {pos : Pos} (v : VX Γ CL k W T X) (h : isV T x i = true) : PE X (.Name x pos) (tVar i) := by
  unfold isV at h
  simp only [Bool.and_eq_true, beq_iff_eq] at h
  obtain ⟨h2, h3, _⟩ := namB_ok h.2
  exact pe_var (by rw [v.N]; exact h.1.1) (by rw [v.sc]; exact visB_ok h.1.2) h2 h3
theorem isB_ok {x : Str} (v : VX Γ CL k W T X) (h : isB T x = true) : Gl X x ∧ X.mg x = none ∧ x ≠ "__name__" ∧ (x == ("__debug__" : Str)) = false := by
  unfold isB glB at h
  simp only [Bool.and_eq_true, beq_iff_eq, List.contains_eq_mem, decide_eq_true_eq] at h
  obtain ⟨h2, h3, h4⟩ := namB_ok h.2
  exact ⟨by show X.env.scope.names.lookup x = _; rw [v.sc]; exact h.1.2, v.bl x h.1.1, h4, h2⟩
theorem star_ok {x : Expr} {xs : List Expr} {env : Env} (h : noStar x = true) : starEach (x :: xs) env = (false, eval x env) :: starEach xs env := by
  cases x <;> first | rfl | cases h
theorem slice_ok {y : Expr} (h : noSlice y = true) : PlainIx y := by
  intro o i
  cases y <;> first | rfl | cases h
theorem set_ok {e : Expr} {env : Env} (h : noSet e = true) : ∀ x, foldedSetIterable e env x = pure x := by
  intro x
  cases e <;> first | rfl | cases h
theorem comp_ok {e : Expr} {t : Option Expr} {l : Nat} {env : Env} (h : noComp e = true) : swapsWith e t l env = pure false := by
  cases e <;> first | rfl | cases h
theorem test_ok {e : Expr} {env : Env} (h : plainTest e = true) : ∀ whole, isTrue e env whole = (do let v ← whole; standAt e.pos; holding [v] (truthy v)) := by
  intro whole
  cases e <;> first | rfl | cases h
theorem relabel_eq (v : VX Γ CL k W T X) (scope : Scope) : relabel scope X.env = relSc T.sc scope := by
  unfold relabel relSc
  have : ∀ n, X.env.kindOf n = T.sc.names.lookup n := fun n => by show X.env.scope.names.lookup n = _; rw [v.sc]
  simp only [this, v.sc]
theorem blk_ok {scope : Scope} {ts : List Nat} {N' : List Str} (v : VX Γ CL k W T X) (h : blkB T scope ts N' = true) : BlockOk X scope N' ts ∧ N'.Nodup ∧ scope.kind = .function := by
  unfold blkB at h
  simp only [Bool.and_eq_true, beq_iff_eq, List.all_eq_true, Bool.or_eq_true, bne_iff_ne, ne_eq] at h
  obtain ⟨⟨⟨⟨⟨h1, h2⟩, h4⟩, h5⟩, h6⟩, h7⟩ := h
  have at7 : ∀ i x, N'[i]? = some x → i ∈ ts ∨ ((scope.names.lookup x ≠ some .local ∧ scope.names.lookup x ≠ some .cell) ∧ (scope.names.lookup x ≠ some .free ∨ T.N[i]? = some x)) := fun i x e => by
    have hi := (List.getElem?_eq_some_iff.mp e).1
    have := h7 i (List.mem_range.mpr hi)
    rcases this with z | z
    · exact .inl (by simpa using z)
    · rw [e] at z
      simp only [Bool.and_eq_true, bne_iff_ne, ne_eq, Bool.or_eq_true, beq_iff_eq] at z
      exact .inr z
  refine ⟨⟨h1, h2, fun y hy hl => by rw [h2 y hy, hl], fun y hy hf => ?_, by rw [v.N]; exact h5, fun i x e hf hn => ?_, fun i x e hl => ?_⟩, nodupB_ok h6, h1⟩
  · rw [v.sc]
    rcases h4 y hy with (z | z) | z
    · exact absurd hf z
    · exact .inl z
    · exact .inr z
  · rw [v.N]
    rcases at7 i x e with z | ⟨_, z⟩
    · exact absurd z hn
    · exact z.resolve_left fun q => q hf
  · rcases at7 i x e with z | ⟨z, _⟩
    · exact z
    · exact hl.elim (fun q => absurd q z.1) (fun q => absurd q z.2)
theorem VX.blk {scope : Scope} {ts : List Nat} {xs : List Str} {cl : List (Str × Addr)} {C : Addr} {s : Shared} {H : Hp} {fp : List Addr} (v : VX Γ CL k W T X) (h : blkB T scope ts (swpN ts xs T.N) = true) : VX Γ CL k W0 (T.blk scope ts xs) (cxC X scope cl C (swpN ts xs T.N) s H fp) := by
  obtain ⟨_, h2, h3⟩ := blk_ok v h
  exact ⟨relabel_eq v scope, h3, rfl, h2, v.calm, v.room, v.bl, v.fn, PassesOwn.never, passNo, rzNo, v.xt, v.gl⟩
theorem tgO_one {t : Nat} {x : Str} {pos : Pos} {scope : Scope} (v : VX Γ CL k W T X) (hfn : scope.names.lookup x = some .cell → X.fn x = true) (h : tgO T scope t x = true) : PG X (.Name x pos) (gName t) := by
  unfold tgO at h
  simp only [Bool.and_eq_true, Bool.or_eq_true, beq_iff_eq] at h
  rcases h with ⟨h1, h2 | h2⟩
  · exact pg_name (by rw [v.N]; exact v.nd) (by rw [v.N]; exact h1) (by rw [v.sc]; exact .inl h2) (.inr (by rw [v.sc]; exact h2))
  · exact pg_name (by rw [v.N]; exact v.nd) (by rw [v.N]; exact h1) (by rw [v.sc]; exact .inr h2.1) (.inl (hfn h2.2))
theorem tgNames_cons {y : Expr} {r : List Expr} {zs : List Str} (h : tgNames (y :: r) = some zs) : ∃ x p ws, y = .Name x p ∧ tgNames r = some ws ∧ zs = x :: ws := by
  cases y with
  | Name x p =>
    have h' : (tgNames r).map (x :: ·) = some zs := h
    cases e : tgNames r with
    | none => rw [e] at h'; cases h'
    | some ws => rw [e] at h'; cases h'; exact ⟨x, p, ws, rfl, rfl, rfl⟩
  | _ => cases h
theorem each_name (x : Str) (p : Pos) (r : List Expr) (env : Env) : assignEach (.Name x p :: r) env = (false, assign (.Name x p) env) :: assignEach r env := rfl
theorem tgNames_each {env : Env} : ∀ (ys : List Expr) (zs : List Str), tgNames ys = some zs → (assignEach ys env).length = ys.length ∧ (assignEach ys env).findIdx? (·.1) = none ∧ (assignEach ys env).map (·.2) = ys.map fun y => assign y env := by
  intro ys
  induction ys with
  | nil => intro _ _; exact ⟨rfl, rfl, rfl⟩
  | cons y r ih =>
    intro zs h
    obtain ⟨x, p, ws, rfl, e, rfl⟩ := tgNames_cons h
    obtain ⟨h1, h2, h3⟩ := ih ws e
    rw [each_name]
    refine ⟨?_, ?_, ?_⟩
    · rw [List.length_cons, List.length_cons, h1]
    · rw [List.findIdx?_cons, h2]
      simp
    · rw [List.map_cons, List.map_cons, h3]
end
noncomputable def Es.len : Es → Nat
  | .nil => 0
  | .cons _ es => es.len + 1
theorem evA_len (Γ : Gam) (ρ : Rho) : ∀ (es : Es) (ds : List D), evA Γ ρ es = .ok ds → ds.length = es.len
  | .nil, ds, h => by cases h; rfl
  | .cons e es, ds, h => by
    obtain ⟨x, h1, h2⟩ := bind_ok_of (evA_cons Γ ρ e es ▸ h)
    obtain ⟨xs, h3, h4⟩ := bind_ok_of h2
    cases h4
    exact congrArg (· + 1) (evA_len Γ ρ es xs h3)
theorem evB_len (Γ : Gam) (ρ : Rho) : ∀ (es : Es) (ds : List D), evB Γ ρ es = .ok ds → ds.length = es.len
  | .nil, ds, h => by cases h; rfl
  | .cons e es, ds, h => by
    obtain ⟨x, h1, h2⟩ := bind_ok_of (evB_cons Γ ρ e es ▸ h)
    obtain ⟨xs, h3, h4⟩ := bind_ok_of h2
    cases h4
    exact congrArg (· + 1) (evB_len Γ ρ es xs h3)
theorem top_sh (Γ : Gam) (ρ : Rho) (e : E) (h : shE ρ e = true) : top ρ e (evE Γ ρ e) = evE Γ ρ e := by
  cases e with
  | var i =>
    show varT ρ i = varS ρ i
    have h' : shV ρ i = true := h
    unfold shV at h'
    unfold varT varS
    cases q : ρ[i]? with
    | none => rfl
    | some x =>
      cases x with
      | none => rfl
      | some y =>
        obtain ⟨d, o⟩ := y
        cases o with
        | true => rw [q] at h'; cases h'
        | false => rfl
  | _ => rfl
theorem evB_sh (Γ : Gam) (ρ : Rho) : ∀ (es : Es), shEs ρ es = true → evB Γ ρ es = evA Γ ρ es
  | .nil, _ => rfl
  | .cons e es, h => by
    simp only [shEs_cons, Bool.and_eq_true] at h
    rw [evA_cons, evB_cons, top_sh Γ ρ e h.1, evB_sh Γ ρ es h.2]
theorem top_rf (Γ : Gam) (c : E) : Rf (fun ρ => evE Γ ρ c) (fun ρ => top ρ c (evE Γ ρ c)) := fun ρ => by
  by_cases h : shE ρ c = true
  · exact .inr (top_sh Γ ρ c h).symm
  · cases c with
    | var i =>
      refine .inl ?_
      show varS ρ i = .bad
      have h' : ¬ shV ρ i = true := h
      unfold shV at h'
      unfold varS
      cases q : ρ[i]? with
      | none => rfl
      | some x =>
        cases x with
        | none => rfl
        | some y =>
          obtain ⟨d, o⟩ := y
          cases o with
          | true => rfl
          | false => rw [q] at h'; exact absurd rfl h'
    | _ => exact absurd rfl h
end Ov
end
section
set_option Elab.async false
set_option linter.all false
set_option maxRecDepth 100000
set_option maxHeartbeats 4000000
namespace Ov
open PySem PySem.Spec PyProof.Rows L2
noncomputable def Pcs (X : Cx) (CL : ClA) (W : XW) (e : Expr) (f : Rho → R D) : Prop := ∃ tg iter elt ifs scope pos N' ts fi fc fe as g, e = .ListComp elt [⟨tg, iter, ifs, 0⟩] scope pos ∧ BlockOk X scope N' ts ∧ SI X CL W tg iter fi ∧ GG X.K CL ts as g ∧
  (∀ cl C s H fp, PG (cxC X scope cl C N' s H fp) tg g) ∧ (∀ cl C s H fp, STs (cxC X scope cl C N' s H fp) CL ifs fc) ∧ (∀ cl C s H fp, SE (cxC X scope cl C N' s H fp) CL W0 elt fe) ∧ (∀ x, foldedSetIterable iter X.env x = pure x) ∧
  ∀ ρ, f ρ = (fi ρ).bind fun xs => (noX (compD (fun x => (as x ρ).bind fc) (fun x => (as x ρ).bind fe) xs)).bind fun ys => .ok (.lst ys)
theorem Pcs.sc {X : Cx} {CL : ClA} {W : XW} {e : Expr} {f : Rho → R D} (hc : X.calm = true) (h : Pcs X CL W e f) : SC X CL W true e f := by
  obtain ⟨tg, iter, elt, ifs, scope, pos, N', ts, fi, fc, fe, as, g, rfl, B, hi, hGG, hg, ht, he, hs, ef⟩ := h
  exact SC.congr (sc_comp hc B hi hGG hg ht he hs) ef
structure OkE (Γ : Gam) (CL : ClA) (W : XW) (X : Cx) (e : Expr) (c : E) : Prop where
  se : SE X CL W e (fun ρ => evE Γ ρ c)
  st : ST X CL W e (fun ρ => top ρ c (evE Γ ρ c))
  nw : newE Γ c = true → SC X CL W true e (fun ρ => evE Γ ρ c)
  cp : noComp e = false → Pcs X CL W e (fun ρ => evE Γ ρ c)
section
variable {Γ : Gam} {CL : ClA} {W : XW} {X : Cx} {e : Expr} {c : E}
theorem okE_of (h : SE X CL W e (fun ρ => evE Γ ρ c)) (ht : ∀ ρ r, top ρ c r = r) (hn : newE Γ c = false) (hc : noComp e = true) : OkE Γ CL W X e c :=
  ⟨h, by simp only [ht]; exact h.st, fun z => absurd z (by rw [hn]; decide), fun z => absurd z (by rw [hc]; decide)⟩
theorem okE_sc (h : SC X CL W true e (fun ρ => evE Γ ρ c)) (ht : ∀ ρ r, top ρ c r = r) (hc : noComp e = true) : OkE Γ CL W X e c :=
  ⟨h.se, by simp only [ht]; exact h.se.st, fun _ => h, fun z => absurd z (by rw [hc]; decide)⟩
theorem okE_p (hc : X.calm = true) (h : Pcs X CL W e (fun ρ => evE Γ ρ c)) (ht : ∀ ρ r, top ρ c r = r) : OkE Γ CL W X e c :=
  ⟨(h.sc hc).se, by simp only [ht]; exact (h.sc hc).se.st, fun _ => h.sc hc, fun _ => h⟩
end
theorem bootK {k : Ki} {x : Str} (h : nameK k = some x) : ∃ T, tyK k = some T ∧ bootBuiltins x = some (.type T) := by
  cases k <;> simp only [nameK] at h <;> cases h
  · exact ⟨_, rfl, PyProof.Rows.boot_int⟩
  · exact ⟨_, rfl, PyProof.Rows.boot_bool⟩
  · exact ⟨_, rfl, PyProof.Rows.boot_str⟩
  · exact ⟨_, rfl, PyProof.Rows.boot_list⟩
  · exact ⟨_, rfl, PyProof.Rows.boot_tuple⟩
structure Snd (Γ : Gam) (CL : ClA) (k : Nat) (n : Nat) : Prop where
  e : ∀ (W : XW) (T : Tc) (X : Cx) (x : Expr) (c : E), VX Γ CL k W T X → chkE n T x c = true → OkE Γ CL W X x c
  b : ∀ (W : XW) (T : Tc) (X : Cx) (x : Expr) (c : E), VX Γ CL k W T X → chkB n T x c = true → SB X CL W x (fun ρ => (top ρ c (evE Γ ρ c)).bind truD)
  bs : ∀ (W : XW) (T : Tc) (X : Cx) (xs : List Expr) (es : Es) (pos : Pos), VX Γ CL k W T X → chkBs n T xs es = true → xs ≠ [] → SW X CL W (.BoolOp .And xs pos) (fun ρ => (evN Γ ρ es).bind truD) ∧ SW X CL W (.BoolOp .Or xs pos) (fun ρ => (evO Γ ρ es).bind truD)
  es : ∀ (W : XW) (T : Tc) (X : Cx) (xs : List Expr) (es : Es), VX Γ CL k W T X → chkEs n T xs es = true → SA X CL W xs (fun ρ => evA Γ ρ es) ∧ SAT X CL W xs (fun ρ => evB Γ ρ es) ∧ xs.length = es.len ∧ (∀ pos, xs ≠ [] → SE X CL W (.BoolOp .And xs pos) (fun ρ => evN Γ ρ es) ∧ SE X CL W (.BoolOp .Or xs pos) (fun ρ => evO Γ ρ es)) ∧ (∀ pos, (backTo pos (starEach xs X.env)).any (·.1) = false)
  o : ∀ (W : XW) (T : Tc) (X : Cx) (x : Option Expr) (c : E), VX Γ CL k W T X → chkO n T x c = true → SO X CL W x (fun ρ => (top ρ c (evE Γ ρ c)).bind (slE c))
  t : ∀ (T : Tc) (X : Cx) (xs : List Expr) (c : E), VX Γ CL k W0 T X → chkT n T xs c = true → STs X CL xs (fun ρ => (top ρ c (evE Γ ρ c)).bind truD)
  i : ∀ (W : XW) (T : Tc) (X : Cx) (tu : Bool) (tg x : Expr) (i : I), VX Γ CL k W T X → tgOk tu tg = true → chkI n T tu x i = true → SI X CL W tg x (fun ρ => evI Γ ρ i)
section
variable {Γ : Gam} {CL : ClA} {W : XW} {k n : Nat} {T : Tc} {X : Cx}
theorem snd_zero : Snd Γ CL k 0 := ⟨fun _ _ _ _ _ _ h => by simp [chkE] at h, fun _ _ _ _ _ _ h => by simp [chkB] at h, fun _ _ _ _ _ _ _ h => by simp [chkBs] at h, fun _ _ _ _ _ _ h => by simp [chkEs] at h, fun _ _ _ _ _ _ h => by simp [chkO] at h, fun _ _ _ _ _ h => by simp [chkT] at h, fun _ _ _ _ _ _ _ _ _ h => by simp [chkI] at h⟩
theorem any_false_of {pos : Pos} {x : Expr} {xs : List Expr} {env : Env} (h : noStar x = true) (hx : (backTo pos (starEach xs env)).any (·.1) = false) : (backTo pos (starEach (x :: xs) env)).any (·.1) = false := by
  rw [star_ok h]
  show (false || (backTo pos (starEach xs env)).any (·.1)) = false
  rw [hx]
  rfl
theorem stepEs (S : Snd Γ CL k n) (W : XW) (T : Tc) (X : Cx) (xs : List Expr) (es : Es) (v : VX Γ CL k W T X) (h : chkEs (n + 1) T xs es = true) : SA X CL W xs (fun ρ => evA Γ ρ es) ∧ SAT X CL W xs (fun ρ => evB Γ ρ es) ∧ xs.length = es.len ∧ (∀ pos, xs ≠ [] → SE X CL W (.BoolOp .And xs pos) (fun ρ => evN Γ ρ es) ∧ SE X CL W (.BoolOp .Or xs pos) (fun ρ => evO Γ ρ es)) ∧ (∀ pos, (backTo pos (starEach xs X.env)).any (·.1) = false) := by
  cases xs with
  | nil =>
    cases es with
    | nil => exact ⟨sa_nil, sat_nil, rfl, fun _ z => absurd rfl z, fun _ => rfl⟩
    | cons => simp [chkEs] at h
  | cons x xs =>
    cases es with
    | nil => simp [chkEs] at h
    | cons e es =>
      simp only [chkEs, Bool.and_eq_true] at h
      obtain ⟨⟨h0, h1⟩, h2⟩ := h
      have he := S.e W T X x e v h1
      obtain ⟨a1, a2, a3, a4, a5⟩ := S.es W T X xs es v h2
      refine ⟨sa_cons he.se a1 (star_ok h0), sat_cons he.st a2 (star_ok h0), congrArg (· + 1) a3, fun pos _ => ?_, fun pos => any_false_of h0 (a5 pos)⟩
      cases xs with
      | nil =>
        cases es with
        | nil => exact ⟨se_one he.se, se_one he.se⟩
        | cons => cases a3
      | cons y ys =>
        cases es with
        | nil => cases a3
        | cons e' es' =>
          obtain ⟨b1, b2⟩ := a4 pos (by simp)
          exact ⟨se_and he.se b1, se_or he.se b2⟩
theorem stepO (S : Snd Γ CL k n) (W : XW) (T : Tc) (X : Cx) (x : Option Expr) (c : E) (v : VX Γ CL k W T X) (h : chkO (n + 1) T x c = true) : SO X CL W x (fun ρ => (top ρ c (evE Γ ρ c)).bind (slE c)) := by
  cases x with
  | none =>
    simp only [chkO] at h
    split at h
    · exact so_none
    · cases h
  | some x =>
    simp only [chkO] at h
    split at h
    · cases h
    · rename_i hne
      have q := so_some (S.e W T X x c v h).st
      have e : slE c = fun d => (asInt d).bind fun i => .ok (some i) := by
        funext d
        cases c <;> first | rfl | exact absurd rfl hne
      rw [e]
      exact q
theorem stepT (S : Snd Γ CL k n) (T : Tc) (X : Cx) (xs : List Expr) (c : E) (v : VX Γ CL k W0 T X) (h : chkT (n + 1) T xs c = true) : STs X CL xs (fun ρ => (top ρ c (evE Γ ρ c)).bind truD) := by
  cases xs with
  | nil =>
    simp only [chkT] at h
    split at h
    · exact sts_nil
    · cases h
  | cons x xs =>
    cases xs with
    | nil =>
      simp only [chkT] at h
      exact sts_one (S.b W0 T X x c v h)
    | cons y ys => simp [chkT] at h
theorem stepI (S : Snd Γ CL k n) (W : XW) (T : Tc) (X : Cx) (tu : Bool) (tg x : Expr) (i : I) (v : VX Γ CL k W T X) (ht' : tgOk tu tg = true) (h : chkI (n + 1) T tu x i = true) : SI X CL W tg x (fun ρ => evI Γ ρ i) := by
  have ht : tu = true → isTup tg = true := fun z => by
    subst z
    cases tg <;> first | rfl | cases ht'
  cases i with
  | e a =>
    simp only [chkI] at h
    exact si_e (S.e W T X x a v h).se
  | rng a =>
    simp only [chkI] at h
    split at h
    · simp only [Bool.and_eq_true, beq_iff_eq] at h
      obtain ⟨⟨⟨rfl, h1⟩, h2⟩, h3⟩ := h
      obtain ⟨g1, g2, _, _⟩ := isB_ok v h1
      exact si_rng (S.e W T X _ a v h3).st g1 g2 (star_ok h2)
    · cases h
  | rng2 a b =>
    simp only [chkI] at h
    split at h
    · simp only [Bool.and_eq_true, beq_iff_eq] at h
      obtain ⟨⟨⟨⟨⟨rfl, h1⟩, h2⟩, h3⟩, h4⟩, h5⟩ := h
      obtain ⟨g1, g2, _, _⟩ := isB_ok v h1
      exact si_rng2 (S.e W T X _ a v h4).st (S.e W T X _ b v h5).st g1 g2 (by rw [star_ok h2, star_ok h3]; rfl) (by rw [star_ok h3]; rfl)
    · cases h
  | zip a b => simp [chkI] at h
  | zip3 a b c =>
    simp only [chkI] at h
    split at h
    · simp only [Bool.and_eq_true, beq_iff_eq, Bool.not_eq_true'] at h
      obtain ⟨⟨⟨⟨⟨⟨⟨⟨h0, rfl⟩, h1⟩, h2⟩, h3⟩, h4⟩, h5⟩, h6⟩, h7⟩ := h
      obtain ⟨g1, g2, _, _⟩ := isB_ok v h1
      subst h0
      cases tg with
      | Name x tp => exact si_zip3 (S.e W T X _ a v h5).se (S.e W T X _ b v h6).se (S.e W T X _ c v h7).se g1 g2 (by rw [star_ok h2, star_ok h3, star_ok h4]; rfl) (by rw [star_ok h3, star_ok h4]; rfl) (by rw [star_ok h4]; rfl)
      | _ => cases ht'
    · cases h
  | enm a => simp [chkI] at h
theorem ite_kind {c : Prop} [Decidable c] {b : Bool} : (if c then R.ok (D.bl b) else .bad) = .bad ∨ ∃ b', (if c then R.ok (D.bl b) else .bad) = .ok (.bl b') := by
  by_cases h : c
  · rw [if_pos h]; exact .inr ⟨_, rfl⟩
  · rw [if_neg h]; exact .inl rfl
theorem cmp_kind (op : CmpOp) (d d' : D) : cmpD op d d' = .bad ∨ ∃ b, cmpD op d d' = .ok (.bl b) := by
  cases op with
  | Eq => exact ite_kind
  | NotEq => exact ite_kind
  | In =>
    cases d' with
    | lst ys => exact ite_kind
    | tup ys => exact ite_kind
    | dic kvs =>
      show (match keyD d with | some k => R.ok (D.bl (kvs.any fun p => p.1 == k)) | none => .bad) = .bad ∨ ∃ b, (match keyD d with | some k => R.ok (D.bl (kvs.any fun p => p.1 == k)) | none => .bad) = .ok (.bl b)
      cases keyD d with
      | some k => exact .inr ⟨_, rfl⟩
      | none => exact .inl rfl
    | _ => cases d <;> exact .inl rfl
  | NotIn =>
    cases d' with
    | lst ys => exact ite_kind
    | tup ys => exact ite_kind
    | _ => cases d <;> exact .inl rfl
  | Is =>
    cases d' with
    | non => cases d <;> first | exact .inr ⟨_, rfl⟩ | exact .inl rfl
    | _ => cases d <;> first | exact .inl rfl | exact .inr ⟨_, rfl⟩
  | IsNot =>
    cases d' with
    | non => cases d <;> first | exact .inr ⟨_, rfl⟩ | exact .inl rfl
    | _ => cases d <;> first | exact .inl rfl | exact .inr ⟨_, rfl⟩
  | _ =>
    cases d with
    | int i => cases d' <;> first | exact .inr ⟨_, rfl⟩ | exact .inl rfl
    | _ => exact .inl rfl
theorem cmp_tru (op : CmpOp) (d d' : D) : (cmpD op d d').bind truD = .bad ∨ (cmpD op d d').bind truD = (cmpD op d d').bind asBl := by
  rcases cmp_kind op d d' with h | ⟨b, h⟩
  · rw [h]; exact .inl rfl
  · rw [h]; exact .inr rfl
theorem bs_rfN (e e' : E) (es : Es) : Rf (fun ρ => (evN Γ ρ (.cons e (.cons e' es))).bind truD) (fun ρ => ((top ρ e (evE Γ ρ e)).bind truD).bind fun c => if c = true then (evN Γ ρ (.cons e' es)).bind truD else .ok false) := fun ρ => by
  have e0 : evN Γ ρ (.cons e (.cons e' es)) = (evE Γ ρ e).bind fun x => (asBl x).bind fun c => if c = true then evN Γ ρ (.cons e' es) else .ok (.bl false) := rfl
  dsimp only
  rw [e0]
  rcases top_rf Γ e ρ with z | z <;> dsimp only at z
  · rw [z]; exact .inl rfl
  · rw [← z]
    cases evE Γ ρ e with
    | bad => exact .inl rfl
    | exn x => exact .inr rfl
    | ok d =>
      cases d with
      | bl b => cases b <;> exact .inr rfl
      | _ => exact .inl rfl
theorem bs_rfO (e e' : E) (es : Es) : Rf (fun ρ => (evO Γ ρ (.cons e (.cons e' es))).bind truD) (fun ρ => ((top ρ e (evE Γ ρ e)).bind truD).bind fun c => if c = true then .ok true else (evO Γ ρ (.cons e' es)).bind truD) := fun ρ => by
  have e0 : evO Γ ρ (.cons e (.cons e' es)) = (evE Γ ρ e).bind fun x => (asBl x).bind fun c => if c = true then .ok (.bl true) else evO Γ ρ (.cons e' es) := rfl
  dsimp only
  rw [e0]
  rcases top_rf Γ e ρ with z | z <;> dsimp only at z
  · rw [z]; exact .inl rfl
  · rw [← z]
    cases evE Γ ρ e with
    | bad => exact .inl rfl
    | exn x => exact .inr rfl
    | ok d =>
      cases d with
      | bl b => cases b <;> exact .inr rfl
      | _ => exact .inl rfl
theorem Rf.tru (e : E) : Rf (fun ρ => (evE Γ ρ e).bind truD) (fun ρ => (top ρ e (evE Γ ρ e)).bind truD) := fun ρ => by
  rcases top_rf Γ e ρ with z | z <;> dsimp only at z ⊢
  · rw [z]; exact .inl rfl
  · rw [← z]; exact .inr rfl
theorem stepBs (S : Snd Γ CL k n) (W : XW) (T : Tc) (X : Cx) (xs : List Expr) (es : Es) (pos : Pos) (v : VX Γ CL k W T X) (h : chkBs (n + 1) T xs es = true) (hne : xs ≠ []) : SW X CL W (.BoolOp .And xs pos) (fun ρ => (evN Γ ρ es).bind truD) ∧ SW X CL W (.BoolOp .Or xs pos) (fun ρ => (evO Γ ρ es).bind truD) := by
  cases xs with
  | nil => exact absurd rfl hne
  | cons x xs =>
    cases es with
    | nil => simp [chkBs] at h
    | cons e es =>
      simp only [chkBs, Bool.and_eq_true] at h
      obtain ⟨h1, h2⟩ := h
      have he := S.b W T X x e v h1
      cases xs with
      | nil =>
        cases es with
        | nil => exact ⟨SW.ref (sw_and1 he) (Rf.tru e), SW.ref (sw_or1 he) (Rf.tru e)⟩
        | cons =>
          cases n with
          | zero => simp [chkBs] at h2
          | succ n => simp [chkBs] at h2
      | cons y ys =>
        cases es with
        | nil =>
          cases n with
          | zero => simp [chkBs] at h2
          | succ n => simp [chkBs] at h2
        | cons e' es' =>
          obtain ⟨b1, b2⟩ := S.bs W T X (y :: ys) (.cons e' es') pos v h2 (by simp)
          exact ⟨SW.ref (sw_and he b1) (bs_rfN e e' es'), SW.ref (sw_or he b2) (bs_rfO e e' es')⟩
theorem stepB (S : Snd Γ CL k n) (W : XW) (T : Tc) (X : Cx) (x : Expr) (c : E) (v : VX Γ CL k W T X) (h : chkB (n + 1) T x c = true) : SB X CL W x (fun ρ => (top ρ c (evE Γ ρ c)).bind truD) := by
  have plain : ∀ e, plainTest e = true → chkE n T e c = true → SB X CL W e (fun ρ => (top ρ c (evE Γ ρ c)).bind truD) := fun e h1 h2 => sb_val (S.e W T X e c v h2).st (test_ok h1)
  simp only [chkB] at h
  split at h
  · split at h
    · rename_i a
      refine SB.ref (sb_not (S.b W T X _ a v h)) fun ρ => ?_
      show ((top ρ a (evE Γ ρ a)).bind fun x => (asBl x).bind fun b => .ok (.bl (!b))).bind truD = .bad ∨ ((top ρ a (evE Γ ρ a)).bind fun x => (asBl x).bind fun b => .ok (.bl (!b))).bind truD = _
      cases top ρ a (evE Γ ρ a) with
      | bad => exact .inl rfl
      | exn x => exact .inr rfl
      | ok d => cases d <;> first | exact .inr rfl | exact .inl rfl
    · cases h
  · split at h
    · simp only [Bool.and_eq_true, Bool.not_eq_true', List.isEmpty_eq_false_iff] at h
      exact (S.bs W T X _ _ _ v h.1 h.2).1.sb
    · cases h
  · split at h
    · simp only [Bool.and_eq_true, Bool.not_eq_true', List.isEmpty_eq_false_iff] at h
      exact (S.bs W T X _ _ _ v h.1 h.2).2.sb
    · cases h
  · split at h
    · split at h
      · rename_i op a b _ _ op' y
        simp only [Bool.and_eq_true, Bool.not_eq_true', decide_eq_true_eq] at h
        obtain ⟨⟨⟨rfl, h1⟩, h2⟩, h3⟩ := h
        refine SB.ref (sb_cmp (opd_cmp v.room.units _) (S.e W T X _ a v h2).st (S.e W T X _ b v h3).st h1) fun ρ => ?_
        show ((top ρ a (evE Γ ρ a)).bind fun x => (top ρ b (evE Γ ρ b)).bind fun y => cmpD op' x y).bind truD = .bad ∨ ((top ρ a (evE Γ ρ a)).bind fun x => (top ρ b (evE Γ ρ b)).bind fun y => cmpD op' x y).bind truD = _
        cases top ρ a (evE Γ ρ a) with
        | bad => exact .inl rfl
        | exn x => exact .inr rfl
        | ok d =>
          cases top ρ b (evE Γ ρ b) with
          | bad => exact .inl rfl
          | exn x => exact .inr rfl
          | ok d' =>
            dsimp only [R.bind]
            exact cmp_tru _ d d'
      · cases h
    · split at h
      · rename_i op1 op2 a b c _ _ o1 o2 y z
        simp only [Bool.and_eq_true, Bool.not_eq_true', decide_eq_true_eq] at h
        obtain ⟨⟨⟨⟨⟨rfl, rfl⟩, h1⟩, h2⟩, h3⟩, h4⟩ := h
        refine SB.ref (sb_chain v.room.units (S.e W T X _ a v h2).st (S.e W T X _ b v h3).st (S.e W T X _ c v h4).st h1) fun ρ => ?_
        show ((top ρ a (evE Γ ρ a)).bind fun x => (top ρ b (evE Γ ρ b)).bind fun y => (cmpD o1 x y).bind fun z => (asBl z).bind fun k => if k = true then (top ρ c (evE Γ ρ c)).bind fun u => cmpD o2 y u else .ok (.bl false)).bind truD = .bad ∨ ((top ρ a (evE Γ ρ a)).bind fun x => (top ρ b (evE Γ ρ b)).bind fun y => (cmpD o1 x y).bind fun z => (asBl z).bind fun k => if k = true then (top ρ c (evE Γ ρ c)).bind fun u => cmpD o2 y u else .ok (.bl false)).bind truD = _
        cases top ρ a (evE Γ ρ a) with
        | bad => exact .inl rfl
        | exn x => exact .inr rfl
        | ok d =>
          cases top ρ b (evE Γ ρ b) with
          | bad => exact .inl rfl
          | exn x => exact .inr rfl
          | ok d' =>
            dsimp only [R.bind]
            cases cmpD o1 d d' with
            | bad => exact .inl rfl
            | exn x => exact .inr rfl
            | ok d3 =>
              cases d3 with
              | bl k =>
                cases k with
                | false => exact .inr rfl
                | true =>
                  dsimp only [R.bind, asBl]
                  rw [if_pos rfl, if_pos rfl]
                  cases top ρ c (evE Γ ρ c) with
                  | bad => exact .inl rfl
                  | exn x => exact .inr rfl
                  | ok d4 => exact cmp_tru _ d' d4
              | _ => exact .inl rfl
      · cases h
    · cases h
  · simp only [Bool.and_eq_true] at h
    exact plain _ h.1 h.2
end
end Ov
end
section
set_option Elab.async false
set_option linter.all false
set_option maxRecDepth 100000
set_option maxHeartbeats 4000000
namespace Ov
open PySem PySem.Spec PyProof.Rows L2
section
variable {Γ : Gam} {CL : ClA} {W : XW} {k n : Nat} {T : Tc} {X : Cx}
theorem bi_ok {b : BI} {g : Str} {p pos : Pos} {x : Expr} {xs : List Expr} {as : Es} (v : VX Γ CL k W T X) (hb : nameB b = some g) (hg : isB T g = true) (hs : SAT X CL W (x :: xs) (fun ρ => evB Γ ρ as)) (h0 : noStar x = true) (hpl : ∀ pos, (backTo pos (starEach xs X.env)).any (·.1) = false) : OkE Γ CL W X (.Call (.Name g p) (x :: xs) [] pos) (.bi b as) := by
  obtain ⟨g1, g2, g3, g4⟩ := isB_ok v hg
  cases b <;> simp only [nameB] at hb <;> cases hb
  · exact okE_of (se_biB cd_len g1 g2 PySem.boot_len hs g3 g4 (star_ok h0) hpl) (fun _ _ => rfl) rfl rfl
  · exact okE_of (se_biB (cd_max v.calm) g1 g2 PyProof.Rows.boot_max hs g3 g4 (star_ok h0) hpl) (fun _ _ => rfl) rfl rfl
  · exact okE_of (se_biB (cd_min v.calm) g1 g2 PyProof.Rows.boot_min hs g3 g4 (star_ok h0) hpl) (fun _ _ => rfl) rfl rfl
  · exact okE_of (se_biT cd_int g1 g2 PyProof.Rows.boot_int hs g3 g4 (star_ok h0) hpl) (fun _ _ => rfl) rfl rfl
  · exact okE_sc (sn_biT cn_list g1 g2 PyProof.Rows.boot_list hs g3 g4 (star_ok h0) hpl) (fun _ _ => rfl) rfl
  · exact okE_of (se_biT cd_tuple g1 g2 PyProof.Rows.boot_tuple hs g3 g4 (star_ok h0) hpl) (fun _ _ => rfl) rfl rfl
  · exact okE_of (se_biB (cd_all v.calm) g1 g2 PyProof.Rows.boot_all hs g3 g4 (star_ok h0) hpl) (fun _ _ => rfl) rfl rfl
theorem inX_of {l : List (Str × Nat)} {g : Str} {c : Nat} (h : inX l g c = true) : (g, c) ∈ l := by
  unfold inX at h
  simp only [List.any_eq_true, Bool.and_eq_true, beq_iff_eq] at h
  obtain ⟨p, hp, rfl, rfl⟩ := h
  exact hp
theorem chkEs_head {x : Expr} {xs : List Expr} {es : Es} (h : chkEs n T (x :: xs) es = true) : noStar x = true ∧ ∃ e es', es = .cons e es' ∧ ∃ m, n = m + 1 ∧ chkEs m T xs es' = true := by
  cases n with
  | zero => simp [chkEs] at h
  | succ m =>
    cases es with
    | nil => simp [chkEs] at h
    | cons e es =>
      simp only [chkEs, Bool.and_eq_true] at h
      exact ⟨h.1.1, e, es, rfl, m, rfl, h.2⟩
theorem chkEs_star {X : Cx} : ∀ (m : Nat) (xs : List Expr) (es : Es), chkEs m T xs es = true → ∀ pos, (backTo pos (starEach xs X.env)).any (·.1) = false := by
  intro m
  induction m with
  | zero => intro xs es h; simp [chkEs] at h
  | succ m ih =>
    intro xs es h pos
    cases xs with
    | nil => rfl
    | cons x xs =>
      obtain ⟨h0, e, es', rfl, m', e1, h1⟩ := chkEs_head h
      cases e1
      exact any_false_of h0 (ih xs es' h1 pos)
theorem cnt_ok {x : Expr} {b : BI} {as : Es} (v : VX Γ CL k W T X) (h : cntE T x b as = true) : OkE Γ CL W X x (.bi b as) := by
  exact absurd h Bool.false_ne_true
theorem stp_ok (S : Snd Γ CL k n) {x : Expr} {b : BI} {as : Es} (v : VX Γ CL k W T X) (h : (match asStp as with | some (a, k) => (match stpX x with | some (y, j) => decide (b = .stp) && decide (j = k) && decide (0 ≤ k) && chkE n T y a | none => false) | none => false) = true) : OkE Γ CL W X x (.bi b as) := by
  cases q1 : asStp as with
  | none => rw [q1] at h; cases h
  | some t =>
    obtain ⟨a, m⟩ := t
    cases q2 : stpX x with
    | none => rw [q1, q2] at h; cases h
    | some t2 =>
      obtain ⟨y, j⟩ := t2
      rw [q1, q2] at h
      simp only [Bool.and_eq_true, decide_eq_true_eq] at h
      obtain ⟨⟨⟨rfl, rfl⟩, h0⟩, h1⟩ := h
      obtain ⟨u1, p1, u2, p2, p3, pos, rfl⟩ := stpX_eq q2
      rw [asStp_eq q1]
      obtain ⟨m, rfl⟩ := Int.eq_ofNat_of_zero_le h0
      refine okE_of (SE.congr (se_stp (k := m) (S.e W T X _ a v h1).st) fun ρ => ?_) (fun _ _ => rfl) rfl rfl
      simp only [evE_bi, evB, R.bind_assoc, R.bind_ok, top_int, evE_int]
theorem lrg_ok (S : Snd Γ CL k n) {x : Expr} {b : BI} {as : Es} (v : VX Γ CL k W T X) (h : (match asLrg as with | some (a, c) => (match lrgE x with | some (g, h, y, z) => decide (b = .list) && g == ("list" : Str) && h == ("range" : Str) && isB T g && isB T h && noStar y && noStar z && chkE n T y a && chkE n T z c | none => false) | none => false) = true) : OkE Γ CL W X x (.bi b as) := by
  simp [asLrg] at h
theorem stepE (S : Snd Γ CL k n) (W : XW) (T : Tc) (X : Cx) (x : Expr) (c : E) (v : VX Γ CL k W T X) (h : chkE (n + 1) T x c = true) : OkE Γ CL W X x c := by
  cases c with
  | non =>
    simp only [chkE] at h
    split at h
    · exact okE_of se_non (fun _ _ => rfl) rfl rfl
    · cases h
  | bl b =>
    simp only [chkE] at h
    split at h
    · have e := eq_of_beq h
      subst e
      exact okE_of se_bl (fun _ _ => rfl) rfl rfl
    · cases h
  | int i =>
    simp only [chkE] at h
    split at h
    · have e := of_decide_eq_true h
      subst e
      exact okE_of se_int (fun _ _ => rfl) rfl rfl
    · cases h
  | str i =>
    simp only [chkE] at h
    split at h
    · have e := of_decide_eq_true h
      subst e
      exact okE_of se_str (fun _ _ => rfl) rfl rfl
    · cases h
  | var i =>
    simp only [chkE] at h
    split at h
    · exact ⟨se_var (isV_ok v h), st_var (isV_ok v h), fun z => (nomatch z), fun z => (nomatch z)⟩
    · cases h
  | glob g => simp [chkE] at h
  | bin op a b =>
    simp only [chkE] at h
    split at h
    · simp only [Bool.and_eq_true, decide_eq_true_eq] at h
      obtain ⟨⟨rfl, h1⟩, h2⟩ := h
      have ha := (S.e W T X _ a v h1).st
      have hb := (S.e W T X _ b v h2).st
      refine ⟨se_bin (opd_bin _) ha hb, (se_bin (opd_bin _) ha hb).st, fun z => ?_, fun z => nomatch z⟩
      rename_i op' _ _
      cases op' <;> first | exact sn_add ha hb | cases z
    · cases h
  | un op a => simp [chkE] at h
  | no a =>
    simp only [chkE] at h
    split at h
    · exact okE_of (se_not (S.e W T X _ a v h).st) (fun _ _ => rfl) rfl rfl
    · cases h
  | and es =>
    simp only [chkE] at h
    split at h
    · simp only [Bool.and_eq_true, Bool.not_eq_true', List.isEmpty_eq_false_iff] at h
      exact okE_of ((S.es W T X _ es v h.1).2.2.2.1 _ h.2).1 (fun _ _ => rfl) rfl rfl
    · cases h
  | or es =>
    simp only [chkE] at h
    split at h
    · simp only [Bool.and_eq_true, Bool.not_eq_true', List.isEmpty_eq_false_iff] at h
      exact okE_of ((S.es W T X _ es v h.1).2.2.2.1 _ h.2).2 (fun _ _ => rfl) rfl rfl
    · cases h
  | cmp op a b =>
    simp only [chkE] at h
    split at h
    · simp only [Bool.and_eq_true, Bool.not_eq_true', decide_eq_true_eq] at h
      obtain ⟨⟨⟨rfl, h1⟩, h2⟩, h3⟩ := h
      exact okE_of (se_cmp (opd_cmp v.room.units _) (S.e W T X _ a v h2).st (S.e W T X _ b v h3).st h1) (fun _ _ => rfl) rfl rfl
    · cases h
  | cmp2 op1 op2 a b c =>
    simp only [chkE] at h
    split at h
    · simp only [Bool.and_eq_true, Bool.not_eq_true', decide_eq_true_eq] at h
      obtain ⟨⟨⟨⟨⟨rfl, rfl⟩, h1⟩, h2⟩, h3⟩, h4⟩ := h
      exact okE_of (se_chain v.room.units (S.e W T X _ a v h2).st (S.e W T X _ b v h3).st (S.e W T X _ c v h4).st h1) (fun _ _ => rfl) rfl rfl
    · cases h
  | ite c a b => simp [chkE] at h
  | call f as =>
    simp only [chkE] at h
    split at h
    · rename_i g pp y ys qq
      simp only [Bool.and_eq_true, List.any_eq_true, beq_iff_eq, decide_eq_true_eq] at h
      obtain ⟨⟨⟨⟨⟨p, hp, ⟨rfl, rfl⟩, hl⟩, h900⟩, h1⟩, h2⟩, h3⟩ := h
      obtain ⟨fa, fd, ps, m1, m2, m3, m4, m5, _⟩ := v.fn p hp
      have hlt : p.2.2 < 1000 := by omega
      rw [Nat.mod_eq_of_lt hlt] at m4 m5
      have m5 := m5 hlt
      obtain ⟨n2, n3, n4⟩ := namB_ok h2
      obtain ⟨a1, a2, a3, a4, a5⟩ := S.es W T X _ as v h3
      obtain ⟨s0, e, es', rfl, m, rfl, s1⟩ := chkEs_head h3
      have q : SC X CL W (Γ.fr p.2.1) (.Call (.Name p.1 pp) (y :: ys) [] qq) (fun ρ => evE Γ ρ (.call p.2.1 (.cons e es'))) := sc_call (sh := fun ρ => shEs ρ (.cons e es')) m5 v.room (by unfold glB at h1; show X.env.scope.names.lookup p.1 = _; rw [v.sc]; exact eq_of_beq h1) m1 m2 m3 v.px a1 a2 (fun ρ z => evB_sh Γ ρ _ z) (fun ρ ds z => by rw [evB_len Γ ρ _ _ z, ← a3, hl]; rfl) n2 (star_ok s0) (chkEs_star m ys es' s1)
      exact ⟨q.se, q.se.st, fun z => by
        have z' : Γ.fr p.2.1 = true := z
        rw [z'] at q
        exact q, fun z => nomatch z⟩
    · cases h
  | bi b as =>
    simp only [chkE, Bool.or_eq_true] at h
    rcases h with ((h | h) | h) | h
    · split at h
      · simp only [Bool.and_eq_true, beq_iff_eq] at h
        obtain ⟨⟨h1, h2⟩, h3⟩ := h
        obtain ⟨s0, e, es', rfl, m, rfl, s1⟩ := chkEs_head h3
        exact bi_ok v h1 h2 (S.es W T X _ _ v h3).2.1 s0 (chkEs_star m _ es' s1)
      · cases h
    · exact cnt_ok v h
    · exact lrg_ok S v h
    · exact stp_ok S v h
  | isi a ks =>
    cases ks with
    | nil => simp [chkE] at h
    | cons k' ks =>
      cases ks with
      | cons => simp [chkE] at h
      | nil =>
        simp only [chkE] at h
        split at h
        · simp only [Bool.and_eq_true, beq_iff_eq] at h
          obtain ⟨⟨⟨⟨⟨rfl, h1⟩, h2⟩, h3⟩, h4⟩, h5⟩ := h
          obtain ⟨g1, g2, _, _⟩ := isB_ok v h1
          obtain ⟨b1, b2, b3, b4⟩ := isB_ok v h3
          obtain ⟨ty, t1, t2⟩ := bootK h2
          exact okE_of (se_isi t1 g1 g2 b1 b2 t2 b3 b4 (S.e W T X _ a v h5).st (star_ok h4)) (fun _ _ => rfl) rfl rfl
        · cases h
  | idx a i =>
    simp only [chkE] at h
    split at h
    · simp only [Bool.and_eq_true] at h
      obtain ⟨⟨h1, h2⟩, h3⟩ := h
      exact okE_of (se_idx (slice_ok h1) (S.e W T X _ a v h2).st (S.e W T X _ i v h3).st) (fun _ _ => rfl) rfl rfl
    · cases h
  | sl a lo hi =>
    simp only [chkE] at h
    split at h
    · simp only [Bool.and_eq_true] at h
      obtain ⟨⟨h1, h2⟩, h3⟩ := h
      refine okE_sc (SC.congr (sn_sl (S.e W T X _ a v h1).st (S.o W T X _ lo v h2) (S.o W T X _ hi v h3)) fun ρ => ?_) (fun _ _ => rfl) rfl
      show ((top ρ a (evE Γ ρ a)).bind fun x => (top ρ lo (evE Γ ρ lo)).bind fun l => (slE lo l).bind fun l' => (top ρ hi (evE Γ ρ hi)).bind fun h => (slE hi h).bind fun h' => slD x l' h') = _
      simp only [R.bind_assoc]
    · cases h
  | tup es =>
    simp only [chkE] at h
    split at h
    · simp only [Bool.and_eq_true, decide_eq_true_eq] at h
      have q := S.es W T X _ es v h.1
      exact okE_of (se_tup q.1 fun ρ ds z => by rw [evA_len Γ ρ _ _ z, ← q.2.2.1]; omega) (fun _ _ => rfl) rfl rfl
    · cases h
  | lst es =>
    simp only [chkE] at h
    split at h
    · simp only [Bool.and_eq_true, decide_eq_true_eq] at h
      have q := S.es W T X _ es v h.1
      exact okE_sc (sn_lst q.1 fun ρ ds z => by rw [evA_len Γ ρ _ _ z, ← q.2.2.1]; omega) (fun _ _ => rfl) rfl
    · cases h
  | comp elt t it c =>
    simp only [chkE] at h
    split at h
    · simp only [Bool.and_eq_true] at h
      obtain ⟨⟨⟨⟨⟨h1, h2⟩, h3⟩, h4⟩, h5⟩, h6⟩ := h
      refine okE_p v.calm ⟨_, _, _, _, _, _, _, _, _, _, _, _, _, rfl, (blk_ok v h3).1, S.i W T X false _ _ it v rfl h1, gg_name t, fun cl C s H fp => tgO_one (v.blk h3) (fun z => beq_iff_eq.mpr z) h4, fun cl C s H fp => S.t _ _ _ c (v.blk h3) h5, fun cl C s H fp => (S.e W0 _ _ _ elt (v.blk h3) h6).se, set_ok h2, fun ρ => rfl⟩ (fun _ _ => rfl)
    · cases h
  | compT elt ts it c => simp [chkE] at h
  | tupI it =>
    cases it with
    | zip3 a b c =>
      simp only [chkE] at h
      cases q : colE x with
      | none => rw [q] at h; cases h
      | some t =>
        obtain ⟨g, f, y1, y2, y3⟩ := t
        rw [q] at h
        simp only [Bool.and_eq_true, beq_iff_eq] at h
        obtain ⟨⟨⟨⟨⟨⟨⟨⟨⟨rfl, rfl⟩, h1⟩, h2⟩, h3⟩, h4⟩, h5⟩, h6⟩, h7⟩, h8⟩ := h
        obtain ⟨p, p', pos, pos', rfl⟩ := colE_eq q
        obtain ⟨g1, g2, _, _⟩ := isB_ok v h1
        obtain ⟨g3, g4, _, _⟩ := isB_ok v h2
        exact okE_of (se_col (S.e W T X _ a v h6).se (S.e W T X _ b v h7).se (S.e W T X _ c v h8).se v.calm g1 g2 g3 g4 (by rw [star_ok h3, star_ok h4, star_ok h5]; rfl) (by rw [star_ok h4, star_ok h5]; rfl) (by rw [star_ok h5]; rfl)) (fun _ _ => rfl) rfl rfl
    | _ => simp [chkE] at h
  | dnew => simp [chkE] at h
  | fld o f => simp [chkE] at h
theorem snd : ∀ n, Snd Γ CL k n
  | 0 => snd_zero
  | n + 1 => ⟨stepE (snd n), stepB (snd n), stepBs (snd n), stepEs (snd n), stepO (snd n), stepT (snd n), stepI (snd n)⟩
end
end Ov
end
section
set_option Elab.async false
set_option linter.all false
set_option maxRecDepth 100000
set_option maxHeartbeats 4000000
namespace Ov
open PySem PySem.Spec PyProof.Rows L2
section
variable {Γ : Gam} {CL : ClA} {W : XW} {k n : Nat} {T : Tc} {X : Cx}
theorem tgC_one {t : Nat} {x : Str} {pos : Pos} (v : VX Γ CL k W T X) (hf : ∀ x, X.fn x = true) (h : tgC T [t] [x] = true) : PG X (.Name x pos) (gName t) := by
  unfold tgC at h
  simp only [Bool.and_eq_true, beq_iff_eq] at h
  exact pg_name (by rw [v.N]; exact v.nd) (by rw [v.N]; exact h.1.1) (by rw [v.sc]; exact locB_ok h.1.2) (.inl (hf x))
theorem tgC_all (v : VX Γ CL k W T X) (hf : ∀ x, X.fn x = true) : ∀ (ys : List Expr) (ts : List Nat) (zs : List Str), tgNames ys = some zs → tgC T ts zs = true → PGs X ys (ts.foldr (fun t u => gCons (gName t) u) gNil) ∧ ts.length = ys.length := by
  intro ys
  induction ys with
  | nil =>
    intro ts zs e h
    cases e
    cases ts with
    | nil => exact ⟨pgs_nil, rfl⟩
    | cons t ts => cases h
  | cons y r ih =>
    intro ts zs e h
    obtain ⟨x, p, ws, rfl, e2, rfl⟩ := tgNames_cons e
    cases ts with
    | nil => cases h
    | cons t ts =>
      have h' : (T.N[t]? == some x && locB T x && tgC T ts ws) = true := h
      simp only [Bool.and_eq_true, beq_iff_eq] at h'
      obtain ⟨h1, h2⟩ := ih ts ws e2 h'.2
      exact ⟨pgs_cons (pg_name (by rw [v.N]; exact v.nd) (by rw [v.N]; exact h'.1.1) (by rw [v.sc]; exact locB_ok h'.1.2) (.inl (hf x))) h1 (by rw [each_name]; rfl), congrArg (· + 1) h2⟩
theorem tgC_tup {ts : List Nat} {ys : List Expr} {kk : Nat} {pos : Pos} (v : VX Γ CL k W T X) (hf : ∀ x, X.fn x = true) (hn : (tgNames ys).isSome = true) (h : tgC T ts (tgN ys) = true) : PG X (.Tuple ys kk pos) (gTup X.K ts.length (ts.foldr (fun t u => gCons (gName t) u) gNil)) := by
  cases e : tgNames ys with
  | none => rw [e] at hn; cases hn
  | some zs =>
    have e2 : tgN ys = zs := by unfold tgN; rw [e]; rfl
    rw [e2] at h
    obtain ⟨h1, h2⟩ := tgC_all v hf ys ts zs e h
    obtain ⟨h3, h4, _⟩ := tgNames_each (env := X.env) ys zs e
    exact pg_tup v.calm h1 (by rw [h3, h2]) h4
theorem asgAll_nex (ts : List Nat) : ∀ d ρ x, asgAll ts d ρ ≠ .exn x := fun d ρ x h => by
  unfold asgAll at h
  cases d with
  | tup xs =>
    dsimp only at h
    cases e : setAll ts xs ρ with
    | some r => rw [e] at h; cases h
    | none => rw [e] at h; cases h
  | _ => cases h
theorem swp_comp {elt : Expr} {gs : List Comprehension} {scope : Scope} {pos pos' : Pos} {x : Str} {l : Nat} {env : Env} : ∃ b, swapsWith (.ListComp elt gs scope pos) (some (.Name x pos')) l env = pure b ∧ (b = true → env.scope.names.lookup x = some .local) := by
  refine ⟨_, rfl, fun h => ?_⟩
  simp only [Bool.and_eq_true, beq_iff_eq] at h
  exact h.1.1.2
theorem sas_ok {x : Str} {p pos : Pos} {v0 : Expr} {i : Nat} {e : E} {fr : Bool} (v : VX Γ CL k W T X) (hf : ∀ x, X.fn x = true) (hi : T.N[i]? = some x) (hl : locB T x = true) (o : OkE Γ CL W X v0 e) (hfr : fr = true → newE Γ e = true) : SAs X CL W fr i (.Assign [.Name x p] v0 pos) (fun ρ => evE Γ ρ e) := by
  have hN : X.N.Nodup := by rw [v.N]; exact v.nd
  have hi' : X.N[i]? = some x := by rw [v.N]; exact hi
  have hx : Loc X.env.scope x := by rw [v.sc]; exact locB_ok hl
  have sc : SC X CL W fr v0 (fun ρ => evE Γ ρ e) := by
    cases fr with
    | false => exact o.se.sc
    | true => exact o.nw (hfr rfl)
  cases hc : noComp v0 with
  | true => exact SC.sas hN hi' hx sc (comp_ok hc) (.inl (hf x))
  | false =>
    obtain ⟨tg, iter, elt, ifs, scope, pos2, N', ts, fi, fc, fe, as, g, rfl, B, h2, hGG, hg, ht, he, hs, ef⟩ := o.cp hc
    obtain ⟨b, hb, hb'⟩ := swp_comp (elt := elt) (gs := [⟨tg, iter, ifs, 0⟩]) (scope := scope) (pos := pos2) (pos' := p) (x := x) (l := pos.line) (env := X.env)
    cases b with
    | false => exact SC.sas hN hi' hx sc hb (.inl (hf x))
    | true =>
      have q := sas_comp (pos2 := pos) v.calm B h2 hGG hg ht he hs hN hi' (hb' rfl) hb
      have q' : SAs X CL W true i (.Assign [.Name x p] (.ListComp elt [⟨tg, iter, ifs, 0⟩] scope pos2) pos) (fun ρ => evE Γ ρ e) := by
        have : (fun ρ => evE Γ ρ e) = _ := funext ef
        rw [this]
        exact q
      cases fr with
      | true => exact q'
      | false => exact fun A => PS.weak (q' A) fun D σ H ⟨hA, ρ, gd, z⟩ => ⟨hA, ρ, gd, by
          dsimp only at z ⊢
          cases e0 : evE Γ ρ e with
          | ok d =>
            rw [e0] at z
            exact fun v' H' s' r' => z v' H' s' ⟨r'.1, fun _ => r'.2 rfl⟩
          | exn y => rw [e0] at z; exact z
          | bad => rw [e0] at z; exact z⟩
theorem sole_ok {e t : Expr} {l : Nat} {env : Env} (h : ∀ x p, t ≠ .Name x p) : swapsWithSole [t] e l env = pure false := by
  show swapsWith e (some t) l env = pure false
  cases e <;> first | rfl | (cases t <;> first | rfl | exact absurd rfl (h _ _))
theorem evS_retN' (ρ : Rho) (e : E) (h : ∀ i, e ≠ .var i) : evS Γ ρ (.ret e) = O.of ρ (evE Γ ρ e) fun d => .ret d (newE Γ e) := by
  cases e <;> first | exact absurd rfl (h _) | (simp only [evS, top, Bool.or_false])
structure DefX (X : Cx) : Prop where
  fn : ∀ x, X.fn x = true
  ex : X.ex = []
  st : X.stack = X.env :: X.outer
  fm : X.env.frame = some X.env.locals
structure SndS (Γ : Gam) (CL : ClA) (k : Nat) (n : Nat) : Prop where
  s : ∀ (W : XW) (T : Tc) (X : Cx) (x : Stmt) (c : S), VX Γ CL k W T X → DefX X → chkS n T x c = true → SS X CL W x (fun ρ => evS Γ ρ c)
  ss : ∀ (W : XW) (T : Tc) (X : Cx) (x : List Stmt) (c : Ss), VX Γ CL k W T X → DefX X → chkSs n T x c = true → SSs X CL W x (fun ρ => evSs Γ ρ c)
theorem VX.pw (v : VX Γ CL k W T X) {pins : List (Addr × Obj)} {Xw : Value → Shared → Prop} (own : PassesOwn (model X.prog X.w) X.A X.env Xw) : VX Γ CL k W0 T (Cx.pw X pins Xw) := ⟨v.sc, v.kd, v.N, v.nd, v.calm, v.room, v.bl, v.fn, own, passNo, rzNo, v.xt, v.gl⟩
theorem STB.congr {X : Cx} {CL : ClA} {st : List Stmt} {f g : Rho → O} (h : STB X CL st f) (e : ∀ ρ, g ρ = f ρ) : STB X CL st g := by
  have : g = f := funext e
  rw [this]
  exact h
theorem hot_var {x : Str} {i : Nat} {pos : Pos} {e : Addr} (v : VX Γ CL k W T X) (h : isV T x i = true) : PE (Cx.hot X e) (.Name x pos) (tVar i) := by
  unfold isV at h
  simp only [Bool.and_eq_true, beq_iff_eq] at h
  obtain ⟨h2, h3, _⟩ := namB_ok h.2
  exact pe_var (by show X.N[i]? = _; rw [v.N]; exact h.1.1) (by show Vis X.env.scope x; rw [v.sc]; exact visB_ok h.1.2) h2 h3
theorem he_top {x : Nat} {t : Expr} {c : E} : ∀ {n : Nat}, chkHe n T x t c = true → ∀ ρ r, top ρ c r = r := fun {n} h => by
  cases n with
  | zero => simp [chkHe] at h
  | succ n =>
    cases c with
    | var i => simp [chkHe] at h
    | _ => exact fun _ _ => rfl
theorem clsNs_ok (v : VX Γ CL k W T X) (e : Addr) : ∀ (ts : List Expr) (ks : List Ki), clsNs T ts ks = true → ∃ cs : List (Nat × Addr), ks = cs.map (fun q => Ki.cls q.1) ∧ cs.length = ts.length ∧ PA (Cx.hot X e) ts (tCls (cs.map fun q : Nat × Addr => q.2)) ∧ ∀ q ∈ cs, KitAll X.K CL Γ.up q.1 q.2 := by
  intro ts
  induction ts with
  | nil =>
    intro ks h
    cases ks with
    | nil => exact ⟨[], rfl, rfl, pa_nil, fun q hq => nomatch hq⟩
    | cons k ks => simp [clsNs] at h
  | cons t ts ih =>
    intro ks h
    cases t with
    | Name t p =>
      cases ks with
      | nil => simp [clsNs] at h
      | cons kk ks =>
        cases kk with
        | cls c =>
          simp only [clsNs, Bool.and_eq_true] at h
          obtain ⟨⟨⟨h1, h2⟩, h3⟩, h4⟩ := h
          obtain ⟨cs, e1, e2, e3, e4⟩ := ih ks h4
          obtain ⟨C, m1, m3, _⟩ := v.xt.ex _ (inX_of h1)
          obtain ⟨n2, _, _⟩ := namB_ok h3
          refine ⟨(c, C) :: cs, by rw [e1]; rfl, by rw [List.length_cons, List.length_cons, e2], ?_, fun q hq => ?_⟩
          · exact pa_cons (pe_glob (X := Cx.hot X e) (v := .ref C) (by unfold glB at h2; show X.env.scope.names.lookup t = _; rw [v.sc]; exact eq_of_beq h2) m1 rfl n2) e3 rfl
          · rcases List.mem_cons.mp hq with rfl | hq
            · exact m3
            · exact e4 q hq
        | _ => simp [clsNs] at h
    | _ => simp [clsNs] at h
theorem he_ok (v : VX Γ CL k W T X) (e : Addr) (x : Nat) : ∀ (n : Nat) (t : Expr) (c : E), chkHe n T x t c = true → SE (Cx.hot X e) CL W0 t (fun ρ => evE Γ ρ c) := by
  intro n
  induction n with
  | zero => intro t c h; simp [chkHe] at h
  | succ n ih =>
    intro t c h
    unfold chkHe at h
    split at h
    · split at h
      · have e0 := eq_of_beq h
        subst e0
        exact se_bl
      · cases h
    · split at h
      · rename_i a _ _ _
        have q := (ih _ _ h).st
        refine SE.congr (se_not q) fun ρ => ?_
        show ((top ρ a (evE Γ ρ a)).bind fun x => (asBl x).bind fun b => R.ok (D.bl (!b))) = _
        rw [he_top h]
      · cases h
    · split at h
      · have q := ih _ _ h
        exact SE.congr (se_one q) fun ρ => rfl
      · cases h
    · split at h
      · rw [Bool.and_eq_true] at h
        have q1 := ih _ _ h.1
        have q2 := ih _ _ h.2
        exact SE.congr (se_and q1 q2) fun ρ => rfl
      · cases h
    · split at h
      · simp only [Bool.and_eq_true, beq_iff_eq] at h
        obtain ⟨⟨⟨⟨⟨rfl, rfl⟩, h3⟩, h4⟩, rfl⟩, h6⟩ := h
        obtain ⟨g1, g2, _, _⟩ := isB_ok v h3
        obtain ⟨b1, b2, _, _⟩ := isB_ok v h6
        exact se_isv (X := Cx.hot X e) v.xt.xc g1 g2 b1 b2 (st_var (hot_var v h4)) rfl
      · cases h
    · split at h
      · simp only [Bool.and_eq_true, beq_iff_eq] at h
        obtain ⟨⟨⟨⟨⟨⟨rfl, rfl⟩, h3⟩, h4⟩, h5⟩, h6⟩, h7⟩ := h
        obtain ⟨g1, g2, _, _⟩ := isB_ok v h3
        obtain ⟨C, m1, m3, _⟩ := v.xt.ex _ (inX_of h5)
        obtain ⟨n2, _, _⟩ := namB_ok h7
        exact se_isc (X := Cx.hot X e) v.xt.xc g1 g2 (by unfold glB at h6; show X.env.scope.names.lookup _ = _; rw [v.sc]; exact eq_of_beq h6) m1 m3 n2 (st_var (hot_var v h4)) rfl
      · cases h
    · split at h
      · simp only [Bool.and_eq_true, beq_iff_eq, decide_eq_true_eq] at h
        obtain ⟨⟨⟨⟨⟨rfl, rfl⟩, h3⟩, h4⟩, h5⟩, h6⟩ := h
        obtain ⟨g1, g2, _, _⟩ := isB_ok v h3
        obtain ⟨cs, e1, e2, e3, e4⟩ := clsNs_ok v e _ _ h5
        have hne : cs ≠ [] := by rintro rfl; cases e1
        rw [e1]
        exact se_ist (X := Cx.hot X e) (W := W0) (up := Γ.up) v.xt.xc g1 g2 e3 hne (by rw [e2]; exact h6) e4 (st_var (hot_var v h4)) rfl
      · cases h
    · split at h
      · rename_i f i t0 g p0 w0 p1 p2
        rw [Bool.and_eq_true] at h
        obtain ⟨h1, h4⟩ := h
        unfold hotB at h1
        simp only [Bool.and_eq_true, List.any_eq_true, beq_iff_eq] at h1
        obtain ⟨⟨⟨p, hp, ⟨rfl, rfl⟩, hl⟩, g1⟩, g2⟩ := h1
        obtain ⟨fa, fd, ps, m1, m2, m3, m4, _, m5⟩ := v.fn p hp
        have m5 := m5 (by omega)
        obtain ⟨n2, _, _⟩ := namB_ok g2
        have hv := hot_var (e := e) (pos := p1) v h4
        have a1 : SA (Cx.hot X e) CL W0 [.Name w0 p1] (fun ρ => evA Γ ρ (.cons (.var i) .nil)) := sa_cons (se_var hv) sa_nil rfl
        have a2 : SAT (Cx.hot X e) CL W0 [.Name w0 p1] (fun ρ => evB Γ ρ (.cons (.var i) .nil)) := sat_cons (st_var hv) sat_nil rfl
        exact (sc_callH (X := X) (ev := e) (sh := fun ρ => shEs ρ (.cons (.var i) .nil)) m5 v.room (by unfold glB at g1; show X.env.scope.names.lookup p.1 = _; rw [v.sc]; exact eq_of_beq g1) m1 m2 m3 a1 a2 (fun ρ z => evB_sh Γ ρ _ z) (fun ρ ds z => by rw [evB_len Γ ρ _ _ z, hl]; rfl) n2 rfl (fun _ => rfl)).se
      · cases h
    · cases h
theorem hbs_ok (v : VX Γ CL k W T X) (e : Addr) (x n : Nat) (pos : Pos) : ∀ (ys : List Expr) (es : Es), chkHbs n T x ys es = true → ys ≠ [] → SW (Cx.hot X e) CL W0 (.BoolOp .Or ys pos) (fun ρ => (evO Γ ρ es).bind truD) := by
  intro ys
  induction ys with
  | nil => intro es _ h; exact absurd rfl h
  | cons y ys ih =>
    intro es h _
    cases es with
    | nil => simp [chkHbs] at h
    | cons c es =>
      simp only [chkHbs, Bool.and_eq_true] at h
      obtain ⟨⟨h1, h2⟩, h3⟩ := h
      have he : SB (Cx.hot X e) CL W0 y (fun ρ => (top ρ c (evE Γ ρ c)).bind truD) := by
        have q := sb_val ((he_ok v e x n y c h2).st) (test_ok h1)
        exact SB.congr q fun ρ => by rw [he_top h2]
      cases ys with
      | nil =>
        cases es with
        | nil => exact SW.ref (sw_or1 he) (Rf.tru c)
        | cons => simp [chkHbs] at h3
      | cons z zs =>
        cases es with
        | nil => simp [chkHbs] at h3
        | cons c' es' => exact SW.ref (sw_or he (ih (.cons c' es') h3 (by simp))) (bs_rfO c c' es')
theorem hb_ok (v : VX Γ CL k W T X) (e : Addr) (x n : Nat) (t : Expr) (c : E) (h : chkHb n T x t c = true) : SB (Cx.hot X e) CL W0 t (fun ρ => (top ρ c (evE Γ ρ c)).bind truD) := by
  unfold chkHb at h
  split at h
  · split at h
    · simp only [Bool.and_eq_true, Bool.not_eq_true', List.isEmpty_eq_false_iff] at h
      exact (hbs_ok v e x n _ _ _ h.1 h.2).sb
    · cases h
  · rw [Bool.and_eq_true] at h
    have q := sb_val ((he_ok v e x n _ c h.2).st) (test_ok h.1)
    exact SB.congr q fun ρ => by rw [he_top h.2]
theorem hs_ok (v : VX Γ CL k W T X) (hf : DefX X) (e : Addr) (x : Nat) : ∀ (n : Nat) (sts : List Stmt) (ss : Ss), chkHs n T x sts ss = true → SSs (Cx.hot X e) CL W0 sts (fun ρ => evSs Γ ρ ss) := by
  intro n
  induction n with
  | zero => intro t c h; simp [chkHs] at h
  | succ n ih =>
    intro sts ss h
    unfold chkHs at h
    split at h
    · rw [List.isEmpty_iff] at h
      subst h
      exact sss_nil
    · split at h
      · simp only [Bool.and_eq_true, beq_iff_eq] at h
        obtain ⟨⟨⟨⟨h1, h2⟩, h3⟩, h4⟩, h5⟩ := h
        exact sss_cons (ss_set (X := Cx.hot X e) (by show X.N.Nodup; rw [v.N]; exact v.nd) (by show X.N[_]? = _; rw [v.N]; exact h1) (by show Loc X.env.scope _; rw [v.sc]; exact locB_ok h2) (he_ok v e x n _ _ h4) (comp_ok h3) (.inl (hf.fn _))) (ih _ _ h5)
      · cases h
    · split at h
      · simp only [Bool.and_eq_true] at h
        obtain ⟨⟨h1, h2⟩, h3⟩ := h
        exact sss_cons (ss_if (X := Cx.hot X e) (hb_ok v e x n _ _ h1) (ih _ _ h2) sss_nil) (ih _ _ h3)
      · cases h
    · split at h
      · rename_i e0 ss0 st0 v0 pos r
        simp only [Bool.and_eq_true] at h
        obtain ⟨⟨h0, h1⟩, h2⟩ := h
        have q := sss_cons (ss_retS (X := Cx.hot X e) (pos := pos) (he_ok v e x n _ _ h1)) (ih _ _ h2)
        have ef : (fun ρ => evSs Γ ρ (.cons (.ret e0) ss0)) = fun ρ => (O.of ρ (evE Γ ρ e0) fun d => O.ret d false).seq fun ρ => evSs Γ ρ ss0 := by
          funext ρ
          cases e0 <;> first | rfl | (cases h0; done)
        rw [ef]
        exact q
      · cases h
    · cases h
theorem stepS (Z : SndS Γ CL k n) (W : XW) (T : Tc) (X : Cx) (st : Stmt) (c : S) (v : VX Γ CL k W T X) (hf : DefX X) (h : chkS (n + 1) T st c = true) : SS X CL W st (fun ρ => evS Γ ρ c) := by
  have E := snd (Γ := Γ) (CL := CL) (k := k) n
  cases c with
  | pass => simp [chkS] at h
  | brk => simp [chkS] at h
  | cont => simp [chkS] at h
  | asg i fresh e =>
    simp only [chkS] at h
    split at h
    · simp only [Bool.and_eq_true, beq_iff_eq] at h
      obtain ⟨⟨h1, h2⟩, h3⟩ := h
      have o := E.e W T X _ e v h3
      cases fresh with
      | false => exact ss_asg (sas_ok (fr := false) v hf.fn h1 h2 o (fun z => nomatch z))
      | true =>
        cases hn : newE Γ e with
        | true =>
          refine SS.ref (ss_asgF (sas_ok (fr := true) v hf.fn h1 h2 o (fun _ => hn))) fun ρ => .inr ?_
          show O.of ρ (evE Γ ρ e) (fun d => if true = true then (if newE Γ e = true then (match d with
            | .lst xs => .next (ρ.set i (some (.lst xs, true)))
            | .dic xs => .next (ρ.set i (some (.dic xs, true)))
            | _ => .bad) else .bad) else .next (ρ.set i (some (d, false)))) = _
          rw [hn]
          rfl
        | false =>
          refine SS.ref (ss_asg (sas_ok (fr := false) v hf.fn h1 h2 o (fun z => nomatch z))) fun ρ => ?_
          have e0 : evS Γ ρ (.asg i true e) = O.of ρ (evE Γ ρ e) (fun d => if true = true then (if newE Γ e = true then (match d with
            | .lst xs => .next (ρ.set i (some (.lst xs, true)))
            | .dic xs => .next (ρ.set i (some (.dic xs, true)))
            | _ => .bad) else .bad) else .next (ρ.set i (some (d, false)))) := rfl
          rw [e0, hn]
          cases evE Γ ρ e with
          | ok d => exact .inl rfl
          | exn y => exact .inr rfl
          | bad => exact .inl rfl
    · cases h
  | asgT ts e => simp [chkS] at h
  | expr e =>
    simp only [chkS] at h
    split at h
    · simp only [Bool.and_eq_true] at h
      exact ss_expr (E.e W T X _ e v h.2).se (comp_ok h.1)
    · cases h
  | ret e =>
    simp only [chkS] at h
    split at h
    · have o := E.e W T X _ e v h
      cases hv : newE Γ e with
      | true =>
        refine SS.ref (ss_retC (o.nw hv)) fun ρ => .inr ?_
        rw [evS_retN' ρ e (fun i z => by subst z; cases hv), hv]
      | false =>
        cases e with
        | var i =>
          cases n with
          | zero => simp [chkE] at h
          | succ n =>
            simp only [chkE] at h
            split at h
            · exact ss_retV (isV_ok v h)
            · cases h
        | _ =>
          refine SS.ref (ss_retS o.se) fun ρ => .inr ?_
          rw [evS_retN' ρ _ (by intro i z; cases z), hv]
    · cases h
  | retN => simp [chkS] at h
  | ife c a b =>
    simp only [chkS] at h
    split at h
    · simp only [Bool.and_eq_true] at h
      exact ss_if (E.b W T X _ c v h.1.1) (Z.ss W T X _ a v hf h.1.2) (Z.ss W T X _ b v hf h.2)
    · cases h
  | fors t it body =>
    simp only [chkS] at h
    split at h
    · simp only [Bool.and_eq_true] at h
      obtain ⟨⟨⟨h1, h2⟩, h3⟩, h4⟩ := h
      exact ss_for v.own v.calm (gt_name t) (tgC_one v hf.fn h1) (E.i W T X false _ _ it v rfl h3) (Z.ss W T X _ body v hf h4) (set_ok h2) (fun _ _ _ z => nomatch z)
    · cases h
  | forT ts it body =>
    simp only [chkS] at h
    split at h
    · simp only [Bool.and_eq_true] at h
      obtain ⟨⟨⟨⟨h0, h1⟩, h2⟩, h3⟩, h4⟩ := h
      exact ss_for v.own v.calm (gt_tup ts) (tgC_tup v hf.fn h0 h1) (E.i W T X true _ _ it v rfl h3) (Z.ss W T X _ body v hf h4) (set_ok h2) (asgAll_nex ts)
    · cases h
  | whl c body => simp [chkS] at h
  | rais c as =>
    simp only [chkS] at h
    cases hc : T.rzs.any (fun p => p.2 == c) with
    | false =>
      have hb : ∀ ds, Γ.xn c ds = .bad := v.xt.xb c fun p hp z => by
        have : T.rzs.any (fun p => p.2 == c) = true := List.any_eq_true.mpr ⟨p, hp, beq_iff_eq.mpr z⟩
        rw [hc] at this; cases this
      intro Fz B pins s σ H D I ⟨ρ, x, p⟩
      have p' : PostSt X.K CL Fz B W (O.of ρ (noX (evA Γ ρ as)) fun xs => O.of ρ (Γ.xn c xs) fun x => .exn x ρ) D := p
      cases e1 : evA Γ ρ as with
      | bad => rw [e1] at p'; exact p'.elim
      | exn y => rw [e1] at p'; exact p'.elim
      | ok ds =>
        rw [e1] at p'
        have p2 : PostSt X.K CL Fz B W (O.of ρ (Γ.xn c ds) fun x => .exn x ρ) D := p'
        rw [hb ds] at p2
        exact p2.elim
    | true => rw [hc] at h; cases h
  | app i e =>
    simp only [chkS] at h
    split at h
    · simp only [Bool.and_eq_true, beq_iff_eq] at h
      obtain ⟨⟨⟨⟨rfl, h1⟩, h2⟩, h3⟩, h4⟩ := h
      exact ss_app (isV_ok v h1) (E.e W T X _ e v h4).se rfl (by rw [star_ok h3]; rfl) (by rw [h2]; exact beq_self_eq_true _) (star_ok h3) rfl
    · cases h
  | ext i e => simp [chkS] at h
  | rev i => simp [chkS] at h
  | clr i => simp [chkS] at h
  | put i k e =>
    simp only [chkS] at h
    split at h
    · simp only [Bool.and_eq_true] at h
      obtain ⟨⟨⟨h1, h2⟩, h4⟩, h5⟩ := h
      rename_i x p y sp v0 pos
      exact ss_put (isV_ok v h1) (E.e W T X _ k v h4).st (E.e W T X _ e v h5).se (fun w => by cases y <;> first | rfl | cases h2) (sole_ok (fun _ _ z => by cases z)) rfl rfl
    · cases h
  | tryx body c x hh => simp [chkS] at h
  | swp i k l => simp [chkS] at h
  | ins => simp [chkS] at h
  | dput => simp [chkS] at h
  | dsd => simp [chkS] at h
  | rel => simp [chkS] at h
theorem stepSs (Z : SndS Γ CL k n) (W : XW) (T : Tc) (X : Cx) (xs : List Stmt) (c : Ss) (v : VX Γ CL k W T X) (hf : DefX X) (h : chkSs (n + 1) T xs c = true) : SSs X CL W xs (fun ρ => evSs Γ ρ c) := by
  cases c with
  | nil =>
    simp only [chkSs, List.isEmpty_iff] at h
    subst h
    exact sss_nil
  | cons s ss =>
    by_cases hr : ∃ i, s = .rel i
    · obtain ⟨i, rfl⟩ := hr
      simp only [chkSs] at h
      exact sss_rel i (Z.ss W T X xs ss v hf h)
    · cases xs with
      | nil => cases s <;> first | (simp [chkSs] at h; done) | exact absurd ⟨_, rfl⟩ hr
      | cons st r =>
        have h' : chkS n T st s = true ∧ chkSs n T r ss = true := by
          cases s <;> first | (simp only [chkSs, Bool.and_eq_true] at h; exact h) | exact absurd ⟨_, rfl⟩ hr
        exact sss_cons (Z.s W T X st s v hf h'.1) (Z.ss W T X r ss v hf h'.2)
theorem sndS : ∀ n, SndS Γ CL k n
  | 0 => ⟨fun _ _ _ _ _ _ _ h => by simp [chkS] at h, fun _ _ _ _ _ _ _ h => by simp [chkSs] at h⟩
  | n + 1 => ⟨stepS (sndS n), stepSs (sndS n)⟩
end
end Ov
end
section
set_option Elab.async false
set_option linter.all false
set_option maxRecDepth 100000
set_option maxHeartbeats 4000000
namespace Ov
open PySem PySem.Spec PyProof.Rows L2
theorem startR_get {n : Nat} {ds : List D} {i : Nat} {d : D} {o : Bool} (h : (startR n ds)[i]? = some (some (d, o))) : o = false ∧ ds[i]? = some d := by
  unfold startR at h
  by_cases hi : i < ds.length
  · rw [List.getElem?_append_left (by simpa using hi), List.getElem?_map] at h
    cases e : ds[i]? with
    | none => rw [e] at h; cases h
    | some x => rw [e] at h; cases h; exact ⟨rfl, rfl⟩
  · rw [List.getElem?_append_right (by simpa using Nat.le_of_not_lt hi), List.getElem?_replicate] at h
    split at h <;> cases h
theorem start_get {N : List Str} {vs : List V} {i : Nat} {v : V} (h : vs[i]? = some v) : (L2.start N vs)[i]? = some (some v) := by
  unfold L2.start
  have hi := (List.getElem?_eq_some_iff.mp h).1
  rw [List.getElem?_append_left (by simpa using hi), List.getElem?_map, h]
  rfl
theorem sx_start {K : PySem.W.Frag} {CL : ClA} {A : Addr → Prop} {H : Hp} {N : List Str} {n : Nat} {vs : List V} {ds : List D} (hn : N.length = n) (hA : AOk H A) (r : Reps K CL H A vs ds) : Sx K CL (fun b o => H b = some o) A (startR n ds) (L2.start N vs) H := by
  have own : ∀ a, OwnA A (startR n ds) (L2.start N vs) a → A a := fun a h => by
    rcases h with h | ⟨j, d, h, _⟩
    · exact h
    · exact absurd (startR_get h).1 (by decide)
  have hlen : (startR n ds).length = (L2.start N vs).length := by
    unfold startR L2.start
    simp only [List.length_append, List.length_map, List.length_replicate, r.length, hn]
  refine ⟨⟨fun i d h => ?_, fun i d h => absurd (startR_get h).1 (by decide), hlen⟩, fun a h => hA a (own a h), fun j d a h _ => absurd (startR_get h).1 (by decide), fun i j d e a h _ _ _ => absurd (startR_get h).1 (by decide), fun b o h => h, hlen⟩
  obtain ⟨v, h1, h2⟩ := r.get (startR_get h).2
  exact ⟨v, start_get h1, Rep.sub own _ h2⟩
noncomputable def RowT (K : PySem.W.Frag) (mg : Str → Option Value) (fns : List (Str × Nat × Nat)) (bl : List Str) (rzs exs gls : List (Str × Nat)) (Pg : Prg) (fuel : Nat) (p : Str × Nat × Nat) : Prop := ∃ f fd ps qual st N, mg p.1 = some (.ref f) ∧ Fun K p.1 qual st f fd ∧ Binds K fd ps [] ∧ ps.length = p.2.2 % 1000 ∧ chkD fuel (Nat.ble 1000 p.2.2) fns bl rzs exs gls ps N st (Pg.defs p.2.1) = true
structure Tab (K : PySem.W.Frag) (mg : Str → Option Value) (CL : ClA) (fns : List (Str × Nat × Nat)) (bl : List Str) (rzs exs gls : List (Str × Nat)) (Pg : Prg) (fuel : Nat) : Prop where
  xt : XT Pg.up Pg.xn CL rzs exs K mg
  bln : ∀ x, x ∈ bl → mg x = none
  gl : ∀ p ∈ gls, GlOk K mg CL p.1 (Pg.G p.2)
  fn : ∀ p ∈ fns, RowT K mg fns bl rzs exs gls Pg fuel p
theorem gam_fr (Pg : Prg) (n i : Nat) : (gam Pg n).fr i = (Pg.defs i).fr := by cases n <;> rfl
theorem gam_up (Pg : Prg) (n : Nat) : (gam Pg n).up = Pg.up := by cases n <;> rfl
theorem gam_G (Pg : Prg) (n : Nat) : (gam Pg n).G = Pg.G := by cases n <;> rfl
theorem gam_xn (Pg : Prg) (n : Nat) : (gam Pg n).xn = Pg.xn := by cases n <;> rfl
section
variable {P : Program} {w : World} {K : PySem.W.Frag} {mg : Str → Option Value} {base : Heap} {CL : ClA} {fns : List (Str × Nat × Nat)} {bl : List Str} {rzs exs gls : List (Str × Nat)} {Pg : Prg} {fuel : Nat}
noncomputable def Lvl (P : Program) (w : World) (K : PySem.W.Frag) (mg : Str → Option Value) (base : Heap) (CL : ClA) (Pg : Prg) (n : Nat) (p : Str × Nat × Nat) : Prop := ∃ f fd ps, mg p.1 = some (.ref f) ∧ PySem.W.keepIn K (.ref f) = true ∧ Binds K fd ps [] ∧ ps.length = p.2.2 % 1000 ∧ (p.2.2 < 1000 → FnOk P w K mg base (CXR P w) n f fd ps (spD K CL (p.2.2 % 1000) ((gam Pg n).fr p.2.1) ((gam Pg n).F p.2.1))) ∧ (1000 ≤ p.2.2 → HotOk P w K mg base n f fd ps (spH K CL (p.2.2 % 1000) ((gam Pg n).fr p.2.1) ((gam Pg n).F p.2.1)))
theorem def_ok (t : Tab K mg CL fns bl rzs exs gls Pg fuel) {n : Nat} (hlv : ∀ q ∈ fns, Lvl P w K mg base CL Pg n q) {x qual : Str} {st : Stmt} {f : Addr} {fd : FuncData} {ps N : List Str} {m id : Nat} (h2 : Fun K x qual st f fd) (h4 : ps.length = m) (h5 : chkD fuel false fns bl rzs exs gls ps N st (Pg.defs id) = true) :
    FnOk P w K mg base (CXR P w) (n + 1) f fd ps (spD K CL m ((gam Pg (n + 1)).fr id) ((gam Pg (n + 1)).F id)) := by
  unfold chkD at h5
  simp only [Bool.and_eq_true, beq_iff_eq, Bool.not_eq_true', List.all_eq_true, Bool.or_eq_true, bne_iff_ne, ne_eq] at h5
  obtain ⟨⟨⟨⟨⟨⟨⟨⟨c1, c2⟩, c3⟩, c4⟩, c5⟩, c6⟩, c7⟩, c8⟩, c9⟩ := h5
  obtain ⟨oc, od, kV, doc, pm, an, cdv, ct, osl, rfl, lk, hcd⟩ := h2.ex
  refine fn_of (N := N) lk hcd ⟨c1, c2, c3, nodupB_ok c4, c5, c6, c7⟩ (fun vs H Q E ⟨ds, A, z, _⟩ => z.trans h4.symm) fun A outer s H vs Q E hr ⟨ds, B, hl, hA, hreps, hpost⟩ => ?_
  have xt : XT (gam Pg n).up (gam Pg n).xn CL rzs exs K mg := by rw [gam_up, gam_xn]; exact t.xt
  have gl : ∀ p ∈ gls, GlOk K mg CL p.1 ((gam Pg n).G p.2) := by rw [gam_G]; exact t.gl
  have key : ∀ W : XW, (∀ x cls H', W x H' → (∃ C, CL x.c = some C ∧ cls = .ref C) → E cls none H') → PostSt K CL (fun b o => H b = some o) B W (evSs (gam Pg n) (startR (Pg.defs id).n ds) (Pg.defs id).body) { nx := fun _ H' => Q .non H', rt := Q } →
      ∃ t, PSs (cxOf (CXR P w) P w K mg base N qual (defScope st) f cdv A outer s H E) (defBody st) t ∧ t { nx := fun _ H' => Q .non H', rt := Q } (start N vs) H := fun W hW hp => by
    have v : VX (gam Pg n) CL n W ⟨defScope st, N, fns, bl, rzs, exs, gls⟩ (cxOf (CXR P w) P w K mg base N qual (defScope st) f cdv A outer s H E) := ⟨rfl, c1, rfl, nodupB_ok c4, rfl, hr, t.bln, hlv, ownR, passR hW, rzR hW, xt, gl⟩
    exact ⟨_, (sndS fuel).ss W _ _ _ (Pg.defs id).body v ⟨fun _ => rfl, rfl, rfl, rfl⟩ c9 (fun b o => H b = some o) B, _, sx_start c8 hA hreps, hp⟩
  have no : ∀ x cls H', W0 x H' → (∃ C, CL x.c = some C ∧ cls = .ref C) → E cls none H' := fun _ _ _ z => z.elim
  have e : (gam Pg (n + 1)).F id ds = cutX Pg.xs ((evSs (gam Pg n) (startR (Pg.defs id).n ds) (Pg.defs id).body).ans (Pg.defs id).fr) := rfl
  rw [e, gam_fr] at hpost
  have cutO : ∀ r : R D, (∀ x, r ≠ .exn x) → cutX Pg.xs r = r := fun r hr => by
    cases Pg.xs <;> cases r <;> first | rfl | exact absurd rfl (hr _)
  cases eo : evSs (gam Pg n) (startR (Pg.defs id).n ds) (Pg.defs id).body with
  | next ρ' =>
    refine key W0 no ?_
    rw [eo] at hpost ⊢
    cases ef : (Pg.defs id).fr with
    | true => rw [ef] at hpost; rw [cutO _ (by intro x z; cases z)] at hpost; exact hpost.elim
    | false =>
      rw [ef] at hpost
      rw [cutO _ (by intro x z; cases z)] at hpost
      exact fun σ' H' x' => hpost .non H' (fun b o z => x'.same b o z) ⟨rfl, fun z => nomatch z⟩
  | ret d b =>
    refine key W0 no ?_
    rw [eo] at hpost ⊢
    intro v H' sm rp fr
    have hp2 : (match cutX Pg.xs (if ((Pg.defs id).fr && (!b && isL d)) = true then R.bad else R.ok d) with
      | .ok d => ∀ v H', Same H H' → RepC K CL (Pg.defs id).fr H B H' v d → Q v H'
      | .exn x => ∀ cls dx H', Same H H' → XRep K CL H' B cls dx x → E cls dx H'
      | .bad => False) := hpost
    cases ec : ((Pg.defs id).fr && (!b && isL d)) with
    | true => rw [ec, if_pos rfl, cutO _ (by intro x z; cases z)] at hp2; exact hp2.elim
    | false =>
      rw [ec, if_neg (by decide), cutO _ (by intro x z; cases z)] at hp2
      refine hp2 v H' sm ⟨rp, fun efr es hd => ?_⟩
      subst hd
      have eb : b = true := by
        cases b with
        | true => rfl
        | false => rw [efr] at ec; cases ec
      obtain ⟨a, xs, h1, h2, h3, h4⟩ := fr eb es rfl
      refine ⟨a, xs, h1, ?_, h3, h4⟩
      cases ha : H a with
      | none => rfl
      | some o => exact absurd ha (h2 o)
  | brk ρ' => rw [eo] at hpost; have hp2 : (match cutX Pg.xs (R.bad : R D) with | .ok _ => _ | .exn _ => _ | .bad => False) := hpost; rw [cutO _ (by intro x z; cases z)] at hp2; exact hp2.elim
  | cont ρ' => rw [eo] at hpost; have hp2 : (match cutX Pg.xs (R.bad : R D) with | .ok _ => _ | .exn _ => _ | .bad => False) := hpost; rw [cutO _ (by intro x z; cases z)] at hp2; exact hp2.elim
  | bad => rw [eo] at hpost; have hp2 : (match cutX Pg.xs (R.bad : R D) with | .ok _ => _ | .exn _ => _ | .bad => False) := hpost; rw [cutO _ (by intro x z; cases z)] at hp2; exact hp2.elim
  | exn x ρ' =>
    rw [eo] at hpost
    have hp2 : (match cutX Pg.xs (R.exn x : R D) with
      | .ok d => ∀ v H', Same H H' → RepC K CL (Pg.defs id).fr H B H' v d → Q v H'
      | .exn x => ∀ cls dx H', Same H H' → XRep K CL H' B cls dx x → E cls dx H'
      | .bad => False) := hpost
    cases ex : Pg.xs with
    | false => rw [ex] at hp2; exact hp2.elim
    | true =>
      rw [ex] at hp2
      have hp3 : (match (if x.fs.isEmpty = true then (R.exn x : R D) else .bad) with
        | .ok d => ∀ v H', Same H H' → RepC K CL (Pg.defs id).fr H B H' v d → Q v H'
        | .exn x => ∀ cls dx H', Same H H' → XRep K CL H' B cls dx x → E cls dx H'
        | .bad => False) := hp2
      by_cases hfs : x.fs.isEmpty = true
      · rw [if_pos hfs] at hp3
        refine key (fun y H' => y = x ∧ Same H H') (fun y cls H' ⟨e1, sm⟩ ⟨C, d1, d2⟩ => ?_) ?_
        · subst e1
          exact hp3 cls none H' sm ⟨C, d1, d2, .inl (List.isEmpty_iff.mp hfs)⟩
        · rw [eo]
          exact fun H' sm => ⟨rfl, sm⟩
      · rw [if_neg hfs] at hp3
        exact hp3.elim
theorem hot_ok (t : Tab K mg CL fns bl rzs exs gls Pg fuel) {n : Nat} (hlv : ∀ q ∈ fns, Lvl P w K mg base CL Pg n q) {x qual : Str} {st : Stmt} {f : Addr} {fd : FuncData} {ps N : List Str} {m id : Nat} (h2 : Fun K x qual st f fd) (h4 : ps.length = m) (h5 : chkD fuel true fns bl rzs exs gls ps N st (Pg.defs id) = true) :
    HotOk P w K mg base (n + 1) f fd ps (spH K CL m ((gam Pg (n + 1)).fr id) ((gam Pg (n + 1)).F id)) := by
  unfold chkD at h5
  simp only [Bool.and_eq_true, beq_iff_eq, Bool.not_eq_true', List.all_eq_true, Bool.or_eq_true, bne_iff_ne, ne_eq] at h5
  obtain ⟨⟨⟨⟨⟨⟨⟨⟨c1, c2⟩, c3⟩, c4⟩, c5⟩, c6⟩, c7⟩, c8⟩, c9⟩ := h5
  obtain ⟨oc, od, kV, doc, pm, an, cdv, ct, osl, rfl, lk, hcd⟩ := h2.ex
  refine hot_of (N := N) lk hcd ⟨c1, c2, c3, nodupB_ok c4, c5, c6, c7⟩ (fun vs H Q E ⟨ds, A, z, _⟩ => z.trans h4.symm) fun A ev outer s H vs Q E hr ⟨ds, B, hl, hA, hreps, hpost⟩ => ?_
  have xt : XT (gam Pg n).up (gam Pg n).xn CL rzs exs K mg := by rw [gam_up, gam_xn]; exact t.xt
  have gl : ∀ p ∈ gls, GlOk K mg CL p.1 ((gam Pg n).G p.2) := by rw [gam_G]; exact t.gl
  have key : PostSt K CL (fun b o => H b = some o) B W0 (evSs (gam Pg n) (startR (Pg.defs id).n ds) (Pg.defs id).body) { nx := fun _ H' => Q .non H', rt := Q } →
      ∃ t, PSs (Cx.hot (cxOf NoCX P w K mg base N qual (defScope st) f cdv A outer s H E) ev) (defBody st) t ∧ t { nx := fun _ H' => Q .non H', rt := Q } (start N vs) H := fun hp => by
    have v : VX (gam Pg n) CL n W0 ⟨defScope st, N, fns, bl, rzs, exs, gls⟩ (cxOf NoCX P w K mg base N qual (defScope st) f cdv A outer s H E) := ⟨rfl, c1, rfl, nodupB_ok c4, rfl, hr, t.bln, hlv, PassesOwn.leaving, passNo, rzNo, xt, gl⟩
    exact ⟨_, hs_ok v ⟨fun _ => rfl, rfl, rfl, rfl⟩ ev 0 fuel _ (Pg.defs id).body c9 (fun b o => H b = some o) B, _, sx_start c8 hA hreps, hp⟩
  have e : (gam Pg (n + 1)).F id ds = cutX Pg.xs ((evSs (gam Pg n) (startR (Pg.defs id).n ds) (Pg.defs id).body).ans (Pg.defs id).fr) := rfl
  rw [e, gam_fr] at hpost
  have cutO : ∀ r : R D, (∀ x, r ≠ .exn x) → cutX Pg.xs r = r := fun r hr => by
    cases Pg.xs <;> cases r <;> first | rfl | exact absurd rfl (hr _)
  refine key ?_
  cases eo : evSs (gam Pg n) (startR (Pg.defs id).n ds) (Pg.defs id).body with
  | next ρ' =>
    rw [eo] at hpost
    cases ef : (Pg.defs id).fr with
    | true => rw [ef] at hpost; rw [cutO _ (by intro x z; cases z)] at hpost; exact hpost.elim
    | false =>
      rw [ef] at hpost
      rw [cutO _ (by intro x z; cases z)] at hpost
      exact fun σ' H' x' => hpost .non H' (fun b o z => x'.same b o z) ⟨rfl, fun z => nomatch z⟩
  | ret d b =>
    rw [eo] at hpost
    intro v H' sm rp fr
    have hp2 : (match cutX Pg.xs (if ((Pg.defs id).fr && (!b && isL d)) = true then R.bad else R.ok d) with
      | .ok d => ∀ v H', Same H H' → RepC K CL (Pg.defs id).fr H B H' v d → Q v H'
      | .exn x => False
      | .bad => False) := hpost
    cases ec : ((Pg.defs id).fr && (!b && isL d)) with
    | true => rw [ec, if_pos rfl, cutO _ (by intro x z; cases z)] at hp2; exact hp2.elim
    | false =>
      rw [ec, if_neg (by decide), cutO _ (by intro x z; cases z)] at hp2
      refine hp2 v H' sm ⟨rp, fun efr es hd => ?_⟩
      subst hd
      have eb : b = true := by
        cases b with
        | true => rfl
        | false => rw [efr] at ec; cases ec
      obtain ⟨a, xs, h1, h2, h3, h4⟩ := fr eb es rfl
      refine ⟨a, xs, h1, ?_, h3, h4⟩
      cases ha : H a with
      | none => rfl
      | some o => exact absurd ha (h2 o)
  | brk ρ' => rw [eo] at hpost; have hp2 : (match cutX Pg.xs (R.bad : R D) with | .ok _ => _ | .exn _ => _ | .bad => False) := hpost; rw [cutO _ (by intro x z; cases z)] at hp2; exact hp2.elim
  | cont ρ' => rw [eo] at hpost; have hp2 : (match cutX Pg.xs (R.bad : R D) with | .ok _ => _ | .exn _ => _ | .bad => False) := hpost; rw [cutO _ (by intro x z; cases z)] at hp2; exact hp2.elim
  | bad => rw [eo] at hpost; have hp2 : (match cutX Pg.xs (R.bad : R D) with | .ok _ => _ | .exn _ => _ | .bad => False) := hpost; rw [cutO _ (by intro x z; cases z)] at hp2; exact hp2.elim
  | exn x ρ' =>
    rw [eo] at hpost
    have hp2 : (match cutX Pg.xs (R.exn x : R D) with
      | .ok d => ∀ v H', Same H H' → RepC K CL (Pg.defs id).fr H B H' v d → Q v H'
      | .exn x => False
      | .bad => False) := hpost
    exfalso
    cases ex : Pg.xs with
    | false => rw [ex] at hp2; exact hp2
    | true =>
      rw [ex] at hp2
      by_cases hfs : x.fs.isEmpty = true
      · have : cutX true (R.exn x : R D) = .exn x := if_pos hfs
        rw [this] at hp2
        exact hp2
      · have : cutX true (R.exn x : R D) = .bad := if_neg hfs
        rw [this] at hp2
        exact hp2
theorem tab_ok (t : Tab K mg CL fns bl rzs exs gls Pg fuel) : ∀ n, ∀ p ∈ fns, Lvl P w K mg base CL Pg n p
  | 0, p, hp => by
    obtain ⟨f, fd, ps, qual, st, N, h1, h2, h3, h4, h5⟩ := t.fn p hp
    exact ⟨f, fd, ps, h1, h2.kp, h3, h4, fun _ => ⟨fun vs H Q E ⟨ds, A, _, _, _, z⟩ => z.elim, fun A outer s H args us vs Q E _ _ _ _ ⟨ds, A, _, _, _, z⟩ => z.elim⟩, fun _ => ⟨fun vs H Q E ⟨ds, A, _, _, _, z⟩ => z.elim, fun A ev outer s H args us vs Q E _ _ _ _ ⟨ds, A, _, _, _, z⟩ => z.elim⟩⟩
  | n + 1, p, hp => by
    obtain ⟨f, fd, ps, qual, st, N, h1, h2, h3, h4, h5⟩ := t.fn p hp
    refine ⟨f, fd, ps, h1, h2.kp, h3, h4, fun hlt => ?_, fun hge => ?_⟩
    · have eb : Nat.ble 1000 p.2.2 = false := by
        cases e : Nat.ble 1000 p.2.2 with
        | false => rfl
        | true => exact absurd (Nat.le_of_ble_eq_true e) (by omega)
      rw [eb] at h5
      exact def_ok t (fun q hq => tab_ok t n q hq) h2 h4 h5
    · rw [Nat.ble_eq_true_of_le hge] at h5
      exact hot_ok t (fun q hq => tab_ok t n q hq) h2 h4 h5
theorem cxr_no {H : Hp} {s s' : Shared} {e : Value} (h : CXR P w [] H s (fun _ _ _ => False) e s') : False := by
  obtain ⟨_, _, _, _, _, _, _, _, _, _, _, _, _, _, z⟩ := h
  exact z
theorem xt_none {up : Nat → List Nat} {xn : Nat → List D → R Ex} (h : ∀ c ds, xn c ds = .bad) : XT up xn (fun _ => none) [] [] K mg := ⟨fun _ _ z => (nomatch z), fun _ z => (nomatch z), fun _ z => (nomatch z), fun c ds => .inl (h c ds), fun c _ ds => h c ds⟩
noncomputable def lawSp (K : PySem.W.Frag) : Sp := fun vs H Q _ => ∃ (a : Addr) (ns : List Int), vs = [.ref a] ∧ ns.length ≤ 63 ∧ SqL K H a (ns.map V.int) ∧ ∀ v H', v = V.bl true → Q v H'
theorem law_fn {CX : CXT} {k : Nat} {f : Addr} {fd : FuncData} {ps : List Str} {F : List D → R D} (G : FnOk P w K mg base CX k f fd ps (spD K CL 1 false F)) (h : ∀ ns : List Int, F [.lst (ns.map .int)] = .ok (.bl true)) : FnOk P w K mg base CX k f fd ps (lawSp K) := G.imp fun vs H Q E ⟨a, ns, e, hl, hS, q⟩ => by
  subst e
  have rs : ∀ l : List Int, Reps K CL H A0 (l.map V.int) (l.map D.int) := fun l => by
    induction l with
    | nil => trivial
    | cons x l ih => exact ⟨rfl, ih⟩
  refine ⟨[.lst (ns.map .int)], A0, rfl, fun _ z => z.elim, ⟨⟨a, _, rfl, .inl (fun z => z), hS, rs ns⟩, trivial⟩, ?_⟩
  rw [h ns]
  exact fun v H' _ r => q v H' r.1
theorem all_nil {α : Type} {Q : α → Prop} : ∀ x ∈ ([] : List α), Q x := fun _ h => nomatch h
theorem all_cons {α : Type} {Q : α → Prop} {a : α} {l : List α} (h1 : Q a) (h2 : ∀ x ∈ l, Q x) : ∀ x ∈ a :: l, Q x := List.forall_mem_cons.2 ⟨h1, h2⟩
noncomputable def FnI (K : PySem.W.Frag) (f : Addr) (n : Str) (st : Stmt) : Prop := ∃ fd, Fun K n n st f fd ∧ PySem.W.nsIn K mainGlobals n = some (some (.ref f))
theorem fni {n : Str} {st : Stmt} {f : Addr} {oc : Value} {od an : Option Addr} {osl : Array (Option Value)} {kV doc pm cdv ct : Value} (a : PySem.W.nsIn K mainGlobals n = some (some (.ref f))) (l : K.lookup f = some ⟨oc, od, .func (PySem.W.fnOf n n (defArgs st) (defBody st) (defScope st) .none kV doc pm an cdv ct), osl⟩) (c : PySem.W.codeIn K cdv n = true) (k : PySem.W.keepIn K (.ref f) = true) : FnI K f n st := ⟨_, fun_mk l c k, a⟩
noncomputable def Bd (n : Str) (st : Stmt) (ps : List Str) (us : List Value) : Prop := ∀ (kV doc pm : Value) (an : Option Addr) (cdv ct : Value), bindArgs (PySem.W.fnOf n n (defArgs st) (defBody st) (defScope st) .none kV doc pm an cdv ct) ⟨us, []⟩ = pure (ps.zip us)
theorem row_mk {h : Heap} {n : Str} {f : Addr} {st : Stmt} {ps N : List Str} (m id : Nat) (X : K.In h) (G : h.Ns mainGlobals mg) (A : FnI K f n st) (hl : ps.length = m % 1000) (hc : chkD fuel (Nat.ble 1000 m) fns bl rzs exs gls ps N st (Pg.defs id) = true) (hb : ∀ us : List Value, us.length = ps.length → Bd n st ps us) : RowT K mg fns bl rzs exs gls Pg fuel (n, id, m) := by
  obtain ⟨fd, F, a⟩ := A
  exact ⟨_, _, _, _, _, _, PySem.W.mg_of X G a, F, F.binds fun kV doc pm an cdv ct us hu => hb us hu kV doc pm an cdv ct, hl, hc⟩
theorem row1 {h : Heap} {n : Str} {f : Addr} {st : Stmt} {N : List Str} {x0 : Str} (m id : Nat) (X : K.In h) (G : h.Ns mainGlobals mg) (A : FnI K f n st) (hl : 1 = m % 1000) (hc : chkD fuel (Nat.ble 1000 m) fns bl rzs exs gls [x0] N st (Pg.defs id) = true) (hb : ∀ u0, Bd n st [x0] [u0]) : RowT K mg fns bl rzs exs gls Pg fuel (n, id, m) :=
  row_mk (ps := [x0]) m id X G A hl hc fun us hu => match us, hu with | [u0], _ => hb u0
theorem row2 {h : Heap} {n : Str} {f : Addr} {st : Stmt} {N : List Str} {x0 x1 : Str} (m id : Nat) (X : K.In h) (G : h.Ns mainGlobals mg) (A : FnI K f n st) (hl : 2 = m % 1000) (hc : chkD fuel (Nat.ble 1000 m) fns bl rzs exs gls [x0, x1] N st (Pg.defs id) = true) (hb : ∀ u0 u1, Bd n st [x0, x1] [u0, u1]) : RowT K mg fns bl rzs exs gls Pg fuel (n, id, m) :=
  row_mk (ps := [x0, x1]) m id X G A hl hc fun us hu => match us, hu with | [u0, u1], _ => hb u0 u1
theorem row3 {h : Heap} {n : Str} {f : Addr} {st : Stmt} {N : List Str} {x0 x1 x2 : Str} (m id : Nat) (X : K.In h) (G : h.Ns mainGlobals mg) (A : FnI K f n st) (hl : 3 = m % 1000) (hc : chkD fuel (Nat.ble 1000 m) fns bl rzs exs gls [x0, x1, x2] N st (Pg.defs id) = true) (hb : ∀ u0 u1 u2, Bd n st [x0, x1, x2] [u0, u1, u2]) : RowT K mg fns bl rzs exs gls Pg fuel (n, id, m) :=
  row_mk (ps := [x0, x1, x2]) m id X G A hl hc fun us hu => match us, hu with | [u0, u1, u2], _ => hb u0 u1 u2
theorem row4 {h : Heap} {n : Str} {f : Addr} {st : Stmt} {N : List Str} {x0 x1 x2 x3 : Str} (m id : Nat) (X : K.In h) (G : h.Ns mainGlobals mg) (A : FnI K f n st) (hl : 4 = m % 1000) (hc : chkD fuel (Nat.ble 1000 m) fns bl rzs exs gls [x0, x1, x2, x3] N st (Pg.defs id) = true) (hb : ∀ u0 u1 u2 u3, Bd n st [x0, x1, x2, x3] [u0, u1, u2, u3]) : RowT K mg fns bl rzs exs gls Pg fuel (n, id, m) :=
  row_mk (ps := [x0, x1, x2, x3]) m id X G A hl hc fun us hu => match us, hu with | [u0, u1, u2, u3], _ => hb u0 u1 u2 u3
end
end Ov
end
section
set_option linter.all false
set_option maxRecDepth 100000
set_option maxHeartbeats 4000000
namespace OvC
open PySem Ov
noncomputable def c_measure : Df := ⟨4, false, (.cons (.ret (.call 1 (.cons (.var 0) (.cons (.bin .Add (.bin .Sub (.bin .Mult (.idx (.var 1) (.int 0)) (.bin .Sub (.bin .Mult (.idx (.var 2) (.int 1)) (.idx (.var 3) (.int 2))) (.bin .Mult (.idx (.var 2) (.int 2)) (.idx (.var 3) (.int 1))))) (.bin .Mult (.idx (.var 1) (.int 1)) (.bin .Sub (.bin .Mult (.idx (.var 2) (.int 0)) (.idx (.var 3) (.int 2))) (.bin .Mult (.idx (.var 2) (.int 2)) (.idx (.var 3) (.int 0)))))) (.bin .Mult (.idx (.var 1) (.int 2)) (.bin .Sub (.bin .Mult (.idx (.var 2) (.int 0)) (.idx (.var 3) (.int 1))) (.bin .Mult (.idx (.var 2) (.int 1)) (.idx (.var 3) (.int 0)))))) .nil)))) .nil)⟩
noncomputable abbrev tr (a b c : Int) : D := .tup [.int a, .int b, .int c]
noncomputable def det (a0 a1 a2 b0 b1 b2 c0 c1 c2 : Int) : Int := a0 * (b1 * c2 - b2 * c1) - a1 * (b0 * c2 - b2 * c0) + a2 * (b0 * c1 - b1 * c0)
noncomputable def Sm (x : Int) : Prop := 0 ≤ x ∧ x < 11
theorem g30 (x y z : D) : getL [x, y, z] 0 = .ok x := rfl
theorem g31 (x y z : D) : getL [x, y, z] 1 = .ok y := rfl
theorem g32 (x y z : D) : getL [x, y, z] 2 = .ok z := rfl
theorem rng3 : rngD 0 3 = [.int 0, .int 1, .int 2] := rfl
theorem Sm.of {p : Int} (h : P4 p) (x : Int) : Sm (x % p) := ⟨Int.emod_nonneg _ (by have := h.pos; omega), by have := Int.emod_lt_of_pos x h.pos; have := h.hi; omega⟩
end OvC
end
section
set_option linter.all false
set_option maxRecDepth 100000
set_option maxHeartbeats 4000000
namespace OvC
open PySem Ov
end OvC
end
section
set_option linter.all false
set_option maxRecDepth 100000
set_option maxHeartbeats 4000000
namespace OvC
open PySem Ov
theorem forD_find' {body : D → Rho → O} (I : Rho → Prop) (g : Int → Bool) : ∀ (L : List Int), (∀ t ∈ L, ∀ ρ, I ρ → (g t = true ∧ body (.int t) ρ = .ret (.int t) false) ∨ (g t = false ∧ ∃ ρ', body (.int t) ρ = .next ρ' ∧ I ρ')) →
    ∀ ρ, I ρ → (∃ t ∈ L, g t = true ∧ forD body (L.map D.int) ρ = .ret (.int t) false) ∨ ((∀ t ∈ L, g t = false) ∧ ∃ ρ', forD body (L.map D.int) ρ = .next ρ' ∧ I ρ')
  | [], _, ρ, i => .inr ⟨(fun _ h => nomatch h), ρ, rfl, i⟩
  | m :: L, h, ρ, i => by
    rcases h m (List.mem_cons_self ..) ρ i with ⟨e1, e2⟩ | ⟨e1, ρ', e2, i'⟩
    · refine .inl ⟨m, List.mem_cons_self .., e1, ?_⟩
      show (body (.int m) ρ).turn _ = _
      rw [e2]
      rfl
    · rcases forD_find' I g L (fun m' h' => h m' (List.mem_cons_of_mem _ h')) ρ' i' with ⟨t, ht, a, b⟩ | ⟨a, r, b, c⟩
      · refine .inl ⟨t, List.mem_cons_of_mem _ ht, a, ?_⟩
        show (body (.int m) ρ).turn _ = _
        rw [e2]
        exact b
      · refine .inr ⟨fun t ht => ?_, r, ?_, c⟩
        · rcases List.mem_cons.mp ht with rfl | ht
          · exact e1
          · exact a t ht
        · show (body (.int m) ρ).turn _ = _
          rw [e2]
          exact b
noncomputable def c_turned_over_f0 : Ss := (.cons (.ife (.cmp .Eq (.call 1 (.cons (.var 0) (.cons (.bin .Mult (.var 1) (.var 2)) .nil))) (.int 1)) (.cons (.ret (.var 2)) .nil) .nil) .nil)
noncomputable def c_turned_over : Df := ⟨3, false, (.cons (.fors 2 (.rng2 (.int 1) (.var 0)) c_turned_over_f0) (.cons (.rais 2 (.cons (.str (Str.ofString "a number with the rest 0 is not turned over")) .nil)) .nil))⟩
noncomputable def upTo (p : Int) : List Int := (List.range (p - 1).toNat).map fun (k : Nat) => 1 + (k : Int)
theorem mem_upTo {p t : Int} : t ∈ upTo p ↔ 1 ≤ t ∧ t < p := by
  unfold upTo
  rw [List.mem_map]
  constructor
  · rintro ⟨k, hk, rfl⟩
    have := List.mem_range.mp hk
    omega
  · rintro ⟨h1, h2⟩
    exact ⟨(t - 1).toNat, List.mem_range.mpr (by omega), by omega⟩
theorem rng_upTo {p : Int} (h : P4 p) : rangeD 1 p = .ok ((upTo p).map D.int) := by
  rcases h with rfl | rfl | rfl | rfl <;> rfl
theorem inv_tab : ∀ p : Fin 12, (p.val = 3 ∨ p.val = 5 ∨ p.val = 7 ∨ p.val = 11) → ∀ r : Fin 12, r.val < p.val → r.val ≠ 0 → ∃ t : Fin 12, 1 ≤ t.val ∧ t.val < p.val ∧ r.val * t.val % p.val = 1 := by decide +kernel
theorem inv_ex {p n : Int} (h : P4 p) (hn : n % p ≠ 0) : ∃ t, 1 ≤ t ∧ t < p ∧ n * t % p = 1 := by
  have p0 : 0 < p ∧ p < 12 := by rcases h with rfl | rfl | rfl | rfl <;> decide
  obtain ⟨q, rfl⟩ : ∃ q : Nat, p = q := ⟨p.toNat, by omega⟩
  have h0 := Int.emod_nonneg n (b := (q : Int)) (by omega)
  have h1 := Int.emod_lt_of_pos n p0.1
  obtain ⟨r, hr⟩ : ∃ r : Nat, n % (q : Int) = r := ⟨(n % (q : Int)).toNat, by omega⟩
  obtain ⟨t, t1, t2, t3⟩ := inv_tab ⟨q, by omega⟩ (by rcases h with e | e | e | e <;> simp <;> omega) ⟨r, by omega⟩ (by show r < q; omega) (by show r ≠ 0; omega)
  refine ⟨(t.val : Int), by omega, by show (t.val : Int) < q; exact Int.ofNat_lt.mpr t2, ?_⟩
  have e : ((r * t.val % q : Nat) : Int) = 1 := by rw [show r * t.val % q = 1 from t3]; rfl
  rw [← e, Int.natCast_emod, Int.natCast_mul, ← hr]
  exact (Int.mul_emod n _ _).trans (by rw [Int.mul_emod (n % (q : Int)) (t.val : Int) (q : Int), Int.emod_emod_of_dvd n (Int.dvd_refl _)])
theorem cut_ok {r : R D} {d : D} (h : r = .ok d) : cutX true r = .ok d := by rw [h]; rfl
end OvC
end
section
set_option linter.all false
set_option maxRecDepth 100000
set_option maxHeartbeats 4000000
namespace OvC
open PySem Ov
noncomputable def Inv1 (p n t : Int) : Prop := 1 ≤ t ∧ t < p ∧ n * t % p = 1
theorem inv1_uniq {p n t u : Int} (h1 : Inv1 p n t) (h2 : Inv1 p n u) : t = u := by
  have hp : 1 < p := by have := h1.1; have := h1.2.1; omega
  have e : t % p = u % p := by
    have a : t % p = t * (n * u) % p := by rw [Int.mul_emod, h2.2.2, Int.mul_one, Int.emod_emod_of_dvd _ (Int.dvd_refl p)]
    have b : u % p = (n * t) * u % p := by rw [Int.mul_emod (n * t) u p, h1.2.2, Int.one_mul, Int.emod_emod_of_dvd _ (Int.dvd_refl p)]
    rw [a, b]
    congr 1
    rw [← Int.mul_assoc, Int.mul_comm t n]
  rw [Int.emod_eq_of_lt (by have := h1.1; omega) h1.2.1, Int.emod_eq_of_lt (by have := h2.1; omega) h2.2.1] at e
  exact e
theorem nz_mul {p c x : Int} (hp : P4 p) (hc : c % p ≠ 0) (hx : x % p ≠ 0) : c * x % p ≠ 0 := fun z => by
  obtain ⟨t, _, _, e⟩ := inv_ex hp hc
  refine hx ?_
  have e1 : x % p = (c * t) * x % p := by rw [Int.mul_emod (c * t) x p, e, Int.one_mul, Int.emod_emod_of_dvd _ (Int.dvd_refl p)]
  rw [e1, show c * t * x = t * (c * x) by rw [Int.mul_comm c t, Int.mul_assoc], Int.mul_emod, z, Int.mul_zero, Int.zero_emod]
noncomputable def lead (p : Int) : List Int → Option Int
  | [] => none
  | x :: xs => if x % p = 0 then lead p xs else some (x % p)
theorem lead_none {p : Int} : ∀ {xs : List Int}, lead p xs = none ↔ ∀ x ∈ xs, x % p = 0
  | [] => by simp [lead]
  | x :: xs => by
    unfold lead
    by_cases h : x % p = 0
    · rw [if_pos h, lead_none (xs := xs)]
      simp [h]
    · rw [if_neg h]
      simp [h]
theorem lead_some {p l : Int} (hp : 0 < p) : ∀ {xs : List Int}, lead p xs = some l → l % p ≠ 0 ∧ 0 < l ∧ l < p
  | [], h => by cases h
  | x :: xs, h => by
    unfold lead at h
    by_cases hx : x % p = 0
    · rw [if_pos hx] at h; exact lead_some hp h
    · rw [if_neg hx] at h
      cases h
      have h0 := Int.emod_nonneg x (b := p) (by omega)
      have h1 := Int.emod_lt_of_pos x hp
      exact ⟨by rw [Int.emod_emod_of_dvd _ (Int.dvd_refl p)]; exact hx, by omega, h1⟩
theorem lead_mul {p c : Int} (hp : P4 p) (hc : c % p ≠ 0) {f : Int → Int} (hf : ∀ x, f x % p = c * x % p) : ∀ xs : List Int, lead p (xs.map f) = (lead p xs).map fun l => c * l % p
  | [] => rfl
  | x :: xs => by
    rw [List.map_cons]
    unfold lead
    rw [hf x]
    by_cases hx : x % p = 0
    · rw [if_pos hx, if_pos (by rw [Int.mul_emod, hx, Int.mul_zero, Int.zero_emod]), lead_mul hp hc hf xs]
    · rw [if_neg hx, if_neg (nz_mul hp hc hx), Option.map_some]
      congr 1
      rw [Int.mul_emod c (x % p), Int.emod_emod_of_dvd _ (Int.dvd_refl p), ← Int.mul_emod]
noncomputable def ds (xs : List Int) : List D := xs.map D.int
noncomputable def seqD (b : Bool) (xs : List Int) : D := if b = true then .tup (ds xs) else .lst (ds xs)
theorem asSeq_seqD (b xs) : asSeq (seqD b xs) = .ok (ds xs) := by unfold seqD; cases b <;> rfl
theorem comp_ints {g : D → R Bool} {f : D → R D} {φ : Int → Int} : ∀ (xs : List Int), (∀ x ∈ xs, g (.int x) = .ok true ∧ f (.int x) = .ok (.int (φ x))) → compD g f (ds xs) = .ok (ds (xs.map φ))
  | [], _ => rfl
  | x :: xs, h => by
    obtain ⟨h1, h2⟩ := h x (List.mem_cons_self ..)
    show (g (.int x)).bind _ = _
    rw [h1, R.bind_ok, if_pos rfl, h2, R.bind_ok]
    show (compD g f (ds xs)).bind _ = _
    rw [comp_ints xs fun y hy => h y (List.mem_cons_of_mem _ hy)]
    rfl
noncomputable def c_one_form_q0 : E := (.bl true)
noncomputable def c_one_form_e0 : E := (.call 1 (.cons (.var 0) (.cons (.var 5) .nil)))
noncomputable def c_one_form_q1 : E := (.bl true)
noncomputable def c_one_form_e1 : E := (.call 1 (.cons (.var 0) (.cons (.bin .Mult (.var 4) (.var 6)) .nil)))
noncomputable def c_one_form_f0 : Ss := (.cons (.ife (.cmp .NotEq (.var 3) (.int 0)) (.cons (.asg 4 false (.call 9 (.cons (.var 0) (.cons (.var 3) .nil)))) (.cons (.ret (.bi .tuple (.cons (.comp c_one_form_e1 6 (.e (.var 2)) c_one_form_q1) .nil))) .nil)) .nil) .nil)
noncomputable def c_one_form : Df := ⟨7, false, (.cons (.asg 2 false (.comp c_one_form_e0 5 (.e (.var 1)) c_one_form_q0)) (.cons (.fors 3 (.e (.var 2)) c_one_form_f0) (.cons (.rais 3 (.cons (.str (Str.ofString "all the numbers have the rest 0")) .nil)) .nil)))⟩
noncomputable def fmI (p t : Int) (xs : List Int) : List Int := xs.map fun x => t * (x % p) % p
section
variable {Γ : Gam} {p : Int} {xs : List Int} {b : Bool}
end
theorem comp_filter {g : D → R Bool} {f : D → R D} {q : Int → Bool} : ∀ (xs : List Int), (∀ x ∈ xs, g (.int x) = .ok (q x) ∧ f (.int x) = .ok (.int x)) → compD g f (ds xs) = .ok (ds (xs.filter q))
  | [], _ => rfl
  | x :: xs, h => by
    obtain ⟨h1, h2⟩ := h x (List.mem_cons_self ..)
    have ih := comp_filter xs fun y hy => h y (List.mem_cons_of_mem _ hy)
    show (g (.int x)).bind _ = _
    rw [h1, R.bind_ok]
    cases hq : q x with
    | true =>
      rw [if_pos rfl, h2, R.bind_ok, List.filter_cons, hq, if_pos rfl]
      show (compD g f (ds xs)).bind _ = _
      rw [ih]
      rfl
    | false =>
      rw [if_neg (by decide), List.filter_cons, hq, if_neg (by decide)]
      exact ih
theorem lead_filter {p : Int} (hp : 0 < p) : ∀ (xs : List Int), ((xs.map fun x => x % p).filter fun r => decide (0 < r)).head? = lead p xs
  | [] => rfl
  | x :: xs => by
    have h0 := Int.emod_nonneg x (b := p) (by omega)
    unfold lead
    rw [List.map_cons, List.filter_cons]
    by_cases h : x % p = 0
    · rw [if_pos h, if_neg (by simp [h]), lead_filter hp xs]
    · rw [if_neg h, if_pos (by simp; omega)]
      rfl
theorem filter_one {p l t : Int} (it : Inv1 p l t) : ((upTo p).filter fun k => decide (k * l % p = 1)).head? = some t := by
  have hm : t ∈ (upTo p).filter fun k => decide (k * l % p = 1) := List.mem_filter.mpr ⟨mem_upTo.mpr ⟨it.1, it.2.1⟩, by simp [Int.mul_comm t l, it.2.2]⟩
  cases e : (upTo p).filter fun k => decide (k * l % p = 1) with
  | nil => rw [e] at hm; cases hm
  | cons u us =>
    have hu : u ∈ (upTo p).filter fun k => decide (k * l % p = 1) := by rw [e]; exact List.mem_cons_self ..
    obtain ⟨h1, h2⟩ := List.mem_filter.mp hu
    obtain ⟨a, b⟩ := mem_upTo.mp h1
    have h3 : u * l % p = 1 := by simpa using h2
    rw [inv1_uniq it ⟨a, b, by rw [Int.mul_comm]; exact h3⟩]
    rfl
theorem getL_head {xs : List Int} {l : Int} (h : xs.head? = some l) : getL (ds xs) 0 = .ok (.int l) := by
  cases xs with
  | nil => cases h
  | cons x xs => cases h; exact getL_pos (by omega) rfl
theorem eqs_ds : ∀ xs : List Int, eqDs (ds xs) (ds xs) = true
  | [] => rfl
  | x :: xs => by
    show (eqD (.int x) (.int x) && eqDs (ds xs) (ds xs)) = true
    rw [eqs_ds xs]
    simp
theorem all_true : ∀ xs : List Int, allBl (xs.map fun _ => D.bl true) = .ok true
  | [] => rfl
  | x :: xs => by
    rw [List.map_cons, allBl_cons, all_true xs]
    rfl
theorem comp_bl {g : D → R Bool} {f : D → R D} : ∀ (xs : List Int), (∀ x ∈ xs, g (.int x) = .ok true ∧ f (.int x) = .ok (.bl true)) → compD g f (ds xs) = .ok (xs.map fun _ => D.bl true)
  | [], _ => rfl
  | x :: xs, h => by
    obtain ⟨h1, h2⟩ := h x (List.mem_cons_self ..)
    show (g (.int x)).bind _ = _
    rw [h1, R.bind_ok, if_pos rfl, h2, R.bind_ok]
    show (compD g f (ds xs)).bind _ = _
    rw [comp_bl xs fun y hy => h y (List.mem_cons_of_mem _ hy)]
    rfl
noncomputable abbrev own (xs : List Int) : Sl := some (.lst (ds xs), true)
section
variable {Γ : Gam} {ns : List Int} {a1 a2 a4 a6 a7 a8 a9 b0 b1 b2 b3 b4 : Sl} {p : Int}
end
theorem mul_form {p c l t : Int} (hp : P4 p) (hc : c % p ≠ 0) (hl : l % p ≠ 0) (it : Inv1 p l t) {f : Int → Int} (hf : ∀ x, f x % p = c * x % p) (xs : List Int) : ∃ u, Inv1 p (c * l % p) u ∧ fmI p u (xs.map f) = fmI p t xs := by
  have h1 : (c * l % p) % p ≠ 0 := by rw [Int.emod_emod_of_dvd _ (Int.dvd_refl p)]; exact nz_mul hp hc hl
  obtain ⟨u, u1, u2, u3⟩ := inv_ex hp h1
  refine ⟨u, ⟨u1, u2, u3⟩, ?_⟩
  unfold fmI
  rw [List.map_map]
  refine List.map_congr_left fun x _ => ?_
  show u * (f x % p) % p = t * (x % p) % p
  have u4 : c * l * u % p = 1 := by rw [← u3, Int.mul_emod (c * l % p) u p, Int.emod_emod_of_dvd _ (Int.dvd_refl p), ← Int.mul_emod]
  have e1 : u * (f x % p) % p = u * (c * x) % p := by rw [hf, Int.mul_emod u (c * x % p) p, Int.emod_emod_of_dvd _ (Int.dvd_refl p), ← Int.mul_emod]
  have e2 : t * (x % p) % p = t * x % p := by rw [Int.mul_emod t (x % p) p, Int.emod_emod_of_dvd _ (Int.dvd_refl p), ← Int.mul_emod]
  have e3 : u * (c * x) % p = (l * t) * (u * (c * x)) % p := by rw [Int.mul_emod (l * t) _ p, it.2.2, Int.one_mul, Int.emod_emod_of_dvd _ (Int.dvd_refl p)]
  have e4 : t * x % p = (c * l * u) * (t * x) % p := by rw [Int.mul_emod (c * l * u) _ p, u4, Int.one_mul, Int.emod_emod_of_dvd _ (Int.dvd_refl p)]
  rw [e1, e2, e3, e4]
  congr 1
  grind
section
variable {Γ : Gam} {ns : List Int} {a1 a4 a6 a7 a8 a9 b2 b3 b4 : Sl} {p m : Int} {xs : List Int}
end
end OvC
end
section
set_option linter.all false
set_option maxRecDepth 100000
set_option maxHeartbeats 4000000
namespace OvC
open PySem Ov
noncomputable def Cg (p x y : Int) : Prop := x % p = y % p
section
variable {p a b c d : Int}
theorem Cg.rfl : Cg p a a := Eq.refl _
theorem Cg.of (h : a = b) : Cg p a b := by unfold Cg; rw [h]
theorem Cg.trans {a b c : Int} (h : Cg p a b) (g : Cg p b c) : Cg p a c := Eq.trans h g
theorem Cg.symm (h : Cg p a b) : Cg p b a := Eq.symm h
theorem Cg.add (h : Cg p a b) (g : Cg p c d) : Cg p (a + c) (b + d) := by unfold Cg at *; rw [Int.add_emod, h, g, ← Int.add_emod]
theorem Cg.sub (h : Cg p a b) (g : Cg p c d) : Cg p (a - c) (b - d) := by unfold Cg at *; rw [Int.sub_emod, h, g, ← Int.sub_emod]
theorem Cg.mul (h : Cg p a b) (g : Cg p c d) : Cg p (a * c) (b * d) := by unfold Cg at *; rw [Int.mul_emod, h, g, ← Int.mul_emod]
theorem Cg.md (h : a = b % p) : Cg p a b := by unfold Cg; rw [h, Int.emod_emod_of_dvd _ (Int.dvd_refl p)]
end
theorem det_cg {p a0 a1 a2 b0 b1 b2 c0 c1 c2 x0 x1 x2 y0 y1 y2 z0 z1 z2 : Int} (h0 : Cg p a0 x0) (h1 : Cg p a1 x1) (h2 : Cg p a2 x2) (h3 : Cg p b0 y0) (h4 : Cg p b1 y1) (h5 : Cg p b2 y2) (h6 : Cg p c0 z0) (h7 : Cg p c1 z1) (h8 : Cg p c2 z2) :
    Cg p (a0 * (b1 * c2 - b2 * c1) - a1 * (b0 * c2 - b2 * c0) + a2 * (b0 * c1 - b1 * c0)) (x0 * (y1 * z2 - y2 * z1) - x1 * (y0 * z2 - y2 * z0) + x2 * (y0 * z1 - y1 * z0)) :=
  ((h0.mul ((h4.mul h8).sub (h5.mul h7))).sub (h1.mul ((h3.mul h8).sub (h5.mul h6)))).add (h2.mul ((h3.mul h7).sub (h4.mul h6)))
theorem P4.m1 {p : Int} (h : P4 p) : (-1 : Int) % p ≠ 0 := by rcases h with rfl | rfl | rfl | rfl <;> decide
theorem P4.o1 {p : Int} (h : P4 p) : (1 : Int) % p ≠ 0 := by rcases h with rfl | rfl | rfl | rfl <;> decide
noncomputable abbrev R3 := Int × Int × Int
noncomputable def rowD (a : R3) : D := .lst [.int a.1, .int a.2.1, .int a.2.2]
noncomputable def det3 (a b c : R3) : Int := det a.1 a.2.1 a.2.2 b.1 b.2.1 b.2.2 c.1 c.2.1 c.2.2
noncomputable def In3 (p : Int) (a : R3) : Prop := (0 ≤ a.1 ∧ a.1 < p) ∧ (0 ≤ a.2.1 ∧ a.2.1 < p) ∧ (0 ≤ a.2.2 ∧ a.2.2 < p)
structure GoodR (p : Int) (a b c : R3) : Prop where
  p4 : P4 p
  ia : In3 p a
  ib : In3 p b
  ic : In3 p c
  nz : det3 a b c % p ≠ 0
theorem GoodR.of {p k : Int} {a b c a' b' c' : R3} (h : GoodR p a b c) (hk : k % p ≠ 0) (e : Cg p (det3 a' b' c') (k * det3 a b c)) (hin : In3 p a' ∧ In3 p b' ∧ In3 p c') : GoodR p a' b' c' := ⟨h.p4, hin.1, hin.2.1, hin.2.2, by rw [show det3 a' b' c' % p = _ from e]; exact nz_mul h.p4 hk h.nz⟩
noncomputable def mulR (t : Int) (a : R3) : R3 := (a.1 * t, a.2.1 * t, a.2.2 * t)
noncomputable def addR (t : Int) (a b : R3) : R3 := (a.1 + t * b.1, a.2.1 + t * b.2.1, a.2.2 + t * b.2.2)
noncomputable def mdR (p : Int) (a : R3) : R3 := (a.1 % p, a.2.1 % p, a.2.2 % p)
noncomputable def scR (p t : Int) (a : R3) : R3 := mdR p (mulR t a)
noncomputable def adR (p t : Int) (a b : R3) : R3 := mdR p (addR t a b)
theorem md_in {p : Int} (h : 0 < p) (a : R3) : In3 p (mdR p a) := ⟨⟨Int.emod_nonneg _ (by omega), Int.emod_lt_of_pos _ h⟩, ⟨Int.emod_nonneg _ (by omega), Int.emod_lt_of_pos _ h⟩, ⟨Int.emod_nonneg _ (by omega), Int.emod_lt_of_pos _ h⟩⟩
theorem sc_in {p : Int} (h : 0 < p) (t : Int) (a : R3) : In3 p (scR p t a) := md_in h _
theorem ad_in {p : Int} (h : 0 < p) (t : Int) (a b : R3) : In3 p (adR p t a b) := md_in h _
theorem dsc0 (p t : Int) (a b c : R3) : Cg p (det3 (scR p t a) b c) (t * det3 a b c) := by
  refine Cg.trans (b := det3 (mulR t a) b c) ?_ (Cg.of (by unfold det3 det mulR; grind))
  unfold det3 det
  exact det_cg (Cg.md (by rfl)) (Cg.md (by rfl)) (Cg.md (by rfl)) Cg.rfl Cg.rfl Cg.rfl Cg.rfl Cg.rfl Cg.rfl
theorem dad01 (p t : Int) (a b c : R3) : Cg p (det3 (adR p t a b) b c) (1 * det3 a b c) := by
  refine Cg.trans (b := det3 (addR t a b) b c) ?_ (Cg.of (by unfold det3 det addR; grind))
  unfold det3 det
  exact det_cg (Cg.md (by rfl)) (Cg.md (by rfl)) (Cg.md (by rfl)) Cg.rfl Cg.rfl Cg.rfl Cg.rfl Cg.rfl Cg.rfl
theorem dad02 (p t : Int) (a b c : R3) : Cg p (det3 (adR p t a c) b c) (1 * det3 a b c) := by
  refine Cg.trans (b := det3 (addR t a c) b c) ?_ (Cg.of (by unfold det3 det addR; grind))
  unfold det3 det
  exact det_cg (Cg.md (by rfl)) (Cg.md (by rfl)) (Cg.md (by rfl)) Cg.rfl Cg.rfl Cg.rfl Cg.rfl Cg.rfl Cg.rfl
theorem dsc1 (p t : Int) (a b c : R3) : Cg p (det3 a (scR p t b) c) (t * det3 a b c) := by
  refine Cg.trans (b := det3 a (mulR t b) c) ?_ (Cg.of (by unfold det3 det mulR; grind))
  unfold det3 det
  exact det_cg Cg.rfl Cg.rfl Cg.rfl (Cg.md (by rfl)) (Cg.md (by rfl)) (Cg.md (by rfl)) Cg.rfl Cg.rfl Cg.rfl
theorem dad10 (p t : Int) (a b c : R3) : Cg p (det3 a (adR p t b a) c) (1 * det3 a b c) := by
  refine Cg.trans (b := det3 a (addR t b a) c) ?_ (Cg.of (by unfold det3 det addR; grind))
  unfold det3 det
  exact det_cg Cg.rfl Cg.rfl Cg.rfl (Cg.md (by rfl)) (Cg.md (by rfl)) (Cg.md (by rfl)) Cg.rfl Cg.rfl Cg.rfl
theorem dad12 (p t : Int) (a b c : R3) : Cg p (det3 a (adR p t b c) c) (1 * det3 a b c) := by
  refine Cg.trans (b := det3 a (addR t b c) c) ?_ (Cg.of (by unfold det3 det addR; grind))
  unfold det3 det
  exact det_cg Cg.rfl Cg.rfl Cg.rfl (Cg.md (by rfl)) (Cg.md (by rfl)) (Cg.md (by rfl)) Cg.rfl Cg.rfl Cg.rfl
theorem dsc2 (p t : Int) (a b c : R3) : Cg p (det3 a b (scR p t c)) (t * det3 a b c) := by
  refine Cg.trans (b := det3 a b (mulR t c)) ?_ (Cg.of (by unfold det3 det mulR; grind))
  unfold det3 det
  exact det_cg Cg.rfl Cg.rfl Cg.rfl Cg.rfl Cg.rfl Cg.rfl (Cg.md (by rfl)) (Cg.md (by rfl)) (Cg.md (by rfl))
theorem dad20 (p t : Int) (a b c : R3) : Cg p (det3 a b (adR p t c a)) (1 * det3 a b c) := by
  refine Cg.trans (b := det3 a b (addR t c a)) ?_ (Cg.of (by unfold det3 det addR; grind))
  unfold det3 det
  exact det_cg Cg.rfl Cg.rfl Cg.rfl Cg.rfl Cg.rfl Cg.rfl (Cg.md (by rfl)) (Cg.md (by rfl)) (Cg.md (by rfl))
theorem dad21 (p t : Int) (a b c : R3) : Cg p (det3 a b (adR p t c b)) (1 * det3 a b c) := by
  refine Cg.trans (b := det3 a b (addR t c b)) ?_ (Cg.of (by unfold det3 det addR; grind))
  unfold det3 det
  exact det_cg Cg.rfl Cg.rfl Cg.rfl Cg.rfl Cg.rfl Cg.rfl (Cg.md (by rfl)) (Cg.md (by rfl)) (Cg.md (by rfl))/-! ### draws -/
noncomputable def cell2 (ns : List Int) (k : Int) : Int := if k < ns.length then ns.getD k.toNat 0 else 0
noncomputable def mix2 (ns : List Int) (k : Int) : Int := (cell2 ns k % 1000003 + 7919 * k + 11) * 48271 % 1000033 * 69621 % 999983
theorem mix2_nn (ns k) : 0 ≤ mix2 ns k := by unfold mix2; omega
noncomputable def c_law_mixed_v2 : Df := ⟨3, false, (.cons (.asg 2 false (.int 0)) (.cons (.ife (.cmp .Lt (.var 1) (.bi .len (.cons (.var 0) .nil))) (.cons (.asg 2 false (.idx (.var 0) (.var 1))) .nil) .nil) (.cons (.ret (.bin .Mod (.bin .Mult (.bin .Mod (.bin .Mult (.bin .Add (.bin .Add (.bin .Mod (.var 2) (.int 1000003)) (.bin .Mult (.int 7919) (.var 1))) (.int 11)) (.int 48271)) (.int 1000033)) (.int 69621)) (.int 999983))) .nil)))⟩
noncomputable def S_mix2 (Γ : Gam) : Prop := ∀ (ns : List Int) (k : Int), 0 ≤ k → Γ.F 79 [scr ns, .int k] = .ok (.int (mix2 ns k))
theorem get_scr {ns : List Int} {k : Int} (h0 : 0 ≤ k) (h1 : k < ns.length) : getL (ns.map D.int) k = .ok (.int (ns.getD k.toNat 0)) := getL_pos h0 (by
  have : k.toNat < ns.length := by omega
  simp [this])
theorem r_mix2 (Γ : Gam) (ns : List Int) (k : Int) (h0 : 0 ≤ k) : c_law_mixed_v2.run Γ [scr ns, .int k] = .ok (.int (mix2 ns k)) := by
  have m1 : mulOk 7919 k = true := mulOk_l (by decide) (by decide)
  have m2 : ∀ x, mulOk x 48271 = true := fun x => mulOk_r (by decide) (by decide)
  have m3 : ∀ x, mulOk x 69621 = true := fun x => mulOk_r (by decide) (by decide)
  by_cases h1 : k < ns.length
  · have g := get_scr h0 h1
    have c : cell2 ns k = ns.getD k.toNat 0 := by unfold cell2; rw [if_pos h1]
    simp at g c
    simp [c_law_mixed_v2, Df.run, startR, h1, g, m1, m2, m3, mix2, c]
  · have c : cell2 ns k = 0 := by unfold cell2; rw [if_neg h1]
    simp [c_law_mixed_v2, Df.run, startR, h1, m1, m2, m3, mix2, c]
noncomputable def c_law_prime_v2 : Df := ⟨1, false, (.cons (.ret (.idx (.lst (.cons (.int 3) (.cons (.int 5) (.cons (.int 7) (.cons (.int 11) .nil))))) (.bin .Mod (.call 79 (.cons (.var 0) (.cons (.int 0) .nil))) (.int 4)))) .nil)⟩
theorem r_prime2 {Γ : Gam} (h : S_mix2 Γ) (ns : List Int) : c_law_prime_v2.run Γ [scr ns] = .ok (.int (pr4 (mix2 ns 0))) := by
  simp [c_law_prime_v2, Df.run, startR, h ns 0 (by decide), getL_pr4]
noncomputable def c_law_steps : Df := ⟨2, false, (.cons (.ret (.bi .max (.cons (.int 2) (.cons (.bi .min (.cons (.int 24) (.cons (.bin .Sub (.bi .len (.cons (.var 0) .nil)) (.var 1)) .nil))) .nil)))) .nil)⟩
theorem r_steps (Γ : Gam) (ns : List Int) (k : Int) : ∃ n, 0 ≤ n ∧ n ≤ 24 ∧ c_law_steps.run Γ [scr ns, .int k] = .ok (.int n) := by
  refine ⟨_, ?_, ?_, by simp [c_law_steps, Df.run, startR]; rfl⟩
  · split <;> first | omega | (split <;> omega)
  · split <;> first | omega | (split <;> omega)
noncomputable def c_law_rows_q0 : E := (.bl true)
noncomputable def c_law_rows_e0 : E := (.bin .Mod (.bin .Mult (.var 13) (.var 9)) (.var 1))
noncomputable def c_law_rows_q1 : E := (.bl true)
noncomputable def c_law_rows_e1 : E := (.bin .Mod (.bin .Add (.idx (.var 11) (.var 14)) (.bin .Mult (.var 9) (.idx (.var 12) (.var 14)))) (.var 1))
noncomputable def c_law_rows_f0 : Ss := (.cons (.asg 6 false (.call 79 (.cons (.var 0) (.cons (.bin .Add (.var 2) (.var 5)) .nil)))) (.cons (.asg 7 false (.bin .Mod (.var 6) (.int 3))) (.cons (.asg 8 false (.bin .Mod (.bin .Add (.bin .Add (.var 7) (.int 1)) (.bin .Mod (.bin .FloorDiv (.var 6) (.int 3)) (.int 2))) (.int 3))) (.cons (.asg 9 false (.bin .Add (.int 1) (.bin .Mod (.bin .FloorDiv (.var 6) (.int 6)) (.bin .Sub (.var 1) (.int 1))))) (.cons (.ife (.cmp .Eq (.bin .Mod (.bin .FloorDiv (.var 6) (.int 66)) (.int 3)) (.int 0)) (.cons (.asg 10 false (.idx (.var 4) (.var 7))) (.cons (.put 4 (.var 7) (.idx (.var 4) (.var 8))) (.cons (.put 4 (.var 8) (.var 10)) .nil))) (.cons (.ife (.cmp .Eq (.bin .Mod (.bin .FloorDiv (.var 6) (.int 66)) (.int 9)) (.int 1)) (.cons (.put 4 (.var 7) (.comp c_law_rows_e0 13 (.e (.idx (.var 4) (.var 7))) c_law_rows_q0)) .nil) (.cons (.asg 11 false (.idx (.var 4) (.var 7))) (.cons (.asg 12 false (.idx (.var 4) (.var 8))) (.cons (.put 4 (.var 7) (.comp c_law_rows_e1 14 (.rng (.int 3)) c_law_rows_q1)) .nil)))) .nil)) .nil)))))
noncomputable def c_law_rows : Df := ⟨15, true, (.cons (.asg 4 true (.lst (.cons (.lst (.cons (.int 1) (.cons (.int 0) (.cons (.int 0) .nil)))) (.cons (.lst (.cons (.int 0) (.cons (.int 1) (.cons (.int 0) .nil)))) (.cons (.lst (.cons (.int 0) (.cons (.int 0) (.cons (.int 1) .nil)))) .nil))))) (.cons (.fors 5 (.rng (.var 3)) c_law_rows_f0) (.cons (.ret (.var 4)) .nil)))⟩
noncomputable abbrev ownR (a b c : R3) : Sl := some (.lst [rowD a, rowD b, rowD c], true)
section
variable {Γ : Gam} {ns : List Int} {at_ many s5 s0 s1 s2 : Sl} {p t m : Int} {a b c : R3}
theorem cp_sc {ρ : Rho} (r : R3) (e1 : varT ρ 9 = .ok (.int t)) (e2 : varT ρ 1 = .ok (.int p)) (hl : 13 < ρ.length) (hp : 0 < p) (mt : ∀ x, mulOk x t = true) : compD (cG Γ ρ 13 c_law_rows_q0) (cF Γ ρ 13 c_law_rows_e0) [.int r.1, .int r.2.1, .int r.2.2] = .ok [.int (scR p t r).1, .int (scR p t r).2.1, .int (scR p t r).2.2] := by
  have key : ∀ x : Int, cF Γ ρ 13 c_law_rows_e0 (.int x) = .ok (.int (x * t % p)) := fun x => by
    have v13 : varT (ρ.set 13 (some (.int x, false))) 13 = .ok (.int x) := by unfold varT; rw [List.getElem?_set_self hl]
    have v9 : varT (ρ.set 13 (some (.int x, false))) 9 = .ok (.int t) := by unfold varT at e1 ⊢; rw [List.getElem?_set_ne (by decide)]; exact e1
    have v1 : varT (ρ.set 13 (some (.int x, false))) 1 = .ok (.int p) := by unfold varT at e2 ⊢; rw [List.getElem?_set_ne (by decide)]; exact e2
    show (((varT (ρ.set 13 (some (.int x, false))) 13).bind fun y => (varT (ρ.set 13 (some (.int x, false))) 9).bind fun z => binD .Mult y z).bind fun y => (varT (ρ.set 13 (some (.int x, false))) 1).bind fun z => binD .Mod y z) = _
    rw [v13, v9, v1]
    simp [mt, hp]
  have := comp_ints (g := cG Γ ρ 13 c_law_rows_q0) (f := cF Γ ρ 13 c_law_rows_e0) (φ := fun x => x * t % p) [r.1, r.2.1, r.2.2] fun x _ => ⟨rfl, key x⟩
  exact this
theorem cp_ad {ρ : Rho} (r q : R3) (e9 : varT ρ 9 = .ok (.int t)) (e1 : varT ρ 1 = .ok (.int p)) (e11 : varT ρ 11 = .ok (rowD r)) (e12 : varT ρ 12 = .ok (rowD q)) (hl : 14 < ρ.length) (hp : 0 < p) (mt : ∀ x, mulOk t x = true) : compD (cG Γ ρ 14 c_law_rows_q1) (cF Γ ρ 14 c_law_rows_e1) [.int 0, .int 1, .int 2] = .ok [.int (adR p t r q).1, .int (adR p t r q).2.1, .int (adR p t r q).2.2] := by
  have key : ∀ (k : Int) (x y : Int), getL [.int r.1, .int r.2.1, .int r.2.2] k = .ok (.int x) → getL [.int q.1, .int q.2.1, .int q.2.2] k = .ok (.int y) → cF Γ ρ 14 c_law_rows_e1 (.int k) = .ok (.int ((x + t * y) % p)) := fun k x y hx hy => by
    have v14 : varT (ρ.set 14 (some (.int k, false))) 14 = .ok (.int k) := by unfold varT; rw [List.getElem?_set_self hl]
    have v9 : varT (ρ.set 14 (some (.int k, false))) 9 = .ok (.int t) := by unfold varT at e9 ⊢; rw [List.getElem?_set_ne (by decide)]; exact e9
    have v1 : varT (ρ.set 14 (some (.int k, false))) 1 = .ok (.int p) := by unfold varT at e1 ⊢; rw [List.getElem?_set_ne (by decide)]; exact e1
    have v11 : varT (ρ.set 14 (some (.int k, false))) 11 = .ok (rowD r) := by unfold varT at e11 ⊢; rw [List.getElem?_set_ne (by decide)]; exact e11
    have v12 : varT (ρ.set 14 (some (.int k, false))) 12 = .ok (rowD q) := by unfold varT at e12 ⊢; rw [List.getElem?_set_ne (by decide)]; exact e12
    show ((((varT (ρ.set 14 (some (.int k, false))) 11).bind fun y => (varT (ρ.set 14 (some (.int k, false))) 14).bind fun z => idxD y z).bind fun u => ((varT (ρ.set 14 (some (.int k, false))) 9).bind fun y => ((varT (ρ.set 14 (some (.int k, false))) 12).bind fun y => (varT (ρ.set 14 (some (.int k, false))) 14).bind fun z => idxD y z).bind fun z => binD .Mult y z).bind fun v => binD .Add u v).bind fun y => (varT (ρ.set 14 (some (.int k, false))) 1).bind fun z => binD .Mod y z) = _
    rw [v14, v9, v1, v11, v12]
    simp [rowD, hx, hy, mt, hp]
  have g : ∀ x, cG Γ ρ 14 c_law_rows_q1 x = .ok true := fun _ => rfl
  simp [compD, g, key 0 r.1 q.1 rfl rfl, key 1 r.2.1 q.2.1 rfl rfl, key 2 r.2.2 q.2.2 rfl rfl]
  exact ⟨rfl, rfl, rfl⟩
theorem rw_gen {L : List D} {i j : Int} {i' j' : Nat} {x y : R3} (hi : getL L i = .ok (rowD x)) (hj : getL L j = .ok (rowD y)) (pi : plD L.length i = some i') (pj : plD L.length j = some j') (p0 : 0 < p) (mt : ∀ x, mulOk x t = true) (mt2 : ∀ x, mulOk t x = true) :
    (m / 66 % 3 = 0 → evSs Γ [sh (scr ns), si p, at_, many, some (.lst L, true), s5, si m, si i, si j, si t, s0, s1, s2, none, none] (c_law_rows_f0.drop 4) = .next [sh (scr ns), si p, at_, many, some (.lst ((L.set i' (rowD y)).set j' (rowD x)), true), s5, si m, si i, si j, si t, sh (rowD x), s1, s2, none, none]) ∧
    (¬ m / 66 % 3 = 0 → m / 66 % 9 = 1 → evSs Γ [sh (scr ns), si p, at_, many, some (.lst L, true), s5, si m, si i, si j, si t, s0, s1, s2, none, none] (c_law_rows_f0.drop 4) = .next [sh (scr ns), si p, at_, many, some (.lst (L.set i' (rowD (scR p t x))), true), s5, si m, si i, si j, si t, s0, s1, s2, none, none]) ∧
    (¬ m / 66 % 3 = 0 → ¬ m / 66 % 9 = 1 → evSs Γ [sh (scr ns), si p, at_, many, some (.lst L, true), s5, si m, si i, si j, si t, s0, s1, s2, none, none] (c_law_rows_f0.drop 4) = .next [sh (scr ns), si p, at_, many, some (.lst (L.set i' (rowD (adR p t x y))), true), s5, si m, si i, si j, si t, s0, sh (rowD x), sh (rowD y), none, none]) := by
  refine ⟨fun k0 => ?_, fun k0 k1 => ?_, fun k0 k1 => ?_⟩
  · simp [c_law_rows_f0, Ss.drop, k0, evS_put, ownL, hi, hj, pi, pj]
  · have cp := cp_sc (Γ := Γ) (ρ := [sh (scr ns), si p, at_, many, some (.lst L, true), s5, si m, si i, si j, si t, s0, s1, s2, none, none]) x rfl rfl (by simp) p0 mt
    rw [rowD] at hi
    simp [c_law_rows_f0, Ss.drop, k0, k1, evS_put, ownL, hi, pi, cp]
    rfl
  · have cp := cp_ad (Γ := Γ) (ρ := [sh (scr ns), si p, at_, many, some (.lst L, true), s5, si m, si i, si j, si t, s0, sh (rowD x), sh (rowD y), none, none]) x y rfl rfl rfl rfl (by simp) p0 mt2
    simp [c_law_rows_f0, Ss.drop, k0, k1, evS_put, ownL, hi, hj, pi, range0_ok (hi := 3) (by decide) (by decide), rng3, cp]
    rfl
theorem rw_01 (h : GoodR p a b c) (ht : 0 < t ∧ t < p) : ∃ a' b' c' u0 u1 u2, GoodR p a' b' c' ∧ evSs Γ [sh (scr ns), si p, at_, many, ownR a b c, s5, si m, si 0, si 1, si t, s0, s1, s2, none, none] (c_law_rows_f0.drop 4) = .next [sh (scr ns), si p, at_, many, ownR a' b' c', s5, si m, si 0, si 1, si t, u0, u1, u2, none, none] := by
  have p0 := h.p4.pos
  have mt : ∀ x, mulOk x t = true := fun x => mulOk_r (by have := h.p4.hi; omega) (by have := h.p4.hi; omega)
  have mt2 : ∀ x, mulOk t x = true := fun x => mulOk_l (by have := h.p4.hi; omega) (by have := h.p4.hi; omega)
  have g := rw_gen (Γ := Γ) (ns := ns) (m := m) (at_ := at_) (many := many) (s5 := s5) (s0 := s0) (s1 := s1) (s2 := s2) (L := [rowD a, rowD b, rowD c]) (i := 0) (j := 1) (i' := 0) (j' := 1) (x := a) (y := b) rfl rfl rfl rfl p0 mt mt2
  by_cases k0 : m / 66 % 3 = 0
  · refine ⟨b, a, c, sh (rowD a), s1, s2, ?_, ?_⟩
    · exact h.of (k := -1) h.p4.m1 (Cg.of (by unfold det3 det; grind)) ⟨h.ib, h.ia, h.ic⟩
    · exact g.1 k0
  · by_cases k1 : m / 66 % 9 = 1
    · refine ⟨(scR p t a), b, c, s0, s1, s2, ?_, ?_⟩
      · exact h.of (k := t) (by rw [Int.emod_eq_of_lt (by omega) ht.2]; omega) (dsc0 p t a b c) ⟨sc_in p0 _ _, h.ib, h.ic⟩
      · exact g.2.1 k0 k1
    · refine ⟨(adR p t a b), b, c, s0, sh (rowD a), sh (rowD b), ?_, ?_⟩
      · exact h.of (k := 1) h.p4.o1 (dad01 p t a b c) ⟨ad_in p0 _ _ _, h.ib, h.ic⟩
      · exact g.2.2 k0 k1
theorem rw_02 (h : GoodR p a b c) (ht : 0 < t ∧ t < p) : ∃ a' b' c' u0 u1 u2, GoodR p a' b' c' ∧ evSs Γ [sh (scr ns), si p, at_, many, ownR a b c, s5, si m, si 0, si 2, si t, s0, s1, s2, none, none] (c_law_rows_f0.drop 4) = .next [sh (scr ns), si p, at_, many, ownR a' b' c', s5, si m, si 0, si 2, si t, u0, u1, u2, none, none] := by
  have p0 := h.p4.pos
  have mt : ∀ x, mulOk x t = true := fun x => mulOk_r (by have := h.p4.hi; omega) (by have := h.p4.hi; omega)
  have mt2 : ∀ x, mulOk t x = true := fun x => mulOk_l (by have := h.p4.hi; omega) (by have := h.p4.hi; omega)
  have g := rw_gen (Γ := Γ) (ns := ns) (m := m) (at_ := at_) (many := many) (s5 := s5) (s0 := s0) (s1 := s1) (s2 := s2) (L := [rowD a, rowD b, rowD c]) (i := 0) (j := 2) (i' := 0) (j' := 2) (x := a) (y := c) rfl rfl rfl rfl p0 mt mt2
  by_cases k0 : m / 66 % 3 = 0
  · refine ⟨c, b, a, sh (rowD a), s1, s2, ?_, ?_⟩
    · exact h.of (k := -1) h.p4.m1 (Cg.of (by unfold det3 det; grind)) ⟨h.ic, h.ib, h.ia⟩
    · exact g.1 k0
  · by_cases k1 : m / 66 % 9 = 1
    · refine ⟨(scR p t a), b, c, s0, s1, s2, ?_, ?_⟩
      · exact h.of (k := t) (by rw [Int.emod_eq_of_lt (by omega) ht.2]; omega) (dsc0 p t a b c) ⟨sc_in p0 _ _, h.ib, h.ic⟩
      · exact g.2.1 k0 k1
    · refine ⟨(adR p t a c), b, c, s0, sh (rowD a), sh (rowD c), ?_, ?_⟩
      · exact h.of (k := 1) h.p4.o1 (dad02 p t a b c) ⟨ad_in p0 _ _ _, h.ib, h.ic⟩
      · exact g.2.2 k0 k1
theorem rw_10 (h : GoodR p a b c) (ht : 0 < t ∧ t < p) : ∃ a' b' c' u0 u1 u2, GoodR p a' b' c' ∧ evSs Γ [sh (scr ns), si p, at_, many, ownR a b c, s5, si m, si 1, si 0, si t, s0, s1, s2, none, none] (c_law_rows_f0.drop 4) = .next [sh (scr ns), si p, at_, many, ownR a' b' c', s5, si m, si 1, si 0, si t, u0, u1, u2, none, none] := by
  have p0 := h.p4.pos
  have mt : ∀ x, mulOk x t = true := fun x => mulOk_r (by have := h.p4.hi; omega) (by have := h.p4.hi; omega)
  have mt2 : ∀ x, mulOk t x = true := fun x => mulOk_l (by have := h.p4.hi; omega) (by have := h.p4.hi; omega)
  have g := rw_gen (Γ := Γ) (ns := ns) (m := m) (at_ := at_) (many := many) (s5 := s5) (s0 := s0) (s1 := s1) (s2 := s2) (L := [rowD a, rowD b, rowD c]) (i := 1) (j := 0) (i' := 1) (j' := 0) (x := b) (y := a) rfl rfl rfl rfl p0 mt mt2
  by_cases k0 : m / 66 % 3 = 0
  · refine ⟨b, a, c, sh (rowD b), s1, s2, ?_, ?_⟩
    · exact h.of (k := -1) h.p4.m1 (Cg.of (by unfold det3 det; grind)) ⟨h.ib, h.ia, h.ic⟩
    · exact g.1 k0
  · by_cases k1 : m / 66 % 9 = 1
    · refine ⟨a, (scR p t b), c, s0, s1, s2, ?_, ?_⟩
      · exact h.of (k := t) (by rw [Int.emod_eq_of_lt (by omega) ht.2]; omega) (dsc1 p t a b c) ⟨h.ia, sc_in p0 _ _, h.ic⟩
      · exact g.2.1 k0 k1
    · refine ⟨a, (adR p t b a), c, s0, sh (rowD b), sh (rowD a), ?_, ?_⟩
      · exact h.of (k := 1) h.p4.o1 (dad10 p t a b c) ⟨h.ia, ad_in p0 _ _ _, h.ic⟩
      · exact g.2.2 k0 k1
theorem rw_12 (h : GoodR p a b c) (ht : 0 < t ∧ t < p) : ∃ a' b' c' u0 u1 u2, GoodR p a' b' c' ∧ evSs Γ [sh (scr ns), si p, at_, many, ownR a b c, s5, si m, si 1, si 2, si t, s0, s1, s2, none, none] (c_law_rows_f0.drop 4) = .next [sh (scr ns), si p, at_, many, ownR a' b' c', s5, si m, si 1, si 2, si t, u0, u1, u2, none, none] := by
  have p0 := h.p4.pos
  have mt : ∀ x, mulOk x t = true := fun x => mulOk_r (by have := h.p4.hi; omega) (by have := h.p4.hi; omega)
  have mt2 : ∀ x, mulOk t x = true := fun x => mulOk_l (by have := h.p4.hi; omega) (by have := h.p4.hi; omega)
  have g := rw_gen (Γ := Γ) (ns := ns) (m := m) (at_ := at_) (many := many) (s5 := s5) (s0 := s0) (s1 := s1) (s2 := s2) (L := [rowD a, rowD b, rowD c]) (i := 1) (j := 2) (i' := 1) (j' := 2) (x := b) (y := c) rfl rfl rfl rfl p0 mt mt2
  by_cases k0 : m / 66 % 3 = 0
  · refine ⟨a, c, b, sh (rowD b), s1, s2, ?_, ?_⟩
    · exact h.of (k := -1) h.p4.m1 (Cg.of (by unfold det3 det; grind)) ⟨h.ia, h.ic, h.ib⟩
    · exact g.1 k0
  · by_cases k1 : m / 66 % 9 = 1
    · refine ⟨a, (scR p t b), c, s0, s1, s2, ?_, ?_⟩
      · exact h.of (k := t) (by rw [Int.emod_eq_of_lt (by omega) ht.2]; omega) (dsc1 p t a b c) ⟨h.ia, sc_in p0 _ _, h.ic⟩
      · exact g.2.1 k0 k1
    · refine ⟨a, (adR p t b c), c, s0, sh (rowD b), sh (rowD c), ?_, ?_⟩
      · exact h.of (k := 1) h.p4.o1 (dad12 p t a b c) ⟨h.ia, ad_in p0 _ _ _, h.ic⟩
      · exact g.2.2 k0 k1
theorem rw_20 (h : GoodR p a b c) (ht : 0 < t ∧ t < p) : ∃ a' b' c' u0 u1 u2, GoodR p a' b' c' ∧ evSs Γ [sh (scr ns), si p, at_, many, ownR a b c, s5, si m, si 2, si 0, si t, s0, s1, s2, none, none] (c_law_rows_f0.drop 4) = .next [sh (scr ns), si p, at_, many, ownR a' b' c', s5, si m, si 2, si 0, si t, u0, u1, u2, none, none] := by
  have p0 := h.p4.pos
  have mt : ∀ x, mulOk x t = true := fun x => mulOk_r (by have := h.p4.hi; omega) (by have := h.p4.hi; omega)
  have mt2 : ∀ x, mulOk t x = true := fun x => mulOk_l (by have := h.p4.hi; omega) (by have := h.p4.hi; omega)
  have g := rw_gen (Γ := Γ) (ns := ns) (m := m) (at_ := at_) (many := many) (s5 := s5) (s0 := s0) (s1 := s1) (s2 := s2) (L := [rowD a, rowD b, rowD c]) (i := 2) (j := 0) (i' := 2) (j' := 0) (x := c) (y := a) rfl rfl rfl rfl p0 mt mt2
  by_cases k0 : m / 66 % 3 = 0
  · refine ⟨c, b, a, sh (rowD c), s1, s2, ?_, ?_⟩
    · exact h.of (k := -1) h.p4.m1 (Cg.of (by unfold det3 det; grind)) ⟨h.ic, h.ib, h.ia⟩
    · exact g.1 k0
  · by_cases k1 : m / 66 % 9 = 1
    · refine ⟨a, b, (scR p t c), s0, s1, s2, ?_, ?_⟩
      · exact h.of (k := t) (by rw [Int.emod_eq_of_lt (by omega) ht.2]; omega) (dsc2 p t a b c) ⟨h.ia, h.ib, sc_in p0 _ _⟩
      · exact g.2.1 k0 k1
    · refine ⟨a, b, (adR p t c a), s0, sh (rowD c), sh (rowD a), ?_, ?_⟩
      · exact h.of (k := 1) h.p4.o1 (dad20 p t a b c) ⟨h.ia, h.ib, ad_in p0 _ _ _⟩
      · exact g.2.2 k0 k1
theorem rw_21 (h : GoodR p a b c) (ht : 0 < t ∧ t < p) : ∃ a' b' c' u0 u1 u2, GoodR p a' b' c' ∧ evSs Γ [sh (scr ns), si p, at_, many, ownR a b c, s5, si m, si 2, si 1, si t, s0, s1, s2, none, none] (c_law_rows_f0.drop 4) = .next [sh (scr ns), si p, at_, many, ownR a' b' c', s5, si m, si 2, si 1, si t, u0, u1, u2, none, none] := by
  have p0 := h.p4.pos
  have mt : ∀ x, mulOk x t = true := fun x => mulOk_r (by have := h.p4.hi; omega) (by have := h.p4.hi; omega)
  have mt2 : ∀ x, mulOk t x = true := fun x => mulOk_l (by have := h.p4.hi; omega) (by have := h.p4.hi; omega)
  have g := rw_gen (Γ := Γ) (ns := ns) (m := m) (at_ := at_) (many := many) (s5 := s5) (s0 := s0) (s1 := s1) (s2 := s2) (L := [rowD a, rowD b, rowD c]) (i := 2) (j := 1) (i' := 2) (j' := 1) (x := c) (y := b) rfl rfl rfl rfl p0 mt mt2
  by_cases k0 : m / 66 % 3 = 0
  · refine ⟨a, c, b, sh (rowD c), s1, s2, ?_, ?_⟩
    · exact h.of (k := -1) h.p4.m1 (Cg.of (by unfold det3 det; grind)) ⟨h.ia, h.ic, h.ib⟩
    · exact g.1 k0
  · by_cases k1 : m / 66 % 9 = 1
    · refine ⟨a, b, (scR p t c), s0, s1, s2, ?_, ?_⟩
      · exact h.of (k := t) (by rw [Int.emod_eq_of_lt (by omega) ht.2]; omega) (dsc2 p t a b c) ⟨h.ia, h.ib, sc_in p0 _ _⟩
      · exact g.2.1 k0 k1
    · refine ⟨a, b, (adR p t c b), s0, sh (rowD c), sh (rowD b), ?_, ?_⟩
      · exact h.of (k := 1) h.p4.o1 (dad21 p t a b c) ⟨h.ia, h.ib, ad_in p0 _ _ _⟩
      · exact g.2.2 k0 k1
end
end OvC
end
section
set_option linter.all false
set_option maxRecDepth 100000
set_option maxHeartbeats 4000000
namespace OvC
open PySem Ov
section
variable {Γ : Gam} {ns : List Int} {many s5 s6 s7 s8 s9 s0 s1 s2 : Sl} {p : Int} {a b c : R3}
theorem turn_rows (hm : S_mix2 Γ) (h : GoodR p a b c) {at_ k : Int} (ha : 0 ≤ at_) (hk : 0 ≤ k) : ∃ a' b' c' v6 v7 v8 v9 v0 v1 v2, GoodR p a' b' c' ∧ forB Γ 5 c_law_rows_f0 (.int k) [sh (scr ns), si p, si at_, many, ownR a b c, s5, s6, s7, s8, s9, s0, s1, s2, none, none] = .next [sh (scr ns), si p, si at_, many, ownR a' b' c', si k, v6, v7, v8, v9, v0, v1, v2, none, none] := by
  have p0 := h.p4.pos
  have pl := h.p4.lo
  have e0 := hm ns (at_ + k) (by omega)
  have m0 := mix2_nn ns (at_ + k)
  generalize mix2 ns (at_ + k) = m at e0 m0
  have q1 : 0 < p - 1 := by omega
  have q2 : 1 < p := by omega
  have t0 : 0 < 1 + m / 6 % (p - 1) := by have := Int.emod_nonneg (m / 6) (b := p - 1) (by omega); omega
  have t1 : 1 + m / 6 % (p - 1) < p := by have := Int.emod_lt_of_pos (m / 6) q1; omega
  generalize ht : 1 + m / 6 % (p - 1) = t at t0 t1
  generalize hi : m % 3 = i
  generalize hj : (i + 1 + m / 3 % 2) % 3 = j
  have hd : evSs Γ [sh (scr ns), si p, si at_, many, ownR a b c, si k, s6, s7, s8, s9, s0, s1, s2, none, none] (c_law_rows_f0.take 4) = .next [sh (scr ns), si p, si at_, many, ownR a b c, si k, si m, si i, si j, si t, s0, s1, s2, none, none] := by
    simp [c_law_rows_f0, Ss.take, e0, hi, hj, q1, q2, ht]
  have ij : (i = 0 ∧ j = 1) ∨ (i = 0 ∧ j = 2) ∨ (i = 1 ∧ j = 0) ∨ (i = 1 ∧ j = 2) ∨ (i = 2 ∧ j = 0) ∨ (i = 2 ∧ j = 1) := by omega
  have tl : ∃ a' b' c' u0 u1 u2, GoodR p a' b' c' ∧ evSs Γ [sh (scr ns), si p, si at_, many, ownR a b c, si k, si m, si i, si j, si t, s0, s1, s2, none, none] (c_law_rows_f0.drop 4) = .next [sh (scr ns), si p, si at_, many, ownR a' b' c', si k, si m, si i, si j, si t, u0, u1, u2, none, none] := by
    rcases ij with ⟨rfl, rfl⟩ | ⟨rfl, rfl⟩ | ⟨rfl, rfl⟩ | ⟨rfl, rfl⟩ | ⟨rfl, rfl⟩ | ⟨rfl, rfl⟩
    · exact rw_01 h ⟨t0, t1⟩
    · exact rw_02 h ⟨t0, t1⟩
    · exact rw_10 h ⟨t0, t1⟩
    · exact rw_12 h ⟨t0, t1⟩
    · exact rw_20 h ⟨t0, t1⟩
    · exact rw_21 h ⟨t0, t1⟩
  obtain ⟨a', b', c', u0, u1, u2, g, e⟩ := tl
  refine ⟨a', b', c', si m, si i, si j, si t, u0, u1, u2, g, ?_⟩
  unfold forB
  rw [evSs_cut Γ 4]
  have hd' : evSs Γ (List.set [sh (scr ns), si p, si at_, many, ownR a b c, s5, s6, s7, s8, s9, s0, s1, s2, none, none] 5 (some (.int k, false))) (c_law_rows_f0.take 4) = .next [sh (scr ns), si p, si at_, many, ownR a b c, si k, si m, si i, si j, si t, s0, s1, s2, none, none] := hd
  rw [hd']
  exact e
end
noncomputable def rowsD (a b c : R3) : D := .lst [rowD a, rowD b, rowD c]
theorem r_rows {Γ : Gam} (hm : S_mix2 Γ) (ns : List Int) (p at_ n : Int) (hp : P4 p) (ha : 0 ≤ at_) (n0 : 0 ≤ n) (n1 : n ≤ 24) : ∃ a b c, GoodR p a b c ∧ c_law_rows.run Γ [scr ns, .int p, .int at_, .int n] = .ok (rowsD a b c) := by
  have p1 := hp.lo
  have g0 : GoodR p (1, 0, 0) (0, 1, 0) (0, 0, 1) := by
    refine ⟨hp, ⟨⟨by decide, by show (1 : Int) < p; omega⟩, ⟨by decide, by show (0 : Int) < p; omega⟩, ⟨by decide, by show (0 : Int) < p; omega⟩⟩, ⟨⟨by decide, by show (0 : Int) < p; omega⟩, ⟨by decide, by show (1 : Int) < p; omega⟩, ⟨by decide, by show (0 : Int) < p; omega⟩⟩, ⟨⟨by decide, by show (0 : Int) < p; omega⟩, ⟨by decide, by show (0 : Int) < p; omega⟩, ⟨by decide, by show (1 : Int) < p; omega⟩⟩, ?_⟩
    show (1 : Int) % p ≠ 0
    exact hp.o1
  obtain ⟨ρ', e, a, b, c, s5, s6, s7, s8, s9, s0, s1, s2, g, rfl⟩ := forD_inv (body := forB Γ 5 c_law_rows_f0) (fun ρ => ∃ a b c s5 s6 s7 s8 s9 s0 s1 s2, GoodR p a b c ∧ ρ = [sh (scr ns), si p, si at_, si n, ownR a b c, s5, s6, s7, s8, s9, s0, s1, s2, none, none]) (rngD 0 n.toNat)
    [sh (scr ns), si p, si at_, si n, ownR (1, 0, 0) (0, 1, 0) (0, 0, 1), none, none, none, none, none, none, none, none, none, none] ⟨_, _, _, _, _, _, _, _, _, _, _, g0, rfl⟩ (by
      rintro x hx ρ ⟨a, b, c, s5, s6, s7, s8, s9, s0, s1, s2, g, rfl⟩
      obtain ⟨k, _, rfl⟩ := mem_rngD hx
      obtain ⟨a', b', c', v6, v7, v8, v9, v0, v1, v2, g', q⟩ := turn_rows (Γ := Γ) (ns := ns) (many := si n) (s5 := s5) (s6 := s6) (s7 := s7) (s8 := s8) (s9 := s9) (s0 := s0) (s1 := s1) (s2 := s2) hm g (k := 0 + (k : Int)) ha (by omega)
      exact ⟨_, q, a', b', c', _, _, _, _, _, _, _, _, g', rfl⟩)
  refine ⟨a, b, c, g, ?_⟩
  have e' : forD (forB Γ 5 c_law_rows_f0) (rngD 0 n.toNat) [sh (scr ns), si p, si at_, si n, some (.lst [.lst [.int 1, .int 0, .int 0], .lst [.int 0, .int 1, .int 0], .lst [.int 0, .int 0, .int 1]], true), none, none, none, none, none, none, none, none, none, none] = _ := e
  simp [c_law_rows, Df.run, startR, range0_ok n0 (by omega), newE, e', isL]
  rfl
noncomputable def c_law_form_v2_q0 : E := (.bl true)
noncomputable def c_law_form_v2_e0 : E := (.bin .Mod (.var 5) (.var 0))
noncomputable def c_law_form_v2_q1 : E := (.cmp .Gt (.var 6) (.int 0))
noncomputable def c_law_form_v2_e1 : E := (.var 6)
noncomputable def c_law_form_v2_q2 : E := (.cmp .Eq (.bin .Mod (.bin .Mult (.var 7) (.var 3)) (.var 0)) (.int 1))
noncomputable def c_law_form_v2_e2 : E := (.var 7)
noncomputable def c_law_form_v2_q3 : E := (.bl true)
noncomputable def c_law_form_v2_e3 : E := (.bin .Mod (.bin .Mult (.var 8) (.var 4)) (.var 0))
noncomputable def c_law_form_v2 : Df := ⟨9, false, (.cons (.asg 2 false (.comp c_law_form_v2_e0 5 (.e (.var 1)) c_law_form_v2_q0)) (.cons (.asg 3 false (.idx (.comp c_law_form_v2_e1 6 (.e (.var 2)) c_law_form_v2_q1) (.int 0))) (.cons (.asg 4 false (.idx (.comp c_law_form_v2_e2 7 (.rng2 (.int 1) (.var 0)) c_law_form_v2_q2) (.int 0))) (.cons (.ret (.bi .tuple (.cons (.comp c_law_form_v2_e3 8 (.e (.var 2)) c_law_form_v2_q3) .nil))) .nil))))⟩
noncomputable def S_form2 (Γ : Gam) : Prop := ∀ (p : Int) (b : Bool) (xs : List Int) (l t : Int), P4 p → lead p xs = some l → Inv1 p l t → Γ.F 82 [.int p, seqD b xs] = .ok (.tup (ds (fmI p t xs)))
theorem r_form2 (Γ : Gam) {p : Int} {b : Bool} {xs : List Int} {l t : Int} (hp : P4 p) (e : lead p xs = some l) (it : Inv1 p l t) : c_law_form_v2.run Γ [.int p, seqD b xs] = .ok (.tup (ds (fmI p t xs))) := by
  have p0 := hp.pos
  have ph := hp.hi
  have c1 : compD (cG Γ [si p, sh (seqD b xs), none, none, none, none, none, none, none] 5 c_law_form_v2_q0) (cF Γ [si p, sh (seqD b xs), none, none, none, none, none, none, none] 5 c_law_form_v2_e0) (ds xs) = .ok (ds (xs.map fun x => x % p)) := by
    refine comp_ints xs fun x _ => ⟨rfl, ?_⟩
    simp [cF, c_law_form_v2_e0, p0]
  generalize hR : (xs.map fun x => x % p) = rs at c1
  have c2 : compD (cG Γ [si p, sh (seqD b xs), sh (.lst (ds rs)), none, none, none, none, none, none] 6 c_law_form_v2_q1) (cF Γ [si p, sh (seqD b xs), sh (.lst (ds rs)), none, none, none, none, none, none] 6 c_law_form_v2_e1) (ds rs) = .ok (ds (rs.filter fun r => decide (0 < r))) := by
    refine comp_filter rs fun x _ => ⟨?_, ?_⟩
    · simp [cG, c_law_form_v2_q1]
    · simp [cF, c_law_form_v2_e1]
  have hl := lead_filter p0 xs
  rw [hR, e] at hl
  generalize hL : (rs.filter fun r => decide (0 < r)) = ls at c2 hl
  have g0 := getL_head hl
  obtain ⟨_, l0, l1⟩ := lead_some p0 e
  have c3 : compD (cG Γ [si p, sh (seqD b xs), sh (.lst (ds rs)), si l, none, none, none, none, none] 7 c_law_form_v2_q2) (cF Γ [si p, sh (seqD b xs), sh (.lst (ds rs)), si l, none, none, none, none, none] 7 c_law_form_v2_e2) (ds (upTo p)) = .ok (ds ((upTo p).filter fun k => decide (k * l % p = 1))) := by
    refine comp_filter (upTo p) fun x hx => ⟨?_, ?_⟩
    · obtain ⟨x1, x2⟩ := mem_upTo.mp hx
      have m : mulOk x l = true := mulOk_l (by omega) (by omega)
      simp [cG, c_law_form_v2_q2, m, p0]
      rw [Bool.eq_iff_iff]
      simp
    · simp [cF, c_law_form_v2_e2]
  have g1 := getL_head (filter_one it)
  have c4 : compD (cG Γ [si p, sh (seqD b xs), sh (.lst (ds rs)), si l, si t, none, none, none, none] 8 c_law_form_v2_q3) (cF Γ [si p, sh (seqD b xs), sh (.lst (ds rs)), si l, si t, none, none, none, none] 8 c_law_form_v2_e3) (ds rs) = .ok (ds (rs.map fun r => t * r % p)) := by
    refine comp_ints rs fun x _ => ⟨rfl, ?_⟩
    have m : mulOk x t = true := mulOk_r (by have := it.1; omega) (by have := it.2.1; omega)
    simp [cF, c_law_form_v2_e3, m, p0, Int.mul_comm]
  have ru : rangeD 1 p = .ok (ds (upTo p)) := rng_upTo hp
  have fe : fmI p t xs = rs.map fun r => t * r % p := by rw [← hR]; simp [fmI, List.map_map, Function.comp_def]
  simp [c_law_form_v2, Df.run, startR, asSeq_seqD, c1, c2, g0, ru, c3, g1, c4, fe]
noncomputable def nine (a b c : R3) : List Int := [a.1, a.2.1, a.2.2, b.1, b.2.1, b.2.2, c.1, c.2.1, c.2.2]
noncomputable def trR (a : R3) : D := .tup [.int a.1, .int a.2.1, .int a.2.2]
noncomputable def tabD (a b c : R3) : D := .tup [trR a, trR b, trR c]
noncomputable def fmR (p t : Int) (a : R3) : R3 := (t * (a.1 % p) % p, t * (a.2.1 % p) % p, t * (a.2.2 % p) % p)
theorem fm_nine (p t : Int) (a b c : R3) : fmI p t (nine a b c) = nine (fmR p t a) (fmR p t b) (fmR p t c) := rfl
theorem lead_nine {p : Int} {a b c : R3} (h : det3 a b c % p ≠ 0) : ∃ l, lead p (nine a b c) = some l := by
  cases e : lead p (nine a b c) with
  | some l => exact ⟨l, rfl⟩
  | none =>
    refine absurd ?_ h
    have z := lead_none.mp e
    have q : ∀ x ∈ nine a b c, Cg p x 0 := fun x hx => by
      have := z x hx
      show x % p = 0 % p
      rw [this]; simp
    have := det_cg (p := p) (q a.1 (by simp [nine])) (q a.2.1 (by simp [nine])) (q a.2.2 (by simp [nine])) (q b.1 (by simp [nine])) (q b.2.1 (by simp [nine])) (q b.2.2 (by simp [nine])) (q c.1 (by simp [nine])) (q c.2.1 (by simp [nine])) (q c.2.2 (by simp [nine]))
    have e2 : det3 a b c % p = (0 * (0 * 0 - 0 * 0) - 0 * (0 * 0 - 0 * 0) + 0 * (0 * 0 - 0 * 0)) % p := this
    rw [e2]; simp
theorem cut3 (a b c : R3) : slD (.tup (ds (nine a b c))) none (some 3) = .ok (trR a) ∧ slD (.tup (ds (nine a b c))) (some 3) (some 6) = .ok (trR b) ∧ slD (.tup (ds (nine a b c))) (some 6) none = .ok (trR c) := ⟨rfl, rfl, rfl⟩
noncomputable def c_law_table : Df := ⟨3, false, (.cons (.asg 2 false (.call 82 (.cons (.var 0) (.cons (.bin .Add (.bin .Add (.idx (.var 1) (.int 0)) (.idx (.var 1) (.int 1))) (.idx (.var 1) (.int 2))) .nil)))) (.cons (.ret (.tup (.cons (.sl (.var 2) .non (.int 3)) (.cons (.sl (.var 2) (.int 3) (.int 6)) (.cons (.sl (.var 2) (.int 6) .non) .nil))))) .nil))⟩
noncomputable def S_table (Γ : Gam) : Prop := ∀ (p : Int) (a b c : R3) (l t : Int), P4 p → lead p (nine a b c) = some l → Inv1 p l t → Γ.F 84 [.int p, rowsD a b c] = .ok (tabD (fmR p t a) (fmR p t b) (fmR p t c))
theorem add_rows (a b c : R3) : binD .Add (rowD a) (rowD b) = .ok (.lst [.int a.1, .int a.2.1, .int a.2.2, .int b.1, .int b.2.1, .int b.2.2]) ∧ binD .Add (.lst [.int a.1, .int a.2.1, .int a.2.2, .int b.1, .int b.2.1, .int b.2.2]) (rowD c) = .ok (.lst (ds (nine a b c))) := ⟨rfl, rfl⟩
theorem r_table {Γ : Gam} (h : S_form2 Γ) (p : Int) (a b c : R3) (l t : Int) (hp : P4 p) (e : lead p (nine a b c) = some l) (it : Inv1 p l t) : c_law_table.run Γ [.int p, rowsD a b c] = .ok (tabD (fmR p t a) (fmR p t b) (fmR p t c)) := by
  have f := h p false (nine a b c) l t hp e it
  rw [fm_nine] at f
  have f' : Γ.F 82 [.int p, .lst (ds (nine a b c))] = .ok (.tup (ds (nine (fmR p t a) (fmR p t b) (fmR p t c)))) := f
  obtain ⟨x1, x2⟩ := add_rows a b c
  obtain ⟨y1, y2, y3⟩ := cut3 (fmR p t a) (fmR p t b) (fmR p t c)
  simp [c_law_table, Df.run, startR, rowsD, g30, g31, g32, x1, x2, f', y1, y2, y3, slE]
  rfl
end OvC
end
section
set_option linter.all false
set_option maxRecDepth 100000
set_option maxHeartbeats 4000000
namespace OvC
open PySem Ov
noncomputable def Bd (n : Nat) (x : Int) : Prop := x.natAbs < 2 ^ n
theorem Bd.mul {m n : Nat} {x y : Int} (h : Bd m x) (g : Bd n y) : Bd (m + n) (x * y) := by
  unfold Bd at *
  rw [Int.natAbs_mul, Nat.pow_add]
  exact Nat.mul_lt_mul'' h g
theorem Bd.sub {n : Nat} {x y : Int} (h : Bd n x) (g : Bd n y) : Bd (n + 1) (x - y) := by
  unfold Bd at *
  rw [Nat.pow_succ]
  omega
theorem big_ok {m n : Nat} {x y : Int} (h : Bd m x) (g : Bd n y) (hm : m ≤ 2000) (hn : n ≤ 2000) : bigOk x y = true := by
  unfold bigOk Bd at *
  rw [Bool.and_eq_true, decide_eq_true_eq, decide_eq_true_eq]
  exact ⟨Nat.lt_of_lt_of_le h (Nat.pow_le_pow_right (by decide) hm), Nat.lt_of_lt_of_le g (Nat.pow_le_pow_right (by decide) hn)⟩
noncomputable def B3 (a : R3) : Prop := Bd 300 a.1 ∧ Bd 300 a.2.1 ∧ Bd 300 a.2.2
noncomputable def rowQ (q : Bool) (a : R3) : D := seqD q [a.1, a.2.1, a.2.2]
theorem ix_row (q : Bool) (a : R3) : idxD (rowQ q a) (.int 0) = .ok (.int a.1) ∧ idxD (rowQ q a) (.int 1) = .ok (.int a.2.1) ∧ idxD (rowQ q a) (.int 2) = .ok (.int a.2.2) := by cases q <;> exact ⟨rfl, rfl, rfl⟩
noncomputable def S_measQ (Γ : Gam) : Prop := ∀ (p : Int) (q : Bool) (a b c : R3), 0 < p → B3 a → B3 b → B3 c → Γ.F 61 [.int p, rowQ q a, rowQ q b, rowQ q c] = .ok (.int (det3 a b c % p))
theorem r_measQ {Γ : Gam} (h : S_rest Γ) (p : Int) (q : Bool) (a b c : R3) (hp : 0 < p) (ha : B3 a) (hb : B3 b) (hc : B3 c) : c_measure.run Γ [.int p, rowQ q a, rowQ q b, rowQ q c] = .ok (.int (det3 a b c % p)) := by
  obtain ⟨a0, a1, a2⟩ := ix_row q a
  obtain ⟨b0, b1, b2⟩ := ix_row q b
  obtain ⟨c0, c1, c2⟩ := ix_row q c
  have k : ∀ {x y}, Bd 300 x → Bd 300 y → bigOk x y = true := fun hx hy => big_ok hx hy (by decide) (by decide)
  have k2 : ∀ {x y z u v}, Bd 300 x → Bd 300 y → Bd 300 z → Bd 300 u → Bd 300 v → bigOk x (y * z - u * v) = true := fun hx hy hz hu hv => big_ok hx ((hy.mul hz).sub (hu.mul hv)) (by decide) (by decide)
  simp [c_measure, Df.run, startR, a0, a1, a2, b0, b1, b2, c0, c1, c2, k hb.2.1 hc.2.2, k hb.2.2 hc.2.1, k hb.1 hc.2.2, k hb.2.2 hc.1, k hb.1 hc.2.1, k hb.2.1 hc.1, k2 ha.1 hb.2.1 hc.2.2 hb.2.2 hc.2.1, k2 ha.2.1 hb.1 hc.2.2 hb.2.2 hc.1, k2 ha.2.2 hb.1 hc.2.1 hb.2.1 hc.1, h p _ hp]
  rfl
noncomputable def c_table_of : Df := ⟨3, false, (.cons (.ife (.cmp .Eq (.call 61 (.cons (.var 0) (.cons (.idx (.var 1) (.int 0)) (.cons (.idx (.var 1) (.int 1)) (.cons (.idx (.var 1) (.int 2)) .nil))))) (.int 0)) (.cons (.rais 4 (.cons (.str (Str.ofString "the measure of the rows is 0")) .nil)) .nil) .nil) (.cons (.asg 2 false (.call 17 (.cons (.var 0) (.cons (.bin .Add (.bin .Add (.bi .list (.cons (.idx (.var 1) (.int 0)) .nil)) (.bi .list (.cons (.idx (.var 1) (.int 1)) .nil))) (.bi .list (.cons (.idx (.var 1) (.int 2)) .nil))) .nil)))) (.cons (.ret (.tup (.cons (.sl (.var 2) .non (.int 3)) (.cons (.sl (.var 2) (.int 3) (.int 6)) (.cons (.sl (.var 2) (.int 6) .non) .nil))))) .nil)))⟩
theorem ls_row (q : Bool) (a : R3) : biD .list [rowQ q a] = .ok (rowD a) := by cases q <;> rfl
section
variable {Γ : Gam} {ns : List Int} {p t : Int} {a b c r : R3} {made s6 s7 : Sl}
end
noncomputable def c_law_whole_v1 : Df := ⟨1, false, (.cons (.ret (.and (.cons (.isi (.var 0) [.int]) (.cons (.no (.isi (.var 0) [.bool])) .nil)))) .nil)⟩
noncomputable def S_whole1 (Γ : Gam) : Prop := ∀ x : Int, Γ.F 85 [.int x] = .ok (.bl true)
theorem r_whole1 (Γ : Gam) (x : Int) : c_law_whole_v1.run Γ [.int x] = .ok (.bl true) := by
  simp [c_law_whole_v1, Df.run, startR, kiD, clsK]
noncomputable def c_law_rests_v1_q0 : E := (.bl true)
noncomputable def c_law_rests_v1_e0 : E := (.and (.cons (.call 85 (.cons (.var 3) .nil)) (.cons (.cmp2 .LtE .Lt (.int 0) (.var 3) (.var 1)) .nil)))
noncomputable def c_law_rests_v1 : Df := ⟨4, false, (.cons (.ife (.or (.cons (.no (.isi (.var 0) [.tuple])) (.cons (.cmp .NotEq (.bi .len (.cons (.var 0) .nil)) (.var 2)) .nil))) (.cons (.ret (.bl false)) .nil) .nil) (.cons (.ret (.bi .all (.cons (.comp c_law_rests_v1_e0 3 (.e (.var 0)) c_law_rests_v1_q0) .nil))) .nil))⟩
noncomputable def S_rests1 (Γ : Gam) : Prop := ∀ (p : Int) (xs : List Int), (∀ x ∈ xs, 0 ≤ x ∧ x < p) → Γ.F 86 [.tup (ds xs), .int p, .int xs.length] = .ok (.bl true)
theorem r_rests1 {Γ : Gam} (h : S_whole1 Γ) (p : Int) (xs : List Int) (hx : ∀ x ∈ xs, 0 ≤ x ∧ x < p) : c_law_rests_v1.run Γ [.tup (ds xs), .int p, .int xs.length] = .ok (.bl true) := by
  have c1 : compD (cG Γ [sh (.tup (ds xs)), si p, si xs.length, none] 3 c_law_rests_v1_q0) (cF Γ [sh (.tup (ds xs)), si p, si xs.length, none] 3 c_law_rests_v1_e0) (ds xs) = .ok (xs.map fun _ => D.bl true) := by
    refine comp_bl xs fun x hm => ⟨rfl, ?_⟩
    obtain ⟨h0, h1⟩ := hx x hm
    simp [cF, c_law_rests_v1_e0, h x, h0, h1]
  have dl : (ds xs).length = xs.length := List.length_map ..
  simp [c_law_rests_v1, Df.run, startR, kiD, clsK, dl, c1, all_true]
noncomputable def c_law_table_like_q0 : E := (.bl true)
noncomputable def c_law_table_like_e0 : E := (.call 86 (.cons (.var 2) (.cons (.var 1) (.cons (.int 3) .nil))))
noncomputable def c_law_table_like : Df := ⟨3, false, (.cons (.ife (.or (.cons (.no (.isi (.var 0) [.tuple])) (.cons (.cmp .NotEq (.bi .len (.cons (.var 0) .nil)) (.int 3)) .nil))) (.cons (.ret (.bl false)) .nil) .nil) (.cons (.ret (.bi .all (.cons (.comp c_law_table_like_e0 2 (.e (.var 0)) c_law_table_like_q0) .nil))) .nil))⟩
noncomputable def S_like (Γ : Gam) : Prop := ∀ (p : Int) (a b c : R3), In3 p a → In3 p b → In3 p c → Γ.F 87 [tabD a b c, .int p] = .ok (.bl true)
theorem r_like {Γ : Gam} (h : S_rests1 Γ) (p : Int) (a b c : R3) (ha : In3 p a) (hb : In3 p b) (hc : In3 p c) : c_law_table_like.run Γ [tabD a b c, .int p] = .ok (.bl true) := by
  have one : ∀ r : R3, In3 p r → Γ.F 86 [trR r, .int p, .int 3] = .ok (.bl true) := fun r hr => h p [r.1, r.2.1, r.2.2] (by
    intro x hx
    simp at hx
    rcases hx with rfl | rfl | rfl
    · exact hr.1
    · exact hr.2.1
    · exact hr.2.2)
  have g : ∀ x, cG Γ [sh (tabD a b c), si p, none] 2 c_law_table_like_q0 x = .ok true := fun _ => rfl
  have f : ∀ r : R3, In3 p r → cF Γ [sh (tabD a b c), si p, none] 2 c_law_table_like_e0 (trR r) = .ok (.bl true) := fun r hr => by
    simp [cF, c_law_table_like_e0, one r hr]
  have c1 : compD (cG Γ [sh (tabD a b c), si p, none] 2 c_law_table_like_q0) (cF Γ [sh (tabD a b c), si p, none] 2 c_law_table_like_e0) [trR a, trR b, trR c] = .ok [.bl true, .bl true, .bl true] := by
    simp [compD, g, f a ha, f b hb, f c hc]
  have sq : asSeq (tabD a b c) = .ok [trR a, trR b, trR c] := rfl
  have ln : biD .len [tabD a b c] = .ok (.int 3) := rfl
  have it : isiD Γ.up [.tuple] (tabD a b c) = .ok (.bl true) := rfl
  simp [c_law_table_like, Df.run, startR, it, ln, sq, c1]
theorem lead_rests {p : Int} : ∀ {xs ys : List Int}, xs.map (fun x => x % p) = ys.map (fun x => x % p) → lead p xs = lead p ys
  | [], [], _ => rfl
  | x :: xs, y :: ys, h => by
    rw [List.map_cons, List.map_cons, List.cons.injEq] at h
    unfold lead
    rw [h.1, lead_rests h.2]
  | [], _ :: _, h => by simp at h
  | _ :: _, [], h => by simp at h
theorem fm_rests {p t : Int} {xs ys : List Int} (h : xs.map (fun x => x % p) = ys.map (fun x => x % p)) : fmI p t xs = fmI p t ys := by
  have e : ∀ zs : List Int, fmI p t zs = (zs.map fun x => x % p).map fun r => t * r % p := fun zs => by simp [fmI, List.map_map, Function.comp_def]
  rw [e, e, h]
theorem nine_inj {a b c a' b' c' : R3} (h : nine a b c = nine a' b' c') : a = a' ∧ b = b' ∧ c = c' := by
  unfold nine at h
  simp only [List.cons.injEq, and_true] at h
  obtain ⟨h1, h2, h3, h4, h5, h6, h7, h8, h9⟩ := h
  exact ⟨Prod.ext h1 (Prod.ext h2 h3), Prod.ext h4 (Prod.ext h5 h6), Prod.ext h7 (Prod.ext h8 h9)⟩
theorem fm_in {p : Int} (hp : 0 < p) (t : Int) (a : R3) : In3 p (fmR p t a) := ⟨⟨Int.emod_nonneg _ (by omega), Int.emod_lt_of_pos _ hp⟩, ⟨Int.emod_nonneg _ (by omega), Int.emod_lt_of_pos _ hp⟩, ⟨Int.emod_nonneg _ (by omega), Int.emod_lt_of_pos _ hp⟩⟩
section
variable {Γ : Gam} {ns : List Int} {p m : Int} {a b c : R3} {fa fb fc : R3} {q : Bool} {s9 s0 s1 s2 : Sl}
theorem fl_tab (a b c : R3) : flD 5 (tabD a b c) = true ∧ eqD (tabD a b c) (tabD a b c) = true := by
  refine ⟨rfl, ?_⟩
  show (eqDs (ds [a.1, a.2.1, a.2.2]) (ds [a.1, a.2.1, a.2.2]) && (eqDs (ds [b.1, b.2.1, b.2.2]) (ds [b.1, b.2.1, b.2.2]) && (eqDs (ds [c.1, c.2.1, c.2.2]) (ds [c.1, c.2.1, c.2.2]) && true))) = true
  simp only [eqs_ds, Bool.and_self]
end
end OvC
end
section
set_option linter.all false
set_option maxRecDepth 100000
set_option maxHeartbeats 4000000
namespace OvC
open PySem Ov
noncomputable def S_turnedS (Γ : Gam) : Prop := ∀ p n : Int, P4 p → n % p ≠ 0 → ∃ t, 1 ≤ t ∧ t < p ∧ n * t % p = 1 ∧ Γ.F 9 [.int p, .int n] = .ok (.int t)
noncomputable def S_formS (Γ : Gam) : Prop := ∀ (p : Int) (b : Bool) (xs : List Int) (l t : Int), P4 p → lead p xs = some l → Inv1 p l t → Γ.F 17 [.int p, seqD b xs] = .ok (.tup (ds (fmI p t xs)))
theorem r_turnedS {Γ : Gam} (hr : S_rest Γ) (p n : Int) (hp : P4 p) (z : n % p ≠ 0) :
    ∃ t, 1 ≤ t ∧ t < p ∧ n * t % p = 1 ∧ c_turned_over.run Γ [.int p, .int n] = .ok (.int t) := by
  have p0 := hp.pos
  have ph := hp.hi
  have body : ∀ t ∈ upTo p, ∀ ρ, (∃ s, ρ = [si p, si n, s]) → (decide (n * t % p = 1) = true ∧ forB Γ 2 c_turned_over_f0 (.int t) ρ = .ret (.int t) false) ∨ (decide (n * t % p = 1) = false ∧ ∃ ρ', forB Γ 2 c_turned_over_f0 (.int t) ρ = .next ρ' ∧ ∃ s, ρ' = [si p, si n, s]) := by
    rintro t ht ρ ⟨s, rfl⟩
    obtain ⟨t1, t2⟩ := mem_upTo.mp ht
    have m : mulOk n t = true := mulOk_r (by omega) (by omega)
    by_cases e : n * t % p = 1
    · exact .inl ⟨by simp [e], by simp [forB, c_turned_over_f0, hr p (n * t) p0, m, e, newE]⟩
    · exact .inr ⟨by simp [e], _, by simp [forB, c_turned_over_f0, hr p (n * t) p0, m, e]; rfl, _, rfl⟩
  have run : ∀ o, forD (forB Γ 2 c_turned_over_f0) ((upTo p).map D.int) [si p, si n, none] = o → c_turned_over.run Γ [.int p, .int n] = (goSs Γ (.cons (.rais 2 (.cons (.str (Str.ofString "a number with the rest 0 is not turned over")) .nil)) .nil) o).ans false := by
    rintro o rfl
    simp [c_turned_over, Df.run, startR, rng_upTo hp]
  rcases forD_find' (fun ρ => ∃ s, ρ = [si p, si n, s]) (fun t => decide (n * t % p = 1)) (upTo p) body [si p, si n, none] ⟨_, rfl⟩ with ⟨t, ht, a, b⟩ | ⟨a, r, b, s, rfl⟩
  · obtain ⟨t1, t2⟩ := mem_upTo.mp ht
    have a' : n * t % p = 1 := by simpa using a
    exact ⟨t, t1, t2, a', by rw [run _ b]; rfl⟩
  · obtain ⟨t, t1, t2, e⟩ := inv_ex hp z
    have := a t (mem_upTo.mpr ⟨t1, t2⟩)
    simp [e] at this
section
variable {Γ : Gam} {p : Int} {xs : List Int} {b : Bool}
theorem of_loopS (hr : S_rest Γ) (ht : S_turnedS Γ) (hp : P4 p) (rs : List Int) : ∀ (ys : List Int), (∀ y ∈ ys, 0 ≤ y ∧ y < p) → ∀ s3, (lead p ys = none → ∃ s3', forD (forB Γ 3 c_one_form_f0) (ds ys) [si p, sh (seqD b xs), sh (.lst (ds rs)), s3, none, none, none] = .next [si p, sh (seqD b xs), sh (.lst (ds rs)), s3', none, none, none]) ∧
    (∀ l t, lead p ys = some l → Inv1 p l t → forD (forB Γ 3 c_one_form_f0) (ds ys) [si p, sh (seqD b xs), sh (.lst (ds rs)), s3, none, none, none] = .ret (.tup (ds (rs.map fun r => t * r % p))) false)
  | [], _, s3 => ⟨fun _ => ⟨s3, rfl⟩, (fun l t h => nomatch h)⟩
  | y :: ys, hy, s3 => by
    obtain ⟨y0, y1⟩ := hy y (List.mem_cons_self ..)
    have ym : y % p = y := Int.emod_eq_of_lt y0 y1
    have ih := of_loopS hr ht hp rs ys (fun z hz => hy z (List.mem_cons_of_mem _ hz)) (si y)
    have step : ∀ o, forB Γ 3 c_one_form_f0 (.int y) [si p, sh (seqD b xs), sh (.lst (ds rs)), s3, none, none, none] = o → forD (forB Γ 3 c_one_form_f0) (ds (y :: ys)) [si p, sh (seqD b xs), sh (.lst (ds rs)), s3, none, none, none] = o.turn (forD (forB Γ 3 c_one_form_f0) (ds ys)) := by
      rintro o rfl; rfl
    unfold lead
    rw [ym]
    by_cases hz : y = 0
    · have e : forB Γ 3 c_one_form_f0 (.int y) [si p, sh (seqD b xs), sh (.lst (ds rs)), s3, none, none, none] = .next [si p, sh (seqD b xs), sh (.lst (ds rs)), si y, none, none, none] := by
        simp [forB, c_one_form_f0, hz]
      rw [if_pos hz, step _ e]
      exact ih
    · rw [if_neg hz]
      refine ⟨(fun z => nomatch z), fun l t e it => ?_⟩
      cases e
      obtain ⟨u, u1, u2, u3, u4⟩ := ht p y hp (by rw [ym]; exact hz)
      have : t = u := inv1_uniq it ⟨u1, u2, u3⟩
      subst this
      have p0 := hp.pos
      have ph := hp.hi
      have cp : compD (cG Γ [si p, sh (seqD b xs), sh (.lst (ds rs)), si y, si t, none, none] 6 c_one_form_q1) (cF Γ [si p, sh (seqD b xs), sh (.lst (ds rs)), si y, si t, none, none] 6 c_one_form_e1) (ds rs) = .ok (ds (rs.map fun r => t * r % p)) := by
        refine comp_ints rs fun r _ => ⟨rfl, ?_⟩
        have m : mulOk t r = true := mulOk_l (by omega) (by omega)
        simp [cF, c_one_form_e1, m, hr p (t * r) p0]
      have e : forB Γ 3 c_one_form_f0 (.int y) [si p, sh (seqD b xs), sh (.lst (ds rs)), s3, none, none, none] = .ret (.tup (ds (rs.map fun r => t * r % p))) false := by
        simp [forB, c_one_form_f0, hz, u4, cp, newE]
      rw [step _ e]
      rfl
theorem r_formS (hr : S_rest Γ) (ht : S_turnedS Γ) (hp : P4 p) {l t : Int} (e : lead p xs = some l) (it : Inv1 p l t) : c_one_form.run Γ [.int p, seqD b xs] = .ok (.tup (ds (fmI p t xs))) := by
  have p0 := hp.pos
  have cp : compD (cG Γ [si p, sh (seqD b xs), none, none, none, none, none] 5 c_one_form_q0) (cF Γ [si p, sh (seqD b xs), none, none, none, none, none] 5 c_one_form_e0) (ds xs) = .ok (ds (xs.map fun x => x % p)) := by
    refine comp_ints xs fun x _ => ⟨rfl, ?_⟩
    simp [cF, c_one_form_e0, hr p x p0]
  have run : ∀ o, forD (forB Γ 3 c_one_form_f0) (ds (xs.map fun x => x % p)) [si p, sh (seqD b xs), sh (.lst (ds (xs.map fun x => x % p))), none, none, none, none] = o → c_one_form.run Γ [.int p, seqD b xs] = (goSs Γ (.cons (.rais 3 (.cons (.str (Str.ofString "all the numbers have the rest 0")) .nil)) .nil) o).ans false := by
    rintro o rfl
    simp [c_one_form, Df.run, startR, asSeq_seqD, cp]
  have le : lead p (xs.map fun x => x % p) = lead p xs := by
    have := lead_mul (c := 1) hp (by rcases hp with rfl | rfl | rfl | rfl <;> decide) (f := fun x => x % p) (fun x => by rw [Int.one_mul, Int.emod_emod_of_dvd _ (Int.dvd_refl p)]) xs
    rw [this]
    cases e : lead p xs with
    | none => rfl
    | some l =>
      obtain ⟨_, l0, l1⟩ := lead_some p0 e
      simp [Int.emod_eq_of_lt (Int.le_of_lt l0) l1]
  obtain ⟨a, c⟩ := of_loopS (b := b) (xs := xs) hr ht hp (xs.map fun x => x % p) (xs.map fun x => x % p) (fun y hy => by
    obtain ⟨x, _, rfl⟩ := List.mem_map.mp hy
    exact ⟨Int.emod_nonneg _ (by omega), Int.emod_lt_of_pos _ p0⟩) none
  rw [le] at a c
  rw [run _ (c l t e it)]
  simp [fmI, List.map_map, Function.comp_def]
end
noncomputable def rowsX (t q : Bool) (a b c : R3) : D := if t = true then .tup [rowQ q a, rowQ q b, rowQ q c] else .lst [rowQ q a, rowQ q b, rowQ q c]
theorem ix_X (t q : Bool) (a b c : R3) : idxD (rowsX t q a b c) (.int 0) = .ok (rowQ q a) ∧ idxD (rowsX t q a b c) (.int 1) = .ok (rowQ q b) ∧ idxD (rowsX t q a b c) (.int 2) = .ok (rowQ q c) := by cases t <;> exact ⟨rfl, rfl, rfl⟩
theorem sq_row (q : Bool) (a : R3) : asSeq (rowQ q a) = .ok [.int a.1, .int a.2.1, .int a.2.2] := by cases q <;> rfl
theorem sq_X (t q : Bool) (a b c : R3) : asSeq (rowsX t q a b c) = .ok [rowQ q a, rowQ q b, rowQ q c] := by cases t <;> rfl
noncomputable def col0 (a b c : R3) : R3 := (a.1, b.1, c.1)
noncomputable def col1 (a b c : R3) : R3 := (a.2.1, b.2.1, c.2.1)
noncomputable def col2 (a b c : R3) : R3 := (a.2.2, b.2.2, c.2.2)
noncomputable def c_columns : Df := ⟨1, false, (.cons (.ret (.tupI (.zip3 (.idx (.var 0) (.int 0)) (.idx (.var 0) (.int 1)) (.idx (.var 0) (.int 2))))) .nil)⟩
noncomputable def S_cols (Γ : Gam) : Prop := ∀ (t q : Bool) (a b c : R3), Γ.F 104 [rowsX t q a b c] = .ok (rowsX true true (col0 a b c) (col1 a b c) (col2 a b c))
theorem r_cols (Γ : Gam) (t q : Bool) (a b c : R3) : c_columns.run Γ [rowsX t q a b c] = .ok (rowsX true true (col0 a b c) (col1 a b c) (col2 a b c)) := by
  obtain ⟨r0, r1, r2⟩ := ix_X t q a b c
  have z : zip3R (rowQ q a) (rowQ q b) (rowQ q c) = .ok [rowQ true (col0 a b c), rowQ true (col1 a b c), rowQ true (col2 a b c)] := by
    unfold zip3R
    rw [sq_row, sq_row, sq_row]
    rfl
  simp [c_columns, Df.run, startR, r0, r1, r2, z]
  rfl
noncomputable def dotI (a x : R3) : Int := a.1 * x.1 + a.2.1 * x.2.1 + a.2.2 * x.2.2
noncomputable def c_sums_by_q0 : E := (.bl true)
noncomputable def c_sums_by_e0 : E := (.call 1 (.cons (.var 0) (.cons (.bin .Add (.bin .Add (.bin .Mult (.idx (.var 3) (.int 0)) (.idx (.var 2) (.int 0))) (.bin .Mult (.idx (.var 3) (.int 1)) (.idx (.var 2) (.int 1)))) (.bin .Mult (.idx (.var 3) (.int 2)) (.idx (.var 2) (.int 2)))) .nil)))
noncomputable def c_sums_by : Df := ⟨4, false, (.cons (.ret (.bi .tuple (.cons (.comp c_sums_by_e0 3 (.e (.var 1)) c_sums_by_q0) .nil))) .nil)⟩
noncomputable def S_sums (Γ : Gam) : Prop := ∀ (p : Int) (t q q' : Bool) (a b c x : R3), 0 < p → B3 a → B3 b → B3 c → B3 x → Γ.F 91 [.int p, rowsX t q a b c, rowQ q' x] = .ok (rowQ true (dotI a x % p, dotI b x % p, dotI c x % p))
theorem r_sums {Γ : Gam} (h : S_rest Γ) (p : Int) (t q q' : Bool) (a b c x : R3) (hp : 0 < p) (ha : B3 a) (hb : B3 b) (hc : B3 c) (hx : B3 x) : c_sums_by.run Γ [.int p, rowsX t q a b c, rowQ q' x] = .ok (rowQ true (dotI a x % p, dotI b x % p, dotI c x % p)) := by
  obtain ⟨x0, x1, x2⟩ := ix_row q' x
  have k : ∀ {u v}, Bd 300 u → Bd 300 v → bigOk u v = true := fun hu hv => big_ok hu hv (by decide) (by decide)
  have key : ∀ r : R3, B3 r → cF Γ [si p, sh (rowsX t q a b c), sh (rowQ q' x), none] 3 c_sums_by_e0 (rowQ q r) = .ok (.int (dotI r x % p)) := fun r hr => by
    obtain ⟨y0, y1, y2⟩ := ix_row q r
    simp [cF, c_sums_by_e0, x0, x1, x2, y0, y1, y2, k hr.1 hx.1, k hr.2.1 hx.2.1, k hr.2.2 hx.2.2, h p _ hp]
    rfl
  have g : ∀ r, cG Γ [si p, sh (rowsX t q a b c), sh (rowQ q' x), none] 3 c_sums_by_q0 r = .ok true := fun _ => rfl
  have cp : compD (cG Γ [si p, sh (rowsX t q a b c), sh (rowQ q' x), none] 3 c_sums_by_q0) (cF Γ [si p, sh (rowsX t q a b c), sh (rowQ q' x), none] 3 c_sums_by_e0) [rowQ q a, rowQ q b, rowQ q c] = .ok [.int (dotI a x % p), .int (dotI b x % p), .int (dotI c x % p)] := by
    simp [compD, g, key a ha, key b hb, key c hc]
  simp [c_sums_by, Df.run, startR, sq_X, cp]
  rfl
noncomputable def crs (a b : R3) : R3 := (a.2.1 * b.2.2 - a.2.2 * b.2.1, a.2.2 * b.1 - a.1 * b.2.2, a.1 * b.2.1 - a.2.1 * b.1)
theorem eqs_dec : ∀ xs ys : List Int, eqDs (ds xs) (ds ys) = decide (xs = ys)
  | [], [] => rfl
  | [], _ :: _ => rfl
  | _ :: _, [] => rfl
  | x :: xs, y :: ys => by
    show ((x == y) && eqDs (ds xs) (ds ys)) = _
    rw [eqs_dec xs ys, Bool.eq_iff_iff]
    simp
theorem eq_row (a b : R3) : eqD (rowQ true a) (rowQ true b) = decide (a = b) := by
  show eqDs (ds [a.1, a.2.1, a.2.2]) (ds [b.1, b.2.1, b.2.2]) = _
  rw [eqs_dec, Bool.eq_iff_iff]
  simp only [List.cons.injEq, and_true, decide_eq_true_eq]
  exact ⟨fun ⟨h1, h2, h3⟩ => by obtain ⟨a1, a2, a3⟩ := a; obtain ⟨b1, b2, b3⟩ := b; simp at h1 h2 h3; rw [h1, h2, h3], fun h => by rw [h]; exact ⟨rfl, rfl, rfl⟩⟩
noncomputable def c_crossed : Df := ⟨2, false, (.cons (.ife (.cmp .Eq (.var 0) (.var 1)) (.cons (.rais 7 (.cons (.var 0) .nil)) .nil) .nil) (.cons (.ret (.tup (.cons (.bin .Sub (.bin .Mult (.idx (.var 0) (.int 1)) (.idx (.var 1) (.int 2))) (.bin .Mult (.idx (.var 0) (.int 2)) (.idx (.var 1) (.int 1)))) (.cons (.bin .Sub (.bin .Mult (.idx (.var 0) (.int 2)) (.idx (.var 1) (.int 0))) (.bin .Mult (.idx (.var 0) (.int 0)) (.idx (.var 1) (.int 2)))) (.cons (.bin .Sub (.bin .Mult (.idx (.var 0) (.int 0)) (.idx (.var 1) (.int 1))) (.bin .Mult (.idx (.var 0) (.int 1)) (.idx (.var 1) (.int 0)))) .nil))))) .nil))⟩
noncomputable def S_cross (Γ : Gam) : Prop := ∀ a b : R3, B3 a → B3 b → a ≠ b → Γ.F 23 [rowQ true a, rowQ true b] = .ok (rowQ true (crs a b))
theorem r_cross (Γ : Gam) (a b : R3) (ha : B3 a) (hb : B3 b) (ne : a ≠ b) : c_crossed.run Γ [rowQ true a, rowQ true b] = .ok (rowQ true (crs a b)) := by
  obtain ⟨x0, x1, x2⟩ := ix_row true a
  obtain ⟨y0, y1, y2⟩ := ix_row true b
  have k : ∀ {u v}, Bd 300 u → Bd 300 v → bigOk u v = true := fun hu hv => big_ok hu hv (by decide) (by decide)
  have f : ∀ r : R3, flD 5 (rowQ true r) = true := fun _ => rfl
  have e : eqD (rowQ true a) (rowQ true b) = false := by rw [eq_row]; exact decide_eq_false ne
  simp [c_crossed, Df.run, startR, f, e, x0, x1, x2, y0, y1, y2, k ha.2.1 hb.2.2, k ha.2.2 hb.2.1, k ha.2.2 hb.1, k ha.1 hb.2.2, k ha.1 hb.2.1, k ha.2.1 hb.1]
  rfl
noncomputable def c_crossed_rows : Df := ⟨1, false, (.cons (.ret (.tup (.cons (.call 23 (.cons (.idx (.var 0) (.int 1)) (.cons (.idx (.var 0) (.int 2)) .nil))) (.cons (.call 23 (.cons (.idx (.var 0) (.int 2)) (.cons (.idx (.var 0) (.int 0)) .nil))) (.cons (.call 23 (.cons (.idx (.var 0) (.int 0)) (.cons (.idx (.var 0) (.int 1)) .nil))) .nil))))) .nil)⟩
noncomputable def S_crows (Γ : Gam) : Prop := ∀ a b c : R3, B3 a → B3 b → B3 c → a ≠ b → b ≠ c → c ≠ a → Γ.F 98 [rowsX true true a b c] = .ok (rowsX true true (crs b c) (crs c a) (crs a b))
theorem r_crows {Γ : Gam} (h : S_cross Γ) (a b c : R3) (ha : B3 a) (hb : B3 b) (hc : B3 c) (n1 : a ≠ b) (n2 : b ≠ c) (n3 : c ≠ a) : c_crossed_rows.run Γ [rowsX true true a b c] = .ok (rowsX true true (crs b c) (crs c a) (crs a b)) := by
  obtain ⟨r0, r1, r2⟩ := ix_X true true a b c
  simp [c_crossed_rows, Df.run, startR, r0, r1, r2, h b c hb hc n2, h c a hc ha n3, h a b ha hb n1]
  rfl
noncomputable def S_tofX (Γ : Gam) : Prop := ∀ (p : Int) (t q : Bool) (a b c : R3), P4 p → B3 a → B3 b → B3 c → det3 a b c % p ≠ 0 → ∀ l u, lead p (nine a b c) = some l → Inv1 p l u → Γ.F 78 [.int p, rowsX t q a b c] = .ok (tabD (fmR p u a) (fmR p u b) (fmR p u c))
theorem r_tofX {Γ : Gam} (hm : S_measQ Γ) (hf : S_formS Γ) (p : Int) (t q : Bool) (a b c : R3) (hp : P4 p) (ha : B3 a) (hb : B3 b) (hc : B3 c) (z : det3 a b c % p ≠ 0) (l u : Int) (e : lead p (nine a b c) = some l) (it : Inv1 p l u) : c_table_of.run Γ [.int p, rowsX t q a b c] = .ok (tabD (fmR p u a) (fmR p u b) (fmR p u c)) := by
  obtain ⟨r0, r1, r2⟩ := ix_X t q a b c
  have m := hm p q a b c hp.pos ha hb hc
  have f := hf p false (nine a b c) l u hp e it
  rw [fm_nine] at f
  have f' : Γ.F 17 [.int p, .lst (ds (nine a b c))] = .ok (.tup (ds (nine (fmR p u a) (fmR p u b) (fmR p u c)))) := f
  obtain ⟨x1, x2⟩ := add_rows a b c
  obtain ⟨y1, y2, y3⟩ := cut3 (fmR p u a) (fmR p u b) (fmR p u c)
  simp [c_table_of, Df.run, startR, r0, r1, r2, m, z, ls_row, x1, x2, f', y1, y2, y3, slE]
  rfl
noncomputable def c_table_back : Df := ⟨2, false, (.cons (.ret (.call 78 (.cons (.var 0) (.cons (.call 104 (.cons (.call 98 (.cons (.var 1) .nil)) .nil)) .nil)))) .nil)⟩
noncomputable def bk0 (a b c : R3) : R3 := col0 (crs b c) (crs c a) (crs a b)
noncomputable def bk1 (a b c : R3) : R3 := col1 (crs b c) (crs c a) (crs a b)
noncomputable def bk2 (a b c : R3) : R3 := col2 (crs b c) (crs c a) (crs a b)
noncomputable def S_back (Γ : Gam) : Prop := ∀ (p : Int) (a b c : R3), P4 p → In3 p a → In3 p b → In3 p c → det3 a b c % p ≠ 0 → ∀ l u, lead p (nine (bk0 a b c) (bk1 a b c) (bk2 a b c)) = some l → Inv1 p l u → Γ.F 106 [.int p, tabD a b c] = .ok (tabD (fmR p u (bk0 a b c)) (fmR p u (bk1 a b c)) (fmR p u (bk2 a b c)))
theorem in_bd {p x : Int} (hp : P4 p) (h0 : 0 ≤ x) (h1 : x < p) : Bd 10 x := by
  unfold Bd
  have := hp.hi
  omega
theorem Bd.mono {m n : Nat} {x : Int} (h : Bd m x) (hm : m ≤ n) : Bd n x := Nat.lt_of_lt_of_le h (Nat.pow_le_pow_right (by decide) hm)
noncomputable def Bn (n : Nat) (a : R3) : Prop := Bd n a.1 ∧ Bd n a.2.1 ∧ Bd n a.2.2
theorem Bn.b3 {n : Nat} {a : R3} (h : Bn n a) (hn : n ≤ 300) : B3 a := ⟨h.1.mono hn, h.2.1.mono hn, h.2.2.mono hn⟩
theorem in_b {p : Int} {a : R3} (hp : P4 p) (h : In3 p a) : Bn 10 a := ⟨in_bd hp h.1.1 h.1.2, in_bd hp h.2.1.1 h.2.1.2, in_bd hp h.2.2.1 h.2.2.2⟩
theorem crs_b {n : Nat} {a b : R3} (ha : Bn n a) (hb : Bn n b) : Bn (n + n + 1) (crs a b) :=
  ⟨(ha.2.1.mul hb.2.2).sub (ha.2.2.mul hb.2.1), (ha.2.2.mul hb.1).sub (ha.1.mul hb.2.2), (ha.1.mul hb.2.1).sub (ha.2.1.mul hb.1)⟩
theorem col_b {n : Nat} {a b c : R3} (ha : Bn n a) (hb : Bn n b) (hc : Bn n c) : Bn n (col0 a b c) ∧ Bn n (col1 a b c) ∧ Bn n (col2 a b c) := ⟨⟨ha.1, hb.1, hc.1⟩, ⟨ha.2.1, hb.2.1, hc.2.1⟩, ⟨ha.2.2, hb.2.2, hc.2.2⟩⟩
theorem det_ne {p : Int} {a b c : R3} (z : det3 a b c % p ≠ 0) : a ≠ b ∧ b ≠ c ∧ c ≠ a := by
  refine ⟨fun e => z ?_, fun e => z ?_, fun e => z ?_⟩
  · subst e
    rw [show det3 a a c = 0 by unfold det3 det; grind, Int.zero_emod]
  · subst e
    rw [show det3 a b b = 0 by unfold det3 det; grind, Int.zero_emod]
  · subst e
    rw [show det3 c b c = 0 by unfold det3 det; grind, Int.zero_emod]
theorem bk_det (a b c : R3) : det3 (bk0 a b c) (bk1 a b c) (bk2 a b c) = det3 a b c * det3 a b c := by
  unfold det3 det bk0 bk1 bk2 col0 col1 col2 crs
  grind
theorem r_back {Γ : Gam} (h1 : S_crows Γ) (h2 : S_cols Γ) (h3 : S_tofX Γ) (p : Int) (a b c : R3) (hp : P4 p) (ha : In3 p a) (hb : In3 p b) (hc : In3 p c) (z : det3 a b c % p ≠ 0) (l u : Int) (e : lead p (nine (bk0 a b c) (bk1 a b c) (bk2 a b c)) = some l) (it : Inv1 p l u) :
    c_table_back.run Γ [.int p, tabD a b c] = .ok (tabD (fmR p u (bk0 a b c)) (fmR p u (bk1 a b c)) (fmR p u (bk2 a b c))) := by
  have ba := in_b hp ha
  have bb := in_b hp hb
  have bc := in_b hp hc
  obtain ⟨n1, n2, n3⟩ := det_ne z
  have e1 : Γ.F 98 [tabD a b c] = .ok (rowsX true true (crs b c) (crs c a) (crs a b)) := h1 a b c (ba.b3 (by decide)) (bb.b3 (by decide)) (bc.b3 (by decide)) n1 n2 n3
  have e2 := h2 true true (crs b c) (crs c a) (crs a b)
  obtain ⟨c0, c1, c2⟩ := col_b (crs_b bb bc) (crs_b bc ba) (crs_b ba bb)
  have z2 : det3 (bk0 a b c) (bk1 a b c) (bk2 a b c) % p ≠ 0 := by rw [bk_det]; exact nz_mul hp z z
  have e3 : Γ.F 78 [.int p, rowsX true true (col0 (crs b c) (crs c a) (crs a b)) (col1 (crs b c) (crs c a) (crs a b)) (col2 (crs b c) (crs c a) (crs a b))] = .ok (tabD (fmR p u (bk0 a b c)) (fmR p u (bk1 a b c)) (fmR p u (bk2 a b c))) := h3 p true true _ _ _ hp (c0.b3 (by decide)) (c1.b3 (by decide)) (c2.b3 (by decide)) z2 l u e it
  simp [c_table_back, Df.run, startR, e1, e2, e3]
noncomputable def mlR (p : Int) (x a b c : R3) : R3 := (dotI (col0 a b c) x % p, dotI (col1 a b c) x % p, dotI (col2 a b c) x % p)
noncomputable def c_after_q0 : E := (.bl true)
noncomputable def c_after_e0 : E := (.call 91 (.cons (.var 0) (.cons (.var 3) (.cons (.var 4) .nil))))
noncomputable def c_after : Df := ⟨5, false, (.cons (.asg 3 false (.call 104 (.cons (.var 2) .nil))) (.cons (.ret (.call 78 (.cons (.var 0) (.cons (.comp c_after_e0 4 (.e (.var 1)) c_after_q0) .nil)))) .nil))⟩
noncomputable def S_after (Γ : Gam) : Prop := ∀ (p : Int) (x y z a b c : R3), P4 p → In3 p x → In3 p y → In3 p z → In3 p a → In3 p b → In3 p c → det3 (mlR p x a b c) (mlR p y a b c) (mlR p z a b c) % p ≠ 0 → ∀ l u, lead p (nine (mlR p x a b c) (mlR p y a b c) (mlR p z a b c)) = some l → Inv1 p l u →
  Γ.F 105 [.int p, tabD x y z, tabD a b c] = .ok (tabD (fmR p u (mlR p x a b c)) (fmR p u (mlR p y a b c)) (fmR p u (mlR p z a b c)))
theorem ml_in {p : Int} (hp : 0 < p) (x a b c : R3) : In3 p (mlR p x a b c) := ⟨⟨Int.emod_nonneg _ (by omega), Int.emod_lt_of_pos _ hp⟩, ⟨Int.emod_nonneg _ (by omega), Int.emod_lt_of_pos _ hp⟩, ⟨Int.emod_nonneg _ (by omega), Int.emod_lt_of_pos _ hp⟩⟩
theorem r_after {Γ : Gam} (h2 : S_cols Γ) (hs : S_sums Γ) (h3 : S_tofX Γ) (p : Int) (x y z a b c : R3) (hp : P4 p) (hx : In3 p x) (hy : In3 p y) (hz : In3 p z) (ha : In3 p a) (hb : In3 p b) (hc : In3 p c) (nz : det3 (mlR p x a b c) (mlR p y a b c) (mlR p z a b c) % p ≠ 0) (l u : Int) (e : lead p (nine (mlR p x a b c) (mlR p y a b c) (mlR p z a b c)) = some l) (it : Inv1 p l u) :
    c_after.run Γ [.int p, tabD x y z, tabD a b c] = .ok (tabD (fmR p u (mlR p x a b c)) (fmR p u (mlR p y a b c)) (fmR p u (mlR p z a b c))) := by
  have p0 := hp.pos
  have e1 : Γ.F 104 [tabD a b c] = .ok (rowsX true true (col0 a b c) (col1 a b c) (col2 a b c)) := h2 true true a b c
  obtain ⟨c0, c1, c2⟩ := col_b (in_b hp ha) (in_b hp hb) (in_b hp hc)
  have es : ∀ r : R3, In3 p r → Γ.F 91 [.int p, rowsX true true (col0 a b c) (col1 a b c) (col2 a b c), rowQ true r] = .ok (rowQ true (mlR p r a b c)) := fun r hr => hs p true true true _ _ _ r p0 (c0.b3 (by decide)) (c1.b3 (by decide)) (c2.b3 (by decide)) ((in_b hp hr).b3 (by decide))
  have key : ∀ r : R3, In3 p r → cF Γ [si p, sh (tabD x y z), sh (tabD a b c), sh (rowsX true true (col0 a b c) (col1 a b c) (col2 a b c)), none] 4 c_after_e0 (rowQ true r) = .ok (rowQ true (mlR p r a b c)) := fun r hr => by
    simp [cF, c_after_e0, es r hr]
  have g : ∀ r, cG Γ [si p, sh (tabD x y z), sh (tabD a b c), sh (rowsX true true (col0 a b c) (col1 a b c) (col2 a b c)), none] 4 c_after_q0 r = .ok true := fun _ => rfl
  have sq : asSeq (tabD x y z) = .ok [rowQ true x, rowQ true y, rowQ true z] := rfl
  have cp : compD (cG Γ [si p, sh (tabD x y z), sh (tabD a b c), sh (rowsX true true (col0 a b c) (col1 a b c) (col2 a b c)), none] 4 c_after_q0) (cF Γ [si p, sh (tabD x y z), sh (tabD a b c), sh (rowsX true true (col0 a b c) (col1 a b c) (col2 a b c)), none] 4 c_after_e0) [rowQ true x, rowQ true y, rowQ true z] = .ok [rowQ true (mlR p x a b c), rowQ true (mlR p y a b c), rowQ true (mlR p z a b c)] := by
    simp [compD, g, key x hx, key y hy, key z hz]
  have e3 : Γ.F 78 [.int p, .lst [rowQ true (mlR p x a b c), rowQ true (mlR p y a b c), rowQ true (mlR p z a b c)]] = .ok (tabD (fmR p u (mlR p x a b c)) (fmR p u (mlR p y a b c)) (fmR p u (mlR p z a b c))) :=
    h3 p false true _ _ _ hp ((in_b hp (ml_in p0 x a b c)).b3 (by decide)) ((in_b hp (ml_in p0 y a b c)).b3 (by decide)) ((in_b hp (ml_in p0 z a b c)).b3 (by decide)) nz l u e it
  simp [c_after, Df.run, startR, e1, sq, cp, e3]
noncomputable def scR' (k : Int) (a : R3) : R3 := (k * a.1, k * a.2.1, k * a.2.2)
noncomputable def fk0 (p : Int) (a b c d : R3) : Int := det3 d b c % p
noncomputable def fs0 (p : Int) (a b c d : R3) : R3 := scR' (fk0 p a b c d) a
noncomputable def Gen4 (p : Int) (a b c d : R3) : Prop := det3 a b c % p ≠ 0 ∧ det3 a b d % p ≠ 0 ∧ det3 a c d % p ≠ 0 ∧ det3 b c d % p ≠ 0
end OvC
end
section
set_option linter.all false
set_option maxRecDepth 100000
set_option maxHeartbeats 4000000
namespace OvC
open PySem Ov
noncomputable def CgR (p : Int) (x y : R3) : Prop := Cg p x.1 y.1 ∧ Cg p x.2.1 y.2.1 ∧ Cg p x.2.2 y.2.2
section
variable {p : Int} {a b c a' b' c' x y z x' : R3} {k l m k' : Int}
theorem CgR.rfl : CgR p a a := ⟨Cg.rfl, Cg.rfl, Cg.rfl⟩
theorem CgR.of (h : a = b) : CgR p a b := by rw [h]; exact CgR.rfl
theorem CgR.trans (h : CgR p a b) (g : CgR p b c) : CgR p a c := ⟨h.1.trans g.1, h.2.1.trans g.2.1, h.2.2.trans g.2.2⟩
theorem CgR.symm (h : CgR p a b) : CgR p b a := ⟨h.1.symm, h.2.1.symm, h.2.2.symm⟩
theorem CgR.sc (hk : Cg p k k') (h : CgR p a b) : CgR p (scR' k a) (scR' k' b) := ⟨hk.mul h.1, hk.mul h.2.1, hk.mul h.2.2⟩
theorem det3_cg (ha : CgR p a a') (hb : CgR p b b') (hc : CgR p c c') : Cg p (det3 a b c) (det3 a' b' c') := by
  unfold det3 det
  exact det_cg ha.1 ha.2.1 ha.2.2 hb.1 hb.2.1 hb.2.2 hc.1 hc.2.1 hc.2.2
theorem dot_cg (ha : CgR p a a') (hb : CgR p b b') : Cg p (dotI a b) (dotI a' b') := ((ha.1.mul hb.1).add (ha.2.1.mul hb.2.1)).add (ha.2.2.mul hb.2.2)
theorem col_cg (ha : CgR p a a') (hb : CgR p b b') (hc : CgR p c c') : CgR p (col0 a b c) (col0 a' b' c') ∧ CgR p (col1 a b c) (col1 a' b' c') ∧ CgR p (col2 a b c) (col2 a' b' c') := ⟨⟨ha.1, hb.1, hc.1⟩, ⟨ha.2.1, hb.2.1, hc.2.1⟩, ⟨ha.2.2, hb.2.2, hc.2.2⟩⟩
theorem crs_cg (ha : CgR p a a') (hb : CgR p b b') : CgR p (crs a b) (crs a' b') :=
  ⟨(ha.2.1.mul hb.2.2).sub (ha.2.2.mul hb.2.1), (ha.2.2.mul hb.1).sub (ha.1.mul hb.2.2), (ha.1.mul hb.2.1).sub (ha.2.1.mul hb.1)⟩
theorem bk_cg (ha : CgR p a a') (hb : CgR p b b') (hc : CgR p c c') : CgR p (bk0 a b c) (bk0 a' b' c') ∧ CgR p (bk1 a b c) (bk1 a' b' c') ∧ CgR p (bk2 a b c) (bk2 a' b' c') := col_cg (crs_cg hb hc) (crs_cg hc ha) (crs_cg ha hb)
theorem fm_cg (p t : Int) (a : R3) : CgR p (fmR p t a) (scR' t a) := by
  have key : ∀ x : Int, Cg p (t * (x % p) % p) (t * x) := fun x => (Cg.md _root_.rfl).trans (Cg.rfl.mul (Cg.md _root_.rfl))
  exact ⟨key _, key _, key _⟩
noncomputable def rm (a x y z : R3) : R3 := (dotI (col0 x y z) a, dotI (col1 x y z) a, dotI (col2 x y z) a)
theorem ml_cg (p : Int) (a x y z : R3) : CgR p (mlR p a x y z) (rm a x y z) := ⟨Cg.md _root_.rfl, Cg.md _root_.rfl, Cg.md _root_.rfl⟩
theorem rm_cg {y' z' : R3} (ha : CgR p a a') (hx : CgR p x x') (hy : CgR p y y') (hz : CgR p z z') : CgR p (rm a x y z) (rm a' x' y' z') := by
  obtain ⟨c0, c1, c2⟩ := col_cg hx hy hz
  exact ⟨dot_cg c0 ha, dot_cg c1 ha, dot_cg c2 ha⟩
noncomputable def ap (a b c x : R3) : R3 := (dotI a x, dotI b x, dotI c x)
theorem det_sc (k l m : Int) (x y z : R3) : det3 (scR' k x) (scR' l y) (scR' m z) = k * l * m * det3 x y z := by
  unfold det3 det scR'
  grind
theorem sc_sc (k l : Int) (x : R3) : scR' k (scR' l x) = scR' (k * l) x := by
  unfold scR'
  simp only [Int.mul_assoc]
theorem ap_sc (a b c x : R3) (k : Int) : ap a b c (scR' k x) = scR' k (ap a b c x) := by
  unfold ap scR' dotI
  refine Prod.ext ?_ (Prod.ext ?_ ?_) <;> (simp only; grind)
theorem rm_sc (k : Int) (a x y z : R3) : rm (scR' k a) x y z = scR' k (rm a x y z) := by
  unfold rm scR' dotI col0 col1 col2
  refine Prod.ext ?_ (Prod.ext ?_ ?_) <;> (simp only; grind)
theorem rm_scT (k : Int) (a x y z : R3) : rm a (scR' k x) (scR' k y) (scR' k z) = scR' k (rm a x y z) := by
  unfold rm scR' dotI col0 col1 col2
  refine Prod.ext ?_ (Prod.ext ?_ ?_) <;> (simp only; grind)
theorem bk_sc (k : Int) (x y z : R3) : bk0 (scR' k x) (scR' k y) (scR' k z) = scR' (k * k) (bk0 x y z) ∧ bk1 (scR' k x) (scR' k y) (scR' k z) = scR' (k * k) (bk1 x y z) ∧ bk2 (scR' k x) (scR' k y) (scR' k z) = scR' (k * k) (bk2 x y z) := by
  unfold bk0 bk1 bk2 scR' col0 col1 col2 crs
  refine ⟨?_, ?_, ?_⟩ <;> refine Prod.ext ?_ (Prod.ext ?_ ?_) <;> (simp only; grind)
end
theorem dot_comm (a b : R3) : dotI a b = dotI b a := by unfold dotI; grind
theorem cg_nz {p x y : Int} (h : Cg p x y) (hy : y % p ≠ 0) : x % p ≠ 0 := fun z => hy ((show x % p = y % p from h).symm.trans z)
theorem nz3 {p x y z : Int} (hp : P4 p) (hx : x % p ≠ 0) (hy : y % p ≠ 0) (hz : z % p ≠ 0) : x * y * z % p ≠ 0 := nz_mul hp (nz_mul hp hx hy) hz
section
variable {p : Int} {a b c f0 f1 f2 f3 g0 g1 g2 g3 : R3} {d0 d1 d2 d3 : Int}
end
theorem form_of {p k : Int} {a b c x y z : R3} (hp : P4 p) (hk : k % p ≠ 0) (ha : In3 p a) (hb : In3 p b) (hc : In3 p c) (l1 : lead p (nine a b c) = some 1) (hx : CgR p x (scR' k a)) (hy : CgR p y (scR' k b)) (hz : CgR p z (scR' k c)) : ∃ l u, lead p (nine x y z) = some l ∧ Inv1 p l u ∧ fmR p u x = a ∧ fmR p u y = b ∧ fmR p u z = c := by
  have p1 : 1 < p := by have := hp.lo; omega
  have rs : (nine x y z).map (fun x => x % p) = ((nine a b c).map fun x => k * x).map (fun x => x % p) := by
    simp only [nine, List.map_cons, List.map_nil]
    rw [show x.1 % p = k * a.1 % p from hx.1, show x.2.1 % p = k * a.2.1 % p from hx.2.1, show x.2.2 % p = k * a.2.2 % p from hx.2.2, show y.1 % p = k * b.1 % p from hy.1, show y.2.1 % p = k * b.2.1 % p from hy.2.1, show y.2.2 % p = k * b.2.2 % p from hy.2.2, show z.1 % p = k * c.1 % p from hz.1, show z.2.1 % p = k * c.2.1 % p from hz.2.1, show z.2.2 % p = k * c.2.2 % p from hz.2.2]
  have it : Inv1 p 1 1 := ⟨by decide, p1, by rw [Int.one_mul, Int.emod_eq_of_lt (by decide) p1]⟩
  have l0 : (1 : Int) % p ≠ 0 := hp.o1
  obtain ⟨u, iu, eu⟩ := mul_form hp hk l0 it (f := fun x => k * x) (fun _ => rfl) (nine a b c)
  have el := lead_mul hp hk (f := fun x => k * x) (fun _ => rfl) (nine a b c)
  rw [l1, ← lead_rests rs] at el
  rw [← fm_rests rs] at eu
  have one : ∀ v : Int, 0 ≤ v → v < p → 1 * (v % p) % p = v := fun v h0 h1 => by rw [Int.one_mul, Int.emod_emod_of_dvd _ (Int.dvd_refl p), Int.emod_eq_of_lt h0 h1]
  have same : fmI p 1 (nine a b c) = nine a b c := by
    unfold fmI nine
    simp only [List.map_cons, List.map_nil]
    rw [one _ ha.1.1 ha.1.2, one _ ha.2.1.1 ha.2.1.2, one _ ha.2.2.1 ha.2.2.2, one _ hb.1.1 hb.1.2, one _ hb.2.1.1 hb.2.1.2, one _ hb.2.2.1 hb.2.2.2, one _ hc.1.1 hc.1.2, one _ hc.2.1.1 hc.2.1.2, one _ hc.2.2.1 hc.2.2.2]
  rw [same, fm_nine] at eu
  obtain ⟨e1, e2, e3⟩ := nine_inj eu
  exact ⟨_, u, el, iu, e1, e2, e3⟩
end OvC
end
section
set_option linter.all false
set_option maxRecDepth 100000
set_option maxHeartbeats 4000000
namespace OvC
open PySem Ov
end OvC
end
section
set_option linter.all false
set_option maxRecDepth 100000
set_option maxHeartbeats 4000000
namespace OvC
open PySem Ov
section
variable {Γ : Gam} {ns : List Int}
end
section
variable {Γ : Gam} {ns : List Int} {many s5 s6 s7 s8 s9 s0 s1 s2 : Sl} {p : Int} {a b c : R3}
end
noncomputable def c_law_dot : Df := ⟨2, false, (.cons (.ret (.bin .Add (.bin .Add (.bin .Mult (.idx (.var 0) (.int 0)) (.idx (.var 1) (.int 0))) (.bin .Mult (.idx (.var 0) (.int 1)) (.idx (.var 1) (.int 1)))) (.bin .Mult (.idx (.var 0) (.int 2)) (.idx (.var 1) (.int 2))))) .nil)⟩
noncomputable def S_dot (Γ : Gam) : Prop := ∀ (q q' : Bool) (a x : R3), B3 a → B3 x → Γ.F 95 [rowQ q a, rowQ q' x] = .ok (.int (dotI a x))
theorem r_dot (Γ : Gam) (q q' : Bool) (a x : R3) (ha : B3 a) (hx : B3 x) : c_law_dot.run Γ [rowQ q a, rowQ q' x] = .ok (.int (dotI a x)) := by
  obtain ⟨x0, x1, x2⟩ := ix_row q a
  obtain ⟨y0, y1, y2⟩ := ix_row q' x
  have k : ∀ {u v}, Bd 300 u → Bd 300 v → bigOk u v = true := fun hu hv => big_ok hu hv (by decide) (by decide)
  simp [c_law_dot, Df.run, startR, x0, x1, x2, y0, y1, y2, k ha.1 hx.1, k ha.2.1 hx.2.1, k ha.2.2 hx.2.2]
  rfl
end OvC
end
section
set_option linter.all false
set_option maxRecDepth 100000
set_option maxHeartbeats 4000000
namespace OvC
open PySem Ov
noncomputable def e0R : R3 := (1, 0, 0)
noncomputable def e1R : R3 := (0, 1, 0)
noncomputable def e2R : R3 := (0, 0, 1)
noncomputable def e3R : R3 := (1, 1, 1)
theorem e_in {p : Int} (hp : P4 p) : In3 p e0R ∧ In3 p e1R ∧ In3 p e2R ∧ In3 p e3R := by
  have z : 0 ≤ (0 : Int) ∧ (0 : Int) < p := ⟨by decide, hp.pos⟩
  have o : 0 ≤ (1 : Int) ∧ (1 : Int) < p := ⟨by decide, by have := hp.lo; omega⟩
  exact ⟨⟨o, z, z⟩, ⟨z, o, z⟩, ⟨z, z, o⟩, ⟨o, o, o⟩⟩
theorem e_gen {p : Int} (hp : P4 p) : Gen4 p e0R e1R e2R e3R := by
  rcases hp with rfl | rfl | rfl | rfl <;> exact ⟨by decide, by decide, by decide, by decide⟩
end OvC
end
section
set_option linter.all false
set_option maxRecDepth 100000
set_option maxHeartbeats 4000000
namespace OvC
open PySem Ov
noncomputable def Pr (p : Int) (x y : R3) : Prop := ∃ d, d % p ≠ 0 ∧ CgR p x (scR' d y)
section
variable {p : Int} {a b c x y z f g h : R3} {k : Int}
theorem sc_one (x : R3) : scR' 1 x = x := by unfold scR'; simp only [Int.one_mul]
theorem Pr.rfl (hp : P4 p) : Pr p x x := ⟨1, hp.o1, CgR.of (sc_one x).symm⟩
theorem Pr.trans (hp : P4 p) (i : Pr p x y) (j : Pr p y z) : Pr p x z := by
  obtain ⟨d, dz, e⟩ := i
  obtain ⟨d', dz', e'⟩ := j
  exact ⟨d * d', nz_mul hp dz dz', e.trans ((CgR.sc Cg.rfl e').trans (CgR.of (sc_sc _ _ _)))⟩
theorem Pr.symm (hp : P4 p) (i : Pr p x y) : Pr p y x := by
  obtain ⟨d, dz, e⟩ := i
  obtain ⟨u, u1, u2, u3⟩ := inv_ex hp dz
  have uz : u % p ≠ 0 := by rw [Int.emod_eq_of_lt (by omega) u2]; omega
  have o : Cg p (u * d) 1 := by
    show u * d % p = 1 % p
    rw [Int.mul_comm, u3, Int.emod_eq_of_lt (by decide) (by have := hp.lo; omega)]
  refine ⟨u, uz, ?_⟩
  have q := CgR.sc (k := u) (k' := u) Cg.rfl e
  rw [sc_sc] at q
  exact (q.trans ((CgR.sc o CgR.rfl).trans (CgR.of (sc_one y)))).symm
theorem ap_cg {a' b' c' x' : R3} (ha : CgR p a a') (hb : CgR p b b') (hc : CgR p c c') (hx : CgR p x x') : CgR p (ap a b c x) (ap a' b' c' x') := ⟨dot_cg ha hx, dot_cg hb hx, dot_cg hc hx⟩
theorem Pr.ap (i : Pr p x y) : Pr p (OvC.ap a b c x) (OvC.ap a b c y) := by
  obtain ⟨d, dz, e⟩ := i
  exact ⟨d, dz, (ap_cg CgR.rfl CgR.rfl CgR.rfl e).trans (CgR.of (ap_sc a b c y d))⟩
theorem ap_scT (k : Int) (a b c x : R3) : ap (scR' k a) (scR' k b) (scR' k c) x = scR' k (ap a b c x) := by
  unfold ap scR' dotI
  refine Prod.ext ?_ (Prod.ext ?_ ?_) <;> (simp only; grind)
theorem Pr.tab {a' b' c' : R3} (kz : k % p ≠ 0) (ha : CgR p a (scR' k a')) (hb : CgR p b (scR' k b')) (hc : CgR p c (scR' k c')) : Pr p (OvC.ap a b c x) (OvC.ap a' b' c' x) :=
  ⟨k, kz, (ap_cg ha hb hc CgR.rfl).trans (CgR.of (ap_scT k a' b' c' x))⟩
theorem det_rm (a b c x y z : R3) : det3 (rm a x y z) (rm b x y z) (rm c x y z) = det3 a b c * det3 x y z := by
  unfold det3 det rm dotI col0 col1 col2
  grind
end
theorem tab_form0 {p : Int} {a b c : R3} (hp : P4 p) (nz : det3 a b c % p ≠ 0) : ∃ l t, lead p (nine a b c) = some l ∧ Inv1 p l t ∧ t % p ≠ 0 ∧ GoodR p (fmR p t a) (fmR p t b) (fmR p t c) ∧ lead p (nine (fmR p t a) (fmR p t b) (fmR p t c)) = some 1 := by
  have p0 := hp.pos
  obtain ⟨l, el⟩ := lead_nine nz
  obtain ⟨lz, _, _⟩ := lead_some p0 el
  obtain ⟨t, t1, t2, t3⟩ := inv_ex hp lz
  have tz : t % p ≠ 0 := by rw [Int.emod_eq_of_lt (by omega) t2]; omega
  have ff : ∀ x, (t * (x % p) % p) % p = t * x % p := fun x => by rw [Int.emod_emod_of_dvd _ (Int.dvd_refl p), Int.mul_emod t (x % p) p, Int.emod_emod_of_dvd _ (Int.dvd_refl p), ← Int.mul_emod]
  have lv := lead_mul hp tz (f := fun x => t * (x % p) % p) ff (nine a b c)
  rw [el] at lv
  refine ⟨l, t, el, ⟨t1, t2, t3⟩, tz, ⟨hp, fm_in p0 t a, fm_in p0 t b, fm_in p0 t c, cg_nz ((det3_cg (fm_cg p t a) (fm_cg p t b) (fm_cg p t c)).trans (Cg.of (det_sc t t t a b c))) (nz_mul hp (nz3 hp tz tz tz) nz)⟩, ?_⟩
  have e : lead p ((nine a b c).map fun x => t * (x % p) % p) = some 1 := by rw [lv, Option.map_some, Int.mul_comm, t3]
  exact e
section
variable {p : Int} {a b c a' b' c' f0 f1 f2 f3 g0 g1 g2 g3 h0 h1 h2 h3 : R3}
end
section
variable {Γ : Gam} {ns : List Int} {p : Int}
theorem id_good (hp : P4 p) : GoodR p e0R e1R e2R ∧ lead p (nine e0R e1R e2R) = some 1 := by
  obtain ⟨i0, i1, i2, i3⟩ := e_in hp
  refine ⟨⟨hp, i0, i1, i2, (e_gen hp).1⟩, ?_⟩
  rcases hp with rfl | rfl | rfl | rfl <;> decide
end
end OvC
end
section
set_option linter.all false
set_option maxRecDepth 100000
set_option maxHeartbeats 4000000
namespace OvC
open PySem Ov
noncomputable def InL (p : Int) (xs : List Int) : Prop := ∀ x ∈ xs, 0 ≤ x ∧ x < p
theorem InL.set {p : Int} {xs : List Int} (h : InL p xs) (k : Nat) {v : Int} (h0 : 0 ≤ v) (h1 : v < p) : InL p (xs.set k v) := fun x hx => by
  rcases List.mem_or_eq_of_mem_set hx with z | rfl
  · exact h x z
  · exact ⟨h0, h1⟩
section
variable {Γ : Gam} {ns : List Int} {p at_ : Int}
end
section
variable {Γ : Gam} {ns : List Int} {p t : Int}
end
end OvC
end
section
set_option linter.all false
set_option maxRecDepth 100000
set_option maxHeartbeats 4000000
namespace OvC
open PySem Ov
structure C6 where
  c0 : Int
  c1 : Int
  c2 : Int
  c3 : Int
  c4 : Int
  c5 : Int
noncomputable def C6.l (C : C6) : List Int := [C.c0, C.c1, C.c2, C.c3, C.c4, C.c5]
noncomputable def vI (C : C6) (x : R3) : Int := C.c0 * x.1 * x.1 + C.c1 * x.2.1 * x.2.1 + C.c2 * x.2.2 * x.2.2 + (C.c3 * x.1 * x.2.1 + C.c4 * x.1 * x.2.2 + C.c5 * x.2.1 * x.2.2)
noncomputable def tw0 (C : C6) : R3 := (2 * C.c0, C.c3, C.c4)
noncomputable def tw1 (C : C6) : R3 := (C.c3, 2 * C.c1, C.c5)
noncomputable def tw2 (C : C6) : R3 := (C.c4, C.c5, 2 * C.c2)
noncomputable def bI (C : C6) (x y : R3) : Int := dotI (ap (tw0 C) (tw1 C) (tw2 C) x) y
noncomputable def scC (k : Int) (C : C6) : C6 := ⟨k * C.c0, k * C.c1, k * C.c2, k * C.c3, k * C.c4, k * C.c5⟩
noncomputable def CgC (p : Int) (C D : C6) : Prop := Cg p C.c0 D.c0 ∧ Cg p C.c1 D.c1 ∧ Cg p C.c2 D.c2 ∧ Cg p C.c3 D.c3 ∧ Cg p C.c4 D.c4 ∧ Cg p C.c5 D.c5
noncomputable def pb (C : C6) (a b c : R3) : C6 := ⟨vI C (col0 a b c), vI C (col1 a b c), vI C (col2 a b c), bI C (col0 a b c) (col1 a b c), bI C (col0 a b c) (col2 a b c), bI C (col1 a b c) (col2 a b c)⟩
section
variable {p : Int} {C D E : C6} {a b c a' b' c' x y x' y' : R3} {k k' : Int}
theorem C6.ext' (h0 : C.c0 = D.c0) (h1 : C.c1 = D.c1) (h2 : C.c2 = D.c2) (h3 : C.c3 = D.c3) (h4 : C.c4 = D.c4) (h5 : C.c5 = D.c5) : C = D := by
  cases C; cases D; simp_all
theorem CgC.rfl : CgC p C C := ⟨Cg.rfl, Cg.rfl, Cg.rfl, Cg.rfl, Cg.rfl, Cg.rfl⟩
theorem CgC.of (h : C = D) : CgC p C D := by rw [h]; exact CgC.rfl
theorem CgC.symm (h : CgC p C D) : CgC p D C := ⟨h.1.symm, h.2.1.symm, h.2.2.1.symm, h.2.2.2.1.symm, h.2.2.2.2.1.symm, h.2.2.2.2.2.symm⟩
theorem CgC.trans (h : CgC p C D) (g : CgC p D E) : CgC p C E := ⟨h.1.trans g.1, h.2.1.trans g.2.1, h.2.2.1.trans g.2.2.1, h.2.2.2.1.trans g.2.2.2.1, h.2.2.2.2.1.trans g.2.2.2.2.1, h.2.2.2.2.2.trans g.2.2.2.2.2⟩
theorem CgC.sc (hk : Cg p k k') (h : CgC p C D) : CgC p (scC k C) (scC k' D) := ⟨hk.mul h.1, hk.mul h.2.1, hk.mul h.2.2.1, hk.mul h.2.2.2.1, hk.mul h.2.2.2.2.1, hk.mul h.2.2.2.2.2⟩
theorem vI_cg (h : CgC p C D) (hx : CgR p x x') : Cg p (vI C x) (vI D x') :=
  (((((h.1.mul hx.1).mul hx.1).add ((h.2.1.mul hx.2.1).mul hx.2.1)).add ((h.2.2.1.mul hx.2.2).mul hx.2.2))).add ((((h.2.2.2.1.mul hx.1).mul hx.2.1).add ((h.2.2.2.2.1.mul hx.1).mul hx.2.2)).add ((h.2.2.2.2.2.mul hx.2.1).mul hx.2.2))
theorem tw_cg (h : CgC p C D) : CgR p (tw0 C) (tw0 D) ∧ CgR p (tw1 C) (tw1 D) ∧ CgR p (tw2 C) (tw2 D) :=
  ⟨⟨Cg.rfl.mul h.1, h.2.2.2.1, h.2.2.2.2.1⟩, ⟨h.2.2.2.1, Cg.rfl.mul h.2.1, h.2.2.2.2.2⟩, ⟨h.2.2.2.2.1, h.2.2.2.2.2, Cg.rfl.mul h.2.2.1⟩⟩
theorem ap_cg' (ha : CgR p a a') (hb : CgR p b b') (hc : CgR p c c') (hx : CgR p x x') : CgR p (ap a b c x) (ap a' b' c' x') := ⟨dot_cg ha hx, dot_cg hb hx, dot_cg hc hx⟩
theorem bI_cg (h : CgC p C D) (hx : CgR p x x') (hy : CgR p y y') : Cg p (bI C x y) (bI D x' y') :=
  let ⟨t0, t1, t2⟩ := tw_cg h
  dot_cg (ap_cg' t0 t1 t2 hx) hy
theorem pb_cg (h : CgC p C D) (ha : CgR p a a') (hb : CgR p b b') (hc : CgR p c c') : CgC p (pb C a b c) (pb D a' b' c') :=
  let ⟨s0, s1, s2⟩ := col_cg ha hb hc
  ⟨vI_cg h s0, vI_cg h s1, vI_cg h s2, bI_cg h s0 s1, bI_cg h s0 s2, bI_cg h s1 s2⟩
theorem sc_scC (k l : Int) (C : C6) : scC k (scC l C) = scC (k * l) C := by
  unfold scC
  simp only [Int.mul_assoc]
theorem sc_oneC (C : C6) : scC 1 C = C := by unfold scC; simp only [Int.one_mul]
theorem pb_sc (k : Int) (C : C6) (a b c : R3) : pb (scC k C) a b c = scC k (pb C a b c) := by
  unfold pb scC vI bI ap tw0 tw1 tw2 dotI
  refine C6.ext' ?_ ?_ ?_ ?_ ?_ ?_ <;> (simp only; grind)
theorem pb_scT (k : Int) (C : C6) (a b c : R3) : pb C (scR' k a) (scR' k b) (scR' k c) = scC (k * k) (pb C a b c) := by
  unfold pb scC vI bI ap tw0 tw1 tw2 dotI col0 col1 col2 scR'
  refine C6.ext' ?_ ?_ ?_ ?_ ?_ ?_ <;> (simp only; grind)
theorem bk_rm0 (a b c : R3) : rm (bk0 a b c) a b c = (det3 a b c, 0, 0) ∧ rm (bk1 a b c) a b c = (0, det3 a b c, 0) ∧ rm (bk2 a b c) a b c = (0, 0, det3 a b c) := by
  unfold rm dotI bk0 bk1 bk2 col0 col1 col2 crs det3 det
  refine ⟨?_, ?_, ?_⟩ <;> refine Prod.ext ?_ (Prod.ext ?_ ?_) <;> (simp only; grind)
theorem rm_bk0 (a b c : R3) : rm a (bk0 a b c) (bk1 a b c) (bk2 a b c) = (det3 a b c, 0, 0) ∧ rm b (bk0 a b c) (bk1 a b c) (bk2 a b c) = (0, det3 a b c, 0) ∧ rm c (bk0 a b c) (bk1 a b c) (bk2 a b c) = (0, 0, det3 a b c) := by
  unfold rm dotI bk0 bk1 bk2 col0 col1 col2 crs det3 det
  refine ⟨?_, ?_, ?_⟩ <;> refine Prod.ext ?_ (Prod.ext ?_ ?_) <;> (simp only; grind)
theorem bk_bk (a b c : R3) : bk0 (bk0 a b c) (bk1 a b c) (bk2 a b c) = scR' (det3 a b c) a ∧ bk1 (bk0 a b c) (bk1 a b c) (bk2 a b c) = scR' (det3 a b c) b ∧ bk2 (bk0 a b c) (bk1 a b c) (bk2 a b c) = scR' (det3 a b c) c := by
  unfold scR' bk0 bk1 bk2 col0 col1 col2 crs det3 det
  refine ⟨?_, ?_, ?_⟩ <;> refine Prod.ext ?_ (Prod.ext ?_ ?_) <;> (simp only; grind)
theorem bk_mul (a b c x y z : R3) : bk0 (rm a x y z) (rm b x y z) (rm c x y z) = rm (bk0 x y z) (bk0 a b c) (bk1 a b c) (bk2 a b c) ∧ bk1 (rm a x y z) (rm b x y z) (rm c x y z) = rm (bk1 x y z) (bk0 a b c) (bk1 a b c) (bk2 a b c) ∧ bk2 (rm a x y z) (rm b x y z) (rm c x y z) = rm (bk2 x y z) (bk0 a b c) (bk1 a b c) (bk2 a b c) := by
  unfold rm dotI bk0 bk1 bk2 col0 col1 col2 crs
  refine ⟨?_, ?_, ?_⟩ <;> refine Prod.ext ?_ (Prod.ext ?_ ?_) <;> (simp only; grind)
noncomputable def PrC (p : Int) (C D : C6) : Prop := ∃ d, d % p ≠ 0 ∧ CgC p C (scC d D)
theorem PrC.rfl (hp : P4 p) : PrC p C C := ⟨1, hp.o1, CgC.of (sc_oneC C).symm⟩
theorem PrC.trans (hp : P4 p) (i : PrC p C D) (j : PrC p D E) : PrC p C E := by
  obtain ⟨d, dz, e⟩ := i
  obtain ⟨d', dz', e'⟩ := j
  exact ⟨d * d', nz_mul hp dz dz', e.trans ((CgC.sc Cg.rfl e').trans (CgC.of (sc_scC _ _ _)))⟩
theorem inv_nz (hp : P4 p) (dz : k % p ≠ 0) : ∃ u, u % p ≠ 0 ∧ Cg p (u * k) 1 := by
  obtain ⟨u, u1, u2, u3⟩ := inv_ex hp dz
  refine ⟨u, by rw [Int.emod_eq_of_lt (by omega) u2]; omega, ?_⟩
  show u * k % p = 1 % p
  rw [Int.mul_comm, u3, Int.emod_eq_of_lt (by decide) (by have := hp.lo; omega)]
theorem PrC.symm (hp : P4 p) (i : PrC p C D) : PrC p D C := by
  obtain ⟨d, dz, e⟩ := i
  obtain ⟨u, uz, o⟩ := inv_nz hp dz
  refine ⟨u, uz, ?_⟩
  have q := CgC.sc (k := u) (k' := u) Cg.rfl e
  rw [sc_scC] at q
  exact (q.trans ((CgC.sc o CgC.rfl).trans (CgC.of (sc_oneC D)))).symm
theorem PrC.pb (i : PrC p C D) : PrC p (OvC.pb C a b c) (OvC.pb D a b c) := by
  obtain ⟨d, dz, e⟩ := i
  exact ⟨d, dz, (pb_cg e CgR.rfl CgR.rfl CgR.rfl).trans (CgC.of (pb_sc d D a b c))⟩
theorem PrC.tab (hp : P4 p) (kz : k % p ≠ 0) (ha : CgR p a (scR' k a')) (hb : CgR p b (scR' k b')) (hc : CgR p c (scR' k c')) : PrC p (OvC.pb C a b c) (OvC.pb C a' b' c') :=
  ⟨k * k, nz_mul hp kz kz, (pb_cg CgC.rfl ha hb hc).trans (CgC.of (pb_scT k C a' b' c'))⟩
noncomputable def InC (p : Int) (C : C6) : Prop := ∀ x ∈ C.l, 0 ≤ x ∧ x < p
end
structure BC (C : C6) : Prop where
  b0 : Bd 10 C.c0
  b1 : Bd 10 C.c1
  b2 : Bd 10 C.c2
  b3 : Bd 10 C.c3
  b4 : Bd 10 C.c4
  b5 : Bd 10 C.c5
theorem InC.b {p : Int} {C : C6} (hp : P4 p) (h : InC p C) : BC C := by
  have k : ∀ x ∈ C.l, Bd 10 x := fun x hx => in_bd hp (h x hx).1 (h x hx).2
  exact ⟨k _ (by simp [C6.l]), k _ (by simp [C6.l]), k _ (by simp [C6.l]), k _ (by simp [C6.l]), k _ (by simp [C6.l]), k _ (by simp [C6.l])⟩
noncomputable def t0 (p : Int) (C : C6) : R3 := (2 * C.c0 % p, C.c3, C.c4)
noncomputable def t1 (p : Int) (C : C6) : R3 := (C.c3, 2 * C.c1 % p, C.c5)
noncomputable def t2 (p : Int) (C : C6) : R3 := (C.c4, C.c5, 2 * C.c2 % p)
end OvC
end
section
set_option linter.all false
set_option maxRecDepth 100000
set_option maxHeartbeats 4000000
namespace OvC
open PySem Ov
noncomputable def c_law_product_q0 : E := (.bl true)
noncomputable def c_law_product_e0 : E := (.call 95 (.cons (.var 4) (.cons (.var 5) .nil)))
noncomputable def c_law_product_f0 : Ss := (.cons (.app 3 (.bi .tuple (.cons (.comp c_law_product_e0 5 (.zip3 (.idx (.var 2) (.int 0)) (.idx (.var 2) (.int 1)) (.idx (.var 2) (.int 2))) c_law_product_q0) .nil))) .nil)
noncomputable def c_law_product : Df := ⟨6, false, (.cons (.asg 3 true (.lst .nil)) (.cons (.fors 4 (.e (.var 1)) c_law_product_f0) (.cons (.ret (.call 84 (.cons (.var 0) (.cons (.var 3) .nil)))) .nil)))⟩
noncomputable def c_law_k24 : Df := ⟨7, false, (.cons (.asg 1 false (.call 81 (.cons (.var 0) .nil))) (.cons (.asg 2 false (.call 84 (.cons (.var 1) (.cons (.call 83 (.cons (.bi .stp (.cons (.var 0) (.cons (.int 0) .nil))) (.cons (.var 1) (.cons (.int 1) (.cons (.call 88 (.cons (.bi .stp (.cons (.var 0) (.cons (.int 0) .nil))) (.cons (.int 1) .nil))) .nil))))) .nil)))) (.cons (.asg 3 false (.call 84 (.cons (.var 1) (.cons (.call 83 (.cons (.bi .stp (.cons (.var 0) (.cons (.int 1) .nil))) (.cons (.var 1) (.cons (.int 1) (.cons (.call 88 (.cons (.bi .stp (.cons (.var 0) (.cons (.int 1) .nil))) (.cons (.int 1) .nil))) .nil))))) .nil)))) (.cons (.asg 4 false (.tup (.cons (.tup (.cons (.int 1) (.cons (.int 0) (.cons (.int 0) .nil)))) (.cons (.tup (.cons (.int 0) (.cons (.int 1) (.cons (.int 0) .nil)))) (.cons (.tup (.cons (.int 0) (.cons (.int 0) (.cons (.int 1) .nil)))) .nil))))) (.cons (.asg 5 false (.call 105 (.cons (.var 1) (.cons (.var 2) (.cons (.var 3) .nil))))) (.cons (.ife (.or (.cons (.no (.call 87 (.cons (.var 5) (.cons (.var 1) .nil)))) (.cons (.cmp .NotEq (.var 5) (.call 107 (.cons (.var 1) (.cons (.var 2) (.cons (.var 3) .nil))))) .nil))) (.cons (.ret (.bl false)) .nil) .nil) (.cons (.asg 6 false (.call 106 (.cons (.var 1) (.cons (.var 2) .nil)))) (.cons (.ife (.or (.cons (.no (.call 87 (.cons (.var 6) (.cons (.var 1) .nil)))) (.cons (.cmp .NotEq (.call 107 (.cons (.var 1) (.cons (.var 6) (.cons (.var 2) .nil)))) (.var 4)) (.cons (.cmp .NotEq (.call 107 (.cons (.var 1) (.cons (.var 2) (.cons (.var 6) .nil)))) (.var 4)) .nil)))) (.cons (.ret (.bl false)) .nil) .nil) (.cons (.ife (.or (.cons (.cmp .NotEq (.call 105 (.cons (.var 1) (.cons (.var 6) (.cons (.var 2) .nil)))) (.var 4)) (.cons (.cmp .NotEq (.call 105 (.cons (.var 1) (.cons (.var 2) (.cons (.var 4) .nil)))) (.var 2)) (.cons (.cmp .NotEq (.call 106 (.cons (.var 1) (.cons (.var 6) .nil))) (.var 2)) .nil)))) (.cons (.ret (.bl false)) .nil) .nil) (.cons (.ret (.cmp .Eq (.call 106 (.cons (.var 1) (.cons (.var 5) .nil))) (.call 105 (.cons (.var 1) (.cons (.call 106 (.cons (.var 1) (.cons (.var 3) .nil))) (.cons (.var 6) .nil)))))) .nil))))))))))⟩
noncomputable def Tp (p : Int) (x y z a b c : R3) : Prop := ∃ k, k % p ≠ 0 ∧ CgR p x (scR' k a) ∧ CgR p y (scR' k b) ∧ CgR p z (scR' k c)
section
variable {p : Int} {a b c x y z u v w : R3}
theorem Tp.trans (hp : P4 p) (h : Tp p a b c x y z) (g : Tp p x y z u v w) : Tp p a b c u v w := by
  obtain ⟨k, kz, h0, h1, h2⟩ := h
  obtain ⟨l, lz, g0, g1, g2⟩ := g
  refine ⟨k * l, nz_mul hp kz lz, ?_, ?_, ?_⟩
  · rw [← sc_sc]; exact h0.trans (CgR.sc Cg.rfl g0)
  · rw [← sc_sc]; exact h1.trans (CgR.sc Cg.rfl g1)
  · rw [← sc_sc]; exact h2.trans (CgR.sc Cg.rfl g2)
theorem Tp.symm (hp : P4 p) (h : Tp p a b c x y z) : Tp p x y z a b c := by
  obtain ⟨k, kz, h0, h1, h2⟩ := h
  obtain ⟨l, l1, l2, l3⟩ := inv_ex hp kz
  have lz : l % p ≠ 0 := by rw [Int.emod_eq_of_lt (by omega) l2]; omega
  have o : Cg p (l * k) 1 := by
    show l * k % p = 1 % p
    rw [Int.mul_comm, l3, Int.emod_eq_of_lt (by decide) (by have := hp.lo; omega)]
  have f : ∀ {r s : R3}, CgR p r (scR' k s) → CgR p s (scR' l r) := fun {r s} h => by
    have q := CgR.sc (k := l) (k' := l) Cg.rfl h
    rw [sc_sc] at q
    exact (q.trans ((CgR.sc o CgR.rfl).trans (CgR.of (sc_one s)))).symm
  exact ⟨l, lz, f h0, f h1, f h2⟩
theorem Tp.of (hp : P4 p) (h0 : CgR p a x) (h1 : CgR p b y) (h2 : CgR p c z) : Tp p a b c x y z := ⟨1, hp.o1, h0.trans (CgR.of (sc_one x).symm), h1.trans (CgR.of (sc_one y).symm), h2.trans (CgR.of (sc_one z).symm)⟩
theorem Tp.mul {a' b' c' x' y' z' : R3} (hp : P4 p) (h : Tp p a b c a' b' c') (g : Tp p x y z x' y' z') : Tp p (rm a x y z) (rm b x y z) (rm c x y z) (rm a' x' y' z') (rm b' x' y' z') (rm c' x' y' z') := by
  obtain ⟨k, kz, h0, h1, h2⟩ := h
  obtain ⟨l, lz, g0, g1, g2⟩ := g
  have f : ∀ {r s : R3}, CgR p r (scR' k s) → CgR p (rm r x y z) (scR' (k * l) (rm s x' y' z')) := fun {r s} h => by
    refine (rm_cg h g0 g1 g2).trans (CgR.of ?_)
    rw [rm_scT, rm_sc, sc_sc, Int.mul_comm]
  exact ⟨k * l, nz_mul hp kz lz, f h0, f h1, f h2⟩
theorem Tp.back {a' b' c' : R3} (hp : P4 p) (h : Tp p a b c a' b' c') : Tp p (bk0 a b c) (bk1 a b c) (bk2 a b c) (bk0 a' b' c') (bk1 a' b' c') (bk2 a' b' c') := by
  obtain ⟨k, kz, h0, h1, h2⟩ := h
  obtain ⟨g0, g1, g2⟩ := bk_cg h0 h1 h2
  obtain ⟨s0, s1, s2⟩ := bk_sc k a' b' c'
  rw [s0] at g0
  rw [s1] at g1
  rw [s2] at g2
  exact ⟨k * k, nz_mul hp kz kz, g0, g1, g2⟩
theorem rm_e (a : R3) : rm a e0R e1R e2R = a := by
  unfold rm e0R e1R e2R col0 col1 col2 dotI
  refine Prod.ext ?_ (Prod.ext ?_ ?_) <;> (simp only; grind)
theorem dg_tp (hp : P4 p) {d : Int} (dz : d % p ≠ 0) : Tp p (d, 0, 0) (0, d, 0) (0, 0, d) e0R e1R e2R := ⟨d, dz, CgR.of (by unfold scR' e0R; simp), CgR.of (by unfold scR' e1R; simp), CgR.of (by unfold scR' e2R; simp)⟩
end
noncomputable def S_tableT (Γ : Gam) : Prop := ∀ (p : Int) (a b c : R3) (l t : Int), P4 p → lead p (nine a b c) = some l → Inv1 p l t → Γ.F 84 [.int p, .lst [trR a, trR b, trR c]] = .ok (tabD (fmR p t a) (fmR p t b) (fmR p t c))
theorem r_tableT {Γ : Gam} (h : S_form2 Γ) (p : Int) (a b c : R3) (l t : Int) (hp : P4 p) (e : lead p (nine a b c) = some l) (it : Inv1 p l t) : c_law_table.run Γ [.int p, .lst [trR a, trR b, trR c]] = .ok (tabD (fmR p t a) (fmR p t b) (fmR p t c)) := by
  have f := h p true (nine a b c) l t hp e it
  rw [fm_nine] at f
  have f' : Γ.F 82 [.int p, .tup (ds (nine a b c))] = .ok (.tup (ds (nine (fmR p t a) (fmR p t b) (fmR p t c)))) := f
  have x1 : binD .Add (trR a) (trR b) = .ok (.tup [.int a.1, .int a.2.1, .int a.2.2, .int b.1, .int b.2.1, .int b.2.2]) := rfl
  have x2 : binD .Add (.tup [.int a.1, .int a.2.1, .int a.2.2, .int b.1, .int b.2.1, .int b.2.2]) (trR c) = .ok (.tup (ds (nine a b c))) := rfl
  obtain ⟨y1, y2, y3⟩ := cut3 (fmR p t a) (fmR p t b) (fmR p t c)
  have i0 : getL [trR a, trR b, trR c] 0 = .ok (trR a) := rfl
  have i1 : getL [trR a, trR b, trR c] 1 = .ok (trR b) := rfl
  have i2 : getL [trR a, trR b, trR c] 2 = .ok (trR c) := rfl
  simp [c_law_table, Df.run, startR, i0, i1, i2, x1, x2, f', y1, y2, y3, slE]
  rfl
section
variable {Γ : Gam} {ns : List Int} {p : Int}
noncomputable def S_pr107 (Γ : Gam) : Prop := ∀ (p : Int) (a b c x y z f0 f1 f2 : R3), P4 p → In3 p a → In3 p b → In3 p c → In3 p x → In3 p y → In3 p z → In3 p f0 → In3 p f1 → In3 p f2 → lead p (nine f0 f1 f2) = some 1 → Tp p (rm a x y z) (rm b x y z) (rm c x y z) f0 f1 f2 → Γ.F 107 [.int p, tabD a b c, tabD x y z] = .ok (tabD f0 f1 f2)
theorem r_pr107 (hd : S_dot Γ) (ht : S_tableT Γ) (p : Int) (a b c x y z f0 f1 f2 : R3) (hp : P4 p) (ia : In3 p a) (ib : In3 p b) (ic : In3 p c) (ix : In3 p x) (iy : In3 p y) (iz : In3 p z) (i0 : In3 p f0) (i1 : In3 p f1) (i2 : In3 p f2) (l1 : lead p (nine f0 f1 f2) = some 1) (h : Tp p (rm a x y z) (rm b x y z) (rm c x y z) f0 f1 f2) : c_law_product.run Γ [.int p, tabD a b c, tabD x y z] = .ok (tabD f0 f1 f2) := by
  obtain ⟨k, kz, h0, h1, h2⟩ := h
  obtain ⟨l, u, el, it, e0, e1, e2⟩ := form_of hp kz i0 i1 i2 l1 h0 h1 h2
  have q := ht p _ _ _ l u hp el it
  rw [e0, e1, e2] at q
  have b3 : ∀ {r}, In3 p r → B3 r := fun h => (in_b hp h).b3 (by decide)
  have c0 : In3 p (col0 x y z) := ⟨ix.1, iy.1, iz.1⟩
  have c1 : In3 p (col1 x y z) := ⟨ix.2.1, iy.2.1, iz.2.1⟩
  have c2 : In3 p (col2 x y z) := ⟨ix.2.2, iy.2.2, iz.2.2⟩
  have dt : ∀ {r s}, In3 p r → In3 p s → Γ.F 95 [trR r, trR s] = .ok (.int (dotI s r)) := fun {r s} hr hs => by rw [dot_comm]; exact hd true true r s (b3 hr) (b3 hs)
  have zz : zip3R (trR x) (trR y) (trR z) = .ok [trR (col0 x y z), trR (col1 x y z), trR (col2 x y z)] := rfl
  have g0 : idxD (tabD x y z) (.int 0) = .ok (trR x) := rfl
  have g1 : idxD (tabD x y z) (.int 1) = .ok (trR y) := rfl
  have g2 : idxD (tabD x y z) (.int 2) = .ok (trR z) := rfl
  have row : ∀ (r : R3) (s4 : Sl) (L : List D), In3 p r → L.length < 10 → forB Γ 4 c_law_product_f0 (trR r) [si p, sh (tabD a b c), sh (tabD x y z), some (.lst L, true), s4, none] = .next [si p, sh (tabD a b c), sh (tabD x y z), some (.lst (L ++ [trR (rm r x y z)]), true), sh (trR r), none] := fun r s4 L hr hL => by
    have d0 := dt hr c0
    have d1 := dt hr c1
    have d2 := dt hr c2
    have sz : szOk (L.length + 1) = true := by unfold szOk; simp; omega
    have out : trR (rm r x y z) = .tup [.int (dotI (col0 x y z) r), .int (dotI (col1 x y z) r), .int (dotI (col2 x y z) r)] := rfl
    rw [out]
    clear out
    generalize trR (col0 x y z) = k0 at *
    generalize trR (col1 x y z) = k1 at *
    generalize trR (col2 x y z) = k2 at *
    generalize dotI (col0 x y z) r = n0 at *
    generalize dotI (col1 x y z) r = n1 at *
    generalize dotI (col2 x y z) r = n2 at *
    generalize trR r = R at *
    generalize trR x = X at *
    generalize trR y = Y at *
    generalize trR z = Z at *
    generalize tabD a b c = TA at *
    generalize tabD x y z = TX at *
    have cp : compD (cG Γ [si p, sh TA, sh TX, some (.lst L, true), sh R, none] 5 c_law_product_q0) (cF Γ [si p, sh TA, sh TX, some (.lst L, true), sh R, none] 5 c_law_product_e0) [k0, k1, k2] = .ok [.int n0, .int n1, .int n2] := by
      simp [compD, cG, cF, c_law_product_q0, c_law_product_e0, d0, d1, d2]
    simp [forB, c_law_product_f0, g0, g1, g2, zz, cp, ownL, sz]
  have sq : asSeq (tabD a b c) = .ok [trR a, trR b, trR c] := rfl
  have lp : forD (forB Γ 4 c_law_product_f0) [trR a, trR b, trR c] [si p, sh (tabD a b c), sh (tabD x y z), some (.lst [], true), none, none] = .next [si p, sh (tabD a b c), sh (tabD x y z), some (.lst [trR (rm a x y z), trR (rm b x y z), trR (rm c x y z)], true), sh (trR c), none] := by
    simp only [forD]
    rw [row a none [] ia (by decide)]
    show (forB Γ 4 c_law_product_f0 (trR b) _).turn _ = _
    rw [row b _ _ ib (by simp)]
    show (forB Γ 4 c_law_product_f0 (trR c) _).turn _ = _
    rw [row c _ _ ic (by simp)]
    rfl
  clear row zz g0 g1 g2 dt
  have cl : ∀ fr, clnD fr (tabD f0 f1 f2) = true := fun fr => rfl
  generalize trR (rm a x y z) = m0 at *
  generalize trR (rm b x y z) = m1 at *
  generalize trR (rm c x y z) = m2 at *
  generalize trR a = A at *
  generalize trR b = B at *
  generalize trR c = C at *
  generalize tabD a b c = TA at *
  generalize tabD x y z = TX at *
  generalize tabD f0 f1 f2 = TF at *
  simp [c_law_product, Df.run, startR, newE, sq, lp, q, cl]
theorem af_of (h : S_after Γ) {a b c x y z f0 f1 f2 : R3} (hp : P4 p) (ia : In3 p a) (ib : In3 p b) (ic : In3 p c) (ix : In3 p x) (iy : In3 p y) (iz : In3 p z) (nz : det3 a b c % p ≠ 0) (nx : det3 x y z % p ≠ 0) (i0 : In3 p f0) (i1 : In3 p f1) (i2 : In3 p f2) (l1 : lead p (nine f0 f1 f2) = some 1) (t : Tp p (rm a x y z) (rm b x y z) (rm c x y z) f0 f1 f2) : Γ.F 105 [.int p, tabD a b c, tabD x y z] = .ok (tabD f0 f1 f2) := by
  obtain ⟨k, kz, h0, h1, h2⟩ := (Tp.of hp (ml_cg p a x y z) (ml_cg p b x y z) (ml_cg p c x y z)).trans hp t
  obtain ⟨l, u, el, it, e0, e1, e2⟩ := form_of hp kz i0 i1 i2 l1 h0 h1 h2
  have zR : det3 (mlR p a x y z) (mlR p b x y z) (mlR p c x y z) % p ≠ 0 := cg_nz ((det3_cg (ml_cg p a x y z) (ml_cg p b x y z) (ml_cg p c x y z)).trans (Cg.of (det_rm a b c x y z))) (nz_mul hp nz nx)
  have q := h p a b c x y z hp ia ib ic ix iy iz zR l u el it
  rw [e0, e1, e2] at q
  exact q
theorem bk_of (h : S_back Γ) {a b c f0 f1 f2 : R3} (hp : P4 p) (ia : In3 p a) (ib : In3 p b) (ic : In3 p c) (nz : det3 a b c % p ≠ 0) (i0 : In3 p f0) (i1 : In3 p f1) (i2 : In3 p f2) (l1 : lead p (nine f0 f1 f2) = some 1) (t : Tp p (bk0 a b c) (bk1 a b c) (bk2 a b c) f0 f1 f2) : Γ.F 106 [.int p, tabD a b c] = .ok (tabD f0 f1 f2) := by
  obtain ⟨k, kz, h0, h1, h2⟩ := t
  obtain ⟨l, u, el, it, e0, e1, e2⟩ := form_of hp kz i0 i1 i2 l1 h0 h1 h2
  have q := h p a b c hp ia ib ic nz l u el it
  rw [e0, e1, e2] at q
  exact q
theorem nf_ex {a b c : R3} (hp : P4 p) (nz : det3 a b c % p ≠ 0) : ∃ f0 f1 f2, GoodR p f0 f1 f2 ∧ lead p (nine f0 f1 f2) = some 1 ∧ Tp p a b c f0 f1 f2 := by
  obtain ⟨l, t, el, it, tz, g, l1⟩ := tab_form0 hp nz
  exact ⟨_, _, _, g, l1, Tp.symm hp ⟨t, tz, fm_cg p t a, fm_cg p t b, fm_cg p t c⟩⟩
structure H24 (Γ : Gam) (ns : List Int) : Prop where
  prime : ∃ p, P4 p ∧ Γ.F 81 [scr ns] = .ok (.int p)
  tab : ∀ (p k : Int), P4 p → 0 ≤ k → ∃ S R n a b c, biD .stp [scr ns, .int k] = .ok S ∧ Γ.F 88 [S, .int 1] = .ok (.int n) ∧ Γ.F 83 [S, .int p, .int 1, .int n] = .ok R ∧ Γ.F 84 [.int p, R] = .ok (tabD a b c) ∧ GoodR p a b c ∧ lead p (nine a b c) = some 1
  like : S_like Γ
  after : S_after Γ
  back : S_back Γ
  prod : S_pr107 Γ
theorem ev_k24 (h : H24 Γ ns) : c_law_k24.run Γ [scr ns] = .ok (.bl true) := by
  obtain ⟨p, hp, e1⟩ := h.prime
  obtain ⟨S0, R0, n0, a, b, c, k0, k1, k2, k3, G, l⟩ := h.tab p 0 hp (by decide)
  obtain ⟨S1, R1, n1, x, y, z, j0, j1, j2, j3, G', l'⟩ := h.tab p 1 hp (by decide)
  have zz : det3 (rm a x y z) (rm b x y z) (rm c x y z) % p ≠ 0 := by rw [det_rm]; exact nz_mul hp G.nz G'.nz
  have zb : ∀ {a b c : R3}, det3 a b c % p ≠ 0 → det3 (bk0 a b c) (bk1 a b c) (bk2 a b c) % p ≠ 0 := fun {a b c} h => by rw [bk_det]; exact nz_mul hp h h
  obtain ⟨f0, f1, f2, F, lF, tF⟩ := nf_ex hp zz
  obtain ⟨g0, g1, g2, Gb, lG, tG⟩ := nf_ex hp (zb G.nz)
  obtain ⟨h0, h1, h2, Hb, lH, tH⟩ := nf_ex hp (zb G'.nz)
  obtain ⟨w0, w1, w2, Wb, lW, tW⟩ := nf_ex hp (zb F.nz)
  obtain ⟨gi, li⟩ := id_good hp
  have A1 := af_of h.after hp G.ia G.ib G.ic G'.ia G'.ib G'.ic G.nz G'.nz F.ia F.ib F.ic lF tF
  have P1 := h.prod p _ _ _ _ _ _ _ _ _ hp G.ia G.ib G.ic G'.ia G'.ib G'.ic F.ia F.ib F.ic lF tF
  have B1 := bk_of h.back hp G.ia G.ib G.ic G.nz Gb.ia Gb.ib Gb.ic lG tG
  have t1 : Tp p (rm g0 a b c) (rm g1 a b c) (rm g2 a b c) e0R e1R e2R := by
    have q := (tG.symm hp).mul hp (Tp.of hp (CgR.rfl (a := a)) (CgR.rfl (a := b)) (CgR.rfl (a := c)))
    rw [(bk_rm0 a b c).1, (bk_rm0 a b c).2.1, (bk_rm0 a b c).2.2] at q
    exact q.trans hp (dg_tp hp G.nz)
  have t2 : Tp p (rm a g0 g1 g2) (rm b g0 g1 g2) (rm c g0 g1 g2) e0R e1R e2R := by
    have q := (Tp.of hp (CgR.rfl (a := a)) (CgR.rfl (a := b)) (CgR.rfl (a := c))).mul hp (tG.symm hp)
    rw [(rm_bk0 a b c).1, (rm_bk0 a b c).2.1, (rm_bk0 a b c).2.2] at q
    exact q.trans hp (dg_tp hp G.nz)
  have P2 := h.prod p _ _ _ _ _ _ _ _ _ hp Gb.ia Gb.ib Gb.ic G.ia G.ib G.ic gi.ia gi.ib gi.ic li t1
  have P3 := h.prod p _ _ _ _ _ _ _ _ _ hp G.ia G.ib G.ic Gb.ia Gb.ib Gb.ic gi.ia gi.ib gi.ic li t2
  have A2 := af_of h.after hp Gb.ia Gb.ib Gb.ic G.ia G.ib G.ic Gb.nz G.nz gi.ia gi.ib gi.ic li t1
  have t3 : Tp p (rm a e0R e1R e2R) (rm b e0R e1R e2R) (rm c e0R e1R e2R) a b c := by
    rw [rm_e, rm_e, rm_e]
    exact Tp.of hp CgR.rfl CgR.rfl CgR.rfl
  have A3 := af_of h.after hp G.ia G.ib G.ic gi.ia gi.ib gi.ic G.nz gi.nz G.ia G.ib G.ic l t3
  have t4 : Tp p (bk0 g0 g1 g2) (bk1 g0 g1 g2) (bk2 g0 g1 g2) a b c := by
    have q := (tG.symm hp).back hp
    obtain ⟨c0, c1, c2⟩ := bk_bk a b c
    rw [c0, c1, c2] at q
    exact q.trans hp ⟨det3 a b c, G.nz, CgR.rfl, CgR.rfl, CgR.rfl⟩
  have B2 := bk_of h.back hp Gb.ia Gb.ib Gb.ic Gb.nz G.ia G.ib G.ic l t4
  have B3' := bk_of h.back hp F.ia F.ib F.ic F.nz Wb.ia Wb.ib Wb.ic lW tW
  have B4 := bk_of h.back hp G'.ia G'.ib G'.ic G'.nz Hb.ia Hb.ib Hb.ic lH tH
  have t5 : Tp p (rm h0 g0 g1 g2) (rm h1 g0 g1 g2) (rm h2 g0 g1 g2) w0 w1 w2 := by
    have q := (tH.symm hp).mul hp (tG.symm hp)
    have r := tF.back hp
    obtain ⟨c0, c1, c2⟩ := bk_mul a b c x y z
    rw [c0, c1, c2] at r
    exact (q.trans hp r).trans hp tW
  have A4 := af_of h.after hp Hb.ia Hb.ib Hb.ic Gb.ia Gb.ib Gb.ic Hb.nz Gb.nz Wb.ia Wb.ib Wb.ic lW t5
  have L1 := h.like p f0 f1 f2 F.ia F.ib F.ic
  have L2 := h.like p g0 g1 g2 Gb.ia Gb.ib Gb.ic
  obtain ⟨v1, v2⟩ := fl_tab f0 f1 f2
  obtain ⟨v3, v4⟩ := fl_tab e0R e1R e2R
  obtain ⟨v5, v6⟩ := fl_tab a b c
  obtain ⟨v7, v8⟩ := fl_tab w0 w1 w2
  have ue : tabD e0R e1R e2R = .tup [.tup [.int 1, .int 0, .int 0], .tup [.int 0, .int 1, .int 0], .tup [.int 0, .int 0, .int 1]] := rfl
  rw [ue] at P2 P3 A2 A3 v3 v4
  clear ue t1 t2 t3 t4 t5 tF tG tH tW zb zz
  generalize tabD a b c = TA at *
  generalize tabD x y z = TX at *
  generalize tabD f0 f1 f2 = TF at *
  generalize tabD g0 g1 g2 = TG at *
  generalize tabD h0 h1 h2 = TH at *
  generalize tabD w0 w1 w2 = TW at *
  generalize scr ns = S at *
  simp [c_law_k24, Df.run, startR, e1, k0, k1, k2, k3, j0, j1, j2, j3, A1, P1, B1, P2, P3, A2, A3, B2, B3', B4, A4, L1, L2, v1, v2, v3, v4, v5, v6, v7, v8]
end
theorem stp_scr (ns : List Int) (k : Int) : biD .stp [scr ns, .int k] = .ok (scr ((pk2 k.toNat ns.length).filterMap fun i => ns[i]?)) := by
  show R.ok (D.lst ((pk2 k.toNat (ns.map D.int).length).filterMap fun i => (ns.map D.int)[i]?)) = .ok (D.lst (((pk2 k.toNat ns.length).filterMap fun i => ns[i]?).map D.int))
  rw [List.length_map, List.map_filterMap]
  simp only [List.getElem?_map]
noncomputable def up24 : Nat → List Nat := fun _ => []
noncomputable def xn24 : Nat → List D → R Ex := fun _ _ => .bad
noncomputable def Q24 : Prg := ⟨true, fun
  | 1 => c_rest
  | 9 => c_turned_over
  | 17 => c_one_form
  | 23 => c_crossed
  | 61 => c_measure
  | 104 => c_columns
  | 91 => c_sums_by
  | 78 => c_table_of
  | 98 => c_crossed_rows
  | 105 => c_after
  | 106 => c_table_back
  | 79 => c_law_mixed_v2
  | 81 => c_law_prime_v2
  | 82 => c_law_form_v2
  | 95 => c_law_dot
  | 83 => c_law_rows
  | 84 => c_law_table
  | 85 => c_law_whole_v1
  | 86 => c_law_rests_v1
  | 87 => c_law_table_like
  | 88 => c_law_steps
  | 107 => c_law_product
  | 108 => c_law_k24
  | _ => ⟨0, false, .nil⟩, fun _ => .non, up24, xn24⟩
theorem law24 (ns : List Int) : (gam Q24 7).F 108 [scr ns] = .ok (.bl true) := by
  have rs : ∀ n, S_rest (gam Q24 (n + 1)) := fun n p m hp => cut_ok (r_rest _ p m hp)
  have mi : ∀ n, S_mix2 (gam Q24 (n + 1)) := fun n ns k hk => cut_ok (r_mix2 _ ns k hk)
  have tu : ∀ n, S_turnedS (gam Q24 (n + 2)) := fun n p m hp z => let ⟨t, t1, t2, t3, e⟩ := r_turnedS (rs n) p m hp z; ⟨t, t1, t2, t3, cut_ok e⟩
  have fo : ∀ n, S_formS (gam Q24 (n + 3)) := fun n p b xs l t hp e it => cut_ok (r_formS (rs (n + 1)) (tu n) hp e it)
  have me : ∀ n, S_measQ (gam Q24 (n + 2)) := fun n p q a b c hp ha hb hc => cut_ok (r_measQ (rs n) p q a b c hp ha hb hc)
  have tf : ∀ n, S_tofX (gam Q24 (n + 4)) := fun n p t q a b c hp ha hb hc z l u e it => cut_ok (r_tofX (me (n + 1)) (fo n) p t q a b c hp ha hb hc z l u e it)
  have co : ∀ n, S_cols (gam Q24 (n + 1)) := fun n t q a b c => cut_ok (r_cols _ t q a b c)
  have su : ∀ n, S_sums (gam Q24 (n + 2)) := fun n p t q q' a b c x hp ha hb hc hx => cut_ok (r_sums (rs n) p t q q' a b c x hp ha hb hc hx)
  have cr : ∀ n, S_crows (gam Q24 (n + 2)) := fun n a b c ha hb hc n1 n2 n3 => cut_ok (r_crows (fun a b ha hb ne => cut_ok (r_cross _ a b ha hb ne)) a b c ha hb hc n1 n2 n3)
  have ba : ∀ n, S_back (gam Q24 (n + 5)) := fun n p a b c hp ha hb hc z l u e it => cut_ok (r_back (cr (n + 2)) (co (n + 3)) (tf n) p a b c hp ha hb hc z l u e it)
  have af : ∀ n, S_after (gam Q24 (n + 5)) := fun n p x y z a b c hp hx hy hz ha hb hc nz l u e it => cut_ok (r_after (co (n + 3)) (su (n + 2)) (tf n) p x y z a b c hp hx hy hz ha hb hc nz l u e it)
  have f2 : ∀ n, S_form2 (gam Q24 (n + 1)) := fun n p b xs l t hp e it => cut_ok (r_form2 _ hp e it)
  have tb : ∀ n, S_table (gam Q24 (n + 2)) := fun n p a b c l t hp e it => cut_ok (r_table (f2 n) p a b c l t hp e it)
  have tt : ∀ n, S_tableT (gam Q24 (n + 2)) := fun n p a b c l t hp e it => cut_ok (r_tableT (f2 n) p a b c l t hp e it)
  have dt : ∀ n, S_dot (gam Q24 (n + 1)) := fun n q q' a x ha hx => cut_ok (r_dot _ q q' a x ha hx)
  have h : H24 (gam Q24 6) ns := by
    refine ⟨⟨_, pr4_is _, cut_ok (r_prime2 (mi 4) ns)⟩, fun p k hp k0 => ?_, fun p a b c ha hb hc => cut_ok (r_like (fun p xs hx => cut_ok (r_rests1 (fun x => cut_ok (r_whole1 _ x)) p xs hx)) p a b c ha hb hc), af 1, ba 1, fun p a b c x y z f0 f1 f2 hp ia ib ic ix iy iz i0 i1 i2 l1 t => ?_⟩
    · obtain ⟨n, n0, n1, e1⟩ := r_steps (gam Q24 5) ((pk2 k.toNat ns.length).filterMap fun i => ns[i]?) 1
      obtain ⟨a, b, c, g, e2⟩ := r_rows (mi 4) ((pk2 k.toNat ns.length).filterMap fun i => ns[i]?) p 1 n hp (by decide) n0 n1
      obtain ⟨l, t, el, it, tz, gd, l1⟩ := tab_form0 hp g.nz
      exact ⟨_, _, n, _, _, _, stp_scr ns k, cut_ok e1, cut_ok e2, tb 4 p a b c l t hp el it, gd, l1⟩
    · have e := r_pr107 (dt 4) (tt 3) p a b c x y z f0 f1 f2 hp ia ib ic ix iy iz i0 i1 i2 l1 t
      generalize tabD f0 f1 f2 = F at e ⊢
      generalize tabD a b c = G at e ⊢
      generalize tabD x y z = G2 at e ⊢
      show cutX true (c_law_product.run (gam Q24 5) [.int p, G, G2]) = _
      rw [e]
      rfl
  exact cut_ok (ev_k24 h)
end OvC
end
set_option Elab.async false
set_option linter.all false
set_option maxRecDepth 100000
namespace OvC
open PySem PySem.Spec PyProof.Rows Ov L2
noncomputable def tp24 (i : Nat) : Stmt := PySem.Challenge.pw_ovalfield_k24_after_and_back.main.body.getD i (.Pass ⟨0, 0, 0, 0⟩)
noncomputable def fns24 : List (Str × Nat × Nat) := ([("rest", 1, 2), ("turned_over", 9, 2), ("one_form", 17, 2), ("crossed", 23, 2), ("measure", 61, 4), ("columns", 104, 1), ("sums_by", 91, 3), ("table_of", 78, 2), ("crossed_rows", 98, 1), ("after", 105, 3), ("table_back", 106, 2), ("_law_mixed", 79, 2), ("_law_prime", 81, 1), ("_law_form", 82, 2), ("_law_dot", 95, 2), ("_law_rows", 83, 4), ("_law_table", 84, 2), ("_law_whole", 85, 1), ("_law_rests", 86, 3), ("_law_table_like", 87, 2), ("_law_steps", 88, 2), ("_law_product", 107, 3), ("law", 108, 1)] : List (Str × Nat × Nat))
noncomputable def bl24 : List Str := ["all", "bool", "int", "isinstance", "len", "list", "max", "min", "range", "tuple", "zip"]
noncomputable def rzs24 : List (Str × Nat) := []
noncomputable def exs24 : List (Str × Nat) := []
noncomputable def gls24 : List (Str × Nat) := []
noncomputable abbrev C24 (h : Bool) (ps N : List Str) (i d : Nat) : Bool := chkD 80 h fns24 bl24 rzs24 exs24 gls24 ps N (tp24 i) (Q24.defs d)
theorem ck24_0 : C24 false ["p", "n"] ["p", "n"] 7 1 = true := by decide +kernel
theorem ck24_1 : C24 false ["p", "n"] ["p", "n", "turned"] 8 9 = true := by decide +kernel
theorem ck24_2 : C24 false ["p", "numbers"] ["p", "numbers", "rests", "first", "factor", "#5", "#6"] 10 17 = true := by decide +kernel
theorem ck24_3 : C24 false ["one", "other"] ["one", "other"] 11 23 = true := by decide +kernel
theorem ck24_4 : C24 false ["p", "one", "other", "third"] ["p", "one", "other", "third"] 13 61 = true := by decide +kernel
theorem ck24_5 : C24 false ["rows"] ["rows"] 15 104 = true := by decide +kernel
theorem ck24_6 : C24 false ["p", "rows", "numbers"] ["p", "rows", "numbers", "#3"] 16 91 = true := by decide +kernel
theorem ck24_7 : C24 false ["p", "rows"] ["p", "rows", "nine"] 17 78 = true := by decide +kernel
theorem ck24_8 : C24 false ["table"] ["table"] 18 98 = true := by decide +kernel
theorem ck24_9 : C24 false ["p", "one", "other"] ["p", "one", "other", "sides", "#4"] 19 105 = true := by decide +kernel
theorem ck24_10 : C24 false ["p", "table"] ["p", "table"] 20 106 = true := by decide +kernel
theorem ck24_11 : C24 false ["_law_script", "_law_k"] ["_law_script", "_law_k", "_law_cell"] 22 79 = true := by decide +kernel
theorem ck24_12 : C24 false ["_law_script"] ["_law_script"] 23 81 = true := by decide +kernel
theorem ck24_13 : C24 false ["_law_p", "_law_numbers"] ["_law_p", "_law_numbers", "_law_rests_here", "_law_first", "_law_over", "#5", "#6", "#7", "#8"] 24 82 = true := by decide +kernel
theorem ck24_14 : C24 false ["_law_one", "_law_other"] ["_law_one", "_law_other"] 25 95 = true := by decide +kernel
theorem ck24_15 : C24 false ["_law_script", "_law_p", "_law_at", "_law_many"] ["_law_script", "_law_p", "_law_at", "_law_many", "_law_rows_here", "_law_k", "_law_cell", "_law_one", "_law_other", "_law_times", "_law_kept", "_law_here", "_law_there", "#13", "#14"] 26 83 = true := by decide +kernel
theorem ck24_16 : C24 false ["_law_p", "_law_rows_here"] ["_law_p", "_law_rows_here", "_law_numbers"] 27 84 = true := by decide +kernel
theorem ck24_17 : C24 false ["_law_found"] ["_law_found"] 28 85 = true := by decide +kernel
theorem ck24_18 : C24 false ["_law_found", "_law_p", "_law_many"] ["_law_found", "_law_p", "_law_many", "#3"] 29 86 = true := by decide +kernel
theorem ck24_19 : C24 false ["_law_found", "_law_p"] ["_law_found", "_law_p", "#2"] 30 87 = true := by decide +kernel
theorem ck24_20 : C24 false ["_law_script", "_law_at"] ["_law_script", "_law_at"] 31 88 = true := by decide +kernel
theorem ck24_21 : C24 false ["_law_p", "_law_one", "_law_other"] ["_law_p", "_law_one", "_law_other", "_law_rows_here", "_law_row", "#5"] 32 107 = true := by decide +kernel
theorem ck24_22 : C24 false ["_law_script"] ["_law_script", "_law_p", "_law_one", "_law_other", "_law_unit", "_law_found", "_law_back"] 33 108 = true := by decide +kernel
set_option maxHeartbeats 0 in
theorem all24 {l : PySem.W.OpenLaw} {w : World} {K : PySem.W.Frag} {h : Heap} {mg : Str → Option Value} {fa f0 f1 f2 f3 f4 f5 f6 f7 f8 f9 f10 f11 f12 f13 f14 f15 f16 f17 f18 f19 f20 f21 f22 : Addr} (X : K.In h) (G : h.Ns mainGlobals mg) (hfa : mg "law" = some (.ref fa))
   
    (a0 : FnI K f0 "rest" (tp24 7))
    (a1 : FnI K f1 "turned_over" (tp24 8))
    (a2 : FnI K f2 "one_form" (tp24 10))
    (a3 : FnI K f3 "crossed" (tp24 11))
    (a4 : FnI K f4 "measure" (tp24 13))
    (a5 : FnI K f5 "columns" (tp24 15))
    (a6 : FnI K f6 "sums_by" (tp24 16))
    (a7 : FnI K f7 "table_of" (tp24 17))
    (a8 : FnI K f8 "crossed_rows" (tp24 18))
    (a9 : FnI K f9 "after" (tp24 19))
    (a10 : FnI K f10 "table_back" (tp24 20))
    (a11 : FnI K f11 "_law_mixed" (tp24 22))
    (a12 : FnI K f12 "_law_prime" (tp24 23))
    (a13 : FnI K f13 "_law_form" (tp24 24))
    (a14 : FnI K f14 "_law_dot" (tp24 25))
    (a15 : FnI K f15 "_law_rows" (tp24 26))
    (a16 : FnI K f16 "_law_table" (tp24 27))
    (a17 : FnI K f17 "_law_whole" (tp24 28))
    (a18 : FnI K f18 "_law_rests" (tp24 29))
    (a19 : FnI K f19 "_law_table_like" (tp24 30))
    (a20 : FnI K f20 "_law_steps" (tp24 31))
    (a21 : FnI K f21 "_law_product" (tp24 32))
    (a22 : FnI K f22 "law" (tp24 33))
    (z0 : PySem.W.nsIn K mainGlobals "all" = some none) (z1 : PySem.W.nsIn K mainGlobals "bool" = some none) (z2 : PySem.W.nsIn K mainGlobals "int" = some none) (z3 : PySem.W.nsIn K mainGlobals "isinstance" = some none) (z4 : PySem.W.nsIn K mainGlobals "len" = some none) (z5 : PySem.W.nsIn K mainGlobals "list" = some none) (z6 : PySem.W.nsIn K mainGlobals "max" = some none) (z7 : PySem.W.nsIn K mainGlobals "min" = some none) (z8 : PySem.W.nsIn K mainGlobals "range" = some none) (z9 : PySem.W.nsIn K mainGlobals "tuple" = some none) (z10 : PySem.W.nsIn K mainGlobals "zip" = some none) :
    ∃ fd : FuncData, (∀ (s : Shared) (v : Value), BindsTo s fd ⟨[v], []⟩ [("_law_script", v)]) ∧ ∀ base : Heap, K.In base → base.Ns mainGlobals mg → FnOk l.prog w K mg base (CXR l.prog w) 7 fa fd ["_law_script"] (lawSp K) := by
  obtain ⟨_, F, e⟩ := a22; obtain ⟨_, _, _, _, _, _, _, _, _, rfl, _, _⟩ := F.ex
  cases hfa.symm.trans (PySem.W.mg_of X G e)
  have T : Tab K mg (fun _ => none) fns24 bl24 rzs24 exs24 gls24 Q24 80 := ⟨xt_none fun _ _ => rfl, all_cons (PySem.W.mg_none_of X G z0) (all_cons (PySem.W.mg_none_of X G z1) (all_cons (PySem.W.mg_none_of X G z2) (all_cons (PySem.W.mg_none_of X G z3) (all_cons (PySem.W.mg_none_of X G z4) (all_cons (PySem.W.mg_none_of X G z5) (all_cons (PySem.W.mg_none_of X G z6) (all_cons (PySem.W.mg_none_of X G z7) (all_cons (PySem.W.mg_none_of X G z8) (all_cons (PySem.W.mg_none_of X G z9) (all_cons (PySem.W.mg_none_of X G z10) (all_nil))))))))))), all_nil, all_cons (row2 2 1 X G a0 rfl ck24_0 fun _ _ _ _ _ _ _ _ => rfl) (all_cons (row2 2 9 X G a1 rfl ck24_1 fun _ _ _ _ _ _ _ _ => rfl) (all_cons (row2 2 17 X G a2 rfl ck24_2 fun _ _ _ _ _ _ _ _ => rfl) (all_cons (row2 2 23 X G a3 rfl ck24_3 fun _ _ _ _ _ _ _ _ => rfl) (all_cons (row4 4 61 X G a4 rfl ck24_4 fun _ _ _ _ _ _ _ _ _ _ => rfl) (all_cons (row1 1 104 X G a5 rfl ck24_5 fun _ _ _ _ _ _ _ => rfl) (all_cons (row3 3 91 X G a6 rfl ck24_6 fun _ _ _ _ _ _ _ _ _ => rfl) (all_cons (row2 2 78 X G a7 rfl ck24_7 fun _ _ _ _ _ _ _ _ => rfl) (all_cons (row1 1 98 X G a8 rfl ck24_8 fun _ _ _ _ _ _ _ => rfl) (all_cons (row3 3 105 X G a9 rfl ck24_9 fun _ _ _ _ _ _ _ _ _ => rfl) (all_cons (row2 2 106 X G a10 rfl ck24_10 fun _ _ _ _ _ _ _ _ => rfl) (all_cons (row2 2 79 X G a11 rfl ck24_11 fun _ _ _ _ _ _ _ _ => rfl) (all_cons (row1 1 81 X G a12 rfl ck24_12 fun _ _ _ _ _ _ _ => rfl) (all_cons (row2 2 82 X G a13 rfl ck24_13 fun _ _ _ _ _ _ _ _ => rfl) (all_cons (row2 2 95 X G a14 rfl ck24_14 fun _ _ _ _ _ _ _ _ => rfl) (all_cons (row4 4 83 X G a15 rfl ck24_15 fun _ _ _ _ _ _ _ _ _ _ => rfl) (all_cons (row2 2 84 X G a16 rfl ck24_16 fun _ _ _ _ _ _ _ _ => rfl) (all_cons (row1 1 85 X G a17 rfl ck24_17 fun _ _ _ _ _ _ _ => rfl) (all_cons (row3 3 86 X G a18 rfl ck24_18 fun _ _ _ _ _ _ _ _ _ => rfl) (all_cons (row2 2 87 X G a19 rfl ck24_19 fun _ _ _ _ _ _ _ _ => rfl) (all_cons (row2 2 88 X G a20 rfl ck24_20 fun _ _ _ _ _ _ _ _ => rfl) (all_cons (row3 3 107 X G a21 rfl ck24_21 fun _ _ _ _ _ _ _ _ _ => rfl) (all_cons (row1 1 108 X G ⟨_, F, e⟩ rfl ck24_22 fun _ _ _ _ _ _ _ => rfl) (all_nil)))))))))))))))))))))))⟩
  exact ⟨_, fun s v => .of_eq rfl, fun base _ _ => law_fn (def_ok T (tab_ok T 6) F rfl ck24_22) law24⟩
theorem walk24 {l : PySem.W.OpenLaw} {q : Program} {loose : List Str} {XP : (Str → Option Value) → Heap → Prop} {YP : World → Heap → Prop} {d : DefRec} {K : Params → PySem.W.Frag} (hn : l.most = some 63) (hdf : d.params.defaults = [])
    (hY : ∀ (w : World) (h : Heap), YP w h → (K w.params).In h)
    (F : ∀ (w : World) (mg : Str → Option Value) (fa : Addr) (h : Heap), (K w.params).In h → h.Ns mainGlobals mg → mg d.name = some (.ref fa) →
      ∃ fd : FuncData, (∀ (s : Shared) (u : Value), BindsTo s fd ⟨[u], []⟩ [("_law_script", u)]) ∧ ∀ base : Heap, (K w.params).In base → base.Ns mainGlobals mg → FnOk l.prog w (K w.params) mg base (CXR l.prog w) 7 fa fd ["_law_script"] (lawSp (K w.params))) :
    PySem.W.WalkO q loose XP YP l.row.toRowW d [] (fun f vs => PySem.call f vs) :=
  L2.walk_of (n := 63) (k := 7) (x := "_law_script") (CX := fun w => CXR l.prog w) (sp := fun w => lawSp (K w.params)) hn (by decide) hdf ⟨rfl, by decide, by decide⟩ hY F (fun _ H a ns hl _ hS => ⟨a, ns, rfl, hl, hS, fun _ _ z => z⟩) fun _ _ _ _ _ z => cxr_no z
end OvC
open PySem PySem.W PyProof.Rows
noncomputable def OvC.view24 : PySem.Program := { PySem.Challenge.pw_ovalfield_k24_after_and_back with main := { PySem.Challenge.pw_ovalfield_k24_after_and_back.main with body := [OvC.tp24 1, OvC.tp24 2, OvC.tp24 3, OvC.tp24 4, OvC.tp24 5, OvC.tp24 7, OvC.tp24 8, OvC.tp24 10, OvC.tp24 11, OvC.tp24 13, OvC.tp24 15, OvC.tp24 16, OvC.tp24 17, OvC.tp24 18, OvC.tp24 19, OvC.tp24 20, OvC.tp24 22, OvC.tp24 23, OvC.tp24 24, OvC.tp24 25, OvC.tp24 26, OvC.tp24 27, OvC.tp24 28, OvC.tp24 29, OvC.tp24 30, OvC.tp24 31, OvC.tp24 32, OvC.tp24 33] } }
set_option hygiene false
local macro_rules | `(tactic| o_head $H) => `(tactic| refine holds_open (q := OvC.view24) (loose := []) (Xt := fun s => xlAt OvC.view24 [] s && recOk (RowW.records (OpenRow.toRowW (PySem.Challenge.rw_ovalfield_k24_after_and_back.row))) s) (XP := XL OvC.view24 []) (Yf := Hook.obs $H) (Ya := Hook.val $H) (YP := Hook.says $H) (N := 3704) ?hl (Hook.of $H) (Hook.keeps $H) (fun s e => xl_of s (Bool.and_eq_true_iff.mp e).1) XL.keeps (by rfl) (by rfl) (by rfl) (fun s e => recFacts_of (Bool.and_eq_true_iff.mp e).2) (by rfl) (by first | assumption | decide +kernel) (by decide +kernel) ⟨rfl, rfl, rfl, rfl, rfl, by decide +kernel⟩ ?hw ?hc)
set_option maxRecDepth 100000 in
set_option maxHeartbeats 0 in
theorem PySem.Challenge.cw_ovalfield_k24_after_and_back_holds : PySem.Challenge.rw_ovalfield_k24_after_and_back.Holds := by
  w_on; refine holds_law (by decide +kernel) fun said => ?_; k_head
  (case hl => intro w; unfold openEnds fencedOpening topFrom; rw [PySem.W.Fast.te10274390034422433532, PySem.W.Fast.te14364793385576792824, PySem.W.Fast.te1435165496053646825, PySem.W.Fast.te14289696077712309145, PySem.W.Fast.te14082659384304107361, PySem.W.Fast.te4187177175401517315]; kernel_rfl)
  (case hw => w_witness2)
  k_fill
  refine OvC.walk24 (l := PySem.Challenge.rw_ovalfield_k24_after_and_back) rfl rfl (fun w h Y => PySem.W.kIn_of Y) ?F
  case F =>
    intro w mg fa h KX G hmg
    refine' OvC.all24 KX G hmg ?a0 ?a1 ?a2 ?a3 ?a4 ?a5 ?a6 ?a7 ?a8 ?a9 ?a10 ?a11 ?a12 ?a13 ?a14 ?a15 ?a16 ?a17 ?a18 ?a19 ?a20 ?a21 ?a22 ?z0 ?z1 ?z2 ?z3 ?z4 ?z5 ?z6 ?z7 ?z8 ?z9 ?z10
    case a0 | a1 | a2 | a3 | a4 | a5 | a6 | a7 | a8 | a9 | a10 | a11 | a12 | a13 | a14 | a15 | a16 | a17 | a18 | a19 | a20 | a21 | a22 => (refine' Ov.fni ?a ?l ?c ?k; (case a => k_is); (case l => k_is); (case c => k_is); (case k => k_is))
    (case z0 => k_is)
    (case z1 => k_is)
    (case z2 => k_is)
    (case z3 => k_is)
    (case z4 => k_is)
    (case z5 => k_is)
    (case z6 => k_is)
    (case z7 => k_is)
    (case z8 => k_is)
    (case z9 => k_is)
    (case z10 => k_is)

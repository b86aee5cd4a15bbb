import PyProof.Rows.All
import Wide.All
import OpenK.AllK
import Wide.FinOn
import PyProof.EqAt
import KE.KSortTup
import PyProof.EqKinds
import PyProof.TupleCall
import Lean
import PySem.Challenge.RW_ovalfield_k57_not_whole
set_option Elab.async false
set_option linter.all false
set_option maxRecDepth 100000
set_option maxHeartbeats 4000000
abbrev Fg:=PySem.W.Frag
abbrev Pn:=List (PySem.Addr×PySem.Obj)
abbrev Vq:=PySem.Value->PySem.Shared->Prop
set_option genSizeOfSpec false
-- CHANGE: your row's module here,as the last of these rows
namespace L2
open PySem PySem.Spec PyProof.Rows
abbrev Key:=Sum Int Str
noncomputable def ZrB:Key->Value->Bool
 | .inl k,v=>Value.isInt k v
 | .inr x,v=>Value.isStrOf x v
noncomputable def Zzq(w:World):Key->Int
 | .inl k=>hashInt k
 | .inr x=>hashStr w x
theorem Zay:∀ {k:Key} {v:Value},ZrB k v=true->(∃ i t,k=Sum.inl i/\v=Value.int i t)\/(∃ x t,k=Sum.inr x/\v=Value.str x t)
 | .inl i,v,h=>by
  obtain⟨t,e⟩:=Value.isInt_shape (k:=i) (v:=v) h
  exact .inl ⟨i,t,rfl,e⟩
 | .inr x,v,h=>by
  obtain⟨t,e⟩:=Value.isStrOf_shape (x:=x) (v:=v) h
  exact .inr ⟨x,t,rfl,e⟩
theorem ZrA(a b:Int):decide ((Sum.inl a:Key)=Sum.inl b)=(a == b):=by
 by_cases e:a=b
 ·subst e;simp
 ·have h:¬ (Sum.inl a:Key)=Sum.inl b:=fun q=>e (Sum.inl.inj q)
  rw[decide_eq_false h]
  exact(beq_eq_false_iff_ne.mpr e).symm
theorem Zrx(a b:Str):decide ((Sum.inr a:Key)=Sum.inr b)=decide (a=b):=by
 by_cases e:a=b
 ·subst e;simp
 ·have h:¬ (Sum.inr a:Key)=Sum.inr b:=fun q=>e (Sum.inr.inj q)
  rw[decide_eq_false h,decide_eq_false e]
theorem Zrz(a:Int)(b:Str):decide ((Sum.inl a:Key)=Sum.inr b)=false:=decide_eq_false (fun q=>nomatch q)
theorem Zry(a:Str)(b:Int):decide ((Sum.inr a:Key)=Sum.inl b)=false:=decide_eq_false (fun q=>nomatch q)
noncomputable def Zgt(prog:Program)(w:World):PySem.KeyKind prog w Key where
 is:=ZrB
 hash:=Zzq w
 inj:=fun v a b ha hb=>by
  rcases Zay ha with ⟨i,t,rfl,rfl⟩|⟨x,t,rfl,rfl⟩
  ·rcases Zay hb with ⟨j,u,rfl,e⟩|⟨y,u,rfl,e⟩
   ·injection e with e1 _;rw[e1]
   ·exact nomatch e
  ·rcases Zay hb with ⟨j,u,rfl,e⟩|⟨y,u,rfl,e⟩
   ·exact nomatch e
   ·injection e with e1 _;rw[e1]
 byValue:=fun k v h=>by
  rcases Zay h with ⟨i,t,rfl,rfl⟩|⟨x,t,rfl,rfl⟩<;>rfl
 pyHash:=fun hv h=>by
  rcases Zay hv with ⟨i,t,rfl,rfl⟩|⟨x,t,rfl,rfl⟩
  ·exact wpAny_pyHash_int h
  ·exact wpAny_pyHash_str h
 eqBool:=fun hu hv h=>by
  rcases Zay hu with ⟨i,t,rfl,rfl⟩|⟨x,t,rfl,rfl⟩
  ·rcases Zay hv with ⟨j,u,rfl,rfl⟩|⟨y,u,rfl,rfl⟩
   ·rw[ZrA] at h;exact wpAny_eqBool_int h
   ·rw[Zrz] at h;exact SeqAt.EqAt.int_str i t y u _ _ _ _ h
  ·rcases Zay hv with ⟨j,u,rfl,rfl⟩|⟨y,u,rfl,rfl⟩
   ·rw[Zry] at h;exact SeqAt.EqAt.str_int x t j u _ _ _ _ h
   ·rw[Zrx] at h;exact wpAny_eqBool_str h
 «strs»:=fun k x t v h=>by
  rcases Zay h with ⟨i,u,rfl,e⟩|⟨y,u,rfl,e⟩
  ·exact nomatch e
  ·injection e with e1 _
   subst e1
   cases v<;>rfl
end L2
namespace L2
open PySem PySem.Spec PyProof.Rows
inductive V where
 | non|bl (b:Bool)|int (i:Int)|str (x:Str)|byt (b:Array UInt8)|flt (b:UInt64)|ref (a:Addr)|ty (n:String)
 deriving DecidableEq
def ZaR:V->Value->Prop
 | .non,u=>u=Value.none
 | .bl b,u=>u=Value.bool b
 | .int i,u=>∃ t,u=Value.int i t
 | .str x,u=>∃ t,u=Value.str x t
 | .byt b,u=>∃ t,u=Value.bytes b t
 | .flt b,u=>∃ t,u=Value.float b t
 | .ref a,u=>u=Value.ref a
 | .ty n,u=>u=Value.type n
noncomputable abbrev Zar:List V->List Value->Prop:=Paired ZaR
theorem Zar.length{xs:List V}{us:List Value}(r:Zar xs us):xs.length=us.length:=Paired.length r
theorem Zar.get:∀ {xs:List V} {us:List Value} {i:Nat} {x:V},Zar xs us->xs[i]?=some x->∃ u,us[i]?=some u/\ZaR x u
 | _,_,_,_,.nil,e=>by simp at e
 | _,_,0,_,.cons r _,e=>by simp at e;subst e;exact⟨_,rfl,r⟩
 | _,_,i+1,x,.cons _ t,e=>by
  obtain⟨u,h1,h2⟩:=Zar.get (i:=i) (x:=x) t (by simpa using e)
  exact⟨u,by simpa using h1,h2⟩
theorem Zar.set{x:V}{u:Value}(r:ZaR x u):∀ {xs:List V} {us:List Value} (i:Nat),Zar xs us->Zar (xs.set i x) (us.set i u)
 | _,_,_,.nil=>.nil
 | _,_,0,.cons _ t=>.cons r t
 | _,_,i+1,.cons q t=>.cons q (Zar.set r i t)
theorem Zar.append:∀ {xs ys:List V} {us ws:List Value},Zar xs us->Zar ys ws->Zar (xs++ys) (us++ws)
 | _,_,_,_,.nil,s=>s
 | _,_,_,_,.cons r t,s=>.cons r (Zar.append t s)
theorem Zar.take:∀ {xs:List V} {us:List Value} (n:Nat),Zar xs us->Zar (xs.take n) (us.take n)
 | _,_,0,_=>.nil
 | _,_,_+1,.nil=>.nil
 | _,_,n+1,.cons r t=>.cons r (Zar.take n t)
theorem Zar.drop:∀ {xs:List V} {us:List Value} (n:Nat),Zar xs us->Zar (xs.drop n) (us.drop n)
 | _,_,0,r=>r
 | _,_,_+1,.nil=>.nil
 | _,_,n+1,.cons _ t=>Zar.drop n t
def ZyY:Option V->Option Value->Prop
 | some v,some u=>ZaR v u
 | none,none=>True
 | _,_=>False
def KV{κ:Type}:List (κ×V)->List (κ×Value)->Prop:=Paired fun (p:κ×V) (q:κ×Value)=>p.1=q.1/\ZaR p.2 q.2
noncomputable def kV:Key->V
 | .inl i=>.int i
 | .inr x=>.str x
inductive HO where
 /-- a list -/
 | lst (xs:List V)
 /-- a tuple (never changes) -/
 | tup (xs:List V)
 /-- a dict whose keys are ints and texts;one whose keys are tuples of ints and texts (the empty one is both) -/
 | dK (kvs:List (Key×V))|dT (kvs:List (List Key×V))
 /-- a set of ints: its members,its size -/
 | set (S:Int->Bool) (n:Nat)
 /-- an instance of the class at C,its dict at dx,its attributes -/
 | ins (C dx:Addr) (fs:List (Str×V))
 /-- the dict of the instance at x -/
 | own (x:Addr)
 /-- the dict of an exception -/
 | xd (fs:List (Str×V))
 /-- a bound method,f of x -/
 | met (f x:Addr)
 /-- a range object lo,lo+1,.. below hi -/
 | rng (lo hi:Int)
 /-- a thing that is known to the object (the script;a dict while a loop walks it): read,never written while it is so -/
 | frz (o:Obj) (u:HO)
 /-- a code object's table -/
 | tbl (ps:Array Value)
 /-- any other thing,by what is true of its one object (a def of one's own: SetO a S n:=HO.ext fun h=>..) -/
 | ext (φ:Heap->Prop)
abbrev Hp:=Addr->Option HO
noncomputable def upd(H:Hp)(a:Addr)(o:HO):Hp:=fun b=>if b=a then some o else H b
theorem Zaw{H:Hp}{a:Addr}{o:HO}:upd H a o a=some o:=by unfold upd;rw[if_pos rfl]
theorem Zai{H:Hp}{a b:Addr}{o:HO}(h:b≠a):upd H a o b=H b:=by unfold upd;rw[if_neg h]
theorem Zal{H:Hp}{a b:Addr}{o:HO}(h:H a=some o)(h':H b=none):a≠b:=by
 intro e;subst e;rw[h] at h';cases h'
section
variable (P:Program) (w:World)
def ObjOk(H:Hp)(h:Heap)(a:Addr):HO->Prop
  | .lst xs=>xs.length<=sizeLine/\∃ (its:List Value) (n:Nat),Zar xs its/\h.get? a=some { cls:=.type "list", data:=.seq its.toArray n }
  | .tup xs=>xs.length<=sizeLine/\∃ its:List Value,Zar xs its/\IsTup h a its.toArray
  | .dK kvs=>kvs.length<=sizeLine/\(a == sysModules)=false/\∃ vs,KV kvs vs/\h.DictOf (Zgt P w) a vs
  | .dT kvs=>kvs.length<=sizeLine/\(a == sysModules)=false/\∃ xs:List (List Key×Addr×Value),
      Paired (fun (p:List Key×V) (q:List Key×Addr×Value)=>p.1=q.1/\H q.2.1=some (.tup (p.1.map kV))/\ZaR p.2 q.2.2) kvs xs /\
      ∃ o es ep,h.get? a=some o/\o.ExactDict/\o.data=.dict es ep/\es.toList=xs.map (entryOfKey (tupleKind (Zgt P w)))/\(xs.map (·.1)).Nodup
  | .set S n=>h.SetOf (intKind P w) a S n
  | .ins C dx fs=>H dx=some (.own a)/\fs.length<=1000/\dx≠a/\h.get? a=some (PySem.W.instObj C dx) /\
      ∃ mA,h.Ns1 dx mA/\(∀ f,ZyY (fs.lookup f) (mA f))/\PySem.Within mA (fs.map (·.1))
  | .own _=>∃ o,h.get? a=some o
  | .xd fs=>∃ mA,h.Ns1 a mA/\∀ f,ZyY (fs.lookup f) (mA f)
  | .rng lo hi=>∃ t u v,h.get? a=some { cls:=.type "range", data:=.fields #[.int lo t,.int hi u,.int 1 v] }
  | .frz o u=>h.get? a=some o/\ObjOk H h a u
  | .tbl ps=>h.get? a=some { cls:=.none,data:=.fields ps }
  | .met f x=>h.get? a=some (PySem.W.methodObj (.ref f) (.ref x))
  | .ext φ=>φ h/\(∃ o,h.get? a=some o)/\∀ h1 h2:Heap,φ h1->(∀ o,h1.get? a=some o->h2.get? a=some o)->φ h2
def HOk(H:Hp)(h:Heap):Prop:=∀ a o,H a=some o->ObjOk P w H h a o
end
section
variable {P:Program} {w:World} {H H':Hp} {h h':Heap} {a:Addr} {o:HO}
theorem ObjOk.lt(x:ObjOk P w H h a o):a<h.objs.size:=by
 cases o with
 | lst xs=>obtain⟨_,_,_,_,e⟩:=x;exact Heap.lt_size e
 | tup xs=>obtain⟨_,_,_,p⟩:=x;exact p.lt
 | dK kvs=>obtain⟨_,_,_,_,o,_,_,e,_⟩:=x;exact Heap.lt_size e
 | dT kvs=>obtain⟨_,_,_,_,o,_,_,e,_⟩:=x;exact Heap.lt_size e
 | set S n=>obtain⟨o,_,_,_,e,_⟩:=x;exact Heap.lt_size e
 | ins C dx fs=>obtain⟨_,_,_,e,_⟩:=x;exact Heap.lt_size e
 | own y=>obtain⟨_,e⟩:=x;exact Heap.lt_size e
 | xd fs=>obtain⟨_,⟨_,_,_,e,_⟩,_⟩:=x;exact Heap.lt_size e
 | rng lo hi=>obtain⟨_,_,_,e⟩:=x;exact Heap.lt_size e
 | frz ob u=>obtain⟨e,_⟩:=x;exact Heap.lt_size e
 | tbl ps=>exact Heap.lt_size (show h.get? a=some _ from x)
 | met f y=>exact Heap.lt_size (show h.get? a=some _ from x)
 | ext φ=>obtain⟨_,⟨_,e⟩,_⟩:=x;exact Heap.lt_size e
theorem Paired.mapP{α β:Type}{F G:α->β->Prop}:∀ {l₁:List α} {l₂:List β},Paired F l₁ l₂->(∀ a b,F a b->G a b)->Paired G l₁ l₂
 | _,_,.nil,_=>.nil
 | _,_,.cons r t,f=>.cons (f _ _ r) (Paired.mapP t f)
theorem ObjOk.stay(x:ObjOk P w H h a o)(k:∀ b u,(b=a\/H b=some (.own a))->h.get? b=some u->h'.get? b=some u)
  (ho:∀ b,H b=some (.own a)->H' b=some (.own a)) (ht:∀ b xs,H b=some (.tup xs)->H' b=some (.tup xs)):ObjOk P w H' h' a o:=by
 induction o with
 | lst xs=>obtain⟨z,its,n,r,e⟩:=x;exact⟨z,its,n,r,k _ _ (.inl rfl) e⟩
 | tup xs=>obtain⟨z,its,r,ob,e,c⟩:=x;exact⟨z,its,r,ob,k _ _ (.inl rfl) e,c⟩
 | dK kvs=>obtain⟨z,y,vs,r,ob,es,ep,e,c⟩:=x;exact⟨z,y,vs,r,ob,es,ep,k _ _ (.inl rfl) e,c⟩
 | dT kvs =>
  obtain⟨z,y,xs,r,ob,es,ep,e,c⟩:=x
  exact⟨z,y,xs,Paired.mapP r fun p q z=>⟨z.1,ht _ _ z.2.1,z.2.2⟩,ob,es,ep,k _ _ (.inl rfl) e,c⟩
 | set S n=>obtain⟨ob,es,ep,t,e,c⟩:=x;exact⟨ob,es,ep,t,k _ _ (.inl rfl) e,c⟩
 | ins C dx fs =>
  obtain⟨d,z,ne,e,mA,⟨od,es,ep,e2,c⟩,r⟩:=x
  exact⟨ho _ d,z,ne,k _ _ (.inl rfl) e,mA,⟨od,es,ep,k _ _ (.inr d) e2,c⟩,r⟩
 | own y=>obtain⟨ob,e⟩:=x;exact⟨ob,k _ _ (.inl rfl) e⟩
 | xd fs=>obtain⟨mA,⟨od,es,ep,e,c⟩,r⟩:=x;exact⟨mA,⟨od,es,ep,k _ _ (.inl rfl) e,c⟩,r⟩
 | rng lo hi=>obtain⟨t,u,v,e⟩:=x;exact⟨t,u,v,k _ _ (.inl rfl) e⟩
 | frz ob u ih=>obtain⟨e,q⟩:=x;exact⟨k _ _ (.inl rfl) e,ih q⟩
 | tbl ps =>
  have e:h.get? a=some { cls:=.none,data:=.fields ps }:=x
  show h'.get? a=some { cls:=.none,data:=.fields ps }
  exact k a _ (.inl rfl) e
 | met f y =>
  have e:h.get? a=some (PySem.W.methodObj (.ref f) (.ref y)):=x
  show h'.get? a=some (PySem.W.methodObj (.ref f) (.ref y))
  exact k a _ (.inl rfl) e
 | ext φ=>obtain⟨p,⟨o,e⟩,st⟩:=x;exact⟨st _ _ p fun o q=>k _ _ (.inl rfl) q,⟨o,k _ _ (.inl rfl) e⟩,st⟩
theorem HOk.lt(x:HOk P w H h)(e:H a=some o):a<h.objs.size:=(x a o e).lt
theorem HOk.fresh(x:HOk P w H h)(e:h.objs.size<=a):H a=none:=by
 cases q:H a with
 | none=>rfl
 | some u=>exact absurd (Nat.lt_of_lt_of_le (x.lt q) e) (Nat.lt_irrefl _)
theorem HOk.kept(x:HOk P w H h)(k:∀ b u,h.get? b=some u->h'.get? b=some u):HOk P w H h':=fun a o e =>
 (x a o e).stay (fun b u _ q=>k b u q) (fun _ q=>q) fun _ _ q=>q
theorem HOk.laid(x:HOk P w H h)(k:∀ b u,h.get? b=some u->h'.get? b=some u)(hp:h.objs.size<=a)(new:ObjOk P w (upd H a o) h' a o):HOk P w (upd H a o) h':=fun b u e=>by
 have hn:=x.fresh hp
 by_cases hb:b=a
 ·subst hb;rw[Zaw] at e;cases e;exact new
 ·rw[Zai hb] at e
  exact(x b u e).stay (fun c v _ q=>k c v q) (fun c q=>by rw[Zai (Zal q hn)];exact q) fun c xs q=>by rw[Zai (Zal q hn)];exact q
end
def Rd(H:Hp)(a:Addr)(u:HO):Prop:=H a=some u\/∃ o,H a=some (.frz o u)
theorem Rd.ok{P:Program}{w:World}{H:Hp}{h:Heap}{a:Addr}{u:HO}(r:Rd H a u)(x:HOk P w H h):ObjOk P w H h a u:=by
 rcases r with r|⟨o,r⟩
 ·exact x a u r
 ·obtain⟨_,q⟩:=x a _ r
  exact q
def Mut:Option HO->Prop
 | some (.lst _)=>True
 | some (.dK _)=>True
 | some (.dT _)=>True
 | some (.set _ _)=>True
 | some (.ins _ _ _)=>True
 | some (.ext _)=>True
 | _=>False
section
variable {P:Program} {w:World} {H:Hp} {h h':Heap} {x e:Addr} {o':HO}
theorem HOk.write(ok:HOk P w H h)(mu:Mut (H x))(he:e=x\/H e=some (.own x))(k:∀ b u,b≠e->h.get? b=some u->h'.get? b=some u)(heo:∃ u,h'.get? e=some u)
  (new:ObjOk P w (upd H x o') h' x o'):HOk P w (upd H x o') h':=fun b u q=>by
 have nown:∀ c y,H c=some (.own y)->c≠x:=fun c y r z=>by subst z;rw[r] at mu;exact mu
 have ntup:∀ c xs,H c=some (.tup xs)->c≠x:=fun c xs r z=>by subst z;rw[r] at mu;exact mu
 by_cases hb:b=x
 ·subst hb;rw[Zaw] at q;cases q;exact new
 ·rw[Zai hb] at q
  by_cases hbe:b=e
  ·have q':H b=some (.own x):=by
    rcases he with z|z
    ·exact absurd (hbe.trans z) hb
    ·rw[hbe];exact z
   rw[q] at q';cases q'
   obtain⟨v,hv⟩:=heo
   exact⟨v,by rw[hbe];exact hv⟩
  ·refine(ok b u q).stay (fun c v hc r=>k c v ?_ r) (fun c r=>by rw[Zai (nown c b r)];exact r) fun c xs r=>by rw[Zai (ntup c xs r)];exact r
   rcases hc with rfl|hc
   ·exact hbe
   ·rintro rfl
    rcases he with z|z
    ·exact nown c b hc z
    ·rw[hc] at z;cases z;exact hb rfl
end
structure Un (fs ex:List Addr) (H H':Hp) (h h':Heap):Prop where
 keep:∀ b o,h.get? b=some o->H b=none->b∉fs->b∉ex->h'.get? b=some o
 slot:∀ b o,h.get? b=some o->H b=none->b∈fs->b∉ex->∃ sl,h'.get? b=some { o with slots:=sl }
 free:∀ b o,h.get? b=some o->H b=none->b∉ex->H' b=none
 there:∀ b o,h.get? b=some o->b∉ex->∃ o',h'.get? b=some o'
 tups:∀ b xs,H b=some (.tup xs)->H' b=some (.tup xs)
 frzs:∀ b o u,H b=some (.frz o u)->H' b=some (.frz o u)
 tbls:∀ b ps,H b=some (.tbl ps)->∃ more,H' b=some (.tbl (ps++more))
section
variable {fs fs' ex ex':List Addr} {H H1 H2:Hp} {h h1 h2 h':Heap} {a x e:Addr} {o:HO}
theorem Un.any(u:Un fs ex H H1 h h1){b:Addr}{ob:Obj}(q:h.get? b=some ob)(n:H b=none)(hx:b∉ex):∃ sl,h1.get? b=some { ob with slots:=sl }:=by
 by_cases hb:b∈fs
 ·exact u.slot b ob q n hb hx
 ·exact⟨ob.slots,u.keep b ob q n hb hx⟩
theorem Un.kept(k:∀ b u,h.get? b=some u->h'.get? b=some u):Un fs ex H H h h' :=
 ⟨fun b ob q _ _ _=>k b ob q,fun b ob q _ _ _=>⟨ob.slots,k b ob q⟩,fun _ _ _ n _=>n,fun b ob q _=>⟨ob,k b ob q⟩,fun _ _ q=>q,fun _ _ _ q=>q,fun _ ps q=>⟨#[],by rw[q];simp⟩⟩
theorem Un.refl:Un fs ex H H h h:=Un.kept fun _ _ q=>q
theorem Un.laid(k:∀ b u,h.get? b=some u->h'.get? b=some u)(hp:h.objs.size<=a)(hn:H a=none):Un fs ex H (upd H a o) h h' where
 keep:=fun b u q _ _ _=>k b u q
 slot:=fun b u q _ _ _=>⟨u.slots,k b u q⟩
 free:=fun b u q n _=>by rw[Zai (Nat.ne_of_lt (Nat.lt_of_lt_of_le (Heap.lt_size q) hp))];exact n
 there:=fun b u q _=>⟨u,k b u q⟩
 tups:=fun b xs q=>by rw[Zai (Zal q hn)];exact q
 frzs:=fun b u xs q=>by rw[Zai (Zal q hn)];exact q
 tbls:=fun b ps q=>⟨#[],by rw[Zai (Zal q hn),q];simp⟩
theorem Un.write(mu:Mut (H x))(he:e=x\/H e=some (.own x))(k:∀ b u,b≠e->h.get? b=some u->h'.get? b=some u)(heo:∃ u,h'.get? e=some u):Un fs ex H (upd H x o) h h':=by
 have hx:∀ b,H b=none->b≠x:=fun b n z=>by subst z;rw[n] at mu;exact mu
 have hb:∀ b,H b=none->b≠e:=fun b n z=>by
  subst z
  rcases he with r|r
  ·exact hx b n r
  ·rw[n] at r;cases r
 have hm:∀ b u,H b=some u->¬ Mut (some u)->b≠x:=fun b u q nm z=>by subst z;rw[q] at mu;exact nm mu
 refine⟨fun b u q n _ _=>k b u (hb b n) q,fun b u q n _ _=>⟨u.slots,k b u (hb b n) q⟩,fun b u q n _=>by rw[Zai (hx b n)];exact n,fun b u q _=>?_,
  fun b xs q=>by rw[Zai (hm b _ q fun z=>z)];exact q,fun b u xs q=>by rw[Zai (hm b _ q fun z=>z)];exact q,fun b ps q=>⟨#[],by rw[Zai (hm b _ q fun z=>z),q];simp⟩⟩
 by_cases hbe:b=e
 ·subst hbe;exact heo
 ·exact⟨u,k b u hbe q⟩
end
noncomputable def trk(h:Heap)(H:Hp):List Addr:=(List.range h.objs.size).filter fun a=>(H a).isSome
noncomputable def Zlb(h:Heap)(H:Hp):Heap:=PySem.W.hideAll h (trk h H)
theorem Zjv(h:Heap)(H:Hp):(Zlb h H).objs.size=h.objs.size:=PySem.W.hideAll_size _ _
theorem Zla{h:Heap}{H:Hp}{b:Addr}{o:Obj}(e:h.get? b=some o)(n:H b=none):(Zlb h H).get? b=some o :=
 PySem.W.hideAll_get _ e fun hm=>by
  have q:(H b).isSome=true:=(List.mem_filter.mp hm).2
  rw[n] at q;simp at q
theorem ZnU{h:Heap}{H:Hp}{b:Addr}{o:Obj}(e:(Zlb h H).get? b=some o):h.get? b=some o/\H b=none:=by
 have e':h.get? b=some o:=PySem.W.of_hideAll (trk h H) e
 refine⟨e',?_⟩
 cases q:H b with
 | none=>rfl
 | some x =>
  have hm:b∈trk h H:=List.mem_filter.mpr ⟨List.mem_range.mpr (Heap.lt_size e'),by simp[q]⟩
  have z:(Zlb h H).get? b=none:=PySem.W.hideAll_none (trk h H) hm
  rw[z] at e;cases e
noncomputable def Zo5(g h:Heap)(L:Addr):Pn:=(List.range h.objs.size).filterMap fun a=>if a=L\/(g.get? a).isSome=true then none else (h.get? a).map fun o=>(a,o)
noncomputable def rest(g h:Heap)(L d:Addr):Pn:=(Zo5 g h L).filter fun p=>decide (p.1≠d)
end L2
namespace L2
open PySem PySem.Spec PyProof.Rows
structure Mod (K:Fg) (mg:Str->Option Value) (base:Heap):Prop where
 kin:K.In base
 glob:base.Ns mainGlobals mg
 blt:∃ mb,base.Ns builtinsNs mb/\∀ x:Str,x≠"__name__"->mb x=bootBuiltins x
 nolimit:base.NoLimit
structure Cx where
 prog:Program
 w:World
 K:Fg
 mg:Str->Option Value
 base:Heap
 A:Around
 N:List Str
 s₀:Shared
 H₀:Hp
 env:Env
 outer:List Env
 stack:List Env
 ex:List Addr
 fn:Str->Bool
 calm:Bool
 pn:Pn
 xe:Value->Shared->Prop
noncomputable def frs(l:List Env):List Addr:=l.filterMap (·.frame)
noncomputable abbrev Cx.fs(X:Cx):List Addr:=frs X.outer
def Vis(sc:Scope)(x:Str):Prop:=sc.names.lookup x=some .local\/sc.names.lookup x=some .cell\/sc.names.lookup x=some .free
def Loc(sc:Scope)(x:Str):Prop:=sc.names.lookup x=some .local\/sc.names.lookup x=some .cell
noncomputable def ZzK(env:Env)(h:Heap)(m:Str->Option Value)(x:Str)(u:Value):Prop :=
 (env.kindOf x=some .local/\m x=some u)\/((env.kindOf x=some .cell\/env.kindOf x=some .free)/\∃ c,env.cells.lookup x=some c/\h.IsCell c (some u))
structure Cx.Ok (X:Cx):Prop where
 mod:Mod X.K X.mg X.base
 kind:X.env.scope.kind=.function
 glob:X.env.globals=mainGlobals
 blt:X.env.builtins=builtinsNs
 above:X.s₀.heap.objs.size<=X.env.locals
 inj:∀ x y c,X.env.cells.lookup x=some c->X.env.cells.lookup y=some c->x=y
 has:∀ x,(X.env.kindOf x=some .cell\/X.env.kindOf x=some .free)->∃ c,X.env.cells.lookup x=some c
 cab:∀ x c,X.fn x=true->X.env.cells.lookup x=some c->X.s₀.heap.objs.size<=c
 hd:X.calm=true->X.A.handled=none
 frames:X.A.frames=some X.stack
 stk:X.stack=X.outer\/(X.stack=X.env::X.outer/\X.env.frame=some X.env.locals)
 exf:∀ b∈X.ex,b≠X.env.locals/\∀ x c,X.env.cells.lookup x=some c->c≠b
 bs:∀ b o,X.base.get? b=some o->X.s₀.heap.get? b=some o/\X.H₀ b=none
 bsz:X.base.objs.size<=X.s₀.heap.objs.size
 noex:∀ b o,X.base.get? b=some o->b∉X.ex
 exfs:∀ b∈X.ex,b∉X.fs
 funs:X.s₀.heap.FunFrames X.base X.outer
 frf:∀ b∈X.fs,X.H₀ b=none
structure Inv (X:Cx) (pins:Pn) (σ:List (Option V)) (H:Hp) (s:Shared):Prop where
 ok:X.Ok
 os:s.os=X.s₀.os
 bare:AllBare s.gens
 base:Un X.fs X.ex X.H₀ H X.s₀.heap s.heap
 loc:∃ m,s.heap.Ns X.env.locals m/\∀ (i:Nat) (x:Str) (v:V),X.N[i]?=some x->σ[i]?=some (some v)->Vis X.env.scope x->∃ u,ZaR v u/\ZzK X.env s.heap m x u
 cell:∀ x c,X.env.cells.lookup x=some c->∃ v,s.heap.IsCell c v
 free:H X.env.locals=none
 freeC:∀ x c,X.env.cells.lookup x=some c->H c=none
 pin:∀ p∈X.pn++pins,s.heap.get? p.1=some p.2/\H p.1=none/\p.1≠X.env.locals/\p.1∉X.fs/\∀ v,p.2.data≠.cell v
 hok:HOk X.prog X.w H s.heap
 len:σ.length=X.N.length
section
variable {X:Cx} {pins:Pn} {σ:List (Option V)} {H H':Hp} {s:Shared} {h':Heap}
theorem Cx.Ok.nofr(ok:X.Ok){b:Addr}{o:Obj}(e:X.base.get? b=some o):b∉X.fs:=fun hb=>by
 have:=(ok.funs.mem hb).1
 rw[e] at this;cases this
theorem Inv.bs(I:Inv X pins σ H s):∀ b o,X.base.get? b=some o->s.heap.get? b=some o/\H b=none:=fun b o e =>
 ⟨I.base.keep b o (I.ok.bs b o e).1 (I.ok.bs b o e).2 (I.ok.nofr e) (I.ok.noex b o e),I.base.free b o (I.ok.bs b o e).1 (I.ok.bs b o e).2 (I.ok.noex b o e)⟩
theorem Inv.bk(I:Inv X pins σ H s):∀ b o,X.base.get? b=some o->s.heap.get? b=some o:=fun b o e=>(I.bs b o e).1
theorem Inv.mod(I:Inv X pins σ H s):Mod X.K X.mg X.base:=I.ok.mod
theorem Inv.kIn(I:Inv X pins σ H s):X.K.In s.heap:=I.ok.mod.kin.keeps I.bk
theorem Inv.lt(I:Inv X pins σ H s):X.env.locals<s.heap.objs.size:=let ⟨_,hn,_⟩:=I.loc;hn.lt
theorem Inv.sz(I:Inv X pins σ H s):X.s₀.heap.objs.size<=s.heap.objs.size:=Nat.le_trans I.ok.above (Nat.le_of_lt I.lt)
theorem Inv.nofs(I:Inv X pins σ H s){a:Addr}(h:s.heap.objs.size<=a):a∉X.fs:=fun hb=>by
 obtain⟨_,o,ho,_⟩:=I.ok.funs.mem hb
 exact absurd (Nat.lt_of_lt_of_le (Heap.lt_size ho) (Nat.le_trans I.sz h)) (Nat.lt_irrefl _)
theorem Inv.cne(I:Inv X pins σ H s):∀ x c,X.env.cells.lookup x=some c->c≠X.env.locals:=fun x c e z=>by
 obtain⟨v,o,ho,hd⟩:=I.cell x c e
 obtain⟨m,⟨o',es,ep,ho',hd',_⟩,_⟩:=I.loc
 rw[z,ho'] at ho;cases ho;rw[hd'] at hd;cases hd
theorem Inv.funs(I:Inv X pins σ H s):s.heap.FunFrames X.base X.outer:=by
 have all:∀ (l:List Env),(∀ b∈frs l,b∈X.fs)->X.s₀.heap.FunFrames X.base l->s.heap.FunFrames X.base l:=by
  intro l
  induction l with
  | nil=>intro _ _;trivial
  | cons env r ih =>
   intro hs hl
   obtain⟨hk,⟨L,o,hf,hn,ho,hd⟩,hr⟩:=hl
   have hL:L∈X.fs:=hs L (by unfold frs;rw[List.filterMap_cons,hf];exact List.mem_cons_self)
   obtain⟨sl,e⟩:=I.base.slot L o ho (I.ok.frf L hL) hL fun z=>I.ok.exfs L z hL
   exact⟨hk,⟨L,_,hf,hn,e,hd⟩,ih (fun b hb=>hs b (by unfold frs;rw[List.filterMap_cons,hf];exact List.mem_cons_of_mem _ hb)) hr⟩
 exact all X.outer (fun _ hb=>hb) I.ok.funs
theorem Inv.stack(I:Inv X pins σ H s):s.heap.FunFrames X.base X.stack:=by
 rcases I.ok.stk with e|⟨e,hf⟩
 ·rw[e];exact I.funs
 ·rw[e]
  obtain⟨m,hn,_⟩:=I.loc
  refine .cons (by rw[I.ok.kind];decide) hf hn ?_ I.funs
  exact Heap.get?_none_of_le (Nat.le_trans I.ok.bsz I.ok.above)
theorem Inv.stkSub(I:Inv X pins σ H s):∀ b∈frs X.stack,b∈X.env.locals::X.fs:=fun b hb=>by
 rcases I.ok.stk with e|⟨e,hf⟩
 ·rw[e] at hb;exact List.mem_cons_of_mem _ hb
 ·rw[e] at hb
  unfold frs at hb
  rw[List.filterMap_cons,hf] at hb
  exact hb
theorem Inv.stkFree(I:Inv X pins σ H s):∀ b∈frs X.stack,H b=none:=fun b hb=>by
 rcases List.mem_cons.mp (I.stkSub b hb) with e|hb
 ·rw[e];exact I.free
 ·obtain⟨_,o,ho,_⟩:=I.ok.funs.mem hb
  exact I.base.free b o ho (I.ok.frf b hb) fun z=>I.ok.exfs b z hb
theorem Inv.step{g':Array GenState}{t':Nat}{d':Drawn}{ch:List Addr}(I:Inv X pins σ H s)
  (hch:∀ b∈ch,(b∈X.ex\/X.s₀.heap.objs.size<=b)/\b≠X.env.locals/\(∀ x c,X.env.cells.lookup x=some c->c≠b)/\∀ p∈X.pn++pins,p.1≠b)
  (keep:∀ b o,b≠X.env.locals->b∉X.fs->b∉ch->s.heap.get? b=some o->H b=none->h'.get? b=some o)
  (slot:∀ b o,b≠X.env.locals->b∈X.fs->b∉ch->s.heap.get? b=some o->H b=none->∃ sl,h'.get? b=some { o with slots:=sl }) (free:∀ b o,b∉ch->s.heap.get? b=some o->H b=none->H' b=none)
  (there:∀ b o,b∉ch->s.heap.get? b=some o->∃ o',h'.get? b=some o')
  (tups:∀ b xs,H b=some (.tup xs)->H' b=some (.tup xs)) (frzs:∀ b o u,H b=some (.frz o u)->H' b=some (.frz o u)) (tbls:∀ b ps,H b=some (.tbl ps)->∃ more,H' b=some (.tbl (ps++more)))
  (ns:∀ m,s.heap.Ns X.env.locals m->h'.Ns X.env.locals m) (hok:HOk X.prog X.w H' h') (hg:AllBare g') :
  Inv X pins σ H' { s with heap:=h',gens:=g',drawn:=d',toks:=t' }:=by
 have neL:∀ b o,X.s₀.heap.get? b=some o->b≠X.env.locals:=fun b o e=>Nat.ne_of_lt (Nat.lt_of_lt_of_le (Heap.lt_size e) I.ok.above)
 have neC:∀ b o,X.s₀.heap.get? b=some o->b∉X.ex->b∉ch:=fun b o e hx hb=>by
  rcases (hch b hb).1 with z|z
  ·exact hx z
  ·exact absurd (Nat.lt_of_lt_of_le (Heap.lt_size e) z) (Nat.lt_irrefl _)
 have cellK:∀ x c,X.env.cells.lookup x=some c->∀ v,s.heap.IsCell c v->h'.IsCell c v:=fun x c e v ⟨o,ho,hd⟩=>by
  have nch:c∉ch:=fun z=>(hch c z).2.2.1 x c e rfl
  by_cases hc:c∈X.fs
  ·obtain⟨sl,q⟩:=slot c o (I.cne x c e) hc nch ho (I.freeC x c e)
   exact⟨_,q,hd⟩
  ·exact⟨o,keep c o (I.cne x c e) hc nch ho (I.freeC x c e),hd⟩
 refine⟨I.ok,I.os,hg,⟨fun b o e n hb hx=>?_,fun b o e n hb hx=>?_,fun b o e n hx=>?_,fun b o e hx=>?_,fun b xs e=>tups b xs (I.base.tups b xs e),fun b o xs e=>frzs b o xs (I.base.frzs b o xs e),fun b ps e=>?_⟩,?_,fun x c e=>?_,?_,fun x c e=>?_,fun p hp=>?_,hok,I.len⟩
 ·exact keep b o (neL b o e) hb (neC b o e hx) (I.base.keep b o e n hb hx) (I.base.free b o e n hx)
 ·obtain⟨sl,e1⟩:=I.base.slot b o e n hb hx
  obtain⟨sl',e2⟩:=slot b _ (neL b o e) hb (neC b o e hx) e1 (I.base.free b o e n hx)
  exact⟨sl',e2⟩
 ·obtain⟨o',e1⟩:=I.base.there b o e hx
  exact free b o' (neC b o e hx) e1 (I.base.free b o e n hx)
 ·obtain⟨o',e1⟩:=I.base.there b o e hx
  exact there b o' (neC b o e hx) e1
 ·obtain⟨m1,e1⟩:=I.base.tbls b ps e
  obtain⟨m2,e2⟩:=tbls b _ e1
  exact⟨m1++m2,by rw[e2,Array.append_assoc]⟩
 ·obtain⟨m,hn,hl⟩:=I.loc
  refine⟨m,ns m hn,fun i x v e1 e2 e3=>?_⟩
  obtain⟨u,r,l⟩:=hl i x v e1 e2 e3
  refine⟨u,r,?_⟩
  rcases l with l|⟨k,c,e,z⟩
  ·exact .inl l
  ·exact .inr ⟨k,c,e,cellK x c e _ z⟩
 ·obtain⟨v,z⟩:=I.cell x c e
  exact⟨v,cellK x c e v z⟩
 ·obtain⟨m,⟨o,_,_,ho,_⟩,_⟩:=I.loc
  exact free _ o (fun z=>(hch _ z).2.1 rfl) ho I.free
 ·obtain⟨v,o,ho,hd⟩:=I.cell x c e
  exact free c o (fun z=>(hch c z).2.2.1 x c e rfl) ho (I.freeC x c e)
 ·obtain⟨e,n,ne,nf,d⟩:=I.pin p hp
  have nch:p.1∉ch:=fun z=>(hch p.1 z).2.2.2 p hp rfl
  exact⟨keep p.1 p.2 ne nf nch e n,free p.1 p.2 nch e n,ne,nf,d⟩
theorem Inv.un{t':Nat}(I:Inv X pins σ H s)(u:Un X.fs [] H H' s.heap h')(hok:HOk X.prog X.w H' h'):Inv X pins σ H' { s with heap:=h',toks:=t' }:=by
 obtain⟨m,⟨o,es,ep,ho,r⟩,_⟩:=id I.loc
 obtain⟨sl,hL⟩:=u.any ho I.free (by simp)
 exact I.step (g':=s.gens) (d':=s.drawn) (ch:=[]) (fun _ z=>nomatch z) (fun b o _ hb _ e n=>u.keep b o e n hb (by simp)) (fun b o _ hb _ e n=>u.slot b o e n hb (by simp)) (fun b o _ e n=>u.free b o e n (by simp)) (fun b o _ e=>u.there b o e (by simp)) u.tups u.frzs u.tbls (fun m' hm=>by
  obtain⟨o',es',ep',ho',r'⟩:=hm
  rw[ho] at ho';cases ho'
  exact⟨_,es',ep',hL,r'⟩) hok I.bare
theorem Inv.call{g':Array GenState}{t':Nat}{d':Drawn}{ch:List Addr}(I:Inv X pins σ H s)(u:Un (frs X.stack) ch H H' s.heap h')(hok:HOk X.prog X.w H' h')(hg:AllBare g')
  (hch:∀ b∈ch,(b∈X.ex\/X.s₀.heap.objs.size<=b)/\b≠X.env.locals/\(∀ x c,X.env.cells.lookup x=some c->c≠b)/\∀ p∈X.pn++pins,p.1≠b) :
  Inv X pins σ H' { s with heap:=h',gens:=g',drawn:=d',toks:=t' }:=by
 obtain⟨m,⟨o,es,ep,ho,r⟩,_⟩:=id I.loc
 obtain⟨sl,hL⟩:=u.any ho I.free fun z=>(hch _ z).2.1 rfl
 exact I.step (ch:=ch) hch (fun b o hL hb hc e n=>u.keep b o e n (fun z=>(List.mem_cons.mp (I.stkSub b z)).elim hL hb) hc) (fun b o _ _ hc e n=>u.any e n hc) (fun b o hc e n=>u.free b o e n hc) (fun b o hc e=>u.there b o e hc) u.tups u.frzs u.tbls (fun m' hm=>by
  obtain⟨o',es',ep',ho',r'⟩:=hm
  rw[ho] at ho';cases ho'
  exact⟨_,es',ep',hL,r'⟩) hok hg
theorem Inv.turned{t':Nat}{it:Addr}(I:Inv X pins σ H s)(k:∀ b o,b≠it->s.heap.get? b=some o->h'.get? b=some o)(hn:H it=none)(hL:it≠X.env.locals)
  (h1:it∈X.ex\/X.s₀.heap.objs.size<=it) (h2:∀ x c,X.env.cells.lookup x=some c->c≠it) (h3:∀ p∈X.pn++pins,p.1≠it):Inv X pins σ H { s with heap:=h',toks:=t' }:=by
 have nit:∀ b u,H b=some u->b≠it:=fun b u e z=>by rw[z,hn] at e;cases e
 refine I.step (g':=s.gens) (d':=s.drawn) (ch:=[it]) (fun b hb=>?_) (fun b o _ _ hc e _=>k b o (fun z=>hc (by simp[z])) e) (fun b o _ _ hc e _=>⟨o.slots,k b o (fun z=>hc (by simp[z])) e⟩) (fun _ _ _ _ n=>n)
  (fun b o hc e=>⟨o,k b o (fun z=>hc (by simp[z])) e⟩) (fun _ _ e=>e) (fun _ _ _ e=>e) (fun b ps e=>⟨#[],by rw[e];simp⟩) (fun m hm=>?_) (fun b u e=>?_) I.bare
 ·have e:b=it:=by simpa using hb
  subst e
  exact⟨h1,hL,h2,h3⟩
 ·obtain⟨o,es,ep,ho,r⟩:=hm
  exact⟨o,es,ep,k _ o (Ne.symm hL) ho,r⟩
 ·refine(I.hok b u e).stay (fun c v hc q=>k c v ?_ q) (fun _ q=>q) fun _ _ q=>q
  rcases hc with z|z
  ·rw[z];exact nit b u e
  ·exact nit c _ z
theorem Inv.tok(I:Inv X pins σ H s)(t:Nat):Inv X pins σ H { s with toks:=t }:=I.un (h':=s.heap) (t':=t) Un.refl I.hok
theorem Inv.kept{t':Nat}(I:Inv X pins σ H s)(k:∀ b u,s.heap.get? b=some u->h'.get? b=some u):Inv X pins σ H { s with heap:=h',toks:=t' }:=I.un (Un.kept k) (I.hok.kept k)
theorem Inv.laid{a:Addr}{o:HO}{t':Nat}(I:Inv X pins σ H s)(k:∀ b u,s.heap.get? b=some u->h'.get? b=some u)(hp:s.heap.objs.size<=a)(new:ObjOk X.prog X.w (upd H a o) h' a o) :
    Inv X pins σ (upd H a o) { s with heap:=h',toks:=t' }:=I.un (Un.laid k hp (I.hok.fresh hp)) (I.hok.laid k hp new)
theorem Inv.write{x e:Addr}{o:HO}{t':Nat}(I:Inv X pins σ H s)(mu:Mut (H x))(he:e=x\/H e=some (.own x))(k:∀ b u,b≠e->s.heap.get? b=some u->h'.get? b=some u)(heo:∃ u,h'.get? e=some u)
    (new:ObjOk X.prog X.w (upd H x o) h' x o):Inv X pins σ (upd H x o) { s with heap:=h',toks:=t' }:=I.un (Un.write mu he k heo) (I.hok.write mu he k heo new)
theorem Inv.pins_of{pins':Pn}(I:Inv X pins σ H s)(h:∀ p∈pins',s.heap.get? p.1=some p.2/\H p.1=none/\p.1≠X.env.locals/\p.1∉X.fs/\∀ v,p.2.data≠.cell v):Inv X pins' σ H s :=
 ⟨I.ok,I.os,I.bare,I.base,I.loc,I.cell,I.free,I.freeC,fun p hp=>(List.mem_append.mp hp).elim (fun z=>I.pin p (List.mem_append_left _ z)) (h p),I.hok,I.len⟩
theorem ZeV{N:List Str}(hN:N.Nodup){i j:Nat}{x:Str}(a:N[i]?=some x)(b:N[j]?=some x):i=j:=by
 obtain⟨h1,e1⟩:=List.getElem?_eq_some_iff.mp a
 obtain⟨h2,e2⟩:=List.getElem?_eq_some_iff.mp b
 exact(List.getElem_inj hN).mp (e1.trans e2.symm)
theorem Zfk{M:Model}{A:Around}{E:Vq}{i:Nat}{x:Str}{v:V}{u:Value}{Q:Unit->Shared->Prop}(I:Inv X pins σ H s)(hN:X.N.Nodup)(hi:X.N[i]?=some x)(hx:Loc X.env.scope x)(r:ZaR v u)
  (h:∀ s',Inv X pins (σ.set i (some v)) H s'->(∃ a,Heap.SameBut a s.heap s'.heap/\(a=X.env.locals\/X.env.cells.lookup x=some a))->Q () s') (hf:X.fn x=true\/X.env.scope.names.lookup x=some .local:=by first|exact .inl rfl|exact .inr rfl|assumption):wpAny M A (storeName X.env x u) Q E s:=by
 obtain⟨m,hn,hl⟩:=id I.loc
 have hcls:(X.env.scope.kind == .class||(X.env.scope.kind == .module&&X.env.locals != X.env.globals))=false:=by rw[I.ok.kind];rfl
 have hiσ:i<σ.length:=by rw[I.len];exact(List.getElem?_eq_some_iff.mp hi).1
 have cne:=I.cne
 have tracked:∀ {a:Addr} {h':Heap},(∃ o,s.heap.get? a=some o/\H a=none)->Heap.SameBut a s.heap h'->HOk X.prog X.w H h':=fun {a h'} ha hs b ob e=>by
  obtain⟨_,_,hfree⟩:=ha
  refine(I.hok b ob e).stay (fun c w' hc q=>(hs.2 c ?_).trans q) (fun _ q=>q) fun _ _ q=>q
  rintro rfl
  rcases hc with rfl|hc
  ·rw[hfree] at e;cases e
  ·rw[hfree] at hc;cases hc
 rcases hx with hk|hk
 ·refine wpAny_storeName_local hk hn (fun h' hn' hs=>?_) hcls
  obtain⟨oL,_,_,hoL,_⟩:=id hn
  refine h _ ⟨I.ok,I.os,I.bare,⟨fun b o e n hb hx=>?_,fun b o e n hb hx=>?_,I.base.free,fun b o e hx=>?_,I.base.tups,I.base.frzs,I.base.tbls⟩,⟨_,hn',fun j y v' e1 e2 e3=>?_⟩,fun y c e=>?_,I.free,I.freeC,fun p hp=>?_,tracked ⟨oL,hoL,I.free⟩ hs,by simpa using I.len⟩ ⟨_,hs,.inl rfl⟩
  ·exact(hs.2 b (Nat.ne_of_lt (Nat.lt_of_lt_of_le (Heap.lt_size e) I.ok.above))).trans (I.base.keep b o e n hb hx)
  ·obtain⟨sl,e1⟩:=I.base.slot b o e n hb hx
   exact⟨sl,(hs.2 b (Nat.ne_of_lt (Nat.lt_of_lt_of_le (Heap.lt_size e) I.ok.above))).trans e1⟩
  ·obtain⟨o',e1⟩:=I.base.there b o e hx
   exact⟨o',(hs.2 b (Nat.ne_of_lt (Nat.lt_of_lt_of_le (Heap.lt_size e) I.ok.above))).trans e1⟩
  ·by_cases hj:j=i
   ·subst hj
    rw[hi] at e1;cases e1
    rw[List.getElem?_set_self hiσ] at e2
    cases e2
    exact⟨u,r,.inl ⟨hk,by simp⟩⟩
   ·rw[List.getElem?_set_ne (Ne.symm hj)] at e2
    obtain⟨u',r',q⟩:=hl j y v' e1 e2 e3
    refine⟨u',r',?_⟩
    rcases q with ⟨k,e⟩|⟨k,c,e,z⟩
    ·refine .inl ⟨k,?_⟩
     have:y≠x:=fun e=>hj (ZeV hN e1 (e ▸ hi))
     simp[this,e]
    ·exact .inr ⟨k,c,e,z.sameBut hs (cne y c e)⟩
  ·obtain⟨w',z⟩:=I.cell y c e
   exact⟨w',z.sameBut hs (cne y c e)⟩
  ·obtain⟨e,n,ne,nf,d⟩:=I.pin p hp
   exact⟨(hs.2 p.1 ne).trans e,n,ne,nf,d⟩
 ·have hfn:X.fn x=true:=by
   rcases hf with z|z
   ·exact z
   ·rw[z] at hk;cases hk
  obtain⟨c,hc⟩:=I.ok.has x (.inl hk)
  obtain⟨w',z⟩:=I.cell x c hc
  refine wpAny_storeName_cell I.ok.kind hk hc z (fun h' hc' hs=>?_)
  obtain⟨oc,hoc,hocd⟩:=id z
  refine h { s with heap:=h' } ⟨I.ok,I.os,I.bare,⟨fun b o e n hb hx=>?_,fun b o e n hb hx=>?_,I.base.free,fun b o e hx=>?_,I.base.tups,I.base.frzs,I.base.tbls⟩,⟨m,hn.sameBut hs (Ne.symm (cne x c hc)),fun j y v' e1 e2 e3=>?_⟩,fun y c' e=>?_,I.free,I.freeC,fun p hp=>?_,tracked ⟨oc,hoc,I.freeC x c hc⟩ hs,by simpa using I.len⟩ ⟨c,hs,.inr hc⟩
  ·exact(hs.2 b (Nat.ne_of_lt (Nat.lt_of_lt_of_le (Heap.lt_size e) (I.ok.cab x c hfn hc)))).trans (I.base.keep b o e n hb hx)
  ·obtain⟨sl,e1⟩:=I.base.slot b o e n hb hx
   exact⟨sl,(hs.2 b (Nat.ne_of_lt (Nat.lt_of_lt_of_le (Heap.lt_size e) (I.ok.cab x c hfn hc)))).trans e1⟩
  ·obtain⟨o',e1⟩:=I.base.there b o e hx
   exact⟨o',(hs.2 b (Nat.ne_of_lt (Nat.lt_of_lt_of_le (Heap.lt_size e) (I.ok.cab x c hfn hc)))).trans e1⟩
  ·by_cases hj:j=i
   ·subst hj
    rw[hi] at e1;cases e1
    rw[List.getElem?_set_self hiσ] at e2
    cases e2
    exact⟨u,r,.inr ⟨.inl hk,c,hc,hc'⟩⟩
   ·rw[List.getElem?_set_ne (Ne.symm hj)] at e2
    obtain⟨u',r',q⟩:=hl j y v' e1 e2 e3
    refine⟨u',r',?_⟩
    rcases q with q|⟨k,c',e,z'⟩
    ·exact .inl q
    ·refine .inr ⟨k,c',e,z'.sameBut hs ?_⟩
     rintro rfl
     exact hj (ZeV hN e1 (I.ok.inj _ _ _ e hc ▸ hi))
  ·by_cases hcc:c'=c
   ·subst hcc;exact⟨_,hc'⟩
   ·obtain⟨w2,z2⟩:=I.cell y c' e
    exact⟨w2,z2.sameBut hs hcc⟩
  ·obtain⟨e,n,ne,nf,d⟩:=I.pin p hp
   refine⟨(hs.2 p.1 ?_).trans e,n,ne,nf,d⟩
   intro q
   rw[q,hoc] at e
   have q':oc=p.2:=Option.some.inj e
   exact d w' (by rw[<- q'];exact hocd)
theorem ZeL{M:Model}{A:Around}{E:Vq}{i:Nat}{x:Str}{v:V}{u:Value}{Q:Unit->Shared->Prop}(I:Inv X pins σ H s)(hN:X.N.Nodup)(hi:X.N[i]?=some x)(hx:Loc X.env.scope x)(r:ZaR v u)
  (h:∀ s',Inv X pins (σ.set i (some v)) H s'->Q () s') (hf:X.fn x=true\/X.env.scope.names.lookup x=some .local:=by first|exact .inl rfl|exact .inr rfl|assumption):wpAny M A (storeName X.env x u) Q E s :=
 Zfk I hN hi hx r (fun s' I' _=>h s' I') hf
theorem Inv.call'{s':Shared}{ch:List Addr}(I:Inv X pins σ H s)(ho:s'.os=s.os)(u:Un (frs X.stack) ch H H' s.heap s'.heap)(hok:HOk X.prog X.w H' s'.heap)(hg:AllBare s'.gens)
  (hch:∀ b∈ch,(b∈X.ex\/X.s₀.heap.objs.size<=b)/\b≠X.env.locals/\(∀ x c,X.env.cells.lookup x=some c->c≠b)/\∀ p∈X.pn++pins,p.1≠b):Inv X pins σ H' s':=by
 obtain⟨h',g',d',t',o'⟩:=s'
 have e:o'=s.os:=ho
 subst e
 exact I.call (g':=g') (t':=t') (d':=d') u hok hg hch
end
abbrev XK:=Value->Option Addr->Hp->Prop
abbrev St:=List (Option V)
abbrev VK:=V->Hp->Prop
abbrev TE:=St->Hp->VK->Prop
abbrev TT:=St->Hp->(Bool->Hp->Prop)->Prop
abbrev TA:=St->Hp->(List V->Hp->Prop)->Prop
structure Ends where
 nx:St->Hp->Prop
 rt:VK
 bk:St->Hp->Prop:=fun _ _=>False
 ct:St->Hp->Prop:=fun _ _=>False
abbrev TS:=Ends->St->Hp->Prop
def EP(X:Cx)(pins:Pn)(σ:St)(Q:VK)(u:Value)(s':Shared):Prop:=∃ v H',Inv X pins σ H' s'/\ZaR v u/\Q v H'
def TP(X:Cx)(pins:Pn)(σ:St)(Q:Bool->Hp->Prop)(b:Bool)(s':Shared):Prop:=∃ H',Inv X pins σ H' s'/\Q b H'
def AP(X:Cx)(pins:Pn)(σ:St)(Q:List V->Hp->Prop)(us:List Value)(s':Shared):Prop:=∃ vs H',Inv X pins σ H' s'/\Zar vs us/\Q vs H'
noncomputable def SP(X:Cx)(pins:Pn)(D:Ends)(f:Flow)(s':Shared):Prop :=
  match f with
  | .next=>∃ σ' H',Inv X pins σ' H' s'/\D.nx σ' H'
  | .brk=>∃ σ' H',Inv X pins σ' H' s'/\D.bk σ' H'
  | .cont=>∃ σ' H',Inv X pins σ' H' s'/\D.ct σ' H'
  | .ret u=>∃ v σ' H',Inv X pins σ' H' s'/\ZaR v u/\D.rt v H'
noncomputable def PE(X:Cx)(e:Expr)(t:TE):Prop :=
 ∀ (pins:Pn) (s:Shared) (σ:St) (H:Hp) (Q:VK),Inv X pins σ H s->t σ H Q->wpAny (model X.prog X.w) X.A (eval e X.env) (EP X pins σ Q) X.xe s
noncomputable def PT(X:Cx)(e:Expr)(t:TT):Prop :=
 ∀ (pins:Pn) (s:Shared) (σ:St) (H:Hp) (Q:Bool->Hp->Prop),Inv X pins σ H s->t σ H Q->wpAny (model X.prog X.w) X.A (isTrue e X.env (eval e X.env)) (TP X pins σ Q) X.xe s
noncomputable def PW(X:Cx)(e:Expr)(t:TT):Prop :=
 ∀ (whole:Sem Value) (pins:Pn) (s:Shared) (σ:St) (H:Hp) (Q:Bool->Hp->Prop),Inv X pins σ H s->t σ H Q->wpAny (model X.prog X.w) X.A (isTrue e X.env whole) (TP X pins σ Q) X.xe s
theorem PW.pt{X:Cx}{e:Expr}{t:TT}(h:PW X e t):PT X e t:=h _
noncomputable def PA(X:Cx)(es:List Expr)(t:TA):Prop :=
 ∀ (pos:Pos) (pins:Pn) (s:Shared) (σ:St) (H:Hp) (Q:List V->Hp->Prop),Inv X pins σ H s->t σ H Q->wpAny (model X.prog X.w) X.A (spliced (backTo pos (starEach es X.env))) (AP X pins σ Q) X.xe s
noncomputable def PS(X:Cx)(st:Stmt)(t:TS):Prop :=
 ∀ (pins:Pn) (s:Shared) (σ:St) (H:Hp) (D:Ends),Inv X pins σ H s->t D σ H->wpAny (model X.prog X.w) X.A (exec st X.env) (SP X pins D) X.xe s
noncomputable def PSs(X:Cx)(st:List Stmt)(t:TS):Prop :=
 ∀ (pins:Pn) (s:Shared) (σ:St) (H:Hp) (D:Ends),Inv X pins σ H s->t D σ H->wpAny (model X.prog X.w) X.A (execs st X.env) (SP X pins D) X.xe s
theorem thn{α:Type}{t:Sem α}{Q Q':α->Shared->Prop}{M:Model}{A:Around}{E:Vq}{s:Shared}(h:wpAny M A t Q E s)(hQ:∀ a s,Q a s->Q' a s):wpAny M A t Q' E s:=wpAny_mono h hQ fun _ _ x=>x
end L2
namespace L2
open PySem PySem.Spec PyProof.Rows
section
variable {X:Cx}
def ZhK(i:Nat):TE:=fun σ H Q=>∃ v,σ[i]?=some (some v)/\Q v H
def tC(v:V):TE:=fun _ H Q=>Q v H
theorem ZlV{i:Nat}{x:Str}{pos:Pos}(hN:X.N[i]?=some x)(hv:Vis X.env.scope x)(hd:(x == ("__debug__" : Str))=false:=by decide)(hcd:(x == ("__classdict__" : Str))=false:=by decide):PE X (.Name x pos) (ZhK i):=by
 intro pins s σ H Q I h
 obtain⟨v,e,h⟩:=h
 obtain⟨m,hn,hl⟩:=I.loc
 obtain⟨u,r,l⟩:=hl i x v hN e hv
 have fin:EP X pins σ Q u s:=⟨v,H,I,r,h⟩
 rcases l with ⟨hk,hm⟩|⟨hk,c,hc,hcell⟩
 ·exact wpAny_Name (wpAny_loadName_local I.ok.kind hk hn hm fin) hd
 ·rcases hk with hk|hk
  ·exact wpAny_Name (wpAny_loadName_cell I.ok.kind hk hc hcell fin) hd
  ·exact wpAny_Name (wpAny_loadName_free I.ok.kind hk hc hcell fin hcd) hd
theorem Zq7{i j pos}:PE X (.Constant (.int i) j pos) (tC (.int i)):=fun _ _ _ H _ I h=>wpAny_Constant_int ⟨.int i,H,I.tok _,⟨_,rfl⟩,h⟩
theorem Zv6{b j pos}:PE X (.Constant (.bool b) j pos) (tC (.bl b)):=fun _ _ _ H _ I h=>Constant_bool ⟨.bl b,H,I,rfl,h⟩
theorem Zq4{j pos}:PE X (.Constant .none j pos) (tC .non):=fun _ _ _ H _ I h=>Constant_none ⟨.non,H,I,rfl,h⟩
theorem Zq0{x j pos}:PE X (.Constant (.str x) j pos) (tC (.str x)):=fun _ _ _ H _ I h=>Calls.Constant_str ⟨.str x,H,I.tok _,⟨_,rfl⟩,h⟩
def Gl(X:Cx)(x:Str):Prop:=X.env.kindOf x=some .globalImplicit
theorem ZcP{E:Vq}{pins:Pn}{s:Shared}{σ:St}{H:Hp}{x:Str}{u:Value}{pos:Pos}{Q:Vq}(I:Inv X pins σ H s)(hg:Gl X x)(hm:X.mg x=some u)(h:Q u s)
  (hd:(x == ("__debug__" : Str))=false:=by decide):wpAny (model X.prog X.w) X.A (eval (.Name x pos) X.env) Q E s :=
 Calls.Name_function_global I.ok.kind hg (Calls.loadGlobal_global (by rw[I.ok.glob];exact I.mod.glob.keeps I.bk) hm h) hd
theorem Zcf{E:Vq}{pins:Pn}{s:Shared}{σ:St}{H:Hp}{x:Str}{u:Value}{pos:Pos}{Q:Vq}(I:Inv X pins σ H s)(hg:Gl X x)(hm:X.mg x=none)(hv:bootBuiltins x=some u)(h:Q u s)
  (hn:x≠"__name__" := by decide) (hd:(x == ("__debug__" : Str))=false:=by decide):wpAny (model X.prog X.w) X.A (eval (.Name x pos) X.env) Q E s:=by
 obtain⟨mb,h1,h2⟩:=I.mod.blt
 exact Calls.Name_function_global I.ok.kind hg (Calls.loadGlobal_builtin (by rw[I.ok.glob];exact I.mod.glob.keeps I.bk) hm (by rw[I.ok.blt];exact h1.keeps I.bk) ((h2 x hn).trans hv) h) hd
theorem Zgp{x:Str}{v:V}{u:Value}{pos:Pos}(hg:Gl X x)(hm:X.mg x=some u)(r:ZaR v u)(hd:(x == ("__debug__" : Str))=false:=by decide):PE X (.Name x pos) (tC v) :=
 fun _ _ _ H _ I h=>ZcP I hg hm ⟨v,H,I,r,h⟩ hd
theorem Zi5{x:Str}{v:V}{u:Value}{pos:Pos}(hg:Gl X x)(hm:X.mg x=none)(hv:bootBuiltins x=some u)(r:ZaR v u)(hn:x≠"__name__" := by decide)(hd:(x == ("__debug__" : Str))=false:=by decide):PE X (.Name x pos) (tC v) :=
 fun _ _ _ H _ I h=>Zcf I hg hm hv ⟨v,H,I,r,h⟩ hn hd
variable {a b:Expr} {ta tb:TE} {pos:Pos}
variable {tA tB':TT} {rest:List Expr}
def Zzd(t u:TT):TT:=fun σ H Q=>t σ H fun c H1=>if c=true then u σ H1 Q else Q false H1
def tOr(t u:TT):TT:=fun σ H Q=>t σ H fun c H1=>if c=true then Q true H1 else u σ H1 Q
def Zy6(t:TT):TT:=fun σ H Q=>t σ H fun c H1=>Q (!c) H1
theorem Znx(ha:PT X a tA):PW X (.BoolOp .And [a] pos) tA:=by
 intro wh pins s σ H Q I h
 refine isTrue_and (thn (ha pins s σ H Q I h) fun c s1 e=>?_)
 cases c with
 | true=>exact isTrue_and_nil e
 | false=>exact e
theorem ZqR(ha:PT X a tA):PW X (.BoolOp .Or [a] pos) tA:=by
 intro wh pins s σ H Q I h
 refine isTrue_or (thn (ha pins s σ H Q I h) fun c s1 e=>?_)
 cases c with
 | false=>exact isTrue_or_nil e
 | true=>exact e
theorem ZqS(ha:PT X a tA)(hb:PW X (.BoolOp .And (b::rest) pos) tB'):PW X (.BoolOp .And (a::b::rest) pos) (Zzd tA tB'):=by
 intro wh pins s σ H Q I h
 refine isTrue_and (thn (ha pins s σ H _ I h) fun c s1 ⟨H1,I1,q1⟩=>?_)
 cases c with
 | true=>exact hb wh pins s1 σ H1 Q I1 q1
 | false=>exact⟨H1,I1,q1⟩
theorem ZvY(ha:PT X a tA)(hb:PW X (.BoolOp .Or (b::rest) pos) tB'):PW X (.BoolOp .Or (a::b::rest) pos) (tOr tA tB'):=by
 intro wh pins s σ H Q I h
 refine isTrue_or (thn (ha pins s σ H _ I h) fun c s1 ⟨H1,I1,q1⟩=>?_)
 cases c with
 | true=>exact⟨H1,I1,q1⟩
 | false=>exact hb wh pins s1 σ H1 Q I1 q1
theorem ZqT(ha:PT X a tA):PT X (.UnaryOp .Not a pos) (Zy6 tA):=by
 intro pins s σ H Q I h
 exact isTrue_not (ha pins s σ H (fun c H1=>Q (!c) H1) I h)
def ZuD(ta tb:TE):TE:=fun σ H Q=>ta σ H fun x H1=>∃ c,x=.bl c/\if c=true then tb σ H1 Q else Q (.bl false) H1
def Zy5(ta tb:TE):TE:=fun σ H Q=>ta σ H fun x H1=>∃ c,x=.bl c/\if c=true then Q (.bl true) H1 else tb σ H1 Q
def Zuy(ta:TE):TE:=fun σ H Q=>ta σ H fun x H1=>∃ c,x=.bl c/\Q (.bl (!c)) H1
theorem Zq2{op}{t:TE}(h:PE X a t):PE X (.BoolOp op [a] pos) t:=fun pins s σ H Q I hw=>BoolOp_one (h pins s σ H Q I hw)
theorem Zra(ha:PE X a ta)(hb:PE X (.BoolOp .And (b::rest) pos) tb):PE X (.BoolOp .And (a::b::rest) pos) (ZuD ta tb):=by
 intro pins s σ H Q I h
 refine BoolOp_and (thn (ha pins s σ H _ I h) fun v s1 ⟨x,H1,I1,r1,q1⟩=>?_)
 obtain⟨c,rfl,q1⟩:=q1
 cases r1
 refine wpAny_truthy_bool ?_
 cases c with
 | true=>exact hb pins s1 σ H1 Q I1 q1
 | false=>exact⟨.bl false,H1,I1,rfl,q1⟩
theorem Zv4(ha:PE X a ta)(hb:PE X (.BoolOp .Or (b::rest) pos) tb):PE X (.BoolOp .Or (a::b::rest) pos) (Zy5 ta tb):=by
 intro pins s σ H Q I h
 refine BoolOp_or (thn (ha pins s σ H _ I h) fun v s1 ⟨x,H1,I1,r1,q1⟩=>?_)
 obtain⟨c,rfl,q1⟩:=q1
 cases r1
 refine wpAny_truthy_bool ?_
 cases c with
 | false=>exact hb pins s1 σ H1 Q I1 q1
 | true=>exact⟨.bl true,H1,I1,rfl,q1⟩
theorem Zq3(ha:PE X a ta):PE X (.UnaryOp .Not a pos) (Zuy ta):=by
 intro pins s σ H Q I h
 refine UnaryOp_ (thn (ha pins s σ H _ I h) fun v s1 ⟨x,H1,I1,r1,q1⟩=>?_)
 obtain⟨c,rfl,q1⟩:=q1
 cases r1
 exact not_of (wpAny_truthy_bool ⟨.bl (!c),H1,I1,rfl,q1⟩)
end
end L2
namespace L2
open PySem PySem.Spec PyProof.Rows
noncomputable def SqL(K:Fg)(H:Hp)(a:Addr)(xs:List V):Prop :=
 Rd H a (.lst xs) \/
  ∃ (o:Obj) (its:Array Value) (n:Nat),K.lookup a=some o/\o.cls=.type "list"/\o.dict=none/\o.data=.seq its n/\its.size<=sizeLine/\Zar xs its.toList
noncomputable def SqT(K:Fg)(H:Hp)(a:Addr)(xs:List V):Prop :=
 Rd H a (.tup xs) \/
  ∃ (o:Obj) (its:Array Value) (n:Nat),K.lookup a=some o/\o.cls=.type "tuple"/\o.data=.seq its n/\its.size<=sizeLine/\Zar xs its.toList
noncomputable def ZzH:Value->Option V
 | .none=>some .non
 | .bool b=>some (.bl b)
 | .int i _=>some (.int i)
 | .str x _=>some (.str x)
 | .bytes b _=>some (.byt b)
 | .float b _=>some (.flt b)
 | .ref a=>some (.ref a)
 | .type n=>some (.ty n)
 | _=>none
theorem ZaR.abs{x:V}{u:Value}(r:ZaR x u):ZzH u=some x:=by
 cases x with
 | non=>cases r;rfl
 | bl _=>cases r;rfl
 | int _=>obtain⟨t,rfl⟩:=r;rfl
 | str _=>obtain⟨t,rfl⟩:=r;rfl
 | byt _=>obtain⟨t,rfl⟩:=r;rfl
 | flt _=>obtain⟨t,rfl⟩:=r;rfl
 | ref _=>cases r;rfl
 | ty _=>cases r;rfl
theorem ZaR.inj{x y:V}{u:Value}(r:ZaR x u)(q:ZaR y u):x=y:=Option.some.inj (r.abs.symm.trans q.abs)
theorem Zar.inj:∀ {xs ys:List V} {us:List Value},Zar xs us->Zar ys us->xs=ys
 | _,_,_,.nil,.nil=>rfl
 | _,_,_,.cons r t,.cons r' t'=>by rw[r.inj r',Zar.inj t t']
section
variable {X:Cx} {pins:Pn} {σ:St} {H:Hp} {s:Shared} {a:Addr} {xs ys:List V}
theorem SqL.of{K:Fg}(h:H a=some (.lst xs)):SqL K H a xs:=.inl (.inl h)
theorem SqT.of{K:Fg}(h:H a=some (.tup xs)):SqT K H a xs:=.inl (.inl h)
theorem Inv.list(I:Inv X pins σ H s)(h:SqL X.K H a xs):∃ its:List Value,Zar xs its/\PlainL s.heap a its.toArray/\xs.length<=sizeLine:=by
 rcases h with h|⟨o,its,n,hk,hc,hd,hs,hz,r⟩
 ·obtain⟨z,its,n,r,e⟩:=h.ok I.hok
  exact⟨its,r,⟨_,n,e,rfl,rfl,rfl⟩,z⟩
 ·refine⟨its.toList,r,⟨o,n,I.kIn a o hk,hc,hd,by simpa using hs⟩,?_⟩
  have e:=r.length
  simp only[Array.length_toList] at e
  omega
theorem Inv.tuple(I:Inv X pins σ H s)(h:SqT X.K H a xs):∃ its:List Value,Zar xs its/\IsTup s.heap a its.toArray/\xs.length<=sizeLine:=by
 rcases h with h|⟨o,its,n,hk,hc,hs,hz,r⟩
 ·obtain⟨z,its,r,p⟩:=h.ok I.hok
  exact⟨its,r,p,z⟩
 ·refine⟨its.toList,r,⟨o,I.kIn a o hk,hc,n,by simpa using hs⟩,?_⟩
  have e:=r.length
  simp only[Array.length_toList] at e
  omega
theorem Inv.list_inj(I:Inv X pins σ H s)(h:SqL X.K H a xs)(h':SqL X.K H a ys):xs=ys:=by
 obtain⟨its,r,⟨o,n,e,_,_,d⟩,_⟩:=I.list h
 obtain⟨its',r',⟨o',n',e',_,_,d'⟩,_⟩:=I.list h'
 rw[e] at e';cases e'
 rw[d] at d'
 injection d' with d1 _
 have:its=its':=by simpa using congrArg Array.toList d1
 subst this
 exact r.inj r'
theorem Inv.tuple_inj(I:Inv X pins σ H s)(h:SqT X.K H a xs)(h':SqT X.K H a ys):xs=ys:=by
 obtain⟨its,r,⟨o,e,_,n,d⟩,_⟩:=I.tuple h
 obtain⟨its',r',⟨o',e',_,n',d'⟩,_⟩:=I.tuple h'
 rw[e] at e';cases e'
 rw[d] at d'
 injection d' with d1 _
 have:its=its':=by simpa using congrArg Array.toList d1
 subst this
 exact r.inj r'
end
noncomputable abbrev Cx.wish(X:Cx)(E:Vq):Cx:={ X with xe:=E }
noncomputable abbrev Cx.nox(X:Cx):Cx:=X.wish fun _ _=>False
theorem Cx.Ok.wish{X:Cx}(ok:X.Ok)(E:Vq):(X.wish E).Ok :=
 ⟨ok.mod,ok.kind,ok.glob,ok.blt,ok.above,ok.inj,ok.has,ok.cab,ok.hd,ok.frames,ok.stk,ok.exf,ok.bs,ok.bsz,ok.noex,ok.exfs,ok.funs,ok.frf⟩
theorem Cx.Ok.unwish{X:Cx}{E:Vq}(ok:(X.wish E).Ok):X.Ok :=
 ⟨ok.mod,ok.kind,ok.glob,ok.blt,ok.above,ok.inj,ok.has,ok.cab,ok.hd,ok.frames,ok.stk,ok.exf,ok.bs,ok.bsz,ok.noex,ok.exfs,ok.funs,ok.frf⟩
section
variable {X:Cx} {pins:Pn} {σ:St} {H:Hp} {s:Shared} {E:Vq}
theorem Inv.wish(I:Inv X pins σ H s)(E:Vq):Inv (X.wish E) pins σ H s:=⟨I.ok.wish E,I.os,I.bare,I.base,I.loc,I.cell,I.free,I.freeC,I.pin,I.hok,I.len⟩
theorem Inv.unwish(I:Inv (X.wish E) pins σ H s):Inv X pins σ H s:=⟨I.ok.unwish,I.os,I.bare,I.base,I.loc,I.cell,I.free,I.freeC,I.pin,I.hok,I.len⟩
theorem SP.unwish{D:Ends}{f:Flow}{s':Shared}(h:SP (X.wish E) pins D f s'):SP X pins D f s':=by
 cases f with
 | next=>obtain⟨σ',H',I,q⟩:=h;exact⟨σ',H',I.unwish,q⟩
 | brk=>obtain⟨σ',H',I,q⟩:=h;exact⟨σ',H',I.unwish,q⟩
 | cont=>obtain⟨σ',H',I,q⟩:=h;exact⟨σ',H',I.unwish,q⟩
 | ret u=>obtain⟨v,σ',H',I,r,q⟩:=h;exact⟨v,σ',H',I.unwish,r,q⟩
theorem PSs.nox{st:List Stmt}{t:TS}(h:PSs X.nox st t):PSs X st t:=fun pins s σ H D I hw =>
 wpAny_mono (h pins s σ H D (I.wish _) hw) (fun _ _ q=>q.unwish) fun _ _ z=>False.elim z
end
section
variable {X:Cx} {st:Stmt} {rest:List Stmt} {t u:TS} {e:Expr} {te:TE} {pos:Pos}
def Zuz:TS:=fun D σ H=>D.nx σ H
def Zy3(t u:TS):TS:=fun D σ H=>t { D with nx:=u D } σ H
theorem ZnD:PSs X [] Zuz:=fun _ _ σ H _ I h=>wpAny_execs_nil ⟨σ,H,I,h⟩
theorem ZkW(h1:PS X st t)(h2:PSs X rest u):PSs X (st::rest) (Zy3 t u):=by
 intro pins s σ H D I h
 refine wpAny_execs_cons (thn (h1 pins s σ H { D with nx:=u D } I h) fun f s1 q=>?_)
 cases f with
 | next =>
  obtain⟨σ',H',I',q⟩:=q
  exact h2 pins s1 σ' H' D I' q
 | ret v=>exact q
 | brk=>exact q
 | cont=>exact q
theorem ZeS(h1:PS X st t):PSs X [st] t:=by
 intro pins s σ H D I h
 refine wpAny_execs_cons (thn (h1 pins s σ H D I h) fun f s1 q=>?_)
 cases f with
 | next=>exact wpAny_execs_nil q
 | ret v=>exact q
 | brk=>exact q
 | cont=>exact q
theorem Inv.quiet{pins:Pn}{σ:St}{H:Hp}{s:Shared}(I:Inv X pins σ H s):interactive X.env=false:=by simp[interactive,I.ok.kind]
def ZuA(te:TE):TS:=fun D σ H=>te σ H fun _ H1=>D.nx σ H1
theorem Zdt(he:PE X e te)(hs:swapsWith e none pos.line X.env=pure false:=by rfl):PS X (.Expr e pos) (ZuA te):=by
 intro pins s σ H D I h
 exact wpAny_Expr_any (thn (he pins s σ H _ I h) fun v s1 ⟨x,H1,I1,r1,q1⟩=>⟨σ,H1,I1,q1⟩) I.quiet hs
def Zy4(te:TE):TS:=fun D σ H=>te σ H D.rt
theorem ZiW(he:PE X e te):PS X (.Return (some e) pos) (Zy4 te):=by
 intro pins s σ H D I h
 exact wpAny_Return_some (thn (he pins s σ H _ I h) fun v s1 ⟨x,H1,I1,r1,q1⟩=>⟨x,σ,H1,I1,r1,q1⟩)
def Zza(c:TT)(t u:TS):TS:=fun D σ H=>c σ H fun b H1=>if b=true then t D σ H1 else u D σ H1
theorem Zv0{c:Expr}{a b:List Stmt}{tc:TT}(hc:PT X c tc)(ha:PSs X a t)(hb:PSs X b u):PS X (.If c a b pos) (Zza tc t u):=by
 intro pins s σ H D I h
 refine wpAny_If (thn (hc pins s σ H _ I h) fun d s1 ⟨H1,I1,q1⟩=>?_)
 cases d with
 | true=>exact ha pins s1 σ H1 D I1 q1
 | false=>exact hb pins s1 σ H1 D I1 q1
end
abbrev TG:=V->St->Hp->(St->Hp->Prop)->Prop
abbrev TGs:=List V->St->Hp->(St->Hp->Prop)->Prop
noncomputable def PG(X:Cx)(target:Expr)(t:TG):Prop :=
 ∀ (pins:Pn) (s:Shared) (σ:St) (H:Hp) (v:V) (u:Value) (Q:St->Hp->Prop),Inv X pins σ H s->ZaR v u->t v σ H Q ->
  wpAny (model X.prog X.w) X.A (assign target X.env u) (fun _ s'=>∃ σ' H',Inv X pins σ' H' s'/\Q σ' H') X.xe s
noncomputable def PGs(X:Cx)(ts:List Expr)(t:TGs):Prop :=
 ∀ (pins:Pn) (s:Shared) (σ:St) (H:Hp) (vs:List V) (us:List Value) (Q:St->Hp->Prop),Inv X pins σ H s->Zar vs us->t vs σ H Q ->
  wpAny (model X.prog X.w) X.A (assignInOrder ((assignEach ts X.env).map (·.2)) us) (fun _ s'=>∃ σ' H',Inv X pins σ' H' s'/\Q σ' H') X.xe s
abbrev ZxN:=V->V->V->Hp->(Hp->Prop)->Prop
noncomputable def Zy0(X:Cx)(t:ZxN):Prop :=
 ∀ (pins:Pn) (s:Shared) (σ:St) (H:Hp) (o i v:V) (ov iv u:Value) (Q:Hp->Prop),Inv X pins σ H s->ZaR o ov->ZaR i iv->ZaR v u->t o i v H Q ->
  wpAny (model X.prog X.w) X.A (setItem ov iv u) (fun _ s'=>∃ H',Inv X pins σ H' s'/\Q H') X.xe s
section
variable {X:Cx} {pos:Pos}
def ZbP(i:Nat):TG:=fun v σ H Q=>Q (σ.set i (some v)) H
theorem Zdv{i:Nat}{x:Str}(hN:X.N.Nodup)(hi:X.N[i]?=some x)(hx:Loc X.env.scope x)(hf:X.fn x=true\/X.env.scope.names.lookup x=some .local:=by first|exact .inl rfl|exact .inr rfl|assumption):PG X (.Name x pos) (ZbP i):=by
 intro pins s σ H v u Q I r h
 exact wpAny_assign_Name (ZeL I hN hi hx r (fun s' I'=>⟨_,H,I',h⟩) hf)
def Zjz:TGs:=fun vs σ H Q=>vs=[]/\Q σ H
def ZdF(t:TG)(u:TGs):TGs:=fun vs σ H Q=>∃ v r,vs=v::r/\t v σ H fun σ' H'=>u r σ' H' Q
theorem Zgo:PGs X [] Zjz:=by
 intro pins s σ H vs us Q I r h
 obtain⟨e,h⟩:=h
 subst e
 cases r
 exact assignInOrder_nil ⟨σ,H,I,h⟩
theorem Zdh{e:Expr}{es:List Expr}{t:TG}{u:TGs}(h1:PG X e t)(h2:PGs X es u)
  (hs:(assignEach (e::es) X.env).map (·.2)=assign e X.env::(assignEach es X.env).map (·.2):=by rfl):PGs X (e::es) (ZdF t u):=by
 intro pins s σ H vs us Q I r h
 obtain⟨v,vr,e1,h⟩:=h
 subst e1
 cases r with
 | cons r rr =>
  rw[hs]
  refine assignInOrder_cons (thn (h1 pins s σ H _ _ _ I r h) fun _ s1 ⟨σ1,H1,I1,q1⟩=>?_)
  exact h2 pins s1 σ1 H1 _ _ Q I1 rr q1
def Zpp(K:Fg)(n:Nat)(t:TGs):TG:=fun v σ H Q=>∃ a xs,v=.ref a/\SqT K H a xs/\xs.length=n/\t xs σ H Q
theorem Zg9{es:List Expr}{k:Nat}{t:TGs}{n:Nat}(hc:X.calm=true)(h:PGs X es t)
  (hn:(assignEach es X.env).length=n:=by rfl) (hst:(assignEach es X.env).findIdx? (·.1)=none:=by rfl):PG X (.Tuple es k pos) (Zpp X.K n t):=by
 intro pins s σ H v u Q I r hw
 obtain⟨a,xs,e1,hq,hl,hw⟩:=hw
 subst e1
 cases r
 obtain⟨its,rv,ht,hz⟩:=I.tuple hq
 refine assign_Tuple_tuple (I.ok.hd hc) ht (by simp[hn,<- hl,rv.length]) hst fun h' hx=>?_
 have I1:Inv X pins σ H { s with heap:=h' }:=I.kept (t':=s.toks) fun b o e=>hx b o (Nat.ne_of_lt (Heap.lt_size e)) e
 exact h pins _ σ H xs _ Q I1 (by simpa using rv) hw
def ZzA(to ti:TE)(t:ZxN):TG:=fun v σ H Q=>to σ H fun o H1=>ti σ H1 fun i H2=>t o i v H2 fun H3=>Q σ H3
theorem Zi3{o i:Expr}{to ti:TE}{t:ZxN}(ho:PE X o to)(hi:PE X i ti)(hs:Zy0 X t)
  (ha:∀ v,assign (.Subscript o i pos) X.env v=(do
   let ov <- holding [v] (eval o X.env)
   let iv <- holding [v,ov] (eval i X.env)
   standAt pos
   holding [v,ov,iv] (setItem ov iv v)
   release [v,ov,iv] []):=by intro _;rfl):PG X (.Subscript o i pos) (ZzA to ti t):=by
 intro pins s σ H v u Q I r h
 rw[ha]
 refine wpAny_bind (wpAny_holding (thn (ho pins s σ H _ I h) fun ov s1 ⟨x,H1,I1,r1,q1⟩=>?_))
 refine wpAny_bind (wpAny_holding (thn (hi pins s1 σ H1 _ I1 q1) fun iv s2 ⟨y,H2,I2,r2,q2⟩=>?_))
 refine wpAny_bind (wpAny_standAt (wpAny_bind (wpAny_holding (thn (hs pins s2 σ H2 x y v ov iv u _ I2 r1 r2 r q2) fun _ s3 ⟨H3,I3,q3⟩=>?_))))
 exact wpAny_release ⟨σ,H3,I3,q3⟩
def Zs9(te:TE)(g:TG):TS:=fun D σ H=>te σ H fun x H1=>g x σ H1 D.nx
theorem ZiX{tg e:Expr}{te:TE}{g:TG}(he:PE X e te)(hg:PG X tg g)(hs:swapsWithSole [tg] e pos.line X.env=pure false:=by rfl)(hw:swappedStores [tg] e X.env=pure none:=by rfl)
  (h1:(assignEach [tg] X.env).map (·.2)=[assign tg X.env]:=by rfl):PS X (.Assign [tg] e pos) (Zs9 te g):=by
 intro pins s σ H D I h
 refine wpAny_Assign_stores (thn (he pins s σ H _ I h) fun v s1 ⟨x,H1,I1,r1,q1⟩=>?_) hs hw
 rw[h1]
 exact thn (hg pins s1 σ H1 x v _ I1 r1 q1) fun _ s2 q=>q
theorem Zg7{i:Nat}{x:Str}{e:Expr}{te:TE}{pos':Pos}(hN:X.N.Nodup)(hi:X.N[i]?=some x)(hx:Loc X.env.scope x)(he:PE X e te)(hs:swapsWith e (some (.Name x pos')) pos.line X.env=pure false:=by rfl)(hf:X.fn x=true\/X.env.scope.names.lookup x=some .local:=by first|exact .inl rfl|exact .inr rfl|assumption) :
  PS X (.Assign [.Name x pos'] e pos) (Zs9 te (ZbP i)):=by
 intro pins s σ H D I h
 refine wpAny_Assign_Name (thn (he pins s σ H _ I h) fun v s1 ⟨y,H1,I1,r1,q1⟩=>?_) hs
 exact ZeL I1 hN hi hx r1 (fun s2 I2=>⟨_,H1,I2,q1⟩) hf
end
section
variable {X:Cx} {pos:Pos}
end
structure It where
 go:Nat->Hp->Prop
 yld:Nat->Hp->V->Hp->Prop
 stop:Nat->Hp->Prop
noncomputable def Zh9(X:Cx)(pins:Pn)(H:Hp)(b:Addr):Prop :=
 H b=none/\b≠X.env.locals/\b∉X.fs/\(b∈X.ex\/X.s₀.heap.objs.size<=b)/\(∀ x c,X.env.cells.lookup x=some c->c≠b)/\∀ p∈X.pn++pins,p.1≠b
theorem Inv.fpOk{X:Cx}{pins:Pn}{σ:St}{H H':Hp}{s:Shared}{b:Addr}(I:Inv X pins σ H s)(hb:s.heap.objs.size<=b)(hn:H' b=none):Zh9 X pins H' b:=by
 refine⟨hn,Nat.ne_of_gt (Nat.lt_of_lt_of_le I.lt hb),I.nofs hb,.inr (Nat.le_trans I.sz hb),fun x c e z=>?_,fun p hp z=>?_⟩
 ·obtain⟨v,q⟩:=I.cell x c e
  exact absurd (Nat.lt_of_lt_of_le q.lt (by rw[z];exact hb)) (Nat.lt_irrefl _)
 ·exact absurd (Nat.lt_of_lt_of_le (Heap.lt_size (I.pin p hp).1) (by rw[z];exact hb)) (Nat.lt_irrefl _)
structure Turn (P:Program) (w:World) (K:Fg) (tg:Expr) (J:It) (fp:List Addr) (it:Addr) (tn:Nat->Heap->Prop):Prop where
 mem:it∈fp
 obj:∀ i h,tn i h->∀ b∈fp,∃ o,h.get? b=some o/\∀ v,o.data≠.cell v
 keep:∀ i h h',tn i h->(∀ b∈fp,∀ o,h.get? b=some o->h'.get? b=some o)->tn i h'
 item:∀ (X:Cx),X.prog=P->X.w=w->X.K=K->X.calm=true->∀ (i:Nat) (pins:Pn) (s:Shared) (σ:St) (H:Hp) (E:Vq),Inv X pins σ H s->(∀ b∈fp,Zh9 X pins H b)->tn i s.heap->J.go i H ->
  wpAny (model P w) X.A (pyNext (.ref it)) (fun r s1=>∃ u,r=some u /\
   wpAny (model P w) X.A (letOwnedTupleGo tg (.ref it) u) (fun _ s2=>∃ x H',Inv X pins σ H' s2/\ZaR x u/\J.yld i H x H'/\tn (i+1) s2.heap/\∀ b∈fp,H' b=none) E s1) E s
 done:∀ (X:Cx),X.prog=P->X.w=w->X.K=K->X.calm=true->∀ (i:Nat) (pins:Pn) (s:Shared) (σ:St) (H:Hp) (E:Vq),Inv X pins σ H s->(∀ b∈fp,Zh9 X pins H b)->tn i s.heap->J.stop i H ->
  wpAny (model P w) X.A (pyNext (.ref it)) (fun r s1=>r=none/\Inv X pins σ H s1) E s
 self:∀ (A:Around) (i:Nat) (s:Shared) (Q:Vq) (E:Vq),tn i s.heap->Q (.ref it) s->wpAny (model P w) A (pyIter (.ref it)) Q E s
abbrev TI:=St->Hp->(It->Hp->Prop)->Prop
noncomputable def PIE(X:Cx)(pins:Pn)(σ:St)(tg:Expr)(R:It->Hp->Prop)(itv:Value)(s2:Shared):Prop :=
 ∃ (it:Addr) (fp:List Addr) (tn:Nat->Heap->Prop) (J:It) (H':Hp),itv=.ref it/\Inv X pins σ H' s2/\Turn X.prog X.w X.K tg J fp it tn/\tn 0 s2.heap/\(∀ b∈fp,Zh9 X pins H' b)/\R J H'
noncomputable def PI(X:Cx)(tg iter:Expr)(wi:TI):Prop :=
 ∀ (pins:Pn) (s:Shared) (σ:St) (H:Hp) (R:It->Hp->Prop),Inv X pins σ H s->wi σ H R ->
  wpAny (model X.prog X.w) X.A (eval iter X.env) (fun v s1=>wpAny (model X.prog X.w) X.A (pyIter v) (PIE X pins σ tg R) X.xe s1) X.xe s
theorem Zoj{M:Model}{A:Around}{E:Vq}{s:Shared}{tg:Expr}{it:Addr}{u:Value}{o:Obj}{n:String}{vs:Array Value}{Q:Unit->Shared->Prop}(ho:s.heap.get? it=some o)(hc:o.cls=.type n)(hd:o.data=.fields vs)
    (hn:["enumerate", "zip", "dict_itemiterator", "dict_reverseitemiterator", "odict_iterator", "itertools.zip_longest", "itertools.pairwise"].contains n=false) (hQ:Q () s):wpAny M A (letOwnedTupleGo tg (.ref it) u) Q E s:=by
  unfold letOwnedTupleGo
  cases tg<;>first
    | exact wpAny_pure hQ
    | (cases u<;>first
        | exact wpAny_pure hQ
        | (refine wpAny_bind (wpAny_load ho ?_)
           rw[hc,hd]
           show wpAny M A (if (["enumerate", "zip", "dict_itemiterator", "dict_reverseitemiterator", "odict_iterator", "itertools.zip_longest", "itertools.pairwise"].contains n&&vs[0]? == some (rawInt _))=true then _ else _) Q E s
           rw[if_neg (by intro h;rw[hn,Bool.false_and] at h;cases h)]
           exact wpAny_pure hQ))
noncomputable def Itl(K:Fg)(a:Addr):It :=
 ⟨fun i H=>∃ xs x,SqL K H a xs/\xs[i]?=some x,fun i H x H'=>H'=H/\∀ xs,SqL K H a xs->xs[i]?=some x,fun i H=>∃ xs,SqL K H a xs/\xs.length<=i⟩
noncomputable def Itt(K:Fg)(a:Addr):It :=
 ⟨fun i H=>∃ xs x,SqT K H a xs/\xs[i]?=some x,fun i H x H'=>H'=H/\∀ xs,SqT K H a xs->xs[i]?=some x,fun i H=>∃ xs,SqT K H a xs/\xs.length<=i⟩
noncomputable def Itr(lo:Int)(n:Nat):It:=⟨fun i _=>i<n,fun i H x H'=>H'=H/\x=.int (lo+i),fun i _=>n<=i⟩
theorem Zin{P:Program}{w:World}{K:Fg}{tg:Expr}(a it:Addr):Turn P w K tg (Itl K a) [it] it (fun i h=>h.IsListIter it a i) where
  mem:=by simp
  obj:=fun i h st b hb=>by
    have e:b=it:=by simpa using hb
    subst e
    obtain⟨o,e,c,d⟩:=st
    exact⟨o,e,fun v z=>by rw[d] at z;cases z⟩
  keep:=fun i h h' st k=>st.at fun o e=>k it (by simp) o e
  item:=by
    intro X hP hw hK hc i pins s σ H E I hf st hg
    subst hP hw hK
    obtain⟨xs,x,hq,hx⟩:=hg
    obtain⟨its,rv,p,hz⟩:=I.list hq
    obtain⟨u,hu,ru⟩:=rv.get hx
    obtain⟨f0,f1,f2,f3,f4,f5⟩:=hf it (by simp)
    refine wpAny_pyNext_list_item st p.isList (x:=u) (by simpa using hu) fun h' st' sb=>?_
    have I1:Inv X pins σ H { s with heap:=h' }:=I.turned (t':=s.toks) (fun b o hb e=>(sb.2 b hb).trans e) f0 f1 f3 f4 f5
    obtain⟨o,e,c,d⟩:=id st'
    exact⟨u,rfl,Zoj (s:={ s with heap:=h' }) e c d (by decide) ⟨x,H,I1,ru,⟨rfl,fun ys hy=>by rw[I.list_inj hy hq];exact hx⟩,st',fun b hb=>(hf b hb).1⟩⟩
  done:=by
    intro X hP hw hK hc i pins s σ H E I hf st hg
    subst hP hw hK
    obtain⟨xs,hq,hx⟩:=hg
    obtain⟨its,rv,p,hz⟩:=I.list hq
    obtain⟨f0,f1,f2,f3,f4,f5⟩:=hf it (by simp)
    have hl:=rv.length
    exact wpAny_pyNext_list_end (I.ok.hd hc) st p.isList (by simp;omega) fun h' eb=>⟨rfl,I.turned (t':=s.toks) (fun b o hb e=>eb b o hb e) f0 f1 f3 f4 f5⟩
  self:=fun _ _ _ _ _ st h=>wpAny_pyIter_listiter st h
theorem ZhI{P:Program}{w:World}{K:Fg}{tg:Expr}(a it:Addr):Turn P w K tg (Itt K a) [it] it (fun i h=>h.IsTupleIter it a i) where
  mem:=by simp
  obj:=fun i h st b hb=>by
    have e:b=it:=by simpa using hb
    subst e
    obtain⟨o,e,c,d⟩:=st
    exact⟨o,e,fun v z=>by rw[d] at z;cases z⟩
  keep:=fun i h h' st k=>st.at fun o e=>k it (by simp) o e
  item:=by
    intro X hP hw hK hc i pins s σ H E I hf st hg
    subst hP hw hK
    obtain⟨xs,x,hq,hx⟩:=hg
    obtain⟨its,rv,p,hz⟩:=I.tuple hq
    obtain⟨u,hu,ru⟩:=rv.get hx
    obtain⟨f0,f1,f2,f3,f4,f5⟩:=hf it (by simp)
    refine wpAny_pyNext_tuple_item st (show s.heap.IsTuple a its.toArray from p) (x:=u) (by simpa using hu) fun h' st' sb=>?_
    have I1:Inv X pins σ H { s with heap:=h' }:=I.turned (t':=s.toks) (fun b o hb e=>(sb.2 b hb).trans e) f0 f1 f3 f4 f5
    obtain⟨o,e,c,d⟩:=id st'
    exact⟨u,rfl,Zoj (s:={ s with heap:=h' }) e c d (by decide) ⟨x,H,I1,ru,⟨rfl,fun ys hy=>by rw[I.tuple_inj hy hq];exact hx⟩,st',fun b hb=>(hf b hb).1⟩⟩
  done:=by
    intro X hP hw hK hc i pins s σ H E I hf st hg
    subst hP hw hK
    obtain⟨xs,hq,hx⟩:=hg
    obtain⟨its,rv,p,hz⟩:=I.tuple hq
    obtain⟨f0,f1,f2,f3,f4,f5⟩:=hf it (by simp)
    have hl:=rv.length
    exact wpAny_pyNext_tuple_end (I.ok.hd hc) st (show s.heap.IsTuple a its.toArray from p) (by simp;omega) fun h' eb=>⟨rfl,I.turned (t':=s.toks) (fun b o hb e=>eb b o hb e) f0 f1 f3 f4 f5⟩
  self:=fun _ _ _ _ _ st h=>wpAny_pyIter_tupleiter st h
theorem ZhJ{P:Program}{w:World}{K:Fg}{tg:Expr}(it:Addr)(lo:Int)(n:Nat):Turn P w K tg (Itr lo n) [it] it (fun i h=>IsRangeIter h it (lo+(i:Nat)*1) ((n:Int)-(i:Nat)) 1) where
  mem:=by simp
  obj:=fun i h st b hb=>by
    have e:b=it:=by simpa using hb
    subst e
    exact⟨_,st,fun v z=>by
      have z':Data.fields _=Data.cell v:=z
      cases z'⟩
  keep:=fun i h h' st k=>k it (by simp) _ st
  item:=by
    intro X hP hw hK hc i pins s σ H E I hf st hg
    subst hP hw hK
    obtain⟨f0,f1,f2,f3,f4,f5⟩:=hf it (by simp)
    have W:=Walks.range (prog:=X.prog) (w:=X.w) (I.ok.hd hc) it lo 1 n
    refine W.item i s _ _ hg st fun v h' tk hv st' kk=>?_
    obtain⟨t,rfl⟩:=hv
    have I1:Inv X pins σ H { s with heap:=h',toks:=tk }:=I.turned (fun b o hb e=>kk b o (by simpa using hb) e) f0 f1 f3 f4 f5
    refine⟨_,rfl,Zoj (s:={ s with heap:=h',toks:=tk }) (n := "range_iterator") st' rfl rfl (by decide) ⟨.int (lo+i),H,I1,⟨t,?_⟩,⟨rfl,rfl⟩,st',fun b hb=>(hf b hb).1⟩⟩
    rw[Int.mul_one]
  done:=by
    intro X hP hw hK hc i pins s σ H E I hf st hg
    subst hP hw hK
    obtain⟨f0,f1,f2,f3,f4,f5⟩:=hf it (by simp)
    exact wpAny_pyNext_range_end (I.ok.hd hc) st (by have:n<=i:=hg;omega) fun h' eb=>⟨rfl,I.turned (t':=s.toks) (fun b o hb e=>eb b o hb e) f0 f1 f3 f4 f5⟩
  self:=fun _ _ _ _ _ st h=>wpAny_pyIter_rangeiter st h
end L2
namespace L2
open PySem PySem.Spec PyProof.Rows
section
variable {X:Cx} {tg:Expr}
theorem Zg6{pins:Pn}{σ:St}{H:Hp}{s:Shared}{R:It->Hp->Prop}{E:Vq}{lo hi:Int}{t u v:Tok}{tk:Nat}(I:Inv X pins σ H s)(h1:-(2 ^ 62)<=lo)(h2:lo<2 ^ 62)(h3:-(2 ^ 62)<=hi)(h4:hi<2 ^ 62)
  (q:R (Itr lo (hi-lo).toNat) H):wpAny (model X.prog X.w) X.A (pyIter (.ref s.heap.objs.size)) (PIE X pins σ tg R) E { s with heap:=s.heap.push { cls:=.type "range", data:=.fields #[.int lo t,.int hi u,.int 1 v] },toks:=tk }:=by
 refine wpAny_pyIter_range (IsRange.new ..) (small_one h1 h2 h3 h4) ?_
 have I1:Inv X pins σ H { s with heap:=s.heap.push { cls:=.type "range", data:=.fields #[.int lo t,.int hi u,.int 1 v] },toks:=tk }:=I.kept fun b o e=>Heap.get?_push_of_some _ e
 refine⟨(s.heap.push { cls:=.type "range", data:=.fields #[.int lo t,.int hi u,.int 1 v] }).objs.size,[(s.heap.push { cls:=.type "range", data:=.fields #[.int lo t,.int hi u,.int 1 v] }).objs.size],_,_,H,rfl,
  I1.kept (t':=tk) fun b o e=>Heap.get?_push_of_some _ e,ZhJ _ lo (hi-lo).toNat,?_,fun b hb=>?_,q⟩
 ·have e1:lo+((0:Nat):Int)*1=lo:=by simp
  have e2:(((hi-lo).toNat:Nat):Int)-((0:Nat):Int)=Builtin.Range.rangeSize lo hi 1:=by rw[rangeSize_one];split<;>omega
  show IsRangeIter _ _ (lo+((0:Nat):Int)*1) ((((hi-lo).toNat:Nat):Int)-((0:Nat):Int)) 1
  rw[e1,e2]
  exact Heap.get?_push_size _ rfl
 ·have e:b=(s.heap.push { cls:=.type "range", data:=.fields #[.int lo t,.int hi u,.int 1 v] }).objs.size:=by simpa using hb
  subst e
  exact I1.fpOk (Nat.le_refl _) (I1.hok.fresh (Nat.le_refl _))
def ZwI(ta:TA):TI:=fun σ H R=>ta σ H fun vs H1=>∃ j:Int,vs=[.int j]/\-(2 ^ 62)<=j/\j<2 ^ 62/\R (Itr 0 j.toNat) H1
def ZwH(ta:TA):TI:=fun σ H R=>ta σ H fun vs H1=>∃ i j:Int,vs=[.int i,.int j]/\(-(2 ^ 62)<=i/\i<2 ^ 62/\-(2 ^ 62)<=j/\j<2 ^ 62)/\R (Itr i (j-i).toNat) H1
theorem Zi2{a:Expr}{ta:TA}{p pos:Pos}(hg:Gl X "range")(hm:X.mg "range" = none)(ha:PA X [a] ta)(hs:starEach [a] X.env=[(false,eval a X.env)]:=by rfl):PI X tg (.Call (.Name "range" p) [a] [] pos) (ZwI ta):=by
 intro pins s σ H R I h
 refine Call_ (Zcf I hg hm boot_range (PyProof.Rows.callWith_type1 (thn (ha pos pins s σ H _ I h) fun us s1 ⟨vs,H1,I1,r1,q1⟩=>?_) hs rfl))
 obtain⟨j,e,q1,q2,q⟩:=q1
 subst e
 cases r1 with
 | cons r rr =>
  cases rr
  obtain⟨t,rfl⟩:=r
  exact call_range_1 (Zg6 I1 (by omega) (by omega) q1 q2 (by simpa using q))
theorem Zi1{a b:Expr}{ta:TA}{p pos:Pos}(hg:Gl X "range")(hm:X.mg "range" = none)(ha:PA X [a,b] ta)(hs:starEach [a,b] X.env=[(false,eval a X.env),(false,eval b X.env)]:=by rfl)(hs2:starEach [b] X.env=[(false,eval b X.env)]:=by rfl) :
  PI X tg (.Call (.Name "range" p) [a,b] [] pos) (ZwH ta):=by
 intro pins s σ H R I h
 refine Call_ (Zcf I hg hm boot_range (PyProof.Rows.callWith_type1 (thn (ha pos pins s σ H _ I h) fun us s1 ⟨vs,H1,I1,r1,q1⟩=>?_) (by rw[hs,hs2]) (by rw[hs2];rfl)))
 obtain⟨i,j,e,⟨q1,q2,q3,q4⟩,q⟩:=q1
 subst e
 cases r1 with
 | cons r rr =>
  cases rr with
  | cons r' rr =>
   cases rr
   obtain⟨t,rfl⟩:=r
   obtain⟨t',rfl⟩:=r'
   exact call_range_2 (Zg6 I1 q1 q2 q3 q4 q)
def Zzb(wi:TI)(g:TG)(tb:TS):TS:=fun D σ H=>wi σ H fun J H1=>∃ W:Nat->Nat->St->Hp->Prop,(∃ m,W 0 m σ H1)/\∀ i m σ H,W i m σ H ->
 (J.stop i H/\D.nx σ H)\/(J.go i H/\∃ N:St->Hp->Prop,(∀ σ' H',N σ' H'->∃ m',m'<m/\W (i+1) m' σ' H')/\∀ x H',J.yld i H x H'->g x σ H' fun σ2 H2=>tb { D with nx:=N,ct:=N,bk:=D.nx } σ2 H2)
noncomputable def Zdu(fp:List Addr)(h:Heap):Pn:=fp.filterMap fun b=>(h.get? b).map fun o=>(b,o)
theorem Zb7{fp:List Addr}{h:Heap}{b:Addr}{o:Obj}(hb:b∈fp)(e:h.get? b=some o):(b,o)∈Zdu fp h:=List.mem_filterMap.mpr ⟨b,hb,by rw[e];rfl⟩
theorem Zfv{fp:List Addr}{h:Heap}{p:Addr×Obj}(hp:p∈Zdu fp h):p.1∈fp/\h.get? p.1=some p.2:=by
 obtain⟨b,hb,e⟩:=List.mem_filterMap.mp hp
 cases q:h.get? b with
 | none=>rw[q] at e;cases e
 | some o =>
  rw[q] at e
  have e':(b,o)=p:=Option.some.inj e
  subst e'
  exact⟨hb,q⟩
theorem Inv.pinned{pins:Pn}{σ:St}{H:Hp}{s:Shared}{fp:List Addr}(I:Inv X pins σ H s)(hf:∀ b∈fp,Zh9 X pins H b)(ho:∀ b∈fp,∃ o,s.heap.get? b=some o/\∀ v,o.data≠.cell v):Inv X (pins++Zdu fp s.heap) σ H s :=
 I.pins_of fun p hp=>(List.mem_append.mp hp).elim (fun z=>I.pin p (List.mem_append_right _ z)) fun z=>by
  obtain⟨hb,e⟩:=Zfv z
  obtain⟨f0,f1,f2,_⟩:=hf p.1 hb
  obtain⟨o,e',d⟩:=ho p.1 hb
  rw[e] at e';cases e'
  exact⟨e,f0,f1,f2,d⟩
theorem Inv.unpinned{pins pl:Pn}{σ:St}{H:Hp}{s:Shared}(I:Inv X (pins++pl) σ H s):Inv X pins σ H s:=I.pins_of fun p hp=>I.pin p (List.mem_append_right _ (List.mem_append_left _ hp))
theorem ZqU{iter:Expr}{body:List Stmt}{wi:TI}{g:TG}{tb:TS}{pos:Pos}(hp:PassesOwn (model X.prog X.w) X.A X.env X.xe)(hc:X.calm=true)(hi:PI X tg iter wi)(hg:PG X tg g)(hb:PSs X body tb)
  (hs:∀ x,foldedSetIterable iter X.env x=pure x:=by intro _;rfl):PS X (.For tg iter body [] pos) (Zzb wi g tb):=by
 intro pins s σ H D I h
 refine wpAny_For (thn (hi pins s σ H _ I h) fun v s1 h1=>thn h1 fun itv s2 h2=>?_) hs
 obtain⟨it,fp,tn,J,H2,e,I2,T,st2,f2,W,⟨m0,w0⟩,turn⟩:=h2
 subst e
 -- what stays true of the iterator's objects through the loop
 have stat:∀ {H':Hp},(∀ b∈fp,H' b=none)->∀ b∈fp,Zh9 X pins H' b:=fun hn b hb=>⟨hn b hb,(f2 b hb).2⟩
 refine codeAny_forLoop_any (fun n s'=>∃ i σ' H',Inv X pins σ' H' s'/\tn i s'.heap/\(∀ b∈fp,H' b=none)/\W i n σ' H') ?_ m0 ⟨0,σ,H2,I2,st2,fun b hb=>(f2 b hb).1,w0⟩
 rintro n s3 ⟨i,σ3,H3,I3,st3,fr3,w3⟩
 rcases turn i n σ3 H3 w3 with ⟨stop,qn⟩|⟨go,N,hN,step⟩
 ·refine wpAny_passesOwn hp (thn (T.done X rfl rfl rfl hc i pins s3 σ3 H3 X.xe I3 (stat fr3) st3 stop) fun r s4 ⟨hr,I4⟩=>?_)
  subst hr
  exact wpAny_execs_nil ⟨σ3,H3,I4,qn⟩
 ·refine wpAny_passesOwn hp (thn (T.item X rfl rfl rfl hc i pins s3 σ3 H3 X.xe I3 (stat fr3) st3 go) fun r s4 ⟨u,hr,h4⟩=>?_)
  subst hr
  refine wpAny_passesOwn hp (thn h4 fun _ s5 ⟨x,H5,I5,r5,y5,st5,fr5⟩=>?_)
  have I5':=I5.pinned (stat fr5) (T.obj _ _ st5)
  refine wpAny_passesOwn hp (thn (hg _ s5 σ3 H5 x u _ I5' r5 (step x H5 y5)) fun _ s6 ⟨σ6,H6,I6,q6⟩=>?_)
  refine wpAny_passesOwn hp (thn (hb _ s6 σ6 H6 _ I6 q6) fun f s7 q7=>?_)
  have again:∀ {σ7:St} {H7:Hp},Inv X (pins++Zdu fp s5.heap) σ7 H7 s7->N σ7 H7->∃ m,m<n/\∃ i σ' H',Inv X pins σ' H' s7/\tn i s7.heap/\(∀ b∈fp,H' b=none)/\W i m σ' H':=fun {σ7 H7} I7 n7=>by
   obtain⟨m',hm,w7⟩:=hN σ7 H7 n7
   refine⟨m',hm,i+1,σ7,H7,I7.unpinned,T.keep _ _ _ st5 fun b hb o e=>(I7.pin (b,o) (List.mem_append_right _ (List.mem_append_right _ (Zb7 hb e)))).1,fun b hb=>?_,w7⟩
   obtain⟨o,e,d⟩:=T.obj _ _ st5 b hb
   exact(I7.pin (b,o) (List.mem_append_right _ (List.mem_append_right _ (Zb7 hb e)))).2.1
  cases f with
  | next=>obtain⟨σ7,H7,I7,n7⟩:=q7;exact again I7 n7
  | cont=>obtain⟨σ7,H7,I7,n7⟩:=q7;exact again I7 n7
  | brk=>obtain⟨σ7,H7,I7,q7⟩:=q7;exact⟨σ7,H7,I7.unpinned,q7⟩
  | ret v=>obtain⟨x7,σ7,H7,I7,r7,q7⟩:=q7;exact⟨x7,σ7,H7,I7.unpinned,r7,q7⟩
end
end L2
namespace L2
open PySem PySem.Spec PyProof.Rows
abbrev R2:=V->V->Hp->VK->Prop
noncomputable def OpR(X:Cx)(f:Value->Value->Sem Value)(r:R2):Prop :=
 ∀ (pins:Pn) (s:Shared) (σ:St) (H:Hp) (x y:V) (v u:Value) (Q:VK),Inv X pins σ H s->ZaR x v->ZaR y u->r x y H Q ->
  wpAny (model X.prog X.w) X.A (f v u) (EP X pins σ Q) X.xe s
noncomputable def Zdb(X:Cx)(f:Value)(r:List V->Hp->VK->Prop):Prop :=
 ∀ (pins:Pn) (s:Shared) (σ:St) (H:Hp) (xs:List V) (us:List Value) (Q:VK),Inv X pins σ H s->Zar xs us->r xs H Q ->
  wpAny (model X.prog X.w) X.A (call f us) (EP X pins σ Q) X.xe s
noncomputable def ZzI(X:Cx)(r:V->Hp->(Bool->Hp->Prop)->Prop):Prop :=
 ∀ (pins:Pn) (s:Shared) (σ:St) (H:Hp) (x:V) (v:Value) (Q:Bool->Hp->Prop),Inv X pins σ H s->ZaR x v->r x H Q ->
  wpAny (model X.prog X.w) X.A (truthy v) (TP X pins σ Q) X.xe s
def tOp(r:R2)(ta tb:TE):TE:=fun σ H Q=>ta σ H fun x H1=>tb σ H1 fun y H2=>r x y H2 Q
def rI(C:Int->Int->Prop)(g:Int->Int->V):R2:=fun x y H Q=>∃ i j,x=.int i/\y=.int j/\C i j/\Q (g i j) H
def rI0(g:Int->Int->V):R2:=fun x y H Q=>∃ i j,x=.int i/\y=.int j/\Q (g i j) H
section
variable {X:Cx} {a b c:Expr} {ta tb tc:TE} {pos:Pos}
theorem ZxE(ha:PE X a ta)(hb:PE X b tb){pins:Pn}{s:Shared}{σ:St}{H:Hp}{R:V->V->Hp->Prop}(I:Inv X pins σ H s)
  (h:ta σ H fun x H1=>tb σ H1 fun y H2=>R x y H2) {Q:Vq} {f:Value->Value->Sem Value}
  (hf:∀ v u s2 x y H2,Inv X pins σ H2 s2->ZaR x v->ZaR y u->R x y H2->wpAny (model X.prog X.w) X.A (f v u) Q X.xe s2) :
  wpAny (model X.prog X.w) X.A (eval a X.env) (fun v s₁=>wpAny (model X.prog X.w) X.A (eval b X.env) (fun u s₂=>wpAny (model X.prog X.w) X.A (f v u) Q X.xe s₂) X.xe s₁) X.xe s:=by
 refine thn (ha pins s σ H _ I h) fun v s1 ⟨x,H1,I1,r1,q1⟩=>?_
 refine thn (hb pins s1 σ H1 _ I1 q1) fun u s2 ⟨y,H2,I2,r2,q2⟩=>?_
 exact hf v u s2 x y H2 I2 r1 r2 q2
theorem Zq1{op:Operator}{r:R2}(ho:OpR X (binaryOp op) r)(ha:PE X a ta)(hb:PE X b tb):PE X (.BinOp a op b pos) (tOp r ta tb):=by
 intro pins s σ H Q I h
 exact wpAny_BinOp (ZxE ha hb I h fun v u s2 x y H2 I2 rx ry q=>ho pins s2 σ H2 x y v u Q I2 rx ry q)
theorem opI{f:Value->Value->Sem Value}{C:Int->Int->Prop}{g:Int->Int->Int}
  (rule:∀ (i j:Int) (t u:Tok) (s:Shared) (Q:Vq) (E:Vq),C i j->Q (.int (g i j) s.toks) { s with toks:=s.toks+1 }->wpAny (model X.prog X.w) X.A (f (.int i t) (.int j u)) Q E s) :
  OpR X f (rI C fun i j=>.int (g i j)):=by
 intro pins s σ H x y v u Q I rx ry h
 obtain⟨i,j,rfl,rfl,hc,q⟩:=h
 obtain⟨t,rfl⟩:=rx
 obtain⟨t',rfl⟩:=ry
 exact rule i j t t' s _ _ hc ⟨.int (g i j),H,I.tok _,⟨_,rfl⟩,q⟩
theorem Zyl{f:Value->Value->Sem Value}{g:Int->Int->Int}
  (rule:∀ (i j:Int) (t u:Tok) (s:Shared) (Q:Vq) (E:Vq),Q (.int (g i j) s.toks) { s with toks:=s.toks+1 }->wpAny (model X.prog X.w) X.A (f (.int i t) (.int j u)) Q E s) :
  OpR X f (rI0 fun i j=>.int (g i j)):=by
 intro pins s σ H x y v u Q I rx ry h
 obtain⟨i,j,rfl,rfl,q⟩:=h
 obtain⟨t,rfl⟩:=rx
 obtain⟨t',rfl⟩:=ry
 exact rule i j t t' s _ _ ⟨.int (g i j),H,I.tok _,⟨_,rfl⟩,q⟩
theorem Ztn{f:Value->Value->Sem Value}{g:Int->Int->Bool}
  (rule:∀ (i j:Int) (t u:Tok) (s:Shared) (Q:Vq) (E:Vq),Q (.bool (g i j)) s->wpAny (model X.prog X.w) X.A (f (.int i t) (.int j u)) Q E s) :
  OpR X f (rI0 fun i j=>.bl (g i j)):=by
 intro pins s σ H x y v u Q I rx ry h
 obtain⟨i,j,rfl,rfl,q⟩:=h
 obtain⟨t,rfl⟩:=rx
 obtain⟨t',rfl⟩:=ry
 exact rule i j t t' s _ _ ⟨.bl (g i j),H,I,rfl,q⟩
def ZzN(i j:Int):Prop:=0<j/\j<1073741824
def ZzM(i j:Int):Prop:=0<=j/\j<=1000000/\i.natAbs<2 ^ 64
def Zt7(i j:Int):Prop:=(-(2 ^ 64)<i/\i<2 ^ 64)\/(-(2 ^ 64)<j/\j<2 ^ 64)
theorem Zt7.ok{i j:Int}(h:Zt7 i j):IntMulOk i j:=by
 rcases h with ⟨h1,h2⟩|⟨h1,h2⟩
 ·exact .of_left (intBits_le_64 h1 h2)
 ·exact .of_right (intBits_le_64 h1 h2)
theorem Zrh:OpR X (binaryOp .Add) (rI0 fun i j=>.int (i+j)):=Zyl fun _ _ _ _ _ _ _ q=>add_int q
theorem Zrd:OpR X (binaryOp .Sub) (rI0 fun i j=>.int (i-j)):=Zyl fun _ _ _ _ _ _ _ q=>sub_int q
theorem ZnR:OpR X (binaryOp .FloorDiv) (rI ZzN fun i j=>.int (i / j)):=opI fun i j _ _ _ _ _ hc q=>by
 have h1:(0:Int)<j:=hc.1
 have h2:j<1073741824:=hc.2
 exact floordiv_int (by omega) (by rw[Int.fdiv_eq_ediv_of_nonneg i (by omega)];exact q) (.inl (PyProof.noPylong_small (by omega)))
theorem Zrf:OpR X (binaryOp .Mod) (rI (fun _ j=>0<j) fun i j=>.int (i%j)):=opI fun i j _ _ _ _ _ hc q=>by
 have h1:(0:Int)<j:=hc
 exact mod_int' (by omega) (by rw[Int.fmod_eq_emod_of_nonneg i (by omega)];exact q)
theorem Zre:OpR X (binaryOp .Pow) (rI ZzM fun i j=>.int (i ^ j.toNat)):=opI fun _ _ _ _ _ _ _ hc q=>pow_int_small hc.1 hc.2.1 hc.2.2 q
end
section
variable {X:Cx} {a b c:Expr} {ta tb tc:TE} {pos:Pos}
theorem Zmk{pins:Pn}{σ:St}{H:Hp}{s:Shared}{Q:VK}{k k':Bool}(I:Inv X pins σ H s)(q:Q (.bl k) H)(e:k=k'):EP X pins σ Q (.bool k') s:=by
 subst e
 exact⟨.bl k,H,I,rfl,q⟩
theorem Zwa:OpR X (compareOp .Lt) (rI0 fun i j=>.bl (decide (i<j))):=Ztn fun _ _ _ _ _ _ _ q=>lt_int q
theorem Zwb:OpR X (compareOp .LtE) (rI0 fun i j=>.bl (decide (i<=j))):=Ztn fun _ _ _ _ _ _ _ q=>le_int q
theorem Zwc:OpR X (compareOp .Gt) (rI0 fun i j=>.bl (decide (j<i))):=Ztn fun _ _ _ _ _ _ _ q=>gt_int q
theorem Zwd:OpR X (compareOp .GtE) (rI0 fun i j=>.bl (decide (j<=i))):=Ztn fun _ _ _ _ _ _ _ q=>ge_int q
theorem Zrg:OpR X (compareOp .Is) (fun x y H Q=>y=.non/\Q (.bl (decide (x=.non))) H):=by
 intro pins s σ H x y v u Q I rx ry h
 obtain⟨rfl,q⟩:=h
 cases ry
 refine is_none_gen (Zmk I q ?_)
 cases x<;>first
  | (cases rx;rfl)
  | (obtain⟨t,rfl⟩:=rx;rfl)
theorem ZnP:OpR X (compareOp .IsNot) (fun x y H Q=>y=.non/\Q (.bl (!decide (x=.non))) H):=by
 intro pins s σ H x y v u Q I rx ry h
 obtain⟨rfl,q⟩:=h
 cases ry
 refine isnot_none_gen (Zmk I q ?_)
 cases x<;>first
  | (cases rx;rfl)
  | (obtain⟨t,rfl⟩:=rx;rfl)
theorem ZnJ{op:CmpOp}{r:R2}(ho:OpR X (compareOp op) r)(ha:PE X a ta)(hb:PE X b tb)(hm:behindInMarks op b=false):PE X (.Compare a [op] [b] pos) (tOp r ta tb):=by
 intro pins s σ H Q I h
 exact wpAny_Compare1 (ZxE ha hb I h fun v u s2 x y H2 I2 rx ry q=>ho pins s2 σ H2 x y v u Q I2 rx ry q) hm
def ZpJ(t:TE):TT:=fun σ H Q=>t σ H fun x H'=>∃ k,x=.bl k/\Q k H'
theorem ZnC{op:CmpOp}{r:R2}(ho:OpR X (compareOp op) r)(ha:PE X a ta)(hb:PE X b tb)(hm:behindInMarks op b=false):PT X (.Compare a [op] [b] pos) (ZpJ (tOp r ta tb)):=by
 intro pins s σ H Q I h
 refine wpAny_isTrue_Compare1 (thn (ha pins s σ H _ I h) fun v s1 ⟨x,H1,I1,r1,q1⟩=>thn (hb pins s1 σ H1 _ I1 q1) fun u s2 ⟨y,H2,I2,r2,q2⟩ =>
  thn (ho pins s2 σ H2 x y v u _ I2 r1 r2 q2) fun c s3 ⟨z,H3,I3,r3,k,e,q3⟩=>?_) hm
 subst e
 cases r3
 exact wpAny_truthy_bool ⟨H3,I3,q3⟩
def ZlH(r r':R2)(ta tb tc:TE):TE:=fun σ H Q=>ta σ H fun x H1=>tb σ H1 fun y H2=>r x y H2 fun z H3=>∃ k,z=.bl k /\
 (if k=true then tc σ H3 fun w' H4=>r' y w' H4 Q else Q (.bl false) H3)
theorem ZkZ{op op':CmpOp}{r r':R2}(ho:OpR X (compareOp op) r)(ho':OpR X (compareOp op') r')(ha:PE X a ta)(hb:PE X b tb)(hc:PE X c tc)
  (hm:lastMarks [op,op'] [b,c]=false:=by with_unfolding_all rfl):PE X (.Compare a [op,op'] [b,c] pos) (ZlH r r' ta tb tc):=by
 intro pins s σ H Q I h
 refine Compare_chain (thn (ha pins s σ H _ I h) fun v s1 ⟨x,H1,I1,r1,q1⟩=>chain_link (thn (hb pins s1 σ H1 _ I1 q1) fun u s2 ⟨y,H2,I2,r2,q2⟩ =>
  thn (ho pins s2 σ H2 x y v u _ I2 r1 r2 q2) fun d s3 ⟨z,H3,I3,r3,k,e,q3⟩=>?_)) hm
 subst e
 cases r3
 refine wpAny_truthy_bool ?_
 cases k with
 | false=>exact ite_ff ⟨.bl false,H3,I3,rfl,q3⟩
 | true=>exact ite_tt (chain_last (thn (hc pins s3 σ H3 _ I3 q3) fun w' s4 ⟨z',H4,I4,r4,q4⟩=>ho' pins s4 σ H4 y z' u w' Q I4 r2 r4 q4))
theorem ZkV{op op':CmpOp}{r r':R2}(ho:OpR X (compareOp op) r)(ho':OpR X (compareOp op') r')(ha:PE X a ta)(hb:PE X b tb)(hc:PE X c tc)
  (hm:lastMarks [op,op'] [b,c]=false:=by with_unfolding_all rfl):PT X (.Compare a [op,op'] [b,c] pos) (ZpJ (ZlH r r' ta tb tc)):=by
 intro pins s σ H Q I h
 refine isTrue_chain (thn (ha pins s σ H _ I h) fun v s1 ⟨x,H1,I1,r1,q1⟩=>test_link (thn (hb pins s1 σ H1 _ I1 q1) fun u s2 ⟨y,H2,I2,r2,q2⟩ =>
  thn (ho pins s2 σ H2 x y v u _ I2 r1 r2 q2) fun d s3 ⟨z,H3,I3,r3,k,e,q3⟩=>?_)) hm
 subst e
 cases r3
 refine wpAny_truthy_bool ?_
 cases k with
 | false =>
  obtain⟨k',e',q'⟩:=q3
  cases e'
  exact ite_ff ⟨H3,I3,q'⟩
 | true =>
  refine ite_tt (test_last (thn (hc pins s3 σ H3 _ I3 q3) fun w' s4 ⟨z',H4,I4,r4,q4⟩=>thn (ho' pins s4 σ H4 y z' u w' _ I4 r2 r4 q4) fun d' s5 ⟨z2,H5,I5,r5,k2,e2,q5⟩=>?_))
  subst e2
  cases r5
  exact wpAny_truthy_bool ⟨H5,I5,q5⟩
noncomputable def ZyX(K:Fg)(x:V)(H:Hp)(k:Bool):Prop :=
  match x with
  | .non=>k=false
  | .bl b=>k=b
  | .int i=>k=(i != 0)
  | .str y=>y.length<=sizeLine/\k=((y.length:Int) != 0)
  | .byt y=>y.size<=sizeLine/\k=((y.size:Int) != 0)
  | .ref p=>(∃ xs,SqL K H p xs/\k=!xs.isEmpty)\/(∃ xs,SqT K H p xs/\k=!xs.isEmpty)\/∃ kvs,H p=some (.dK kvs)/\k=!kvs.isEmpty
  | _=>False
theorem ZhV{κ:Type}{kvs:List (κ×V)}{vs:List (κ×Value)}(r:KV kvs vs):(!vs.isEmpty)=!kvs.isEmpty:=by
 cases r<;>rfl
theorem Zet{xs:List V}{its:List Value}(r:Zar xs its):(!its.toArray.isEmpty)=!xs.isEmpty:=by
 cases r<;>simp
theorem Zer:(sizeLine:Nat)<2 ^ 63:=by rw[sizeLine_eq];decide
theorem ZpE:ZzI X (fun x H Q=>∃ k,ZyX X.K x H k/\Q k H):=by
 intro pins s σ H x v Q I rx h
 obtain⟨k,e,q⟩:=h
 have hl:=Zer
 have hs:sizeLine=16777216:=sizeLine_eq
 cases x with
 | non =>
  cases rx
  have e':k=false:=e
  subst e'
  exact truthy_none ⟨H,I,q⟩
 | bl b =>
  cases rx
  have e':k=b:=e
  subst e'
  exact wpAny_truthy_bool ⟨H,I,q⟩
 | int i =>
  obtain⟨t,rfl⟩:=rx
  have e':k=(i != 0):=e
  subst e'
  exact PySem.P.truthy_int ⟨H,I,q⟩
 | str y =>
  obtain⟨t,rfl⟩:=rx
  obtain⟨hy,e'⟩:y.length<=sizeLine/\k=((y.length:Int) != 0):=e
  subst e'
  exact PySem.P.truthy_str (by omega) ⟨H,I.tok _,q⟩
 | byt y =>
  obtain⟨t,rfl⟩:=rx
  obtain⟨hy,e'⟩:y.size<=sizeLine/\k=((y.size:Int) != 0):=e
  subst e'
  exact PySem.W.truthy_bytes (by omega) ⟨H,I.tok _,q⟩
 | ref p =>
  cases rx
  have e':(∃ xs,SqL X.K H p xs/\k=!xs.isEmpty)\/(∃ xs,SqT X.K H p xs/\k=!xs.isEmpty)\/∃ kvs,H p=some (.dK kvs)/\k=!kvs.isEmpty:=e
  rcases e' with ⟨xs,hx,e'⟩|⟨xs,hx,e'⟩|⟨kvs,hx,e'⟩
  ·subst e'
   obtain⟨its,r,pl,hz⟩:=I.list hx
   have hlen:=r.length
   exact wpAny_truthy_list pl.isList (by simp only[List.size_toArray];omega) ⟨H,I.tok _,by rw[Zet r];exact q⟩
  ·subst e'
   obtain⟨its,r,pl,hz⟩:=I.tuple hx
   have hlen:=r.length
   exact truthy_tuple pl (by simp only[List.size_toArray];omega) ⟨H,I.tok _,by rw[Zet r];exact q⟩
  ·subst e'
   obtain⟨hz,hS,vs,r,m⟩:kvs.length<=sizeLine/\(p == sysModules)=false/\∃ vs,KV kvs vs/\s.heap.DictOf (Zgt X.prog X.w) p vs:=I.hok p _ hx
   have hlen:kvs.length=vs.length:=Paired.length r
   exact wpAny_truthy_dict hS m (by omega) ⟨H,I.tok _,by rw[ZhV r];exact q⟩
 | _=>exact(show False from e).elim
theorem ZkU(ha:PE X a ta)(he:∀ whole,isTrue a X.env whole=(do let v <- whole;standAt a.pos;holding [v] (truthy v))) :
  PT X a (fun σ H Q=>ta σ H fun x H'=>∃ k,ZyX X.K x H' k/\Q k H'):=by
 intro pins s σ H Q I h
 exact isTrue_plain (thn (ha pins s σ H _ I h) fun v s1 ⟨x,H1,I1,r1,q1⟩=>ZpE pins s1 σ H1 x v Q I1 r1 q1) (he _)
theorem ZhS:OpR X (binaryOp .Add) (fun x y H Q=>∃ i j,x=.str i/\y=.str j/\i.length+j.length<=sizeLine/\Q (.str (i++j)) H):=by
 intro pins s σ H x y v u Q I rx ry h
 obtain⟨i,j,rfl,rfl,hz,q⟩:=h
 obtain⟨t,rfl⟩:=rx
 obtain⟨t',rfl⟩:=ry
 exact add_str (fun t' tk=>⟨.str (i++j),H,I.tok _,⟨_,rfl⟩,q⟩) hz
theorem ZcL{x:V}{us:List Value}(r:Zar [x] us):∃ u,us=[u]/\ZaR x u:=by
 cases r with
 | cons r1 r2=>cases r2;exact⟨_,rfl,r1⟩
theorem ZhH{x y:V}{us:List Value}(r:Zar [x,y] us):∃ u w',us=[u,w']/\ZaR x u/\ZaR y w':=by
 cases r with
 | cons r1 r2 =>
  cases r2 with
  | cons r3 r4=>cases r4;exact⟨_,_,rfl,r1,r3⟩
theorem ZjT(hc:X.calm=true):Zdb X (.builtin "max") (fun xs H Q=>∃ i j,xs=[.int i,.int j]/\Q (.int (if j > i then j else i)) H):=by
 intro pins s σ H xs us Q I r h
 obtain⟨i,j,rfl,q⟩:=h
 obtain⟨u,w',rfl,⟨t,rfl⟩,⟨t',rfl⟩⟩:=ZhH r
 refine max_two_ints (I.ok.hd hc) fun h' tk k=>⟨_,H,I.kept k,?_,q⟩
 by_cases hj:j > i
 ·rw[if_pos hj,if_pos hj];exact⟨_,rfl⟩
 ·rw[if_neg hj,if_neg hj];exact⟨_,rfl⟩
theorem ZjS(hc:X.calm=true):Zdb X (.builtin "min") (fun xs H Q=>∃ i j,xs=[.int i,.int j]/\Q (.int (if j<i then j else i)) H):=by
 intro pins s σ H xs us Q I r h
 obtain⟨i,j,rfl,q⟩:=h
 obtain⟨u,w',rfl,⟨t,rfl⟩,⟨t',rfl⟩⟩:=ZhH r
 refine min_two_ints (I.ok.hd hc) fun h' tk k=>⟨_,H,I.kept k,?_,q⟩
 by_cases hj:j<i
 ·rw[if_pos hj,if_pos hj];exact⟨_,rfl⟩
 ·rw[if_neg hj,if_neg hj];exact⟨_,rfl⟩
theorem ZfU:Zdb X (.type "int") (fun xs H Q=>(∃ i,xs=[.int i]/\Q (.int i) H)\/∃ k,xs=[.bl k]/\Q (.int (if k then 1 else 0)) H):=by
 intro pins s σ H xs us Q I r h
 rcases h with ⟨i,rfl,q⟩|⟨k,rfl,q⟩
 ·obtain⟨u,rfl,t,rfl⟩:=ZcL r
  exact call_int_int ⟨.int i,H,I,⟨_,rfl⟩,q⟩
 ·obtain⟨u,rfl,r1⟩:=ZcL r
  cases r1
  exact call_int_bool ⟨.int (if k then 1 else 0),H,I.tok _,⟨_,rfl⟩,q⟩
end
end L2
namespace L2
open PySem PySem.Spec PyProof.Rows
section
variable {prog:Program} {w:World} {A:Around} {E:Vq} {s:Shared} {K:Fg} {x dx C f:Addr} {mA:Str->Option Value} {name:Str} {v:Value}
end
section
variable {P:Program} {w:World} {H H':Hp} {h h':Heap} {a C dx:Addr} {fs fs':List (Str×V)}
end
section
variable {X:Cx} {pins:Pn} {σ:St} {H:Hp} {s:Shared} {a C dx:Addr} {fs:List (Str×V)} {f:Str} {v:V} {A:Around} {E:Vq}
end
section
variable {X:Cx} {o e value:Expr} {f:Str} {pos pos' tpos:Pos} {ta tv:TE}
end
section
variable {X:Cx} {pins:Pn} {σ:St} {H:Hp} {s:Shared} {A:Around} {E:Vq} {Q:Vq} {c:Value} {b:Bool}
end
end L2
namespace L2
open PySem PySem.Spec PyProof.Rows
structure Room (k:Nat) (A:Around):Prop where
 hd:A.handled=none
 dp:A.depth+3*k+5<recursionLimit
 un:A.units+16*k+200<cLine
theorem Room.deeper{k:Nat}{A:Around}(r:Room (k+1) A)(env:Env):Room k (A.deeper env) :=
 ⟨r.hd,by have:=r.dp;show A.depth+1+3*k+5<_;omega,by have:=r.un;show A.units+3+16*k+200<_;omega⟩
theorem Room.depth{k:Nat}{A:Around}(r:Room k A):A.depth<recursionLimit:=by have:=r.dp;omega
theorem Room.units{k:Nat}{A:Around}(r:Room k A):A.units+64<cLine:=by have:=r.un;omega
def Zy7:TA:=fun _ H Q=>Q [] H
def ZuB(ta:TE)(tr:TA):TA:=fun σ H Q=>ta σ H fun x H1=>tr σ H1 fun xs H2=>Q (x::xs) H2
section
variable {X:Cx} {e:Expr} {es:List Expr} {te:TE} {t:TA} {pos:Pos}
theorem Zbj:PA X [] Zy7:=fun _ _ _ _ H Q I h=>Calls.spliced_nil ⟨[],H,I,.nil,h⟩
theorem Zao(ha:PE X e te)(hr:PA X es t)(hs:starEach (e::es) X.env=(false,eval e X.env)::starEach es X.env:=by rfl):PA X (e::es) (ZuB te t):=by
 intro pos pins s σ H Q I h
 rw[hs]
 show wpAny _ _ (spliced ((false,eval e X.env)::backTo pos (starEach es X.env))) _ _ s
 refine Calls.spliced_cons (thn (ha pins s σ H _ I h) fun u s1 ⟨x,H1,I1,r1,q1⟩=>?_)
 exact thn (hr pos pins s1 σ H1 _ I1 q1) fun us s2 ⟨xs,H2,I2,r2,q2⟩=>⟨x::xs,H2,I2,.cons r1 r2,q2⟩
def Zy2(t:TA):TE:=fun σ H Q=>t σ H fun xs H1=>xs.length<=sizeLine/\∀ p,H1 p=none->Q (.ref p) (upd H1 p (.tup xs))
def Zy8(t:TA):TE:=fun σ H Q=>t σ H fun xs H1=>xs.length<=sizeLine/\∀ p,H1 p=none->Q (.ref p) (upd H1 p (.lst xs))
theorem ZlW{x1}(h:PA X es t):PE X (.Tuple es x1 pos) (Zy2 t):=by
 intro pins s σ H Q I hq
 refine wpAny_Tuple_spliced (thn (h pos pins s σ H _ I hq) fun us s1 ⟨xs,H1,I1,r,z,q⟩=>⟨by rw[<- r.length];exact z,?_⟩)
 have hf:H1 s1.heap.objs.size=none:=I1.hok.fresh (Nat.le_refl _)
 refine⟨.ref s1.heap.objs.size,upd H1 s1.heap.objs.size (.tup xs),I1.laid (t':=s1.toks) (fun b u e=>Heap.get?_push_of_some _ e) (Nat.le_refl _) ?_,rfl,q _ hf⟩
 exact⟨z,us,r,⟨_,Heap.get?_push_size _ rfl,rfl,_,rfl⟩⟩
theorem Zq5(h:PA X es t):PE X (.List es pos) (Zy8 t):=by
 intro pins s σ H Q I hq
 refine wpAny_List_spliced (thn (h pos pins s σ H _ I hq) fun us s1 ⟨xs,H1,I1,r,z,q⟩=>⟨by rw[<- r.length];exact z,?_⟩)
 have hf:H1 s1.heap.objs.size=none:=I1.hok.fresh (Nat.le_refl _)
 refine⟨.ref s1.heap.objs.size,upd H1 s1.heap.objs.size (.lst xs),I1.laid (t':=s1.toks) (fun b u e=>Heap.get?_push_of_some _ e) (Nat.le_refl _) ?_,rfl,q _ hf⟩
 exact⟨z,us,0,r,Heap.get?_push_size _ rfl⟩
end
abbrev Sp:=List V->Hp->VK->XK->Prop
abbrev CXT:=List Env->Hp->Shared->XK->Value->Shared->Prop
structure Env0 (P:Program) (w:World) (K:Fg) (mg:Str->Option Value) (base:Heap) (A:Around) (outer:List Env) (s:Shared) (H:Hp):Prop where
 frames:A.frames=some outer
 mod:Mod K mg base
 bs:∀ b o,base.get? b=some o->s.heap.get? b=some o/\H b=none
 bsz:base.objs.size<=s.heap.objs.size
 funs:s.heap.FunFrames base outer
 frf:∀ b∈frs outer,H b=none
 hok:HOk P w H s.heap
 bare:AllBare s.gens
noncomputable def CE(outer:List Env)(P:Program)(w:World)(H:Hp)(s:Shared)(Q:VK)(u:Value)(s':Shared):Prop :=
 ∃ v H',s'.os=s.os/\AllBare s'.gens/\Un (frs outer) [] H H' s.heap s'.heap/\HOk P w H' s'.heap/\ZaR v u/\Q v H'
noncomputable def CR(CX:CXT)(outer:List Env)(P:Program)(w:World)(H:Hp)(s:Shared)(Q:VK)(E:XK)(r:Result)(s':Shared):Prop :=
  match r with
  | .ok (.ret u)=>CE outer P w H s Q u s'
  | .ok _=>False
  | .error e=>CX outer H s E e s'
structure FnOk (P:Program) (w:World) (K:Fg) (mg:Str->Option Value) (base:Heap) (CX:CXT) (k:Nat) (f:Addr) (fd:FuncData) (ps:List Str) (sp:Sp):Prop where
 len:∀ vs H Q E,sp vs H Q E->vs.length=ps.length
 run:∀ (A:Around) (outer:List Env) (s:Shared) (H:Hp) (args:Args) (us:List Value) (vs:List V) (Q:VK) (E:XK),Room k A->Env0 P w K mg base A outer s H->BindsTo s fd args (ps.zip us)->Zar vs us->sp vs H Q E ->
  codeAny (model P w) A (.call (.ref f) args) (CR CX outer P w H s Q E) s
theorem FnOk.imp{P:Program}{w:World}{K:Fg}{mg:Str->Option Value}{base:Heap}{CX:CXT}{k:Nat}{f:Addr}{fd:FuncData}{ps:List Str}{sp sp':Sp}(F:FnOk P w K mg base CX k f fd ps sp)
  (h:∀ vs H Q E,sp' vs H Q E->sp vs H Q E):FnOk P w K mg base CX k f fd ps sp' :=
 ⟨fun vs H Q E q=>F.len vs H Q E (h _ _ _ _ q),fun A outer s H args us vs Q E hr he hb hv hs=>F.run A outer s H args us vs Q E hr he hb hv (h _ _ _ _ hs)⟩
section
variable {X:Cx} {pins:Pn} {σ:St} {H:Hp} {s s':Shared}
theorem Inv.env0(I:Inv X pins σ H s):Env0 X.prog X.w X.K X.mg X.base X.A X.stack s H :=
 ⟨I.ok.frames,I.ok.mod,I.bs,Nat.le_trans I.ok.bsz I.sz,I.stack,I.stkFree,I.hok,I.bare⟩
theorem Inv.after{Q:VK}{u:Value}(I:Inv X pins σ H s)(h:CE X.stack X.prog X.w H s Q u s'):EP X pins σ Q u s':=by
 obtain⟨v,H',os,bare,un,hok,r,q⟩:=h
 obtain⟨hh,g,d,t,os'⟩:=s'
 obtain rfl:os'=s.os:=os
 exact⟨v,H',I.call (h':=hh) (g':=g) (d':=d) (t':=t) (ch:=[]) un hok bare (fun b z=>absurd z (by simp)),r,q⟩
end
def ZuC(sp:Sp)(dvs:List V)(E:XK)(t:TA):TE:=fun σ H Q=>t σ H fun vs H1=>sp (vs++dvs) H1 Q E
noncomputable def ZcH(K:Fg)(fd:FuncData)(ps:List Str)(ds:List Value):Prop :=
 ∀ (s:Shared) (us:List Value),K.In s.heap->(us++ds).length=ps.length->BindsTo s fd ⟨us,[]⟩ (ps.zip (us++ds))
theorem ZcH.all{K:Fg}{fd:FuncData}{ps:List Str}(h:∀ us:List Value,us.length=ps.length->bindArgs fd ⟨us,[]⟩=pure (ps.zip us)):ZcH K fd ps []:=fun s us _ hl=>by
 rw[List.append_nil] at hl ⊢
 exact .of_eq (h us hl)
def ZeH(CX:CXT)(X:Cx)(E:XK):Prop:=∀ (pins:Pn) (σ:St) (H:Hp) (s:Shared) (e:Value) (s':Shared),Inv X pins σ H s->CX X.stack H s E e s'->X.xe e s'
section
variable {X:Cx} {CX:CXT} {k:Nat} {f C:Addr} {fd:FuncData} {ps:List Str} {sp:Sp} {dvs:List V} {ds:List Value} {E:XK} {x m:Str} {p pos apos:Pos} {e o:Expr} {es:List Expr} {ta:TE} {t:TA}
theorem Zqq{pins:Pn}{σ:St}{H:Hp}{s:Shared}{Q:VK}{us:List Value}{vs:List V}(F:FnOk X.prog X.w X.K X.mg X.base CX k f fd ps sp)(hr:Room k X.A)(hb:ZcH X.K fd ps ds)(hd:Zar dvs ds)(hx:ZeH CX X E)
  (I:Inv X pins σ H s) (r:Zar vs us) (h:sp (vs++dvs) H Q E):wpAny (model X.prog X.w) X.A (call (.ref f) us) (EP X pins σ Q) X.xe s:=by
 have r2:Zar (vs++dvs) (us++ds):=r.append hd
 have hl:(us++ds).length=ps.length:=by rw[<- r2.length];exact F.len _ _ _ _ h
 refine wpAny_call (codeAny_mono (F.run X.A X.stack s H ⟨us,[]⟩ (us++ds) (vs++dvs) Q E hr I.env0 (hb s us I.kIn hl) r2 h) fun r s' hq=>?_)
 cases r with
 | error e=>exact hx pins σ H s e s' I hq
 | ok fl =>
  cases fl with
  | ret u=>exact I.after hq
  | next=>exact False.elim hq
  | brk=>exact False.elim hq
  | cont=>exact False.elim hq
theorem Zi4(F:FnOk X.prog X.w X.K X.mg X.base CX k f fd ps sp)(hr:Room k X.A)(hg:Gl X x)(hm:X.mg x=some (.ref f))(hk:PySem.W.keepIn X.K (.ref f)=true)(hb:ZcH X.K fd ps ds)(hd:Zar dvs ds)(hx:ZeH CX X E)
  (ha:PA X (e::es) t) (hdb:(x == ("__debug__" : Str))=false:=by decide) (he:starEach (e::es) X.env=(false,eval e X.env)::starEach es X.env:=by rfl) (hpl:(backTo pos (starEach es X.env)).any (·.1)=false:=by rfl) :
  PE X (.Call (.Name x p) (e::es) [] pos) (ZuC sp dvs E t):=by
 intro pins s σ H Q I h
 refine wpAny_Call_Name_kw (ZcP I hg hm ?_ hdb)
 refine PySem.W.callWith_K (h₀:=X.base) I.ok.mod.kin hk (thn (ha pos pins s σ H _ I h) fun us s1 ⟨vs,H1,I1,r,q⟩=>⟨I1.kIn,?_⟩) he hpl
 exact Zqq F hr hb hd hx I1 r q
end
section
variable {X:Cx} {CX:CXT} {k:Nat} {f C:Addr} {fd:FuncData} {ps ks:List Str} {sp:Sp} {E:XK} {x m:Str} {p pos apos kpos:Pos} {e o:Expr} {es:List Expr} {kws:List Keyword} {te ta:TE} {t tk:TA} {nm:Option Str}
variable {g:List Value->List Value->List Value} {gV:List V->List V->List V}
end
structure FnScope (N P:List Str) (sc:Scope):Prop where
 kind:sc.kind=.function
 co:sc.isCoroutine=false
 gen:sc.isGenerator=false
 nd:N.Nodup
 pre:N.take P.length=P
 par:∀ x∈P,sc.names.lookup x=some .local\/sc.names.lookup x=some .cell
 nofree:∀ y∈sc.names,y.2≠.free
theorem Zf1{kindOf:Str->Option NameKind}{x:Str}:∀ {binds:List (Str×Value)} {m:Str->Option Value},(∀ v,(x,v)∉binds)->bindL kindOf binds m x=m x
 | [],_,_=>rfl
 | (n,v)::r,m,h=>by
  unfold bindL
  rw[Zf1 fun w hw=>h w (List.mem_cons_of_mem _ hw)]
  split
  ·have:x≠n:=by rintro rfl;exact h v List.mem_cons_self
   simp[this]
  ·rfl
theorem Zf3{kindOf:Str->Option NameKind}{x:Str}:∀ {binds:List (Str×Value)} {m:Str->Option Value},(∀ v,(x,v)∉binds)->bindC kindOf binds m x=m x
 | [],_,_=>rfl
 | (n,v)::r,m,h=>by
  unfold bindC
  rw[Zf3 fun w hw=>h w (List.mem_cons_of_mem _ hw)]
  split
  ·rfl
  ·have:x≠n:=by rintro rfl;exact h v List.mem_cons_self
   simp[this]
theorem Zf2{kindOf:Str->Option NameKind}{x:Str}{v:Value}:∀ {P:List Str} {vs:List Value} {i:Nat} {m:Str->Option Value},P.Nodup->P[i]?=some x->vs[i]?=some v->kindOf x=some .local ->
  bindL kindOf (P.zip vs) m x=some v
 | [],_,_,_,_,h,_,_=>by simp at h
 | _::_,[],_,_,_,_,h,_=>by simp at h
 | p::P,w::vs,0,m,nd,h1,h2,hk=>by
  simp at h1 h2;subst h1;subst h2
  show bindL kindOf ((p,w)::P.zip vs) m p=_
  unfold bindL
  rw[Zf1 fun v hv=>(List.nodup_cons.mp nd).1 (List.of_mem_zip hv).1,if_pos hk]
  simp
 | p::P,w::vs,i+1,m,nd,h1,h2,hk=>by
  show bindL kindOf ((p,w)::P.zip vs) m x=_
  unfold bindL
  exact Zf2 (i:=i) (List.nodup_cons.mp nd).2 (by simpa using h1) (by simpa using h2) hk
theorem Zf4{kindOf:Str->Option NameKind}{x:Str}{v:Value}:∀ {P:List Str} {vs:List Value} {i:Nat} {m:Str->Option Value},P.Nodup->P[i]?=some x->vs[i]?=some v->kindOf x≠some .local ->
  bindC kindOf (P.zip vs) m x=some v
 | [],_,_,_,_,h,_,_=>by simp at h
 | _::_,[],_,_,_,_,h,_=>by simp at h
 | p::P,w::vs,0,m,nd,h1,h2,hk=>by
  simp at h1 h2;subst h1;subst h2
  show bindC kindOf ((p,w)::P.zip vs) m p=_
  unfold bindC
  rw[Zf3 fun v hv=>(List.nodup_cons.mp nd).1 (List.of_mem_zip hv).1,if_neg hk]
  simp
 | p::P,w::vs,i+1,m,nd,h1,h2,hk=>by
  show bindC kindOf ((p,w)::P.zip vs) m x=_
  unfold bindC
  exact Zf4 (i:=i) (List.nodup_cons.mp nd).2 (by simpa using h1) (by simpa using h2) hk
noncomputable def start(N:List Str)(vs:List V):St:=vs.map some++List.replicate (N.length-vs.length) none
noncomputable def Zfe(CX:CXT)(P:Program)(w:World)(K:Fg)(mg:Str->Option Value)(base:Heap)(N:List Str)(qual:Str)(scope:Scope)(f:Addr)(cd:Value)(A:Around)(outer:List Env)(s:Shared)(H:Hp)(E:XK):Cx where
 prog:=P
 w:=w
 K:=K
 mg:=mg
 base:=base
 A:=A.deeper (envOfC qual scope s.heap.objs.size f cd)
 N:=N
 s₀:=s
 H₀:=H
 env:=envOfC qual scope s.heap.objs.size f cd
 outer:=outer
 stack:=envOfC qual scope s.heap.objs.size f cd::outer
 ex:=[]
 calm:=true
 fn:=fun _=>true
 pn:=[]
 xe:=fun e s'=>wpAny (model P w) (A.deeper (envOfC qual scope s.heap.objs.size f cd)) (leaving (envOfC qual scope s.heap.objs.size f cd) e) (fun _ s''=>CX outer H s E e s'') (fun e' s''=>CX outer H s E e' s'') s'
theorem Zhv{sc:Scope}{n:Nat}{x:Str}(h:sc.names.lookup x=some .cell):∃ c,(cellsFrom n sc.names []).lookup x=some c:=by
 have q:=PySem.W.cellsFrom_some sc.names n [] (.inl h)
 exact Option.isSome_iff_exists.mp q
theorem ZfC{CX:CXT}{P:Program}{w:World}{K:Fg}{mg:Str->Option Value}{base:Heap}{N ps:List Str}{qual:Str}{scope:Scope}{f:Addr}{cd:Value}{A:Around}{outer:List Env}{s s1:Shared}{H:Hp}{E:XK}{us:List Value}{vs:List V}
  (S:FnScope N ps scope) (hd:A.handled=none) (e0:Env0 P w K mg base A outer s H) (hl:vs.length=ps.length) (r:Zar vs us)
  (x:InCallC s s.heap.objs.size (bindL (envOfC qual scope s.heap.objs.size f cd).kindOf (ps.zip us) fun _=>none) (cellsFrom (s.heap.objs.size+1) scope.names []) (bindC (envOfC qual scope s.heap.objs.size f cd).kindOf (ps.zip us) fun _=>none) s1) :
  Inv (Zfe CX P w K mg base N qual scope f cd A outer s H E) [] (start N vs) H s1:=by
 have hpl:ps.length<=N.length:=by have:=congrArg List.length S.pre;rw[List.length_take] at this;omega
 obtain⟨h1,tk,rfl,hk⟩:=x.done
 have noA:∀ b:Addr,b∉(Zfe CX P w K mg base N qual scope f cd A outer s H E).ex:=fun b z=>absurd (show b∈([]:List Addr) from z) (by simp)
 refine⟨⟨e0.mod,S.kind,rfl,rfl,Nat.le_refl _,fun y z c h1 h2=>?_,fun y hy=>?_,fun y c _ h=>?_,fun _=>hd,Around.frames_deeper e0.frames,.inr ⟨rfl,rfl⟩,fun b z=>absurd z (noA b),e0.bs,e0.bsz,fun b _ _=>noA b,fun b z=>absurd z (noA b),e0.funs,e0.frf⟩,
  rfl,e0.bare,Un.kept hk,⟨_,x.toInCall.ns,fun i y v h1 h2 h3=>?_⟩,fun y c h=>⟨_,x.cell y c h⟩,e0.hok.fresh (Nat.le_refl _),fun y c h=>?_,fun p hp=>absurd (show p∈([]:Pn) from hp) (by simp),e0.hok.kept hk,?_⟩
 ·exact name_of_addr x.apart (PySem.mem_of_lookup h1) (PySem.mem_of_lookup h2)
 ·have hy:scope.names.lookup y=some .cell\/scope.names.lookup y=some .free:=hy
  rcases hy with hy|hy
  ·exact Zhv hy
  ·exact absurd rfl (S.nofree _ (PySem.mem_of_lookup hy))
 ·exact Nat.le_of_lt (x.above y c (PySem.mem_of_lookup h))
 ·have hi:i<vs.length:=by
   unfold start at h2
   by_cases hi:i<vs.length
   ·exact hi
   ·rw[List.getElem?_append_right (by simpa using hi)] at h2
    rw[List.getElem?_replicate] at h2
    split at h2<;>cases h2
  have ha:vs[i]?=some v:=by
   unfold start at h2
   rw[List.getElem?_append_left (by simpa using hi),List.getElem?_map] at h2
   cases e:vs[i]? with
   | none=>rw[e] at h2;cases h2
   | some a=>rw[e] at h2;cases h2;rfl
  obtain⟨u,hu,rv⟩:=r.get ha
  have hp:ps[i]?=some y:=by
   rw[<- S.pre,List.getElem?_take_of_lt (by omega)];exact h1
  have ndP:ps.Nodup:=by rw[<- S.pre];exact S.nd.sublist (List.take_sublist _ _)
  refine⟨u,rv,?_⟩
  rcases S.par y (List.mem_of_getElem? hp) with k|k
  ·exact .inl ⟨k,Zf2 ndP hp hu k⟩
  ·obtain⟨c,e⟩:=Zhv (n:=s.heap.objs.size+1) k
   refine .inr ⟨.inl k,c,e,?_⟩
   have q:=x.cell y c e
   rw[Zf4 ndP hp hu (by show scope.names.lookup y≠_;rw[k];decide)] at q
   exact q
 ·exact e0.hok.fresh (Nat.le_of_lt (x.above y c (PySem.mem_of_lookup h)))
 ·unfold start
  show _=N.length
  rw[List.length_append,List.length_map,List.length_replicate]
  omega
theorem ZrS{CX:CXT}{P:Program}{w:World}{K:Fg}{mg:Str->Option Value}{base:Heap}{k:Nat}{f:Addr}{name qual:Str}{params:Arguments}{body:List Stmt}{scope:Scope}{dV kV doc pm cdv ct oc:Value}{an od:Option Addr}
  {osl:Array (Option Value)} {N ps:List Str} {sp:Sp} (lk:K.lookup f=some ⟨oc,od,.func (PySem.W.fnOf name qual params body scope dV kV doc pm an cdv ct),osl⟩) (hcd:PySem.W.codeIn K cdv qual=true) (S:FnScope N ps scope)
  (len:∀ vs H Q E,sp vs H Q E->vs.length=ps.length)
  (hbody:∀ (A:Around) (outer:List Env) (s:Shared) (H:Hp) (vs:List V) (Q:VK) (E:XK),Room k (A.deeper (envOfC qual scope s.heap.objs.size f cdv))->sp vs H Q E ->
   ∃ t,PSs (Zfe CX P w K mg base N qual scope f cdv A outer s H E) body t/\t { nx:=fun _ H'=>Q .non H',rt:=Q } (start N vs) H) :
  FnOk P w K mg base CX (k+1) f (PySem.W.fnOf name qual params body scope dV kV doc pm an cdv ct) ps sp:=by
 refine⟨len,fun A outer s H args us vs Q E hr e0 hb r hsp=>?_⟩
 have hl:=len _ _ _ _ hsp
 have KX:K.In s.heap:=e0.mod.kin.keeps fun b o e=>(e0.bs b o e).1
 have lim:s.heap.NoLimit:=e0.mod.nolimit.keeps fun b o e=>(e0.bs b o e).1
 have hkind:∀ y∈ps.zip us,scope.names.lookup y.1=some .local\/(scope.names.lookup y.1=some .cell/\((cellsFrom (s.heap.objs.size+1) scope.names []).lookup y.1).isSome=true):=fun ⟨n,v⟩ hy=>by
  rcases S.par n (List.of_mem_zip hy).1 with q|q
  ·exact .inl q
  ·exact .inr ⟨q,PySem.W.cellsFrom_some _ _ _ (.inl q)⟩
 refine codeAny_call_function hr.depth (KX _ _ lk) rfl S.co S.gen rfl (PySem.W.codeRec_of KX hcd) (hb _ _ _ _ ?_)
 refine wpAny_newFunctionEnv_cells S.kind hkind fun env he s1 x=>?_
 subst he
 refine⟨lim.keeps x.toInCall.keep,codeAny_func ?_⟩
 obtain⟨t,ht,hq⟩:=hbody A outer s H vs Q E (hr.deeper _) hsp
 have I:Inv (Zfe CX P w K mg base N qual scope f cdv A outer s H E) [] (start N vs) H s1:=ZfC S hr.hd e0 hl r x
 refine wpAny_mono (ht [] s1 (start N vs) H _ I hq) (fun fl s' hs=>?_) fun e s' hs=>hs
 have fin:∀ {σ':St} {H':Hp} {v:V} {u:Value},Inv (Zfe CX P w K mg base N qual scope f cdv A outer s H E) [] σ' H' s'->ZaR v u->Q v H'->CE outer P w H s Q u s' :=
  fun {σ' H' v u} J rv q=>⟨v,H',J.os,J.bare,J.base,J.hok,rv,q⟩
 cases fl with
 | ret u =>
  obtain⟨v,σ',H',J,rv,q⟩:=hs
  exact fin J rv q
 | next =>
  obtain⟨σ',H',J,q⟩:=hs
  exact fin (v:=V.non) (u:=Value.none) J rfl q
 | brk =>
  obtain⟨_,_,_,q⟩:=hs
  exact False.elim q
 | cont =>
  obtain⟨_,_,_,q⟩:=hs
  exact False.elim q
end L2
namespace L2
open PySem PySem.Spec PyProof.Rows
section
variable {X:Cx} {x:Str} {p pos:Pos} {e:Expr} {es:List Expr} {t:TA} {id T:String} {r:List V->Hp->VK->Prop}
def tCB(r:List V->Hp->VK->Prop)(t:TA):TE:=fun σ H Q=>t σ H fun vs H1=>r vs H1 Q
theorem Zb4(hc:Zdb X (.builtin id) r)(hg:Gl X x)(hm:X.mg x=none)(hv:bootBuiltins x=some (.builtin id))(ha:PA X (e::es) t)(hn:x≠"__name__" := by decide)(hdb:(x == ("__debug__" : Str))=false:=by decide)
  (he:starEach (e::es) X.env=(false,eval e X.env)::starEach es X.env:=by rfl) (hpl:(backTo pos (starEach es X.env)).any (·.1)=false:=by rfl):PE X (.Call (.Name x p) (e::es) [] pos) (tCB r t):=by
 intro pins s σ H Q I h
 refine wpAny_Call_Name_kw (Zcf I hg hm hv ?_ hn hdb)
 exact PyProof.Rows.callWith_builtin1 (thn (ha pos pins s σ H _ I h) fun us s1 ⟨vs,H1,I1,r1,q1⟩=>hc pins s1 σ H1 vs us Q I1 r1 q1) he hpl
theorem Zft(hc:Zdb X (.type T) r)(hg:Gl X x)(hm:X.mg x=none)(hv:bootBuiltins x=some (.type T))(ha:PA X (e::es) t)(hn:x≠"__name__" := by decide)(hdb:(x == ("__debug__" : Str))=false:=by decide)
  (he:starEach (e::es) X.env=(false,eval e X.env)::starEach es X.env:=by rfl) (hpl:(backTo pos (starEach es X.env)).any (·.1)=false:=by rfl):PE X (.Call (.Name x p) (e::es) [] pos) (tCB r t):=by
 intro pins s σ H Q I h
 refine wpAny_Call_Name_kw (Zcf I hg hm hv ?_ hn hdb)
 exact PyProof.Rows.callWith_type1 (thn (ha pos pins s σ H _ I h) fun us s1 ⟨vs,H1,I1,r1,q1⟩=>hc pins s1 σ H1 vs us Q I1 r1 q1) he hpl
end
end L2
namespace HT
open PySem PyProof.Rows
section
open PySem.SeqAt
open PySem.AutoSeq1 (wpAny_loadPart')
open PySem.MeetsSeq PySem.MeetsSeq2 PySem.MeetsSeq3
end
section
variable {prog:Program} {w:World} {A:Around} {E:Vq} {s:Shared}
theorem cat_tup{t b:Addr}{vs ws:List Value}{Q:Vq}(ht:IsTup s.heap t vs.toArray)(hb:IsTup s.heap b ws.toArray)(hv:vs≠[])
  (h1:ws=[]->Q (.ref t) s) (h2:ws≠[]->Q (.ref s.heap.objs.size) { s with heap:=s.heap.push { cls:=.type "tuple", data:=.seq (vs++ws).toArray } })
  (hsz:vs.length+ws.length<=sizeLine):wpAny (model prog w) A (binaryOp .Add (.ref t) (.ref b)) Q E s:=by
 obtain⟨⟨cls,dd,data,sl⟩,ho,hc,n,hd⟩:=id ht
 obtain⟨⟨cls2,dd2,data2,sl2⟩,ho2,hc2,n2,hd2⟩:=id hb
 simp only at hc hd hc2 hd2
 subst hc hd hc2 hd2
 have e:vs.toArray++ws.toArray=(vs++ws).toArray:=by simp
 by_cases hw:ws=[]
 ·exact concat_meets ⟨_,ho,rfl⟩ ⟨_,ho2,rfl⟩ noFill_tuple_add seq_tuple_add PySem.F.slot_tuple_add PySem.F.entry_tuple_add (PySem.F.args_tuple_add_2 _ _)
   (tuple_addW1 t b vs.toArray ws.toArray n n2 dd dd2 sl sl2 (by simpa using hv) (by simp[hw])) ⟨ho,ho2,h1 hw⟩
 ·refine concat_meets ⟨_,ho,rfl⟩ ⟨_,ho2,rfl⟩ noFill_tuple_add seq_tuple_add PySem.F.slot_tuple_add PySem.F.entry_tuple_add (PySem.F.args_tuple_add_2 _ _)
   (tuple_addW2 t b vs.toArray ws.toArray n n2 dd dd2 sl sl2 (by simpa using hv) (by simpa using hw) (by rw[List.size_toArray,List.size_toArray];exact hsz)) ⟨ho,ho2,?_⟩
  rw[e]
  exact h2 hw
noncomputable def sIx(n d:Nat):Option Int->Nat
 | none=>d
 | some v=>if v<0 then (v+(n:Int)).toNat else min v.toNat n
theorem Zqm(n d:Nat)(hd:d<=n)(o:Option Int):sIx n d o<=n:=by
 cases o with
 | none=>exact hd
 | some v =>
  show (if v<0 then (v+(n:Int)).toNat else min v.toNat n)<=n
  by_cases hv:v<0
  ·rw[if_pos hv];omega
  ·rw[if_neg hv];exact Nat.min_le_right _ _
theorem ZjP(v:Int)(n d:Nat):(if v<0 then max (v+(n:Int)) 0 else min v (n:Int))=((sIx n d (some v):Nat):Int):=by
 show (if v<0 then max (v+(n:Int)) 0 else min v (n:Int))=(((if v<0 then (v+(n:Int)).toNat else min v.toNat n):Nat):Int)
 by_cases hv:v<0
 ·simp only[if_pos hv];omega
 ·simp only[if_neg hv];omega
theorem Zh1(lo hi:Option Int)(n:Nat):Builtin.Slice.sliceAdjust lo hi 1 (n:Int)=(((sIx n 0 lo:Nat):Int),((sIx n n hi:Nat):Int)):=by
 have h1:¬ ((1:Int)<0):=by omega
 unfold Builtin.Slice.sliceAdjust
 simp only[h1,if_false]
 refine Prod.ext ?_ ?_
 ·cases lo with
  | none=>rfl
  | some v=>exact ZjP v n 0
 ·cases hi with
  | none=>rfl
  | some v=>exact ZjP v n n
theorem ZhR(i j:Nat):Builtin.Slice.slicePlaces (i:Int) (j:Int) 1=j-i:=by
 unfold Builtin.Slice.slicePlaces
 have h1:(1:Int) > 0:=by omega
 simp only[h1,if_true,Int.ediv_one]
 split<;>omega
theorem Zep{v:Value}{o:Option Int}{Q:Option Int->Shared->Prop}(p:IsPart v o)(h:Q o s):wpAny (model prog w) A (Builtin.Slice.slicePartIndex v) Q E s:=by
 cases p with
 | none=>exact slicePart_none h
 | int i t=>exact slicePart_int h
theorem Zc8{sl:Addr}{vl vu:Value}{lo hi:Option Int}{n:Nat}{Q:Int×Int×Nat->Shared->Prop}(hs:s.heap.IsSliceOf sl vl vu .none)(pl:IsPart vl lo)(pu:IsPart vu hi)
  (h:Q (((sIx n 0 lo:Nat):Int),1,sIx n n hi-sIx n 0 lo) s):wpAny (model prog w) A (Builtin.Slice.sliceApplied (.ref sl) (pure (n:Int))) Q E s:=by
 obtain⟨os,hos,hcs,hds⟩:=id hs
 unfold Builtin.Slice.sliceApplied Builtin.Slice.sliceFields
 refine wpAny_bind (wpAny_bind (wpAny_field hos hds (x:=vl) rfl (wpAny_bind (wpAny_field hos hds (x:=vu) rfl (wpAny_bind (wpAny_field hos hds (x:=.none) rfl (wpAny_pure ?_)))))))
 refine wpAny_bind (slicePart_none ?_)
 show wpAny _ _ (if ((1:Int) == 0)=true then _ else _) _ _ s
 rw[if_neg (by decide)]
 refine wpAny_bind (Zep pl (wpAny_bind (Zep pu (wpAny_bind (wpAny_pure ?_)))))
 show wpAny _ _ (match Builtin.Slice.sliceAdjust lo hi 1 (n:Int) with|(lo,hi)=>pure (lo,(1:Int),Builtin.Slice.slicePlaces lo hi 1)) _ _ s
 rw[Zh1 lo hi n]
 show wpAny _ _ (pure (((sIx n 0 lo:Nat):Int),(1:Int),Builtin.Slice.slicePlaces ((sIx n 0 lo:Nat):Int) ((sIx n n hi:Nat):Int) 1)) _ _ s
 rw[ZhR]
 exact wpAny_pure h
theorem ZkX(xs:Array Value)(i k:Nat):((List.range k).filterMap fun (m:Nat)=>xs[((i:Int)+(m:Int)*1).toNat]?).toArray=((xs.toList.drop i).take k).toArray:=by
 have e:(fun (m:Nat)=>xs[((i:Int)+(m:Int)*1).toNat]?)=fun m=>xs[i+m]?:=by
  funext m
  have:((i:Int)+(m:Int)*1).toNat=i+m:=by omega
  rw[this]
 rw[e]
 have:=pick_run xs i k
 rw[List.filterMap_map] at this
 have e2:((fun x=>xs[x]?) ∘ fun x=>i+x)=fun m=>xs[i+m]?:=rfl
 rw[e2] at this
 rw[this]
theorem getItem_tuple_cut{t sl:Addr}{items:Array Value}{vl vu:Value}{lo hi:Option Int}{Q:Vq}(ht:IsTup s.heap t items)(hs:s.heap.IsSliceOf sl vl vu .none)(pl:IsPart vl lo)(pu:IsPart vu hi)
  (hw:¬ (sIx items.size 0 lo=0/\sIx items.size items.size hi=items.size))
  (h:Q (.ref s.heap.objs.size) { s with heap:=s.heap.push { cls:=.type "tuple", data:=.seq ((items.toList.drop (sIx items.size 0 lo)).take (sIx items.size items.size hi-sIx items.size 0 lo)).toArray } })
  (hsz:items.size<=sizeLine):wpAny (model prog w) A (getItem (.ref t) (.ref sl)) Q E s:=by
 have htake:sizeOk (.seq ((items.toList.drop (sIx items.size 0 lo)).take (sIx items.size items.size hi-sIx items.size 0 lo)).toArray):=by
  show ((items.toList.drop (sIx items.size 0 lo)).take (sIx items.size items.size hi-sIx items.size 0 lo)).toArray.size<=sizeLine
  rw[List.size_toArray,List.length_take,List.length_drop,Array.length_toList]
  omega
 have hj:sIx items.size items.size hi<=items.size:=Zqm _ _ (Nat.le_refl _) hi
 obtain⟨os,hos,hcs,hds⟩:=id hs
 have hTs:s.TypeIs (.ref sl) "slice" := ⟨os,hos,hcs⟩
 unfold getItem
 try with_reducible refine wpAny_holding ?_
 first|refine wpAny_bind (wpAny_pure ?_)|skip
 refine wpAny_bind (wpAny_sequenceKey ht.typeIs (by decide) ?_)
 refine wpAny_bind (wpAny_callSpecial?_slot (name:=Str.ofString "__getitem__") ht.typeIs PyProof.Rows.slot_tuple_getitem
  (wpAny_call_entry PyProof.Rows.slot_tuple_getitem ht.typeIs entry_tuple_getitem ?_ (args_tuple_getitem _ _)))
 show wpAny _ _ (Builtin.Tuple.tupleItemsOf (.ref t) >>= _) _ _ s
 refine wpAny_bind (tupleItemsOf_ ht ?_)
 refine wpAny_bind (wpAny_typeOf hTs ?_)
 rw[if_pos (by decide)]
 refine wpAny_bind (Zc8 hs pl pu ?_)
 have hno:¬ ((((sIx items.size 0 lo:Nat):Int) == 0&&(1:Int) == 1&&(sIx items.size items.size hi-sIx items.size 0 lo) == items.size)=true):=by
  intro q
  rw[Bool.and_eq_true,Bool.and_eq_true] at q
  have q1:((sIx items.size 0 lo:Nat):Int)=0:=eq_of_beq q.1.1
  have q2:sIx items.size items.size hi-sIx items.size 0 lo=items.size:=eq_of_beq q.2
  exact hw ⟨by omega,by omega⟩
 show wpAny _ _ (if (((sIx items.size 0 lo:Nat):Int) == 0&&(1:Int) == 1&&(sIx items.size items.size hi-sIx items.size 0 lo) == items.size)=true then _ else _) _ _ s
 rw[if_neg hno,ZkX]
 first
  | exact wpAny_bind (m:=Builtin.Tuple.tupleExact _) (wpAny_newObj_type (wpAny_pure ⟨_,rfl,wpAny_pure h⟩) htake)
  | exact wpAny_bind (m:=Builtin.Tuple.tupleExact _) (wpAny_newObj_type (wpAny_bind (wpAny_pure (wpAny_pure ⟨_,rfl,wpAny_pure h⟩))) htake)
  | exact wpAny_bind (wpAny_bind (m:=Builtin.Tuple.tupleExact _) (wpAny_newObj_type (wpAny_pure (wpAny_pure ⟨_,rfl,wpAny_pure h⟩)) htake))
  | exact wpAny_bind (wpAny_bind (m:=Builtin.Tuple.tupleExact _) (wpAny_newObj_type (wpAny_pure ⟨_,rfl,wpAny_pure h⟩) htake))
end
end HT
namespace L2
open PySem PySem.Spec PyProof.Rows
abbrev TO:=St->Hp->(Option Int->Hp->Prop)->Prop
noncomputable def PO(X:Cx)(e:Option Expr)(t:TO):Prop :=
 ∀ (pins:Pn) (s:Shared) (σ:St) (H:Hp) (Q:Option Int->Hp->Prop),Inv X pins σ H s->t σ H Q ->
  wpAny (model X.prog X.w) X.A (evalPart e X.env) (fun u s'=>∃ o H',Inv X pins σ H' s'/\IsPart u o/\Q o H') X.xe s
def ZmT:TO:=fun _ H Q=>Q none H
def Zux(t:TE):TO:=fun σ H Q=>t σ H fun x H1=>∃ i,x=.int i/\Q (some i) H1
section
variable {X:Cx} {e:Expr} {te:TE} {lo hi:Option Expr} {tl th:TO} {pos p2:Pos}
theorem ZnH:PO X none ZmT:=by
 intro pins s σ H Q I h
 rw[evalPart_none]
 exact wpAny_pure ⟨none,H,I,.none,h⟩
theorem ZnG(h:PE X e te):PO X (some e) (Zux te):=by
 intro pins s σ H Q I hw
 rw[evalPart_some]
 refine thn (h pins s σ H _ I hw) fun u s1 ⟨x,H1,I1,r1,q1⟩=>?_
 obtain⟨i,rfl,q⟩:=q1
 obtain⟨t,rfl⟩:=r1
 exact⟨some i,H1,I1,.int i t,q⟩
noncomputable def SlR(X:Cx)(r:V->Option Int->Option Int->Hp->VK->Prop):Prop :=
 ∀ (pins:Pn) (s:Shared) (σ:St) (H:Hp) (x:V) (v vl vu:Value) (lo hi:Option Int) (sl:Addr) (Q:VK),Inv X pins σ H s->ZaR x v->s.heap.IsSliceOf sl vl vu .none->IsPart vl lo->IsPart vu hi->r x lo hi H Q ->
  ∃ T id,typeLookup (.type T) "__getitem__" = pure (some (.builtin id))/\s.TypeIs v T/\wpAny (model X.prog X.w) X.A (getItem v (.ref sl)) (EP X pins σ Q) X.xe s
def tSl(r:V->Option Int->Option Int->Hp->VK->Prop)(te:TE)(tl th:TO):TE:=fun σ H Q=>te σ H fun x H1=>tl σ H1 fun l H2=>th σ H2 fun u H3=>r x l u H3 Q
theorem ZkY{r:V->Option Int->Option Int->Hp->VK->Prop}(hr:SlR X r)(he:PE X e te)(hl:PO X lo tl)(hu:PO X hi th):PE X (.Subscript e (.Slice lo hi none p2) pos) (tSl r te tl th):=by
 intro pins s σ H Q I h
 refine Subscript_ (thn (he pins s σ H _ I h) fun v s1 ⟨x,H1,I1,r1,q1⟩=>?_)
 refine wpAny_Slice (thn (hl pins s1 σ H1 _ I1 q1) fun vl s2 ⟨l,H2,I2,pl,q2⟩=>thn (hu pins s2 σ H2 _ I2 q2) fun vu s3 ⟨u,H3,I3,pu,q3⟩=>?_)
 rw[evalPart_none]
 refine wpAny_pure ?_
 have I4:Inv X pins σ H3 { s3 with heap:=s3.heap.push { cls:=.type "slice", data:=.fields #[vl,vu,.none] } }:=I3.kept (t':=s3.toks) fun b ob q=>Heap.get?_push_of_some _ q
 obtain⟨T,id,hT,ht,hg⟩:=hr pins { s3 with heap:=s3.heap.push { cls:=.type "slice", data:=.fields #[vl,vu,.none] } } σ H3 x v vl vu l u s3.heap.objs.size Q I4 r1 (Heap.IsSliceOf.new ..) pl pu q3
 show wpAny (model X.prog X.w) X.A (subscriptTail e (.Slice lo hi none p2) v (.ref s3.heap.objs.size)) (EP X pins σ Q) X.xe { s3 with heap:=s3.heap.push { cls:=.type "slice", data:=.fields #[vl,vu,.none] } }
 exact tail_any (ops:=[.ref s3.heap.objs.size,v]) ht hT hg (by with_unfolding_all rfl)
noncomputable def Zmr(xs:List V)(lo hi:Option Int):List V:=(xs.drop (HT.sIx xs.length 0 lo)).take (HT.sIx xs.length xs.length hi-HT.sIx xs.length 0 lo)
theorem ZdN(xs:List V)(lo hi:Option Int):(Zmr xs lo hi).length<=xs.length:=by
 unfold Zmr
 rw[List.length_take,List.length_drop]
 omega
def Zyg(K:Fg):V->Option Int->Option Int->Hp->VK->Prop:=fun x lo hi H Q=>∃ a xs,x=.ref a/\SqT K H a xs /\
 ¬ (HT.sIx xs.length 0 lo=0/\HT.sIx xs.length xs.length hi=xs.length)/\∀ p,H p=none->Q (.ref p) (upd H p (.tup (Zmr xs lo hi)))
theorem Zp2:SlR X (Zyg X.K):=by
 intro pins s σ H x v vl vu lo hi sl Q I rx hs pl pu h
 obtain⟨a,xs,rfl,hx,hw,q⟩:=h
 cases rx
 obtain⟨its,r,ht,hz⟩:=I.tuple hx
 have hlen:its.toArray.size=xs.length:=by rw[List.size_toArray];exact r.length.symm
 refine⟨"tuple", _,PyProof.Rows.slot_tuple_getitem.lookup,ht.typeIs,?_⟩
 refine HT.getItem_tuple_cut ht hs pl pu (by rw[hlen];exact hw) ?_ (by rw[hlen];exact hz)
 rw[hlen]
 refine⟨.ref s.heap.objs.size,_,I.laid (t':=s.toks) (o:=.tup (Zmr xs lo hi)) (fun b ob q=>Heap.get?_push_of_some _ q) (Nat.le_refl _) ?_,rfl,q _ (I.hok.fresh (Nat.le_refl _))⟩
 exact⟨Nat.le_trans (ZdN xs lo hi) hz,_,(r.drop (HT.sIx xs.length 0 lo)).take (HT.sIx xs.length xs.length hi-HT.sIx xs.length 0 lo),IsTup.new _ _⟩
def ZvU(K:Fg):R2:=fun x y H Q=>∃ a b xs ys,x=.ref a/\y=.ref b/\SqT K H a xs/\SqT K H b ys/\xs≠[]/\xs.length+ys.length<=sizeLine /\
 (ys=[]->Q (.ref a) H)/\(ys≠[]->∀ p,H p=none->Q (.ref p) (upd H p (.tup (xs++ys))))
theorem Zar.nil_iff{xs:List V}{us:List Value}(r:Zar xs us):us=[]↔xs=[]:=by
 cases r with
 | nil=>simp
 | cons _ _=>simp
theorem ZnS:OpR X (binaryOp .Add) (ZvU X.K):=by
 intro pins s σ H x y v u Q I rx ry h
 obtain⟨a,b,xs,ys,rfl,rfl,ha,hb,hx,hz,q1,q2⟩:=h
 cases rx
 cases ry
 obtain⟨its,r1,p1,_⟩:=I.tuple ha
 obtain⟨its2,r2,p2,_⟩:=I.tuple hb
 refine HT.cat_tup p1 p2 (fun z=>hx (r1.nil_iff.mp z)) (fun z=>⟨.ref a,H,I,rfl,q1 (r2.nil_iff.mp z)⟩) (fun z=>?_) (by rw[<- r1.length,<- r2.length];exact hz)
 refine⟨.ref s.heap.objs.size,_,I.laid (t':=s.toks) (o:=.tup (xs++ys)) (fun b ob q=>Heap.get?_push_of_some _ q) (Nat.le_refl _) ?_,rfl,q2 (fun w=>z (r2.nil_iff.mpr w)) _ (I.hok.fresh (Nat.le_refl _))⟩
 exact⟨by rw[List.length_append];exact hz,_,r1.append r2,IsTup.new _ _⟩
end
end L2
namespace L2
open PySem PySem.Spec PyProof.Rows
noncomputable def ixN(n:Nat)(i:Int):Option Nat:=if 0<=i then (if i<n then some i.toNat else none) else if -(n:Int)<=i then some (i+n).toNat else none
noncomputable def atI{α:Type}(xs:List α)(i:Int):Option α:=(ixN xs.length i).bind fun j=>xs[j]?
theorem Zjp{n:Nat}{i:Int}{j:Nat}(h:ixN n i=some j):seqIndex? i n=some j/\j<n/\-(n:Int)<=i/\i<n:=by
 unfold ixN at h
 by_cases h0:0<=i
 ·rw[if_pos h0] at h
  by_cases h1:i<n
  ·rw[if_pos h1] at h
   have e:i.toNat=j:=Option.some.inj h
   exact⟨by rw[seqIndex_of h0 h1,e],by omega,by omega,h1⟩
  ·rw[if_neg h1] at h;cases h
 ·rw[if_neg h0] at h
  by_cases h1:-(n:Int)<=i
  ·rw[if_pos h1] at h
   have e:(i+n).toNat=j:=Option.some.inj h
   exact⟨by rw[seqIndex_neg (by omega) h1,e],by omega,h1,by omega⟩
  ·rw[if_neg h1] at h;cases h
theorem Zj0{α:Type}{xs:List α}{i:Int}{v:α}(h:atI xs i=some v):∃ j,seqIndex? i xs.length=some j/\xs[j]?=some v/\j<xs.length/\-(xs.length:Int)<=i/\i<xs.length:=by
 unfold atI at h
 cases e:ixN xs.length i with
 | none=>rw[e] at h;cases h
 | some j =>
  rw[e] at h
  obtain⟨h1,h2,h3,h4⟩:=Zjp e
  exact⟨j,h1,h,h2,h3,h4⟩
def ZgK(b:Expr):Prop:=∀ o i,subscripted b false o i=operate [o,i] (getItem o i)
noncomputable def IxR(X:Cx)(r:R2):Prop :=
 ∀ (value slice:Expr) (pins:Pn) (s:Shared) (σ:St) (H:Hp) (x y:V) (v u:Value) (Q:VK),Inv X pins σ H s->ZaR x v->ZaR y u->r x y H Q ->
  subscripted slice false v u=operate [v,u] (getItem v u)->wpAny (model X.prog X.w) X.A (subscriptTail value slice v u) (EP X pins σ Q) X.xe s
noncomputable def MtR(X:Cx)(id:String)(r:V->List V->Hp->VK->Prop):Prop :=
 ∀ (pins:Pn) (s:Shared) (σ:St) (H:Hp) (x:V) (xs:List V) (v:Value) (us:List Value) (Q:VK),Inv X pins σ H s->ZaR x v->Zar xs us->r x xs H Q ->
  wpAny (model X.prog X.w) X.A (call (.builtin id) (v::us)) (EP X pins σ Q) X.xe s
section
variable {X:Cx} {a b:Expr} {ta tb:TE} {pos:Pos}
theorem IxR.or{r r':R2}(h:IxR X r)(h':IxR X r'):IxR X (fun x y H Q=>r x y H Q\/r' x y H Q):=by
 intro value slice pins s σ H x y v u Q I rx ry q hs
 rcases q with q|q
 ·exact h value slice pins s σ H x y v u Q I rx ry q hs
 ·exact h' value slice pins s σ H x y v u Q I rx ry q hs
theorem Zv5{r:R2}(hr:IxR X r)(ha:PE X a ta)(hb:PE X b tb)(hs:ZgK b):PE X (.Subscript a b pos) (tOp r ta tb):=by
 intro pins s σ H Q I h
 exact Subscript_ (ZxE ha hb I h fun v u s2 x y H2 I2 rx ry q=>hr a b pins s2 σ H2 x y v u Q I2 rx ry q (hs _ _))
def Zyj(K:Fg):R2:=fun x y H Q=>∃ p xs i v,x=.ref p/\y=.int i/\SqL K H p xs/\atI xs i=some v/\Q v H
def Zyi(K:Fg):R2:=fun x y H Q=>∃ p xs i v,x=.ref p/\y=.int i/\SqT K H p xs/\atI xs i=some v/\Q v H
theorem Zoe:IxR X (Zyj X.K):=by
 intro value slice pins s σ H x y v u Q I rx ry h hs
 obtain⟨p,xs,i,z,rfl,rfl,hq,he,q⟩:=h
 cases rx
 obtain⟨t,rfl⟩:=ry
 obtain⟨its,r,pl,hz⟩:=I.list hq
 obtain⟨j,h1,h2,h3,h4,h5⟩:=Zj0 he
 obtain⟨w,ew,rw'⟩:=r.get h2
 have hl:=r.length
 have hn:=Zer
 have fin:EP X pins σ Q w s:=⟨z,H,I,rw',q⟩
 by_cases h0:0<=i
 ·have hj:i.toNat=j:=by
   rw[seqIndex_of h0 h5] at h1
   exact Option.some.inj h1
  exact item_listR pl.isList h0 (by omega) (by rw[hj];simpa using ew) fin hs
 ·have hj:(i+(its.toArray.size:Int)).toNat=j:=by
   rw[seqIndex_neg (by omega) h4] at h1
   rw[List.size_toArray,<- hl]
   exact Option.some.inj h1
  exact subscriptTail_builtinR (x:=w) pl.isList.typeIs slot_list_getitem.lookup
   (wpAny_getItem_list_neg (Q:=fun r s'=>r=w/\EP X pins σ Q r s') pl.isList (by omega) (by rw[List.size_toArray]<;>omega) (by omega) (by rw[hj];simpa using ew) ⟨rfl,fin⟩) hs
theorem ZrE:IxR X (Zyi X.K):=by
 intro value slice pins s σ H x y v u Q I rx ry h hs
 obtain⟨p,xs,i,z,rfl,rfl,hq,he,q⟩:=h
 cases rx
 obtain⟨t,rfl⟩:=ry
 obtain⟨its,r,pl,hz⟩:=I.tuple hq
 obtain⟨j,h1,h2,h3,h4,h5⟩:=Zj0 he
 obtain⟨w,ew,rw'⟩:=r.get h2
 have hl:=r.length
 have hn:=Zer
 have fin:EP X pins σ Q w s:=⟨z,H,I,rw',q⟩
 exact subscriptTail_builtinR (x:=w) pl.typeIs slot_tuple_getitem.lookup
  (getItem_tuple (j:=j) (Q:=fun r s'=>r=w/\EP X pins σ Q r s') pl (by omega) (by omega) (by rw[List.size_toArray,<- hl];exact h1) (by simpa using ew) ⟨rfl,fin⟩) hs
theorem ZhT(its:List Value)(n j:Nat)(u:Value):Obj.mapSeq (·.setIfInBounds j u) { cls:=.type "list", data:=.seq its.toArray n }={ cls:=.type "list", data:=.seq (its.set j u).toArray n }:=by
 simp[Obj.mapSeq]
theorem Inv.lst{pins:Pn}{σ:St}{H:Hp}{s:Shared}{p:Addr}{xs:List V}(I:Inv X pins σ H s)(h:H p=some (.lst xs)) :
  ∃ (its:List Value) (n:Nat),Zar xs its/\s.heap.get? p=some { cls:=.type "list", data:=.seq its.toArray n }/\xs.length<=sizeLine:=by
 obtain⟨z,its,n,r,e⟩:=I.hok p _ h
 exact⟨its,n,r,e,z⟩
theorem Inv.lstUpd{pins:Pn}{σ:St}{H:Hp}{s:Shared}{p:Addr}{xs ys:List V}{its its':List Value}{n n':Nat}{f:Obj->Obj}(I:Inv X pins σ H s)(h:H p=some (.lst xs))
  (ho:s.heap.get? p=some { cls:=.type "list", data:=.seq its.toArray n }) (hf:f { cls:=.type "list", data:=.seq its.toArray n }={ cls:=.type "list", data:=.seq its'.toArray n' }) (r:Zar ys its') (hz:ys.length<=sizeLine) (t:Nat) :
  Inv X pins σ (upd H p (.lst ys)) { s with heap:=s.heap.update p f,toks:=t }:=by
 have e:(s.heap.update p f).get? p=some { cls:=.type "list", data:=.seq its'.toArray n' }:=by
  rw[Heap.get?_update_self f ho (by rw[hf]<;>rfl),hf]
 refine I.write (x:=p) (e:=p) (by rw[h];trivial) (.inl rfl) (fun b u hb q=>(Heap.get?_update_other _ _ (Ne.symm hb)).trans q) ⟨_,e⟩ ?_
 exact⟨hz,its',n',r,e⟩
def ZvT:V->V->V->Hp->(Hp->Prop)->Prop:=fun o i v H Q=>∃ p xs k j,o=.ref p/\i=.int k/\H p=some (.lst xs)/\ixN xs.length k=some j/\Q (upd H p (.lst (xs.set j v)))
theorem ZeP:Zy0 X ZvT:=by
 intro pins s σ H o i v ov iv u Q I ro ri rv h
 obtain⟨p,xs,k,j,rfl,rfl,hp,hj,q⟩:=h
 cases ro
 obtain⟨t,rfl⟩:=ri
 obtain⟨its,n,r,ho,hz⟩:=I.lst hp
 obtain⟨h1,h2,h3,h4⟩:=Zjp hj
 have hl:=r.length
 have hn:=Zer
 have I':Inv X pins σ (upd H p (.lst (xs.set j v))) { s with heap:=s.heap.update p (Obj.mapSeq (·.setIfInBounds j u)) } :=
  I.lstUpd hp ho (ZhT its n j u) (r.set rv j) (by rw[List.length_set];exact hz) s.toks
 by_cases h0:0<=k
 ·have hk:k.toNat=j:=by
   rw[seqIndex_of h0 h4] at h1
   exact Option.some.inj h1
  exact PySem.W.ki_setAt ho h0 (by omega) (by rw[List.size_toArray,<- hl];exact h4) (by rw[hk];exact⟨_,I',q⟩)
 ·have hk:(k+(its.toArray.size:Int)).toNat=j:=by
   rw[seqIndex_neg (by omega) h3] at h1
   rw[List.size_toArray,<- hl]
   exact Option.some.inj h1
  exact PySem.W.ki_setBack ho (by omega) (by rw[List.size_toArray,<- hl];exact h3) (by omega) (by rw[hk];exact⟨_,I',q⟩)
theorem Zfn(lo hi:Option Int)(n:Nat):(sliceBounds lo hi none n).1=((HT.sIx n 0 lo:Nat):Int)/\(sliceBounds lo hi none n).2.1=((HT.sIx n n hi:Nat):Int)/\(sliceBounds lo hi none n).2.2=1:=by
 refine⟨?_,?_,rfl⟩
 ·cases lo with
  | none=>simp[sliceBounds,HT.sIx]
  | some i =>
   simp only[sliceBounds,HT.sIx,Option.getD_none,show (1:Int) > 0 by decide,if_true]
   by_cases h:i<0
   ·simp only[h,if_true]<;>omega
   ·simp only[h,if_false]<;>omega
 ·cases hi with
  | none=>simp[sliceBounds,HT.sIx]
  | some i =>
   simp only[sliceBounds,HT.sIx,Option.getD_none,show (1:Int) > 0 by decide,if_true]
   by_cases h:i<0
   ·simp only[h,if_true]<;>omega
   ·simp only[h,if_false]<;>omega
theorem ZeO(its:List Value)(lo hi:Option Int):slicePick its.toArray lo hi none=((its.drop (HT.sIx its.length 0 lo)).take (HT.sIx its.length its.length hi-HT.sIx its.length 0 lo)).toArray:=by
 obtain⟨h1,h2,h3⟩:=Zfn lo hi its.toArray.size
 unfold slicePick
 rw[h1,h2,h3]
 simp only[sliceRange_one,pick_run,List.size_toArray]<;>rfl
def Zyh(K:Fg):V->Option Int->Option Int->Hp->VK->Prop:=fun x lo hi H Q=>∃ a xs,x=.ref a/\SqL K H a xs/\∀ p,H p=none->Q (.ref p) (upd H p (.lst (Zmr xs lo hi)))
theorem Zm8:SlR X (Zyh X.K):=by
 intro pins s σ H x v vl vu lo hi sl Q I rx hs pl pu h
 obtain⟨a,xs,rfl,hx,q⟩:=h
 cases rx
 obtain⟨its,r,ht,hz⟩:=I.list hx
 have hlen:=r.length
 refine⟨"list", _,slot_list_getitem.lookup,ht.isList.typeIs,?_⟩
 refine wpAny_getItem_list_slice ht.isList hs pl pu .none (by simp) ?_ (by rw[List.size_toArray]<;>omega)
 rw[ZeO,<- hlen]
 refine⟨.ref s.heap.objs.size,_,I.laid (t':=s.toks) (o:=.lst (Zmr xs lo hi)) (fun b ob q=>Heap.get?_push_of_some _ q) (Nat.le_refl _) ?_,rfl,q _ (I.hok.fresh (Nat.le_refl _))⟩
 exact⟨Nat.le_trans (ZdN xs lo hi) hz,_,0,(r.drop (HT.sIx xs.length 0 lo)).take (HT.sIx xs.length xs.length hi-HT.sIx xs.length 0 lo),Heap.get?_push_size _ rfl⟩
theorem Zc3:Zdb X (.builtin "len") (fun xs H Q=>∃ p ys,xs=[.ref p]/\(SqL X.K H p ys\/SqT X.K H p ys)/\Q (.int ys.length) H):=by
 intro pins s σ H xs us Q I r h
 obtain⟨p,ys,rfl,hq,q⟩:=h
 obtain⟨u,rfl,rx⟩:=ZcL r
 cases rx
 have hn:=Zer
 rcases hq with hq|hq
 ·obtain⟨its,r',pl,hz⟩:=I.list hq
  have hlen:=r'.length
  exact Calls.call_len_list pl.isList (by simp only[List.size_toArray]<;>omega) ⟨.int ys.length,H,I.tok _,⟨s.toks+1,by rw[List.size_toArray,hlen]⟩,q⟩
 ·obtain⟨its,r',pl,hz⟩:=I.tuple hq
  have hlen:=r'.length
  exact len_tuple pl (by simp only[List.size_toArray]<;>omega) ⟨.int ys.length,H,I.tok _,⟨s.toks+1,by rw[List.size_toArray,hlen]⟩,q⟩
theorem ZfT:Zdb X (.builtin "len") (fun xs H Q=>∃ z,xs=[.str z]/\z.length<=sizeLine/\Q (.int z.length) H):=by
 intro pins s σ H xs us Q I r h
 obtain⟨z,rfl,hz,q⟩:=h
 obtain⟨u,rfl,t,rfl⟩:=ZcL r
 have hn:=Zer
 exact len_str (by omega) ⟨.int z.length,H,I.tok _,⟨_,rfl⟩,q⟩
theorem Zc2:Zdb X (.type "list") (fun xs H Q=>∃ p ys,xs=[.ref p]/\(SqL X.K H p ys\/SqT X.K H p ys)/\∀ l,H l=none->Q (.ref l) (upd H l (.lst ys))):=by
 intro pins s σ H xs us Q I r h
 obtain⟨p,ys,rfl,hq,q⟩:=h
 obtain⟨u,rfl,rx⟩:=ZcL r
 cases rx
 have fin:∀ (its:List Value),Zar ys its->ys.length<=sizeLine->∀ (h':Heap) (c':Nat),(∀ b o',s.heap.get? b=some o'->h'.get? b=some o') ->
   h'.get? s.heap.objs.size=some { cls:=.type "list", dict:=none,data:=.seq its.toArray c',slots:=#[] }->EP X pins σ Q (.ref s.heap.objs.size) { s with heap:=h' }:=fun its r' hz h' c' kp e =>
  ⟨.ref s.heap.objs.size,_,I.laid (t':=s.toks) kp (Nat.le_refl _) (show ObjOk X.prog X.w _ h' _ (.lst ys) from ⟨hz,its,c',r',e⟩),rfl,q _ (I.hok.fresh (Nat.le_refl _))⟩
 rcases hq with hq|hq
 ·obtain⟨its,r',pl,hz⟩:=I.list hq
  have hlen:=r'.length
  obtain⟨o,ho,hc,n,hd⟩:=pl.isList
  exact call_list_seq p (.inl rfl) ho hc hd (fun h' c' kp e=>fin its r' hz h' c' kp e) (by simp only[List.size_toArray]<;>omega)
 ·obtain⟨its,r',pl,hz⟩:=I.tuple hq
  have hlen:=r'.length
  obtain⟨o,ho,hc,n,hd⟩:=pl
  exact call_list_seq p (.inr rfl) ho hc hd (fun h' c' kp e=>fin its r' hz h' c' kp e) (by simp only[List.size_toArray]<;>omega)
theorem Zcz:Zdb X (.type "tuple") (fun xs H Q=>∃ p ys,xs=[.ref p]/\((SqL X.K H p ys/\∀ l,H l=none->Q (.ref l) (upd H l (.tup ys)))\/(SqT X.K H p ys/\Q (.ref p) H))):=by
 intro pins s σ H xs us Q I r h
 obtain⟨p,ys,rfl,h⟩:=h
 obtain⟨u,rfl,rx⟩:=ZcL r
 cases rx
 rcases h with ⟨hq,q⟩|⟨hq,q⟩
 ·obtain⟨its,r',pl,hz⟩:=I.list hq
  have hlen:=r'.length
  refine call_tuple_list pl.isList (fun h' kp=>?_) (by simp only[List.size_toArray]<;>omega)
  have I1:Inv X pins σ H { s with heap:=h' }:=I.kept (t':=s.toks) kp
  have I2:Inv X pins σ (upd H h'.objs.size (.tup ys)) { s with heap:=h'.push { cls:=.type "tuple", data:=.seq its.toArray } } :=
   I1.laid (t':=s.toks) (fun b o e=>Heap.get?_push_of_some _ e) (Nat.le_refl _) (show ObjOk X.prog X.w _ _ _ (.tup ys) from ⟨hz,its,r',IsTup.new _ _⟩)
  exact⟨.ref h'.objs.size,_,I2,rfl,q _ (I1.hok.fresh (Nat.le_refl _))⟩
 ·obtain⟨its,r',pl,hz⟩:=I.tuple hq
  exact call_tuple_same pl ⟨.ref p,H,I,rfl,q⟩
def tyV(K:Fg)(T:String)(x:V)(H:Hp):Prop:=match x with
  | .str _=>T = "str"
  | .int _=>T = "int"
  | .ref p=>(T = "list"/\∃ xs,SqL K H p xs)\/(T = "tuple"/\∃ o,K.lookup p=some o/\o.cls=.type "tuple"/\o.dict=none) \/
      (T = "dict"/\((∃ kvs,H p=some (.dK kvs))\/∃ kvs,H p=some (.dT kvs)))\/(T = "set"/\∃ S n,H p=some (.set S n))
  | _=>False
theorem Zpy{pins:Pn}{σ:St}{H:Hp}{s:Shared}{T:String}{x:V}{v:Value}(I:Inv X pins σ H s)(r:ZaR x v)(ty:tyV X.K T x H) :
  s.TypeIs v T/\∀ a,v=.ref a->∃ ob,s.heap.get? a=some ob/\ob.dict=none:=by
 cases x with
 | str z =>
  obtain⟨t,rfl⟩:=r
  cases (show T = "str" from ty)
  exact⟨typeIs_str s z t,fun _ e=>nomatch e⟩
 | int i =>
  obtain⟨t,rfl⟩:=r
  cases (show T = "int" from ty)
  exact⟨typeIs_int s i t,fun _ e=>nomatch e⟩
 | ref p =>
  cases r
  rcases ty with ⟨rfl,xs,hq⟩|⟨rfl,o,hk,hc,hd⟩|⟨rfl,hk⟩|⟨rfl,S,n,hk⟩
  ·obtain⟨its,_,pl,_⟩:=I.list hq
   refine⟨pl.isList.typeIs,fun a e=>?_⟩
   cases e
   obtain⟨o,n,e,c,hd,_⟩:=pl
   exact⟨o,e,hd⟩
  ·refine⟨⟨o,I.kIn p o hk,hc⟩,fun a e=>?_⟩
   cases e
   exact⟨o,I.kIn _ o hk,hd⟩
  ·have z:∃ o,s.heap.get? p=some o/\o.ExactDict:=by
    rcases hk with ⟨kvs,hk⟩|⟨kvs,hk⟩
    ·obtain⟨_,_,_,_,o,_,_,e,ex,_⟩:=I.hok p _ hk
     exact⟨o,e,ex⟩
    ·obtain⟨_,_,_,_,o,_,_,e,ex,_⟩:=I.hok p _ hk
     exact⟨o,e,ex⟩
   obtain⟨o,e,ex⟩:=z
   refine⟨⟨o,e,ex.1⟩,fun a e2=>?_⟩
   cases e2
   exact⟨o,e,ex.2.1⟩
  ·obtain⟨o,_,_,_,e,ex,_⟩:=I.hok p _ hk
   refine⟨⟨o,e,ex.1⟩,fun a e2=>?_⟩
   cases e2
   exact⟨o,e,ex.2.1⟩
 | _=>exact False.elim ty
def tBM(K:Fg)(T:String)(r:V->List V->Hp->VK->Prop)(to:TE)(t:TA):TE:=fun σ H Q=>to σ H fun x H1=>tyV K T x H1/\t σ H1 fun xs H2=>r x xs H2 Q
variable {o e:Expr} {es:List Expr} {to:TE} {t:TA} {name:Str} {apos cpos:Pos} {T id:String} {r:V->List V->Hp->VK->Prop}
theorem Zq9(pa:PlainAttrs T)(slot:Slot T name id)(hty:typeOf (.builtin id)=pure (.type "method_descriptor"))(hm:MtR X id r)(ho:PE X o to)(ha:PA X (e::es) t)
  (hbase:attributeBase o name X.env (eval o X.env)=eval o X.env:=by rfl)
  (hfew:((backTo cpos (starEach (e::es) X.env)).all (fun x=>!x.1)&&(backToKw cpos (keywordEach [] X.env)).all (fun x=>x.1.isSome)
   && decide ((e::es).length+([]:List Keyword).length+(if ([]:List Keyword).isEmpty then 0 else 1)<30))=true:=by rfl)
  (hline:(apos.endLine == cpos.line)=true:=by rfl) (hs:starEach (e::es) X.env=(false,eval e X.env)::starEach es X.env:=by rfl) (hplain:(backTo cpos (starEach es X.env)).any (·.1)=false:=by rfl) :
  PE X (.Call (.Attribute o name apos) (e::es) [] cpos) (tBM X.K T r to t):=by
 intro pins s σ H Q I h
 refine wpAny_Call_method_late hbase hfew hline rfl (thn (ho pins s σ H _ I h) fun v s1 ⟨x,H1,I1,r1,ty,q1⟩=>?_)
 obtain⟨h1,h2⟩:=Zpy I1 r1 ty
 refine⟨T,id,pa,slot,hty,h1,h2,?_⟩
 have hA:=ha cpos pins s1 σ H1 _ I1 q1
 rw[hs] at hA ⊢
 refine Calls.callWith_builtin (by show (false||(backTo cpos (starEach es X.env)).any (·.1))=false;rw[hplain]<;>rfl) (Calls.evalArgs_plain ?_)
 exact thn hA fun us s2 ⟨vs,H2,I2,r2,q2⟩=>hm pins s2 σ H2 x vs v us Q I2 r1 r2 q2
/- xs.append(e),list.index on a module's tuple .. are MtR facts of 06m -/
end
end L2
namespace L2
open PySem PySem.Spec PyProof.Rows
noncomputable def MtM(X:Cx)(id:String)(r:V->List V->Hp->VK->Prop):Prop :=
 ∀ (pins:Pn) (s:Shared) (σ:St) (H:Hp) (x:V) (xs:List V) (v:Value) (us:List Value) (Q:VK),Inv X pins σ H s->ZaR x v->Zar xs us->r x xs H Q ->
  wpAny (model X.prog X.w) X.A (call (.builtin id) (v::us)) (EP X pins σ Q) X.xe s
theorem Zar.one:∀ {x:V} {us:List Value},Zar [x] us->∃ u,us=[u]/\ZaR x u
 | _,_,.cons r .nil=>⟨_,rfl,r⟩
theorem Zar.zero:∀ {us:List Value},Zar [] us->us=[]
 | _,.nil=>rfl
theorem Zar.reverse{xs:List V}{us:List Value}(h:Zar xs us):Zar xs.reverse us.reverse:=by
 induction h with
 | nil=>exact .nil
 | cons r t ih=>rw[List.reverse_cons,List.reverse_cons];exact Zar.append ih (.cons r .nil)
section
variable {X:Cx} {pins:Pn} {σ:St} {H:Hp} {s:Shared} {l b:Addr} {xs ys zs:List V}
theorem Inv.lset{its its':List Value}{n:Nat}{f:Array Value->Array Value}{t':Nat}(I:Inv X pins σ H s)(hH:H l=some (.lst xs))
  (e:s.heap.get? l=some { cls:=.type "list", data:=.seq its.toArray n }) (hf:f its.toArray=its'.toArray) (hv:Zar ys its') (hz:ys.length<=sizeLine) :
  Inv X pins σ (upd H l (.lst ys)) { s with heap:=s.heap.update l (Obj.mapSeq f),toks:=t' }:=by
 have q:=PySem.IsL.update e f
 rw[hf] at q
 refine I.write (x:=l) (e:=l) (by rw[hH];exact trivial) (.inl rfl) (fun b' u hb hu=>(Heap.get?_update_other s.heap (Obj.mapSeq f) (Ne.symm hb)).trans hu) ⟨_,q⟩ ?_
 exact⟨hz,its',_,hv,q⟩
theorem Inv.lnew{its:List Value}{t':Nat}(I:Inv X pins σ H s)(hv:Zar ys its)(hz:ys.length<=sizeLine) :
  Inv X pins σ (upd H s.heap.objs.size (.lst ys)) { s with heap:=s.heap.push { cls:=.type "list", data:=.seq its.toArray },toks:=t' } :=
 I.laid (fun _ _ q=>Heap.get?_push_of_some _ q) (Nat.le_refl _) ⟨hz,its,0,hv,Heap.get?_push_size _ rfl⟩
theorem Inv.fresh(I:Inv X pins σ H s):H s.heap.objs.size=none:=I.hok.fresh (Nat.le_refl _)
theorem Inv.lstM(I:Inv X pins σ H s)(hH:H l=some (.lst xs)):xs.length<=sizeLine/\∃ (its:List Value) (n:Nat),Zar xs its/\xs.length=its.length/\s.heap.get? l=some { cls:=.type "list", data:=.seq its.toArray n }:=by
 obtain⟨z,its,n,r,e⟩:=I.hok l _ hH
 exact⟨z,its,n,r,r.length,e⟩
theorem Zk3{n:Nat}(h:n<=sizeLine):Builtin.List.listTooLong n=false:=by
 unfold Builtin.List.listTooLong
 exact decide_eq_false (by omega)
end
section
variable {X:Cx}
def Znw:V->List V->Hp->VK->Prop:=fun x vs H Q=>∃ l xs y,x=.ref l/\vs=[y]/\H l=some (.lst xs)/\xs.length<sizeLine/\Q .non (upd H l (.lst (xs++[y])))
theorem Zjh:MtM X "list.append" Znw:=by
 intro pins s σ H x vs v us Q I rx rv h
 obtain⟨l,xs,y,rfl,rfl,hH,hz,q⟩:=h
 cases rx
 obtain⟨u,rfl,ru⟩:=rv.one
 obtain⟨z,its,n,r,hl,e⟩:=I.lstM hH
 refine call_meets F.slot_list_append ⟨_,e,rfl⟩ F.entry_list_append (F.args_list_append_2 _ _) (PySem.list_append l its.toArray n u (by rw[List.size_toArray];omega)) ⟨e,?_⟩
 refine⟨.non,_,I.lset (its':=its++[u]) hH e (by simp) (r.append (.cons ru .nil)) ?_,rfl,q⟩
 rw[List.length_append,List.length_singleton]
 omega
def Znv:V->List V->Hp->VK->Prop:=fun x vs H Q=>∃ l b xs zs,x=.ref l/\vs=[.ref b]/\H l=some (.lst xs)/\H b=some (.lst zs)/\xs.length+zs.length<=sizeLine/\Q .non (upd H l (.lst (xs++zs)))
theorem Zjg:MtM X "list.extend" Znv:=by
 intro pins s σ H x vs v us Q I rx rv h
 obtain⟨l,b,xs,zs,rfl,rfl,hH,hB,hz,q⟩:=h
 cases rx
 obtain⟨u,rfl,ru⟩:=rv.one
 cases ru
 obtain⟨z,its,n,r,hl,e⟩:=I.lstM hH
 obtain⟨z2,its2,n2,r2,hl2,e2⟩:=I.lstM hB
 have hsz:its.toArray.size+its2.toArray.size<=sizeLine:=by rw[List.size_toArray,List.size_toArray];omega
 have hlong:¬ (!its.toArray.isEmpty&&Builtin.List.listTooLong (its.toArray.size+its2.toArray.size))=true:=by
  rw[Zk3 hsz,Bool.and_false]
  exact Bool.false_ne_true
 refine call_meets F.slot_list_extend ⟨_,e,rfl⟩ F.entry_list_extend (F.args_list_extend_2 _ _)
  (AutoSeq1.list_extend_list_list_0 l its.toArray n b its2.toArray n2 hlong (by rw[List.size_toArray];omega) (by omega)) ⟨e,e2,?_⟩
 refine⟨.non,_,I.lset (its':=its++its2) hH e (by simp) (r.append r2) ?_,rfl,q⟩
 rw[List.length_append]
 omega
end
section
variable {prog:Program} {w:World} {A:Around} {E:Vq} {s:Shared}
set_option maxRecDepth 100000 in
end
section
variable {X:Cx}
end
end L2
namespace Att
open PySem PySem.W PySem.Calls PyProof.Rows
theorem ZdB{P:Params}{h:Heap}:∀ (ns:List Int) (vs:List Value),WellAll P h vs (ns.map WData.int)->IntsAre vs ns:=by
 intro ns
 induction ns with
 | nil =>
  intro vs w
  rw[List.map_nil] at w
  cases w
  exact .nil
 | cons n ns ih =>
  intro vs w
  rw[List.map_cons] at w
  cases w with
  | cons a b =>
   cases a
   exact .cons _ _ (ih _ b)
theorem ZiG{l:OpenLaw}{n:Nat}(hn:l.most=some n){P:Params}{h:Heap}{args:List WData}{vals:List Value}
  (hpre:l.row.toRowW.claim.pre args=true) (hwl:WellAll P h vals args) :
  ∃ a vs ns,vals=[Value.ref a]/\args=[WData.list (ns.map WData.int)]/\h.get? a=some { cls:=.type "list", data:=.seq vs.toArray }/\IntsAre vs ns/\ns.length<=n:=by
 have hsh:WShape.hasAll [] args [.list .int]=true:=(pre_splitW hpre).1
 have hc:l.pre.holds [] { args:=args }=true:=(pre_splitW hpre).2
 obtain⟨d,r,rfl,h1,h2⟩:=hasAllW_cons hsh
 obtain rfl:=hasAllW_nil h2
 obtain⟨xs,rfl,h3⟩:=hasW_list h1
 obtain⟨ns,rfl⟩:=items_int h3
 have hlen:ns.length<=n:=by
  unfold OpenLaw.pre at hc
  have h4:(WTm.not (.lt (.lit (.int (n:Int))) (.len (.arg 0)))).holds [] { args:=[.list (ns.map .int)] }=true:=by
   have h4:=(holds_andW hc).1
   rw[hn] at h4
   exact h4
  have h5:=condW_of h4 (w_not (w_lt w_lit (w_len_list (w_arg rfl))))
  rw[List.length_map] at h5
  refine Nat.le_of_not_lt fun q=>?_
  have q':(n:Int)<((ns.length:Nat):Int):=by omega
  first
   | (rw[decide_eq_true q'] at h5;exact absurd h5 (by decide))
   | (simp at h5;omega)
 cases hwl with
 | cons w1 w2 =>
  cases w2
  cases w1 with
  | list ho hall=>exact⟨_,_,ns,rfl,rfl,ho,ZdB ns _ hall,hlen⟩
theorem ZiY(l:OpenLaw)(args:List WData):l.row.toRowW.claim.post args (.bool true) args=true :=
 postW_of (r:=l.row.toRowW) (X:=(true == true))
  (show WShape.has [] (.bool true) .bool=true by first|rfl|decide|simp[WShape.has,WShape.arms,WShape.armsAll])
  (show (WTm.eq .res (.lit (.bool true))).value [] { args:=args,res:=some (.bool true),after:=args }=some (.bool (true == true)) from w_eq_bool (w_res rfl) w_lit) rfl
theorem attach_call{l:OpenLaw}{n:Nat}{q:Program}{loose:List Str}{XP:(Str->Option Value)->Heap->Prop}{YP:World->Heap->Prop}{d:DefRec}
  (hn:l.most=some n) (hdf:d.params.defaults=[])
  (call:∀ (w:World) (s₀ s₁:Shared) (mg mb:Str->Option Value) (fa:Addr) (o:Obj) (pm cd doc:Value) (a:Addr) (vs:List Value) (ns:List Int),
   Ground q loose [] XP w s₀ mg mb s₁.heap->YP w s₁.heap ->
   s₁.heap.get? fa=some o->o.data=.func (docDef d.name d.params d.body d.scope pm cd doc)->s₁.heap.CodeRec cd d.name->mg d.name=some (.ref fa) ->
   s₁.heap.get? a=some { cls:=.type "list", data:=.seq vs.toArray }->IntsAre vs ns->ns.length<=n->s₁.gens=#[] ->
   codeAny (model l.prog w) callerA (.call (.ref fa) ⟨[.ref a],[]⟩) (fun r s'=>r=.ok (.ret (.bool true))/\OldK s₁.heap s'.heap/\s'.os=s₁.os/\AllBare s'.gens) s₁) :
  WalkO q loose XP YP l.row.toRowW d [] (fun f vs=>PySem.call f vs):=by
 intro w s₀ s₁ mg mb G Y fa o pm cd doc dV kV ho hd hcd hD hmg hg args vals as hpre hlay hrd hwl hlo
 obtain rfl:dV=.none:=Dflts.none hD hdf
 obtain rfl:kV=.none:=Dflts.noKw hD
 obtain⟨a,vs,ns,rfl,rfl,hobj,hints,hlen⟩:=ZiG hn hpre hwl
 refine enter_call (codeAny_mono (call w s₀ s₁ mg mb fa o pm cd doc a vs ns G Y ho (fd_plain hd) hcd hmg hobj hints hlen hg) fun r s' hq=>?_)
 obtain⟨rfl,h2,h3,h4⟩:=hq
 exact⟨.inl ⟨.bool true,.bool true,[],rfl,fun _=>rfl,.bool true,ZiY l _,fun _=>⟨List.Pairwise.nil,fun _ hm=>(nomatch hm)⟩⟩,h2,h3,h4⟩
section
variable {prog:Program} {w:World} {A:Around} {E:Vq} {s:Shared} {K:Frag}
end
end Att
namespace L2
open PySem PySem.Spec PyProof.Rows
theorem Zfi:∀ {vs:List Value} {ns:List Int},IntsAre vs ns->Zar (ns.map V.int) vs
 | _,_,.nil=>.nil
 | _,_,.cons n t h=>.cons ⟨t,rfl⟩ (Zfi h)
def ZxQ(H:Hp):Prop:=∀ b,H b=none\/∃ o xs,H b=some (.frz o (.lst xs))
theorem Zk5{P:Program}{w:World}{K:Fg}{mg mb:Str->Option Value}{CX:CXT}{k:Nat}{fa a:Addr}{fd:FuncData}{x:Str}{sp:Sp}{s₁:Shared}{vs:List Value}{ns:List Int}
  (KX:K.In s₁.heap) (hns:s₁.heap.Ns mainGlobals mg) (hb:s₁.heap.Ns builtinsNs mb) (hbb:∀ x:Str,x≠"__name__"->mb x=bootBuiltins x) (hlim:s₁.heap.NoLimit) (hg:s₁.gens=#[])
  (ha:s₁.heap.get? a=some { cls:=.type "list", data:=.seq vs.toArray }) (hi:IntsAre vs ns) (hl:ns.length<=sizeLine) (hr:Room k callerA)
  (F:∀ base:Heap,K.In base->base.Ns mainGlobals mg->FnOk P w K mg base CX k fa fd [x] sp) (hbind:∀ (s:Shared) (u:Value),BindsTo s fd ⟨[u],[]⟩ [(x,u)])
  (hsp:∀ H:Hp,ZxQ H->SqL K H a (ns.map V.int)->sp [.ref a] H (fun v _=>v=.bl true) fun _ _ _=>False)
  (hCX:∀ H e s',CX [] H s₁ (fun _ _ _=>False) e s'->False) :
  codeAny (model P w) callerA (.call (.ref fa) ⟨[.ref a],[]⟩) (fun r s'=>r=.ok (.ret (.bool true))/\OldK s₁.heap s'.heap/\s'.os=s₁.os/\AllBare s'.gens) s₁:=by
 have rv:=Zfi hi
 have lenV:=hi.length
 -- from an abstract heap in which nothing but the script may be tracked
 have core:∀ H:Hp,ZxQ H->SqL K H a (ns.map V.int)->HOk P w H s₁.heap->(∀ b,H b≠none->b=a)->(H a≠none->K.lookup a=none) ->
   codeAny (model P w) callerA (.call (.ref fa) ⟨[.ref a],[]⟩) (fun r s'=>r=.ok (.ret (.bool true))/\OldK s₁.heap s'.heap/\s'.os=s₁.os/\AllBare s'.gens) s₁:=by
  intro H hO hS hok hA hK
  have base_of:∀ {b:Addr} {o:Obj},s₁.heap.get? b=some o->H b=none->(Zlb s₁.heap H).get? b=some o:=fun e n=>Zla e n
  have noA:∀ {b:Addr} {o:Obj} {es:Array DictEntry} {ep:Nat},s₁.heap.get? b=some o->o.data=.dict es ep->H b=none:=fun {b o es ep} e d=>by
   cases q:H b with
   | none=>rfl
   | some u =>
    have e':b=a:=hA b (by rw[q];simp)
    subst e'
    rw[ha] at e;cases e
    have d':Data.seq vs.toArray _=Data.dict es ep:=d
    cases d'
  have nsK:∀ {b:Addr} {m:Str->Option Value},s₁.heap.Ns b m->(Zlb s₁.heap H).Ns b m:=fun {b m} ⟨o,es,ep,e,d,r⟩=>⟨o,es,ep,base_of e (noA e d),d,r⟩
  have hKb:K.In (Zlb s₁.heap H):=fun b o e=>base_of (KX b o e) (by
   cases q:H b with
   | none=>rfl
   | some u =>
    have e':b=a:=hA b (by rw[q];simp)
    subst e'
    rw[hK (by rw[q];simp)] at e;cases e)
  have hM:Mod K mg (Zlb s₁.heap H):=⟨hKb,nsK hns,⟨mb,nsK hb,hbb⟩,let ⟨mc,h1,h2⟩:=hlim;⟨mc,nsK h1,h2⟩⟩
  have e0:Env0 P w K mg (Zlb s₁.heap H) callerA [] s₁ H:=⟨rfl,hM,fun b o e=>ZnU e,Nat.le_of_eq (Zjv _ _),trivial,fun b hb=>absurd (show b∈([]:List Addr) from hb) (by simp),hok,.of_eq hg⟩
  refine codeAny_mono ((F _ hKb (nsK hns)).run callerA [] s₁ H ⟨[.ref a],[]⟩ [.ref a] [.ref a] _ _ hr e0 (hbind s₁ (.ref a)) (.cons rfl .nil) (hsp H hO hS)) fun r s' h=>?_
  cases r with
  | error e=>exact(hCX H e s' h).elim
  | ok fl =>
   cases fl with
   | next=>exact False.elim h
   | brk=>exact False.elim h
   | cont=>exact False.elim h
   | ret u =>
    obtain⟨v,H',os,bare,un,hok',r',q⟩:=h
    have q':v=.bl true:=q
    subst q'
    obtain rfl:u=Value.bool true:=r'
    refine⟨rfl,OldK.of_keep fun b o e=>?_,os,bare⟩
    cases q:H b with
    | none=>exact un.keep b o e q (by intro z;exact absurd (show b∈([]:List Addr) from z) (by simp)) (by simp)
    | some u =>
     rcases hO b with z|⟨ob,xs,z⟩
     ·rw[q] at z;cases z
     ·have z2:=un.frzs b ob _ z
      obtain⟨e1,_⟩:=hok b _ z
      obtain⟨e2,_⟩:=hok' b _ z2
      rw[e] at e1;cases e1
      exact e2
 cases hk:K.lookup a with
 | some o =>
  -- the script is one of the module's own objects
  have e:=KX a o hk
  rw[ha] at e
  cases e
  refine core (fun _=>none) (fun _=>.inl rfl) (.inr ⟨_,vs.toArray,_,hk,rfl,rfl,rfl,by rw[List.size_toArray,lenV];exact hl,by simpa using rv⟩) (fun b u z=>by have z':(none:Option HO)=some u:=z;cases z') (fun b z=>absurd rfl z) fun z=>absurd rfl z
 | none =>
  refine core (fun b=>if b=a then some (.frz { cls:=.type "list", data:=.seq vs.toArray } (.lst (ns.map V.int))) else none) (fun b=>?_) (.inl (.inr ⟨{ cls:=.type "list", data:=.seq vs.toArray },if_pos rfl⟩)) (fun b u z=>?_) (fun b z=>?_) fun _=>hk
  ·by_cases hb:b=a
   ·exact .inr ⟨_,_,if_pos hb⟩
   ·exact .inl (if_neg hb)
  ·by_cases hb:b=a
   ·have z':=(if_pos hb).symm.trans z
    cases z'
    subst hb
    exact⟨ha,by rw[List.length_map];exact hl,vs,_,rv,ha⟩
   ·have z':=(if_neg hb).symm.trans z
    cases z'
  ·by_cases hb:b=a
   ·exact hb
   ·exact absurd (if_neg hb) z
end L2
namespace L2
open PySem PySem.Spec PyProof.Rows
noncomputable abbrev KOf{K:Fg}{h:Heap}(_:K.In h):Fg:=K
theorem walk_of{l:PySem.W.OpenLaw}{n k:Nat}{q:Program}{loose:List Str}{XP:(Str->Option Value)->Heap->Prop}{YP:World->Heap->Prop}{d:DefRec}{K:Params->Fg}{CX:World->CXT}{sp:World->Sp}{x:Str}
  (hn:l.most=some n) (hn2:n<=sizeLine) (hdf:d.params.defaults=[]) (hr:Room k callerA)
  (hY:∀ (w:World) (h:Heap),YP w h->(K w.params).In h)
  (F:∀ (w:World) (mg:Str->Option Value) (fa:Addr) (h:Heap),(K w.params).In h->h.Ns mainGlobals mg->mg d.name=some (.ref fa) ->
   ∃ fd:FuncData,(∀ (s:Shared) (u:Value),BindsTo s fd ⟨[u],[]⟩ [(x,u)]) /\
    ∀ base:Heap,(K w.params).In base->base.Ns mainGlobals mg->FnOk l.prog w (K w.params) mg base (CX w) k fa fd [x] (sp w))
  (hsp:∀ (w:World) (H:Hp) (a:Addr) (ns:List Int),ns.length<=n->ZxQ H->SqL (K w.params) H a (ns.map V.int)->sp w [.ref a] H (fun v _=>v=.bl true) fun _ _ _=>False)
  (hCX:∀ (w:World) (H:Hp) (s:Shared) (e:Value) (s':Shared),CX w [] H s (fun _ _ _=>False) e s'->False) :
  PySem.W.WalkO q loose XP YP l.row.toRowW d [] (fun f vs=>PySem.call f vs):=by
 refine Att.attach_call hn hdf fun w s₀ s₁ mg mb fa o pm cd doc a vs ns G Y ho hd hcd hmg hobj hints hlen hg=>?_
 have KX:=hY w _ Y
 obtain⟨fd,hb,hF⟩:=F w mg fa _ KX G.T.g hmg
 exact Zk5 KX G.T.g G.T.b G.T.builtins G.T.nolimit hg hobj hints (Nat.le_trans hlen hn2) hr hF hb (fun H hO hS=>hsp w H a ns hlen hO hS) fun H e s'=>hCX w H s₁ e s'
end L2
/- THE LAST THEOREM (shape;LID,My.* are yours):
   My.Adr: a structure of the addresses that your layer names (classes,functions);My.Txt K t: a structure (Prop) of the equations over K;
   My.txt_mk:{K} {implicit addresses ..} (e1:nsIn K mainGlobals "law" = some (some (.ref f))) (e2:K.lookup f=some ⟨oc,od,.func (fnOf "law" "law" params body scope dV kV doc pm an cdv ct),sl⟩) (e3:codeIn K cdv "law" = true) ..:∃ t,My.Txt K t
set_option maxRecDepth 100000 in
set_option maxHeartbeats 0 in
theorem PySem.Challenge.cw_LID_holds:PySem.Challenge.rw_LID.Holds:=by
 w_on;o_law;k_head;(case hw=>w_witness2)
 k_fill
 refine L2.walk_of (l:=PySem.Challenge.rw_LID) (n:=63) (k:=40) (x := "script") (CX:=fun w=>..) (sp:=fun _=>My.sp_law) rfl (by decide) rfl ⟨rfl,by decide,by decide⟩ (fun w h Y=>PySem.W.kIn_of Y) ?F ?S ?C
 case F =>
  intro w mg fa h KX G hmg
  have T:∃ t,My.Txt (L2.KOf KX) t:=by
   dsimp only[L2.KOf]                          -- K must stand as «<heap const> w.params» for k_is
   refine' My.txt_mk ?e1 ?e2 ?e3 ..
   (case e1=>PySem.W.k_is)                    -- in the order: a name -> its address -> its object -> its parts
   (case e2=>PySem.W.k_is)
   ..
  obtain⟨t,T⟩:=T
  have e0:=hmg.symm.trans (PySem.W.mg_of KX G T.law)
  cases e0                                       -- fa is the law's own address
  exact⟨_,fun s u=>.of_eq rfl,fun base kb nb=>My.law_fn T kb nb⟩     -- if «.of_eq rfl» comes too early: refine' ⟨_,?b,fun base kb nb=>My.law_fn T kb nb⟩;exact fun s u=>.of_eq rfl
 case S=>exact fun w H a ns hl hO hS=>..
 case C=>exact ..
(the tactic k_is has no namespace: write k_is) -/
namespace L2
open PySem PySem.Spec PyProof.Rows
noncomputable def ZcT(s:Stmt):Arguments:=match s with
  | .FunctionDef _ a _ _ _ _ _ _ _ _=>a
  | _=>{ posonlyargs:=[],args:=[],vararg:=none,kwonlyargs:=[],kw_defaults:=[],kwarg:=none,defaults:=[] }
noncomputable def Zbc(s:Stmt):List Stmt:=match s with
  | .FunctionDef _ _ b _ _ _ _ _ _ _=>b
  | _=>[]
noncomputable def Zav(s:Stmt):Scope:=match s with
  | .FunctionDef _ _ _ _ _ _ sc _ _ _=>sc
  | _=>{ kind:=.function,names:=[],isGenerator:=false,isCoroutine:=false }
noncomputable abbrev CX0:CXT:=fun _ _ _ _ _ _=>False
noncomputable abbrev E0:XK:=fun _ _ _=>False
structure Fun (K:Fg) (x qual:Str) (st:Stmt) (f:Addr) (fd:FuncData):Prop where
 ex:∃ (oc:Value) (od:Option Addr) (kV doc pm:Value) (an:Option Addr) (cdv ct:Value) (osl:Array (Option Value)),
  fd=PySem.W.fnOf x qual (ZcT st) (Zbc st) (Zav st) .none kV doc pm an cdv ct/\K.lookup f=some ⟨oc,od,.func fd,osl⟩/\PySem.W.codeIn K cdv qual=true
 kp:PySem.W.keepIn K (.ref f)=true
section
variable {P:Program} {w:World} {K:Fg} {mg:Str->Option Value} {base:Heap}
theorem Fun.ok{x qual:Str}{st:Stmt}{f:Addr}{fd:FuncData}{N ps:List Str}{k:Nat}{sp:Sp}(F:Fun K x qual st f fd)(S:FnScope N ps (Zav st))(len:∀ vs H Q E,sp vs H Q E->vs.length=ps.length)
  (hbody:∀ (cdv:Value) (A:Around) (outer:List Env) (s:Shared) (H:Hp) (vs:List V) (Q:VK) (E:XK),Room k (A.deeper (envOfC qual (Zav st) s.heap.objs.size f cdv))->sp vs H Q E ->
   ∃ t,PSs (Zfe CX0 P w K mg base N qual (Zav st) f cdv A outer s H E).nox (Zbc st) t/\t { nx:=fun _ H'=>Q .non H',rt:=Q } (start N vs) H):FnOk P w K mg base CX0 (k+1) f fd ps sp:=by
 obtain⟨oc,od,kV,doc,pm,an,cdv,ct,osl,rfl,lk,hcd⟩:=F.ex
 refine ZrS lk hcd S len fun A outer s H vs Q E hr hsp=>?_
 obtain⟨t,h,q⟩:=hbody cdv A outer s H vs Q E hr hsp
 exact⟨t,h.nox,q⟩
theorem Fun.binds{x qual:Str}{st:Stmt}{f:Addr}{fd:FuncData}{ps:List Str}(F:Fun K x qual st f fd)
  (h:∀ (kV doc pm:Value) (an:Option Addr) (cdv ct:Value) (us:List Value),us.length=ps.length->bindArgs (PySem.W.fnOf x qual (ZcT st) (Zbc st) (Zav st) .none kV doc pm an cdv ct) ⟨us,[]⟩=pure (ps.zip us)):ZcH K fd ps []:=by
 obtain⟨oc,od,kV,doc,pm,an,cdv,ct,osl,rfl,lk,hcd⟩:=F.ex
 exact .all (h kV doc pm an cdv ct)
theorem ZrO{x qual:Str}{st:Stmt}{f:Addr}{oc:Value}{od an:Option Addr}{osl:Array (Option Value)}{kV doc pm cdv ct:Value}(l:K.lookup f=some ⟨oc,od,.func (PySem.W.fnOf x qual (ZcT st) (Zbc st) (Zav st) .none kV doc pm an cdv ct),osl⟩)
    (c:PySem.W.codeIn K cdv qual=true) (k:PySem.W.keepIn K (.ref f)=true):Fun K x qual st f (PySem.W.fnOf x qual (ZcT st) (Zbc st) (Zav st) .none kV doc pm an cdv ct):=⟨⟨oc,od,kV,doc,pm,an,cdv,ct,osl,rfl,l,c⟩,k⟩
end
section
variable {X:Cx}
end
def Zag(H H':Hp):Prop:=∀ b o,H b=some o->H' b=some o
theorem Zag.refl(H:Hp):Zag H H:=fun _ _ h=>h
theorem Zag.trans{H H1 H2:Hp}(a:Zag H H1)(b:Zag H1 H2):Zag H H2:=fun c o h=>b c o (a c o h)
theorem Zag.free{H H':Hp}(e:Zag H H'){l:Addr}(h:H' l=Option.none):H l=Option.none:=by
 cases q:H l with
 | none=>rfl
 | some o =>
  rw[e l o q] at h
  cases h
end L2
section
namespace Ov
open PySem
inductive D where
 | non|bl (b:Bool)|int (i:Int)|str (x:Str)|tup (ds:List D)|lst (ds:List D)
 | obj (c:Nat) (fs:List (Str×D))|exc (c:Nat) (fs:List (Str×D))|dic (kvs:List (List Int×D))
 deriving Inhabited
structure Ex where
 c:Nat
 fs:List (Str×D)
 deriving Inhabited
inductive R (α:Type) where
 | ok (a:α)|exn (x:Ex)|bad
 deriving Inhabited
noncomputable def R.bind{α β:Type}(r:R α)(f:α->R β):R β:=match r with
  | .ok a=>f a
  | .exn x=>.exn x
  | .bad=>.bad
@[simp]theorem R.bind_ok{α β:Type}(a:α)(f:α->R β):(R.ok a).bind f=f a:=rfl
@[simp]theorem R.bind_exn{α β:Type}(x:Ex)(f:α->R β):(R.exn x:R α).bind f=.exn x:=rfl
@[simp]theorem R.bind_bad{α β:Type}(f:α->R β):(R.bad:R α).bind f=.bad:=rfl
theorem R.bind_assoc{α β γ:Type}(r:R α)(f:α->R β)(g:β->R γ):(r.bind f).bind g=r.bind fun a=>(f a).bind g:=by cases r<;>rfl
noncomputable def Zdo(n:Nat):Bool:=Nat.ble n 1000000
noncomputable def Zbh(i j:Int):Bool:=(decide (-(18446744073709551616:Int)<i)&&decide (i<18446744073709551616))||(decide (-(18446744073709551616:Int)<j)&&decide (j<18446744073709551616))
noncomputable def ZcB(i j:Int):Bool:=decide (i.natAbs<2 ^ 2000)&&decide (j.natAbs<2 ^ 2000)
noncomputable def ZcA:Operator->D->D->R D
 | .Add,.int i,.int j=>.ok (.int (i+j))
 | .Sub,.int i,.int j=>.ok (.int (i-j))
 | .Mult,.int i,.int j=>if (Zbh i j||ZcB i j)=true then .ok (.int (i*j)) else .bad
 | .FloorDiv,.int i,.int j=>if 0<j/\j<1073741824 then .ok (.int (i / j)) else .bad
 | .Mod,.int i,.int j=>if 0<j then .ok (.int (i%j)) else .bad
 | .Pow,.int i,.int j=>if (0<=j/\j<=1000000)/\(-(18446744073709551616:Int)<i/\i<18446744073709551616) then .ok (.int (i ^ j.toNat)) else .bad
 | .Add,.str x,.str y=>if Zdo (x.length+y.length)=true then .ok (.str (x++y)) else .bad
 | .Add,.lst x,.lst y=>if Zdo (x.length+y.length)=true then .ok (.lst (x++y)) else .bad
 | .Add,.tup x,.tup y=>if (!x.isEmpty&&Zdo (x.length+y.length))=true then .ok (.tup (x++y)) else .bad
 | _,_,_=>.bad
noncomputable def unD:UnaryOp->D->R D
 | .USub,.int i=>.ok (.int (-i))
 | _,_=>.bad
noncomputable def b2i(b:Bool):Int:=if b=true then 1 else 0
mutual
noncomputable def eqD:D->D->Bool
 | .non,.non=>true
 | .bl a,.bl b=>a == b
 | .bl a,.int j=>b2i a == j
 | .int i,.bl b=>i == b2i b
 | .int i,.int j=>i == j
 | .str x,.str y=>x == y
 | .tup xs,.tup ys=>eqDs xs ys
 | .lst xs,.lst ys=>eqDs xs ys
 | _,_=>false
noncomputable def eqDs:List D->List D->Bool
 | [],[]=>true
 | x::xs,y::ys=>eqD x y&&eqDs xs ys
 | _,_=>false
end
noncomputable def flD:Nat->D->Bool
 | _,.non=>true
 | _,.bl _=>true
 | _,.int _=>true
 | _,.str _=>true
 | n+1,.tup xs=>xs.all (flD n)
 | n+1,.lst xs=>xs.all (flD n)
 | _,_=>false
noncomputable def Zma:D->Option (List Int)
 | .tup ds=>keyDs ds
 | _=>none
where keyDs:List D->Option (List Int)
 | []=>some []
 | .int i::r=>(keyDs r).map (i :: ·)
 | _=>none
noncomputable def ltD:Nat->D->D->Bool
 | 0,.int i,.int j=>decide (i<j)
 | n+1,.tup xs,.tup ys=>ltDs (ltD n) xs ys
 | _,_,_=>false
where ltDs (lt:D->D->Bool):List D->List D->Bool
 | [],[]=>false
 | [],_::_=>true
 | _::_,[]=>false
 | x::xs,y::ys=>if eqD x y=true then ltDs lt xs ys else lt x y
noncomputable def rkD:Nat->D->Bool
 | 0,.int _=>true
 | n+1,.tup xs=>xs.all (rkD n)
 | _,_=>false
noncomputable def Zpo(lt:D->D->Bool)(x:D):List D->List D
 | []=>[x]
 | y::ys=>if lt y x=true then y::Zpo lt x ys else x::y::ys
noncomputable def ZkI(lt:D->D->Bool):List D->List D
 | []=>[]
 | x::xs=>Zpo lt x (ZkI lt xs)
noncomputable def Zpi:List D->Bool
 | []=>true
 | x::xs=>xs.all (fun y=>!eqD x y)&&Zpi xs
noncomputable def Zt2:List D->Bool
 | []=>true
 | [_]=>true
 | x::y::r=>ltD 1 x y&&Zt2 (y::r)
noncomputable def Zbb(xs:List D):R (List D):=if (xs.all (fun d=>rkD 1 d && !eqD d (.tup []))&&Zpi xs&&(decide (xs.length<64)||(Zt2 xs&&decide (xs.length<=1000))))=true then .ok (ZkI (ltD 1) xs) else .bad
noncomputable def Za7:CmpOp->D->D->R D
  | .Eq,x,y=>if (flD 5 x&&flD 5 y)=true then .ok (.bl (eqD x y)) else .bad
  | .NotEq,x,y=>if (flD 5 x&&flD 5 y)=true then .ok (.bl (!eqD x y)) else .bad
  | .Lt,.int i,.int j=>.ok (.bl (decide (i<j)))
  | .LtE,.int i,.int j=>.ok (.bl (decide (i<=j)))
  | .Gt,.int i,.int j=>.ok (.bl (decide (j<i)))
  | .GtE,.int i,.int j=>.ok (.bl (decide (j<=i)))
  | .In,x,.lst ys=>if (flD 5 x&&ys.all (flD 5))=true then .ok (.bl (ys.any fun y=>eqD y x)) else .bad
  | .In,x,.dic kvs=>match Zma x with
    | some k=>.ok (.bl (kvs.any fun p=>p.1 == k))
    | none=>.bad
  | .In,x,.tup ys=>if (flD 5 x&&ys.all (flD 5))=true then .ok (.bl (ys.any fun y=>eqD y x)) else .bad
  | .NotIn,x,.lst ys=>if (flD 5 x&&ys.all (flD 5))=true then .ok (.bl (!ys.any fun y=>eqD y x)) else .bad
  | .NotIn,x,.tup ys=>if (flD 5 x&&ys.all (flD 5))=true then .ok (.bl (!ys.any fun y=>eqD y x)) else .bad
  | .Is,.non,.non=>.ok (.bl true)
  | .Is,.bl _,.non=>.ok (.bl false)
  | .Is,.int _,.non=>.ok (.bl false)
  | .Is,.str _,.non=>.ok (.bl false)
  | .Is,.tup _,.non=>.ok (.bl false)
  | .Is,.lst _,.non=>.ok (.bl false)
  | .Is,.obj _ _,.non=>.ok (.bl false)
  | .Is,.bl a,.bl b=>.ok (.bl (a == b))
  | .IsNot,.bl a,.bl b=>.ok (.bl (!(a == b)))
  | .IsNot,.non,.non=>.ok (.bl false)
  | .IsNot,.bl _,.non=>.ok (.bl true)
  | .IsNot,.int _,.non=>.ok (.bl true)
  | .IsNot,.str _,.non=>.ok (.bl true)
  | .IsNot,.tup _,.non=>.ok (.bl true)
  | .IsNot,.lst _,.non=>.ok (.bl true)
  | .IsNot,.obj _ _,.non=>.ok (.bl true)
  | _,_,_=>.bad
noncomputable def Za6:D->R Bool
 | .non=>.ok false
 | .bl b=>.ok b
 | .int i=>.ok (i != 0)
 | .str x=>if Zdo x.length=true then .ok (x.length != 0) else .bad
 | .tup xs=>.ok (!xs.isEmpty)
 | .lst xs=>.ok (!xs.isEmpty)
 | _=>.bad
noncomputable def plD(n:Nat)(i:Int):Option Nat:=if 0<=i then (if i<n then some i.toNat else none) else if -(n:Int)<=i then some (i+n).toNat else none
noncomputable def Zdm(xs:List D)(i:Int):R D:=match plD xs.length i with
  | some k=>match xs[k]? with
    | some d=>.ok d
    | none=>.bad
  | none=>.bad
noncomputable def Zr1(kvs:List (List Int×D))(k:List Int):Option D:=(kvs.find? fun p=>p.1 == k).map (·.2)
noncomputable def Zmo(kvs:List (List Int×D))(k:List Int)(v:D):List (List Int×D):=if (kvs.any fun p=>p.1 == k)=true then kvs.map (fun p=>if (p.1 == k)=true then (k,v) else p) else kvs++[(k,v)]
noncomputable def Zcq:D->D->R D
  | .lst xs,.int i=>Zdm xs i
  | .tup xs,.int i=>Zdm xs i
  | .dic kvs,k=>match (Zma k).bind (Zr1 kvs) with
    | some d=>.ok d
    | none=>.bad
  | _,_=>.bad
noncomputable def ZbE:D->R Int
 | .int i=>.ok i
 | _=>.bad
noncomputable def Zc5:D->R Bool
 | .bl b=>.ok b
 | _=>.bad
noncomputable def ZaF:D->R (List D)
 | .lst xs=>.ok xs
 | .tup xs=>.ok xs
 | _=>.bad
noncomputable def Zlv:D->R (List D)
 | .lst xs=>.ok xs
 | _=>.bad
inductive BI where
 | len|abs|max|min|int|list|tuple|all|any|sum|sorted|str|count|stp
 deriving DecidableEq,Inhabited
inductive Ki where
 | int|bool|str|list|tuple|verr|cls (c:Nat)
 deriving DecidableEq,Inhabited
mutual
inductive E where
 | non|bl (b:Bool)|int (i:Int)|str (x:Str)
 | var (i:Nat)|glob (g:Nat)
 | bin (op:Operator) (a b:E)|un (op:UnaryOp) (a:E)|no (a:E)
 | and (es:Es)|or (es:Es)
 | cmp (op:CmpOp) (a b:E)|cmp2 (op op':CmpOp) (a b c:E)
 | ite (c a b:E)
 | call (f:Nat) (as:Es)|bi (b:BI) (as:Es)
 | isi (a:E) (ks:List Ki)
 | idx (a i:E)|sl (a lo hi:E)
 | tup (es:Es)|lst (es:Es)
 | comp (elt:E) (t:Nat) (it:I) (c:E)|compT (elt:E) (ts:List Nat) (it:I) (c:E)|tupI (it:I)|dnew
 | fld (o:E) (f:Str)
inductive Es where
 | nil|cons (e:E) (es:Es)
inductive I where
 | e (a:E)|rng (a:E)|rng2 (a b:E)|zip (a b:E)|zip3 (a b c:E)|enm (a:E)
end
abbrev Sl:=Option (D×Bool)
abbrev Rho:=List Sl
structure Gam where
 F:Nat->List D->R D
 G:Nat->D
 up:Nat->List Nat
 /-- the defs whose answer is a new list -/
 fr:Nat->Bool
 /-- what is raised: the class,what it is made of -/
 xn:Nat->List D->R Ex
noncomputable def ZcM(lo:Int)(n:Nat):List D:=(List.range n).map fun (k:Nat)=>D.int (lo+(k:Int))
noncomputable def Zaz(lo hi:Int):R (List D):=if (-(4611686018427387904:Int)<=lo/\lo<4611686018427387904)/\(-(4611686018427387904:Int)<=hi/\hi<4611686018427387904)/\hi-lo<1000000 then .ok (ZcM lo (hi-lo).toNat) else .bad
noncomputable def kiD(up:Nat->List Nat):Ki->D->Bool
 | .int,.int _=>true
 | .int,.bl _=>true
 | .bool,.bl _=>true
 | .str,.str _=>true
 | .list,.lst _=>true
 | .tuple,.tup _=>true
 | .cls c,.obj k _=>(up k).contains c
 | .cls c,.exc k _=>(up k).contains c
 | .verr,.exc _ _=>true
 | _,_=>false
noncomputable def ZdR:Ki->Bool
 | .cls _=>true
 | .verr=>true
 | _=>false
noncomputable def Zee(up:Nat->List Nat)(ks:List Ki)(x:D):R D:=match x with
  | .obj _ _=>.bad
  | .exc _ _=>if ks.all ZdR=true then .ok (.bl (ks.any fun k=>kiD up k x)) else .bad
  | .dic _=>.bad
  | _=>if ks.any ZdR=true then .bad else .ok (.bl (ks.any fun k=>kiD up k x))
noncomputable def Zed:D->R Bool
 | .non=>.ok false
 | .bl b=>.ok b
 | .int i=>.ok (i != 0)
 | _=>.bad
noncomputable def Zd8:List D->R Bool
 | []=>.ok true
 | x::r=>(Zed x).bind fun b=>(Zd8 r).bind fun c=>.ok (b&&c)
noncomputable def ZcE:List D->R Bool
 | []=>.ok false
 | x::r=>(Zed x).bind fun b=>(ZcE r).bind fun c=>.ok (b||c)
noncomputable def ZkD:Int->List D->R Int
 | a,[]=>.ok a
 | a,.int i::r=>ZkD (a+i) r
 | _,_=>.bad
noncomputable def Zel:List D->List D->List D
 | x::xs,y::ys=>.tup [x,y]::Zel xs ys
 | _,_=>[]
noncomputable def ZmF:List D->List D->List D->List D
 | x::xs,y::ys,z::zs=>.tup [x,y,z]::ZmF xs ys zs
 | _,_,_=>[]
noncomputable def ZhB(x y z:D):R (List D):=(ZaF x).bind fun xs=>(ZaF y).bind fun ys=>(ZaF z).bind fun zs=>if 0<xs.length/\xs.length<=1000/\ys.length=xs.length/\zs.length=xs.length then .ok (ZmF xs ys zs) else .bad
noncomputable def Zxq:Int->List D->List D
 | _,[]=>[]
 | i,x::xs=>.tup [.int i,x]::Zxq (i+1) xs
noncomputable def nlD:Nat->D->Bool
 | _,.non=>true
 | _,.bl _=>true
 | _,.int _=>true
 | _,.str _=>true
 | n+1,.tup xs=>xs.all (nlD n)
 | _,_=>false
noncomputable def Zgd(fr:Bool):D->Bool
 | .lst ds=>fr&&ds.all (nlD 5)
 | d=>nlD 5 d
noncomputable def Zgy:List D->Option (List Int)
 | []=>some []
 | .int i::r=>(Zgy r).map (i :: ·)
 | _=>none
noncomputable def Zkj(i:Int):List Int->Int
 | []=>i
 | j::r=>Zkj (if j<i then j else i) r
noncomputable def pk2(k n:Nat):List Nat:=(List.range ((n-min k n+1) / 2)).map fun j=>min k n+2*j
noncomputable def Zx4(k:Nat)(xs:List D):List D:=(pk2 k xs.length).filterMap fun i=>xs[i]?
noncomputable def biD:BI->List D->R D
  | .len,[.lst xs]=>.ok (.int xs.length)
  | .len,[.tup xs]=>.ok (.int xs.length)
  | .len,[.str x]=>if Zdo x.length=true then .ok (.int x.length) else .bad
  | .abs,[.int i]=>.ok (.int (if i<0 then -i else i))
  | .max,[.int i,.int j]=>.ok (.int (if i<j then j else i))
  | .min,[.int i,.int j]=>.ok (.int (if j<i then j else i))
  | .min,[.lst xs]=>match Zgy xs with
    | some (i::is)=>.ok (.int (Zkj i is))
    | _=>.bad
  | .int,[.int i]=>.ok (.int i)
  | .int,[.bl b]=>.ok (.int (b2i b))
  | .list,[.lst xs]=>.ok (.lst xs)
  | .list,[.tup xs]=>.ok (.lst xs)
  | .tuple,[.lst xs]=>.ok (.tup xs)
  | .tuple,[.tup xs]=>.ok (.tup xs)
  | .all,[.lst xs]=>(Zd8 xs).bind fun b=>.ok (.bl b)
  | .any,[.lst xs]=>(ZcE xs).bind fun b=>.ok (.bl b)
  | .any,[.tup xs]=>(ZcE xs).bind fun b=>.ok (.bl b)
  | .sum,[.lst xs]=>(ZkD 0 xs).bind fun i=>.ok (.int i)
  | .sum,[.tup xs]=>(ZkD 0 xs).bind fun i=>.ok (.int i)
  | .sorted,[.lst xs]=>(Zbb xs).bind fun ys=>.ok (.lst ys)
  | .count,[.lst xs,x]=>if (flD 5 x&&xs.all (flD 5))=true then .ok (.int ((xs.filter fun y=>eqD y x).length:Nat)) else .bad
  | .len,[.dic kvs]=>.ok (.int kvs.length)
  | .stp,[.lst xs,.int k]=>.ok (.lst (Zx4 k.toNat xs))
  | _,_=>.bad
noncomputable def slE(c:E)(d:D):R (Option Int):=match c with
  | .non=>.ok none
  | _=>(ZbE d).bind fun i=>.ok (some i)
noncomputable def ZkQ(n d:Nat):Option Int->Nat
 | none=>d
 | some i=>if i<0 then (i+n).toNat else min i.toNat n
noncomputable def Zpr(xs:List D)(lo hi:Option Int):List D:=(xs.drop (ZkQ xs.length 0 lo)).take (ZkQ xs.length xs.length hi-ZkQ xs.length 0 lo)
noncomputable def slD:D->Option Int->Option Int->R D
 | .lst xs,l,h=>.ok (.lst (Zpr xs l h))
 | .tup xs,l,h=>if (ZkQ xs.length 0 l == 0&&ZkQ xs.length xs.length h == xs.length)=true then .bad else .ok (.tup (Zpr xs l h))
 | _,_,_=>.bad
noncomputable def ZyI:D->Str->R D
  | .obj _ fs,f=>match fs.lookup f with
    | some d=>.ok d
    | none=>.bad
  | .exc _ fs,f=>match fs.lookup f with
    | some d=>.ok d
    | none=>.bad
  | _,_=>.bad
noncomputable def ZeK(ρ:Rho)(i:Nat):R D:=match ρ[i]? with
  | some (some (d,false))=>.ok d
  | _=>.bad
noncomputable def Zff(ρ:Rho)(i:Nat):R D:=match ρ[i]? with
  | some (some (d,_))=>.ok d
  | _=>.bad
noncomputable def shE(ρ:Rho):E->Bool
  | .var i=>(match ρ[i]? with
    | some (some (_,true))=>false
    | _=>true)
  | _=>true
noncomputable def ZiD(ρ:Rho):Es->Bool
 | .nil=>true
 | .cons e es=>shE ρ e&&ZiD ρ es
noncomputable def ZaO:List Nat->List D->Rho->Option Rho
 | [],[],ρ=>some ρ
 | t::ts,d::ds,ρ=>ZaO ts ds (ρ.set t (some (d,false)))
 | _,_,_=>none
noncomputable def ZbD(ts:List Nat)(d:D)(ρ:Rho):R Rho:=match d with
  | .tup xs=>(match ZaO ts xs ρ with
    | some ρ'=>.ok ρ'
    | none=>.bad)
  | _=>.bad
noncomputable def Zf5(ts:List Nat)(d:D)(ρ:Rho):R Rho:=match d with
  | .lst xs=>(match ZaO ts xs ρ with
    | some ρ'=>.ok ρ'
    | none=>.bad)
  | d=>ZbD ts d ρ
noncomputable def Zam(g:D->R Bool)(f:D->R D):List D->R (List D)
 | []=>.ok []
 | x::xs=>(g x).bind fun b=>if b=true then (f x).bind fun y=>(Zam g f xs).bind fun ys=>.ok (y::ys) else Zam g f xs
noncomputable def noX{α:Type}:R α->R α
 | .ok a=>.ok a
 | _=>.bad
noncomputable def top(ρ:Rho)(e:E)(r:R D):R D:=match e with
  | .var i=>Zff ρ i
  | _=>r
mutual
noncomputable def evE(Γ:Gam)(ρ:Rho):E->R D
 | .non=>.ok .non
 | .bl b=>.ok (.bl b)
 | .int i=>.ok (.int i)
 | .str x=>.ok (.str x)
 | .var i=>ZeK ρ i
 | .glob g=>.ok (Γ.G g)
 | .bin op a b=>(top ρ a (evE Γ ρ a)).bind fun x=>(top ρ b (evE Γ ρ b)).bind fun y=>ZcA op x y
 | .un op a=>(top ρ a (evE Γ ρ a)).bind fun x=>unD op x
 | .no a=>(top ρ a (evE Γ ρ a)).bind fun x=>(Zc5 x).bind fun b=>.ok (.bl (!b))
 | .and es=>evN Γ ρ es
 | .or es=>evO Γ ρ es
 | .cmp op a b=>(top ρ a (evE Γ ρ a)).bind fun x=>(top ρ b (evE Γ ρ b)).bind fun y=>Za7 op x y
 | .cmp2 op op' a b c=>(top ρ a (evE Γ ρ a)).bind fun x=>(top ρ b (evE Γ ρ b)).bind fun y=>(Za7 op x y).bind fun z=>(Zc5 z).bind fun k=>if k=true then (top ρ c (evE Γ ρ c)).bind fun u=>Za7 op' y u else .ok (.bl false)
 | .ite c a b=>(top ρ c (evE Γ ρ c)).bind fun x=>(Za6 x).bind fun k=>if k=true then evE Γ ρ a else evE Γ ρ b
 | .call f as=>(evB Γ ρ as).bind fun xs=>(Γ.F f xs).bind fun d=>if ZiD ρ as=true then .ok d else if Zgd (Γ.fr f) d=true then .ok d else .bad
 | .bi b as=>(evB Γ ρ as).bind fun xs=>biD b xs
 | .isi a ks=>(top ρ a (evE Γ ρ a)).bind fun x=>Zee Γ.up ks x
 | .idx a i=>(top ρ a (evE Γ ρ a)).bind fun x=>(top ρ i (evE Γ ρ i)).bind fun y=>Zcq x y
 | .sl a lo hi=>(top ρ a (evE Γ ρ a)).bind fun x=>(top ρ lo (evE Γ ρ lo)).bind fun l=>(slE lo l).bind fun l'=>(top ρ hi (evE Γ ρ hi)).bind fun h=>(slE hi h).bind fun h'=>slD x l' h'
 | .tup es=>(evA Γ ρ es).bind fun xs=>.ok (.tup xs)
 | .lst es=>(evA Γ ρ es).bind fun xs=>.ok (.lst xs)
 | .comp elt t it c=>(evI Γ ρ it).bind fun xs=>(noX (Zam (fun x=>(top (ρ.set t (some (x,false))) c (evE Γ (ρ.set t (some (x,false))) c)).bind Za6) (fun x=>evE Γ (ρ.set t (some (x,false))) elt) xs)).bind fun ys=>.ok (.lst ys)
 | .compT elt ts it c=>(evI Γ ρ it).bind fun xs=>(noX (Zam (fun x=>(ZbD ts x ρ).bind fun ρ'=>(top ρ' c (evE Γ ρ' c)).bind Za6) (fun x=>(ZbD ts x ρ).bind fun ρ'=>evE Γ ρ' elt) xs)).bind fun ys=>.ok (.lst ys)
 | .tupI it=>(evI Γ ρ it).bind fun xs=>.ok (.tup xs)
 | .dnew=>.ok (.dic [])
 | .fld o f=>(top ρ o (evE Γ ρ o)).bind fun x=>ZyI x f
noncomputable def evN(Γ:Gam)(ρ:Rho):Es->R D
 | .nil=>.bad
 | .cons e .nil=>evE Γ ρ e
 | .cons e (.cons e' es)=>(evE Γ ρ e).bind fun x=>(Zc5 x).bind fun c=>if c=true then evN Γ ρ (.cons e' es) else .ok (.bl false)
noncomputable def evO(Γ:Gam)(ρ:Rho):Es->R D
 | .nil=>.bad
 | .cons e .nil=>evE Γ ρ e
 | .cons e (.cons e' es)=>(evE Γ ρ e).bind fun x=>(Zc5 x).bind fun c=>if c=true then .ok (.bl true) else evO Γ ρ (.cons e' es)
noncomputable def evA(Γ:Gam)(ρ:Rho):Es->R (List D)
 | .nil=>.ok []
 | .cons e es=>(evE Γ ρ e).bind fun x=>(evA Γ ρ es).bind fun xs=>.ok (x::xs)
noncomputable def evB(Γ:Gam)(ρ:Rho):Es->R (List D)
 | .nil=>.ok []
 | .cons e es=>(top ρ e (evE Γ ρ e)).bind fun x=>(evB Γ ρ es).bind fun xs=>.ok (x::xs)
noncomputable def evI(Γ:Gam)(ρ:Rho):I->R (List D)
 | .e a=>(evE Γ ρ a).bind ZaF
 | .rng a=>(top ρ a (evE Γ ρ a)).bind fun x=>(ZbE x).bind fun j=>Zaz 0 j
 | .rng2 a b=>(top ρ a (evE Γ ρ a)).bind fun x=>(top ρ b (evE Γ ρ b)).bind fun y=>(ZbE x).bind fun i=>(ZbE y).bind fun j=>Zaz i j
 | .zip a b=>(evE Γ ρ a).bind fun x=>(evE Γ ρ b).bind fun y=>(ZaF x).bind fun xs=>(ZaF y).bind fun ys=>.ok (Zel xs ys)
 | .zip3 a b c=>(evE Γ ρ a).bind fun x=>(evE Γ ρ b).bind fun y=>(evE Γ ρ c).bind fun z=>ZhB x y z
 | .enm a=>(evE Γ ρ a).bind fun x=>(ZaF x).bind fun xs=>.ok (Zxq 0 xs)
end
noncomputable def Zfd(Γ:Gam):E->Bool
 | .lst _=>true
 | .comp _ _ _ _=>true
 | .compT _ _ _ _=>true
 | .dnew=>true
 | .bin .Add _ _=>true
 | .bi .list _=>true
 | .bi .sorted _=>true
 | .sl _ _ _=>true
 | .call f _=>Γ.fr f
 | _=>false
mutual
inductive S where
 | pass
 /-- x=e;fresh: x alone holds the new list -/
 | asg (i:Nat) (fresh:Bool) (e:E)
 /-- a,b,..=e -/
 | asgT (ts:List Nat) (e:E)
 | expr (e:E)
 | ret (e:E)|retN
 | ife (c:E) (a b:Ss)
 | fors (t:Nat) (it:I) (body:Ss)
 | forT (ts:List Nat) (it:I) (body:Ss)
 | whl (c:E) (body:Ss)
 /-- raise C(e,..) -/
 | rais (c:Nat) (as:Es)
 /-- try: body except C as x: h -/
 | tryx (body:Ss) (c:Nat) (x:Nat) (h:Ss)
 /-- x.append(e),x.extend(e),x.insert(k,e),x.reverse(),x.clear() -/
 | app (i:Nat) (e:E)|ext (i:Nat) (e:E)|ins (i:Nat) (k e:E)|rev (i:Nat)|clr (i:Nat)
 /-- d[k]=e,d.setdefault(k,e) -/
 | dput (i:Nat) (k e:E)|dsd (i:Nat) (k e:E)
 /-- x[k]=e -/
 | put (i:Nat) (k e:E)
 /-- x[k],x[l]=x[l],x[k] -/
 | swp (i k l:Nat)
 | brk|cont
 /-- nothing: from here on x is no longer changed -/
 | rel (i:Nat)
inductive Ss where
 | nil|cons (s:S) (ss:Ss)
end
inductive O where
 | next (ρ:Rho)|ret (d:D) (fr:Bool)|brk (ρ:Rho)|cont (ρ:Rho)|exn (x:Ex) (ρ:Rho)|bad
 deriving Inhabited
noncomputable def O.of{α:Type}(ρ:Rho)(r:R α)(f:α->O):O:=match r with
  | .ok a=>f a
  | .exn x=>.exn x ρ
  | .bad=>.bad
@[simp]theorem O.of_ok{α:Type}(ρ:Rho)(a:α)(f:α->O):O.of ρ (.ok a) f=f a:=rfl
@[simp]theorem O.of_exn{α:Type}(ρ:Rho)(x:Ex)(f:α->O):O.of ρ (.exn x:R α) f=.exn x ρ:=rfl
@[simp]theorem O.of_bad{α:Type}(ρ:Rho)(f:α->O):O.of ρ (.bad:R α) f=.bad:=rfl
noncomputable def Zkl(Γ:Gam)(ρ:Rho)(i:I):R (List D):=evI Γ ρ i
noncomputable def ZcJ(ρ:Rho)(i:Nat):R (List D):=match ρ[i]? with
  | some (some (.lst xs,true))=>.ok xs
  | _=>.bad
noncomputable def Zyk(ρ:Rho)(i:Nat):R (List (List Int×D)):=match ρ[i]? with
  | some (some (.dic xs,true))=>.ok xs
  | _=>.bad
noncomputable def ZsD(d:D):R (List Int):=match Zma d with
  | some k=>.ok k
  | none=>.bad
noncomputable def ZrP:Nat:=4096
noncomputable def O.seq(o:O)(f:Rho->O):O:=match o with
  | .next ρ=>f ρ
  | .ret d b=>.ret d b
  | .brk ρ=>.brk ρ
  | .cont ρ=>.cont ρ
  | .exn x ρ=>.exn x ρ
  | .bad=>.bad
noncomputable def O.turn(o:O)(f:Rho->O):O:=match o with
  | .next ρ=>f ρ
  | .cont ρ=>f ρ
  | .brk ρ=>.next ρ
  | .ret d b=>.ret d b
  | .exn x ρ=>.exn x ρ
  | .bad=>.bad
noncomputable def Zea(body:D->Rho->O):List D->Rho->O
 | [],ρ=>.next ρ
 | x::xs,ρ=>(body x ρ).turn (Zea body xs)
noncomputable def Zt9(c:Rho->R Bool)(body:Rho->O):Nat->Rho->O
 | 0,_=>.bad
 | n+1,ρ=>O.of ρ (c ρ) fun b=>if b=true then (body ρ).turn (Zt9 c body n) else .next ρ
noncomputable def ZdC(ρ:Rho)(k:Nat):R Int:=(ZeK ρ k).bind ZbE
noncomputable def Zta(ρ:Rho)(d:D)(i k l:Nat):O:=match d with
  | .tup [x,y]=>O.of ρ (ZcJ ρ i) fun xs=>O.of ρ (ZdC ρ k) fun a=>O.of ρ (ZdC ρ l) fun b=>match plD xs.length a,plD xs.length b with
    | some m,some n=>.next (ρ.set i (some (.lst ((xs.set m x).set n y),true)))
    | _,_=>.bad
  | _=>.bad
mutual
noncomputable def evS(Γ:Gam)(ρ:Rho):S->O
  | .pass=>.next ρ
  | .asg i fresh e=>O.of ρ (evE Γ ρ e) fun d=>if fresh=true then (if Zfd Γ e=true then (match d with
      | .lst xs=>.next (ρ.set i (some (.lst xs,true)))
      | .dic xs=>.next (ρ.set i (some (.dic xs,true)))
      | _=>.bad) else .bad) else .next (ρ.set i (some (d,false)))
  | .asgT ts e=>O.of ρ (evE Γ ρ e) fun d=>O.of ρ (Zf5 ts d ρ) fun ρ'=>.next ρ'
  | .expr e=>O.of ρ (evE Γ ρ e) fun _=>.next ρ
  | .ret e=>O.of ρ (top ρ e (evE Γ ρ e)) fun d=>.ret d (Zfd Γ e||(match e with | .var i=>(match ρ[i]? with|some (some (_,o))=>o|_=>false)|_=>false))
  | .retN=>.ret .non false
  | .ife c a b=>O.of ρ ((top ρ c (evE Γ ρ c)).bind Za6) fun k=>if k=true then evSs Γ ρ a else evSs Γ ρ b
  | .fors t it body=>O.of ρ (Zkl Γ ρ it) fun xs=>Zea (fun x ρ'=>evSs Γ (ρ'.set t (some (x,false))) body) xs ρ
  | .forT ts it body=>O.of ρ (Zkl Γ ρ it) fun xs=>Zea (fun x ρ'=>O.of ρ' (ZbD ts x ρ') fun ρ''=>evSs Γ ρ'' body) xs ρ
  | .whl c body=>Zt9 (fun ρ'=>(top ρ' c (evE Γ ρ' c)).bind Za6) (fun ρ'=>evSs Γ ρ' body) ZrP ρ
  | .rais c as=>O.of ρ (noX (evA Γ ρ as)) fun xs=>O.of ρ (Γ.xn c xs) fun x=>.exn x ρ
  | .tryx body c x h=>match evSs Γ ρ body with
      | .exn y ρ'=>if (Γ.up y.c).contains c=true then (match evSs Γ (ρ'.set x (some (.exc y.c y.fs,false))) h with
          | .next ρ''=>.next (ρ''.set x none)
          | .ret d f=>.ret d f
          | _=>.bad) else .bad
      | o=>o
  | .app i e=>O.of ρ (ZcJ ρ i) fun xs=>O.of ρ (evE Γ ρ e) fun d=>if Zdo (xs.length+1)=true then .next (ρ.set i (some (.lst (xs++[d]),true))) else .bad
  | .ext i e=>O.of ρ (ZcJ ρ i) fun xs=>O.of ρ (evE Γ ρ e) fun d=>O.of ρ (Zlv d) fun ys=>if Zdo (xs.length+ys.length)=true then .next (ρ.set i (some (.lst (xs++ys),true))) else .bad
  | .ins i k e=>O.of ρ (ZcJ ρ i) fun xs=>O.of ρ ((top ρ k (evE Γ ρ k)).bind ZbE) fun j=>O.of ρ (evE Γ ρ e) fun d=>if (Zdo (xs.length+1)&&decide (0<=j)&&decide (j<=xs.length))=true then .next (ρ.set i (some (.lst (xs.take j.toNat++d::xs.drop j.toNat),true))) else .bad
  | .rev i=>O.of ρ (ZcJ ρ i) fun xs=>.next (ρ.set i (some (.lst xs.reverse,true)))
  | .clr i=>O.of ρ (ZcJ ρ i) fun _=>.next (ρ.set i (some (.lst [],true)))
  | .dput i k e=>O.of ρ (evE Γ ρ e) fun d=>O.of ρ (Zyk ρ i) fun xs=>O.of ρ ((evE Γ ρ k).bind ZsD) fun j=>if Zdo (xs.length+1)=true then .next (ρ.set i (some (.dic (Zmo xs j d),true))) else .bad
  | .dsd i k e=>O.of ρ (Zyk ρ i) fun xs=>O.of ρ ((evE Γ ρ k).bind ZsD) fun j=>O.of ρ (evE Γ ρ e) fun d=>if Zdo (xs.length+1)=true then .next (ρ.set i (some (.dic (if (xs.any fun p=>p.1 == j)=true then xs else Zmo xs j d),true))) else .bad
  | .put i k e=>O.of ρ (evE Γ ρ e) fun d=>O.of ρ (ZcJ ρ i) fun xs=>O.of ρ ((top ρ k (evE Γ ρ k)).bind ZbE) fun j=>match plD xs.length j with
      | some n=>.next (ρ.set i (some (.lst (xs.set n d),true)))
      | none=>.bad
  | .swp i k l=>O.of ρ (evE Γ ρ (.tup (.cons (.idx (.var i) (.var l)) (.cons (.idx (.var i) (.var k)) .nil)))) fun d=>Zta ρ d i k l
  | .brk=>.brk ρ
  | .cont=>.cont ρ
  | .rel i=>match ρ[i]? with
      | some (some (d,true))=>.next (ρ.set i (some (d,false)))
      | _=>.next ρ
noncomputable def evSs(Γ:Gam)(ρ:Rho):Ss->O
 | .nil=>.next ρ
 | .cons s ss=>(evS Γ ρ s).seq fun ρ'=>evSs Γ ρ' ss
end
structure Df where
 n:Nat
 fr:Bool
 body:Ss
noncomputable def Zac(n:Nat)(ds:List D):Rho:=ds.map (fun d=>some (d,false))++List.replicate (n-ds.length) none
noncomputable def isL:D->Bool
 | .lst _=>true
 | .dic _=>true
 | _=>false
noncomputable def O.ans(fr:Bool)(o:O):R D:=match o with
  | .ret d b=>if (fr&&(!b&&isL d))=true then .bad else .ok d
  | .next _=>if fr=true then .bad else .ok .non
  | .exn x _=>.exn x
  | _=>.bad
noncomputable def Df.run(Γ:Gam)(f:Df)(ds:List D):R D:=(evSs Γ (Zac f.n ds) f.body).ans f.fr
structure Prg where
 xs:Bool
 defs:Nat->Df
 G:Nat->D
 up:Nat->List Nat
 xn:Nat->List D->R Ex
noncomputable def ZcU(xs:Bool)(r:R D):R D:=match xs with
  | true=>(match r with
    | .exn x=>if x.fs.isEmpty=true then .exn x else .bad
    | r=>r)
  | false=>noX r
noncomputable def gam(P:Prg):Nat->Gam
 | 0=>⟨fun _ _=>.bad,P.G,P.up,fun i=>(P.defs i).fr,P.xn⟩
 | n+1=>⟨fun i ds=>ZcU P.xs ((P.defs i).run (gam P n) ds),P.G,P.up,fun i=>(P.defs i).fr,P.xn⟩
end Ov
end
section
namespace Ov
open PySem
section
variable (Γ:Gam) (ρ:Rho)
@[simp]theorem Zw9:evE Γ ρ .non=.ok .non:=rfl
@[simp]theorem ZyP(b):evE Γ ρ (.bl b)=.ok (.bl b):=rfl
@[simp]theorem Zxd(b):evE Γ ρ (.int b)=.ok (.int b):=rfl
@[simp]theorem Zw8(b):evE Γ ρ (.str b)=.ok (.str b):=rfl
@[simp]theorem Zw6(i):evE Γ ρ (.var i)=ZeK ρ i:=rfl
@[simp]theorem ZtP(i):evE Γ ρ (.glob i)=.ok (Γ.G i):=rfl
@[simp]theorem Zxg(op a b):evE Γ ρ (.bin op a b)=(top ρ a (evE Γ ρ a)).bind fun x=>(top ρ b (evE Γ ρ b)).bind fun y=>ZcA op x y:=rfl
@[simp]theorem ZyL(op a):evE Γ ρ (.un op a)=(top ρ a (evE Γ ρ a)).bind fun x=>unD op x:=rfl
@[simp]theorem ZyO(a):evE Γ ρ (.no a)=(top ρ a (evE Γ ρ a)).bind fun x=>(Zc5 x).bind fun b=>.ok (.bl (!b)):=rfl
@[simp]theorem Zxh(es):evE Γ ρ (.and es)=evN Γ ρ es:=rfl
@[simp]theorem ZyN(es):evE Γ ρ (.or es)=evO Γ ρ es:=rfl
@[simp]theorem Zw2(e):evN Γ ρ (.cons e .nil)=evE Γ ρ e:=rfl
@[simp]theorem ZtK(e e' es):evN Γ ρ (.cons e (.cons e' es))=(evE Γ ρ e).bind fun x=>(Zc5 x).bind fun c=>if c=true then evN Γ ρ (.cons e' es) else .ok (.bl false):=rfl
@[simp]theorem Zw1(e):evO Γ ρ (.cons e .nil)=evE Γ ρ e:=rfl
@[simp]theorem ZtJ(e e' es):evO Γ ρ (.cons e (.cons e' es))=(evE Γ ρ e).bind fun x=>(Zc5 x).bind fun c=>if c=true then .ok (.bl true) else evO Γ ρ (.cons e' es):=rfl
@[simp]theorem Zou(op a b):evE Γ ρ (.cmp op a b)=(top ρ a (evE Γ ρ a)).bind fun x=>(top ρ b (evE Γ ρ b)).bind fun y=>Za7 op x y:=rfl
@[simp]theorem ZtS(op op' a b c):evE Γ ρ (.cmp2 op op' a b c)=(top ρ a (evE Γ ρ a)).bind fun x=>(top ρ b (evE Γ ρ b)).bind fun y=>(Za7 op x y).bind fun z=>(Zc5 z).bind fun k=>if k=true then (top ρ c (evE Γ ρ c)).bind fun u=>Za7 op' y u else .ok (.bl false):=rfl
@[simp]theorem Zxb(c a b):evE Γ ρ (.ite c a b)=(top ρ c (evE Γ ρ c)).bind fun x=>(Za6 x).bind fun k=>if k=true then evE Γ ρ a else evE Γ ρ b:=rfl
@[simp]theorem ZtT(f as):evE Γ ρ (.call f as)=(evB Γ ρ as).bind fun xs=>(Γ.F f xs).bind fun d=>if ZiD ρ as=true then .ok d else if Zgd (Γ.fr f) d=true then .ok d else .bad:=rfl
@[simp]theorem Zmm(f as):evE Γ ρ (.bi f as)=(evB Γ ρ as).bind fun xs=>biD f xs:=rfl
@[simp]theorem Zxc(a ks):evE Γ ρ (.isi a ks)=(top ρ a (evE Γ ρ a)).bind fun x=>Zee Γ.up ks x:=rfl
@[simp]theorem Zxe(a i):evE Γ ρ (.idx a i)=(top ρ a (evE Γ ρ a)).bind fun x=>(top ρ i (evE Γ ρ i)).bind fun y=>Zcq x y:=rfl
@[simp]theorem ZyM(a lo hi):evE Γ ρ (.sl a lo hi)=(top ρ a (evE Γ ρ a)).bind fun x=>(top ρ lo (evE Γ ρ lo)).bind fun l=>(slE lo l).bind fun l'=>(top ρ hi (evE Γ ρ hi)).bind fun h=>(slE hi h).bind fun h'=>slD x l' h':=rfl
@[simp]theorem Zw7(es):evE Γ ρ (.tup es)=(evA Γ ρ es).bind fun xs=>.ok (.tup xs):=rfl
@[simp]theorem Zxa(es):evE Γ ρ (.lst es)=(evA Γ ρ es).bind fun xs=>.ok (.lst xs):=rfl
noncomputable def cG(Γ:Gam)(ρ:Rho)(t:Nat)(c:E):D->R Bool:=fun x=>(top (ρ.set t (some (x,false))) c (evE Γ (ρ.set t (some (x,false))) c)).bind Za6
noncomputable def cF(Γ:Gam)(ρ:Rho)(t:Nat)(elt:E):D->R D:=fun x=>evE Γ (ρ.set t (some (x,false))) elt
noncomputable def mkL(r:R (List D)):R D:=(noX r).bind fun ys=>.ok (.lst ys)
@[simp]theorem Zyn(ys):mkL (.ok ys)=.ok (.lst ys):=rfl
@[simp]theorem ZtR(elt t it c):evE Γ ρ (.comp elt t it c)=(evI Γ ρ it).bind fun xs=>mkL (Zam (cG Γ ρ t c) (cF Γ ρ t elt) xs):=rfl
noncomputable def cGT(Γ:Gam)(ρ:Rho)(ts:List Nat)(c:E):D->R Bool:=fun x=>(ZbD ts x ρ).bind fun ρ'=>(top ρ' c (evE Γ ρ' c)).bind Za6
noncomputable def cFT(Γ:Gam)(ρ:Rho)(ts:List Nat)(elt:E):D->R D:=fun x=>(ZbD ts x ρ).bind fun ρ'=>evE Γ ρ' elt
@[simp]theorem ZrZ(elt ts it c):evE Γ ρ (.compT elt ts it c)=(evI Γ ρ it).bind fun xs=>mkL (Zam (cGT Γ ρ ts c) (cFT Γ ρ ts elt) xs):=rfl
@[simp]theorem Zlk(it):evE Γ ρ (.tupI it)=(evI Γ ρ it).bind fun xs=>.ok (.tup xs):=rfl
@[simp]theorem ZtQ:evE Γ ρ .dnew=.ok (.dic []):=rfl
@[simp]theorem Zxf(o f):evE Γ ρ (.fld o f)=(top ρ o (evE Γ ρ o)).bind fun x=>ZyI x f:=rfl
@[simp]theorem Zxj:evA Γ ρ .nil=.ok []:=rfl
@[simp]theorem Zhq(e es):evA Γ ρ (.cons e es)=(evE Γ ρ e).bind fun x=>(evA Γ ρ es).bind fun xs=>.ok (x::xs):=rfl
@[simp]theorem Zxi:evB Γ ρ .nil=.ok []:=rfl
@[simp]theorem Ze5(e es):evB Γ ρ (.cons e es)=(top ρ e (evE Γ ρ e)).bind fun x=>(evB Γ ρ es).bind fun xs=>.ok (x::xs):=rfl
@[simp]theorem ZzB(a):evI Γ ρ (.e a)=(evE Γ ρ a).bind ZaF:=rfl
@[simp]theorem Zw4(a):evI Γ ρ (.rng a)=(top ρ a (evE Γ ρ a)).bind fun x=>(ZbE x).bind fun j=>Zaz 0 j:=rfl
@[simp]theorem Zlj(a b):evI Γ ρ (.rng2 a b)=(top ρ a (evE Γ ρ a)).bind fun x=>(top ρ b (evE Γ ρ b)).bind fun y=>(ZbE x).bind fun i=>(ZbE y).bind fun j=>Zaz i j:=rfl
@[simp]theorem Zw3(a b):evI Γ ρ (.zip a b)=(evE Γ ρ a).bind fun x=>(evE Γ ρ b).bind fun y=>(ZaF x).bind fun xs=>(ZaF y).bind fun ys=>.ok (Zel xs ys):=rfl
@[simp]theorem ZtO(a b c):evI Γ ρ (.zip3 a b c)=(evE Γ ρ a).bind fun x=>(evE Γ ρ b).bind fun y=>(evE Γ ρ c).bind fun z=>ZhB x y z:=rfl
@[simp]theorem Zw5(a):evI Γ ρ (.enm a)=(evE Γ ρ a).bind fun x=>(ZaF x).bind fun xs=>.ok (Zxq 0 xs):=rfl
@[simp]theorem ZtL(a b):Zkl Γ ρ (.zip a b)=evI Γ ρ (.zip a b):=rfl
@[simp]theorem ZrX(a b c):Zkl Γ ρ (.zip3 a b c)=evI Γ ρ (.zip3 a b c):=rfl
@[simp]theorem ZtN(a):Zkl Γ ρ (.enm a)=evI Γ ρ (.enm a):=rfl
@[simp]theorem ZyK(a):Zkl Γ ρ (.e a)=(evE Γ ρ a).bind ZaF:=rfl
@[simp]theorem ZtM(a):Zkl Γ ρ (.rng a)=evI Γ ρ (.rng a):=rfl
@[simp]theorem ZrY(a b):Zkl Γ ρ (.rng2 a b)=evI Γ ρ (.rng2 a b):=rfl
variable (r:R D)
@[simp]theorem Zug(i):top ρ (.var i) r=Zff ρ i:=rfl
@[simp]theorem Zuj:top ρ .non r=r:=rfl
@[simp]theorem ZxY(b):top ρ (.bl b) r=r:=rfl
@[simp]theorem Zun(b):top ρ (.int b) r=r:=rfl
@[simp]theorem Zui(b):top ρ (.str b) r=r:=rfl
@[simp]theorem Zs4(b):top ρ (.glob b) r=r:=rfl
@[simp]theorem Zur(op a b):top ρ (.bin op a b) r=r:=rfl
@[simp]theorem ZxU(op a):top ρ (.un op a) r=r:=rfl
@[simp]theorem ZxX(a):top ρ (.no a) r=r:=rfl
@[simp]theorem Zus(a):top ρ (.and a) r=r:=rfl
@[simp]theorem ZxW(a):top ρ (.or a) r=r:=rfl
@[simp]theorem Zuq(op a b):top ρ (.cmp op a b) r=r:=rfl
@[simp]theorem Zs7(op op' a b c):top ρ (.cmp2 op op' a b c) r=r:=rfl
@[simp]theorem Zul(a b c):top ρ (.ite a b c) r=r:=rfl
@[simp]theorem Zs8(a b):top ρ (.call a b) r=r:=rfl
@[simp]theorem ZxZ(a b):top ρ (.bi a b) r=r:=rfl
@[simp]theorem Zum(a b):top ρ (.isi a b) r=r:=rfl
@[simp]theorem Zuo(a b):top ρ (.idx a b) r=r:=rfl
@[simp]theorem ZxV(a b c):top ρ (.sl a b c) r=r:=rfl
@[simp]theorem Zuh(a):top ρ (.tup a) r=r:=rfl
@[simp]theorem Zuk(a):top ρ (.lst a) r=r:=rfl
@[simp]theorem Zs6(a b c d):top ρ (.comp a b c d) r=r:=rfl
@[simp]theorem Zup(a b):top ρ (.fld a b) r=r:=rfl
@[simp]theorem ZpF(a b c d):top ρ (.compT a b c d) r=r:=rfl
@[simp]theorem ZkB(a):top ρ (.tupI a) r=r:=rfl
@[simp]theorem Zs5:top ρ .dnew r=r:=rfl
end
@[simp]theorem Zpw(x:D×Bool)(ρ:Rho):Zff (some x::ρ) 0=.ok x.1:=rfl
@[simp]theorem Zpx(x:D)(ρ:Rho):ZeK (some (x,false)::ρ) 0=.ok x:=rfl
@[simp]theorem Zpd(x:Sl)(ρ:Rho)(i:Nat)[NeZero i]:Zff (x::ρ) i=Zff ρ (i-1):=by
 obtain⟨j,rfl⟩:∃ j,i=j+1:=⟨i-1,by have:=NeZero.ne i;omega⟩
 rfl
@[simp]theorem Zpe(x:Sl)(ρ:Rho)(i:Nat)[NeZero i]:ZeK (x::ρ) i=ZeK ρ (i-1):=by
 obtain⟨j,rfl⟩:∃ j,i=j+1:=⟨i-1,by have:=NeZero.ne i;omega⟩
 rfl
noncomputable def shV(ρ:Rho)(i:Nat):Bool:=match ρ[i]? with
    | some (some (_,true))=>false
    | _=>true
@[simp]theorem Ztd(x:D)(b:Bool)(ρ:Rho):shV (some (x,b)::ρ) 0=!b:=by cases b<;>rfl
@[simp]theorem Zp5(ρ:Rho):shV (none::ρ) 0=true:=rfl
@[simp]theorem Zp6(x:Sl)(ρ:Rho)(i:Nat)[NeZero i]:shV (x::ρ) i=shV ρ (i-1):=by
 obtain⟨j,rfl⟩:∃ j,i=j+1:=⟨i-1,by have:=NeZero.ne i;omega⟩
 rfl
section
variable (ρ:Rho)
@[simp]theorem ZuU(i):shE ρ (.var i)=shV ρ i:=rfl
@[simp]theorem ZuX:shE ρ .non=true:=rfl
@[simp]theorem Zyb(b):shE ρ (.bl b)=true:=rfl
@[simp]theorem Zu1(b):shE ρ (.int b)=true:=rfl
@[simp]theorem ZuW(b):shE ρ (.str b)=true:=rfl
@[simp]theorem Ztg(b):shE ρ (.glob b)=true:=rfl
@[simp]theorem Zu5(op a b):shE ρ (.bin op a b)=true:=rfl
@[simp]theorem Zx7(op a):shE ρ (.un op a)=true:=rfl
@[simp]theorem Zya(a):shE ρ (.no a)=true:=rfl
@[simp]theorem Zu6(a):shE ρ (.and a)=true:=rfl
@[simp]theorem Zx9(a):shE ρ (.or a)=true:=rfl
@[simp]theorem Zu4(op a b):shE ρ (.cmp op a b)=true:=rfl
@[simp]theorem Ztj(op op' a b c):shE ρ (.cmp2 op op' a b c)=true:=rfl
@[simp]theorem ZuZ(a b c):shE ρ (.ite a b c)=true:=rfl
@[simp]theorem Ztk(a b):shE ρ (.call a b)=true:=rfl
@[simp]theorem Zyc(a b):shE ρ (.bi a b)=true:=rfl
@[simp]theorem Zu0(a b):shE ρ (.isi a b)=true:=rfl
@[simp]theorem Zu2(a b):shE ρ (.idx a b)=true:=rfl
@[simp]theorem Zx8(a b c):shE ρ (.sl a b c)=true:=rfl
@[simp]theorem ZuV(a):shE ρ (.tup a)=true:=rfl
@[simp]theorem ZuY(a):shE ρ (.lst a)=true:=rfl
@[simp]theorem Zti(a b c d):shE ρ (.comp a b c d)=true:=rfl
@[simp]theorem Zp7(a b c d):shE ρ (.compT a b c d)=true:=rfl
@[simp]theorem Ztf(a):shE ρ (.tupI a)=true:=rfl
@[simp]theorem Zth:shE ρ .dnew=true:=rfl
@[simp]theorem Zu3(a b):shE ρ (.fld a b)=true:=rfl
@[simp]theorem Zte:ZiD ρ .nil=true:=rfl
@[simp]theorem ZiC(e es):ZiD ρ (.cons e es)=(shE ρ e&&ZiD ρ es):=rfl
end
@[simp]theorem Zpg(ρ:Rho):ZaO [] [] ρ=some ρ:=rfl
@[simp]theorem Zna(t ts d ds)(ρ:Rho):ZaO (t::ts) (d::ds) ρ=ZaO ts ds (ρ.set t (some (d,false))):=rfl
@[simp]theorem Zj2(ts ds)(ρ:Rho):Zf5 ts (.lst ds) ρ=match ZaO ts ds ρ with
  | some ρ'=>.ok ρ'
  | none=>.bad:=rfl
@[simp]theorem Zsz(ts ds)(ρ:Rho):Zf5 ts (.tup ds) ρ=ZbD ts (.tup ds) ρ:=rfl
@[simp]theorem ZeA(ts ds)(ρ:Rho):ZbD ts (.tup ds) ρ=match ZaO ts ds ρ with
  | some ρ'=>.ok ρ'
  | none=>.bad:=rfl
@[simp]theorem Zt1{α β:Type}(c:Prop)[Decidable c](a b:R α)(f:α->R β):(if c then a else b).bind f=if c then a.bind f else b.bind f:=by split<;>rfl
@[simp]theorem Zym{α:Type}(ρ:Rho)(c:Prop)[Decidable c](a b:R α)(f:α->O):O.of ρ (if c then a else b) f=if c then O.of ρ a f else O.of ρ b f:=by split<;>rfl
@[simp]theorem Zwf{α β:Type}(ρ:Rho)(a:R α)(g:α->R β)(f:β->O):O.of ρ (a.bind g) f=O.of ρ a fun x=>O.of ρ (g x) f:=by cases a<;>rfl
@[simp]theorem Zu8(c:Prop)[Decidable c](a b:O)(f:Rho->O):O.seq (if c then a else b) f=if c then a.seq f else b.seq f:=by split<;>rfl
@[simp]theorem ZsU(c:Prop)[Decidable c](a b:O)(f:Rho->O):O.turn (if c then a else b) f=if c then a.turn f else b.turn f:=by split<;>rfl
@[simp]theorem ZxJ(fr:Bool)(c:Prop)[Decidable c](a b:O):O.ans fr (if c then a else b)=if c then a.ans fr else b.ans fr:=by split<;>rfl
@[simp]theorem Ztl(ρ f):O.seq (.next ρ) f=f ρ:=rfl
@[simp]theorem Zu7(d b f):O.seq (.ret d b) f=.ret d b:=rfl
@[simp]theorem Zva(ρ f):O.seq (.brk ρ) f=.brk ρ:=rfl
@[simp]theorem Ztm(ρ f):O.seq (.cont ρ) f=.cont ρ:=rfl
@[simp]theorem Zu9(x ρ f):O.seq (.exn x ρ) f=.exn x ρ:=rfl
@[simp]theorem Zvb(f):O.seq .bad f=.bad:=rfl
@[simp]theorem ZpA(ρ f):O.turn (.next ρ) f=f ρ:=rfl
@[simp]theorem ZsT(d b f):O.turn (.ret d b) f=.ret d b:=rfl
@[simp]theorem ZsW(ρ f):O.turn (.brk ρ) f=.next ρ:=rfl
@[simp]theorem ZpB(ρ f):O.turn (.cont ρ) f=f ρ:=rfl
@[simp]theorem ZsV(x ρ f):O.turn (.exn x ρ) f=.exn x ρ:=rfl
@[simp]theorem ZsX(f):O.turn .bad f=.bad:=rfl
@[simp]theorem Zt5(ρ):O.ans false (.next ρ)=.ok .non:=rfl
@[simp]theorem ZxI(d b):O.ans false (.ret d b)=.ok d:=rfl
@[simp]theorem Zt4(d b):O.ans true (.ret d b)=if (!b&&isL d)=true then .bad else .ok d:=rfl
@[simp]theorem ZwC(d):isL (.lst d)=true:=rfl
@[simp]theorem ZwB(d):isL (.tup d)=false:=rfl
@[simp]theorem ZwD(d):isL (.int d)=false:=rfl
@[simp]theorem ZxK(fr x ρ):O.ans fr (.exn x ρ)=.exn x:=rfl
@[simp]theorem ZxL(fr):O.ans fr .bad=.bad:=rfl
@[simp]theorem ZyW(i j:Int):ZcA .Add (.int i) (.int j)=.ok (.int (i+j)):=rfl
@[simp]theorem Zx2(i j:Int):ZcA .Sub (.int i) (.int j)=.ok (.int (i-j)):=rfl
@[simp]theorem Zro(i j:Int):ZcA .Mult (.int i) (.int j)=if (Zbh i j||ZcB i j)=true then .ok (.int (i*j)) else .bad:=rfl
@[simp]theorem Zoq(i j:Int):ZcA .FloorDiv (.int i) (.int j)=if 0<j/\j<1073741824 then .ok (.int (i / j)) else .bad:=rfl
@[simp]theorem Zrp(i j:Int):ZcA .Mod (.int i) (.int j)=if 0<j then .ok (.int (i%j)) else .bad:=rfl
@[simp]theorem ZqW(i j:Int):ZcA .Pow (.int i) (.int j)=if (0<=j/\j<=1000000)/\(-(18446744073709551616:Int)<i/\i<18446744073709551616) then .ok (.int (i ^ j.toNat)) else .bad:=rfl
@[simp]theorem ZsM(x y:Str):ZcA .Add (.str x) (.str y)=if Zdo (x.length+y.length)=true then .ok (.str (x++y)) else .bad:=rfl
@[simp]theorem Zj8(x y:List D):ZcA .Add (.lst x) (.lst y)=if Zdo (x.length+y.length)=true then .ok (.lst (x++y)) else .bad:=rfl
@[simp]theorem ZsL(x y:List D):ZcA .Add (.tup x) (.tup y)=if (!x.isEmpty&&Zdo (x.length+y.length))=true then .ok (.tup (x++y)) else .bad:=rfl
@[simp]theorem Zzl(i:Int):unD .USub (.int i)=.ok (.int (-i)):=rfl
@[simp]theorem Zxk(x y:D):Za7 .Eq x y=if (flD 5 x&&flD 5 y)=true then .ok (.bl (eqD x y)) else .bad:=rfl
@[simp]theorem Zwn(x y:D):Za7 .NotEq x y=if (flD 5 x&&flD 5 y)=true then .ok (.bl (!eqD x y)) else .bad:=rfl
@[simp]theorem Zzm(i j:Int):Za7 .Lt (.int i) (.int j)=.ok (.bl (decide (i<j))):=rfl
@[simp]theorem Zzp(i j:Int):Za7 .LtE (.int i) (.int j)=.ok (.bl (decide (i<=j))):=rfl
@[simp]theorem Zzy(i j:Int):Za7 .Gt (.int i) (.int j)=.ok (.bl (decide (j<i))):=rfl
@[simp]theorem Zzz(i j:Int):Za7 .GtE (.int i) (.int j)=.ok (.bl (decide (j<=i))):=rfl
@[simp]theorem Zzw(x:D)(ys:List D):Za7 .In x (.lst ys)=if (flD 5 x&&ys.all (flD 5))=true then .ok (.bl (ys.any fun y=>eqD y x)) else .bad:=rfl
@[simp]theorem Zzv(x:D)(ys:List D):Za7 .In x (.tup ys)=if (flD 5 x&&ys.all (flD 5))=true then .ok (.bl (ys.any fun y=>eqD y x)) else .bad:=rfl
@[simp]theorem Zwk(x:D)(ys:List D):Za7 .NotIn x (.lst ys)=if (flD 5 x&&ys.all (flD 5))=true then .ok (.bl (!ys.any fun y=>eqD y x)) else .bad:=rfl
@[simp]theorem Zwj(x:D)(ys:List D):Za7 .NotIn x (.tup ys)=if (flD 5 x&&ys.all (flD 5))=true then .ok (.bl (!ys.any fun y=>eqD y x)) else .bad:=rfl
@[simp]theorem Zyw:Za7 .Is .non .non=.ok (.bl true):=rfl
@[simp]theorem Zyy(i):Za7 .Is (.int i) .non=.ok (.bl false):=rfl
@[simp]theorem Zyv(i):Za7 .Is (.tup i) .non=.ok (.bl false):=rfl
@[simp]theorem Zyx(i):Za7 .Is (.lst i) .non=.ok (.bl false):=rfl
@[simp]theorem Zzs(a b):Za7 .Is (.bl a) (.bl b)=.ok (.bl (a == b)):=rfl
@[simp]theorem Zyt(a b):Za7 .IsNot (.bl a) (.bl b)=.ok (.bl (!(a == b))):=rfl
@[simp]theorem Zwr:Za7 .IsNot .non .non=.ok (.bl false):=rfl
@[simp]theorem Zwt(i):Za7 .IsNot (.int i) .non=.ok (.bl true):=rfl
@[simp]theorem Zwq(i):Za7 .IsNot (.tup i) .non=.ok (.bl true):=rfl
@[simp]theorem Zws(i):Za7 .IsNot (.lst i) .non=.ok (.bl true):=rfl
@[simp]theorem Zxp(i j:Int):eqD (.int i) (.int j)=(i == j):=rfl
@[simp]theorem ZyQ(i j:Bool):eqD (.bl i) (.bl j)=(i == j):=rfl
@[simp]theorem Zxm(i j:Str):eqD (.str i) (.str j)=(i == j):=rfl
@[simp]theorem Zxl(i j:List D):eqD (.tup i) (.tup j)=eqDs i j:=rfl
@[simp]theorem Zxo(i j:List D):eqD (.lst i) (.lst j)=eqDs i j:=rfl
@[simp]theorem Zxn:eqD .non .non=true:=rfl
@[simp]theorem Zov(i):eqD .non (.int i)=false:=rfl
@[simp]theorem Zow(i):eqD (.int i) .non=false:=rfl
@[simp]theorem ZtU:eqDs [] []=true:=rfl
@[simp]theorem ZdJ(x y:D)(xs ys:List D):eqDs (x::xs) (y::ys)=(eqD x y&&eqDs xs ys):=rfl
@[simp]theorem ZwR(n)(i:Int):flD n (.int i)=true:=by cases n<;>rfl
@[simp]theorem ZyJ(n)(i:Bool):flD n (.bl i)=true:=by cases n<;>rfl
@[simp]theorem ZwP(n)(i:Str):flD n (.str i)=true:=by cases n<;>rfl
@[simp]theorem ZwQ(n):flD n .non=true:=by cases n<;>rfl
@[simp]theorem Ztq(i):flD 5 (.tup i)=i.all (flD 4):=rfl
@[simp]theorem Ztv(i):flD 5 (.lst i)=i.all (flD 4):=rfl
@[simp]theorem Ztr(i):flD 4 (.tup i)=i.all (flD 3):=rfl
@[simp]theorem Ztw(i):flD 4 (.lst i)=i.all (flD 3):=rfl
@[simp]theorem Zts(i):flD 3 (.tup i)=i.all (flD 2):=rfl
@[simp]theorem Ztx(i):flD 3 (.lst i)=i.all (flD 2):=rfl
@[simp]theorem Ztt(i):flD 2 (.tup i)=i.all (flD 1):=rfl
@[simp]theorem Zty(i):flD 2 (.lst i)=i.all (flD 1):=rfl
@[simp]theorem Ztu(i):flD 1 (.tup i)=i.all (flD 0):=rfl
@[simp]theorem Ztz(i):flD 1 (.lst i)=i.all (flD 0):=rfl
@[simp]theorem Zue(b):Za6 (.bl b)=.ok b:=rfl
@[simp]theorem Zs1(i):Za6 (.int i)=.ok (i != 0):=rfl
@[simp]theorem Zs0(i):Za6 (.lst i)=.ok (!i.isEmpty):=rfl
@[simp]theorem ZsY(i):Za6 (.tup i)=.ok (!i.isEmpty):=rfl
@[simp]theorem ZsZ:Za6 .non=.ok false:=rfl
@[simp]theorem Zuf(b):Zed (.bl b)=.ok b:=rfl
@[simp]theorem Zs3(i):Zed (.int i)=.ok (i != 0):=rfl
@[simp]theorem Zs2:Zed .non=.ok false:=rfl
@[simp]theorem ZsK:Zd8 []=.ok true:=rfl
@[simp]theorem ZeE(x r):Zd8 (x::r)=(Zed x).bind fun b=>(Zd8 r).bind fun c=>.ok (b&&c):=rfl
@[simp]theorem ZsJ:ZcE []=.ok false:=rfl
@[simp]theorem ZeD(x r):ZcE (x::r)=(Zed x).bind fun b=>(ZcE r).bind fun c=>.ok (b||c):=rfl
@[simp]theorem Zxy(b)(d):ZcU b (.ok d)=.ok d:=by cases b<;>rfl
@[simp]theorem ZtW(b):ZcU b .bad=.bad:=by cases b<;>rfl
@[simp]theorem ZtV(c):ZcU true (.exn ⟨c,[]⟩)=.exn ⟨c,[]⟩:=rfl
@[simp]theorem Zpq(r):ZcU false r=noX r:=rfl
@[simp]theorem Zwg{α:Type}(a:α):noX (.ok a)=.ok a:=rfl
@[simp]theorem Zwi{α:Type}:noX (.bad:R α)=.bad:=rfl
@[simp]theorem Zwh{α:Type}(x):noX (.exn x:R α)=.bad:=rfl
@[simp]theorem ZxG(b):Zc5 (.bl b)=.ok b:=rfl
@[simp]theorem Zj5(b):ZbE (.int b)=.ok b:=rfl
@[simp]theorem Zj3(b):Zlv (.lst b)=.ok b:=rfl
@[simp]theorem ZsC(b):ZaF (.lst b)=.ok b:=rfl
@[simp]theorem ZsB(b):ZaF (.tup b)=.ok b:=rfl
@[simp]theorem ZwG(xs i):Zcq (.lst xs) (.int i)=Zdm xs i:=rfl
@[simp]theorem ZwF(xs i):Zcq (.tup xs) (.int i)=Zdm xs i:=rfl
@[simp]theorem Zzo(xs):biD .len [.lst xs]=.ok (.int xs.length):=rfl
@[simp]theorem Zzn(xs):biD .len [.tup xs]=.ok (.int xs.length):=rfl
@[simp]theorem ZzG(i):biD .abs [.int i]=.ok (.int (if i<0 then -i else i)):=rfl
@[simp]theorem Zyp(i j):biD .max [.int i,.int j]=.ok (.int (if i<j then j else i)):=rfl
@[simp]theorem Zyo(i j):biD .min [.int i,.int j]=.ok (.int (if j<i then j else i)):=rfl
@[simp]theorem Zzt(i):biD .int [.int i]=.ok (.int i):=rfl
@[simp]theorem Zzu(i):biD .int [.bl i]=.ok (.int (b2i i)):=rfl
@[simp]theorem Zyr(i):biD .list [.lst i]=.ok (.lst i):=rfl
@[simp]theorem Zrv(i):biD .list [.tup i]=.ok (.lst i):=rfl
@[simp]theorem Zud(i):biD .tuple [.lst i]=.ok (.tup i):=rfl
@[simp]theorem Zuc(i):biD .tuple [.tup i]=.ok (.tup i):=rfl
@[simp]theorem ZxM(i):biD .all [.lst i]=(Zd8 i).bind fun b=>.ok (.bl b):=rfl
@[simp]theorem ZzF(i):biD .any [.lst i]=(ZcE i).bind fun b=>.ok (.bl b):=rfl
@[simp]theorem ZzE(i):biD .any [.tup i]=(ZcE i).bind fun b=>.ok (.bl b):=rfl
@[simp]theorem Zzf(i):biD .sum [.lst i]=(ZkD 0 i).bind fun b=>.ok (.int b):=rfl
@[simp]theorem Zze(i):biD .sum [.tup i]=(ZkD 0 i).bind fun b=>.ok (.int b):=rfl
@[simp]theorem Ztb(i):biD .sorted [.lst i]=(Zbb i).bind fun b=>.ok (.lst b):=rfl
@[simp]theorem Zzg(xs k):biD .stp [.lst xs,.int k]=.ok (.lst (Zx4 k.toNat xs)):=rfl
@[simp]theorem Zxz(xs x):biD .count [.lst xs,x]=if (flD 5 x&&xs.all (flD 5))=true then .ok (.int ((xs.filter fun y=>eqD y x).length:Nat)) else .bad:=rfl
@[simp]theorem Zzi(xs lo hi):slD (.tup xs) lo hi=if (ZkQ xs.length 0 lo == 0&&ZkQ xs.length xs.length hi == xs.length)=true then .bad else .ok (.tup (Zpr xs lo hi)):=rfl
@[simp]theorem ZzO(xs lo hi):slD (.lst xs) lo hi=.ok (.lst (Zpr xs lo hi)):=rfl
@[simp]theorem ZuQ(d):slE .non d=.ok none:=rfl
@[simp]theorem ZuR(k i):slE (.int k) (.int i)=.ok (some i):=rfl
@[simp]theorem ZuP(k i):slE (.var k) (.int i)=.ok (some i):=rfl
@[simp]theorem ZuS(op a b i):slE (.bin op a b) (.int i)=.ok (some i):=rfl
@[simp]theorem Zx5(op a i):slE (.un op a) (.int i)=.ok (some i):=rfl
@[simp]theorem Zx6(b as i):slE (.bi b as) (.int i)=.ok (some i):=rfl
@[simp]theorem Zww(up ks):Zee up ks .non=if ks.any ZdR=true then .bad else .ok (.bl (ks.any fun k=>kiD up k .non)):=rfl
@[simp]theorem Zyu(up ks b):Zee up ks (.bl b)=if ks.any ZdR=true then .bad else .ok (.bl (ks.any fun k=>kiD up k (.bl b))):=rfl
@[simp]theorem Zwy(up ks b):Zee up ks (.int b)=if ks.any ZdR=true then .bad else .ok (.bl (ks.any fun k=>kiD up k (.int b))):=rfl
@[simp]theorem Zwv(up ks b):Zee up ks (.str b)=if ks.any ZdR=true then .bad else .ok (.bl (ks.any fun k=>kiD up k (.str b))):=rfl
@[simp]theorem Zwu(up ks b):Zee up ks (.tup b)=if ks.any ZdR=true then .bad else .ok (.bl (ks.any fun k=>kiD up k (.tup b))):=rfl
@[simp]theorem Zwx(up ks b):Zee up ks (.lst b)=if ks.any ZdR=true then .bad else .ok (.bl (ks.any fun k=>kiD up k (.lst b))):=rfl
@[simp]theorem Zwz(up ks c f):Zee up ks (.exc c f)=if ks.all ZdR=true then .ok (.bl (ks.any fun k=>kiD up k (.exc c f))) else .bad:=rfl
@[simp]theorem Zt0(c):ZdR (.cls c)=true:=rfl
@[simp]theorem Zsa:ZdR .verr=true:=rfl
@[simp]theorem ZtZ:ZdR .int=false:=rfl
@[simp]theorem Zsc:ZdR .bool=false:=rfl
@[simp]theorem ZtY:ZdR .str=false:=rfl
@[simp]theorem Zsb:ZdR .list=false:=rfl
@[simp]theorem Zps:ZdR .tuple=false:=rfl
@[simp]theorem Zpl(up i):kiD up .int (.int i)=true:=rfl
@[simp]theorem Zpk(up):kiD up .int .non=false:=rfl
@[simp]theorem Zoa(up i):kiD up .bool (.int i)=false:=rfl
@[simp]theorem Zpj(up i):kiD up .int (.tup i)=false:=rfl
@[simp]theorem Zpn(up i):kiD up .bool (.bl i)=true:=rfl
@[simp]theorem Zn9(up):kiD up .bool .non=false:=rfl
@[simp]theorem Zn8(up i):kiD up .list (.lst i)=true:=rfl
@[simp]theorem Zl8(up i):kiD up .tuple (.tup i)=true:=rfl
@[simp]theorem Zl9(up):kiD up .tuple .non=false:=rfl
@[simp]theorem Zpm(up c k f):kiD up (.cls c) (.exc k f)=(up k).contains c:=rfl
@[simp]theorem Zn7(up k f):kiD up .verr (.exc k f)=true:=rfl
theorem Ze2{xs:List D}{i:Int}{d:D}(h0:0<=i)(h:xs[i.toNat]?=some d):Zdm xs i=.ok d:=by
 unfold Zdm plD
 obtain⟨h1,_⟩:=List.getElem?_eq_some_iff.mp h
 rw[if_pos h0,if_pos (by omega)]
 dsimp only
 rw[h]
section
variable (Γ:Gam) (ρ:Rho)
@[simp]theorem ZtA:evSs Γ ρ .nil=.next ρ:=rfl
noncomputable def Zgz(Γ:Gam)(ss:Ss)(o:O):O:=o.seq fun ρ'=>evSs Γ ρ' ss
@[simp]theorem ZrV(s ss):evSs Γ ρ (.cons s ss)=Zgz Γ ss (evS Γ ρ s):=rfl
@[simp]theorem ZwL(ss):Zgz Γ ss (.next ρ)=evSs Γ ρ ss:=rfl
@[simp]theorem ZyA(ss d b):Zgz Γ ss (.ret d b)=.ret d b:=rfl
@[simp]theorem ZyE(ss):Zgz Γ ss (.brk ρ)=.brk ρ:=rfl
@[simp]theorem ZwM(ss):Zgz Γ ss (.cont ρ)=.cont ρ:=rfl
@[simp]theorem ZyD(ss x):Zgz Γ ss (.exn x ρ)=.exn x ρ:=rfl
@[simp]theorem ZyF(ss):Zgz Γ ss .bad=.bad:=rfl
@[simp]theorem ZyC(ss)(c:Prop)[Decidable c](a b:O):Zgz Γ ss (if c then a else b)=if c then Zgz Γ ss a else Zgz Γ ss b:=by split<;>rfl
@[simp]theorem ZyB(o:O):Zgz Γ .nil o=o:=by cases o<;>rfl
noncomputable def Zeg(Γ:Gam)(t:Nat)(body:Ss):D->Rho->O:=fun x ρ'=>evSs Γ (ρ'.set t (some (x,false))) body
noncomputable def whC(Γ:Gam)(c:E):Rho->R Bool:=fun ρ'=>(top ρ' c (evE Γ ρ' c)).bind Za6
noncomputable def whB(Γ:Gam)(body:Ss):Rho->O:=fun ρ'=>evSs Γ ρ' body
noncomputable def ZyH(Γ:Gam)(t:Nat)(body:Ss)(ρ:Rho)(r:R (List D)):O:=O.of ρ r fun xs=>Zea (Zeg Γ t body) xs ρ
@[simp]theorem ZwO(t body xs):ZyH Γ t body ρ (.ok xs)=Zea (Zeg Γ t body) xs ρ:=rfl
@[simp]theorem ZtD:evS Γ ρ .pass=.next ρ:=rfl
@[simp]theorem ZwZ(i e):evS Γ ρ (.asg i false e)=O.of ρ (evE Γ ρ e) fun d=>.next (ρ.set i (some (d,false))):=rfl
@[simp]theorem ZtG(e):evS Γ ρ (.expr e)=O.of ρ (evE Γ ρ e) fun _=>.next ρ:=rfl
@[simp]theorem ZwU(e):evS Γ ρ (.ret e)=O.of ρ (top ρ e (evE Γ ρ e)) fun d=>.ret d (Zfd Γ e||(match e with | .var i=>(match ρ[i]? with|some (some (_,o))=>o|_=>false)|_=>false)):=rfl
@[simp]theorem ZtB:evS Γ ρ .retN=.ret .non false:=rfl
@[simp]theorem ZwV(c a b):evS Γ ρ (.ife c a b)=O.of ρ ((top ρ c (evE Γ ρ c)).bind Za6) fun k=>if k=true then evSs Γ ρ a else evSs Γ ρ b:=rfl
@[simp]theorem ZtE(t it body):evS Γ ρ (.fors t it body)=ZyH Γ t body ρ (Zkl Γ ρ it):=rfl
noncomputable def Zoo(Γ:Gam)(ts:List Nat)(body:Ss):D->Rho->O:=fun x ρ'=>O.of ρ' (ZbD ts x ρ') fun ρ''=>evSs Γ ρ'' body
noncomputable def ZrQ(Γ:Gam)(ts:List Nat)(body:Ss)(ρ:Rho)(r:R (List D)):O:=O.of ρ r fun xs=>Zea (Zoo Γ ts body) xs ρ
@[simp]theorem Ztp(t body xs):ZrQ Γ t body ρ (.ok xs)=Zea (Zoo Γ t body) xs ρ:=rfl
@[simp]theorem ZtF(t it body):evS Γ ρ (.forT t it body)=ZrQ Γ t body ρ (Zkl Γ ρ it):=rfl
@[simp]theorem ZtI(ts e):evS Γ ρ (.asgT ts e)=O.of ρ (evE Γ ρ e) fun d=>O.of ρ (Zf5 ts d ρ) fun ρ'=>.next ρ':=rfl
theorem Zli(i e):evS Γ ρ (.asg i true e)=O.of ρ (evE Γ ρ e) fun d=>if Zfd Γ e=true then (match d with
      | .lst xs=>.next (ρ.set i (some (.lst xs,true)))
      | .dic xs=>.next (ρ.set i (some (.dic xs,true)))
      | _=>.bad) else .bad:=rfl
noncomputable def setF(ρ:Rho)(i:Nat):D->O
 | .lst xs=>.next (ρ.set i (some (.lst xs,true)))
 | .dic xs=>.next (ρ.set i (some (.dic xs,true)))
 | _=>.bad
@[simp]theorem Zyd(i xs):setF ρ i (.lst xs)=.next (ρ.set i (some (.lst xs,true))):=rfl
@[simp]theorem Zye(i xs):setF ρ i (.dic xs)=.next (ρ.set i (some (.dic xs,true))):=rfl
@[simp]theorem ZrW(i e):evS Γ ρ (.asg i true e)=O.of ρ (evE Γ ρ e) fun d=>if Zfd Γ e=true then setF ρ i d else .bad:=by
 rw[Zli]
 congr 1
@[simp]theorem Zw0(i e):evS Γ ρ (.app i e)=O.of ρ (ZcJ ρ i) fun xs=>O.of ρ (evE Γ ρ e) fun d=>if Zdo (xs.length+1)=true then .next (ρ.set i (some (.lst (xs++[d]),true))) else .bad:=rfl
@[simp]theorem ZwW(i e):evS Γ ρ (.ext i e)=O.of ρ (ZcJ ρ i) fun xs=>O.of ρ (evE Γ ρ e) fun d=>O.of ρ (Zlv d) fun ys=>if Zdo (xs.length+ys.length)=true then .next (ρ.set i (some (.lst (xs++ys),true))) else .bad:=rfl
@[simp]theorem ZwT(i):evS Γ ρ (.rev i)=O.of ρ (ZcJ ρ i) fun xs=>.next (ρ.set i (some (.lst xs.reverse,true))):=rfl
@[simp]theorem ZwX(i):evS Γ ρ (.clr i)=O.of ρ (ZcJ ρ i) fun _=>.next (ρ.set i (some (.lst [],true))):=rfl
theorem ZjD(i k e):evS Γ ρ (.put i k e)=O.of ρ (evE Γ ρ e) fun d=>O.of ρ (ZcJ ρ i) fun xs=>O.of ρ ((top ρ k (evE Γ ρ k)).bind ZbE) fun j=>match plD xs.length j with
      | some n=>.next (ρ.set i (some (.lst (xs.set n d),true)))
      | none=>.bad:=rfl
theorem Zot(i k l):evS Γ ρ (.swp i k l)=O.of ρ (evE Γ ρ (.tup (.cons (.idx (.var i) (.var l)) (.cons (.idx (.var i) (.var k)) .nil)))) fun d=>Zta ρ d i k l:=rfl
@[simp]theorem Zlh(body c x h):evS Γ ρ (.tryx body c x h)=match evSs Γ ρ body with
      | .exn y ρ'=>if (Γ.up y.c).contains c=true then (match evSs Γ (ρ'.set x (some (.exc y.c y.fs,false))) h with
          | .next ρ''=>.next (ρ''.set x none)
          | .ret d f=>.ret d f
          | _=>.bad) else .bad
      | o=>o:=rfl
@[simp]theorem ZwS(c body):evS Γ ρ (.whl c body)=Zt9 (whC Γ c) (whB Γ body) ZrP ρ:=rfl
@[simp]theorem ZtC(c as):evS Γ ρ (.rais c as)=O.of ρ (noX (evA Γ ρ as)) fun xs=>O.of ρ (Γ.xn c xs) fun x=>.exn x ρ:=rfl
@[simp]theorem ZwY:evS Γ ρ .brk=.brk ρ:=rfl
@[simp]theorem ZtH:evS Γ ρ .cont=.cont ρ:=rfl
end
end Ov
namespace Ov
open PySem
theorem Zhn{body:D->Rho->O}(P:Rho->Prop):∀ (xs:List D) (ρ:Rho),P ρ->(∀ x∈xs,∀ ρ,P ρ->∃ ρ',body x ρ=.next ρ'/\P ρ')->∃ ρ',Zea body xs ρ=.next ρ'/\P ρ'
 | [],ρ,h,_=>⟨ρ,rfl,h⟩
 | x::xs,ρ,h,k=>by
  obtain⟨ρ1,e1,h1⟩:=k x List.mem_cons_self ρ h
  obtain⟨ρ2,e2,h2⟩:=Zhn P xs ρ1 h1 fun y hy=>k y (List.mem_cons_of_mem _ hy)
  exact⟨ρ2,by show (body x ρ).turn _=_;rw[e1];exact e2,h2⟩
theorem ZaS(lo:Int)(n:Nat):(ZcM lo n).length=n:=by simp[ZcM]
theorem Zhl{lo:Int}{n i:Nat}{x:D}(h:(ZcM lo n)[i]?=some x):i<n/\x=.int (lo+(i:Int)):=by
 have hl:=(List.getElem?_eq_some_iff.mp h).1
 rw[ZaS] at hl
 unfold ZcM at h
 rw[List.getElem?_map,List.getElem?_range hl] at h
 cases h
 exact⟨hl,rfl⟩
noncomputable def Ss.take:Nat->Ss->Ss
 | 0,_=>.nil
 | _,.nil=>.nil
 | n+1,.cons s ss=>.cons s (ss.take n)
noncomputable def Ss.drop:Nat->Ss->Ss
 | 0,ss=>ss
 | _,.nil=>.nil
 | n+1,.cons _ ss=>ss.drop n
theorem Zhp(Γ:Gam):∀ (n:Nat) (ss:Ss) (ρ:Rho),evSs Γ ρ ss=Zgz Γ (ss.drop n) (evSs Γ ρ (ss.take n))
 | 0,_,_=>rfl
 | _+1,.nil,_=>rfl
 | n+1,.cons s ss,ρ=>by
  show (evS Γ ρ s).seq (fun ρ'=>evSs Γ ρ' ss)=Zgz Γ (ss.drop n) ((evS Γ ρ s).seq fun ρ'=>evSs Γ ρ' (ss.take n))
  cases evS Γ ρ s with
  | next ρ'=>exact Zhp Γ n ss ρ'
  | _=>rfl
end Ov
end
section
namespace OvC
open PySem Ov PyProof.Rows
noncomputable abbrev scr(ns:List Int):D:=.lst (ns.map .int)
noncomputable abbrev sh(d:D):Sl:=some (d,false)
noncomputable abbrev si(i:Int):Sl:=some (.int i,false)
theorem ZyG{P:Nat->Prop}{j:Int}(h0:P 0)(h1:P 1)(h2:P 2)(h3:P 3):P (j%4).toNat:=by
 have:(j%4).toNat=0\/(j%4).toNat=1\/(j%4).toNat=2\/(j%4).toNat=3:=by omega
 rcases this with e|e|e|e<;>rw[e]<;>assumption
def P4(p:Int):Prop:=p=3\/p=5\/p=7\/p=11
noncomputable def pr4(j:Int):Int:=[3,5,7,11].getD (j%4).toNat 0
theorem ZqV(j):P4 (pr4 j):=by
 unfold pr4
 exact ZyG (P:=fun j=>P4 ([3,5,7,11].getD j 0)) (.inl rfl) (.inr (.inl rfl)) (.inr (.inr (.inl rfl))) (.inr (.inr (.inr rfl)))
theorem P4.pos{p}(h:P4 p):0<p:=by rcases h with rfl|rfl|rfl|rfl<;>decide
theorem P4.lo{p}(h:P4 p):3<=p:=by rcases h with rfl|rfl|rfl|rfl<;>decide
theorem P4.hi{p}(h:P4 p):p<=11:=by rcases h with rfl|rfl|rfl|rfl<;>decide
theorem Zld(j:Int):Zdm [.int 3,.int 5,.int 7,.int 11] (j%4)=.ok (.int (pr4 j)):=by
 have h:=ZyG (P:=fun j=>[D.int 3,D.int 5,D.int 7,D.int 11][j]?=some (D.int ([3,5,7,11].getD j 0))) (j:=j) rfl rfl rfl rfl
 exact Ze2 (by omega) h
theorem Zcj{i j:Int}(h0:-18446744073709551616<i)(h1:i<18446744073709551616):Zbh i j=true:=by simp[Zbh];left;exact⟨h0,h1⟩
theorem Zgs{i j:Int}(h0:-18446744073709551616<j)(h1:j<18446744073709551616):Zbh i j=true:=by simp[Zbh];right;exact⟨h0,h1⟩
noncomputable def ZjU:Df:=⟨2,false,(.cons (.ret (.bin .Mod (.var 1) (.var 0))) .nil)⟩
def ZcF(Γ:Gam):Prop:=∀ p n:Int,0<p->Γ.F 1 [.int p,.int n]=.ok (.int (n%p))
theorem Zqz(Γ:Gam)(p n:Int)(h:0<p):ZjU.run Γ [.int p,.int n]=.ok (.int (n%p)):=by simp[ZjU,Df.run,Zac,h]
end OvC
end
section
namespace Ov
open PySem PySem.Spec PyProof.Rows L2
abbrev ClA:=Nat->Option Addr
def KL(K:Fg)(a:Addr)(xs:List V):Prop:=∃ (o:Obj) (its:Array Value) (n:Nat),K.lookup a=some o/\o.cls=.type "list"/\o.dict=none/\o.data=.seq its n/\its.size<=sizeLine/\Zar xs its.toList
def KT(K:Fg)(a:Addr)(xs:List V):Prop:=∃ (o:Obj) (its:Array Value) (n:Nat),K.lookup a=some o/\o.cls=.type "tuple"/\o.data=.seq its n/\its.size<=sizeLine/\Zar xs its.toList
section
variable (K:Fg) (CL:ClA) (H:Hp) (A:Addr->Prop)
mutual
def Rep:V->D->Prop
 | v,.non=>v=.non
 | v,.bl b=>v=.bl b
 | v,.int i=>v=.int i
 | v,.str x=>v=.str x
 | v,.tup ds=>∃ a xs,v=.ref a/\(¬ A a\/KT K a xs)/\SqT K H a xs/\Reps xs ds
 | v,.lst ds=>∃ a xs,v=.ref a/\(¬ A a\/KL K a xs)/\SqL K H a xs/\Reps xs ds
 | v,.obj c fs=>∃ a C dx vs,v=.ref a/\¬ A a/\CL c=some C/\H a=some (.ins C dx vs)/\Repf vs fs
 | _,.dic _=>False
 | v,.exc c fs=>∃ a C φ,v=.ref a/\¬ A a/\CL c=some C/\H a=some (.ext φ)/\(∀ h,φ h->∃ o,h.get? a=some o/\o.cls=.ref C)/\(fs=[]\/∃ dx vs,¬ A dx/\H dx=some (.xd vs)/\Repf vs fs/\∀ h,φ h->∃ o,h.get? a=some o/\o.dict=some dx)
def Reps:List V->List D->Prop
 | [],[]=>True
 | v::vs,d::ds=>Rep v d/\Reps vs ds
 | _,_=>False
def Repf:List (Str×V)->List (Str×D)->Prop
 | [],[]=>True
 | v::vs,d::ds=>Repp v d/\Repf vs ds
 | _,_=>False
def Repp:Str×V->Str×D->Prop
 | v,(n,d)=>v.1=n/\Rep v.2 d
end
def Zb1(v:V)(d:D):Prop:=Rep K CL H A v d\/∃ a xs ds,v=.ref a/\d=.lst ds/\H a=some (.lst xs)/\Reps K CL H A xs ds
end
def Kp(A:Addr->Prop)(H H':Hp):Prop:=∀ b o,H b=some o->¬ A b->H' b=some o
def AOk(H:Hp)(A:Addr->Prop):Prop:=∀ a,A a->∃ xs,H a=some (.lst xs)
theorem Kp.of{A:Addr->Prop}{H H':Hp}(h:Zag H H'):Kp A H H':=fun b o e _=>h b o e
theorem AOk.same{A:Addr->Prop}{H H':Hp}(h:AOk H A)(s:Zag H H'):AOk H' A:=fun a ha=>let ⟨xs,e⟩:=h a ha;⟨xs,s _ _ e⟩
theorem AOk.new{A:Addr->Prop}{H:Hp}{p:Addr}(h:AOk H A)(e:H p=none):¬ A p:=fun ha=>by
 obtain⟨xs,q⟩:=h p ha;rw[e] at q;cases q
section
variable {K:Fg} {CL:ClA} {H H':Hp} {A B:Addr->Prop}
theorem Zqt{a:Addr}{u:HO}(k:Kp A H H')(na:¬ A a)(h:Rd H a u):Rd H' a u:=by
 rcases h with h|⟨o,h⟩
 ·exact .inl (k _ _ h na)
 ·exact .inr ⟨o,k _ _ h na⟩
theorem ZgY{a:Addr}{xs:List V}(k:Kp A H H')(na:¬ A a\/KL K a xs)(h:SqL K H a xs):SqL K H' a xs:=na.elim (fun na=>h.imp (Zqt k na) id) .inr
theorem ZgX{a:Addr}{xs:List V}(k:Kp A H H')(na:¬ A a\/KT K a xs)(h:SqT K H a xs):SqT K H' a xs:=na.elim (fun na=>h.imp (Zqt k na) id) .inr
mutual
theorem Rep.kp(k:Kp A H H'):∀ {v:V} (d:D),Rep K CL H A v d->Rep K CL H' A v d
 | _,.non,h=>h
 | _,.bl _,h=>h
 | _,.int _,h=>h
 | _,.str _,h=>h
 | _,.dic _,h=>h.elim
 | _,.tup ds,h=>by
  obtain⟨a,xs,e,na,s,r⟩:=h
  exact⟨a,xs,e,na,by first|exact ZgX k na s|exact ZgY k na s,Reps.kp k ds r⟩
 | _,.lst ds,h=>by
  obtain⟨a,xs,e,na,s,r⟩:=h
  exact⟨a,xs,e,na,by first|exact ZgX k na s|exact ZgY k na s,Reps.kp k ds r⟩
 | _,.obj c fs,h=>by
  obtain⟨a,C,dx,vs,e,na,c,s,r⟩:=h
  exact⟨a,C,dx,vs,e,na,c,k _ _ s na,Repf.kp k fs r⟩
 | _,.exc c fs,h=>by
  obtain⟨a,C,φ,e,na,c,s,p,q⟩:=h
  refine⟨a,C,φ,e,na,c,k _ _ s na,p,q.imp id ?_⟩
  rintro⟨dx,vs,nx,s2,r,z⟩
  exact⟨dx,vs,nx,k _ _ s2 nx,Repf.kp k fs r,z⟩
theorem Reps.kp(k:Kp A H H'):∀ {vs:List V} (ds:List D),Reps K CL H A vs ds->Reps K CL H' A vs ds
 | [],[],h=>h
 | _::_,d::ds,h=>⟨Rep.kp k d h.1,Reps.kp k ds h.2⟩
 | [],_::_,h=>h.elim
 | _::_,[],h=>h.elim
theorem Repf.kp(k:Kp A H H'):∀ {vs:List (Str×V)} (ds:List (Str×D)),Repf K CL H A vs ds->Repf K CL H' A vs ds
 | [],[],h=>h
 | _::_,d::ds,h=>⟨Repp.kp k d h.1,Repf.kp k ds h.2⟩
 | [],_::_,h=>h.elim
 | _::_,[],h=>h.elim
theorem Repp.kp(k:Kp A H H'):∀ {v:Str×V} (d:Str×D),Repp K CL H A v d->Repp K CL H' A v d
 | _,(_,d),h=>⟨h.1,Rep.kp k d h.2⟩
end
mutual
theorem Rep.sub(k:∀ a,B a->A a):∀ {v:V} (d:D),Rep K CL H A v d->Rep K CL H B v d
 | _,.non,h=>h
 | _,.bl _,h=>h
 | _,.int _,h=>h
 | _,.str _,h=>h
 | _,.dic _,h=>h.elim
 | _,.tup ds,h=>by
  obtain⟨a,xs,e,na,s,r⟩:=h
  exact⟨a,xs,e,na.imp (fun na z=>na (k _ z)) id,s,Reps.sub k ds r⟩
 | _,.lst ds,h=>by
  obtain⟨a,xs,e,na,s,r⟩:=h
  exact⟨a,xs,e,na.imp (fun na z=>na (k _ z)) id,s,Reps.sub k ds r⟩
 | _,.obj c fs,h=>by
  obtain⟨a,C,dx,vs,e,na,c,s,r⟩:=h
  exact⟨a,C,dx,vs,e,fun z=>na (k _ z),c,s,Repf.sub k fs r⟩
 | _,.exc c fs,h=>by
  obtain⟨a,C,φ,e,na,c,s,p,q⟩:=h
  refine⟨a,C,φ,e,fun z=>na (k _ z),c,s,p,q.imp id ?_⟩
  rintro⟨dx,vs,nx,s2,r,z⟩
  exact⟨dx,vs,fun z=>nx (k _ z),s2,Repf.sub k fs r,z⟩
theorem Reps.sub(k:∀ a,B a->A a):∀ {vs:List V} (ds:List D),Reps K CL H A vs ds->Reps K CL H B vs ds
 | [],[],h=>h
 | _::_,d::ds,h=>⟨Rep.sub k d h.1,Reps.sub k ds h.2⟩
 | [],_::_,h=>h.elim
 | _::_,[],h=>h.elim
theorem Repf.sub(k:∀ a,B a->A a):∀ {vs:List (Str×V)} (ds:List (Str×D)),Repf K CL H A vs ds->Repf K CL H B vs ds
 | [],[],h=>h
 | _::_,d::ds,h=>⟨Repp.sub k d h.1,Repf.sub k ds h.2⟩
 | [],_::_,h=>h.elim
 | _::_,[],h=>h.elim
theorem Repp.sub(k:∀ a,B a->A a):∀ {v:Str×V} (d:Str×D),Repp K CL H A v d->Repp K CL H B v d
 | _,(_,d),h=>⟨h.1,Rep.sub k d h.2⟩
end
mutual
theorem Rep.wide(hp:∀ a,B a->A a\/H a=none):∀ {v:V} (d:D),Rep K CL H A v d->Rep K CL H B v d
 | _,.non,h=>h
 | _,.bl _,h=>h
 | _,.int _,h=>h
 | _,.str _,h=>h
 | _,.dic _,h=>h.elim
 | _,.tup ds,h=>by
  obtain⟨a,xs,e,na,s,r⟩:=h
  refine⟨a,xs,e,?_,s,Reps.wide hp ds r⟩
  rcases s with s|s
  ·refine na.imp (fun na z=>(hp _ z).elim na fun e=>?_) id
   rcases s with s|⟨o,s⟩<;>rw[e] at s<;>cases s
  ·exact .inr s
 | _,.lst ds,h=>by
  obtain⟨a,xs,e,na,s,r⟩:=h
  refine⟨a,xs,e,?_,s,Reps.wide hp ds r⟩
  rcases s with s|s
  ·refine na.imp (fun na z=>(hp _ z).elim na fun e=>?_) id
   rcases s with s|⟨o,s⟩<;>rw[e] at s<;>cases s
  ·exact .inr s
 | _,.obj c fs,h=>by
  obtain⟨a,C,dx,vs,e,na,c,s,r⟩:=h
  exact⟨a,C,dx,vs,e,(fun z=>(hp _ z).elim na fun e=>by rw[e] at s;cases s),c,s,Repf.wide hp fs r⟩
 | _,.exc c fs,h=>by
  obtain⟨a,C,φ,e,na,c,s,p,q⟩:=h
  refine⟨a,C,φ,e,(fun z=>(hp _ z).elim na fun e=>by rw[e] at s;cases s),c,s,p,q.imp id ?_⟩
  rintro⟨dx,vs,nx,s2,r,z⟩
  exact⟨dx,vs,(fun z=>(hp _ z).elim nx fun e=>by rw[e] at s2;cases s2),s2,Repf.wide hp fs r,z⟩
theorem Reps.wide(hp:∀ a,B a->A a\/H a=none):∀ {vs:List V} (ds:List D),Reps K CL H A vs ds->Reps K CL H B vs ds
 | [],[],h=>h
 | _::_,d::ds,h=>⟨Rep.wide hp d h.1,Reps.wide hp ds h.2⟩
 | [],_::_,h=>h.elim
 | _::_,[],h=>h.elim
theorem Repf.wide(hp:∀ a,B a->A a\/H a=none):∀ {vs:List (Str×V)} (ds:List (Str×D)),Repf K CL H A vs ds->Repf K CL H B vs ds
 | [],[],h=>h
 | _::_,d::ds,h=>⟨Repp.wide hp d h.1,Repf.wide hp ds h.2⟩
 | [],_::_,h=>h.elim
 | _::_,[],h=>h.elim
theorem Repp.wide(hp:∀ a,B a->A a\/H a=none):∀ {v:Str×V} (d:Str×D),Repp K CL H A v d->Repp K CL H B v d
 | _,(_,d),h=>⟨h.1,Rep.wide hp d h.2⟩
end
theorem Rep.same{v:V}{d:D}(s:Zag H H')(h:Rep K CL H A v d):Rep K CL H' A v d:=Rep.kp (Kp.of s) d h
theorem Reps.same{v:List V}{d:List D}(s:Zag H H')(h:Reps K CL H A v d):Reps K CL H' A v d:=Reps.kp (Kp.of s) d h
theorem Zb1.same{v:V}{d:D}(s:Zag H H')(h:Zb1 K CL H A v d):Zb1 K CL H' A v d:=by
 rcases h with h|⟨a,xs,ds,e,e2,q,r⟩
 ·exact .inl (h.same s)
 ·exact .inr ⟨a,xs,ds,e,e2,s _ _ q,r.same s⟩
theorem Reps.length:∀ {vs:List V} {ds:List D},Reps K CL H A vs ds->vs.length=ds.length
 | [],[],_=>rfl
 | _::_,_::_,h=>congrArg (· + 1) (Reps.length h.2)
 | [],_::_,h=>h.elim
 | _::_,[],h=>h.elim
theorem Reps.append:∀ {vs ws:List V} {ds es:List D},Reps K CL H A vs ds->Reps K CL H A ws es->Reps K CL H A (vs++ws) (ds++es)
 | [],_,[],_,_,h=>h
 | _::_,_,_::_,_,h,g=>⟨h.1,Reps.append h.2 g⟩
 | [],_,_::_,_,h,_=>h.elim
 | _::_,_,[],_,h,_=>h.elim
theorem Reps.get:∀ {vs:List V} {ds:List D} {i:Nat} {d:D},Reps K CL H A vs ds->ds[i]?=some d->∃ v,vs[i]?=some v/\Rep K CL H A v d
 | [],[],_,_,_,e=>by simp at e
 | v::_,_::_,0,_,h,e=>by simp at e;subst e;exact⟨v,rfl,h.1⟩
 | _::_,_::_,i+1,_,h,e=>by
  obtain⟨v,q,r⟩:=Reps.get (i:=i) h.2 (by simpa using e)
  exact⟨v,by simpa using q,r⟩
 | [],_::_,_,_,h,_=>h.elim
 | _::_,[],_,_,h,_=>h.elim
theorem Reps.take:∀ {vs:List V} {ds:List D} (n:Nat),Reps K CL H A vs ds->Reps K CL H A (vs.take n) (ds.take n)
 | _,_,0,_=>trivial
 | [],[],_+1,_=>trivial
 | _::_,_::_,n+1,h=>⟨h.1,Reps.take n h.2⟩
 | [],_::_,_+1,h=>h.elim
 | _::_,[],_+1,h=>h.elim
theorem Reps.drop:∀ {vs:List V} {ds:List D} (n:Nat),Reps K CL H A vs ds->Reps K CL H A (vs.drop n) (ds.drop n)
 | _,_,0,h=>h
 | [],[],_+1,_=>trivial
 | _::_,_::_,n+1,h=>Reps.drop n h.2
 | [],_::_,_+1,h=>h.elim
 | _::_,[],_+1,h=>h.elim
theorem Reps.set{x:V}{e:D}(r:Rep K CL H A x e):∀ {vs:List V} {ds:List D} (n:Nat),Reps K CL H A vs ds->Reps K CL H A (vs.set n x) (ds.set n e)
 | [],[],_,_=>trivial
 | _::_,_::_,0,h=>⟨r,h.2⟩
 | _::_,_::_,n+1,h=>⟨h.1,Reps.set r n h.2⟩
 | [],_::_,_,h=>h.elim
 | _::_,[],_,h=>h.elim
end
structure Good (K:Fg) (CL:ClA) (A:Addr->Prop) (ρ:Rho) (σ:L2.St) (H:Hp):Prop where
 sh:∀ (i:Nat) (d:D),ρ[i]?=some (some (d,false))->∃ v,σ[i]?=some (some v)/\Rep K CL H A v d
 ow:∀ (i:Nat) (d:D),ρ[i]?=some (some (d,true))->∃ a xs ds,σ[i]?=some (some (.ref a))/\d=.lst ds/\A a/\H a=some (.lst xs)/\Reps K CL H A xs ds
 len:ρ.length=σ.length
theorem Good.same{K:Fg}{CL:ClA}{A:Addr->Prop}{ρ:Rho}{σ:L2.St}{H H':Hp}(g:Good K CL A ρ σ H)(s:Zag H H'):Good K CL A ρ σ H' :=
 ⟨fun i d e=>let ⟨v,q,r⟩:=g.sh i d e;⟨v,q,r.same s⟩,fun i d e=>let ⟨a,xs,ds,q,z,na,h,r⟩:=g.ow i d e;⟨a,xs,ds,q,z,na,s _ _ h,r.same s⟩,g.len⟩
abbrev XW:=Ex->Hp->Prop
def Zas(Rp:Hp->V->D->Prop)(W:XW)(H:Hp)(r:R D)(Q:VK):Prop:=match r with
  | .ok d=>∀ v H',Zag H H'->Rp H' v d->Q v H'
  | .exn x=>∀ H',Zag H H'->W x H'
  | .bad=>False
def Zda(Rp:Hp->List V->List D->Prop)(W:XW)(H:Hp)(r:R (List D))(Q:List V->Hp->Prop):Prop:=match r with
  | .ok d=>∀ v H',Zag H H'->Rp H' v d->Q v H'
  | .exn x=>∀ H',Zag H H'->W x H'
  | .bad=>False
def ZaK(W:XW)(H:Hp)(r:R Bool)(Q:Bool->Hp->Prop):Prop:=match r with
  | .ok b=>∀ H',Zag H H'->Q b H'
  | .exn x=>∀ H',Zag H H'->W x H'
  | .bad=>False
theorem Zas.same{Rp:Hp->V->D->Prop}{W:XW}{H H':Hp}{r:R D}{Q:VK}(s:Zag H H')(h:Zas Rp W H r Q):Zas Rp W H' r Q:=by
 cases r with
 | ok d=>exact fun v H2 s2 q=>h v H2 (s.trans s2) q
 | exn x=>exact fun H2 s2=>h H2 (s.trans s2)
 | bad=>exact h
theorem ZaK.same{W:XW}{H H':Hp}{r:R Bool}{Q:Bool->Hp->Prop}(s:Zag H H')(h:ZaK W H r Q):ZaK W H' r Q:=by
 cases r with
 | ok d=>exact fun H2 s2=>h H2 (s.trans s2)
 | exn x=>exact fun H2 s2=>h H2 (s.trans s2)
 | bad=>exact h
theorem Zas.bind{Rp Rq:Hp->V->D->Prop}{W:XW}{H:Hp}{r:R D}{f:D->R D}{Q Q':VK}(h:Zas Rq W H (r.bind f) Q)(k:∀ d v H',r=.ok d->Zag H H'->Rp H' v d->Zas Rq W H' (f d) Q->Q' v H'):Zas Rp W H r Q':=by
 cases r with
 | ok d=>exact fun v H2 s2 q=>k d v H2 rfl s2 q (Zas.same s2 h)
 | exn x=>exact h
 | bad=>exact h
section
variable (X:Cx) (CL:ClA) (W:XW)
def SE(e:Expr)(f:Rho->R D):Prop:=∀ A,PE X e (fun σ H Q=>AOk H A/\∃ ρ,Good X.K CL A ρ σ H/\Zas (fun H=>Rep X.K CL H A) W H (f ρ) Q)
def ST(e:Expr)(f:Rho->R D):Prop:=∀ A,PE X e (fun σ H Q=>AOk H A/\∃ ρ,Good X.K CL A ρ σ H/\Zas (fun H=>Zb1 X.K CL H A) W H (f ρ) Q)
def SB(e:Expr)(f:Rho->R Bool):Prop:=∀ A,PT X e (fun σ H Q=>AOk H A/\∃ ρ,Good X.K CL A ρ σ H/\ZaK W H (f ρ) Q)
def SA(es:List Expr)(f:Rho->R (List D)):Prop:=∀ A,PA X es (fun σ H Q=>AOk H A/\∃ ρ,Good X.K CL A ρ σ H/\Zda (fun H=>Reps X.K CL H A) W H (f ρ) Q)
end
theorem PE.weak{X:Cx}{e:Expr}{t t':TE}(h:PE X e t)(k:∀ σ H Q,t' σ H Q->t σ H Q):PE X e t':=fun pins s σ H Q I q=>h pins s σ H Q I (k _ _ _ q)
theorem PT.weak{X:Cx}{e:Expr}{t t':TT}(h:PT X e t)(k:∀ σ H Q,t' σ H Q->t σ H Q):PT X e t':=fun pins s σ H Q I q=>h pins s σ H Q I (k _ _ _ q)
theorem PA.weak{X:Cx}{e:List Expr}{t t':TA}(h:PA X e t)(k:∀ σ H Q,t' σ H Q->t σ H Q):PA X e t':=fun pos pins s σ H Q I q=>h pos pins s σ H Q I (k _ _ _ q)
noncomputable def OpD(X:Cx)(CL:ClA)(W:XW)(f:Value->Value->Sem Value)(g:D->D->R D):Prop :=
 ∀ A,OpR X f (fun x y H Q=>AOk H A/\∃ dx dy,Zb1 X.K CL H A x dx/\Zb1 X.K CL H A y dy/\Zas (fun H=>Rep X.K CL H A) W H (g dx dy) Q)
end Ov
end
section
namespace Ov
open PySem PySem.Spec PyProof.Rows L2
section
variable {X:Cx} {CL:ClA} {W:XW} {a b c:Expr} {fa fb fc:Rho->R D} {pos:Pos}
theorem SE.st(h:SE X CL W a fa):ST X CL W a fa:=fun A=>PE.weak (h A) fun σ H Q ⟨hA,ρ,g,p⟩=>⟨hA,ρ,g,by
 cases e:fa ρ with
 | ok d=>rw[e] at p;exact fun v H' s r=>p v H' s (.inl r)
 | exn x=>rw[e] at p;exact p
 | bad=>rw[e] at p;exact p⟩
theorem SE.congr{f g:Rho->R D}(h:SE X CL W a f)(e:∀ ρ,g ρ=f ρ):SE X CL W a g:=fun A=>PE.weak (h A) fun σ H Q ⟨hA,ρ,q,p⟩=>⟨hA,ρ,q,by rw[<- e];exact p⟩
theorem ZkL{d:D}{v:V}(h:PE X a (tC v))(r:∀ H A,AOk H A->Rep X.K CL H A v d):SE X CL W a (fun _=>.ok d):=fun A=>PE.weak h fun σ H Q ⟨hA,ρ,g,p⟩=>p v H (Zag.refl H) (r H A hA)
theorem Zqf{i j}:SE X CL W (.Constant (.int i) j pos) (fun _=>.ok (.int i)):=ZkL Zq7 fun _ _ _=>rfl
theorem Zqj{b j}:SE X CL W (.Constant (.bool b) j pos) (fun _=>.ok (.bl b)):=ZkL Zv6 fun _ _ _=>rfl
theorem Zqa{j}:SE X CL W (.Constant .none j pos) (fun _=>.ok .non):=ZkL Zq4 fun _ _ _=>rfl
theorem Zp9{x j}:SE X CL W (.Constant (.str x) j pos) (fun _=>.ok (.str x)):=ZkL Zq0 fun _ _ _=>rfl
theorem ZmL{ρ:Rho}{i:Nat}{d:D}(h:ZeK ρ i=.ok d):ρ[i]?=some (some (d,false)):=by
 unfold ZeK at h
 split at h
 ·rename_i e;cases h;exact e
 ·cases h
theorem Zii{ρ:Rho}{i:Nat}{d:D}(h:Zff ρ i=.ok d):∃ o,ρ[i]?=some (some (d,o)):=by
 unfold Zff at h
 split at h
 ·rename_i e;cases h;exact⟨_,e⟩
 ·cases h
theorem Zky{ρ:Rho}{i:Nat}{x:Ex}(h:ZeK ρ i=.exn x):False:=by
 unfold ZeK at h
 split at h<;>cases h
theorem ZgR{ρ:Rho}{i:Nat}{x:Ex}(h:Zff ρ i=.exn x):False:=by
 unfold Zff at h
 split at h<;>cases h
theorem ZlL{i:Nat}(h:PE X a (ZhK i)):SE X CL W a (fun ρ=>ZeK ρ i):=fun A=>PE.weak h fun σ H Q ⟨hA,ρ,g,p⟩=>by
 dsimp only at p
 cases e:ZeK ρ i with
 | ok d =>
  rw[e] at p
  obtain⟨v,q,r⟩:=g.sh i d (ZmL e)
  exact⟨v,q,p v H (Zag.refl H) r⟩
 | exn x=>exact(Zky e).elim
 | bad=>rw[e] at p;exact p.elim
theorem Zfl{i:Nat}(h:PE X a (ZhK i)):ST X CL W a (fun ρ=>Zff ρ i):=fun A=>PE.weak h fun σ H Q ⟨hA,ρ,g,p⟩=>by
 dsimp only at p
 cases e:Zff ρ i with
 | ok d =>
  rw[e] at p
  obtain⟨o,e⟩:=Zii e
  cases o with
  | false =>
   obtain⟨v,q,r⟩:=g.sh i d e
   exact⟨v,q,p v H (Zag.refl H) (.inl r)⟩
  | true =>
   obtain⟨x,xs,ds,q,rfl,ha,hh,r⟩:=g.ow i d e
   exact⟨_,q,p _ H (Zag.refl H) (.inr ⟨x,xs,ds,rfl,rfl,hh,r⟩)⟩
 | exn x=>exact(ZgR e).elim
 | bad=>rw[e] at p;exact p.elim
theorem op2{A:Addr->Prop}{σ:L2.St}{H:Hp}{Q:VK}{g:D->D->R D}{Rq:Hp->V->D->Prop}(h:AOk H A/\∃ ρ,Good X.K CL A ρ σ H/\Zas Rq W H ((fa ρ).bind fun x=>(fb ρ).bind fun y=>g x y) Q) :
  AOk H A/\∃ ρ,Good X.K CL A ρ σ H/\Zas (fun H=>Zb1 X.K CL H A) W H (fa ρ) (fun x H1=>AOk H1 A/\∃ ρ,Good X.K CL A ρ σ H1/\Zas (fun H=>Zb1 X.K CL H A) W H1 (fb ρ) (fun y H2 =>
   AOk H2 A/\∃ dx dy,Zb1 X.K CL H2 A x dx/\Zb1 X.K CL H2 A y dy/\Zas Rq W H2 (g dx dy) Q)):=by
 obtain⟨hA,ρ,gd,p⟩:=h
 refine⟨hA,ρ,gd,Zas.bind p fun dx x H1 _ s1 r1 p1=>⟨hA.same s1,ρ,gd.same s1,Zas.bind p1 fun dy y H2 _ s2 r2 p2=>⟨(hA.same s1).same s2,dx,dy,r1.same s2,r2,p2⟩⟩⟩
theorem ZlN{op:Operator}{g:D->D->R D}(ho:OpD X CL W (binaryOp op) g)(ha:ST X CL W a fa)(hb:ST X CL W b fb):SE X CL W (.BinOp a op b pos) (fun ρ=>(fa ρ).bind fun x=>(fb ρ).bind fun y=>g x y) :=
 fun A=>PE.weak (Zq1 (ho A) (ha A) (hb A)) fun σ H Q h=>op2 h
theorem Zqi{op:CmpOp}{g:D->D->R D}(ho:OpD X CL W (compareOp op) g)(ha:ST X CL W a fa)(hb:ST X CL W b fb)(hm:behindInMarks op b=false):SE X CL W (.Compare a [op] [b] pos) (fun ρ=>(fa ρ).bind fun x=>(fb ρ).bind fun y=>g x y) :=
 fun A=>PE.weak (ZnJ (ho A) (ha A) (hb A) hm) fun σ H Q h=>op2 h
theorem Zb1.int_of{K:Fg}{H:Hp}{A:Addr->Prop}{v:V}{i:Int}(h:Zb1 K CL H A v (.int i)):v=.int i:=by
 rcases h with h|⟨_,_,_,_,e,_⟩
 ·exact h
 ·cases e
theorem Zb1.str_of{K:Fg}{H:Hp}{A:Addr->Prop}{v:V}{i:Str}(h:Zb1 K CL H A v (.str i)):v=.str i:=by
 rcases h with h|⟨_,_,_,_,e,_⟩
 ·exact h
 ·cases e
theorem Zb1.bl_of{K:Fg}{H:Hp}{A:Addr->Prop}{v:V}{i:Bool}(h:Zb1 K CL H A v (.bl i)):v=.bl i:=by
 rcases h with h|⟨_,_,_,_,e,_⟩
 ·exact h
 ·cases e
theorem Zb1.non_of{K:Fg}{H:Hp}{A:Addr->Prop}{v:V}(h:Zb1 K CL H A v .non):v=.non:=by
 rcases h with h|⟨_,_,_,_,e,_⟩
 ·exact h
 ·cases e
theorem Zb1.lst_of{K:Fg}{H:Hp}{A:Addr->Prop}{v:V}{ds:List D}(h:Zb1 K CL H A v (.lst ds)):∃ a xs,v=.ref a/\SqL K H a xs/\Reps K CL H A xs ds:=by
 rcases h with ⟨a,xs,e,_,s,r⟩|⟨a,xs,es,rfl,e,s,r⟩
 ·exact⟨a,xs,e,s,r⟩
 ·cases e;exact⟨a,xs,rfl,SqL.of s,r⟩
theorem Zb1.tup_of{K:Fg}{H:Hp}{A:Addr->Prop}{v:V}{ds:List D}(h:Zb1 K CL H A v (.tup ds)):∃ a xs,v=.ref a/\(¬ A a\/KT K a xs)/\SqT K H a xs/\Reps K CL H A xs ds:=by
 rcases h with ⟨a,xs,e,n,s,r⟩|⟨_,_,_,_,e,_⟩
 ·exact⟨a,xs,e,n,s,r⟩
 ·cases e
theorem Zn0{i j:Int}(h:Zbh i j=true):Zt7 i j:=by
 unfold Zbh at h
 simp only[Bool.or_eq_true,Bool.and_eq_true,decide_eq_true_eq] at h
 unfold Zt7
 omega
theorem ZjY{a:Int}(h:a.natAbs<2 ^ 2000):Builtin.Int.intBits a<=2 ^ 20:=by
 unfold Builtin.Int.intBits
 split
 ·omega
 ·rename_i hz
  have h0:a.natAbs≠0:=by intro z;exact hz (by rw[Int.natAbs_eq_zero.mp z];rfl)
  have:=(Nat.log2_lt h0).mpr h
  omega
theorem ZnZ{i j:Int}(h:(Zbh i j||ZcB i j)=true):IntMulOk i j:=by
 rcases Bool.or_eq_true_iff.mp h with h|h
 ·exact(Zn0 h).ok
 ·unfold ZcB at h
  rw[Bool.and_eq_true,decide_eq_true_eq,decide_eq_true_eq] at h
  exact .of_bits (ZjY h.1) (ZjY h.2)
theorem ZnQ{X:Cx}:OpR X (binaryOp .Mult) (rI IntMulOk fun i j=>.int (i*j)):=opI fun _ _ _ _ _ _ _ hc q=>mul_int q hc
theorem ZaX{n:Nat}(h:Zdo n=true):n<=sizeLine:=by
 unfold Zdo at h
 rw[sizeLine_eq]
 have:=Nat.le_of_ble_eq_true h
 omega
theorem Zjf{K:Fg}{H:Hp}{A:Addr->Prop}{p:Addr}{xs:List V}{ds:List D}(hA:AOk H A)(hp:H p=none)(r:Reps K CL H A xs ds):Rep K CL (upd H p (.lst xs)) A (.ref p) (.lst ds) :=
 ⟨p,xs,rfl,.inl (hA.new hp),SqL.of Zaw,r.same fun b o e=>by rw[Zai (Zal e hp)];exact e⟩
theorem Zdy{K:Fg}{H:Hp}{A:Addr->Prop}{p:Addr}{xs:List V}{ds:List D}(hA:AOk H A)(hp:H p=none)(r:Reps K CL H A xs ds):Rep K CL (upd H p (.tup xs)) A (.ref p) (.tup ds) :=
 ⟨p,xs,rfl,.inl (hA.new hp),SqT.of Zaw,r.same fun b o e=>by rw[Zai (Zal e hp)];exact e⟩
theorem Zat{H:Hp}{p:Addr}(h:H p=none)(o:HO):Zag H (upd H p o):=fun b u q=>by rw[Zai (Zal q h)];exact q
def ZvV(K:Fg):R2:=fun x y H Q=>∃ l b xs zs,x=.ref l/\y=.ref b/\SqL K H l xs/\SqL K H b zs/\xs.length+zs.length<=sizeLine/\∀ p,H p=none->Q (.ref p) (upd H p (.lst (xs++zs)))
end
end Ov
end
section
namespace Ov
open PySem PySem.Spec PyProof.Rows L2
section
variable {X:Cx} {CL:ClA} {W:XW}
theorem Zja:OpR X (binaryOp .Add) (ZvV X.K):=by
 intro pins s σ H x y v u Q I rx ry h
 obtain⟨l,b,xs,zs,rfl,rfl,hH,hB,hz,q⟩:=h
 cases rx
 cases ry
 obtain⟨its,r,⟨o,n,e,c,dd,dt⟩,z⟩:=I.list hH
 obtain⟨its2,r2,⟨o2,n2,e2,c2,dd2,dt2⟩,z2⟩:=I.list hB
 have hl:=r.length
 have hl2:=r2.length
 obtain⟨cls,dd0,data,sl⟩:=o
 obtain⟨cls2,dd02,data2,sl2⟩:=o2
 simp only at c dd dt c2 dd2 dt2
 subst c dd dt c2 dd2 dt2
 have ea:its.toArray++its2.toArray=(its++its2).toArray:=by simp
 refine concat_meets ⟨_,e,rfl⟩ ⟨_,e2,rfl⟩ noFill_list_add seq_list_add PySem.F.slot_list_add PySem.F.entry_list_add (PySem.F.args_list_add_2 _ _) (list_addW l b its.toArray its2.toArray n n2 none none sl sl2 (by simp;omega)) ⟨e,e2,?_⟩
 rw[ea]
 exact⟨.ref _,_,I.lnew (t':=s.toks) (r.append r2) (by rw[List.length_append];omega),rfl,q _ I.fresh⟩
theorem Zi9:OpD X CL W (binaryOp .Add) (ZcA .Add):=by
 intro A pins s σ H x y v u Q I rx ry ⟨hA,dx,dy,hx,hy,p⟩
 cases dx with
 | int i =>
  cases dy with
  | int j =>
   have ex:=hx.int_of;have ey:=hy.int_of
   subst ex ey
   exact Zrh pins s σ H _ _ v u Q I rx ry ⟨i,j,rfl,rfl,p _ H (Zag.refl H) rfl⟩
  | _=>exact p.elim
 | str i =>
  cases dy with
  | str j =>
   have ex:=hx.str_of;have ey:=hy.str_of
   subst ex ey
   simp only[ZsM] at p
   split at p
   ·rename_i h
    exact ZhS pins s σ H _ _ v u Q I rx ry ⟨i,j,rfl,rfl,ZaX h,p _ H (Zag.refl H) rfl⟩
   ·exact p.elim
  | _=>exact p.elim
 | lst ds =>
  cases dy with
  | lst es =>
   obtain⟨a,xs,rfl,s1,r1⟩:=hx.lst_of
   obtain⟨b,ys,rfl,s2,r2⟩:=hy.lst_of
   simp only[Zj8] at p
   split at p
   ·rename_i h
    refine Zja pins s σ H _ _ v u Q I rx ry ⟨a,b,xs,ys,rfl,rfl,s1,s2,by rw[r1.length,r2.length];exact ZaX h,fun q hq=>?_⟩
    exact p _ _ (Zat hq _) (Zjf hA hq (r1.append r2))
   ·exact p.elim
  | _=>exact p.elim
 | tup ds =>
  cases dy with
  | tup es =>
   obtain⟨a,xs,rfl,na1,s1,r1⟩:=hx.tup_of
   obtain⟨b,ys,rfl,_,s2,r2⟩:=hy.tup_of
   simp only[ZsL] at p
   split at p
   ·rename_i h
    simp only[Bool.and_eq_true] at h
    refine ZnS pins s σ H _ _ v u Q I rx ry ⟨a,b,xs,ys,rfl,rfl,s1,s2,?_,by rw[r1.length,r2.length];exact ZaX h.2,fun hy0=>?_,fun _ q hq=>?_⟩
    ·rintro rfl
     cases ds with
     | nil=>cases h.1
     | cons _ _=>exact r1.elim
    ·subst hy0
     cases es with
     | nil=>rw[List.append_nil] at p;exact p _ H (Zag.refl H) ⟨a,xs,rfl,na1,s1,r1⟩
     | cons _ _=>exact r2.elim
    ·exact p _ _ (Zat hq _) (Zdy hA hq (r1.append r2))
   ·exact p.elim
  | _=>exact p.elim
 | _=>exact p.elim
theorem ZeU{op:Operator}{C:Int->Int->Prop}{g:Int->Int->Int}(ho:OpR X (binaryOp op) (rI C fun i j=>.int (g i j)))
  (hg:∀ dx dy,(∃ i j,dx=.int i/\dy=.int j/\((C i j/\ZcA op dx dy=.ok (.int (g i j)))\/ZcA op dx dy=.bad))\/ZcA op dx dy=.bad):OpD X CL W (binaryOp op) (ZcA op):=by
 intro A pins s σ H x y v u Q I rx ry ⟨hA,dx,dy,hx,hy,p⟩
 rcases hg dx dy with ⟨i,j,rfl,rfl,⟨c,e⟩|e⟩|e
 ·have ex:=hx.int_of;have ey:=hy.int_of
  subst ex ey
  rw[e] at p
  exact ho pins s σ H _ _ v u Q I rx ry ⟨i,j,rfl,rfl,c,p _ H (Zag.refl H) rfl⟩
 ·rw[e] at p;exact p.elim
 ·rw[e] at p;exact p.elim
theorem ZnL:OpD X CL W (binaryOp .Sub) (ZcA .Sub):=by
 intro A pins s σ H x y v u Q I rx ry ⟨hA,dx,dy,hx,hy,p⟩
 cases dx with
 | int i =>
  cases dy with
  | int j =>
   have ex:=hx.int_of;have ey:=hy.int_of
   subst ex ey
   exact Zrd pins s σ H _ _ v u Q I rx ry ⟨i,j,rfl,rfl,p _ H (Zag.refl H) rfl⟩
  | _=>exact p.elim
 | _=>exact p.elim
theorem ZnN:OpD X CL W (binaryOp .Mult) (ZcA .Mult):=ZeU ZnQ fun dx dy=>by
 cases dx with
 | int i =>
  cases dy with
  | int j =>
   refine .inl ⟨i,j,rfl,rfl,?_⟩
   rw[Zro]
   split
   ·rename_i h;exact .inl ⟨ZnZ h,rfl⟩
   ·exact .inr rfl
  | _=>exact .inr rfl
 | _=>exact .inr rfl
theorem Zk0:OpD X CL W (binaryOp .FloorDiv) (ZcA .FloorDiv):=ZeU ZnR fun dx dy=>by
 cases dx with
 | int i =>
  cases dy with
  | int j =>
   refine .inl ⟨i,j,rfl,rfl,?_⟩
   rw[Zoq]
   split
   ·rename_i h;exact .inl ⟨h,rfl⟩
   ·exact .inr rfl
  | _=>exact .inr rfl
 | _=>exact .inr rfl
theorem ZnO:OpD X CL W (binaryOp .Mod) (ZcA .Mod):=ZeU Zrf fun dx dy=>by
 cases dx with
 | int i =>
  cases dy with
  | int j =>
   refine .inl ⟨i,j,rfl,rfl,?_⟩
   rw[Zrp]
   split
   ·rename_i h;exact .inl ⟨h,rfl⟩
   ·exact .inr rfl
  | _=>exact .inr rfl
 | _=>exact .inr rfl
theorem ZnM:OpD X CL W (binaryOp .Pow) (ZcA .Pow):=ZeU Zre fun dx dy=>by
 cases dx with
 | int i =>
  cases dy with
  | int j =>
   refine .inl ⟨i,j,rfl,rfl,?_⟩
   rw[ZqW]
   split
   ·rename_i h;exact .inl ⟨⟨h.1.1,h.1.2,by omega⟩,rfl⟩
   ·exact .inr rfl
  | _=>exact .inr rfl
 | _=>exact .inr rfl
theorem Zi8(op:Operator):OpD X CL W (binaryOp op) (ZcA op):=by
 cases op with
 | Add=>exact Zi9
 | Sub=>exact ZnL
 | Mult=>exact ZnN
 | FloorDiv=>exact Zk0
 | Mod=>exact ZnO
 | Pow=>exact ZnM
 | _ =>
  intro A pins s σ H x y v u Q I rx ry ⟨hA,dx,dy,hx,hy,p⟩
  cases dx<;>cases dy<;>exact p.elim
noncomputable abbrev A0:Addr->Prop:=fun _=>False
theorem Zb1.plain{K:Fg}{H:Hp}{A:Addr->Prop}{v:V}{d:D}(h:Zb1 K CL H A v d):Rep K CL H A0 v d:=by
 rcases h with h|⟨a,xs,ds,rfl,rfl,e,r⟩
 ·exact Rep.sub (fun _ z=>z.elim) d h
 ·exact⟨a,xs,rfl,.inl fun z=>z.elim,SqL.of e,Reps.sub (fun _ z=>z.elim) ds r⟩
mutual
theorem Zll:∀ (n:Nat) (d:D),flD n d=true->eqD d d=true
 | _,.non,_=>rfl
 | _,.bl b,_=>by simp
 | _,.int i,_=>by simp
 | _,.str x,_=>by simp
 | n+1,.tup ds,h=>by
  show eqDs ds ds=true
  exact eqDs_refl n ds h
 | n+1,.lst ds,h=>by
  show eqDs ds ds=true
  exact eqDs_refl n ds h
 | 0,.tup ds,h=>by cases h
 | 0,.lst ds,h=>by cases h
 | n,.obj _ _,h=>by cases n<;>cases h
 | n,.exc _ _,h=>by cases n<;>cases h
 | n,.dic _,h=>by cases n<;>cases h
theorem eqDs_refl:∀ (n:Nat) (ds:List D),ds.all (flD n)=true->eqDs ds ds=true
 | _,[],_=>rfl
 | n,d::ds,h=>by
  simp only[List.all_cons,Bool.and_eq_true] at h
  simp only[ZdJ,Bool.and_eq_true]
  exact⟨Zll n d h.1,eqDs_refl n ds h.2⟩
end
theorem ZeF{pins:Pn}{σ:L2.St}{H:Hp}{s:Shared}{a:Addr}{xs ys:List V}(I:Inv X pins σ H s)(h:SqL X.K H a xs)(h':SqT X.K H a ys):False:=by
 obtain⟨its,r,⟨o,n,e,c,_,_⟩,_⟩:=I.list h
 obtain⟨its',r',⟨o',e',c',_⟩,_⟩:=I.tuple h'
 rw[e] at e';cases e'
 rw[c] at c'
 injection c' with z
 exact absurd z (by decide)
mutual
theorem ZeR{pins:Pn}{σ:L2.St}{H:Hp}{s:Shared}(I:Inv X pins σ H s):∀ (n:Nat) (d e:D) {v:V},flD n d=true->flD n e=true->Rep X.K CL H A0 v d->Rep X.K CL H A0 v e->d=e
 | n,.tup ds,e,v,hd,he,r,q=>by
  obtain⟨a,xs,rfl,_,s1,r1⟩:=r
  cases e with
  | tup es =>
   obtain⟨b,ys,e,_,s2,r2⟩:=q
   cases e
   have z:=I.tuple_inj s1 s2
   subst z
   cases n with
   | zero=>cases hd
   | succ n=>rw[reps_inj I n ds es hd he r1 r2]
  | lst es =>
   obtain⟨b,ys,e,_,s2,r2⟩:=q
   cases e
   exact(ZeF I s2 s1).elim
  | obj=>cases n<;>cases he
  | exc=>cases n<;>cases he
  | dic=>cases n<;>cases he
  | _=>cases q
 | n,.lst ds,e,v,hd,he,r,q=>by
  obtain⟨a,xs,rfl,_,s1,r1⟩:=r
  cases e with
  | lst es =>
   obtain⟨b,ys,e,_,s2,r2⟩:=q
   cases e
   have z:=I.list_inj s1 s2
   subst z
   cases n with
   | zero=>cases hd
   | succ n=>rw[reps_inj I n ds es hd he r1 r2]
  | tup es =>
   obtain⟨b,ys,e,_,s2,r2⟩:=q
   cases e
   exact(ZeF I s1 s2).elim
  | obj=>cases n<;>cases he
  | exc=>cases n<;>cases he
  | dic=>cases n<;>cases he
  | _=>cases q
 | n,.obj _ _,e,v,hd,he,r,q=>by cases n<;>cases hd
 | n,.exc _ _,e,v,hd,he,r,q=>by cases n<;>cases hd
 | n,.dic _,e,v,hd,he,r,q=>by cases n<;>cases hd
 | n,.non,e,v,hd,he,r,q=>by
  cases r
  cases e with
  | tup=>obtain⟨_,_,z,_⟩:=q;cases z
  | lst=>obtain⟨_,_,z,_⟩:=q;cases z
  | obj=>cases n<;>cases he
  | exc=>cases n<;>cases he
  | dic=>cases n<;>cases he
  | _=>cases q<;>rfl
 | n,.bl b,e,v,hd,he,r,q=>by
  cases r
  cases e with
  | tup=>obtain⟨_,_,z,_⟩:=q;cases z
  | lst=>obtain⟨_,_,z,_⟩:=q;cases z
  | obj=>cases n<;>cases he
  | exc=>cases n<;>cases he
  | dic=>cases n<;>cases he
  | _=>cases q<;>rfl
 | n,.int b,e,v,hd,he,r,q=>by
  cases r
  cases e with
  | tup=>obtain⟨_,_,z,_⟩:=q;cases z
  | lst=>obtain⟨_,_,z,_⟩:=q;cases z
  | obj=>cases n<;>cases he
  | exc=>cases n<;>cases he
  | dic=>cases n<;>cases he
  | _=>cases q<;>rfl
 | n,.str b,e,v,hd,he,r,q=>by
  cases r
  cases e with
  | tup=>obtain⟨_,_,z,_⟩:=q;cases z
  | lst=>obtain⟨_,_,z,_⟩:=q;cases z
  | obj=>cases n<;>cases he
  | exc=>cases n<;>cases he
  | dic=>cases n<;>cases he
  | _=>cases q<;>rfl
theorem reps_inj{pins:Pn}{σ:L2.St}{H:Hp}{s:Shared}(I:Inv X pins σ H s):∀ (n:Nat) (ds es:List D) {xs:List V},ds.all (flD n)=true->es.all (flD n)=true->Reps X.K CL H A0 xs ds->Reps X.K CL H A0 xs es->ds=es
 | _,[],[],_,_,_,_,_=>rfl
 | n,d::ds,e::es,x::xs,hd,he,r,q=>by
  simp only[List.all_cons,Bool.and_eq_true] at hd he
  rw[ZeR I n d e hd.1 he.1 r.1 q.1,reps_inj I n ds es hd.2 he.2 r.2 q.2]
 | _,[],_::_,[],_,_,_,q=>q.elim
 | _,[],_::_,_::_,_,_,r,_=>r.elim
 | _,_::_,[],[],_,_,r,_=>r.elim
 | _,_::_,[],_::_,_,_,_,q=>q.elim
 | _,_::_,_::_,[],_,_,r,_=>r.elim
end
theorem Zcw:∀ {ds es:List D},ds.length≠es.length->eqDs ds es=false
 | [],[],h=>absurd rfl h
 | [],_::_,_=>rfl
 | _::_,[],_=>rfl
 | d::ds,e::es,h=>by
  simp only[ZdJ,Zcw (ds:=ds) (es:=es) (by simpa using h),Bool.and_false]
theorem Zce(n:Nat)(f:Nat->Bool):(List.range (n+1)).all f=(f 0&&(List.range n).all fun j=>f (j+1)):=by
 rw[List.range_succ_eq_map,List.all_cons,List.all_map]
 rfl
theorem Zcx:∀ {ds es:List D},ds.length=es.length->eqDs ds es=(List.range ds.length).all fun j=>eqD (ds.getD j .non) (es.getD j .non)
 | [],[],_=>rfl
 | d::ds,e::es,h=>by
  rw[ZdJ,Zcx (ds:=ds) (es:=es) (by simpa using h),List.length_cons,Zce]
  rfl
 | [],_::_,h=>by cases h
 | _::_,[],h=>by cases h
theorem Zd3{K:Fg}{H:Hp}{xs:List V}{ds:List D}{its:List Value}(r:Reps K CL H A0 xs ds)(rv:Zar xs its){j:Nat}(h:j<its.length) :
  ∃ x,Rep K CL H A0 x (ds.getD j .non)/\ZaR x its[j]:=by
 have e1:=rv.length
 have e2:=r.length
 have hd:ds[j]?=some (ds.getD j .non):=by
  rw[List.getD_eq_getElem?_getD,List.getElem?_eq_getElem (by omega)];rfl
 obtain⟨x,hx,q⟩:=r.get hd
 obtain⟨u,hu,ru⟩:=rv.get hx
 refine⟨x,q,?_⟩
 rw[List.getElem?_eq_getElem h] at hu
 cases hu
 exact ru
theorem ZbO{n:Nat}{ds:List D}(h:ds.all (flD n)=true)(j:Nat):flD n (ds.getD j .non)=true:=by
 rw[List.getD_eq_getElem?_getD]
 cases e:ds[j]? with
 | none=>cases n<;>rfl
 | some d=>exact List.all_eq_true.mp h d (List.mem_of_getElem? e)
def ZbQ(B:Around)(s:Shared)(u t:Value)(k:Bool):Prop:=SeqAt.RcAt B s u t k/\SeqAt.EqAt B s u t k/\SeqAt.RcNeAt B s u t (!k)
section
variable {B:Around} {s:Shared}
open SeqAt
theorem Zvr:ZbQ B s .none .none true:=⟨RcAt.none_none,EqAt.same _,RcNeAt.none_none⟩
theorem ZvL(a b:Bool):ZbQ B s (.bool a) (.bool b) (a == b):=⟨RcAt.bool_bool _ _,EqAt.bool_bool _ _,RcNeAt.bool_bool _ _⟩
theorem Zvu(b:Bool):ZbQ B s .none (.bool b) false:=⟨RcAt.none_bool _,EqAt.none_bool _,RcNeAt.none_bool _⟩
theorem ZvI(b:Bool):ZbQ B s (.bool b) .none false:=⟨RcAt.bool_none _,EqAt.bool_none _,RcNeAt.bool_none _⟩
theorem ZvE(a:Int)(t:Tok)(b:Int)(u:Tok):ZbQ B s (.int a t) (.int b u) (a == b):=⟨RcAt.int_int _ _ _ _,EqAt.int_int _ _ _ _,RcNeAt.int_int _ _ _ _⟩
theorem Zvk(a:Str)(t:Tok)(b:Str)(u:Tok):ZbQ B s (.str a t) (.str b u) (a == b):=⟨RcAt.str_str _ _ _ _,EqAt.str_str _ _ _ _,RcNeAt.str_str _ _ _ _⟩
theorem ZvB(a:Int)(t:Tok)(b:Str)(u:Tok):ZbQ B s (.int a t) (.str b u) false:=⟨RcAt.int_str _ _ _ _,EqAt.int_str _ _ _ _,RcNeAt.int_str _ _ _ _⟩
theorem Zvn(a:Str)(t:Tok)(b:Int)(u:Tok):ZbQ B s (.str a t) (.int b u) false:=⟨RcAt.str_int _ _ _ _,EqAt.str_int _ _ _ _,RcNeAt.str_int _ _ _ _⟩
theorem Zvt(b:Int)(u:Tok):ZbQ B s .none (.int b u) false:=⟨RcAt.none_int _ _,EqAt.none_int _ _,RcNeAt.none_int _ _⟩
theorem ZvC(b:Int)(u:Tok):ZbQ B s (.int b u) .none false:=⟨RcAt.int_none _ _,EqAt.int_none _ _,RcNeAt.int_none _ _⟩
theorem Zvq(b:Str)(u:Tok):ZbQ B s .none (.str b u) false:=⟨RcAt.none_str _ _,EqAt.none_str _ _,RcNeAt.none_str _ _⟩
theorem Zvl(b:Str)(u:Tok):ZbQ B s (.str b u) .none false:=⟨RcAt.str_none _ _,EqAt.str_none _ _,RcNeAt.str_none _ _⟩
theorem ZvK(a:Bool)(b:Int)(u:Tok):ZbQ B s (.bool a) (.int b u) (b2i a == b):=⟨RcAt.bool_int _ _ _,EqAt.bool_int _ _ _,RcNeAt.bool_int _ _ _⟩
theorem ZvF(a:Bool)(b:Int)(u:Tok):ZbQ B s (.int b u) (.bool a) (b == b2i a):=⟨RcAt.int_bool _ _ _,EqAt.int_bool _ _ _,RcNeAt.int_bool _ _ _⟩
theorem ZvH(a:Bool)(b:Str)(u:Tok):ZbQ B s (.bool a) (.str b u) false:=⟨RcAt.bool_str _ _ _,EqAt.bool_str _ _ _,RcNeAt.bool_str _ _ _⟩
theorem Zvo(a:Bool)(b:Str)(u:Tok):ZbQ B s (.str b u) (.bool a) false:=⟨RcAt.str_bool _ _ _,EqAt.str_bool _ _ _,RcNeAt.str_bool _ _ _⟩
variable {l:Addr} {items:Array Value}
theorem Zvx(h:s.heap.IsList l items)(hu:B.units<cLine):ZbQ B s (.ref l) .none false:=⟨RcAt.list_none h hu,EqAt.list_none h hu,RcNeAt.list_none h hu⟩
theorem Zvs(h:s.heap.IsList l items)(hu:B.units<cLine):ZbQ B s .none (.ref l) false:=⟨RcAt.none_list h hu,EqAt.none_list h hu,RcNeAt.none_list h hu⟩
theorem Zvz(b:Bool)(h:s.heap.IsList l items)(hu:B.units<cLine):ZbQ B s (.ref l) (.bool b) false:=⟨RcAt.list_bool b h hu,EqAt.list_bool b h hu,RcNeAt.list_bool b h hu⟩
theorem ZvJ(b:Bool)(h:s.heap.IsList l items)(hu:B.units<cLine):ZbQ B s (.bool b) (.ref l) false:=⟨RcAt.bool_list b h hu,EqAt.bool_list b h hu,RcNeAt.bool_list b h hu⟩
theorem Zvy(b:Int)(u:Tok)(h:s.heap.IsList l items)(hu:B.units<cLine):ZbQ B s (.ref l) (.int b u) false:=⟨RcAt.list_int b u h hu,EqAt.list_int b u h hu,RcNeAt.list_int b u h hu⟩
theorem ZvD(b:Int)(u:Tok)(h:s.heap.IsList l items)(hu:B.units<cLine):ZbQ B s (.int b u) (.ref l) false:=⟨RcAt.int_list b u h hu,EqAt.int_list b u h hu,RcNeAt.int_list b u h hu⟩
theorem Zvw(b:Str)(u:Tok)(h:s.heap.IsList l items)(hu:B.units<cLine):ZbQ B s (.ref l) (.str b u) false:=⟨RcAt.list_str b u h hu,EqAt.list_str b u h hu,RcNeAt.list_str b u h hu⟩
theorem Zvm(b:Str)(u:Tok)(h:s.heap.IsList l items)(hu:B.units<cLine):ZbQ B s (.str b u) (.ref l) false:=⟨RcAt.str_list b u h hu,EqAt.str_list b u h hu,RcNeAt.str_list b u h hu⟩
theorem Zvf(h:s.heap.IsTuple l items)(hu:B.units<cLine):ZbQ B s (.ref l) .none false:=⟨RcAt.tuple_none h hu,EqAt.tuple_none h hu,RcNeAt.tuple_none h hu⟩
theorem Zvp(h:s.heap.IsTuple l items)(hu:B.units<cLine):ZbQ B s .none (.ref l) false:=⟨RcAt.none_tuple h hu,EqAt.none_tuple h hu,RcNeAt.none_tuple h hu⟩
theorem Zvi(b:Bool)(h:s.heap.IsTuple l items)(hu:B.units<cLine):ZbQ B s (.ref l) (.bool b) false:=⟨RcAt.tuple_bool b h hu,EqAt.tuple_bool b h hu,RcNeAt.tuple_bool b h hu⟩
theorem ZvG(b:Bool)(h:s.heap.IsTuple l items)(hu:B.units<cLine):ZbQ B s (.bool b) (.ref l) false:=⟨RcAt.bool_tuple b h hu,EqAt.bool_tuple b h hu,RcNeAt.bool_tuple b h hu⟩
theorem Zvh(b:Int)(u:Tok)(h:s.heap.IsTuple l items)(hu:B.units<cLine):ZbQ B s (.ref l) (.int b u) false:=⟨RcAt.tuple_int b u h hu,EqAt.tuple_int b u h hu,RcNeAt.tuple_int b u h hu⟩
theorem ZvA(b:Int)(u:Tok)(h:s.heap.IsTuple l items)(hu:B.units<cLine):ZbQ B s (.int b u) (.ref l) false:=⟨RcAt.int_tuple b u h hu,EqAt.int_tuple b u h hu,RcNeAt.int_tuple b u h hu⟩
theorem Zve(b:Str)(u:Tok)(h:s.heap.IsTuple l items)(hu:B.units<cLine):ZbQ B s (.ref l) (.str b u) false:=⟨RcAt.tuple_str b u h hu,EqAt.tuple_str b u h hu,RcNeAt.tuple_str b u h hu⟩
theorem Zvj(b:Str)(u:Tok)(h:s.heap.IsTuple l items)(hu:B.units<cLine):ZbQ B s (.str b u) (.ref l) false:=⟨RcAt.str_tuple b u h hu,EqAt.str_tuple b u h hu,RcNeAt.str_tuple b u h hu⟩
theorem Zvv{b:Addr}{items2:Array Value}(h:s.heap.IsList l items)(h2:s.heap.IsTuple b items2)(hu:B.units<cLine):ZbQ B s (.ref l) (.ref b) false:=⟨RcAt.list_tuple h h2 hu,EqAt.list_tuple h h2 hu,RcNeAt.list_tuple h h2 hu⟩
theorem Zvg{b:Addr}{items2:Array Value}(h:s.heap.IsTuple l items)(h2:s.heap.IsList b items2)(hu:B.units<cLine):ZbQ B s (.ref l) (.ref b) false:=⟨RcAt.tuple_list h h2 hu,EqAt.tuple_list h h2 hu,RcNeAt.tuple_list h h2 hu⟩
end
end
end Ov
end
section
namespace Ov
open PySem PySem.Spec PyProof.Rows L2
section
variable {X:Cx} {CL:ClA} {W:XW}
theorem Zci{h:Heap}{a:Addr}{its:Array Value}(x:PlainL h a its):h.IsList a its:=let ⟨o,n,e,c,_,d⟩:=x;⟨o,e,c,n,d⟩
def ZzJ(X:Cx)(CL:ClA)(H:Hp)(s:Shared)(d:D)(u:Value):Prop:=match d with
  | .non=>u=.none
  | .bl b=>u=.bool b
  | .int i=>∃ t,u=.int i t
  | .str x=>∃ t,u=.str x t
  | .tup ds=>∃ a xs its,u=.ref a/\Reps X.K CL H A0 xs ds/\Zar xs its/\s.heap.IsTuple a its.toArray
  | .lst ds=>∃ a xs its,u=.ref a/\Reps X.K CL H A0 xs ds/\Zar xs its/\s.heap.IsList a its.toArray
  | _=>False
theorem ZiE{pins:Pn}{σ:L2.St}{H:Hp}{s:Shared}(I:Inv X pins σ H s){n:Nat}{d:D}{v:V}{u:Value}(hd:flD n d=true)(r:Rep X.K CL H A0 v d)(q:ZaR v u):ZzJ X CL H s d u:=by
 cases d with
 | non=>cases r;exact q
 | bl b=>cases r;exact q
 | int b=>cases r;exact q
 | str b=>cases r;exact q
 | tup ds =>
  obtain⟨a,xs,rfl,_,sq,r⟩:=r
  obtain⟨its,rv,p,_⟩:=I.tuple sq
  cases q
  exact⟨a,xs,its,rfl,r,rv,p⟩
 | lst ds =>
  obtain⟨a,xs,rfl,_,sq,r⟩:=r
  obtain⟨its,rv,p,_⟩:=I.list sq
  cases q
  exact⟨a,xs,its,rfl,r,rv,Zci p⟩
 | obj=>cases n<;>cases hd
 | exc=>cases n<;>cases hd
 | dic=>cases n<;>cases hd
theorem Znh{B:Around}{s:Shared}{l b:Addr}{its its2:List Value}{ds es:List D}(hl:s.heap.IsList l its.toArray)(hb:s.heap.IsList b its2.toArray)(e1:its.length=ds.length)(e2:its2.length=es.length)(hu:B.units<cLine)
  (hs:l=b->eqDs ds es=true)
  (he:∀ j (h1:j<its.length) (h2:j<its2.length),SeqAt.EqAt B.in1 s its[j] its2[j] (eqD (ds.getD j .non) (es.getD j .non))):ZbQ B s (.ref l) (.ref b) (eqDs ds es):=by
 have rc:SeqAt.RcAt B s (.ref l) (.ref b) (eqDs ds es):=by
  by_cases hz:its.length=its2.length
  ·have q:=SeqAt.RcAt.lists (e:=fun j=>eqD (ds.getD j .non) (es.getD j .non)) hl hb (by simpa using hz) hu (fun j h1 h2=>by simpa using he j (by simpa using h1) (by simpa using h2))
   rw[Zcx (by omega)]
   have e:its.toArray.size=ds.length:=by simpa using e1
   rw[e] at q
   exact q
  ·rw[Zcw (by omega)]
   exact SeqAt.RcAt.lists_lengths hl hb (by simpa using hz) hu
 have ne:SeqAt.RcNeAt B s (.ref l) (.ref b) (!eqDs ds es):=by
  by_cases hz:its.length=its2.length
  ·have q:=SeqAt.RcNeAt.lists (e:=fun j=>eqD (ds.getD j .non) (es.getD j .non)) hl hb (by simpa using hz) hu (fun j h1 h2=>by simpa using he j (by simpa using h1) (by simpa using h2))
   rw[Zcx (by omega)]
   have e:its.toArray.size=ds.length:=by simpa using e1
   rw[e] at q
   exact q
  ·rw[Zcw (by omega)]
   exact SeqAt.RcNeAt.lists_lengths hl hb (by simpa using hz) hu
 refine⟨rc,?_,ne⟩
 by_cases hlb:l=b
 ·rw[hs hlb,hlb]
  exact SeqAt.EqAt.same _
 ·exact SeqAt.EqAt.of_refs hlb rc
theorem Zng{B:Around}{s:Shared}{l b:Addr}{its its2:List Value}{ds es:List D}(hl:s.heap.IsTuple l its.toArray)(hb:s.heap.IsTuple b its2.toArray)(e1:its.length=ds.length)(e2:its2.length=es.length)(hu:B.units<cLine)
  (hs:l=b->eqDs ds es=true)
  (he:∀ j (h1:j<its.length) (h2:j<its2.length),SeqAt.EqAt B.in1 s its[j] its2[j] (eqD (ds.getD j .non) (es.getD j .non))):ZbQ B s (.ref l) (.ref b) (eqDs ds es):=by
 have rc:SeqAt.RcAt B s (.ref l) (.ref b) (eqDs ds es):=by
  have q:=SeqAt.RcAt.tuples (e:=fun j=>eqD (ds.getD j .non) (es.getD j .non)) hl hb hu (fun j h1 h2=>by simpa using he j (by simpa using h1) (by simpa using h2))
  have e:its.toArray.size=ds.length:=by simpa using e1
  have e':its2.toArray.size=es.length:=by simpa using e2
  rw[e,e'] at q
  by_cases hz:ds.length=es.length
  ·rw[Zcx hz]
   rw[hz,Nat.min_self,beq_self_eq_true,Bool.and_true] at q
   rw[hz]
   exact q
  ·rw[Zcw hz]
   rw[beq_eq_false_iff_ne.mpr hz,Bool.and_false] at q
   exact q
 have ne:SeqAt.RcNeAt B s (.ref l) (.ref b) (!eqDs ds es):=by
  have q:=SeqAt.RcNeAt.tuples (e:=fun j=>eqD (ds.getD j .non) (es.getD j .non)) hl hb hu (fun j h1 h2=>by simpa using he j (by simpa using h1) (by simpa using h2))
  have e:its.toArray.size=ds.length:=by simpa using e1
  have e':its2.toArray.size=es.length:=by simpa using e2
  rw[e,e'] at q
  by_cases hz:ds.length=es.length
  ·rw[Zcx hz]
   rw[hz,Nat.min_self,beq_self_eq_true,Bool.and_true] at q
   rw[hz]
   exact q
  ·rw[Zcw hz]
   rw[beq_eq_false_iff_ne.mpr hz,Bool.and_false] at q
   exact q
 refine⟨rc,?_,ne⟩
 by_cases hlb:l=b
 ·rw[hs hlb,hlb]
  exact SeqAt.EqAt.same _
 ·exact SeqAt.EqAt.of_refs hlb rc
theorem ZfO{pins:Pn}{σ:L2.St}{H:Hp}{s:Shared}(I:Inv X pins σ H s):∀ (n:Nat) (d e:D) (v w':V) (u t:Value) (B:Around),flD n d=true->flD n e=true->Rep X.K CL H A0 v d->Rep X.K CL H A0 w' e->ZaR v u->ZaR w' t->B.units+n<cLine ->
    ZbQ B s u t (eqD d e)
  | n,d,e,v,w',u,t,B,hd,he,r,q,rv,rw',hu=>by
    have hu0:B.units<cLine:=by omega
    have sd:=ZiE I hd r rv
    have se:=ZiE I he q rw'
    match d,e,sd,se with
    | .non,.non,s1,s2=>cases s1;cases s2;exact Zvr
    | .non,.bl b,s1,s2=>cases s1;cases s2;exact Zvu b
    | .non,.int b,s1,s2=>cases s1;obtain⟨_,rfl⟩:=s2;exact Zvt b _
    | .non,.str b,s1,s2=>cases s1;obtain⟨_,rfl⟩:=s2;exact Zvq b _
    | .non,.tup es,s1,s2=>cases s1;obtain⟨_,_,_,rfl,_,_,p⟩:=s2;exact Zvp p hu0
    | .non,.lst es,s1,s2=>cases s1;obtain⟨_,_,_,rfl,_,_,p⟩:=s2;exact Zvs p hu0
    | .bl a,.non,s1,s2=>cases s1;cases s2;exact ZvI a
    | .bl a,.bl b,s1,s2=>cases s1;cases s2;exact ZvL a b
    | .bl a,.int b,s1,s2=>cases s1;obtain⟨_,rfl⟩:=s2;exact ZvK a b _
    | .bl a,.str b,s1,s2=>cases s1;obtain⟨_,rfl⟩:=s2;exact ZvH a b _
    | .bl a,.tup es,s1,s2=>cases s1;obtain⟨_,_,_,rfl,_,_,p⟩:=s2;exact ZvG a p hu0
    | .bl a,.lst es,s1,s2=>cases s1;obtain⟨_,_,_,rfl,_,_,p⟩:=s2;exact ZvJ a p hu0
    | .int a,.non,s1,s2=>obtain⟨_,rfl⟩:=s1;cases s2;exact ZvC a _
    | .int a,.bl b,s1,s2=>obtain⟨_,rfl⟩:=s1;cases s2;exact ZvF b a _
    | .int a,.int b,s1,s2=>obtain⟨_,rfl⟩:=s1;obtain⟨_,rfl⟩:=s2;exact ZvE a _ b _
    | .int a,.str b,s1,s2=>obtain⟨_,rfl⟩:=s1;obtain⟨_,rfl⟩:=s2;exact ZvB a _ b _
    | .int a,.tup es,s1,s2=>obtain⟨_,rfl⟩:=s1;obtain⟨_,_,_,rfl,_,_,p⟩:=s2;exact ZvA a _ p hu0
    | .int a,.lst es,s1,s2=>obtain⟨_,rfl⟩:=s1;obtain⟨_,_,_,rfl,_,_,p⟩:=s2;exact ZvD a _ p hu0
    | .str a,.non,s1,s2=>obtain⟨_,rfl⟩:=s1;cases s2;exact Zvl a _
    | .str a,.bl b,s1,s2=>obtain⟨_,rfl⟩:=s1;cases s2;exact Zvo b a _
    | .str a,.int b,s1,s2=>obtain⟨_,rfl⟩:=s1;obtain⟨_,rfl⟩:=s2;exact Zvn a _ b _
    | .str a,.str b,s1,s2=>obtain⟨_,rfl⟩:=s1;obtain⟨_,rfl⟩:=s2;exact Zvk a _ b _
    | .str a,.tup es,s1,s2=>obtain⟨_,rfl⟩:=s1;obtain⟨_,_,_,rfl,_,_,p⟩:=s2;exact Zvj a _ p hu0
    | .str a,.lst es,s1,s2=>obtain⟨_,rfl⟩:=s1;obtain⟨_,_,_,rfl,_,_,p⟩:=s2;exact Zvm a _ p hu0
    | .tup ds,.non,s1,s2=>cases s2;obtain⟨_,_,_,rfl,_,_,p⟩:=s1;exact Zvf p hu0
    | .tup ds,.bl b,s1,s2=>cases s2;obtain⟨_,_,_,rfl,_,_,p⟩:=s1;exact Zvi b p hu0
    | .tup ds,.int b,s1,s2=>obtain⟨_,rfl⟩:=s2;obtain⟨_,_,_,rfl,_,_,p⟩:=s1;exact Zvh b _ p hu0
    | .tup ds,.str b,s1,s2=>obtain⟨_,rfl⟩:=s2;obtain⟨_,_,_,rfl,_,_,p⟩:=s1;exact Zve b _ p hu0
    | .tup ds,.lst es,s1,s2=>obtain⟨_,_,_,rfl,_,_,p⟩:=s1;obtain⟨_,_,_,rfl,_,_,p2⟩:=s2;exact Zvg p p2 hu0
    | .lst ds,.non,s1,s2=>cases s2;obtain⟨_,_,_,rfl,_,_,p⟩:=s1;exact Zvx p hu0
    | .lst ds,.bl b,s1,s2=>cases s2;obtain⟨_,_,_,rfl,_,_,p⟩:=s1;exact Zvz b p hu0
    | .lst ds,.int b,s1,s2=>obtain⟨_,rfl⟩:=s2;obtain⟨_,_,_,rfl,_,_,p⟩:=s1;exact Zvy b _ p hu0
    | .lst ds,.str b,s1,s2=>obtain⟨_,rfl⟩:=s2;obtain⟨_,_,_,rfl,_,_,p⟩:=s1;exact Zvw b _ p hu0
    | .lst ds,.tup es,s1,s2=>obtain⟨_,_,_,rfl,_,_,p⟩:=s1;obtain⟨_,_,_,rfl,_,_,p2⟩:=s2;exact Zvv p p2 hu0
    | .tup ds,.tup es,s1,s2 =>
      match n,hd,he,hu with
      | n+1,hd,he,hu =>
        obtain⟨a,xs,its,rfl,r1,v1,p1⟩:=s1
        obtain⟨b,ys,its2,rfl,r2,v2,p2⟩:=s2
        have l1:=v1.length;have l2:=r1.length;have l3:=v2.length;have l4:=r2.length
        refine Zng p1 p2 (by omega) (by omega) hu0 (fun hab=>?_) fun j h1 h2=>?_
        · have e1:v=.ref a:=ZaR.inj rv rfl
          have e2:w'=.ref b:=ZaR.inj rw' rfl
          subst e1 e2 hab
          have z:=ZeR I (n+1) _ _ hd he r q
          injection z with z
          rw[z]
          exact eqDs_refl n es he
        · obtain⟨x,rx,qx⟩:=Zd3 r1 v1 h1
          obtain⟨y,ry,qy⟩:=Zd3 r2 v2 h2
          exact(ZfO I n _ _ x y _ _ B.in1 (ZbO hd j) (ZbO he j) rx ry qx qy (by show B.units+1+n<cLine;omega)).2.1
    | .lst ds,.lst es,s1,s2 =>
      match n,hd,he,hu with
      | n+1,hd,he,hu =>
        obtain⟨a,xs,its,rfl,r1,v1,p1⟩:=s1
        obtain⟨b,ys,its2,rfl,r2,v2,p2⟩:=s2
        have l1:=v1.length;have l2:=r1.length;have l3:=v2.length;have l4:=r2.length
        refine Znh p1 p2 (by omega) (by omega) hu0 (fun hab=>?_) fun j h1 h2=>?_
        · have e1:v=.ref a:=ZaR.inj rv rfl
          have e2:w'=.ref b:=ZaR.inj rw' rfl
          subst e1 e2 hab
          have z:=ZeR I (n+1) _ _ hd he r q
          injection z with z
          rw[z]
          exact eqDs_refl n es he
        · obtain⟨x,rx,qx⟩:=Zd3 r1 v1 h1
          obtain⟨y,ry,qy⟩:=Zd3 r2 v2 h2
          exact(ZfO I n _ _ x y _ _ B.in1 (ZbO hd j) (ZbO he j) rx ry qx qy (by show B.units+1+n<cLine;omega)).2.1
    | .obj _ _,_,s1,_=>exact s1.elim
    | .exc _ _,_,s1,_=>exact s1.elim
    | .dic _,_,s1,_=>exact s1.elim
    | _,.obj _ _,_,s2=>exact s2.elim
    | _,.exc _ _,_,s2=>exact s2.elim
    | _,.dic _,_,s2=>exact s2.elim
end
end Ov
end
section
namespace Ov
open PySem PySem.Spec PyProof.Rows L2
section
variable {X:Cx} {CL:ClA} {W:XW}
theorem Zhk{pins:Pn}{σ:L2.St}{H:Hp}{s:Shared}(I:Inv X pins σ H s){n:Nat}{xs:List V}{ds:List D}{its:List Value}{d:D}{v:V}{u:Value}(B:Around)(hd:flD n d=true)(hs:ds.all (flD n)=true)
  (r:Reps X.K CL H A0 xs ds) (rv:Zar xs its) (q:Rep X.K CL H A0 v d) (qv:ZaR v u) (hu:B.units+n<cLine) :
  ∃ e:Value->Bool,(∀ y,y∈its.toArray->SeqAt.EqAt B s y u (e y))/\its.toArray.any e=ds.any fun y=>eqD y d:=by
 have l1:=rv.length;have l2:=r.length
 have key:∀ y,y∈its->∃ k:Bool,SeqAt.EqAt B s y u k/\∀ j (h:j<its.length),its[j]=y->eqD (ds.getD j .non) d=k:=fun y hy=>by
  obtain⟨j,hj,rfl⟩:=List.getElem_of_mem hy
  obtain⟨x,rx,qx⟩:=Zd3 r rv hj
  refine⟨eqD (ds.getD j .non) d,(ZfO I n _ _ x v _ _ B (ZbO hs j) hd rx q qx qv hu).2.1,fun j' hj' e=>?_⟩
  obtain⟨x',rx',qx'⟩:=Zd3 r rv hj'
  rw[e] at qx'
  have z:=ZaR.inj qx qx'
  subst z
  rw[ZeR I n _ _ (ZbO hs j') (ZbO hs j) rx' rx]
 have key2:∀ y,∃ k:Bool,y∈its->SeqAt.EqAt B s y u k/\∀ j (h:j<its.length),its[j]=y->eqD (ds.getD j .non) d=k:=fun y=>by
  by_cases hy:y∈its
  ·obtain⟨k,hk⟩:=key y hy;exact⟨k,fun _=>hk⟩
  ·exact⟨true,fun h=>absurd h hy⟩
 refine⟨fun y=>Classical.choose (key2 y),fun y hy=>(Classical.choose_spec (key2 y) (by simpa using hy)).1,?_⟩
 rw[Bool.eq_iff_iff]
 simp only[List.any_toArray,List.any_eq_true]
 constructor
 ·rintro⟨y,hy,hk⟩
  obtain⟨j,hj,rfl⟩:=List.getElem_of_mem hy
  have z:=(Classical.choose_spec (key2 its[j]) hy).2 j hj rfl
  rw[hk] at z
  refine⟨ds.getD j .non,?_,z⟩
  rw[List.getD_eq_getElem?_getD,List.getElem?_eq_getElem (by omega)]
  exact List.getElem_mem _
 ·rintro⟨y,hy,hk⟩
  obtain⟨j,hj,rfl⟩:=List.getElem_of_mem hy
  have hj':j<its.length:=by omega
  refine⟨its[j],List.getElem_mem _,?_⟩
  have z:=(Classical.choose_spec (key2 its[j]) (List.getElem_mem _)).2 j hj' rfl
  rw[<- z,List.getD_eq_getElem?_getD,List.getElem?_eq_getElem hj]
  exact hk
theorem Zdj{op:CmpOp}{g:Int->Int->Bool}(ho:OpR X (compareOp op) (rI0 fun i j=>.bl (g i j)))(hg:∀ dx dy,(∃ i j,dx=.int i/\dy=.int j/\Za7 op dx dy=.ok (.bl (g i j)))\/Za7 op dx dy=.bad):OpD X CL W (compareOp op) (Za7 op):=by
 intro A pins s σ H x y v u Q I rx ry ⟨hA,dx,dy,hx,hy,p⟩
 rcases hg dx dy with ⟨i,j,rfl,rfl,e⟩|e
 ·have ex:=hx.int_of;have ey:=hy.int_of
  subst ex ey
  rw[e] at p
  exact ho pins s σ H _ _ v u Q I rx ry ⟨i,j,rfl,rfl,p _ H (Zag.refl H) rfl⟩
 ·rw[e] at p;exact p.elim
theorem Zmc{A:Addr->Prop}{H:Hp}{x:V}{d:D}(h:Zb1 X.K CL H A x d)(hd:d≠.non):x≠.non:=by
 rintro rfl
 have h:=h.plain
 cases d with
 | non=>exact hd rfl
 | tup=>obtain⟨_,_,e,_⟩:=h;cases e
 | lst=>obtain⟨_,_,e,_⟩:=h;cases e
 | obj=>obtain⟨_,_,_,_,e,_⟩:=h;cases e
 | exc=>obtain⟨_,_,_,e,_⟩:=h;cases e
 | dic=>exact h.elim
 | _=>cases h
theorem ZcO(hu:X.A.units+64<cLine)(op:CmpOp):OpD X CL W (compareOp op) (Za7 op):=by
 cases op with
 | Eq =>
  intro A pins s σ H x y v u Q I rx ry ⟨hA,dx,dy,hx,hy,p⟩
  rw[Zxk] at p
  split at p
  ·rename_i h
   simp only[Bool.and_eq_true] at h
   exact(ZfO I 5 dx dy x y v u X.A h.1 h.2 hx.plain hy.plain rx ry (by omega)).1 X.prog X.w X.xe _ ⟨.bl _,H,I,rfl,p _ H (Zag.refl H) rfl⟩
  ·exact p.elim
 | NotEq =>
  intro A pins s σ H x y v u Q I rx ry ⟨hA,dx,dy,hx,hy,p⟩
  rw[Zwn] at p
  split at p
  ·rename_i h
   simp only[Bool.and_eq_true] at h
   exact(ZfO I 5 dx dy x y v u X.A h.1 h.2 hx.plain hy.plain rx ry (by omega)).2.2 X.prog X.w X.xe _ ⟨.bl _,H,I,rfl,p _ H (Zag.refl H) rfl⟩
  ·exact p.elim
 | Lt=>exact Zdj Zwa fun dx dy=>by cases dx<;>cases dy<;>first|exact .inl ⟨_,_,rfl,rfl,rfl⟩|exact .inr rfl
 | LtE=>exact Zdj Zwb fun dx dy=>by cases dx<;>cases dy<;>first|exact .inl ⟨_,_,rfl,rfl,rfl⟩|exact .inr rfl
 | Gt=>exact Zdj Zwc fun dx dy=>by cases dx<;>cases dy<;>first|exact .inl ⟨_,_,rfl,rfl,rfl⟩|exact .inr rfl
 | GtE=>exact Zdj Zwd fun dx dy=>by cases dx<;>cases dy<;>first|exact .inl ⟨_,_,rfl,rfl,rfl⟩|exact .inr rfl
 | In =>
  intro A pins s σ H x y v u Q I rx ry ⟨hA,dx,dy,hx,hy,p⟩
  cases dy with
  | lst es =>
   rw[Zzw] at p
   split at p
   ·rename_i h
    simp only[Bool.and_eq_true] at h
    obtain⟨a,xs,e,_,sq,r⟩:=hy.plain
    subst e
    cases ry
    obtain⟨its,rv,pl,_⟩:=I.list sq
    obtain⟨e,he,ha⟩:=Zhk I (n:=5) X.A.in1 h.1 h.2 r rv hx.plain rx (by show X.A.units+1+5<cLine;omega)
    refine SeqAt.in_listAt e (Zci pl) he ?_
    rw[ha]
    exact⟨.bl _,H,I,rfl,p _ H (Zag.refl H) rfl⟩
   ·exact p.elim
  | tup es =>
   rw[Zzv] at p
   split at p
   ·rename_i h
    simp only[Bool.and_eq_true] at h
    obtain⟨a,xs,e,_,sq,r⟩:=hy.plain
    subst e
    cases ry
    obtain⟨its,rv,pl,_⟩:=I.tuple sq
    obtain⟨e,he,ha⟩:=Zhk I (n:=5) X.A.in1 h.1 h.2 r rv hx.plain rx (by show X.A.units+1+5<cLine;omega)
    refine SeqAt.in_tupleAt e pl he ?_
    rw[ha]
    exact⟨.bl _,H,I,rfl,p _ H (Zag.refl H) rfl⟩
   ·exact p.elim
  | dic kvs=>exact hy.plain.elim
  | _=>cases dx<;>exact p.elim
 | NotIn =>
  intro A pins s σ H x y v u Q I rx ry ⟨hA,dx,dy,hx,hy,p⟩
  cases dy with
  | lst es =>
   rw[Zwk] at p
   split at p
   ·rename_i h
    simp only[Bool.and_eq_true] at h
    obtain⟨a,xs,e,_,sq,r⟩:=hy.plain
    subst e
    cases ry
    obtain⟨its,rv,pl,_⟩:=I.list sq
    obtain⟨e,he,ha⟩:=Zhk I (n:=5) X.A.in1 h.1 h.2 r rv hx.plain rx (by show X.A.units+1+5<cLine;omega)
    refine SeqAt.notIn_listAt e (Zci pl) he ?_
    rw[ha]
    exact⟨.bl _,H,I,rfl,p _ H (Zag.refl H) rfl⟩
   ·exact p.elim
  | tup es =>
   rw[Zwj] at p
   split at p
   ·rename_i h
    simp only[Bool.and_eq_true] at h
    obtain⟨a,xs,e,_,sq,r⟩:=hy.plain
    subst e
    cases ry
    obtain⟨its,rv,pl,_⟩:=I.tuple sq
    obtain⟨e,he,ha⟩:=Zhk I (n:=5) X.A.in1 h.1 h.2 r rv hx.plain rx (by show X.A.units+1+5<cLine;omega)
    refine SeqAt.notIn_tupleAt e pl he ?_
    rw[ha]
    exact⟨.bl _,H,I,rfl,p _ H (Zag.refl H) rfl⟩
   ·exact p.elim
  | _=>cases dx<;>exact p.elim
 | Is =>
  intro A pins s σ H x y v u Q I rx ry ⟨hA,dx,dy,hx,hy,p⟩
  cases dy with
  | non =>
   have ey:=hy.non_of
   subst ey
   refine Zrg pins s σ H _ _ v u Q I rx ry ⟨rfl,?_⟩
   cases dx with
   | non =>
    have ex:=hx.non_of
    subst ex
    exact p _ H (Zag.refl H) rfl
   | exc=>exact p.elim
   | dic=>exact p.elim
   | _=>rw[decide_eq_false (Zmc hx (by simp))];exact p _ H (Zag.refl H) rfl
  | bl b =>
   cases dx with
   | bl a =>
    have ey:=hy.bl_of
    have ex:=hx.bl_of
    subst ex ey
    cases rx
    cases ry
    refine wpAny_is_plain rfl ⟨.bl (a == b),H,I,?_,p _ H (Zag.refl H) rfl⟩
    cases a<;>cases b<;>rfl
   | _=>exact p.elim
  | _=>cases dx<;>exact p.elim
 | IsNot =>
  intro A pins s σ H x y v u Q I rx ry ⟨hA,dx,dy,hx,hy,p⟩
  cases dy with
  | non =>
   have ey:=hy.non_of
   subst ey
   refine ZnP pins s σ H _ _ v u Q I rx ry ⟨rfl,?_⟩
   cases dx with
   | non =>
    have ex:=hx.non_of
    subst ex
    exact p _ H (Zag.refl H) rfl
   | exc=>exact p.elim
   | dic=>exact p.elim
   | _=>rw[decide_eq_false (Zmc hx (by simp))];exact p _ H (Zag.refl H) rfl
  | bl b =>
   cases dx with
   | bl a =>
    have ey:=hy.bl_of
    have ex:=hx.bl_of
    subst ex ey
    cases rx
    cases ry
    refine wpAny_isNot_plain rfl ⟨.bl (!(a == b)),H,I,?_,p _ H (Zag.refl H) rfl⟩
    cases a<;>cases b<;>rfl
   | _=>exact p.elim
  | _=>cases dx<;>exact p.elim
end
end Ov
end
section
namespace Ov
open PySem PySem.Spec PyProof.Rows L2
section
variable {X:Cx} {CL:ClA} {W:XW} {a b c:Expr} {fa fb fc:Rho->R D} {pos:Pos}
theorem ZaK.bind{Rp:Hp->V->D->Prop}{W:XW}{H:Hp}{r:R D}{f:D->R Bool}{Q:Bool->Hp->Prop}{Q':VK}(h:ZaK W H (r.bind f) Q)(k:∀ d v H',r=.ok d->Zag H H'->Rp H' v d->ZaK W H' (f d) Q->Q' v H'):Zas Rp W H r Q':=by
 cases r with
 | ok d=>exact fun v H2 s2 q=>k d v H2 rfl s2 q (ZaK.same s2 h)
 | exn x=>exact h
 | bad=>exact h
theorem ZaK.bindB{W:XW}{H:Hp}{r:R Bool}{f:Bool->R Bool}{Q:Bool->Hp->Prop}{Q':Bool->Hp->Prop}(h:ZaK W H (r.bind f) Q)(k:∀ b H',r=.ok b->Zag H H'->ZaK W H' (f b) Q->Q' b H'):ZaK W H r Q':=by
 cases r with
 | ok d=>exact fun H2 s2=>k d H2 rfl s2 (ZaK.same s2 h)
 | exn x=>exact h
 | bad=>exact h
theorem Zda.bind{Rp:Hp->List V->List D->Prop}{Rq:Hp->V->D->Prop}{W:XW}{H:Hp}{r:R (List D)}{f:List D->R D}{Q:VK}{Q':List V->Hp->Prop}(h:Zas Rq W H (r.bind f) Q)(k:∀ d v H',r=.ok d->Zag H H'->Rp H' v d->Zas Rq W H' (f d) Q->Q' v H'):Zda Rp W H r Q':=by
 cases r with
 | ok d=>exact fun v H2 s2 q=>k d v H2 rfl s2 q (Zas.same s2 h)
 | exn x=>exact h
 | bad=>exact h
theorem ZcD{Rq:Hp->V->D->Prop}{H:Hp}{d:D}{f:Bool->R D}{Q:VK}(h:Zas Rq W H ((Zc5 d).bind f) Q):∃ c,d=.bl c/\Zas Rq W H (f c) Q:=by
 cases d with
 | bl c=>exact⟨c,rfl,h⟩
 | _=>exact h.elim
theorem ZlM(ha:ST X CL W a fa):SE X CL W (.UnaryOp .Not a pos) (fun ρ=>(fa ρ).bind fun x=>(Zc5 x).bind fun b=>.ok (.bl (!b))):=fun A=>PE.weak (Zq3 (ha A)) fun σ H Q ⟨hA,ρ,g,p⟩=>⟨hA,ρ,g,Zas.bind p fun d v H1 _ s1 r1 p1=>by
 obtain⟨c,rfl,p2⟩:=ZcD p1
 exact⟨c,r1.bl_of,p2 _ H1 (Zag.refl H1) rfl⟩⟩
theorem ZiF{op}(ha:SE X CL W a fa):SE X CL W (.BoolOp op [a] pos) fa:=fun A=>Zq2 (ha A)
theorem ZlP{rest:List Expr}(ha:SE X CL W a fa)(hb:SE X CL W (.BoolOp .And (b::rest) pos) fb):SE X CL W (.BoolOp .And (a::b::rest) pos) (fun ρ=>(fa ρ).bind fun x=>(Zc5 x).bind fun c=>if c=true then fb ρ else .ok (.bl false)) :=
 fun A=>PE.weak (Zra (ha A) (hb A)) fun σ H Q ⟨hA,ρ,g,p⟩=>⟨hA,ρ,g,Zas.bind p fun d v H1 _ s1 r1 p1=>by
  obtain⟨c,rfl,p2⟩:=ZcD p1
  refine⟨c,r1,?_⟩
  cases c with
  | true=>exact⟨hA.same s1,ρ,g.same s1,p2⟩
  | false=>exact p2 _ H1 (Zag.refl H1) rfl⟩
theorem Zvc{rest:List Expr}(ha:SE X CL W a fa)(hb:SE X CL W (.BoolOp .Or (b::rest) pos) fb):SE X CL W (.BoolOp .Or (a::b::rest) pos) (fun ρ=>(fa ρ).bind fun x=>(Zc5 x).bind fun c=>if c=true then .ok (.bl true) else fb ρ) :=
 fun A=>PE.weak (Zv4 (ha A) (hb A)) fun σ H Q ⟨hA,ρ,g,p⟩=>⟨hA,ρ,g,Zas.bind p fun d v H1 _ s1 r1 p1=>by
  obtain⟨c,rfl,p2⟩:=ZcD p1
  refine⟨c,r1,?_⟩
  cases c with
  | false=>exact⟨hA.same s1,ρ,g.same s1,p2⟩
  | true=>exact p2 _ H1 (Zag.refl H1) rfl⟩
theorem ZkM{op op':CmpOp}(hu:X.A.units+64<cLine)(ha:ST X CL W a fa)(hb:ST X CL W b fb)(hc:ST X CL W c fc)(hm:lastMarks [op,op'] [b,c]=false) :
  SE X CL W (.Compare a [op,op'] [b,c] pos) (fun ρ=>(fa ρ).bind fun x=>(fb ρ).bind fun y=>(Za7 op x y).bind fun z=>(Zc5 z).bind fun k=>if k=true then (fc ρ).bind fun u=>Za7 op' y u else .ok (.bl false)) :=
 fun A=>PE.weak (ZkZ (ZcO hu op A) (ZcO hu op' A) (ha A) (hb A) (hc A) hm) fun σ H Q ⟨hA,ρ,g,p⟩=>⟨hA,ρ,g,Zas.bind p fun dx x H1 _ s1 r1 p1=>⟨hA.same s1,ρ,g.same s1,Zas.bind p1 fun dy y H2 _ s2 r2 p2 =>
  ⟨(hA.same s1).same s2,dx,dy,r1.same s2,r2,Zas.bind p2 fun dz z H3 _ s3 r3 p3=>by
   obtain⟨k,rfl,p4⟩:=ZcD p3
   refine⟨k,r3,?_⟩
   cases k with
   | false=>exact p4 _ H3 (Zag.refl H3) rfl
   | true=>exact⟨((hA.same s1).same s2).same s3,ρ,((g.same s1).same s2).same s3,Zas.bind p4 fun du u H4 _ s4 r4 p5=>⟨(((hA.same s1).same s2).same s3).same s4,dy,du,(r2.same s3).same s4,r4,p5⟩⟩⟩⟩⟩
theorem Zon{xs:List D}{i:Int}{d:D}(h:Zdm xs i=.ok d):∃ k,plD xs.length i=some k/\xs[k]?=some d:=by
 unfold Zdm at h
 split at h
 ·rename_i k e
  split at h
  ·rename_i d' e';cases h;exact⟨k,e,e'⟩
  ·cases h
 ·cases h
theorem Zhm{xs:List D}{i:Int}{x:Ex}(h:Zdm xs i=.exn x):False:=by
 unfold Zdm at h
 split at h
 ·split at h<;>cases h
 ·cases h
theorem ZjZ{K:Fg}{H:Hp}{A:Addr->Prop}{xs:List V}{ds:List D}{i:Int}{d:D}(r:Reps K CL H A xs ds)(h:Zdm ds i=.ok d):∃ v,atI xs i=some v/\Rep K CL H A v d:=by
 obtain⟨k,e,q⟩:=Zon h
 obtain⟨v,hv,rv⟩:=r.get q
 refine⟨v,?_,rv⟩
 unfold atI
 have:ixN xs.length i=some k:=by rw[r.length];exact e
 rw[this]
 exact hv
theorem Zqg(hs:ZgK b)(ha:ST X CL W a fa)(hb:ST X CL W b fb):SE X CL W (.Subscript a b pos) (fun ρ=>(fa ρ).bind fun x=>(fb ρ).bind fun y=>Zcq x y) :=
 fun A=>PE.weak (Zv5 (r:=fun x y H Q=>Zyj X.K x y H Q\/Zyi X.K x y H Q) (Zoe.or ZrE) (ha A) (hb A) hs) fun σ H Q h=>by
  obtain⟨hA,ρ,g,h⟩:=op2 h
  refine⟨hA,ρ,g,?_⟩
  cases e:fa ρ with
  | bad=>rw[e] at h;exact h
  | exn x=>rw[e] at h;exact h
  | ok dx0 =>
   rw[e] at h
   intro x H1 s1 r1
   obtain⟨hA1,ρ1,g1,h1⟩:=h x H1 s1 r1
   refine⟨hA1,ρ1,g1,?_⟩
   cases e1:fb ρ1 with
   | bad=>rw[e1] at h1;exact h1
   | exn x=>rw[e1] at h1;exact h1
   | ok dy0 =>
    rw[e1] at h1
    intro y H2 s2 r2
    obtain⟨hA2,dx,dy,rx,ry,p⟩:=h1 y H2 s2 r2
    cases dy with
    | int i =>
     have ey:=ry.int_of
     subst ey
     cases dx with
     | lst ds =>
      obtain⟨q,xs,rfl,sq,r⟩:=rx.lst_of
      rw[ZwG] at p
      cases e2:Zdm ds i with
      | ok d =>
       rw[e2] at p
       obtain⟨v,hv,rv⟩:=ZjZ r e2
       exact .inl ⟨q,xs,i,v,rfl,rfl,sq,hv,p v H2 (Zag.refl H2) rv⟩
      | exn x=>exact(Zhm e2).elim
      | bad=>rw[e2] at p;exact p.elim
     | tup ds =>
      obtain⟨q,xs,rfl,_,sq,r⟩:=rx.tup_of
      rw[ZwF] at p
      cases e2:Zdm ds i with
      | ok d =>
       rw[e2] at p
       obtain⟨v,hv,rv⟩:=ZjZ r e2
       exact .inr ⟨q,xs,i,v,rfl,rfl,sq,hv,p v H2 (Zag.refl H2) rv⟩
      | exn x=>exact(Zhm e2).elim
      | bad=>rw[e2] at p;exact p.elim
     | dic=>exact rx.plain.elim
     | _=>exact p.elim
    | _=>cases dx<;>first|exact p.elim|exact rx.plain.elim
theorem ZlR:SA X CL W [] (fun _=>.ok []):=fun A=>PA.weak Zbj fun σ H Q ⟨hA,ρ,g,p⟩=>p [] H (Zag.refl H) trivial
theorem ZiM{es:List Expr}{fs:Rho->R (List D)}(ha:SE X CL W a fa)(hs:SA X CL W es fs)(hst:starEach (a::es) X.env=(false,eval a X.env)::starEach es X.env):SA X CL W (a::es) (fun ρ=>(fa ρ).bind fun x=>(fs ρ).bind fun xs=>.ok (x::xs)) :=
 fun A=>PA.weak (Zao (ha A) (hs A) hst) fun σ H Q ⟨hA,ρ,g,p⟩=>by
  dsimp only at p
  refine⟨hA,ρ,g,?_⟩
  cases e:fa ρ with
  | bad=>rw[e] at p;exact p
  | exn x=>rw[e] at p;exact p
  | ok d =>
   rw[e] at p
   intro v H1 s1 r1
   refine⟨hA.same s1,ρ,g.same s1,?_⟩
   cases e1:fs ρ with
   | bad=>rw[R.bind_ok,e1] at p;exact p
   | exn x=>rw[R.bind_ok,e1] at p;exact fun H2 s2=>p H2 (s1.trans s2)
   | ok ds =>
    rw[R.bind_ok,e1] at p
    exact fun vs H2 s2 r2=>p (v::vs) H2 (s1.trans s2) ⟨r1.same s2,r2⟩
theorem Zp8{es:List Expr}{fs:Rho->R (List D)}{k:Nat}(hs:SA X CL W es fs)(hz:∀ ρ ds,fs ρ=.ok ds->ds.length<=100000):SE X CL W (.Tuple es k pos) (fun ρ=>(fs ρ).bind fun xs=>.ok (.tup xs)) :=
 fun A=>PE.weak (ZlW (hs A)) fun σ H Q ⟨hA,ρ,g,p⟩=>⟨hA,ρ,g,Zda.bind p fun ds vs H1 e s1 r1 p1=>⟨by
  rw[r1.length,sizeLine_eq];have:=hz ρ ds e;omega,fun q hq=>p1 _ _ (Zat hq _) (Zdy (hA.same s1) hq r1)⟩⟩
def ZgJ(W:XW)(H:Hp)(r:R (Option Int))(Q:Option Int->Hp->Prop):Prop:=match r with
  | .ok o=>∀ H',Zag H H'->Q o H'
  | .exn x=>∀ H',Zag H H'->W x H'
  | .bad=>False
theorem ZgJ.bind{Rq:Hp->V->D->Prop}{W:XW}{H:Hp}{r:R (Option Int)}{f:Option Int->R D}{Q:VK}{Q':Option Int->Hp->Prop}(h:Zas Rq W H (r.bind f) Q)(k:∀ o H',r=.ok o->Zag H H'->Zas Rq W H' (f o) Q->Q' o H'):ZgJ W H r Q':=by
 cases r with
 | ok d=>exact fun H2 s2=>k d H2 rfl s2 (Zas.same s2 h)
 | exn x=>exact h
 | bad=>exact h
def SO(X:Cx)(CL:ClA)(W:XW)(e:Option Expr)(f:Rho->R (Option Int)):Prop:=∀ A,PO X e (fun σ H Q=>AOk H A/\∃ ρ,Good X.K CL A ρ σ H/\ZgJ W H (f ρ) Q)
theorem PO.weak{X:Cx}{e:Option Expr}{t t':TO}(h:PO X e t)(k:∀ σ H Q,t' σ H Q->t σ H Q):PO X e t':=fun pins s σ H Q I q=>h pins s σ H Q I (k _ _ _ q)
theorem Zm7:SO X CL W none (fun _=>.ok none):=fun A=>PO.weak ZnH fun σ H Q ⟨hA,ρ,g,p⟩=>p H (Zag.refl H)
theorem Zm6(ha:ST X CL W a fa):SO X CL W (some a) (fun ρ=>(fa ρ).bind fun d=>(ZbE d).bind fun i=>.ok (some i)):=fun A=>PO.weak (ZnG (ha A)) fun σ H Q ⟨hA,ρ,g,p⟩=>by
 dsimp only at p
 refine⟨hA,ρ,g,?_⟩
 cases e:fa ρ with
 | bad=>rw[e] at p;exact p
 | exn x=>rw[e] at p;exact p
 | ok d =>
  rw[e] at p
  intro v H1 s1 r1
  cases d with
  | int i=>exact⟨i,r1.int_of,p H1 s1⟩
  | _=>exact p.elim
theorem ZjI{K:Fg}{H:Hp}{A:Addr->Prop}{xs:List V}{ds:List D}(lo hi:Option Int)(r:Reps K CL H A xs ds):Reps K CL H A (Zmr xs lo hi) (Zpr ds lo hi):=by
 unfold Zmr Zpr
 have e:∀ d o,HT.sIx xs.length d o=ZkQ ds.length d o:=fun d o=>by rw[r.length];cases o<;>rfl
 rw[e,e,r.length]
 exact(r.drop _).take _
end
end Ov
end
section
namespace Ov
open PySem PySem.Spec PyProof.Rows L2
section
variable {X:Cx} {CL:ClA} {W:XW} {a b c:Expr} {fa fb fc:Rho->R D} {pos:Pos}
def Zco(K:Fg)(CL:ClA)(H:Hp)(A:Addr->Prop):List V->List D->Prop
 | [],[]=>True
 | v::vs,d::ds=>Zb1 K CL H A v d/\Zco K CL H A vs ds
 | _,_=>False
theorem Zco.same{K:Fg}{H H':Hp}{A:Addr->Prop}(s:Zag H H'):∀ {vs:List V} {ds:List D},Zco K CL H A vs ds->Zco K CL H' A vs ds
 | [],[],h=>h
 | _::_,_::_,h=>⟨h.1.same s,Zco.same s h.2⟩
 | [],_::_,h=>h.elim
 | _::_,[],h=>h.elim
theorem Zco.one{K:Fg}{H:Hp}{A:Addr->Prop}{vs:List V}{d:D}(h:Zco K CL H A vs [d]):∃ v,vs=[v]/\Zb1 K CL H A v d:=by
 cases vs with
 | nil=>exact h.elim
 | cons v vs =>
  cases vs with
  | nil=>exact⟨v,rfl,h.1⟩
  | cons=>exact h.2.elim
theorem Zco.two{K:Fg}{H:Hp}{A:Addr->Prop}{vs:List V}{d e:D}(h:Zco K CL H A vs [d,e]):∃ v w',vs=[v,w']/\Zb1 K CL H A v d/\Zb1 K CL H A w' e:=by
 cases vs with
 | nil=>exact h.elim
 | cons v vs =>
  cases vs with
  | nil=>exact h.2.elim
  | cons w' vs =>
   cases vs with
   | nil=>exact⟨v,w',rfl,h.1,h.2.1⟩
   | cons=>exact h.2.2.elim
def SAT(X:Cx)(CL:ClA)(W:XW)(es:List Expr)(f:Rho->R (List D)):Prop:=∀ A,PA X es (fun σ H Q=>AOk H A/\∃ ρ,Good X.K CL A ρ σ H/\Zda (fun H=>Zco X.K CL H A) W H (f ρ) Q)
theorem ZiJ:SAT X CL W [] (fun _=>.ok []):=fun A=>PA.weak Zbj fun σ H Q ⟨hA,ρ,g,p⟩=>p [] H (Zag.refl H) trivial
theorem Zg1{es:List Expr}{fs:Rho->R (List D)}(ha:ST X CL W a fa)(hs:SAT X CL W es fs)(hst:starEach (a::es) X.env=(false,eval a X.env)::starEach es X.env):SAT X CL W (a::es) (fun ρ=>(fa ρ).bind fun x=>(fs ρ).bind fun xs=>.ok (x::xs)) :=
 fun A=>PA.weak (Zao (ha A) (hs A) hst) fun σ H Q ⟨hA,ρ,g,p⟩=>by
  dsimp only at p
  refine⟨hA,ρ,g,?_⟩
  cases e:fa ρ with
  | bad=>rw[e] at p;exact p
  | exn x=>rw[e] at p;exact p
  | ok d =>
   rw[e] at p
   intro v H1 s1 r1
   refine⟨hA.same s1,ρ,g.same s1,?_⟩
   cases e1:fs ρ with
   | bad=>rw[R.bind_ok,e1] at p;exact p
   | exn x=>rw[R.bind_ok,e1] at p;exact fun H2 s2=>p H2 (s1.trans s2)
   | ok ds =>
    rw[R.bind_ok,e1] at p
    exact fun vs H2 s2 r2=>p (v::vs) H2 (s1.trans s2) ⟨r1.same s2,r2⟩
def Zek(X:Cx)(CL:ClA)(W:XW)(f:Value)(g:List D->R D):Prop:=∀ A,Zdb X f (fun xs H Q=>AOk H A/\∃ ds,Zco X.K CL H A xs ds/\Zas (fun H=>Rep X.K CL H A) W H (g ds) Q)
theorem Zeq{x:Str}{id:String}{p:Pos}{e:Expr}{es:List Expr}{fs:Rho->R (List D)}{g:List D->R D}(hc:Zek X CL W (.builtin id) g)(hg:Gl X x)(hm:X.mg x=none)(hv:bootBuiltins x=some (.builtin id))(ha:SAT X CL W (e::es) fs)
    (hn:x≠"__name__") (hdb:(x == ("__debug__" : Str))=false) (he:starEach (e::es) X.env=(false,eval e X.env)::starEach es X.env) (hpl:∀ pos,(backTo pos (starEach es X.env)).any (·.1)=false) :
    SE X CL W (.Call (.Name x p) (e::es) [] pos) (fun ρ=>(fs ρ).bind g):=fun A=>PE.weak (Zb4 (hc A) hg hm hv (ha A) hn hdb he (hpl _)) fun σ H Q ⟨hA,ρ,gd,q⟩=>⟨hA,ρ,gd,Zda.bind q fun ds vs H1 _ s1 r1 p1=>⟨hA.same s1,ds,r1,p1⟩⟩
theorem ZlO{x:Str}{T:String}{p:Pos}{e:Expr}{es:List Expr}{fs:Rho->R (List D)}{g:List D->R D}(hc:Zek X CL W (.type T) g)(hg:Gl X x)(hm:X.mg x=none)(hv:bootBuiltins x=some (.type T))(ha:SAT X CL W (e::es) fs)
    (hn:x≠"__name__") (hdb:(x == ("__debug__" : Str))=false) (he:starEach (e::es) X.env=(false,eval e X.env)::starEach es X.env) (hpl:∀ pos,(backTo pos (starEach es X.env)).any (·.1)=false) :
    SE X CL W (.Call (.Name x p) (e::es) [] pos) (fun ρ=>(fs ρ).bind g):=fun A=>PE.weak (Zft (hc A) hg hm hv (ha A) hn hdb he (hpl _)) fun σ H Q ⟨hA,ρ,gd,q⟩=>⟨hA,ρ,gd,Zda.bind q fun ds vs H1 _ s1 r1 p1=>⟨hA.same s1,ds,r1,p1⟩⟩
theorem Zss:Zek X CL W (.builtin "len") (biD .len):=by
  intro A pins s σ H xs us Q I r ⟨hA,ds,rs,p⟩
  match ds,rs,p with
  | [.lst es],rs,p =>
    obtain⟨v,rfl,rv⟩:=rs.one
    obtain⟨q,ys,rfl,sq,ry⟩:=rv.lst_of
    exact Zc3 pins s σ H _ us Q I r ⟨q,ys,rfl,.inl sq,p _ H (Zag.refl H) (by rw[ry.length];rfl)⟩
  | [.tup es],rs,p =>
    obtain⟨v,rfl,rv⟩:=rs.one
    obtain⟨q,ys,rfl,_,sq,ry⟩:=rv.tup_of
    exact Zc3 pins s σ H _ us Q I r ⟨q,ys,rfl,.inr sq,p _ H (Zag.refl H) (by rw[ry.length];rfl)⟩
  | [.str x],rs,p =>
    obtain⟨v,rfl,rv⟩:=rs.one
    have e:=rv.str_of
    subst e
    have p':Zas (fun H=>Rep X.K CL H A) W H (if Zdo x.length=true then .ok (.int x.length) else .bad) Q:=p
    split at p'
    · rename_i h
      exact ZfT pins s σ H _ us Q I r ⟨x,rfl,ZaX h,p' _ H (Zag.refl H) rfl⟩
    · exact p'.elim
  | [],_,p=>exact p.elim
  | [.non],_,p=>exact p.elim
  | [.bl _],_,p=>exact p.elim
  | [.int _],_,p=>exact p.elim
  | [.obj _ _],_,p=>exact p.elim
  | [.exc _ _],_,p=>exact p.elim
  | [.dic _],rs,p=>first|exact p.elim|(obtain⟨v,rfl,rv⟩:=rs.one;exact rv.plain.elim)
  | x::_::_,_,p=>cases x<;>exact p.elim
theorem Zjk(ds:List D):(∃ i j,ds=[.int i,.int j])\/biD .max ds=.bad:=by
  match ds with
  | [.int i,.int j]=>exact .inl ⟨i,j,rfl⟩
  | []=>exact .inr rfl
  | [x]=>cases x<;>exact .inr rfl
  | x::y::z::r=>cases x<;>cases y<;>exact .inr rfl
  | [x,.non]=>cases x<;>exact .inr rfl
  | [x,.bl _]=>cases x<;>exact .inr rfl
  | [x,.str _]=>cases x<;>exact .inr rfl
  | [x,.tup _]=>cases x<;>exact .inr rfl
  | [x,.lst _]=>cases x<;>exact .inr rfl
  | [x,.obj _ _]=>cases x<;>exact .inr rfl
  | [x,.exc _ _]=>cases x<;>exact .inr rfl
  | [x,.dic _]=>cases x<;>exact .inr rfl
  | [.non,.int _]=>exact .inr rfl
  | [.bl _,.int _]=>exact .inr rfl
  | [.str _,.int _]=>exact .inr rfl
  | [.tup _,.int _]=>exact .inr rfl
  | [.lst _,.int _]=>exact .inr rfl
  | [.obj _ _,.int _]=>exact .inr rfl
  | [.exc _ _,.int _]=>exact .inr rfl
  | [.dic _,.int _]=>exact .inr rfl
theorem Zfy:∀ (is:List Int) (i:Int),Zkj i is∈i::is/\∀ a∈i::is,Zkj i is<=a
 | [],i=>⟨List.mem_cons_self,fun a h=>by rw[List.mem_singleton] at h;rw[h];exact Int.le_refl _⟩
 | j::r,i=>by
  obtain⟨h1,h2⟩:=Zfy r (if j<i then j else i)
  refine⟨?_,fun a h=>?_⟩
  ·show Zkj (if j<i then j else i) r∈_
   rcases List.mem_cons.mp h1 with e|e
   ·rw[e]
    split
    ·exact List.mem_cons_of_mem _ List.mem_cons_self
    ·exact List.mem_cons_self
   ·exact List.mem_cons_of_mem _ (List.mem_cons_of_mem _ e)
  ·show Zkj (if j<i then j else i) r<=a
   have h0:=h2 _ List.mem_cons_self
   rcases List.mem_cons.mp h with e|e
   ·subst e
    refine Int.le_trans h0 ?_
    split<;>omega
   ·rcases List.mem_cons.mp e with e|e
    ·subst e
     refine Int.le_trans h0 ?_
     split<;>omega
    ·exact h2 a (List.mem_cons_of_mem _ e)
theorem Zev:∀ {is:List Int} {its:List Value},Zar (is.map V.int) its->∃ xs:Array (Int×Tok),its.toArray=intItems xs/\xs.toList.map (·.1)=is
 | [],_,h=>by cases h;exact⟨#[],by simp[intItems],rfl⟩
 | i::is,_,h=>by
  cases h with
  | cons h1 h2 =>
   obtain⟨t,rfl⟩:=h1
   obtain⟨xs,e1,e2⟩:=Zev h2
   refine⟨((i,t)::xs.toList).toArray,?_,?_⟩
   ·apply Array.toList_inj.mp
    have e1':=congrArg Array.toList e1
    simp[intItems] at e1' ⊢
    exact e1'
   ·simp[e2]
theorem ZjR{X:Cx}(hc:X.calm=true):Zdb X (.builtin "min") (fun xs H Q=>∃ a i is,xs=[.ref a]/\SqL X.K H a ((i::is).map V.int)/\Q (.int (Zkj i is)) H):=by
 intro pins s σ H xs us Q I r h
 obtain⟨a,i,is,rfl,sq,q⟩:=h
 obtain⟨u,rfl,ru⟩:=ZcL r
 cases ru
 obtain⟨its,rv,pl,hz⟩:=I.list sq
 obtain⟨ys,e1,e2⟩:=Zev rv
 have hsz:0<ys.size:=by
  have:=congrArg List.length e2
  simp at this
  omega
 have hl:=pl.isList
 rw[e1] at hl
 refine min_intList (I.ok.hd hc) hl hsz fun v h' tk hv hk=>?_
 obtain⟨t,rfl⟩:=intItems_at hv
 obtain⟨h1,h2⟩:=argBest_lt (numAt ys) (ys.size-1)
 have nm:∀ j,j<ys.size->numAt ys j∈i::is:=fun j hj=>by
  rw[<- e2]
  unfold numAt
  rw[Array.getElem?_eq_getElem hj]
  simp only[Option.map_some,Option.getD_some]
  exact List.mem_map.mpr ⟨ys[j],by simp,rfl⟩
 have nx:∀ x∈i::is,∃ j,j<ys.size/\numAt ys j=x:=fun x hx=>by
  rw[<- e2] at hx
  obtain⟨y,hy,rfl⟩:=List.mem_map.mp hx
  obtain⟨j,hj,ej⟩:=Array.mem_iff_getElem.mp (Array.mem_toList_iff.mp hy)
  refine⟨j,hj,?_⟩
  unfold numAt
  rw[Array.getElem?_eq_getElem hj,ej]
  rfl
 obtain⟨m1,m2⟩:=Zfy is i
 have em:numAt ys (argBest (fun i j=>decide (numAt ys i<numAt ys j)) (ys.size-1))=Zkj i is:=by
  refine Int.le_antisymm ?_ (m2 _ (nm _ (by omega)))
  obtain⟨j,hj,ej⟩:=nx _ m1
  rw[<- ej]
  exact h2 j (by omega)
 rw[em]
 exact⟨.int (Zkj i is),H,I.kept hk,⟨_,rfl⟩,q⟩
theorem Zew{K:Fg}{CL:ClA}{H:Hp}{A:Addr->Prop}:∀ {es:List D} {is:List Int} {ys:List V},Zgy es=some is->Reps K CL H A ys es->ys=is.map V.int
 | [],_,[],h,_=>by cases h;rfl
 | [],_,_::_,_,r=>r.elim
 | _::_,_,[],_,r=>r.elim
 | e::es,is,y::ys,h,r=>by
  cases e with
  | int i =>
   have h':(Zgy es).map (i :: ·)=some is:=h
   cases e2:Zgy es with
   | none=>rw[e2] at h';cases h'
   | some js =>
    rw[e2] at h'
    cases h'
    have ih:=Zew e2 r.2
    have e1:y=.int i:=r.1
    rw[ih,e1]
    rfl
  | _=>cases h
theorem Zji(ds:List D)(hl:∀ es,ds≠[.lst es]):(∃ i j,ds=[.int i,.int j])\/biD .min ds=.bad:=by
  match ds with
  | [.int i,.int j]=>exact .inl ⟨i,j,rfl⟩
  | []=>exact .inr rfl
  | [x]=>cases x<;>first|exact .inr rfl|exact absurd rfl (hl _)
  | x::y::z::r=>cases x<;>cases y<;>exact .inr rfl
  | [x,.non]=>cases x<;>exact .inr rfl
  | [x,.bl _]=>cases x<;>exact .inr rfl
  | [x,.str _]=>cases x<;>exact .inr rfl
  | [x,.tup _]=>cases x<;>exact .inr rfl
  | [x,.lst _]=>cases x<;>exact .inr rfl
  | [x,.obj _ _]=>cases x<;>exact .inr rfl
  | [x,.exc _ _]=>cases x<;>exact .inr rfl
  | [x,.dic _]=>cases x<;>exact .inr rfl
  | [.non,.int _]=>exact .inr rfl
  | [.bl _,.int _]=>exact .inr rfl
  | [.str _,.int _]=>exact .inr rfl
  | [.tup _,.int _]=>exact .inr rfl
  | [.lst _,.int _]=>exact .inr rfl
  | [.obj _ _,.int _]=>exact .inr rfl
  | [.exc _ _,.int _]=>exact .inr rfl
  | [.dic _,.int _]=>exact .inr rfl
theorem Zsr(hc:X.calm=true):Zek X CL W (.builtin "max") (biD .max):=by
 intro A pins s σ H xs us Q I r ⟨hA,ds,rs,p⟩
 rcases Zjk ds with ⟨i,j,rfl⟩|e
 ·obtain⟨v,w',rfl,rv,rw'⟩:=rs.two
  have e1:=rv.int_of;have e2:=rw'.int_of
  subst e1 e2
  exact ZjT hc pins s σ H _ us Q I r ⟨i,j,rfl,p _ H (Zag.refl H) rfl⟩
 ·rw[e] at p;exact p.elim
theorem Zsq(hc:X.calm=true):Zek X CL W (.builtin "min") (biD .min):=by
  intro A pins s σ H xs us Q I r ⟨hA,ds,rs,p⟩
  by_cases hls:∃ es,ds=[.lst es]
  · obtain⟨es,rfl⟩:=hls
    obtain⟨v,rfl,rv⟩:=rs.one
    obtain⟨a,ys,rfl,sq,ry⟩:=rv.lst_of
    have p':Zas (Rep X.K CL · A) W H (match Zgy es with
      | some (i::is)=>R.ok (.int (Zkj i is))
      | _=>.bad) Q:=p
    cases e1:Zgy es with
    | none=>rw[e1] at p';exact p'.elim
    | some is =>
      cases is with
      | nil=>rw[e1] at p';exact p'.elim
      | cons i is =>
        rw[e1] at p'
        have ey:=Zew e1 ry
        subst ey
        exact ZjR hc pins s σ H _ us Q I r ⟨a,i,is,rfl,sq,p' _ H (Zag.refl H) rfl⟩
  rcases Zji ds (fun es z=>hls ⟨es,z⟩) with ⟨i,j,rfl⟩|e
  · obtain⟨v,w',rfl,rv,rw'⟩:=rs.two
    have e1:=rv.int_of;have e2:=rw'.int_of
    subst e1 e2
    exact ZjS hc pins s σ H _ us Q I r ⟨i,j,rfl,p _ H (Zag.refl H) rfl⟩
  · rw[e] at p;exact p.elim
theorem Zst:Zek X CL W (.type "int") (biD .int):=by
  intro A pins s σ H xs us Q I r ⟨hA,ds,rs,p⟩
  match ds,rs,p with
  | [.int i],rs,p =>
    obtain⟨v,rfl,rv⟩:=rs.one
    have e:=rv.int_of
    subst e
    exact ZfU pins s σ H _ us Q I r (.inl ⟨i,rfl,p _ H (Zag.refl H) rfl⟩)
  | [.bl i],rs,p =>
    obtain⟨v,rfl,rv⟩:=rs.one
    have e:=rv.bl_of
    subst e
    exact ZfU pins s σ H _ us Q I r (.inr ⟨i,rfl,p _ H (Zag.refl H) rfl⟩)
  | [],_,p=>exact p.elim
  | [.non],_,p=>exact p.elim
  | [.str _],_,p=>exact p.elim
  | [.tup _],_,p=>exact p.elim
  | [.lst _],_,p=>exact p.elim
  | [.obj _ _],_,p=>exact p.elim
  | [.exc _ _],_,p=>exact p.elim
  | [.dic _],rs,p=>first|exact p.elim|(obtain⟨v,rfl,rv⟩:=rs.one;exact rv.plain.elim)
  | x::_::_,_,p=>cases x<;>exact p.elim
theorem Zlr:Zek X CL W (.type "tuple") (biD .tuple):=by
  intro A pins s σ H xs us Q I r ⟨hA,ds,rs,p⟩
  match ds,rs,p with
  | [.lst es],rs,p =>
    obtain⟨v,rfl,rv⟩:=rs.one
    obtain⟨q,ys,rfl,sq,ry⟩:=rv.lst_of
    exact Zcz pins s σ H _ us Q I r ⟨q,ys,rfl,.inl ⟨sq,fun l hl=>p _ _ (Zat hl _) (Zdy hA hl ry)⟩⟩
  | [.tup es],rs,p =>
    obtain⟨v,rfl,rv⟩:=rs.one
    obtain⟨q,ys,rfl,na,sq,ry⟩:=rv.tup_of
    exact Zcz pins s σ H _ us Q I r ⟨q,ys,rfl,.inr ⟨sq,p _ H (Zag.refl H) ⟨q,ys,rfl,na,sq,ry⟩⟩⟩
  | [],_,p=>exact p.elim
  | [.non],_,p=>exact p.elim
  | [.bl _],_,p=>exact p.elim
  | [.int _],_,p=>exact p.elim
  | [.str _],_,p=>exact p.elim
  | [.obj _ _],_,p=>exact p.elim
  | [.exc _ _],_,p=>exact p.elim
  | [.dic _],rs,p=>first|exact p.elim|(obtain⟨v,rfl,rv⟩:=rs.one;exact rv.plain.elim)
  | x::_::_,_,p=>cases x<;>exact p.elim
end
end Ov
end
section
namespace Ov
open PySem PySem.Spec PyProof.Rows L2
section
variable {X:Cx} {CL:ClA} {W:XW} {a b c:Expr} {fa fb fc:Rho->R D} {pos:Pos}
theorem SB.congr{f g:Rho->R Bool}(h:SB X CL W a f)(e:∀ ρ,g ρ=f ρ):SB X CL W a g:=fun A=>PT.weak (h A) fun σ H Q ⟨hA,ρ,q,p⟩=>⟨hA,ρ,q,by rw[<- e];exact p⟩
theorem Zqk{f:Rho->R Bool}(ha:SB X CL W a f):SB X CL W (.UnaryOp .Not a pos) (fun ρ=>(f ρ).bind fun b=>.ok (!b)):=fun A=>PT.weak (ZqT (ha A)) fun σ H Q ⟨hA,ρ,g,p⟩=>⟨hA,ρ,g,ZaK.bindB p fun b H1 _ s1 p1=>p1 H1 (Zag.refl H1)⟩
def SW(X:Cx)(CL:ClA)(W:XW)(e:Expr)(f:Rho->R Bool):Prop:=∀ A,PW X e (fun σ H Q=>AOk H A/\∃ ρ,Good X.K CL A ρ σ H/\ZaK W H (f ρ) Q)
theorem PW.weak{X:Cx}{e:Expr}{t t':TT}(h:PW X e t)(k:∀ σ H Q,t' σ H Q->t σ H Q):PW X e t':=fun wh pins s σ H Q I q=>h wh pins s σ H Q I (k _ _ _ q)
theorem SW.sb{f:Rho->R Bool}(h:SW X CL W a f):SB X CL W a f:=fun A=>PW.pt (h A)
theorem SW.congr{f g:Rho->R Bool}(h:SW X CL W a f)(e:∀ ρ,g ρ=f ρ):SW X CL W a g:=fun A=>PW.weak (h A) fun σ H Q ⟨hA,ρ,q,p⟩=>⟨hA,ρ,q,by rw[<- e];exact p⟩
theorem ZmV{f:Rho->R Bool}(ha:SB X CL W a f):SW X CL W (.BoolOp .And [a] pos) f:=fun A=>Znx (ha A)
theorem ZlI{f:Rho->R Bool}(ha:SB X CL W a f):SW X CL W (.BoolOp .Or [a] pos) f:=fun A=>ZqR (ha A)
theorem ZpL{f g:Rho->R Bool}{rest:List Expr}(ha:SB X CL W a f)(hb:SW X CL W (.BoolOp .And (b::rest) pos) g):SW X CL W (.BoolOp .And (a::b::rest) pos) (fun ρ=>(f ρ).bind fun c=>if c=true then g ρ else .ok false) :=
 fun A=>PW.weak (ZqS (ha A) (hb A)) fun σ H Q ⟨hA,ρ,gd,p⟩=>⟨hA,ρ,gd,ZaK.bindB p fun c H1 _ s1 p1=>by
  cases c with
  | true=>exact⟨hA.same s1,ρ,gd.same s1,p1⟩
  | false=>exact p1 H1 (Zag.refl H1)⟩
theorem ZpK{f g:Rho->R Bool}{rest:List Expr}(ha:SB X CL W a f)(hb:SW X CL W (.BoolOp .Or (b::rest) pos) g):SW X CL W (.BoolOp .Or (a::b::rest) pos) (fun ρ=>(f ρ).bind fun c=>if c=true then .ok true else g ρ) :=
 fun A=>PW.weak (ZvY (ha A) (hb A)) fun σ H Q ⟨hA,ρ,gd,p⟩=>⟨hA,ρ,gd,ZaK.bindB p fun c H1 _ s1 p1=>by
  cases c with
  | false=>exact⟨hA.same s1,ρ,gd.same s1,p1⟩
  | true=>exact p1 H1 (Zag.refl H1)⟩
theorem Zql{op:CmpOp}{g:D->D->R D}(ho:OpD X CL W (compareOp op) g)(ha:ST X CL W a fa)(hb:ST X CL W b fb)(hm:behindInMarks op b=false):SB X CL W (.Compare a [op] [b] pos) (fun ρ=>(fa ρ).bind fun x=>(fb ρ).bind fun y=>(g x y).bind Zc5) :=
 fun A=>PT.weak (ZnC (ho A) (ha A) (hb A) hm) fun σ H Q ⟨hA,ρ,gd,p⟩=>⟨hA,ρ,gd,ZaK.bind p fun dx x H1 _ s1 r1 p1=>⟨hA.same s1,ρ,gd.same s1,ZaK.bind p1 fun dy y H2 _ s2 r2 p2 =>
  ⟨(hA.same s1).same s2,dx,dy,r1.same s2,r2,ZaK.bind p2 fun dz z H3 _ s3 r3 p3=>by
   cases dz with
   | bl k=>exact⟨k,r3,p3 H3 (Zag.refl H3)⟩
   | _=>exact p3.elim⟩⟩⟩
theorem ZkO{op op':CmpOp}(hu:X.A.units+64<cLine)(ha:ST X CL W a fa)(hb:ST X CL W b fb)(hc:ST X CL W c fc)(hm:lastMarks [op,op'] [b,c]=false) :
    SB X CL W (.Compare a [op,op'] [b,c] pos) (fun ρ=>(fa ρ).bind fun x=>(fb ρ).bind fun y=>(Za7 op x y).bind fun z=>(Zc5 z).bind fun k=>if k=true then (fc ρ).bind fun u=>(Za7 op' y u).bind Zc5 else .ok false) :=
  fun A=>PT.weak (ZkV (ZcO hu op A) (ZcO hu op' A) (ha A) (hb A) (hc A) hm) fun σ H Q ⟨hA,ρ,g,p⟩=>⟨hA,ρ,g,ZaK.bind p fun dx x H1 _ s1 r1 p1=>⟨hA.same s1,ρ,g.same s1,ZaK.bind p1 fun dy y H2 _ s2 r2 p2 =>
    ⟨(hA.same s1).same s2,dx,dy,r1.same s2,r2,ZaK.bind p2 fun dz z H3 _ s3 r3 p3=>by
      cases dz with
      | bl k =>
        refine⟨k,r3,?_⟩
        cases k with
        | false=>exact⟨false,rfl,p3 H3 (Zag.refl H3)⟩
        | true=>exact⟨((hA.same s1).same s2).same s3,ρ,((g.same s1).same s2).same s3,ZaK.bind p3 fun du u H4 _ s4 r4 p5=>⟨(((hA.same s1).same s2).same s3).same s4,dy,du,(r2.same s3).same s4,r4,ZaK.bind p5 fun dv v H5 _ s5 r5 p6=>by
            cases dv with
            | bl k'=>exact⟨k',r5,p6 H5 (Zag.refl H5)⟩
            | _=>exact p6.elim⟩⟩
      | _=>exact p3.elim⟩⟩⟩
theorem ZiI(ha:ST X CL W a fa)(he:∀ whole,isTrue a X.env whole=(do let v <- whole;standAt a.pos;holding [v] (truthy v))):SB X CL W a (fun ρ=>(fa ρ).bind Za6) :=
 fun A=>PT.weak (ZkU (ha A) he) fun σ H Q ⟨hA,ρ,g,p⟩=>⟨hA,ρ,g,ZaK.bind p fun d v H1 _ s1 r1 p1=>by
  cases d with
  | non =>
   have e:=r1.non_of
   subst e
   exact⟨false,rfl,p1 H1 (Zag.refl H1)⟩
  | bl b =>
   have e:=r1.bl_of
   subst e
   exact⟨b,rfl,p1 H1 (Zag.refl H1)⟩
  | int i =>
   have e:=r1.int_of
   subst e
   exact⟨_,rfl,p1 H1 (Zag.refl H1)⟩
  | str x =>
   have e:=r1.str_of
   subst e
   have p2:ZaK W H1 (if Zdo x.length=true then .ok (x.length != 0) else .bad) Q:=p1
   split at p2
   ·rename_i h
    refine⟨_,⟨ZaX h,rfl⟩,?_⟩
    have e:((x.length:Int) != 0)=(x.length != 0):=by
     rw[Bool.eq_iff_iff];simp
    rw[e]
    exact p2 H1 (Zag.refl H1)
   ·exact p2.elim
  | tup ds =>
   obtain⟨q,xs,rfl,_,sq,r⟩:=r1.tup_of
   refine⟨_,.inr (.inl ⟨xs,sq,rfl⟩),?_⟩
   have e:xs.isEmpty=ds.isEmpty:=by
    have:=r.length
    cases xs<;>cases ds<;>first|rfl|cases this
   rw[e]
   exact p1 H1 (Zag.refl H1)
  | lst ds =>
   obtain⟨q,xs,rfl,sq,r⟩:=r1.lst_of
   refine⟨_,.inl ⟨xs,sq,rfl⟩,?_⟩
   have e:xs.isEmpty=ds.isEmpty:=by
    have:=r.length
    cases xs<;>cases ds<;>first|rfl|cases this
   rw[e]
   exact p1 H1 (Zag.refl H1)
  | _=>exact p1.elim⟩
noncomputable def Zpt(K:Fg)(CL:ClA)(H:Hp)(A:Addr->Prop)(cls:Value)(dx:Option Addr)(x:Ex):Prop :=
 ∃ C,CL x.c=some C/\cls=.ref C/\(x.fs=[]\/∃ d vs,dx=some d/\¬ A d/\H d=some (.xd vs)/\Repf K CL H A vs x.fs)
end
end Ov
end
section
namespace Ov
open PySem PySem.Spec PyProof.Rows L2
def Za5(B:Addr->Prop)(ρ:Rho)(σ:L2.St):Addr->Prop:=fun a=>B a\/∃ (j:Nat) (d:D),ρ[j]?=some (some (d,true))/\σ[j]?=some (some (.ref a))
structure Sx (K:Fg) (CL:ClA) (Fz:Addr->HO->Prop) (B:Addr->Prop) (ρ:Rho) (σ:L2.St) (H:Hp):Prop where
 good:Good K CL (Za5 B ρ σ) ρ σ H
 aok:AOk H (Za5 B ρ σ)
 new:∀ (j:Nat) (d:D) (a:Addr),ρ[j]?=some (some (d,true))->σ[j]?=some (some (.ref a))->(∀ o,¬ Fz a o)/\¬ B a
 dis:∀ (i j:Nat) (d e:D) (a:Addr),ρ[i]?=some (some (d,true))->ρ[j]?=some (some (e,true))->σ[i]?=some (some (.ref a))->σ[j]?=some (some (.ref a))->i=j
 same:∀ b o,Fz b o->H b=some o
 len:ρ.length=σ.length
def Zah(K:Fg)(CL:ClA)(Fz:Addr->HO->Prop)(B:Addr->Prop)(W:XW)(o:O)(D:Ends):Prop:=match o with
  | .next ρ=>∀ σ H,Sx K CL Fz B ρ σ H->D.nx σ H
  | .brk ρ=>∀ σ H,Sx K CL Fz B ρ σ H->D.bk σ H
  | .cont ρ=>∀ σ H,Sx K CL Fz B ρ σ H->D.ct σ H
  | .ret d fr=>∀ v H,(∀ b o,Fz b o->H b=some o)->Rep K CL H B v d->(fr=true->∀ ds,d=.lst ds->∃ a xs,v=.ref a/\(∀ o,¬ Fz a o)/\H a=some (.lst xs)/\Reps K CL H (fun b=>B b\/b=a) xs ds)->D.rt v H
  | .exn x _=>∀ H,(∀ b o,Fz b o->H b=some o)->W x H
  | .bad=>False
section
variable {K:Fg} {CL:ClA} {Fz Fy:Addr->HO->Prop} {B:Addr->Prop} {ρ:Rho} {σ:L2.St} {H H':Hp}
theorem Sx.mono(k:∀ b o,Fz b o->Fy b o)(x:Sx K CL Fy B ρ σ H):Sx K CL Fz B ρ σ H:=⟨x.good,x.aok,fun j d a h1 h2=>⟨fun o z=>(x.new j d a h1 h2).1 o (k _ _ z),(x.new j d a h1 h2).2⟩,x.dis,fun b o z=>x.same b o (k _ _ z),x.len⟩
theorem Sx.grow(x:Sx K CL Fz B ρ σ H)(s:Zag H H'):Sx K CL Fz B ρ σ H':=⟨x.good.same s,x.aok.same s,x.new,x.dis,fun b o z=>s _ _ (x.same b o z),x.len⟩
theorem Zab{α:Type}{l:List α}{i j:Nat}{v:α}(h:i≠j):(l.set i v)[j]?=l[j]?:=by rw[List.getElem?_set_ne h]
theorem Zaj{α:Type}{l:List α}{i:Nat}{v w':α}(h:(l.set i v)[i]?=some w'):w'=v:=by
 rw[List.getElem?_set_self'] at h
 cases e:l[i]? with
 | none=>rw[e] at h;cases h
 | some x=>rw[e] at h;cases h;rfl
theorem Sx.set(x:Sx K CL Fz B ρ σ H){v:V}{d:D}(i:Nat)(r:Rep K CL H (Za5 B ρ σ) v d):Sx K CL Fz B (ρ.set i (some (d,false))) (σ.set i (some v)) H:=by
 have own:∀ (j:Nat) (e:D),(ρ.set i (some (d,false)))[j]?=some (some (e,true))->i≠j/\ρ[j]?=some (some (e,true)):=fun j e h=>by
  by_cases hj:i=j
  ·subst hj
   have:=Zaj h
   cases this
  ·exact⟨hj,by rw[Zab hj] at h;exact h⟩
 have sub:∀ a,Za5 B (ρ.set i (some (d,false))) (σ.set i (some v)) a->Za5 B ρ σ a:=fun a h=>by
  rcases h with h|⟨j,e,h1,h2⟩
  ·exact .inl h
  ·obtain⟨hj,h1⟩:=own j e h1
   rw[Zab hj] at h2
   exact .inr ⟨j,e,h1,h2⟩
 refine⟨⟨fun j e h=>?_,fun j e h=>?_,by rw[List.length_set,List.length_set];exact x.len⟩,fun a h=>x.aok a (sub a h),fun j e a h1 h2=>?_,fun j k e f a h1 h2 h3 h4=>?_,x.same,by rw[List.length_set,List.length_set];exact x.len⟩
 ·by_cases hj:i=j
  ·subst hj
   have e1:=Zaj h
   cases e1
   refine⟨v,?_,Rep.sub sub _ r⟩
   have hl:i<σ.length:=by
    rw[<- x.len]
    have:=(List.getElem?_eq_some_iff.mp h).1
    simpa using this
   rw[List.getElem?_set_self hl]
  ·rw[Zab hj] at h
   obtain⟨w',q,rw'⟩:=x.good.sh j e h
   exact⟨w',by rw[Zab hj];exact q,Rep.sub sub _ rw'⟩
 ·obtain⟨hj,h1⟩:=own j e h
  obtain⟨a,xs,ds,q,z,ha,hh,rr⟩:=x.good.ow j e h1
  exact⟨a,xs,ds,by rw[Zab hj];exact q,z,.inr ⟨j,e,h,by rw[Zab hj];exact q⟩,hh,Reps.sub sub _ rr⟩
 ·obtain⟨hj,h1⟩:=own j e h1
  rw[Zab hj] at h2
  exact x.new j e a h1 h2
 ·obtain⟨hj,h1⟩:=own j e h1
  obtain⟨hk,h2⟩:=own k f h2
  rw[Zab hj] at h3
  rw[Zab hk] at h4
  exact x.dis j k e f a h1 h2 h3 h4
end
section
variable {X:Cx} {CL:ClA} {W:XW} {pos:Pos} {e:Expr} {fe:Rho->R D}
def SS(X:Cx)(CL:ClA)(W:XW)(st:Stmt)(f:Rho->O):Prop:=∀ Fz B,PS X st (fun D σ H=>∃ ρ,Sx X.K CL Fz B ρ σ H/\Zah X.K CL Fz B W (f ρ) D)
def SSs(X:Cx)(CL:ClA)(W:XW)(st:List Stmt)(f:Rho->O):Prop:=∀ Fz B,PSs X st (fun D σ H=>∃ ρ,Sx X.K CL Fz B ρ σ H/\Zah X.K CL Fz B W (f ρ) D)
theorem PS.weak{X:Cx}{e:Stmt}{t t':TS}(h:PS X e t)(k:∀ D σ H,t' D σ H->t D σ H):PS X e t':=fun pins s σ H D I q=>h pins s σ H D I (k _ _ _ q)
theorem PSs.weak{X:Cx}{e:List Stmt}{t t':TS}(h:PSs X e t)(k:∀ D σ H,t' D σ H->t D σ H):PSs X e t':=fun pins s σ H D I q=>h pins s σ H D I (k _ _ _ q)
theorem Zah.ex{Fz:Addr->HO->Prop}{B:Addr->Prop}{ρ:Rho}{σ:L2.St}{H:Hp}{r:R D}{f:D->O}{D':Ends}{Q:VK}{Rp:Hp->V->D->Prop}(x:Sx X.K CL Fz B ρ σ H)(h:Zah X.K CL Fz B W (O.of ρ r f) D')
  (k:∀ d v H',r=.ok d->Zag H H'->Rp H' v d->Sx X.K CL Fz B ρ σ H'->Zah X.K CL Fz B W (f d) D'->Q v H'):Zas Rp W H r Q:=by
 cases r with
 | ok d=>exact fun v H' s r=>k d v H' rfl s r (x.grow s) h
 | exn y=>exact fun H' s=>h H' fun b o z=>s _ _ (x.same b o z)
 | bad=>exact h
theorem Zah.exB{Fz:Addr->HO->Prop}{B:Addr->Prop}{ρ:Rho}{σ:L2.St}{H:Hp}{r:R Bool}{f:Bool->O}{D':Ends}{Q:Bool->Hp->Prop}(x:Sx X.K CL Fz B ρ σ H)(h:Zah X.K CL Fz B W (O.of ρ r f) D')
  (k:∀ b H',r=.ok b->Zag H H'->Sx X.K CL Fz B ρ σ H'->Zah X.K CL Fz B W (f b) D'->Q b H'):ZaK W H r Q:=by
 cases r with
 | ok d=>exact fun H' s=>k d H' rfl s (x.grow s) h
 | exn y=>exact fun H' s=>h H' fun b o z=>s _ _ (x.same b o z)
 | bad=>exact h
theorem Zm3(he:SE X CL W e fe)(hs:swapsWith e none pos.line X.env=pure false):SS X CL W (.Expr e pos) (fun ρ=>O.of ρ (fe ρ) fun _=>.next ρ):=fun Fz B pins s σ H D I ⟨ρ,x,p⟩ =>
 Zdt (he (Za5 B ρ σ)) hs pins s σ H D I ⟨x.aok,ρ,x.good,Zah.ex x p fun d v H' _ s r x' q=>q σ H' x'⟩
theorem ZpS{i:Nat}{n:Str}{pos':Pos}(hN:X.N.Nodup)(hi:X.N[i]?=some n)(hx:Loc X.env.scope n)(he:SE X CL W e fe)(hs:swapsWith e (some (.Name n pos')) pos.line X.env=pure false)(hf:X.fn n=true\/X.env.scope.names.lookup n=some .local) :
  SS X CL W (.Assign [.Name n pos'] e pos) (fun ρ=>O.of ρ (fe ρ) fun d=>.next (ρ.set i (some (d,false)))):=fun Fz B pins s σ H D I ⟨ρ,x,p⟩ =>
 Zg7 hN hi hx (he (Za5 B ρ σ)) hs hf pins s σ H D I ⟨x.aok,ρ,x.good,Zah.ex x p fun d v H' _ s r x' q=>q _ H' (x'.set i r)⟩
theorem Ziw(he:SE X CL W e fe):SS X CL W (.Return (some e) pos) (fun ρ=>O.of ρ (fe ρ) fun d=>.ret d false):=fun Fz B pins s σ H D I ⟨ρ,x,p⟩ =>
 ZiW (he (Za5 B ρ σ)) pins s σ H D I ⟨x.aok,ρ,x.good,Zah.ex x p fun d v H' _ s r x' q=>q v H' x'.same (Rep.sub (fun a h=>.inl h) _ r) fun z=>nomatch z⟩
theorem ZpU{c:Expr}{fc:Rho->R Bool}{a b:List Stmt}{fa fb:Rho->O}(hc:SB X CL W c fc)(ha:SSs X CL W a fa)(hb:SSs X CL W b fb):SS X CL W (.If c a b pos) (fun ρ=>O.of ρ (fc ρ) fun k=>if k=true then fa ρ else fb ρ):=fun Fz B pins s σ H D I ⟨ρ,x,p⟩ =>
 Zv0 (hc (Za5 B ρ σ)) (ha Fz B) (hb Fz B) pins s σ H D I ⟨x.aok,ρ,x.good,Zah.exB x p fun k H' _ s x' q=>by
  cases k with
  | true=>exact⟨ρ,x',q⟩
  | false=>exact⟨ρ,x',q⟩⟩
theorem Zgj:SSs X CL W [] (fun ρ=>.next ρ):=fun Fz B=>PSs.weak ZnD fun D σ H ⟨ρ,x,p⟩=>p σ H x
theorem Zdd{st:Stmt}{rest:List Stmt}{f g:Rho->O}(h1:SS X CL W st f)(h2:SSs X CL W rest g):SSs X CL W (st::rest) (fun ρ=>(f ρ).seq g):=fun Fz B=>PSs.weak (ZkW (h1 Fz B) (h2 Fz B)) fun D σ H ⟨ρ,x,p⟩=>⟨ρ,x,by
 dsimp only at p
 cases e:f ρ with
 | next ρ'=>rw[e] at p;exact fun σ' H' x'=>⟨ρ',x',p⟩
 | ret d b=>rw[e] at p;exact p
 | brk ρ'=>rw[e] at p;exact p
 | cont ρ'=>rw[e] at p;exact p
 | exn y ρ'=>rw[e] at p;exact p
 | bad=>rw[e] at p;exact p⟩
end
end Ov
end
section
namespace Ov
open PySem PySem.Spec PyProof.Rows L2
def Zmv(K:Fg)(CL:ClA)(A:Addr->Prop)(ds:List D)(J:It)(H1:Hp):Prop:=∀ H,Kp A H1 H->∀ i:Nat,(ds.length<=i->J.stop i H)/\∀ d,ds[i]?=some d->J.go i H/\∀ x H',J.yld i H x H'->Zag H H'/\∀ B,(∀ a,B a->A a\/H1 a=none)->AOk H B->Rep K CL H' B x d
def ZbR(K:Fg)(CL:ClA)(A:Addr->Prop)(W:XW)(H:Hp)(r:R (List D))(Q:It->Hp->Prop):Prop:=match r with
  | .ok ds=>∀ J H',Zag H H'->Zmv K CL A ds J H'->ds.length<=sizeLine->Q J H'
  | .exn x=>∀ H',Zag H H'->W x H'
  | .bad=>False
def SI(X:Cx)(CL:ClA)(W:XW)(tg iter:Expr)(f:Rho->R (List D)):Prop:=∀ A,PI X tg iter (fun σ H R=>AOk H A/\∃ ρ,Good X.K CL A ρ σ H/\ZbR X.K CL A W H (f ρ) R)
theorem PI.weak{X:Cx}{tg e:Expr}{t t':TI}(h:PI X tg e t)(k:∀ σ H Q,t' σ H Q->t σ H Q):PI X tg e t':=fun pins s σ H Q I q=>h pins s σ H Q I (k _ _ _ q)
section
variable {X:Cx} {CL:ClA} {W:XW} {pos p:Pos} {tg e a b:Expr} {fe fa fb:Rho->R D}
theorem ZbR.ex{A:Addr->Prop}{H:Hp}{r:R D}{f:D->R (List D)}{Q:It->Hp->Prop}{Q':VK}{Rp:Hp->V->D->Prop}(h:ZbR X.K CL A W H (r.bind f) Q)(k:∀ d v H',r=.ok d->Zag H H'->Rp H' v d->ZbR X.K CL A W H' (f d) Q->Q' v H'):Zas Rp W H r Q':=by
  cases r with
  | ok d=>exact fun v H' s q=>k d v H' rfl s q (by
      have h':ZbR X.K CL A W H (f d) Q:=h
      cases e:f d with
      | ok ds=>rw[e] at h';exact fun J H2 s2 y z=>h' J H2 (s.trans s2) y z
      | exn y=>rw[e] at h';exact fun H2 s2=>h' H2 (s.trans s2)
      | bad=>rw[e] at h';exact h')
  | exn y=>exact h
  | bad=>exact h
theorem Zcr{K:Fg}{A B:Addr->Prop}{H1 H:Hp}{x:V}{d:D}(r:Rep K CL H1 A x d)(k:Kp A H1 H)(hB:∀ a,B a->A a\/H1 a=none):Rep K CL H B x d:=by
 have r1:Rep K CL H1 (fun a=>A a\/B a) x d:=Rep.wide (fun a ha=>ha.elim .inl (hB a)) _ r
 have r2:Rep K CL H (fun a=>A a\/B a) x d:=Rep.kp (fun b o e na=>k b o e fun z=>na (.inl z)) _ r1
 exact Rep.sub (fun a ha=>.inr ha) _ r2
theorem ZhD{K:Fg}{A:Addr->Prop}{H:Hp}{q:Addr}{xs:List V}{ds:List D}(na:¬ A q\/KL K q xs)(s:SqL K H q xs)(r:Reps K CL H A xs ds):Zmv K CL A ds (Itl K q) H:=fun H' k i=>by
 have s':=ZgY k na s
 refine⟨fun h=>⟨xs,s',by rw[r.length];exact h⟩,fun d hd=>?_⟩
 obtain⟨v,hv,rv⟩:=r.get hd
 exact⟨⟨xs,v,s',hv⟩,fun x H2 ⟨e,y⟩=>by
  subst e
  have:=y xs s'
  rw[hv] at this
  cases this
  exact⟨Zag.refl _,fun B hB _=>Zcr rv k hB⟩⟩
theorem Zkv{K:Fg}{A:Addr->Prop}{H:Hp}{q:Addr}{xs:List V}{ds:List D}(na:¬ A q\/KT K q xs)(s:SqT K H q xs)(r:Reps K CL H A xs ds):Zmv K CL A ds (Itt K q) H:=fun H' k i=>by
 have s':=ZgX k na s
 refine⟨fun h=>⟨xs,s',by rw[r.length];exact h⟩,fun d hd=>?_⟩
 obtain⟨v,hv,rv⟩:=r.get hd
 exact⟨⟨xs,v,s',hv⟩,fun x H2 ⟨e,y⟩=>by
  subst e
  have:=y xs s'
  rw[hv] at this
  cases this
  exact⟨Zag.refl _,fun B hB _=>Zcr rv k hB⟩⟩
theorem ZgQ{K:Fg}{A:Addr->Prop}{H:Hp}(lo:Int)(n:Nat):Zmv K CL A (ZcM lo n) (Itr lo n) H:=fun H' k i=>by
 refine⟨fun h=>by rw[ZaS] at h;exact h,fun d hd=>?_⟩
 obtain⟨h1,rfl⟩:=Zhl hd
 exact⟨h1,fun x H2 ⟨e,y⟩=>by
  subst e y
  exact⟨Zag.refl _,fun _ _ _=>rfl⟩⟩
theorem ZqZ{l:Expr}{tl:TE}(hl:PE X l tl):PI X tg l (fun σ H R=>tl σ H fun x H1=>(∃ a,x=.ref a/\(∃ xs,SqL X.K H1 a xs/\(xs.length<=sizeLine->R (Itl X.K a) H1)))\/∃ a,x=.ref a/\(∃ xs,SqT X.K H1 a xs/\(xs.length<=sizeLine->R (Itt X.K a) H1))):=by
 intro pins s σ H R I h
 refine thn (hl pins s σ H _ I h) fun v s1 ⟨x,H1,I1,r1,q1⟩=>?_
 rcases q1 with ⟨a,e,xs,hq,q⟩|⟨a,e,xs,hq,q⟩
 ·subst e
  cases r1
  obtain⟨its,rv,p,hz⟩:=I1.list hq
  refine wpAny_pyIter_list p.isList ?_
  refine⟨s1.heap.objs.size,[s1.heap.objs.size],_,_,H1,rfl,I1.kept (t':=s1.toks) fun b o e=>Heap.get?_push_of_some _ e,Zin a _,⟨_,Heap.get?_push_size _ rfl,rfl,rfl⟩,fun b hb=>?_,q hz⟩
  have e:b=s1.heap.objs.size:=by simpa using hb
  subst e
  exact I1.fpOk (Nat.le_refl _) (I1.hok.fresh (Nat.le_refl _))
 ·subst e
  cases r1
  obtain⟨its,rv,p,hz⟩:=I1.tuple hq
  refine wpAny_pyIter_tuple (show s1.heap.IsTuple a its.toArray from p) ?_
  refine⟨s1.heap.objs.size,[s1.heap.objs.size],_,_,H1,rfl,I1.kept (t':=s1.toks) fun b o e=>Heap.get?_push_of_some _ e,ZhI a _,⟨_,Heap.get?_push_size _ rfl,rfl,rfl⟩,fun b hb=>?_,q hz⟩
  have e:b=s1.heap.objs.size:=by simpa using hb
  subst e
  exact I1.fpOk (Nat.le_refl _) (I1.hok.fresh (Nat.le_refl _))
theorem Zzj(he:SE X CL W e fe):SI X CL W tg e (fun ρ=>(fe ρ).bind ZaF):=fun A=>PI.weak (ZqZ (he A)) fun σ H R ⟨hA,ρ,g,p⟩=>⟨hA,ρ,g,ZbR.ex p fun d v H1 _ s1 r1 p1=>by
 cases d with
 | lst ds =>
  obtain⟨q,xs,rfl,na,sq,r⟩:=r1
  exact .inl ⟨q,rfl,xs,sq,fun hz=>p1 _ H1 (Zag.refl H1) (ZhD na sq r) (by rw[<- r.length];exact hz)⟩
 | tup ds =>
  obtain⟨q,xs,rfl,na,sq,r⟩:=r1
  exact .inr ⟨q,rfl,xs,sq,fun hz=>p1 _ H1 (Zag.refl H1) (Zkv na sq r) (by rw[<- r.length];exact hz)⟩
 | _=>exact p1.elim⟩
theorem Zds{lo hi:Int}{ds:List D}(h:Zaz lo hi=.ok ds):(-(2 ^ 62)<=lo/\lo<2 ^ 62)/\(-(2 ^ 62)<=hi/\hi<2 ^ 62)/\ds=ZcM lo (hi-lo).toNat/\(ZcM lo (hi-lo).toNat).length<=sizeLine:=by
 unfold Zaz at h
 split at h
 ·rename_i q;cases h;exact⟨by omega,by omega,rfl,by rw[ZaS,sizeLine_eq];omega⟩
 ·cases h
theorem ZcN{lo hi:Int}{x:Ex}(h:Zaz lo hi=.exn x):False:=by
 unfold Zaz at h
 split at h<;>cases h
theorem Zp4(ha:ST X CL W a fa)(hg:Gl X "range")(hm:X.mg "range" = none)(hs:starEach [a] X.env=[(false,eval a X.env)]):SI X CL W tg (.Call (.Name "range" p) [a] [] pos) (fun ρ=>(fa ρ).bind fun x=>(ZbE x).bind fun j=>Zaz 0 j) :=
 fun A=>PI.weak (Zi2 hg hm (Zao (ha A) Zbj hs) hs) fun σ H R ⟨hA,ρ,g,q⟩=>⟨hA,ρ,g,ZbR.ex q fun d v H1 _ s1 r1 p1=>by
  cases d with
  | int j =>
   have e:=r1.int_of
   subst e
   have p2:ZbR X.K CL A W H1 (Zaz 0 j) R:=p1
   cases e2:Zaz 0 j with
   | ok ds =>
    rw[e2] at p2
    obtain⟨_,h2,rfl,hz⟩:=Zds e2
    exact⟨j,rfl,h2.1,h2.2,p2 _ H1 (Zag.refl H1) (by rw[Int.sub_zero];exact ZgQ 0 j.toNat) hz⟩
   | exn y=>exact(ZcN e2).elim
   | bad=>rw[e2] at p2;exact p2.elim
  | _=>exact p1.elim⟩
theorem Zm9(ha:ST X CL W a fa)(hb:ST X CL W b fb)(hg:Gl X "range")(hm:X.mg "range" = none)(hs:starEach [a,b] X.env=[(false,eval a X.env),(false,eval b X.env)])(hs2:starEach [b] X.env=[(false,eval b X.env)]) :
  SI X CL W tg (.Call (.Name "range" p) [a,b] [] pos) (fun ρ=>(fa ρ).bind fun x=>(fb ρ).bind fun y=>(ZbE x).bind fun i=>(ZbE y).bind fun j=>Zaz i j) :=
 fun A=>PI.weak (Zi1 hg hm (Zao (ha A) (Zao (hb A) Zbj hs2) (by rw[hs,hs2])) hs hs2) fun σ H R ⟨hA,ρ,g,q⟩=>⟨hA,ρ,g,ZbR.ex q fun d v H1 _ s1 r1 p1=>⟨hA.same s1,ρ,g.same s1,ZbR.ex p1 fun d2 v2 H2 _ s2 r2 p2=>by
  cases d with
  | int i =>
   cases d2 with
   | int j =>
    have e:=r1.int_of;have e':=r2.int_of
    subst e e'
    have p3:ZbR X.K CL A W H2 (Zaz i j) R:=p2
    cases e2:Zaz i j with
    | ok ds =>
     rw[e2] at p3
     obtain⟨h1,h2,rfl,hz⟩:=Zds e2
     exact⟨i,j,rfl,⟨h1.1,h1.2,h2.1,h2.2⟩,p3 _ H2 (Zag.refl H2) (ZgQ _ _) hz⟩
    | exn y=>exact(ZcN e2).elim
    | bad=>rw[e2] at p3;exact p3.elim
   | _=>exact p2.elim
  | _=>exact p2.elim⟩⟩
theorem Zah.exI{Fz:Addr->HO->Prop}{B A:Addr->Prop}{ρ:Rho}{σ:L2.St}{H:Hp}{r:R (List D)}{f:List D->O}{D':Ends}{Q:It->Hp->Prop}(x:Sx X.K CL Fz B ρ σ H)(h:Zah X.K CL Fz B W (O.of ρ r f) D')
  (k:∀ ds J H',r=.ok ds->Zag H H'->Zmv X.K CL A ds J H'->ds.length<=sizeLine->Sx X.K CL Fz B ρ σ H'->Zah X.K CL Fz B W (f ds) D'->Q J H'):ZbR X.K CL A W H r Q:=by
 cases r with
 | ok d=>exact fun J H' s y z=>k d J H' rfl s y z (x.grow s) h
 | exn y=>exact fun H' s=>h H' fun b o z=>s _ _ (x.same b o z)
 | bad=>exact h
theorem Zah.turn{K:Fg}{Fz Fy:Addr->HO->Prop}{B:Addr->Prop}{o:O}{g:Rho->O}{D':Ends}{N:L2.St->Hp->Prop}(hf:∀ b q,Fz b q->Fy b q)(h:Zah K CL Fz B W (o.turn g) D')(k:∀ ρ' σ' H',Sx K CL Fy B ρ' σ' H'->Zah K CL Fz B W (g ρ') D'->N σ' H') :
  Zah K CL Fy B W o { D' with nx:=N,ct:=N,bk:=D'.nx }:=by
 cases o with
 | next ρ'=>exact fun σ' H' x=>k ρ' σ' H' x h
 | cont ρ'=>exact fun σ' H' x=>k ρ' σ' H' x h
 | brk ρ'=>exact fun σ' H' x=>h σ' H' (x.mono hf)
 | ret d b=>exact fun v H' s r n=>h v H' (fun b o z=>s b o (hf b o z)) r fun z ds e=>let ⟨a,xs,h1,h2,h3⟩:=n z ds e;⟨a,xs,h1,fun o q=>h2 o (hf a o q),h3⟩
 | exn y ρ'=>exact fun H' s=>h H' (fun b o z=>s b o (hf b o z))
 | bad=>exact h
noncomputable def ZbW(ts:List Nat)(ρ:Rho):Rho:=ts.foldl (fun ρ t=>ρ.set t none) ρ
def GT(K:Fg)(CL:ClA)(as:D->Rho->R Rho)(g:TG):Prop:=∀ Fz B ρ σ H v d ρ' Q,Sx K CL Fz B ρ σ H->Rep K CL H (Za5 B ρ σ) v d->as d ρ=.ok ρ'->(∀ σ',Sx K CL Fz B ρ' σ' H->Q σ' H)->g v σ H Q
theorem Zoi{K:Fg}(i:Nat):GT K CL (fun d ρ=>.ok (ρ.set i (some (d,false)))) (ZbP i):=fun Fz B ρ σ H v d ρ' Q x r e k=>by
 cases e
 exact k _ (x.set i r)
theorem Zjx{K:Fg}{Fz:Addr->HO->Prop}{B:Addr->Prop}{H:Hp}:∀ (ts:List Nat) (ds:List D) (vs:List V) (ρ ρ':Rho) (σ:L2.St) (Q:L2.St->Hp->Prop),Sx K CL Fz B ρ σ H->Reps K CL H (Za5 B ρ σ) vs ds->ZaO ts ds ρ=some ρ'->(∀ σ',Sx K CL Fz B ρ' σ' H->Q σ' H)->(ts.foldr (fun t u=>ZdF (ZbP t) u) Zjz) vs σ H Q
 | [],[],[],ρ,ρ',σ,Q,x,_,e,k=>by
  cases e
  exact⟨rfl,k σ x⟩
 | t::ts,d::ds,v::vs,ρ,ρ',σ,Q,x,r,e,k=>by
  refine⟨v,vs,rfl,Zjx ts ds vs _ ρ' _ Q (x.set t r.1) (Reps.sub (fun a ha=>?_) ds r.2) e k⟩
  rcases ha with ha|⟨j,c,h1,h2⟩
  ·exact .inl ha
  ·by_cases hj:t=j
   ·subst hj
    have:=Zaj h1
    cases this
   ·rw[Zab hj] at h1 h2
    exact .inr ⟨j,c,h1,h2⟩
 | [],_::_,_,_,_,_,_,_,_,e,_=>by cases e
 | _::_,[],_,_,_,_,_,_,_,e,_=>by cases e
 | [],[],_::_,_,_,_,_,_,r,_,_=>r.elim
 | _::_,_::_,[],_,_,_,_,_,r,_,_=>r.elim
theorem Zb2:∀ (ts:List Nat) (ds:List D) (ρ ρ':Rho),ZaO ts ds ρ=some ρ'->ds.length=ts.length
 | [],[],_,_,_=>rfl
 | _::ts,_::ds,_,_,e=>congrArg (· + 1) (Zb2 ts ds _ _ e)
 | [],_::_,_,_,e=>by cases e
 | _::_,[],_,_,e=>by cases e
theorem Zmg{K:Fg}(ts:List Nat):GT K CL (ZbD ts) (Zpp K ts.length (ts.foldr (fun t u=>ZdF (ZbP t) u) Zjz)):=fun Fz B ρ σ H v d ρ' Q x r e k=>by
 cases d with
 | tup ds =>
  obtain⟨a,xs,rfl,na,sq,rs⟩:=r
  rw[ZeA] at e
  cases e2:ZaO ts ds ρ with
  | none=>rw[e2] at e;cases e
  | some ρ2 =>
   rw[e2] at e
   cases e
   exact⟨a,xs,rfl,sq,by rw[rs.length];exact Zb2 _ _ _ _ e2,Zjx ts ds xs ρ _ σ Q x rs e2 k⟩
 | _=>cases e
theorem ZlJ{tg iter:Expr}{body:List Stmt}{fi:Rho->R (List D)}{fbd:Rho->O}{as:D->Rho->R Rho}{g:TG}(hp:PassesOwn (model X.prog X.w) X.A X.env X.xe)(hc:X.calm=true)(hGT:GT X.K CL as g)(hg:PG X tg g)
  (hit:SI X CL W tg iter fi) (hb:SSs X CL W body fbd) (hs:∀ x,foldedSetIterable iter X.env x=pure x) (hax:∀ d ρ x,as d ρ≠.exn x) :
  SS X CL W (.For tg iter body [] pos) (fun ρ=>O.of ρ (fi ρ) fun xs=>Zea (fun x ρ'=>O.of ρ' (as x ρ') fbd) xs ρ):=fun Fz B pins s σ H D I ⟨ρ,x,p⟩=>by
 refine ZqU hp hc (hit (Za5 B ρ σ)) hg (tb:=fun D σ H=>∃ Fy,(fun D σ H=>∃ ρ,Sx X.K CL Fy B ρ σ H/\Zah X.K CL Fy B W (fbd ρ) D) D σ H) (fun pins s σ H D I ⟨Fy,q⟩=>hb Fy B pins s σ H D I q) hs pins s σ H D I ⟨x.aok,ρ,x.good,Zah.exI x p fun ds J H1 _ s1 y _ x1 q=>?_⟩
 let Fy:Addr->HO->Prop:=fun b o=>H1 b=some o/\¬ ∃ (j:Nat) (d:Ov.D),ρ[j]?=some (some (d,true))/\σ[j]?=some (some (.ref b))
 have hfy:∀ b o,Fz b o->Fy b o:=fun b o z=>⟨x1.same b o z,fun ⟨j,d,h1,h2⟩=>(x1.new j d b h1 h2).1 o z⟩
 have xy:Sx X.K CL Fy B ρ σ H1:=⟨x1.good,x1.aok,fun j d a h1 h2=>⟨fun o z=>z.2 ⟨j,d,h1,h2⟩,(x1.new j d a h1 h2).2⟩,x1.dis,fun b o z=>z.1,x1.len⟩
 refine⟨fun k m σ' H'=>m=ds.length-k/\k<=ds.length/\∃ ρ',Sx X.K CL Fy B ρ' σ' H'/\Zah X.K CL Fz B W (Zea (fun x ρ'=>O.of ρ' (as x ρ') fbd) (ds.drop k) ρ') D,⟨ds.length,by simp,Nat.zero_le _,ρ,xy,q⟩,?_⟩
 rintro k m σ' H' ⟨rfl,hk,ρ',x',q'⟩
 have kp:Kp (Za5 B ρ σ) H1 H':=fun b o e na=>x'.same b o ⟨e,fun z=>na (.inr z)⟩
 obtain⟨yst,ygo⟩:=y H' kp k
 by_cases hlt:k<ds.length
 ·have hd:ds[k]?=some ds[k]:=List.getElem?_eq_getElem hlt
  obtain⟨hgo,hyl⟩:=ygo _ hd
  refine .inr ⟨hgo,fun σ'' H''=>∃ ρ'',Sx X.K CL Fy B ρ'' σ'' H''/\Zah X.K CL Fz B W (Zea (fun x ρ'=>O.of ρ' (as x ρ') fbd) (ds.drop (k+1)) ρ'') D,fun σ'' H'' z=>⟨ds.length-(k+1),by omega,rfl,hlt,z⟩,fun v H2 hv=>?_⟩
  obtain⟨e2,rv⟩:=hyl v H2 hv
  rw[List.drop_eq_getElem_cons hlt] at q'
  have q2:Zah X.K CL Fz B W ((O.of ρ' (as ds[k] ρ') fbd).turn (Zea (fun x ρ'=>O.of ρ' (as x ρ') fbd) (ds.drop (k+1)))) D:=q'
  have rv':Rep X.K CL H2 (Za5 B ρ' σ') v ds[k]:=rv _ (fun a ha=>by
    rcases ha with ha|⟨j,d,h1,h2⟩
    ·exact .inl (.inl ha)
    ·cases e:H1 a with
     | none=>exact .inr rfl
     | some o =>
      by_cases ho:∃ (j:Nat) (d:Ov.D),ρ[j]?=some (some (d,true))/\σ[j]?=some (some (.ref a))
      ·exact .inl (.inr ho)
      ·exact absurd ⟨e,ho⟩ ((x'.new j d a h1 h2).1 o)) x'.aok
  cases ea:as ds[k] ρ' with
  | bad=>rw[ea] at q2;exact q2.elim
  | exn z=>exact absurd ea (hax _ _ z)
  | ok ρ2 =>
   rw[ea,O.of_ok] at q2
   exact hGT Fy B ρ' σ' H2 v ds[k] ρ2 _ (x'.grow e2) rv' ea fun σ3 x3=>⟨Fy,ρ2,x3,Zah.turn hfy q2 fun ρ3 σ3 H3 x3 q3=>⟨ρ3,x3,q3⟩⟩
 ·have hk':ds.length<=k:=by omega
  rw[List.drop_eq_nil_of_le hk'] at q'
  exact .inl ⟨yst hk',q' σ' H' (x'.mono hfy)⟩
end
end Ov
end
section
namespace Ov
open PySem PySem.Spec PyProof.Rows L2
section
variable {X:Cx} {CL:ClA} {W:XW} {a b c:Expr} {fa fb fc:Rho->R D} {pos:Pos}
noncomputable def tyK:Ki->Option String
 | .int=>some "int"
 | .bool=>some "bool"
 | .str=>some "str"
 | .list=>some "list"
 | .tuple=>some "tuple"
 | _=>none
noncomputable def ZiZ:D->Bool
 | .obj _ _=>false
 | .exc _ _=>false
 | .dic _=>false
 | _=>true
theorem ZrF{pins:Pn}{σ:L2.St}{H:Hp}{s:Shared}{A:Addr->Prop}{v:V}{u:Value}{d:D}{k:Ki}{T:String}{up:Nat->List Nat}{Q:Vq}{E:Vq}
  (I:Inv X pins σ H s) (r:Zb1 X.K CL H A v d) (q:ZaR v u) (hT:tyK k=some T) (hd:ZiZ d=true) (h:∀ s',Inv X pins σ H s'->Q (.bool (kiD up k d)) s') :
  wpAny (model X.prog X.w) X.A (call (.builtin "isinstance") [u,.type T]) Q E s:=by
 have r':=r.plain
 have it:=fun t=>h _ (I.tok t)
 cases d with
 | obj=>cases hd
 | exc=>cases hd
 | dic=>cases hd
 | non =>
  cases r'
  cases q
  cases k<;>simp only[tyK] at hT<;>cases hT
  ·exact IsiPair.NoneType_int (it _)
  ·exact IsiPair.NoneType_bool (it _)
  ·exact IsiPair.NoneType_str (it _)
  ·exact IsiPair.NoneType_list (it _)
  ·exact IsiPair.NoneType_tuple (it _)
 | bl b =>
  cases r'
  cases q
  cases k<;>simp only[tyK] at hT<;>cases hT
  ·exact IsiPair.bool_int (h _ I)
  ·exact IsiPair.bool_bool (h _ I)
  ·exact IsiPair.bool_str (it _)
  ·exact IsiPair.bool_list (it _)
  ·exact IsiPair.bool_tuple (it _)
 | int i =>
  cases r'
  obtain⟨t,rfl⟩:=q
  cases k<;>simp only[tyK] at hT<;>cases hT
  ·exact IsiPair.int_int (h _ I)
  ·exact IsiPair.int_bool (it _)
  ·exact IsiPair.int_str (it _)
  ·exact IsiPair.int_list (it _)
  ·exact IsiPair.int_tuple (it _)
 | str x =>
  cases r'
  obtain⟨t,rfl⟩:=q
  cases k<;>simp only[tyK] at hT<;>cases hT
  ·exact IsiPair.str_int (it _)
  ·exact IsiPair.str_bool (it _)
  ·exact IsiPair.str_str (h _ I)
  ·exact IsiPair.str_list (it _)
  ·exact IsiPair.str_tuple (it _)
 | tup ds =>
  obtain⟨p,xs,rfl,_,sq,rr⟩:=r'
  obtain⟨its,rv,pt,_⟩:=I.tuple sq
  cases q
  have pt':s.heap.IsTuple p its.toArray:=pt
  cases k<;>simp only[tyK] at hT<;>cases hT
  ·exact IsiPair.isTuple_int pt' (fun _ _ e=>e) (it _)
  ·exact IsiPair.isTuple_bool pt' (fun _ _ e=>e) (it _)
  ·exact IsiPair.isTuple_str pt' (fun _ _ e=>e) (it _)
  ·exact IsiPair.isTuple_list pt' (fun _ _ e=>e) (it _)
  ·exact IsiPair.isTuple_tuple pt' (fun _ _ e=>e) (h _ I)
 | lst ds =>
  obtain⟨p,xs,rfl,_,sq,rr⟩:=r'
  obtain⟨its,rv,pl,_⟩:=I.list sq
  cases q
  have pt':s.heap.IsList p its.toArray:=Zci pl
  cases k<;>simp only[tyK] at hT<;>cases hT
  ·exact IsiPair.isList_int pt' (fun _ _ e=>e) (it _)
  ·exact IsiPair.isList_bool pt' (fun _ _ e=>e) (it _)
  ·exact IsiPair.isList_str pt' (fun _ _ e=>e) (it _)
  ·exact IsiPair.isList_list pt' (fun _ _ e=>e) (h _ I)
  ·exact IsiPair.isList_tuple pt' (fun _ _ e=>e) (it _)
theorem Zjr{up:Nat->List Nat}{k:Ki}{T:String}{d:D}{Rp:Hp->V->D->Prop}{H:Hp}{Q:VK}(hT:tyK k=some T)(p:Zas Rp W H (Zee up [k] d) Q):ZiZ d=true/\Zas Rp W H (.ok (.bl (kiD up k d))) Q:=by
 cases k<;>simp only[tyK] at hT<;>cases hT<;>cases d<;>first|exact p.elim|exact⟨rfl,by simpa using p⟩
theorem Zqd{k:Ki}{T:String}{x:Str}{up:Nat->List Nat}{p p2:Pos}(hT:tyK k=some T)(hg:Gl X "isinstance")(hm:X.mg "isinstance" = none)(hg2:Gl X x)(hm2:X.mg x=none)(hv:bootBuiltins x=some (.type T))(hn:x≠"__name__")(hdb:(x == ("__debug__" : Str))=false)
  (ha:ST X CL W a fa) (he:starEach [a,.Name x p2] X.env=(false,eval a X.env)::starEach [.Name x p2] X.env):SE X CL W (.Call (.Name "isinstance" p) [a,.Name x p2] [] pos) (fun ρ=>(fa ρ).bind fun x=>Zee up [k] x):=fun A =>
 PE.weak (Zb4 (r:=fun xs H Q=>∃ y d,xs=[y,.ty T]/\Zb1 X.K CL H A y d/\ZiZ d=true/\Q (.bl (kiD up k d)) H) (fun pins s σ H xs us Q I r ⟨y,d,e,ry,hd,q⟩=>by
   subst e
   obtain⟨u,w',rfl,r1,r2⟩:=ZhH r
   cases r2
   exact ZrF I ry r1 hT hd fun s' I'=>⟨.bl _,H,I',rfl,q⟩)
  hg hm boot_isinstance (Zao (ha A) (Zao (Zi5 (v:=.ty T) hg2 hm2 hv rfl hn hdb) Zbj rfl) he) (by decide) (by decide) he rfl) fun σ H Q ⟨hA,ρ,g,q⟩=>⟨hA,ρ,g,Zas.bind q fun d v H1 _ s1 r1 p1=>by
   obtain⟨hd,p2⟩:=Zjr hT p1
   exact⟨v,d,rfl,r1,hd,p2 _ H1 (Zag.refl H1) rfl⟩⟩
theorem Zgg{H:Hp}{A:Addr->Prop}{v:V}{u:Value}{d:D}{b:Bool}{A':Around}{E:Vq}{Q:Bool->Shared->Prop}{s:Shared}{prog:Program}{w:World}(r:Rep X.K CL H A v d)(q:ZaR v u)(h:Zed d=.ok b)(hq:Q b s):wpAny (model prog w) A' (truthy u) Q E s:=by
 cases d with
 | non =>
  cases r;cases q;cases h
  exact truthy_none hq
 | bl k =>
  cases r;cases q;cases h
  exact wpAny_truthy_bool hq
 | int i =>
  cases r
  obtain⟨t,rfl⟩:=q
  cases h
  exact truthy_int hq
 | _=>cases h
theorem Zd7:∀ {ds:List D} {b:Bool},Zd8 ds=.ok b->(∀ j,j<ds.length->∃ c,Zed (ds.getD j .non)=.ok c)/\b=(List.range ds.length).all fun j=>match Zed (ds.getD j .non) with
  | .ok c=>c
  | _=>false
 | [],b,h=>by cases h;exact⟨fun j hj=>absurd hj (Nat.not_lt_zero _),rfl⟩
 | d::ds,b,h=>by
  rw[ZeE] at h
  cases e:Zed d with
  | bad=>rw[e] at h;cases h
  | exn x=>rw[e] at h;cases h
  | ok c =>
   rw[e,R.bind_ok] at h
   cases e2:Zd8 ds with
   | bad=>rw[e2] at h;cases h
   | exn x=>rw[e2] at h;cases h
   | ok c2 =>
    rw[e2,R.bind_ok] at h
    cases h
    obtain⟨h1,h2⟩:=Zd7 e2
    refine⟨fun j hj=>?_,?_⟩
    ·cases j with
     | zero=>exact⟨c,e⟩
     | succ j=>exact h1 j (by simpa using hj)
    ·rw[List.length_cons,Zce,h2]
     show (c&&_)=((match Zed d with | .ok c=>c|_=>false)&&_)
     rw[e]
     rfl
theorem Zd5:∀ {ds:List D} {b:Bool},ZcE ds=.ok b->(∀ j,j<ds.length->∃ c,Zed (ds.getD j .non)=.ok c)/\b=(List.range ds.length).any fun j=>match Zed (ds.getD j .non) with
  | .ok c=>c
  | _=>false
 | [],b,h=>by cases h;exact⟨fun j hj=>absurd hj (Nat.not_lt_zero _),rfl⟩
 | d::ds,b,h=>by
  rw[ZeD] at h
  cases e:Zed d with
  | bad=>rw[e] at h;cases h
  | exn x=>rw[e] at h;cases h
  | ok c =>
   rw[e,R.bind_ok] at h
   cases e2:ZcE ds with
   | bad=>rw[e2] at h;cases h
   | exn x=>rw[e2] at h;cases h
   | ok c2 =>
    rw[e2,R.bind_ok] at h
    cases h
    obtain⟨h1,h2⟩:=Zd5 e2
    refine⟨fun j hj=>?_,?_⟩
    ·cases j with
     | zero=>exact⟨c,e⟩
     | succ j=>exact h1 j (by simpa using hj)
    ·rw[List.length_cons,List.range_succ_eq_map,List.any_cons,List.any_map,h2]
     show (c||_)=((match Zed d with | .ok c=>c|_=>false)||_)
     rw[e]
     rfl
theorem ZgV:∀ (ds:List D) (a z:Int),ZkD a ds=.ok z->(∀ j,j<ds.length->∃ i,ds.getD j .non=.int i)/\z=a+preSum (fun j=>match ds.getD j .non with
  | .int i=>i
  | _=>0) ds.length
 | [],a,z,h=>by cases h;exact⟨fun j hj=>absurd hj (Nat.not_lt_zero _),by simp[preSum]⟩
 | .int i::ds,a,z,h=>by
  obtain⟨h1,h2⟩:=ZgV ds (a+i) z h
  refine⟨fun j hj=>?_,?_⟩
  ·cases j with
   | zero=>exact⟨i,rfl⟩
   | succ j=>exact h1 j (by simpa using hj)
  ·have key:∀ n,preSum (fun j=>match (D.int i::ds).getD j .non with | .int i=>i|_=>0) (n+1)=i+preSum (fun j=>match ds.getD j .non with | .int i=>i|_=>0) n:=by
    intro n
    induction n with
    | zero=>show (0:Int)+i=i+0;omega
    | succ n ih =>
     show preSum _ (n+1)+(match ds.getD n .non with | .int i=>i|_=>0)=i+(preSum _ n+(match ds.getD n .non with | .int i=>i|_=>0))
     rw[ih]
     omega
   rw[h2,List.length_cons,key]
   omega
 | .non::_,_,_,h=>by cases h
 | .bl _::_,_,_,h=>by cases h
 | .str _::_,_,_,h=>by cases h
 | .tup _::_,_,_,h=>by cases h
 | .lst _::_,_,_,h=>by cases h
 | .obj _ _::_,_,_,h=>by cases h
 | .exc _ _::_,_,_,h=>by cases h
 | .dic _::_,_,_,h=>by cases h
theorem Zd4{H:Hp}{xs:List V}{ds:List D}{its:List Value}(r:Reps X.K CL H A0 xs ds)(rv:Zar xs its){j:Nat}{v:Value}(h:its.toArray[j]?=some v):j<ds.length/\∃ x,Rep X.K CL H A0 x (ds.getD j .non)/\ZaR x v:=by
 have h':its[j]?=some v:=by simpa using h
 obtain⟨hj,e⟩:=List.getElem?_eq_some_iff.mp h'
 obtain⟨x,rx,q⟩:=Zd3 r rv hj
 have l1:=rv.length;have l2:=r.length
 exact⟨by omega,x,rx,by rw[<- e];exact q⟩
theorem Zjo{h h':Heap}{o:Obj}(k:∀ b q,b∉[h.objs.size]->(h.push o).get? b=some q->h'.get? b=some q):∀ b q,h.get? b=some q->h'.get? b=some q:=fun b q e=>k b q (by
 intro z
 have:=List.mem_singleton.mp z
 rw[this] at e
 exact absurd (Heap.lt_size e) (Nat.lt_irrefl _)) (Heap.get?_push_of_some _ e)
theorem Zsv(hc:X.calm=true):Zek X CL W (.builtin "all") (biD .all):=by
  intro A pins s σ H xs us Q I r ⟨hA,ds,rs,p⟩
  match ds,rs,p with
  | [.lst es],rs,p =>
    obtain⟨v,rfl,rv⟩:=rs.one
    obtain⟨q,ys,e,_,sq,ry⟩:=rv.plain
    subst e
    obtain⟨u,rfl,ru⟩:=ZcL r
    cases ru
    rw[ZxM] at p
    cases e1:Zd8 es with
    | bad=>rw[e1] at p;exact p.elim
    | exn x =>
      exfalso
      have:∀ (es:List D) x,Zd8 es≠.exn x:=by
        intro es
        induction es with
        | nil=>intro x h;cases h
        | cons d ds ih =>
          intro x h
          rw[ZeE] at h
          cases e:Zed d with
          | bad=>rw[e] at h;cases h
          | exn y=>cases d<;>cases e
          | ok c =>
            rw[e,R.bind_ok] at h
            cases e2:Zd8 ds with
            | bad=>rw[e2] at h;cases h
            | exn y=>exact ih y e2
            | ok c2=>rw[e2] at h;cases h
      exact this es x e1
    | ok b =>
      rw[e1,R.bind_ok] at p
      obtain⟨h1,h2⟩:=Zd7 e1
      obtain⟨its,rvv,pl,_⟩:=I.list sq
      have hlt:q<s.heap.objs.size:=by obtain⟨o,n,e,_⟩:=pl;exact Heap.lt_size e
      have hl:its.toArray.size=es.length:=by rw[List.size_toArray,<- rvv.length,ry.length]
      refine call_all_walk (wpAny_pyIter_list (Zci pl) ⟨s.heap.objs.size,_,_,_,_,_,(fun j=>match Zed (es.getD j .non) with | .ok c=>c|_=>false),rfl,Walks.list (A:=X.A.in1) (I.ok.hd hc) s.heap.objs.size q (Nat.ne_of_lt hlt) its.toArray,⟨⟨_,Heap.get?_push_size _ rfl,rfl,rfl⟩,(Zci pl).push _⟩,fun j v s' Q' E' hv hQ=>?_,fun h' tk k=>?_⟩)
      · obtain⟨hj,x,rx,qx⟩:=Zd4 ry rvv hv
        obtain⟨c,ec⟩:=h1 j hj
        exact Zgg rx qx ec (by dsimp only at hQ;rw[ec] at hQ;exact hQ)
      · rw[hl,<- h2]
        exact⟨.bl b,H,I.kept (Zjo k),rfl,p _ H (Zag.refl H) rfl⟩
  | [],_,p=>exact p.elim
  | [.non],_,p=>exact p.elim
  | [.bl _],_,p=>exact p.elim
  | [.int _],_,p=>exact p.elim
  | [.str _],_,p=>exact p.elim
  | [.tup _],_,p=>exact p.elim
  | [.obj _ _],_,p=>exact p.elim
  | [.exc _ _],_,p=>exact p.elim
  | [.dic _],_,p=>exact p.elim
  | x::_::_,_,p=>cases x<;>exact p.elim
theorem Zj7(hc:X.calm=true){A:Addr->Prop}{pins:Pn}{s:Shared}{σ:L2.St}{H:Hp}{Q:VK}{q:Addr}{ys:List V}{es:List D}(I:Inv X pins σ H s)(sq:SqL X.K H q ys\/SqT X.K H q ys)(ry:Reps X.K CL H A0 ys es)
  (p:Zas (fun H=>Rep X.K CL H A) W H ((ZcE es).bind fun b=>.ok (.bl b)) Q):wpAny (model X.prog X.w) X.A (call (.builtin "any") [.ref q]) (EP X pins σ Q) X.xe s:=by
 cases e1:ZcE es with
 | bad=>rw[e1] at p;exact p.elim
 | exn x =>
  exfalso
  clear p
  have:∀ (es:List D) x,ZcE es≠.exn x:=by
   intro es
   induction es with
   | nil=>intro x h;cases h
   | cons d ds ih =>
    intro x h
    rw[ZeD] at h
    cases e:Zed d with
    | bad=>rw[e] at h;cases h
    | exn y=>cases d<;>cases e
    | ok c =>
     rw[e,R.bind_ok] at h
     cases e2:ZcE ds with
     | bad=>rw[e2] at h;cases h
     | exn y=>exact ih y e2
     | ok c2=>rw[e2] at h;cases h
  exact this es x e1
 | ok b =>
  rw[e1,R.bind_ok] at p
  obtain⟨h1,h2⟩:=Zd5 e1
  rcases sq with sq|sq
  ·obtain⟨its,rvv,pl,_⟩:=I.list sq
   have hlt:q<s.heap.objs.size:=by obtain⟨o,n,e,_⟩:=pl;exact Heap.lt_size e
   have hl:its.toArray.size=es.length:=by rw[List.size_toArray,<- rvv.length,ry.length]
   refine call_any_walk (wpAny_pyIter_list (Zci pl) ⟨s.heap.objs.size,_,_,_,_,_,(fun j=>match Zed (es.getD j .non) with | .ok c=>c|_=>false),rfl,Walks.list (A:=X.A.in1) (I.ok.hd hc) s.heap.objs.size q (Nat.ne_of_lt hlt) its.toArray,⟨⟨_,Heap.get?_push_size _ rfl,rfl,rfl⟩,(Zci pl).push _⟩,fun j v s' Q' E' hv hQ=>?_,fun h' tk k=>?_⟩)
   ·obtain⟨hj,x,rx,qx⟩:=Zd4 ry rvv hv
    obtain⟨c,ec⟩:=h1 j hj
    exact Zgg rx qx ec (by dsimp only at hQ;rw[ec] at hQ;exact hQ)
   ·rw[hl,<- h2]
    exact⟨.bl b,H,I.kept (Zjo k),rfl,p _ H (Zag.refl H) rfl⟩
  ·obtain⟨its,rvv,pl,_⟩:=I.tuple sq
   have pl':s.heap.IsTuple q its.toArray:=pl
   have hlt:q<s.heap.objs.size:=by obtain⟨o,e,_⟩:=pl';exact Heap.lt_size e
   have hl:its.toArray.size=es.length:=by rw[List.size_toArray,<- rvv.length,ry.length]
   refine call_any_walk (wpAny_pyIter_tuple pl' ⟨s.heap.objs.size,_,_,_,_,_,(fun j=>match Zed (es.getD j .non) with | .ok c=>c|_=>false),rfl,Walks.tuple (A:=X.A.in1) (I.ok.hd hc) s.heap.objs.size q (Nat.ne_of_lt hlt) its.toArray,⟨⟨_,Heap.get?_push_size _ rfl,rfl,rfl⟩,pl'.push _⟩,fun j v s' Q' E' hv hQ=>?_,fun h' tk k=>?_⟩)
   ·obtain⟨hj,x,rx,qx⟩:=Zd4 ry rvv hv
    obtain⟨c,ec⟩:=h1 j hj
    exact Zgg rx qx ec (by dsimp only at hQ;rw[ec] at hQ;exact hQ)
   ·rw[hl,<- h2]
    exact⟨.bl b,H,I.kept (Zjo k),rfl,p _ H (Zag.refl H) rfl⟩
theorem Zsu(hc:X.calm=true):Zek X CL W (.builtin "any") (biD .any):=by
  intro A pins s σ H xs us Q I r ⟨hA,ds,rs,p⟩
  match ds,rs,p with
  | [.lst es],rs,p =>
    obtain⟨v,rfl,rv⟩:=rs.one
    obtain⟨q,ys,e,_,sq,ry⟩:=rv.plain
    subst e
    obtain⟨u,rfl,ru⟩:=ZcL r
    cases ru
    exact Zj7 hc I (.inl sq) ry p
  | [.tup es],rs,p =>
    obtain⟨v,rfl,rv⟩:=rs.one
    obtain⟨q,ys,e,_,sq,ry⟩:=rv.plain
    subst e
    obtain⟨u,rfl,ru⟩:=ZcL r
    cases ru
    exact Zj7 hc I (.inr sq) ry p
  | [],_,p=>exact p.elim
  | [.non],_,p=>exact p.elim
  | [.bl _],_,p=>exact p.elim
  | [.int _],_,p=>exact p.elim
  | [.str _],_,p=>exact p.elim
  | [.obj _ _],_,p=>exact p.elim
  | [.exc _ _],_,p=>exact p.elim
  | [.dic _],_,p=>exact p.elim
  | x::_::_,_,p=>cases x<;>exact p.elim
theorem Zis(hc:X.calm=true){A:Addr->Prop}{pins:Pn}{s:Shared}{σ:L2.St}{H:Hp}{Q:VK}{q:Addr}{ys:List V}{es:List D}(I:Inv X pins σ H s)(sq:SqL X.K H q ys\/SqT X.K H q ys)(ry:Reps X.K CL H A0 ys es)
  (p:Zas (fun H=>Rep X.K CL H A) W H ((ZkD 0 es).bind fun b=>.ok (.int b)) Q):wpAny (model X.prog X.w) X.A (call (.builtin "sum") [.ref q]) (EP X pins σ Q) X.xe s:=by
 cases e1:ZkD 0 es with
 | bad=>rw[e1] at p;exact p.elim
 | exn x =>
  exfalso
  have:∀ (es:List D) (a:Int) x,ZkD a es≠.exn x:=by
   intro es
   induction es with
   | nil=>intro a x h;cases h
   | cons d ds ih =>
    intro a x h
    cases d<;>first|exact ih _ _ h|cases h
  exact this es 0 x e1
 | ok z =>
  rw[e1,R.bind_ok] at p
  obtain⟨h1,h2⟩:=ZgV es 0 z e1
  rw[Int.zero_add] at h2
  rcases sq with sq|sq
  ·obtain⟨its,rvv,pl,_⟩:=I.list sq
   have hlt:q<s.heap.objs.size:=by obtain⟨o,n,e,_⟩:=pl;exact Heap.lt_size e
   have hl:its.toArray.size=es.length:=by rw[List.size_toArray,<- rvv.length,ry.length]
   refine call_sum_walkG (wpAny_pyIter_list (Zci pl) ⟨s.heap.objs.size,_,_,_,_,_,(fun j=>match es.getD j .non with | .int i=>i|_=>0),rfl,Walks.list (A:=X.A.in1) (I.ok.hd hc) s.heap.objs.size q (Nat.ne_of_lt hlt) its.toArray,⟨⟨_,Heap.get?_push_size _ rfl,rfl,rfl⟩,(Zci pl).push _⟩,fun b hb=>?_,fun j v hv=>?_,fun h' tk t' k=>?_⟩)
   ·show b<(s.heap.push _).objs.size
    rw[Heap.size_push]
    rcases List.mem_cons.mp hb with rfl|hb
    ·exact Nat.lt_succ_self _
    ·rw[List.mem_singleton.mp hb];exact Nat.lt_succ_of_lt hlt
   ·obtain⟨hj,x,rx,qx⟩:=Zd4 ry rvv hv
    obtain⟨i,ei⟩:=h1 j hj
    rw[ei] at rx
    dsimp only
    rw[ei]
    cases rx
    exact qx
   ·rw[hl,<- h2]
    exact⟨.int z,H,I.kept (Zjo k),⟨_,rfl⟩,p _ H (Zag.refl H) rfl⟩
  ·obtain⟨its,rvv,pl,_⟩:=I.tuple sq
   have pl':s.heap.IsTuple q its.toArray:=pl
   have hlt:q<s.heap.objs.size:=by obtain⟨o,e,_⟩:=pl';exact Heap.lt_size e
   have hl:its.toArray.size=es.length:=by rw[List.size_toArray,<- rvv.length,ry.length]
   refine call_sum_walkG (wpAny_pyIter_tuple pl' ⟨s.heap.objs.size,_,_,_,_,_,(fun j=>match es.getD j .non with | .int i=>i|_=>0),rfl,Walks.tuple (A:=X.A.in1) (I.ok.hd hc) s.heap.objs.size q (Nat.ne_of_lt hlt) its.toArray,⟨⟨_,Heap.get?_push_size _ rfl,rfl,rfl⟩,pl'.push _⟩,fun b hb=>?_,fun j v hv=>?_,fun h' tk t' k=>?_⟩)
   ·show b<(s.heap.push _).objs.size
    rw[Heap.size_push]
    rcases List.mem_cons.mp hb with rfl|hb
    ·exact Nat.lt_succ_self _
    ·rw[List.mem_singleton.mp hb];exact Nat.lt_succ_of_lt hlt
   ·obtain⟨hj,x,rx,qx⟩:=Zd4 ry rvv hv
    obtain⟨i,ei⟩:=h1 j hj
    rw[ei] at rx
    dsimp only
    rw[ei]
    cases rx
    exact qx
   ·rw[hl,<- h2]
    exact⟨.int z,H,I.kept (Zjo k),⟨_,rfl⟩,p _ H (Zag.refl H) rfl⟩
theorem Zsp(hc:X.calm=true):Zek X CL W (.builtin "sum") (biD .sum):=by
  intro A pins s σ H xs us Q I r ⟨hA,ds,rs,p⟩
  match ds,rs,p with
  | [.lst es],rs,p =>
    obtain⟨v,rfl,rv⟩:=rs.one
    obtain⟨q,ys,e,_,sq,ry⟩:=rv.plain
    subst e
    obtain⟨u,rfl,ru⟩:=ZcL r
    cases ru
    exact Zis hc I (.inl sq) ry p
  | [.tup es],rs,p =>
    obtain⟨v,rfl,rv⟩:=rs.one
    obtain⟨q,ys,e,_,sq,ry⟩:=rv.plain
    subst e
    obtain⟨u,rfl,ru⟩:=ZcL r
    cases ru
    exact Zis hc I (.inr sq) ry p
  | [],_,p=>exact p.elim
  | [.non],_,p=>exact p.elim
  | [.bl _],_,p=>exact p.elim
  | [.int _],_,p=>exact p.elim
  | [.str _],_,p=>exact p.elim
  | [.obj _ _],_,p=>exact p.elim
  | [.exc _ _],_,p=>exact p.elim
  | [.dic _],_,p=>exact p.elim
  | x::_::_,_,p=>cases x<;>exact p.elim
end
end Ov
end
section
namespace Ov
open PySem PySem.Spec PyProof.Rows L2
section
variable (K:Fg) (CL:ClA)
def ZxR(H0:Hp)(A:Addr->Prop)(H:Hp)(v:V)(d:D):Prop:=∀ ds,d=.lst ds->∃ a xs,v=.ref a/\H0 a=none/\H a=some (.lst xs)/\Reps K CL H (fun b=>A b\/b=a) xs ds
def Zcp(fr:Bool)(H0:Hp)(A:Addr->Prop)(H:Hp)(v:V)(d:D):Prop:=Rep K CL H A v d/\(fr=true->ZxR K CL H0 A H v d)
end
section
variable {X:Cx} {CL:ClA} {W:XW} {a b c:Expr} {fa fb fc:Rho->R D} {pos:Pos}
def SC(X:Cx)(CL:ClA)(W:XW)(fr:Bool)(e:Expr)(f:Rho->R D):Prop:=∀ A,PE X e (fun σ H Q=>AOk H A/\∃ ρ,Good X.K CL A ρ σ H/\Zas (Zcp X.K CL fr H A) W H (f ρ) Q)
theorem SC.se{fr:Bool}(h:SC X CL W fr a fa):SE X CL W a fa:=fun A=>PE.weak (h A) fun σ H Q ⟨hA,ρ,g,p⟩=>⟨hA,ρ,g,by
 cases e:fa ρ with
 | ok d=>rw[e] at p;exact fun v H' s r=>p v H' s r.1
 | exn x=>rw[e] at p;exact p
 | bad=>rw[e] at p;exact p⟩
theorem SE.sc(h:SE X CL W a fa):SC X CL W false a fa:=fun A=>PE.weak (h A) fun σ H Q ⟨hA,ρ,g,p⟩=>⟨hA,ρ,g,by
 cases e:fa ρ with
 | ok d=>rw[e] at p;exact fun v H' s r=>p v H' s ⟨r,fun z=>nomatch z⟩
 | exn x=>rw[e] at p;exact p
 | bad=>rw[e] at p;exact p⟩
theorem SC.congr{fr:Bool}{f g:Rho->R D}(h:SC X CL W fr a f)(e:∀ ρ,g ρ=f ρ):SC X CL W fr a g:=fun A=>PE.weak (h A) fun σ H Q ⟨hA,ρ,q,p⟩=>⟨hA,ρ,q,by rw[<- e];exact p⟩
theorem Zbi{K:Fg}{H0 H:Hp}{A:Addr->Prop}{p:Addr}{xs:List V}{ds:List D}(s:Zag H0 H)(hA:AOk H A)(hp:H p=none)(r:Reps K CL H A xs ds):Zcp K CL true H0 A (upd H p (.lst xs)) (.ref p) (.lst ds) :=
 ⟨Zjf hA hp r,fun _ ds' e=>by
  cases e
  exact⟨p,xs,rfl,s.free hp,Zaw,(Reps.wide (fun a ha=>ha.imp id fun e=>by rw[e];exact hp) _ r).same (Zat hp _)⟩⟩
theorem ZiT{K:Fg}{H0 H:Hp}{A:Addr->Prop}{v:V}{d:D}{fr:Bool}(r:Rep K CL H A v d)(h:∀ ds,d≠.lst ds):Zcp K CL fr H0 A H v d:=⟨r,fun _ ds e=>absurd e (h ds)⟩
theorem ZpX{es:List Expr}{fs:Rho->R (List D)}(hs:SA X CL W es fs)(hz:∀ ρ ds,fs ρ=.ok ds->ds.length<=100000):SC X CL W true (.List es pos) (fun ρ=>(fs ρ).bind fun xs=>.ok (.lst xs)) :=
 fun A=>PE.weak (Zq5 (hs A)) fun σ H Q ⟨hA,ρ,g,p⟩=>⟨hA,ρ,g,Zda.bind p fun ds vs H1 e s1 r1 p1=>⟨by
  rw[r1.length,sizeLine_eq];have:=hz ρ ds e;omega,fun q hq=>p1 _ _ (Zat hq _) (Zbi s1 (hA.same s1) hq r1)⟩⟩
theorem Zas.bindF{Rp:Hp->V->D->Prop}{fr:Bool}{K:Fg}{A:Addr->Prop}{W:XW}{H:Hp}{r:R D}{f:D->R D}{Q Q':VK}(h:Zas (Zcp K CL fr H A) W H (r.bind f) Q)(k:∀ d v H',r=.ok d->Zag H H'->Rp H' v d->Zas (Zcp K CL fr H A) W H' (f d) Q->Q' v H'):Zas Rp W H r Q':=by
 cases r with
 | ok d=>exact fun v H2 s2 q=>k d v H2 rfl s2 q (Zas.same s2 h)
 | exn x=>exact h
 | bad=>exact h
theorem Zda.bindF{Rp:Hp->List V->List D->Prop}{Rq:Hp->V->D->Prop}{W:XW}{H:Hp}{r:R (List D)}{f:List D->R D}{Q:VK}{Q':List V->Hp->Prop}(h:Zas Rq W H (r.bind f) Q)(k:∀ d v H',r=.ok d->Zag H H'->Rp H' v d->Zas Rq W H' (f d) Q->Q' v H'):Zda Rp W H r Q':=by
 cases r with
 | ok d=>exact fun v H2 s2 q=>k d v H2 rfl s2 q (Zas.same s2 h)
 | exn x=>exact h
 | bad=>exact h
theorem ZgJ.bindF{Rq:Hp->V->D->Prop}{W:XW}{H:Hp}{r:R (Option Int)}{f:Option Int->R D}{Q:VK}{Q':Option Int->Hp->Prop}(h:Zas Rq W H (r.bind f) Q)(k:∀ o H',r=.ok o->Zag H H'->Zas Rq W H' (f o) Q->Q' o H'):ZgJ W H r Q':=by
 cases r with
 | ok d=>exact fun H2 s2=>k d H2 rfl s2 (Zas.same s2 h)
 | exn x=>exact h
 | bad=>exact h
theorem ZuO{lo hi:Option Expr}{fl fh:Rho->R (Option Int)}{p2:Pos}(ha:ST X CL W a fa)(hl:SO X CL W lo fl)(hh:SO X CL W hi fh):SC X CL W true (.Subscript a (.Slice lo hi none p2) pos) (fun ρ=>(fa ρ).bind fun x=>(fl ρ).bind fun l=>(fh ρ).bind fun h=>slD x l h) :=
 fun A=>PE.weak (ZkY (r:=fun x l h H Q=>Zyh X.K x l h H Q\/Zyg X.K x l h H Q) (fun pins s σ H x v vl vu lo hi sl Q I rx hs pl pu h=>h.elim (Zm8 pins s σ H x v vl vu lo hi sl Q I rx hs pl pu) (Zp2 pins s σ H x v vl vu lo hi sl Q I rx hs pl pu)) (ha A) (hl A) (hh A)) fun σ H Q ⟨hA,ρ,g,p⟩=>⟨hA,ρ,g,Zas.bindF p fun dx x H1 _ s1 r1 p1=>⟨hA.same s1,ρ,g.same s1,ZgJ.bindF p1 fun l H2 _ s2 p2=>⟨(hA.same s1).same s2,ρ,(g.same s1).same s2,ZgJ.bindF p2 fun h H3 _ s3 p3=>by
  cases dx with
  | lst ds =>
   obtain⟨q,xs,rfl,sq,r⟩:=((r1.same s2).same s3).lst_of
   exact .inl ⟨q,xs,rfl,sq,fun t ht=>p3 _ _ (Zat ht _) (Zbi ((s1.trans s2).trans s3) (((hA.same s1).same s2).same s3) ht (ZjI l h r))⟩
  | tup ds =>
   obtain⟨q,xs,rfl,_,sq,r⟩:=((r1.same s2).same s3).tup_of
   rw[Zzi] at p3
   split at p3
   ·exact p3.elim
   ·rename_i hw
    refine .inr ⟨q,xs,rfl,sq,?_,fun t ht=>p3 _ _ (Zat ht _) (ZiT (Zdy (((hA.same s1).same s2).same s3) ht (ZjI l h r)) (by intro _ z;cases z))⟩
    rintro⟨h1,h2⟩
    refine hw ?_
    have e:∀ d o,HT.sIx xs.length d o=ZkQ ds.length d o:=fun d o=>by rw[r.length];cases o<;>rfl
    rw[e] at h1 h2
    rw[r.length] at h2
    simp[h1,h2]
  | _=>exact p3.elim⟩⟩⟩
noncomputable def OpN(X:Cx)(CL:ClA)(W:XW)(f:Value->Value->Sem Value)(g:D->D->R D):Prop :=
 ∀ A H0,OpR X f (fun x y H Q=>Zag H0 H/\AOk H A/\∃ dx dy,Zb1 X.K CL H A x dx/\Zb1 X.K CL H A y dy/\Zas (Zcp X.K CL true H0 A) W H (g dx dy) Q)
theorem ZnK:OpN X CL W (binaryOp .Add) (ZcA .Add):=by
 intro A H0 pins s σ H x y v u Q I rx ry ⟨s0,hA,dx,dy,hx,hy,p⟩
 have key:(∀ ds,dx≠.lst ds)->EP X pins σ Q=EP X pins σ Q->wpAny (model X.prog X.w) X.A (binaryOp .Add v u) (EP X pins σ Q) X.xe s:=fun hd _=>by
  refine Zi9 (W:=W) A pins s σ H x y v u Q I rx ry ⟨hA,dx,dy,hx,hy,?_⟩
  cases e:ZcA .Add dx dy with
  | bad=>rw[e] at p;exact p
  | exn x=>rw[e] at p;exact p
  | ok d =>
   rw[e] at p
   refine fun v' H' s' r'=>p v' H' s' (ZiT r' fun ds z=>?_)
   subst z
   cases dx with
   | lst ds=>exact hd _ rfl
   | _=>cases dy<;>first|(cases e;done)|(simp only[ZcA] at e;split at e<;>cases e)
 cases dx with
 | lst ds =>
  cases dy with
  | lst es =>
   obtain⟨a,xs,rfl,s1,r1⟩:=hx.lst_of
   obtain⟨b,ys,rfl,s2,r2⟩:=hy.lst_of
   simp only[Zj8] at p
   split at p
   ·rename_i h
    refine Zja pins s σ H _ _ v u Q I rx ry ⟨a,b,xs,ys,rfl,rfl,s1,s2,by rw[r1.length,r2.length];exact ZaX h,fun q hq=>?_⟩
    exact p _ _ (Zat hq _) (Zbi s0 hA hq (r1.append r2))
   ·exact p.elim
  | _=>exact p.elim
 | _=>exact key (by intro _ z;cases z) rfl
theorem Zp1(ha:ST X CL W a fa)(hb:ST X CL W b fb):SC X CL W true (.BinOp a .Add b pos) (fun ρ=>(fa ρ).bind fun x=>(fb ρ).bind fun y=>ZcA .Add x y) :=
 fun A pins s σ H Q I h=>by
  obtain⟨hA,ρ,g,p⟩:=h
  exact Zq1 (ZnK (W:=W) A H) (ha A) (hb A) pins s σ H Q I ⟨hA,ρ,g,Zas.bindF p fun dx x H1 _ s1 r1 p1=>⟨hA.same s1,ρ,g.same s1,Zas.bind (Rq:=Zcp X.K CL true H A) p1 fun dy y H2 _ s2 r2 p2=>⟨s1.trans s2,(hA.same s1).same s2,dx,dy,r1.same s2,r2,p2⟩⟩⟩
def ZlB(X:Cx)(CL:ClA)(W:XW)(f:Value)(g:List D->R D):Prop:=∀ A H0,Zdb X f (fun xs H Q=>Zag H0 H/\AOk H A/\∃ ds,Zco X.K CL H A xs ds/\Zas (Zcp X.K CL true H0 A) W H (g ds) Q)
theorem ZoA:ZlB X CL W (.type "list") (biD .list):=by
  intro A H0 pins s σ H xs us Q I r ⟨s0,hA,ds,rs,p⟩
  match ds,rs,p with
  | [.lst es],rs,p =>
    obtain⟨v,rfl,rv⟩:=rs.one
    obtain⟨q,ys,rfl,sq,ry⟩:=rv.lst_of
    exact Zc2 pins s σ H _ us Q I r ⟨q,ys,rfl,.inl sq,fun l hl=>p _ _ (Zat hl _) (Zbi s0 hA hl ry)⟩
  | [.tup es],rs,p =>
    obtain⟨v,rfl,rv⟩:=rs.one
    obtain⟨q,ys,rfl,_,sq,ry⟩:=rv.tup_of
    exact Zc2 pins s σ H _ us Q I r ⟨q,ys,rfl,.inr sq,fun l hl=>p _ _ (Zat hl _) (Zbi s0 hA hl ry)⟩
  | [],_,p=>exact p.elim
  | [.non],_,p=>exact p.elim
  | [.bl _],_,p=>exact p.elim
  | [.int _],_,p=>exact p.elim
  | [.str _],_,p=>exact p.elim
  | [.obj _ _],_,p=>exact p.elim
  | [.exc _ _],_,p=>exact p.elim
  | [.dic _],_,p=>exact p.elim
  | x::_::_,_,p=>cases x<;>exact p.elim
theorem ZpZ{x:Str}{T:String}{p:Pos}{e:Expr}{es:List Expr}{fs:Rho->R (List D)}{g:List D->R D}(hc:ZlB X CL W (.type T) g)(hg:Gl X x)(hm:X.mg x=none)(hv:bootBuiltins x=some (.type T))(ha:SAT X CL W (e::es) fs)
  (hn:x≠"__name__") (hdb:(x == ("__debug__" : Str))=false) (he:starEach (e::es) X.env=(false,eval e X.env)::starEach es X.env) (hpl:∀ pos,(backTo pos (starEach es X.env)).any (·.1)=false) :
  SC X CL W true (.Call (.Name x p) (e::es) [] pos) (fun ρ=>(fs ρ).bind g):=fun A pins s σ H Q I ⟨hA,ρ,gd,q⟩ =>
 Zft (hc A H) hg hm hv (ha A) hn hdb he (hpl _) pins s σ H Q I ⟨hA,ρ,gd,Zda.bindF q fun ds vs H1 _ s1 r1 p1=>⟨s1,hA.same s1,ds,r1,p1⟩⟩
theorem Zp0{x:Str}{id:String}{p:Pos}{e:Expr}{es:List Expr}{fs:Rho->R (List D)}{g:List D->R D}(hc:ZlB X CL W (.builtin id) g)(hg:Gl X x)(hm:X.mg x=none)(hv:bootBuiltins x=some (.builtin id))(ha:SAT X CL W (e::es) fs)
  (hn:x≠"__name__") (hdb:(x == ("__debug__" : Str))=false) (he:starEach (e::es) X.env=(false,eval e X.env)::starEach es X.env) (hpl:∀ pos,(backTo pos (starEach es X.env)).any (·.1)=false) :
  SC X CL W true (.Call (.Name x p) (e::es) [] pos) (fun ρ=>(fs ρ).bind g):=fun A pins s σ H Q I ⟨hA,ρ,gd,q⟩ =>
 Zb4 (hc A H) hg hm hv (ha A) hn hdb he (hpl _) pins s σ H Q I ⟨hA,ρ,gd,Zda.bindF q fun ds vs H1 _ s1 r1 p1=>⟨s1,hA.same s1,ds,r1,p1⟩⟩
mutual
theorem Zrn{K:Fg}{H:Hp}{A:Addr->Prop}(hA:AOk H A):∀ (n:Nat) (d:D) {v:V},nlD n d=true->Rep K CL H A0 v d->Rep K CL H A v d
 | _,.non,_,_,h=>h
 | _,.bl _,_,_,h=>h
 | _,.int _,_,_,h=>h
 | _,.str _,_,_,h=>h
 | 0,.tup _,_,hn,_=>by cases hn
 | n+1,.tup ds,_,hn,h=>by
  obtain⟨a,xs,e,_,s,r⟩:=h
  refine⟨a,xs,e,?_,s,nls_up hA n ds hn r⟩
  rcases s with s|s
  ·refine .inl fun z=>?_
   obtain⟨ys,q⟩:=hA a z
   rcases s with s|⟨o,s⟩<;>rw[q] at s<;>cases s
  ·exact .inr s
 | n,.lst _,_,hn,_=>by cases n<;>cases hn
 | n,.obj _ _,_,hn,_=>by cases n<;>cases hn
 | n,.exc _ _,_,hn,_=>by cases n<;>cases hn
 | n,.dic _,_,hn,_=>by cases n<;>cases hn
theorem nls_up{K:Fg}{H:Hp}{A:Addr->Prop}(hA:AOk H A):∀ (n:Nat) (ds:List D) {vs:List V},ds.all (nlD n)=true->Reps K CL H A0 vs ds->Reps K CL H A vs ds
 | _,[],[],_,h=>h
 | n,d::ds,_::_,hn,h=>by
  simp only[List.all_cons,Bool.and_eq_true] at hn
  exact⟨Zrn hA n d hn.1 h.1,nls_up hA n ds hn.2 h.2⟩
 | _,[],_::_,_,h=>h.elim
 | _,_::_,[],_,h=>h.elim
end
theorem ZjN{K:Fg}{H0 H:Hp}{A:Addr->Prop}{fr:Bool}{v:V}{d:D}(hA0:AOk H0 A)(s:Zag H0 H)(hc:Zgd fr d=true)(r:Zcp K CL fr H0 A0 H v d):Zcp K CL fr H0 A H v d:=by
 have hA:=hA0.same s
 cases d with
 | lst ds =>
  have hc':(fr&&ds.all (nlD 5))=true:=hc
  rw[Bool.and_eq_true] at hc'
  obtain⟨a,xs,e,h0,h1,rs⟩:=r.2 hc'.1 ds rfl
  have hA2:AOk H (fun b=>A b\/b=a):=fun b hb=>hb.elim (hA b) fun e=>by rw[e];exact⟨xs,h1⟩
  have rs':=nls_up hA2 5 ds hc'.2 (Reps.sub (fun _ z=>z.elim) _ rs)
  refine⟨⟨a,xs,e,.inl (hA0.new h0),SqL.of h1,Reps.sub (fun _ z=>.inl z) _ rs'⟩,fun _ ds' e'=>?_⟩
  cases e'
  exact⟨a,xs,e,h0,h1,rs'⟩
 | _=>exact⟨Zrn hA 5 _ hc r.1,fun _ _ z=>nomatch z⟩
def spD(K:Fg)(CL:ClA)(n:Nat)(fr:Bool)(F:List D->R D):Sp:=fun vs H Q E=>∃ (ds:List D) (A:Addr->Prop),vs.length=n/\AOk H A/\Reps K CL H A vs ds/\(match F ds with
  | .ok d=>∀ v H',Zag H H'->Zcp K CL fr H A H' v d->Q v H'
  | .exn x=>∀ cls dx H',Zag H H'->Zpt K CL H' A cls dx x->E cls dx H'
  | .bad=>False)
def EKW(K:Fg)(CL:ClA)(A:Addr->Prop)(W:XW):XK:=fun cls dx H'=>∃ x,Zpt K CL H' A cls dx x/\W x H'
theorem Zco.plain{K:Fg}{H:Hp}{A:Addr->Prop}:∀ {vs:List V} {ds:List D},Zco K CL H A vs ds->Reps K CL H A0 vs ds
 | [],[],h=>trivial
 | _::_,_::_,h=>⟨h.1.plain,Zco.plain h.2⟩
 | [],_::_,h=>h.elim
 | _::_,[],h=>h.elim
theorem Znd{CX:CXT}{k n:Nat}{fr:Bool}{f:Addr}{fd:FuncData}{ps:List Str}{F:List D->R D}{x:Str}{p:Pos}{e:Expr}{es:List Expr}{fs ft:Rho->R (List D)}{sh:Rho->Bool}(G:FnOk X.prog X.w X.K X.mg X.base CX k f fd ps (spD X.K CL n fr F))(hr:Room k X.A)(hg:Gl X x)(hm:X.mg x=some (.ref f))
  (hk:PySem.W.keepIn X.K (.ref f)=true) (hb:ZcH X.K fd ps []) (hx:∀ A,ZeH CX X (EKW X.K CL A W)) (ha:SA X CL W (e::es) fs) (hat:SAT X CL W (e::es) ft) (hst:∀ ρ,sh ρ=true->ft ρ=fs ρ) (hn:∀ ρ ds,ft ρ=.ok ds->ds.length=n)
  (hdb:(x == ("__debug__" : Str))=false) (he:starEach (e::es) X.env=(false,eval e X.env)::starEach es X.env) (hpl:∀ pos,(backTo pos (starEach es X.env)).any (·.1)=false) :
  SC X CL W fr (.Call (.Name x p) (e::es) [] pos) (fun ρ=>(ft ρ).bind fun ds=>(F ds).bind fun d=>if sh ρ=true then .ok d else if Zgd fr d=true then .ok d else .bad):=fun A pins s σ H Q I ⟨hA,ρ,gd,q⟩=>by
 dsimp only at q
 by_cases hs:sh ρ=true
 ·rw[hst ρ hs] at q
  refine Zi4 G hr hg hm hk hb .nil (hx A) (ha A) hdb he (hpl _) pins s σ H Q I ⟨hA,ρ,gd,?_⟩
  cases e1:fs ρ with
  | bad=>rw[e1] at q;exact q
  | exn y=>rw[e1] at q;exact q
  | ok ds =>
   rw[e1] at q
   intro vs H1 s1 r1
   refine⟨ds,A,by rw[List.append_nil,r1.length];exact hn ρ ds (by rw[hst ρ hs];exact e1),hA.same s1,by rw[List.append_nil];exact r1,?_⟩
   have q':Zas (Zcp X.K CL fr H A) W H ((F ds).bind fun d=>if sh ρ=true then .ok d else if Zgd fr d=true then .ok d else .bad) Q:=q
   cases e2:F ds with
   | ok d =>
    rw[e2,R.bind_ok,if_pos hs] at q'
    exact fun v H2 s2 r2=>q' v H2 (s1.trans s2) ⟨r2.1,fun z ds' e'=>let ⟨a,xs,z1,z2,z3⟩:=r2.2 z ds' e';⟨a,xs,z1,s1.free z2,z3⟩⟩
   | exn y=>rw[e2] at q';exact fun cls dx H2 s2 xr=>⟨y,xr,q' H2 (s1.trans s2)⟩
   | bad=>rw[e2] at q';exact q'.elim
 ·refine Zi4 G hr hg hm hk hb .nil (hx A0) (hat A) hdb he (hpl _) pins s σ H Q I ⟨hA,ρ,gd,?_⟩
  cases e1:ft ρ with
  | bad=>rw[e1] at q;exact q
  | exn y=>rw[e1] at q;exact q
  | ok ds =>
   rw[e1] at q
   intro vs H1 s1 r1
   refine⟨ds,A0,by rw[List.append_nil,r1.plain.length];exact hn ρ ds e1,fun _ z=>z.elim,by rw[List.append_nil];exact r1.plain,?_⟩
   have q':Zas (Zcp X.K CL fr H A) W H ((F ds).bind fun d=>if sh ρ=true then .ok d else if Zgd fr d=true then .ok d else .bad) Q:=q
   cases e2:F ds with
   | ok d =>
    rw[e2,R.bind_ok,if_neg hs] at q'
    split at q'
    ·rename_i hc
     exact fun v H2 s2 r2=>q' v H2 (s1.trans s2) (ZjN hA (s1.trans s2) hc ⟨r2.1,fun z ds' e'=>let ⟨a,xs,z1,z2,z3⟩:=r2.2 z ds' e';⟨a,xs,z1,s1.free z2,z3⟩⟩)
    ·exact q'.elim
   | exn y=>rw[e2] at q';exact fun cls dx H2 s2 xr=>⟨y,xr,q' H2 (s1.trans s2)⟩
   | bad=>rw[e2] at q';exact q'.elim
end
end Ov
end
section
namespace Ov
open PySem PySem.Spec PyProof.Rows L2
theorem ZcV(env:Env):∀ (ns:List (Str×NameKind)) (acc:List (Str×Addr)),(∀ x∈ns,x.2=.free->∃ c,env.cells.lookup x.1=some c)->(∀ x c,acc.lookup x=some c->env.cells.lookup x=some c) ->
  ∃ cl,(forIn ns acc fun (x:Str×NameKind) (cs:List (Str×Addr))=>(if (x.2 == .free)=true then do let c <- cellOf env x.1;pure (ForInStep.yield ((x.1,c)::cs)) else pure (ForInStep.yield cs):Sem (ForInStep (List (Str×Addr)))))=pure cl /\
   (∀ x c,cl.lookup x=some c->env.cells.lookup x=some c)/\(∀ x,((x,NameKind.free)∈ns\/∃ c,acc.lookup x=some c)->∃ c,cl.lookup x=some c)
 | [],acc,_,h2=>⟨acc,by rw[List.forIn_nil],h2,fun x hx=>hx.elim (fun z=>nomatch z) id⟩
 | (n,k)::r,acc,h1,h2=>by
  rw[List.forIn_cons]
  by_cases hk:k=.free
  ·subst hk
   obtain⟨c,hc⟩:=h1 (n,.free) List.mem_cons_self rfl
   obtain⟨cl,e,p,q⟩:=ZcV env r ((n,c)::acc) (fun x hx=>h1 x (List.mem_cons_of_mem _ hx)) (fun x d hd=>by
    rw[List.lookup_cons] at hd
    split at hd
    ·rename_i hx
     cases hd
     rw[eq_of_beq hx];exact hc
    ·exact h2 x d hd)
   refine⟨cl,?_,p,fun x hx=>q x ?_⟩
   ·have e1:cellOf env n=pure c:=by unfold cellOf;dsimp only at hc;rw[hc]
    rw[if_pos (by rfl),e1]
    exact e
   ·rcases hx with hx|⟨d,hd⟩
    ·rcases List.mem_cons.mp hx with z|z
     ·cases z
      exact .inr ⟨c,by simp[List.lookup_cons]⟩
     ·exact .inl z
    ·by_cases hxn:x=n
     ·exact .inr ⟨c,by subst hxn;simp[List.lookup_cons]⟩
     ·exact .inr ⟨d,by rw[List.lookup_cons];rw[beq_eq_false_iff_ne.mpr hxn];exact hd⟩
  ·obtain⟨cl,e,p,q⟩:=ZcV env r acc (fun x hx=>h1 x (List.mem_cons_of_mem _ hx)) h2
   refine⟨cl,?_,p,fun x hx=>q x ?_⟩
   ·rw[if_neg (by simpa using hk)]
    exact e
   ·rcases hx with hx|hx
    ·rcases List.mem_cons.mp hx with z|z
     ·cases z;exact absurd rfl hk
     ·exact .inl z
    ·exact .inr hx
theorem Zez{scope:Scope}{env:Env}(h:∀ x∈scope.names,x.2=.free->∃ c,env.cells.lookup x.1=some c) :
  ∃ cl,closureFor scope env=pure cl/\(∀ x c,cl.lookup x=some c->env.cells.lookup x=some c)/\∀ x,(x,NameKind.free)∈scope.names->∃ c,cl.lookup x=some c:=by
 obtain⟨cl,e,p,q⟩:=ZcV env scope.names [] h (fun x c z=>by simp at z)
 refine⟨cl,?_,p,fun x hx=>q x (.inl hx)⟩
 unfold closureFor
 first
  | exact e
  | (simp only[bind_pure];exact e)
  | (rw[show (forIn scope.names ([]:List (Str×Addr)) _:Sem _)=pure cl from e];rfl)
theorem ZdT:∀ (names:List (Str×NameKind)) (h:Heap) (acc:List (Str×Addr)) (x:Str) (c:Addr),(cellsFrom h.objs.size names acc).lookup x=some c ->
  acc.lookup x=some c\/((x,NameKind.cell)∈names/\h.objs.size<=c/\(pushCells h names).IsCell c none)
 | [],_,_,_,_,e=>.inl e
 | (n,k)::r,h,acc,x,c,e=>by
  unfold cellsFrom at e
  unfold pushCells
  by_cases hk:(k == NameKind.cell)=true
  ·rw[if_pos hk] at e ⊢
   have hs:h.objs.size+1=(h.push { cls:=.type "cell", data:=.cell none }).objs.size:=(Heap.size_push ..).symm
   rw[hs] at e
   rcases ZdT r _ _ x c e with q|⟨q1,q2,q3⟩
   ·rw[List.lookup_cons] at q
    cases hx:x == n with
    | true =>
     rw[hx] at q
     cases q
     refine .inr ⟨?_,Nat.le_refl _,?_⟩
     ·rw[eq_of_beq hx,eq_of_beq hk];exact List.mem_cons_self
     ·exact⟨_,pushCells_keeps r _ _ _ (Heap.get?_push_size _ rfl),rfl⟩
    | false=>rw[hx] at q;exact .inl q
   ·exact .inr ⟨List.mem_cons_of_mem _ q1,by omega,q3⟩
  ·rw[if_neg hk] at e ⊢
   rcases ZdT r h acc x c e with q|⟨q1,q2,q3⟩
   ·exact .inl q
   ·exact .inr ⟨List.mem_cons_of_mem _ q1,q2,q3⟩
theorem ZdU:∀ (names:List (Str×NameKind)) (h:Heap) (acc:List (Str×Addr)),(∀ x y c,acc.lookup x=some c->acc.lookup y=some c->x=y)->(∀ x c,acc.lookup x=some c->c<h.objs.size) ->
  ∀ x y c,(cellsFrom h.objs.size names acc).lookup x=some c->(cellsFrom h.objs.size names acc).lookup y=some c->x=y
 | [],_,_,i,_,x,y,c,e1,e2=>i x y c e1 e2
 | (n,k)::r,h,acc,i,b,x,y,c,e1,e2=>by
  unfold cellsFrom at e1 e2
  by_cases hk:(k == NameKind.cell)=true
  ·rw[if_pos hk] at e1 e2
   have hs:h.objs.size+1=(h.push { cls:=.type "cell", data:=.cell none }).objs.size:=(Heap.size_push ..).symm
   rw[hs] at e1 e2
   have look:∀ z d,List.lookup z ((n,h.objs.size)::acc)=some d->(z=n/\d=h.objs.size)\/(z≠n/\acc.lookup z=some d):=fun z d q=>by
    rw[List.lookup_cons] at q
    cases hx:z == n with
    | true=>rw[hx] at q;cases q;exact .inl ⟨eq_of_beq hx,rfl⟩
    | false=>rw[hx] at q;exact .inr ⟨fun e=>by rw[e] at hx;simp at hx,q⟩
   refine ZdU r _ _ (fun z z' d q q'=>?_) (fun z d q=>?_) x y c e1 e2
   ·rcases look z d q with ⟨rfl,q1⟩|⟨_,q1⟩<;>rcases look z' d q' with ⟨rfl,q2⟩|⟨_,q2⟩
    ·rfl
    ·exact absurd (b _ _ q2) (by rw[q1];exact Nat.lt_irrefl _)
    ·exact absurd (b _ _ q1) (by rw[q2];exact Nat.lt_irrefl _)
    ·exact i _ _ _ q1 q2
   ·rw[<- hs]
    rcases look z d q with ⟨_,q1⟩|⟨_,q1⟩
    ·rw[q1];exact Nat.lt_succ_self _
    ·exact Nat.lt_succ_of_lt (b _ _ q1)
  ·rw[if_neg hk] at e1 e2
   exact ZdU r h acc i b x y c e1 e2
theorem ZcW:∀ (names:List (Str×NameKind)) (n:Nat) (acc:List (Str×Addr)) (x:Str),(x,NameKind.cell)∉names->(cellsFrom n names acc).lookup x=acc.lookup x
 | [],_,_,_,_=>rfl
 | (m,k)::r,n,acc,x,hx=>by
  unfold cellsFrom
  have hr:(x,NameKind.cell)∉r:=fun z=>hx (List.mem_cons_of_mem _ z)
  by_cases hk:(k == NameKind.cell)=true
  ·rw[if_pos hk,ZcW r _ _ x hr,List.lookup_cons]
   cases q:x == m with
   | true=>exact absurd (by rw[eq_of_beq q,eq_of_beq hk];exact List.mem_cons_self) hx
   | false=>rfl
  ·rw[if_neg hk]
   exact ZcW r n acc x hr
theorem ZdV(n0:Nat):∀ (names:List (Str×NameKind)) (n:Nat) (acc:List (Str×Addr)) (x:Str),n0<=n->((x,NameKind.cell)∈names\/∃ c,acc.lookup x=some c/\n0<=c)->∃ c,(cellsFrom n names acc).lookup x=some c/\n0<=c
 | [],_,_,_,_,h=>h.elim (fun z=>nomatch z) id
 | (m,k)::r,n,acc,x,hn,h=>by
  unfold cellsFrom
  by_cases hk:(k == NameKind.cell)=true
  ·rw[if_pos hk]
   refine ZdV n0 r _ _ x (by omega) ?_
   by_cases hx:(x == m)=true
   ·exact .inr ⟨n,by rw[List.lookup_cons,hx],hn⟩
   ·rcases h with h|⟨c,h,hc⟩
    ·rcases List.mem_cons.mp h with z|z
     ·cases z;simp at hx
     ·exact .inl z
    ·exact .inr ⟨c,by rw[List.lookup_cons];simp only[hx];exact h,hc⟩
  ·rw[if_neg hk]
   refine ZdV n0 r _ _ x hn (h.imp (fun h=>?_) id)
   rcases List.mem_cons.mp h with z|z
   ·cases z;simp at hk
   ·exact z
theorem Zec{M:Model}{A:Around}{E:Vq}{s:Shared}{scope:Scope}{globals:Addr}{cl:List (Str×Addr)}{qual:Str}{env:Env}{Q:Env->Shared->Prop}
  (hQ:Q (newEnv scope s.heap.objs.size globals (cellsFrom (s.heap.objs.size+1) scope.names cl) qual none .none (some env) builtinsNs) { s with heap:=pushCells (s.heap.push { cls:=.type "dict", data:=.dict #[] }) scope.names }) :
  wpAny M A (newFunctionEnv scope globals cl [] qual none .none (some env)) Q E s:=by
 simp only[newFunctionEnv,Option.isSome_some,if_true]
 refine wpAny_bind (wpAny_alloc ?_)
 refine wpAny_bind (wpAny_layCells _ (fun name kind cells=>by cases hkc:kind == NameKind.cell<;>simp[hkc]) _ _ _ _ ?_)
 rw[show ({ s with heap:=s.heap.push { cls:=.type "dict", data:=.dict #[] } }:Shared).heap.objs.size=s.heap.objs.size+1 from Heap.size_push ..]
 rw[List.forIn_nil]
 exact wpAny_bind (wpAny_pure (wpAny_pure hQ))
noncomputable def cxC(X:Cx)(scope:Scope)(cl:List (Str×Addr))(C:Addr)(N':List Str)(s₀:Shared)(H₀:Hp)(fp:List Addr):Cx where
 prog:=X.prog
 w:=X.w
 K:=X.K
 mg:=X.mg
 base:=X.base
 A:=X.A
 N:=N'
 s₀:=s₀
 H₀:=H₀
 env:=compEnvC scope cl C X.env
 outer:=X.stack
 stack:=X.stack
 ex:=fp
 fn:=fun x=>scope.names.lookup x == some NameKind.cell
 calm:=X.calm
 pn:=[]
 xe:=fun _ _=>False
theorem Zau{env:Env}:∀ {names:List (Str×NameKind)} {x:Str} {k:NameKind},(names.map fun (n,k)=>if (k == NameKind.free&&env.scope.kind == .function&&env.kindOf n == some .cell) then (n,NameKind.cell) else (n,k)).lookup x=some k ->
  names.lookup x=some k\/(k=.cell/\names.lookup x=some .free)
 | [],_,_,h=>by simp at h
 | (n,j)::r,x,k,h=>by
  have ih:=@Zau env r x k
  have h':List.lookup x ((if (j == NameKind.free&&env.scope.kind == .function&&env.kindOf n == some .cell)=true then (n,NameKind.cell) else (n,j))::(r.map fun (n,k)=>if (k == NameKind.free&&env.scope.kind == .function&&env.kindOf n == some .cell) then (n,NameKind.cell) else (n,k)))=some k:=h
  by_cases hc:(j == NameKind.free&&env.scope.kind == .function&&env.kindOf n == some .cell)=true
  ·rw[if_pos hc] at h'
   rw[List.lookup_cons] at h' ⊢
   cases hx:x == n with
   | true =>
    rw[hx] at h'
    cases h'
    simp only[Bool.and_eq_true] at hc
    exact .inr ⟨rfl,by rw[eq_of_beq hc.1.1]⟩
   | false=>rw[hx] at h';exact ih h'
  ·rw[if_neg hc] at h'
   rw[List.lookup_cons] at h' ⊢
   cases hx:x == n with
   | true=>rw[hx] at h';exact .inl h'
   | false=>rw[hx] at h';exact ih h'
structure BlockOk (X:Cx) (scope:Scope) (N':List Str) (ts:List Nat):Prop where
 kind:scope.kind=.function
 uniq:∀ y∈scope.names,scope.names.lookup y.1=some y.2
 names:∀ y∈scope.names,y.2=.local->scope.names.lookup y.1=some .local
 free:∀ y∈scope.names,y.2=.free->X.env.scope.names.lookup y.1=some .cell\/X.env.scope.names.lookup y.1=some .free
 len:N'.length=X.N.length
 same:∀ i x,N'[i]?=some x->scope.names.lookup x=some .free->i∉ts->X.N[i]?=some x
 loc:∀ i x,N'[i]?=some x->(scope.names.lookup x=some .local\/scope.names.lookup x=some .cell)->i∈ts
structure BCells (X:Cx) (scope:Scope) (cl:List (Str×Addr)) (C:Addr) (h:Heap):Prop where
 own:∀ x c,cl.lookup x=some c->X.env.cells.lookup x=some c\/(scope.names.lookup x=some .cell/\C<c/\h.IsCell c none)
 inj:∀ x y c,cl.lookup x=some c->cl.lookup y=some c->x=y
 has:∀ x,scope.names.lookup x=some .cell->∃ c,cl.lookup x=some c/\C<c
 fr:∀ x,(x,NameKind.free)∈scope.names->∃ c,cl.lookup x=some c/\X.env.cells.lookup x=some c
section
variable {X:Cx} {pins:Pn} {σ:L2.St} {H:Hp} {s:Shared}
noncomputable def hideT(ts:List Nat)(σ:L2.St):L2.St:=ts.foldl (fun σ t=>σ.set t none) σ
theorem ZdD:∀ (ts:List Nat) (σ:L2.St),(hideT ts σ).length=σ.length
 | [],_=>rfl
 | t::ts,σ=>by show (hideT ts (σ.set t none)).length=_;rw[ZdD ts,List.length_set]
theorem ZfJ:∀ (ts:List Nat) (σ:L2.St) {i:Nat} {v:V},(hideT ts σ)[i]?=some (some v)->σ[i]?=some (some v)/\i∉ts
 | [],_,_,_,h=>⟨h,by simp⟩
 | t::ts,σ,i,v,h=>by
  obtain⟨h1,h2⟩:=ZfJ ts (σ.set t none) (i:=i) (v:=v) h
  by_cases e:t=i
  ·subst e
   have:=Zaj h1
   cases this
  ·rw[Zab e] at h1
   exact⟨h1,by simp only[List.mem_cons,not_or];exact⟨fun z=>e z.symm,h2⟩⟩
theorem ZgF{scope:Scope}{cl:List (Str×Addr)}{N':List Str}{ts:List Nat}{fp:List Addr}{h':Heap}{tk:Nat}{C:Addr}{m:Str->Option Value}(I:Inv X pins σ H s)(B:BlockOk X scope N' ts)(hf:∀ b∈fp,Zh9 X pins H b)(hfo:∀ b∈fp,b<s.heap.objs.size)
  (hb:BCells X scope cl C h')
  (hk:∀ b o,s.heap.get? b=some o->h'.get? b=some o) (hC:s.heap.objs.size<=C) (hn:h'.Ns C m):Inv (cxC X scope cl C N' s H fp) [] (hideT ts σ) H { s with heap:=h',toks:=tk }:=by
 have stf:∀ b∈fp,b∉frs X.stack:=fun b hb z=>by
  rcases List.mem_cons.mp (I.stkSub b z) with e|e
  ·exact(hf b hb).2.1 e
  ·exact(hf b hb).2.2.1 e
 have frOf:∀ x,((relabel scope X.env).names.lookup x=some .cell\/(relabel scope X.env).names.lookup x=some .free)->scope.names.lookup x=some .free\/scope.names.lookup x=some .cell:=fun x hx=>by
  rcases hx with z|z
  ·rcases Zau z with z|⟨_,z⟩
   ·exact .inr z
   ·exact .inl z
  ·rcases Zau z with z|⟨z,_⟩
   ·exact .inl z
   ·cases z
 have gtC:∀ c:Addr,C<c->s.heap.objs.size<=c:=fun c z=>Nat.le_trans hC (Nat.le_of_lt z)
 have cellK:∀ c v,s.heap.IsCell c v->h'.IsCell c v:=fun c v ⟨o,ho,hd⟩=>⟨o,hk _ _ ho,hd⟩
 refine⟨⟨I.ok.mod,B.kind,I.ok.glob,I.ok.blt,hC,hb.inj,fun x hx=>?_,fun x c h e=>?_,I.ok.hd,I.ok.frames,.inl rfl,fun b hbb=>⟨?_,fun x c e=>?_⟩,I.bs,Nat.le_trans I.ok.bsz I.sz,fun b o e hbb=>?_,stf,I.stack,I.stkFree⟩,rfl,I.bare,Un.kept hk,⟨m,hn,fun i x v h1 h2 h3=>?_⟩,fun x c e=>?_,I.hok.fresh hC,fun x c e=>(hb.own x c e).elim (I.freeC x c) (fun z=>I.hok.fresh (gtC c z.2.1)),fun p hp=>absurd (show p∈([]:Pn) from hp) (by simp),I.hok.kept hk,?_⟩
 ·rcases frOf x hx with z|z
  ·obtain⟨c,q,_⟩:=hb.fr x (PySem.mem_of_lookup z)
   exact⟨c,q⟩
  ·obtain⟨c,q,_⟩:=hb.has x z
   exact⟨c,q⟩
 ·obtain⟨c',q,z⟩:=hb.has x (eq_of_beq h)
  have e':cl.lookup x=some c:=e
  rw[q] at e'
  cases e'
  exact gtC _ z
 ·intro z
  have z':b=C:=z
  have:=hfo b hbb
  rw[z'] at this
  exact absurd (Nat.lt_of_lt_of_le this hC) (Nat.lt_irrefl _)
 ·rcases hb.own x c e with z|z
  ·exact(hf b hbb).2.2.2.2.1 x c z
  ·intro q
   have:=hfo b hbb
   have:=gtC c z.2.1
   rw[q] at this
   exact absurd ‹b<_› (Nat.not_lt.mpr this)
 ·rcases (hf b hbb).2.2.2.1 with z|z
  ·exact I.ok.noex b o e z
  ·exact absurd (Nat.lt_of_lt_of_le (Heap.lt_size e) (Nat.le_trans I.ok.bsz z)) (Nat.lt_irrefl _)
 ·obtain⟨h2,hts⟩:=ZfJ ts σ h2
  have h3':(relabel scope X.env).names.lookup x=some .local\/(relabel scope X.env).names.lookup x=some .cell\/(relabel scope X.env).names.lookup x=some .free:=h3
  have h1':N'[i]?=some x:=h1
  rcases h3' with z|z
  ·rcases Zau z with z|⟨z,_⟩
   ·exact absurd (B.loc i x h1' (.inl z)) hts
   ·cases z
  ·have fr:=(frOf x z).resolve_right fun q=>hts (B.loc i x h1' (.inr q))
   have hm:=PySem.mem_of_lookup fr
   have hX:=B.same i x h1' fr hts
   obtain⟨m0,hn0,hl0⟩:=I.loc
   obtain⟨u,ru,lk⟩:=hl0 i x v hX h2 (by
    rcases B.free _ hm rfl with q|q
    ·exact .inr (.inl q)
    ·exact .inr (.inr q))
   refine⟨u,ru,?_⟩
   obtain⟨c,hc,hcX⟩:=hb.fr x hm
   rcases lk with ⟨q,_⟩|⟨_,c',hc',hcell⟩
   ·have q':X.env.scope.names.lookup x=some .local:=q
    rcases B.free _ hm rfl with p|p
    ·rw[show X.env.scope.names.lookup x=_ from p] at q';cases q'
    ·rw[show X.env.scope.names.lookup x=_ from p] at q';cases q'
   ·have e:=hcX
    rw[hc'] at e
    cases e
    exact .inr ⟨z,c,hc,cellK _ _ hcell⟩
 ·rcases hb.own x c e with z|z
  ·obtain⟨v,q⟩:=I.cell x c z
   exact⟨v,cellK _ _ q⟩
  ·exact⟨_,z.2.2⟩
 ·show (hideT ts σ).length=N'.length
  rw[ZdD,I.len,B.len]
theorem Zf0{scope:Scope}{cl:List (Str×Addr)}{N':List Str}{fp:List Addr}{C D:Addr}{s':Shared}{H':Hp}{σ':L2.St}{pins':Pn}{h'':Heap}{xs:List V}{ys:List Value}{n:Nat}
    (I:Inv X pins σ H s) (hf:∀ b∈fp,Zh9 X pins H b) (I':Inv (cxC X scope cl C N' s H fp) pins' σ' H' s') (hD:s.heap.objs.size<=D) (hDC:D≠C) (hC:s.heap.objs.size<=C) (hd:s'.heap.get? D=some { cls:=.type "list", data:=.seq ys.toArray n }) (hDn:H' D=none) (rv:Zar xs ys) (hz:xs.length<=sizeLine)
    (hs:Heap.SameBut C s'.heap h''):Inv X pins σ (upd H' D (.lst xs)) { s' with heap:=h'' }:=by
  have u:Un (frs X.stack) fp H H' s.heap s'.heap:=I'.base
  have lt:∀ b o,s.heap.get? b=some o->b≠C/\b≠D:=fun b o e=>⟨fun z=>absurd (Nat.lt_of_lt_of_le (Heap.lt_size e) (z ▸ hC)) (Nat.lt_irrefl _),fun z=>absurd (Nat.lt_of_lt_of_le (Heap.lt_size e) (z ▸ hD)) (Nat.lt_irrefl _)⟩
  have HD:H D=none:=I.hok.fresh hD
  have hCn:H' C=none:=I'.free
  have kb:∀ b o,b≠C->s'.heap.get? b=some o->h''.get? b=some o:=fun b o hb e=>(hs.2 b hb).trans e
  have u2:Un (frs X.stack) fp H (upd H' D (.lst xs)) s.heap h'':=⟨fun b o e q hb hx=>kb b o (lt b o e).1 (u.keep b o e q hb hx),fun b o e q hb hx=>by
      obtain⟨sl,e1⟩:=u.slot b o e q hb hx
      exact⟨sl,kb b _ (lt b o e).1 e1⟩,fun b o e q hx=>by rw[Zai (lt b o e).2];exact u.free b o e q hx,fun b o e hx=>by
      obtain⟨o',e1⟩:=u.there b o e hx
      exact⟨o',kb b _ (lt b o e).1 e1⟩,fun b zs q=>by rw[Zai (Zal q HD)];exact u.tups b zs q,fun b o zs q=>by rw[Zai (Zal q HD)];exact u.frzs b o zs q,fun b ps q=>by rw[Zai (Zal q HD)];exact u.tbls b ps q⟩
  have hok:HOk X.prog X.w (upd H' D (.lst xs)) h'':=fun b o e=>by
    by_cases hb:b=D
    · subst hb
      rw[Zaw] at e
      cases e
      exact⟨hz,ys,n,rv,kb _ _ hDC hd⟩
    · rw[Zai hb] at e
      refine(I'.hok b o e).stay (fun c v hc q=>kb c v ?_ q) (fun c q=>by rw[Zai (Zal q hDn)];exact q) fun c zs q=>by rw[Zai (Zal q hDn)];exact q
      rcases hc with rfl|hc
      · exact Zal e hCn
      · exact Zal hc hCn
  exact I.call' (s':={ s' with heap:=h'' }) (ch:=fp) I'.os u2 hok I'.bare fun b hb=>⟨(hf b hb).2.2.2.1,(hf b hb).2.1,(hf b hb).2.2.2.2.1,(hf b hb).2.2.2.2.2⟩
end
def PTs(X:Cx)(ifs:List Expr)(tt:TT):Prop:=∀ (pins:Pn) (s:Shared) (σ:L2.St) (H:Hp) (Q:Bool->Hp->Prop),Inv X pins σ H s->tt σ H Q ->
 wpAny (model X.prog X.w) X.A (forIn ifs true fun c r=>if r=true then do let ok <- isTrue c X.env (eval c X.env);pure (ForInStep.yield ok) else pure (ForInStep.yield r)) (TP X pins σ Q) X.xe s
theorem ZnA{X:Cx}:PTs X [] (fun σ H Q=>Q true H):=fun pins s σ H Q I h=>wpAny_tests_nil ⟨H,I,h⟩
theorem Zny{X:Cx}{c:Expr}{t:TT}(h:PT X c t):PTs X [c] t:=fun pins s σ H Q I q=>wpAny_tests_one (h pins s σ H Q I q)
theorem Zh4{X:Cx}{pins:Pn}{σ:L2.St}{H:Hp}{s:Shared}{D:Addr}{ys:List Value}{n:Nat}{y:Value}{E:Vq}{Q:Vq}(I:Inv X ((D,{ cls:=.type "list", data:=.seq ys.toArray n })::pins) σ H s)(hD:X.s₀.heap.objs.size<=D)(hp:∀ p∈X.pn++pins,p.1≠D)(hc:∀ x c,X.env.cells.lookup x=some c->c≠D)(hz:ys.length<=sizeLine)
  (h:∀ s',Inv X ((D,{ cls:=.type "list", data:=.seq (ys++[y]).toArray (n+1) })::pins) σ H s'->(∀ b o,b≠D->s.heap.get? b=some o->s'.heap.get? b=some o)->Q .none s'):wpAny (model X.prog X.w) X.A (call (.builtin "list.append") [.ref D,y]) Q E s:=by
 obtain⟨e,hn,hL,hfs,_⟩:=I.pin (D,{ cls:=.type "list", data:=.seq ys.toArray n }) (List.mem_append_right _ List.mem_cons_self)
 refine append_at (hsz:=by rw[List.size_toArray];exact hz) e fun h' hs hd=>?_
 have hd':h'.get? D=some { cls:=.type "list", data:=.seq (ys++[y]).toArray (n+1) }:=by rw[hd];simp
 have kb:∀ b o,b≠D->s.heap.get? b=some o->h'.get? b=some o:=fun b o hb q=>(hs.2 b hb).trans q
 have I0:Inv X pins σ H s:=I.pins_of fun p hp=>I.pin p (List.mem_append_right _ (List.mem_cons_of_mem _ hp))
 have I1:Inv X pins σ H { s with heap:=h' }:=I0.turned (t':=s.toks) kb hn hL (.inr hD) hc hp
 refine h _ (I1.pins_of fun p hp=>?_) kb
 rcases List.mem_cons.mp hp with rfl|hp
 ·exact⟨hd',hn,hL,hfs,fun v z=>by
   have z':Data.seq _ _=Data.cell v:=z
   cases z'⟩
 ·exact I1.pin p (List.mem_append_right _ hp)
section
variable {prog:Program} {w:World} {A:Around} {R:Result->Shared->Prop} {s:Shared}
theorem ZgB{elt target iter:Expr}{ifs:List Expr}{scope:Scope}{pos:Pos}{it acc:Value}{env:Env}(I:Nat->Shared->Prop)
    (turn:∀ n s,I n s->wpAny (model prog w) A (pyNext it) (fun r s₁=>match r with
      | none=>R (.ok .next) s₁
      | some v=>wpAny (model prog w) A (letOwnedTupleGo target it v) (fun _ s₁'=>wpAny (model prog w) A (assign target env v) (fun _ s₂ =>
          wpAny (model prog w) A (forIn ifs true fun c r=>if r=true then do let ok <- isTrue c env (eval c env);pure (ForInStep.yield ok) else pure (ForInStep.yield r)) (fun ok s₃ =>
            if ok=true then wpAny (model prog w) A (eval elt env) (fun x s₄ =>
              wpAny (model prog w) A (call (.builtin "list.append") [acc,x]) (fun _ s₅=>∃ m,m<n/\I m s₅) (notedBy (model prog w) A env fun e s'=>R (.error e) s') s₄) (notedBy (model prog w) A env fun e s'=>R (.error e) s') s₃
            else ∃ m,m<n/\I m s₃) (notedBy (model prog w) A env fun e s'=>R (.error e) s') s₂) (notedBy (model prog w) A env fun e s'=>R (.error e) s') s₁') (notedBy (model prog w) A env fun e s'=>R (.error e) s') s₁) (notedBy (model prog w) A env fun e s'=>R (.error e) s') s)
    (n:Nat) (h:I n s) :
    codeAny (model prog w) A (.compLoop (.ListComp elt [⟨target,iter,ifs,0⟩] scope pos) 0 it acc env) R s:=by
  refine codeAny_loop rfl I (fun n s hI=>?_) n h
  show wpAny _ A ((compTurn (.ListComp elt [⟨target,iter,ifs,0⟩] scope pos) 0 it acc env).onRaise (fun x=>do noteFrame x env;theTreesLotGoes x)) _ _ s
  refine wpAny_noted ?_
  rw[compTurn_list]
  refine wpAny_bind (wpAny_standAt (wpAny_bind (wpAny_mono (turn n s hI) (fun r s₁ h₁=>?_) fun _ _ h'=>h')))
  cases r with
  | none=>exact wpAny_pure h₁
  | some v =>
    refine wpAny_bind (wpAny_mono h₁ (fun _ s₁' h₁'=>?_) fun _ _ h'=>h')
    refine wpAny_bind (wpAny_mono h₁' (fun _ s₂ h₂=>wpAny_bind (wpAny_mono h₂ (fun ok s₃ h₃=>?_) fun _ _ h'=>h')) fun _ _ h'=>h')
    cases ok with
    | false=>exact wpAny_pure ⟨rfl,h₃⟩
    | true =>
      exact wpAny_bind (wpAny_bind (wpAny_mono h₃ (fun x s₄ h₄=>wpAny_bind (wpAny_mono h₄ (fun _ s₅ h₅=>wpAny_pure (wpAny_pure ⟨rfl,h₅⟩)) fun _ _ h'=>h')) fun _ _ h'=>h'))
end
def ZcG(J:It)(ts:List Nat)(g:TG)(tt:TT)(te:TE)(σ:L2.St)(H:Hp)(Q:VK):Prop:=∃ W:Nat->Nat->List V->L2.St->Hp->Prop,(∃ m,W 0 m [] (hideT ts σ) H)/\∀ i m xs σ H,W i m xs σ H ->
 (J.stop i H/\∀ p,H p=none->Q (.ref p) (upd H p (.lst xs))) \/
 (J.go i H/\xs.length<sizeLine/\∀ x H',J.yld i H x H'->g x σ H' fun σ2 H2=>tt σ2 H2 fun b H3=>if b=true then te σ2 H3 fun y H4=>∃ m',m'<m/\W (i+1) m' (xs++[y]) σ2 H4 else ∃ m',m'<m/\W (i+1) m' xs σ2 H3)
theorem Zhs{X:Cx}{pins:Pn}{σ:L2.St}{H:Hp}{s:Shared}{tg iter elt:Expr}{ifs:List Expr}{scope:Scope}{cl:List (Str×Addr)}{pos:Pos}{N':List Str}{ts:List Nat}{g:TG}{tt:TT}{te:TE}{it:Addr}{fp:List Addr}{tn:Nat->Heap->Prop}{J:It}{Q:VK}{E:Vq}{RR:Value->Addr->Result->Shared->Prop}
  (hc:X.calm=true) (B:BlockOk X scope N' ts) (I:Inv X pins σ H s) (T:Turn X.prog X.w X.K tg J fp it tn) (st:tn 0 s.heap) (hf:∀ b∈fp,Zh9 X pins H b)
  (hcl:∀ x c,cl.lookup x=some c->X.env.cells.lookup x=some c) (hcl2:∀ x,(x,NameKind.free)∈scope.names->∃ c,cl.lookup x=some c)
  (hg:∀ cl C s H,PG (cxC X scope cl C N' s H fp) tg g) (ht:∀ cl C s H,PTs (cxC X scope cl C N' s H fp) ifs tt) (he:∀ cl C s H,PE (cxC X scope cl C N' s H fp) elt te) (h:ZcG J ts g tt te σ H Q)
  (hRR:∀ cl D C s' H' σ' pins' xs ys n m,Inv (cxC X scope cl C N' s H fp) pins' σ' H' s'->s'.heap.get? D=some { cls:=.type "list", data:=.seq (List.toArray ys) n }->H' D=none->Zar xs ys->xs.length<=sizeLine->s.heap.objs.size<=D->D≠C->s.heap.objs.size<=C->s'.heap.Ns C m->Q (.ref D) (upd H' D (.lst xs))->RR (.ref D) C (.ok .next) s') :
  wpAny (model X.prog X.w) X.A (newList []) (fun acc s₃=>wpAny (model X.prog X.w) X.A (newFunctionEnv scope X.env.globals cl [] X.env.qual none .none (some X.env)) (fun cenv s₄ =>
   codeAny (model X.prog X.w) X.A (.compStart (.ListComp elt [⟨tg,iter,ifs,0⟩] scope pos) 0 (.ref it) acc { cenv with scope:=relabel scope X.env }) (RR acc cenv.locals) s₄) E s₃) E s:=by
 refine wpAny_newObj_type (Zec ?_)
 dsimp only
 generalize hH2:s.heap.push { cls:=.type "list", dict:=none,data:=.seq ([]:List Value).toArray }=H2
 have hns₁:(pushCells (H2.push { cls:=.type "dict", data:=.dict #[] }) scope.names).Ns H2.objs.size (fun _=>none):=(Heap.Ns.new H2 (.type "dict")).keeps (pushCells_keeps _ _)
 have hkp₁:∀ b o,H2.get? b=some o->(pushCells (H2.push { cls:=.type "dict", data:=.dict #[] }) scope.names).get? b=some o:=fun b o e=>pushCells_keeps _ _ b o (Heap.get?_push_of_some _ e)
 have hown:=ZdT scope.names (H2.push { cls:=.type "dict", data:=.dict #[] }) cl
 have hinj:=ZdU scope.names (H2.push { cls:=.type "dict", data:=.dict #[] }) cl
 rw[Heap.size_push] at hown hinj
 generalize hcl':cellsFrom (H2.objs.size+1) scope.names cl=cl' at hown hinj
 have hcf:∀ x,(x,NameKind.cell)∉scope.names->cl'.lookup x=cl.lookup x:=fun x hx=>by rw[<- hcl'];exact ZcW _ _ _ x hx
 have hch:∀ x,(x,NameKind.cell)∈scope.names->∃ c,cl'.lookup x=some c/\H2.objs.size+1<=c:=fun x hx=>by rw[<- hcl'];exact ZdV _ _ _ _ x (Nat.le_refl _) (.inl hx)
 generalize hh₁:pushCells (H2.push { cls:=.type "dict", data:=.dict #[] }) scope.names=h₁ at hns₁ hkp₁ hown
 have hC:H2.objs.size=s.heap.objs.size+1:=by rw[<- hH2,Heap.size_push]
 have hCle:s.heap.objs.size<=H2.objs.size:=by rw[hC];exact Nat.le_succ _
 have hDC:s.heap.objs.size≠H2.objs.size:=by rw[hC];exact Nat.ne_of_lt (Nat.lt_succ_self _)
 have below:∀ b,b<s.heap.objs.size->b≠H2.objs.size:=fun b hb=>by rw[hC];exact Nat.ne_of_lt (Nat.lt_succ_of_lt hb)
 have old:∀ b o,s.heap.get? b=some o->h₁.get? b=some o:=fun b o e=>hkp₁ b o (hH2 ▸ Heap.get?_push_of_some _ e)
 have hacc:h₁.get? s.heap.objs.size=some { cls:=.type "list", data:=.seq ([]:List Value).toArray 0 }:=hkp₁ _ _ (hH2 ▸ Heap.get?_push_size _ rfl)
 have clt:∀ x c,cl.lookup x=some c->c<s.heap.objs.size:=fun x c e=>by
  obtain⟨v,q⟩:=I.cell x c (hcl x c e)
  exact q.lt
 have bc:BCells X scope cl' H2.objs.size h₁:=by
  refine⟨fun x c e=>?_,hinj (fun x y c e1 e2=>I.ok.inj x y c (hcl x c e1) (hcl y c e2)) (fun x c e=>Nat.lt_succ_of_lt (Nat.lt_of_lt_of_le (clt x c e) hCle)),fun x hx=>?_,fun x hx=>?_⟩
  ·rcases hown x c e with q|⟨q1,q2,q3⟩
   ·exact .inl (hcl x c q)
   ·exact .inr ⟨B.uniq _ q1,q2,q3⟩
  ·have hm:=PySem.mem_of_lookup hx
   obtain⟨c,e,hc⟩:=hch x hm
   exact⟨c,e,hc⟩
  ·have hno:(x,NameKind.cell)∉scope.names:=fun z=>by
    have e1:=B.uniq _ hx
    have e2:=B.uniq _ z
    rw[show scope.names.lookup x=_ from e1] at e2
    cases e2
   obtain⟨c,e⟩:=hcl2 x hx
   exact⟨c,by rw[hcf x hno];exact e,hcl x c e⟩
 have hfo:∀ b∈fp,b<s.heap.objs.size:=fun b hb=>by
  obtain⟨o,e,_⟩:=T.obj 0 _ st b hb
  exact Heap.lt_size e
 generalize hD:s.heap.objs.size=D at *
 generalize hC':H2.objs.size=C at *
 have I0:Inv (cxC X scope cl' C N' s H fp) [] (hideT ts σ) H { s with heap:=h₁,toks:=s.toks+([]:List (Str×Value)).length }:=ZgF (tk:=s.toks+([]:List (Str×Value)).length) I B hf (fun b hb=>by rw[hD];exact hfo b hb) bc old (by rw[hD];exact hCle) hns₁
 have nD:H D=none:=I.hok.fresh (by rw[hD];exact Nat.le_refl _)
 have noD:∀ b∈fp,b≠D:=fun b hb=>Nat.ne_of_lt (hfo b hb)
 have noC:∀ b∈fp,b≠C:=fun b hb=>below b (hfo b hb)
 have stfs:D∉frs X.stack:=fun z=>by
  obtain⟨_,o,ho,_⟩:=I.stack.mem z
  exact absurd (Heap.lt_size ho) (by rw[hD];exact Nat.lt_irrefl _)
 have cD:∀ x c,cl'.lookup x=some c->c≠D:=fun x c e z=>by
  rcases bc.own x c e with q|⟨_,q,_⟩
  ·obtain⟨v,q⟩:=I.cell x c q
   exact absurd q.lt (by rw[z,hD];exact Nat.lt_irrefl _)
  ·rw[z] at q
   exact absurd (Nat.lt_of_lt_of_le q hCle) (Nat.lt_irrefl _)
 have I1:Inv (cxC X scope cl' C N' s H fp) [(D,{ cls:=.type "list", data:=.seq ([]:List Value).toArray 0 })] (hideT ts σ) H { s with heap:=h₁,toks:=s.toks+([]:List (Str×Value)).length }:=I0.pins_of fun p hp=>by
  have e:=List.mem_singleton.mp hp
  subst e
  exact⟨hacc,nD,hDC,stfs,fun v z=>by
   have z':Data.seq _ _=Data.cell v:=z
   cases z'⟩
 have st1:tn 0 h₁:=T.keep _ _ _ st fun b _ o e=>old b o e
 obtain⟨W,⟨m0,w0⟩,turn⟩:=h
 have fpk:∀ {pl:Pn} {H':Hp},(∀ p∈pl,p.1=D)->(∀ b∈fp,H' b=none)->∀ b∈fp,Zh9 (cxC X scope cl' C N' s H fp) pl H' b:=fun {pl H'} hp hn b hb =>
  ⟨hn b hb,noC b hb,fun z=>by
   rcases List.mem_cons.mp (I.stkSub b z) with e|e
   ·exact(hf b hb).2.1 e
   ·exact(hf b hb).2.2.1 e,.inl hb,fun x c e=>(bc.own x c e).elim ((hf b hb).2.2.2.2.1 x c) (fun z q=>absurd (Nat.lt_of_le_of_lt hCle z.2.1) (Nat.not_lt.mpr (by rw[q];exact Nat.le_of_lt (hfo b hb)))),fun p hp'=>by
   have hp2:p∈pl:=hp'
   rw[hp p hp2]
   exact(noD b hb).symm⟩
 have loop:∀ s₃:Shared,s₃={ s with heap:=h₁,toks:=s.toks+([]:List (Str×Value)).length } ->
   codeAny (model X.prog X.w) X.A (.compLoop (.ListComp elt [⟨tg,iter,ifs,0⟩] scope pos) 0 (.ref it) (.ref D) (compEnvC scope cl' C X.env)) (RR (.ref D) C) s₃:=by
  rintro s₃ rfl
  refine ZgB (fun k s'=>∃ i σ' H' xs ys n,Inv (cxC X scope cl' C N' s H fp) [(D,{ cls:=.type "list", data:=.seq (List.toArray ys) n })] σ' H' s'/\tn i s'.heap/\(∀ b∈fp,H' b=none)/\Zar xs ys/\xs.length<=sizeLine/\W i k xs σ' H') ?_ m0
   ⟨0,_,H,[],[],0,I1,st1,fun b hb=>(hf b hb).1,.nil,Nat.zero_le _,w0⟩
  rintro k s' ⟨i,σ',H',xs,ys,n,I',st',fr',rv,hz,w'⟩
  have one:∀ p∈[((D,{ cls:=.type "list", data:=.seq (List.toArray ys) n }):Addr×Obj)],p.1=D:=fun p hp=>by rw[List.mem_singleton.mp hp]
  rcases turn i k xs σ' H' w' with ⟨stop,q⟩|⟨go,hlt,step⟩
  ·refine wpAny_mono (T.done (cxC X scope cl' C N' s H fp) rfl rfl rfl hc i _ s' σ' H' (fun _ _=>False) I' (fpk one fr') st' stop) (fun r s1 ⟨hr,J1⟩=>?_) fun _ _ f=>f.elim
   subst hr
   obtain⟨e,hn,_⟩:=J1.pin _ (List.mem_append_right _ List.mem_cons_self)
   obtain⟨m,hm,_⟩:=J1.loc
   exact hRR cl' D C s1 H' σ' _ xs ys n m J1 e hn rv hz (Nat.le_refl _) hDC hCle hm (q D hn)
  ·refine wpAny_mono (T.item (cxC X scope cl' C N' s H fp) rfl rfl rfl hc i _ s' σ' H' (fun _ _=>False) I' (fpk one fr') st' go) (fun r s1 ⟨u,hr,h4⟩=>?_) fun _ _ f=>f.elim
   subst hr
   refine wpAny_mono h4 (fun _ s5 ⟨x,H5,I5,r5,y5,st5,fr5⟩=>?_) fun _ _ f=>f.elim
   have I5':=I5.pinned (fpk one fr5) (T.obj _ _ st5)
   refine wpAny_mono (hg cl' C s H _ s5 σ' H5 x u _ I5' r5 (step x H5 y5)) (fun _ s6 ⟨σ6,H6,I6,q6⟩=>?_) fun _ _ f=>f.elim
   refine wpAny_mono (ht cl' C s H _ s6 σ6 H6 _ I6 q6) (fun ok s7 ⟨H7,I7,q7⟩=>?_) fun _ _ f=>f.elim
   have again:∀ {s8:Shared} {H8:Hp} {ys':List Value} {n':Nat},Inv (cxC X scope cl' C N' s H fp) ((D,{ cls:=.type "list", data:=.seq (List.toArray ys') n' })::Zdu fp s5.heap) σ6 H8 s8->Inv (cxC X scope cl' C N' s H fp) [(D,{ cls:=.type "list", data:=.seq (List.toArray ys') n' })] σ6 H8 s8/\tn (i+1) s8.heap/\∀ b∈fp,H8 b=none:=fun {s8 H8 ys' n'} I8 =>
    ⟨I8.pins_of fun p hp=>I8.pin p (List.mem_append_right _ (by rw[List.mem_singleton.mp hp];exact List.mem_cons_self)),T.keep _ _ _ st5 fun b hb o e=>(I8.pin (b,o) (List.mem_append_right _ (List.mem_cons_of_mem _ (Zb7 hb e)))).1,fun b hb=>by
     obtain⟨o,e,d⟩:=T.obj _ _ st5 b hb
     exact(I8.pin (b,o) (List.mem_append_right _ (List.mem_cons_of_mem _ (Zb7 hb e)))).2.1⟩
   cases ok with
   | false =>
    rw[if_neg (by decide)] at q7
    obtain⟨m',hm,w7⟩:=q7
    obtain⟨a1,a2,a3⟩:=again I7
    rw[if_neg (by decide)]
    exact⟨m',hm,i+1,σ6,H7,xs,ys,n,a1,a2,a3,rv,hz,w7⟩
   | true =>
    rw[if_pos rfl] at q7
    rw[if_pos rfl]
    refine wpAny_mono (he cl' C s H _ s7 σ6 H7 _ I7 q7) (fun val s8 ⟨y,H8,I8,r8,m',hm,w8⟩=>?_) fun _ _ f=>f.elim
    have hl:=rv.length
    refine Zh4 (X:=cxC X scope cl' C N' s H fp) (ys:=ys) (n:=n) (pins:=Zdu fp s5.heap) I8 (by show s.heap.objs.size<=D;rw[hD];exact Nat.le_refl _) (fun p hp=>?_) cD (by omega) fun s9 I9 kb=>?_
    ·have hp2:p∈Zdu fp s5.heap:=hp
     exact noD _ (Zfv hp2).1
    ·obtain⟨a1,a2,a3⟩:=again I9
     exact⟨m',hm,i+1,σ6,H8,xs++[y],ys++[val],n+1,a1,a2,a3,rv.append (.cons r8 .nil),by rw[List.length_append];exact hlt,w8⟩
 exact codeAny_compStart_list (loop _ rfl) (T.self _ 0 _ _ _ st1 (loop _ rfl))
theorem ZnI{X:Cx}{tg iter elt:Expr}{ifs:List Expr}{scope:Scope}{pos:Pos}{N':List Str}{ts:List Nat}{wi:TI}{g:TG}{tt:TT}{te:TE}(hc:X.calm=true)(B:BlockOk X scope N' ts)(hi:PI X tg iter wi)
  (hg:∀ cl C s H fp,PG (cxC X scope cl C N' s H fp) tg g) (ht:∀ cl C s H fp,PTs (cxC X scope cl C N' s H fp) ifs tt) (he:∀ cl C s H fp,PE (cxC X scope cl C N' s H fp) elt te) (hs:∀ x,foldedSetIterable iter X.env x=pure x) :
  PE X (.ListComp elt [⟨tg,iter,ifs,0⟩] scope pos) (fun σ H Q=>wi σ H fun J H1=>ZcG J ts g tt te σ H1 Q):=by
 intro pins s σ H Q I h
 obtain⟨cl,hclos,hcl,hcl2⟩:=Zez (scope:=scope) (env:=X.env) fun x hx hk=>I.ok.has x.1 ((B.free x hx hk).imp id id)
 rw[eval_ListComp]
 refine wpAny_comprehension_free (use:=none) rfl hs hclos B.kind B.names (thn (hi pins s σ H _ I h) fun v s1 h1=>thn h1 fun itv s2 h2=>?_)
 obtain⟨it,fp,tn,J,H2,e,I2,T,st2,f2,h3⟩:=h2
 subst e
 refine Zhs (RR:=fun acc C=>compPost (model X.prog X.w) X.A X.xe none (EP X pins σ Q) acc C) hc B I2 T st2 f2 hcl hcl2 (fun cl C s H=>hg cl C s H fp) (fun cl C s H=>ht cl C s H fp) (fun cl C s H=>he cl C s H fp) h3 fun cl' D C s' H' σ' pins' xs ys n m I' hd hDn rv hz hD hDC hC hm q=>?_
 exact⟨m,hm,fun h'' hs''=>⟨.ref D,_,Zf0 I2 f2 I' hD hDC hC hd hDn rv hz hs'',rfl,q⟩⟩
theorem ZnE{X:Cx}{i:Nat}{n:Str}{pos' pos2:Pos}{tg iter elt:Expr}{ifs:List Expr}{scope:Scope}{pos:Pos}{N':List Str}{ts:List Nat}{wi:TI}{g:TG}{tt:TT}{te:TE}(hc:X.calm=true)(B:BlockOk X scope N' ts)(hi:PI X tg iter wi)
  (hg:∀ cl C s H fp,PG (cxC X scope cl C N' s H fp) tg g) (ht:∀ cl C s H fp,PTs (cxC X scope cl C N' s H fp) ifs tt) (he:∀ cl C s H fp,PE (cxC X scope cl C N' s H fp) elt te) (hs:∀ x,foldedSetIterable iter X.env x=pure x)
  (hN:X.N.Nodup) (hni:X.N[i]?=some n) (hx:X.env.scope.names.lookup n=some .local) (hsw:swapsWith (.ListComp elt [⟨tg,iter,ifs,0⟩] scope pos) (some (.Name n pos')) pos2.line X.env=pure true) :
  PS X (.Assign [.Name n pos'] (.ListComp elt [⟨tg,iter,ifs,0⟩] scope pos) pos2) (Zs9 (fun σ H Q=>wi σ H fun J H1=>ZcG J ts g tt te σ H1 Q) (ZbP i)):=by
 intro pins s σ H Dn I h
 obtain⟨cl,hclos,hcl,hcl2⟩:=Zez (scope:=scope) (env:=X.env) fun x hx hk=>I.ok.has x.1 ((B.free x hx hk).imp id id)
 rw[exec_Assign_Name_used _ _ _ _ hsw]
 refine wpAny_bind (wpAny_standAt (wpAny_bind ?_))
 show wpAny _ X.A (do let _ <- comprehension (.ListComp elt [⟨tg,iter,ifs,0⟩] scope pos) scope X.env _ (newList []) false (eval iter X.env) (some (assign (.Name n pos') X.env))) _ _ s
 refine wpAny_bind (wpAny_mono (wpAny_comprehension_free (use:=some (assign (.Name n pos') X.env)) (Q:=fun _ s'=>SP X pins Dn .next s') rfl hs hclos B.kind B.names
  (thn (hi pins s σ H _ I h) fun v s1 h1=>thn h1 fun itv s2 h2=>?_)) (fun _ s' hq=>wpAny_pure (wpAny_pure hq)) fun _ _ e=>e)
 obtain⟨it,fp,tn,J,H2,e,I2,T,st2,f2,h3⟩:=h2
 subst e
 refine Zhs (RR:=fun acc C=>compPost (model X.prog X.w) X.A X.xe (some (assign (.Name n pos') X.env)) (fun _ s'=>SP X pins Dn .next s') acc C) hc B I2 T st2 f2 hcl hcl2 (fun cl C s H=>hg cl C s H fp) (fun cl C s H=>ht cl C s H fp) (fun cl C s H=>he cl C s H fp) h3 fun cl' D C s' H' σ' pins' xs ys n' m I' hd hDn rv hz hD hDC hC hm q=>?_
 have J0:Inv X pins σ (upd H' D (.lst xs)) s':=Zf0 I2 f2 I' hD hDC hC hd hDn rv hz (Heap.SameBut.refl ..)
 refine wpAny_assign_Name (Zfk J0 hN hni (.inl hx) (show ZaR (.ref D) (.ref D) from rfl) (fun s'' J1 ⟨a,sb,ha⟩=>?_) (.inr hx))
 have hC0:X.s₀.heap.objs.size<=C:=Nat.le_trans I2.sz hC
 have hL:C≠X.env.locals:=fun z=>absurd (Nat.lt_of_lt_of_le I2.lt (z ▸ hC)) (Nat.lt_irrefl _)
 have hcC:∀ x c,X.env.cells.lookup x=some c->c≠C:=fun x c e z=>by
  obtain⟨v,q'⟩:=I2.cell x c e
  exact absurd (Nat.lt_of_lt_of_le q'.lt (by rw[z];exact hC)) (Nat.lt_irrefl _)
 have hp:∀ p∈X.pn++pins,p.1≠C:=fun p hp z=>absurd (Nat.lt_of_lt_of_le (Heap.lt_size (I2.pin p hp).1) (by rw[z];exact hC)) (Nat.lt_irrefl _)
 have hCn:upd H' D (.lst xs) C=none:=by rw[Zai hDC.symm];exact I'.free
 have hCa:C≠a:=by
  rcases ha with rfl|ha
  ·exact hL
  ·exact fun z=>hcC n a ha z.symm
 refine⟨m,hm.sameBut sb hCa,fun h'' hs''=>⟨_,_,J1.turned (t':=s''.toks) (fun b o hb e=>(hs''.2 b hb).trans e) hCn hL (.inr hC0) hcC hp,q⟩⟩
end Ov
end
section
namespace Ov
open PySem PySem.Spec PyProof.Rows L2
theorem Zbx:∀ (ts:List Nat) (ρ:Rho) (j:Nat),(ZbW ts ρ)[j]?=if j∈ts then (ρ[j]?).map (fun _=>none) else ρ[j]?
 | [],ρ,j=>by simp[ZbW]
 | t::ts,ρ,j=>by
  show (ZbW ts (ρ.set t none))[j]?=_
  rw[Zbx ts]
  by_cases h1:j∈ts
  ·rw[if_pos h1,if_pos (List.mem_cons_of_mem _ h1)]
   by_cases h2:t=j
   ·subst h2
    rw[List.getElem?_set_self']
    cases ρ[t]?<;>rfl
   ·rw[Zab h2]
  ·rw[if_neg h1]
   by_cases h2:t=j
   ·subst h2
    rw[if_pos List.mem_cons_self,List.getElem?_set_self']
    cases ρ[t]?<;>rfl
   ·rw[Zab h2,if_neg (by simp only[List.mem_cons,not_or];exact⟨fun z=>h2 z.symm,h1⟩)]
theorem Zcv:∀ (ts:List Nat) (ρ:Rho),(ZbW ts ρ).length=ρ.length
 | [],_=>rfl
 | t::ts,ρ=>by show (ZbW ts (ρ.set t none)).length=_;rw[Zcv ts,List.length_set]
theorem ZcR:∀ (ts:List Nat) (σ:L2.St) {i:Nat},i∉ts->(hideT ts σ)[i]?=σ[i]?
 | [],_,_,_=>rfl
 | t::ts,σ,i,h=>by
  simp only[List.mem_cons,not_or] at h
  show (hideT ts (σ.set t none))[i]?=_
  rw[ZcR ts _ h.2,Zab (fun z=>h.1 z.symm)]
theorem Zc1:∀ (ts:List Nat) (ds:List D) (ρ1 ρ2:Rho),ρ1.length=ρ2.length->(∀ j,j∉ts->ρ1[j]?=ρ2[j]?)->ZaO ts ds ρ1=ZaO ts ds ρ2
 | [],[],ρ1,ρ2,hl,h=>congrArg some (List.ext_getElem? fun j=>h j (by simp))
 | [],_::_,_,_,_,_=>rfl
 | _::_,[],_,_,_,_=>rfl
 | t::ts,d::ds,ρ1,ρ2,hl,h=>by
  refine Zc1 ts ds _ _ (by rw[List.length_set,List.length_set];exact hl) fun j hj=>?_
  by_cases e:t=j
  ·subst e
   rw[List.getElem?_set,List.getElem?_set,if_pos rfl,if_pos rfl,hl]
  ·rw[Zab e,Zab e]
   exact h j (by simp only[List.mem_cons,not_or];exact⟨fun z=>e z.symm,hj⟩)
theorem Zdr:∀ (ts us:List Nat) (ds:List D) (ρ ρ':Rho),(∀ t∈ts,t∈us)->ZaO ts ds ρ=some ρ'->ZbW us ρ'=ZbW us ρ
 | [],us,[],ρ,ρ',_,e=>by cases e;rfl
 | t::ts,us,d::ds,ρ,ρ',hs,e=>by
  rw[Zdr ts us ds _ ρ' (fun u hu=>hs u (List.mem_cons_of_mem _ hu)) e]
  refine List.ext_getElem? fun j=>?_
  rw[Zbx,Zbx]
  by_cases h:j∈us
  ·rw[if_pos h,if_pos h,List.getElem?_set]
   split
   ·rename_i e2
    subst e2
    split
    ·rename_i h3
     rw[List.getElem?_eq_getElem h3];rfl
    ·rename_i h3
     rw[List.getElem?_eq_none (by omega)]
   ·rfl
  ·rw[if_neg h,if_neg h,Zab]
   rintro rfl
   exact h (hs _ List.mem_cons_self)
 | [],_,_::_,_,_,_,e=>by cases e
 | _::_,_,[],_,_,_,e=>by cases e
section
variable {K:Fg} {CL:ClA} {A:Addr->Prop} {ρ ρ':Rho} {σ:L2.St} {H:Hp}
theorem Good.less(g:Good K CL A ρ σ H)(hl:ρ'.length=ρ.length)(h:∀ (i:Nat) (d:D) (o:Bool),ρ'[i]?=some (some (d,o))->ρ[i]?=some (some (d,o))):Good K CL A ρ' σ H:=⟨fun i d e=>g.sh i d (h i d false e),fun i d e=>g.ow i d (h i d true e),hl.trans g.len⟩
theorem Good.put(g:Good K CL A ρ σ H){v:V}{d:D}(t:Nat)(r:Rep K CL H A v d):Good K CL A (ρ.set t (some (d,false))) (σ.set t (some v)) H:=by
 refine⟨fun j e h=>?_,fun j e h=>?_,by rw[List.length_set,List.length_set];exact g.len⟩
 ·by_cases hj:t=j
  ·subst hj
   have e1:=Zaj h
   cases e1
   have hl:t<σ.length:=by
    rw[<- g.len]
    have:=(List.getElem?_eq_some_iff.mp h).1
    simpa using this
   exact⟨v,by rw[List.getElem?_set_self hl],r⟩
  ·rw[Zab hj] at h
   obtain⟨w',q,rw'⟩:=g.sh j e h
   exact⟨w',by rw[Zab hj];exact q,rw'⟩
 ·have hj:t≠j:=by
   rintro rfl
   have:=Zaj h
   cases this
  rw[Zab hj] at h
  obtain⟨a,xs,ds,q,z⟩:=g.ow j e h
  exact⟨a,xs,ds,by rw[Zab hj];exact q,z⟩
theorem Good.hide(g:Good K CL A ρ σ H)(ts:List Nat):Good K CL A (ZbW ts ρ) σ H:=g.less (Zcv _ _) fun i d o e=>by
 rw[Zbx] at e
 split at e
 ·cases q:ρ[i]? with
  | none=>rw[q] at e;cases e
  | some x=>rw[q] at e;cases e
 ·exact e
theorem Good.hideT(g:Good K CL A ρ σ H)(ts:List Nat):Good K CL A (ZbW ts ρ) (hideT ts σ) H:=by
 have key:∀ i x,(ZbW ts ρ)[i]?=some (some x)->ρ[i]?=some (some x)/\i∉ts:=fun i x e=>by
  rw[Zbx] at e
  split at e
  ·cases q:ρ[i]? with
   | none=>rw[q] at e;cases e
   | some x=>rw[q] at e;cases e
  ·exact⟨e,by assumption⟩
 refine⟨fun i d e=>?_,fun i d e=>?_,by rw[Zcv,ZdD];exact g.len⟩
 ·obtain⟨e1,e2⟩:=key i _ e
  obtain⟨v,q,r⟩:=g.sh i d e1
  exact⟨v,by rw[ZcR _ _ e2];exact q,r⟩
 ·obtain⟨e1,e2⟩:=key i _ e
  obtain⟨a,xs,ds,q,r⟩:=g.ow i d e1
  exact⟨a,xs,ds,by rw[ZcR _ _ e2];exact q,r⟩
end
def GG(K:Fg)(CL:ClA)(ts:List Nat)(as:D->Rho->R Rho)(g:TG):Prop:=∀ A ρ σ H v d ρ' Q,Good K CL A (ZbW ts ρ) σ H->Rep K CL H A v d->as d ρ=.ok ρ'->(∀ σ',Good K CL A ρ' σ' H->Good K CL A (ZbW ts ρ) σ' H->Q σ' H)->g v σ H Q
theorem Zol{K:Fg}{CL:ClA}(i:Nat):GG K CL [i] (fun d ρ=>.ok (ρ.set i (some (d,false)))) (ZbP i):=fun A ρ σ H v d ρ' Q g r e k=>by
 cases e
 have g2:=g.put i r
 have e1:(ZbW [i] ρ).set i (some (d,false))=ρ.set i (some (d,false)):=by
  show (ρ.set i none).set i (some (d,false))=_
  rw[List.set_set]
 rw[e1] at g2
 refine k _ g2 ?_
 have:=g2.hide [i]
 have e2:ZbW [i] (ρ.set i (some (d,false)))=ZbW [i] ρ:=by
  show (ρ.set i _).set i none=ρ.set i none
  rw[List.set_set]
 rw[e2] at this
 exact this
theorem Zjy{K:Fg}{CL:ClA}{A:Addr->Prop}{H:Hp}:∀ (ts:List Nat) (ds:List D) (vs:List V) (ρ ρ':Rho) (σ:L2.St) (Q:L2.St->Hp->Prop),Good K CL A ρ σ H->Reps K CL H A vs ds->ZaO ts ds ρ=some ρ'->(∀ σ',Good K CL A ρ' σ' H->Q σ' H)->(ts.foldr (fun t u=>ZdF (ZbP t) u) Zjz) vs σ H Q
 | [],[],[],ρ,ρ',σ,Q,x,_,e,k=>by
  cases e
  exact⟨rfl,k σ x⟩
 | t::ts,d::ds,v::vs,ρ,ρ',σ,Q,x,r,e,k=>⟨v,vs,rfl,Zjy ts ds vs _ ρ' _ Q (x.put t r.1) r.2 e k⟩
 | [],_::_,_,_,_,_,_,_,_,e,_=>by cases e
 | _::_,[],_,_,_,_,_,_,_,e,_=>by cases e
 | [],[],_::_,_,_,_,_,_,r,_,_=>r.elim
 | _::_,_::_,[],_,_,_,_,_,r,_,_=>r.elim
theorem ZrM{K:Fg}{CL:ClA}(ts:List Nat):GG K CL ts (ZbD ts) (Zpp K ts.length (ts.foldr (fun t u=>ZdF (ZbP t) u) Zjz)):=fun A ρ σ H v d ρ' Q g r e k=>by
 cases d with
 | tup ds =>
  obtain⟨a,xs,rfl,na,sq,rs⟩:=r
  rw[ZeA] at e
  cases e2:ZaO ts ds ρ with
  | none=>rw[e2] at e;cases e
  | some ρ2 =>
   rw[e2] at e
   cases e
   have e3:ZaO ts ds (ZbW ts ρ)=some ρ':=by
    rw[<- e2]
    exact Zc1 ts ds _ _ (Zcv _ _) fun j hj=>by rw[Zbx,if_neg hj]
   refine⟨a,xs,rfl,sq,by rw[rs.length];exact Zb2 _ _ _ _ e2,Zjy ts ds xs _ ρ' σ Q g rs e3 fun σ' g'=>k σ' g' ?_⟩
   have:=g'.hide ts
   rw[Zdr ts ts ds ρ ρ' (fun _ h=>h) e2] at this
   exact this
 | _=>cases e
noncomputable abbrev W0:XW:=fun _ _=>False
def STs(X:Cx)(CL:ClA)(ifs:List Expr)(f:Rho->R Bool):Prop:=∀ A,PTs X ifs (fun σ H Q=>AOk H A/\∃ ρ,Good X.K CL A ρ σ H/\ZaK W0 H (f ρ) Q)
theorem ZmX{X:Cx}{CL:ClA}:STs X CL [] (fun _=>.ok true):=fun A pins s σ H Q I ⟨hA,ρ,g,p⟩=>ZnA pins s σ H Q I (p H (Zag.refl H))
theorem ZmW{X:Cx}{CL:ClA}{c:Expr}{f:Rho->R Bool}(h:SB X CL W0 c f):STs X CL [c] f:=fun A pins s σ H Q I q=>Zny (h A) pins s σ H Q I q
section
variable {X:Cx} {CL:ClA} {W:XW} {tg iter elt:Expr} {ifs:List Expr} {scope:Scope} {pos:Pos} {N':List Str} {ts:List Nat} {fi:Rho->R (List D)} {fc:Rho->R Bool} {fe:Rho->R D} {as:D->Rho->R Rho} {g:TG}
theorem Ze7{g:D->R Bool}{f:D->R D}{x:D}{xs ys:List D}(h:Zam g f (x::xs)=.ok ys):(g x=.ok false/\Zam g f xs=.ok ys)\/∃ y r,g x=.ok true/\f x=.ok y/\Zam g f xs=.ok r/\ys=y::r:=by
 unfold Zam at h
 cases e:g x with
 | bad=>rw[e] at h;cases h
 | exn z=>rw[e] at h;cases h
 | ok b =>
  rw[e,R.bind_ok] at h
  cases b with
  | false=>exact .inl ⟨rfl,h⟩
  | true =>
   rw[if_pos rfl] at h
   cases e2:f x with
   | bad=>rw[e2] at h;cases h
   | exn z=>rw[e2] at h;cases h
   | ok y =>
    rw[e2,R.bind_ok] at h
    cases e3:Zam g f xs with
    | bad=>rw[e3] at h;cases h
    | exn z=>rw[e3] at h;cases h
    | ok r =>
     rw[e3,R.bind_ok] at h
     cases h
     exact .inr ⟨y,r,rfl,rfl,rfl,rfl⟩
theorem ZaV{α β:Type}{r:R α}{f:α->R β}{b:β}(h:r.bind f=.ok b):∃ a,r=.ok a/\f a=.ok b:=by
 cases r with
 | ok a=>exact⟨a,rfl,h⟩
 | exn x=>cases h
 | bad=>cases h
theorem ZjK{A:Addr->Prop}{ρ:Rho}{σ:L2.St}{H1:Hp}{J:It}{ds ys:List D}{Q:VK}{K:Fg}(hGG:GG K CL ts as g)(hA:AOk H1 A)(gd:Good K CL A ρ σ H1)(yl:Zmv K CL A ds J H1)(hz:ds.length<=sizeLine)
  (hcp:Zam (fun x=>(as x ρ).bind fc) (fun x=>(as x ρ).bind fe) ds=.ok ys) (q:∀ xs H2,Zag H1 H2->Reps K CL H2 A xs ys->∀ p,H2 p=none->Q (.ref p) (upd H2 p (.lst xs))) :
  ZcG J ts g (fun σ H Q=>AOk H A/\∃ ρ,Good K CL A ρ σ H/\ZaK W0 H (fc ρ) Q) (fun σ H Q=>AOk H A/\∃ ρ,Good K CL A ρ σ H/\Zas (fun H=>Rep K CL H A) W0 H (fe ρ) Q) σ H1 Q:=by
 refine⟨fun i m xs σ' H'=>m=ds.length-i/\i<=ds.length/\xs.length<=i/\Zag H1 H'/\Good K CL A (ZbW ts ρ) σ' H'/\∃ outs rest,Reps K CL H' A xs outs/\Zam (fun x=>(as x ρ).bind fc) (fun x=>(as x ρ).bind fe) (ds.drop i)=.ok rest/\ys=outs++rest,
  ⟨ds.length,by simp,Nat.zero_le _,Nat.le_refl _,Zag.refl _,gd.hideT ts,[],ys,trivial,hcp,rfl⟩,?_⟩
 rintro i m xs σ' H' ⟨rfl,hi,hxl,sm,g',outs,rest,rs,hc,e⟩
 obtain⟨yst,ygo⟩:=yl H' (Kp.of sm) i
 by_cases hlt:i<ds.length
 ·have hd:ds[i]?=some ds[i]:=List.getElem?_eq_getElem hlt
  obtain⟨hgo,hyl⟩:=ygo _ hd
  refine .inr ⟨hgo,by omega,fun x H2 hx=>?_⟩
  obtain⟨s2,rx⟩:=hyl x H2 hx
  have rx':=rx A (fun a ha=>.inl ha) (hA.same sm)
  rw[List.drop_eq_getElem_cons hlt] at hc
  have sm2:=sm.trans s2
  rcases Ze7 hc with ⟨h1,h2⟩|⟨y,r,h1,h2,h3,h4⟩
  ·obtain⟨ρ',ea,ec⟩:=ZaV h1
   refine hGG A ρ σ' H2 x ds[i] ρ' _ (g'.same s2) rx' ea fun σ3 g3 g4=>⟨hA.same sm2,ρ',g3,?_⟩
   rw[ec]
   exact fun H3 s3=>by
    dsimp only
    rw[if_neg (by decide)]
    exact⟨ds.length-(i+1),by omega,rfl,hlt,by omega,sm2.trans s3,g4.same s3,outs,rest,(rs.same s2).same s3,h2,e⟩
  ·obtain⟨ρ',ea,ec⟩:=ZaV h1
   obtain⟨ρ2,ea2,ee⟩:=ZaV h2
   rw[ea] at ea2
   cases ea2
   refine hGG A ρ σ' H2 x ds[i] ρ' _ (g'.same s2) rx' ea fun σ3 g3 g4=>⟨hA.same sm2,ρ',g3,?_⟩
   rw[ec]
   exact fun H3 s3=>by
    dsimp only
    rw[if_pos rfl]
    refine⟨(hA.same sm2).same s3,ρ',g3.same s3,?_⟩
    rw[ee]
    exact fun v H4 s4 r4=>⟨ds.length-(i+1),by omega,rfl,hlt,by rw[List.length_append,List.length_singleton];omega,(sm2.trans s3).trans s4,(g4.same s3).same s4,outs++[y],r,(((rs.same s2).same s3).same s4).append ⟨r4,trivial⟩,h3,by rw[e,h4];simp⟩
 ·have hk':ds.length<=i:=by omega
  rw[List.drop_eq_nil_of_le hk'] at hc
  have hr:rest=[]:=by cases hc;rfl
  subst hr
  rw[List.append_nil] at e
  subst e
  exact .inl ⟨yst hk',fun p hp=>q xs H' sm rs p hp⟩
theorem ZbR.ok_of{K:Fg}{A:Addr->Prop}{H:Hp}{r:R (List D)}{f:List D->R D}{Q:VK}{Q':It->Hp->Prop}{Rq:Hp->V->D->Prop}(h:Zas Rq W H (r.bind f) Q)(k:∀ ds J H',r=.ok ds->Zag H H'->Zmv K CL A ds J H'->ds.length<=sizeLine->Zas Rq W H' (f ds) Q->Q' J H'):ZbR K CL A W H r Q':=by
 cases r with
 | ok d=>exact fun J H2 s2 y z=>k d J H2 rfl s2 y z (Zas.same s2 h)
 | exn x=>exact h
 | bad=>exact h
theorem Zrl{α:Type}{r:R α}{a:α}(h:noX r=.ok a):r=.ok a:=by
 cases r with
 | ok b=>exact h
 | exn x=>cases h
 | bad=>cases h
theorem ZfR{A:Addr->Prop}{ρ:Rho}{σ:L2.St}{H:Hp}{Q:VK}(hGG:GG X.K CL ts as g)(hA:AOk H A)(gd:Good X.K CL A ρ σ H)
  (p:Zas (Zcp X.K CL true H A) W H ((fi ρ).bind fun xs=>(noX (Zam (fun x=>(as x ρ).bind fc) (fun x=>(as x ρ).bind fe) xs)).bind fun ys=>.ok (.lst ys)) Q) :
  ZbR X.K CL A W H (fi ρ) (fun J H1=>ZcG J ts g (fun σ H Q=>AOk H A/\∃ ρ,Good X.K CL A ρ σ H/\ZaK W0 H (fc ρ) Q) (fun σ H Q=>AOk H A/\∃ ρ,Good X.K CL A ρ σ H/\Zas (fun H=>Rep X.K CL H A) W0 H (fe ρ) Q) σ H1 Q) :=
 ZbR.ok_of p fun ds J H1 e1 s1 yl hz p1=>by
  cases e2:noX (Zam (fun x=>(as x ρ).bind fc) (fun x=>(as x ρ).bind fe) ds) with
  | ok ys =>
   rw[e2] at p1
   exact ZjK hGG (hA.same s1) (gd.same s1) yl hz (Zrl e2) fun xs H2 s2 rs q hq=>p1 _ _ (s2.trans (Zat hq _)) (Zbi (s1.trans s2) ((hA.same s1).same s2) hq rs)
  | exn x=>rw[e2] at p1;cases hq:Zam (fun x=>(as x ρ).bind fc) (fun x=>(as x ρ).bind fe) ds<;>rw[hq] at e2<;>cases e2
  | bad=>rw[e2] at p1;exact p1.elim
theorem Znc(hc:X.calm=true)(B:BlockOk X scope N' ts)(hi:SI X CL W tg iter fi)(hGG:GG X.K CL ts as g)(hg:∀ cl C s H fp,PG (cxC X scope cl C N' s H fp) tg g)(ht:∀ cl C s H fp,STs (cxC X scope cl C N' s H fp) CL ifs fc)(he:∀ cl C s H fp,SE (cxC X scope cl C N' s H fp) CL W0 elt fe)
  (hs:∀ x,foldedSetIterable iter X.env x=pure x):SC X CL W true (.ListComp elt [⟨tg,iter,ifs,0⟩] scope pos) (fun ρ=>(fi ρ).bind fun xs=>(noX (Zam (fun x=>(as x ρ).bind fc) (fun x=>(as x ρ).bind fe) xs)).bind fun ys=>.ok (.lst ys)):=fun A pins s σ H Q I ⟨hA,ρ,gd,p⟩ =>
 ZnI hc B (hi A) hg (fun cl C s H fp=>ht cl C s H fp A) (fun cl C s H fp=>he cl C s H fp A) hs pins s σ H Q I ⟨hA,ρ,gd,ZfR hGG hA gd p⟩
end
end Ov
end
section
namespace Ov
open PySem PySem.Spec PyProof.Rows L2
section
variable {K:Fg} {CL:ClA} {Fz:Addr->HO->Prop} {B:Addr->Prop} {ρ:Rho} {σ:L2.St} {H H':Hp}
theorem Sx.setF(x:Sx K CL Fz B ρ σ H)(s:Zag H H'){i:Nat}{a:Addr}{xs:List V}{ds:List D}(h0:H a=none)(h1:H' a=some (.lst xs))(r:Reps K CL H' (fun b=>Za5 B ρ σ b\/b=a) xs ds):Sx K CL Fz B (ρ.set i (some (.lst ds,true))) (σ.set i (some (.ref a))) H':=by
 have nA:¬ Za5 B ρ σ a:=x.aok.new h0
 have own:∀ (j:Nat) (e:D),(ρ.set i (some (.lst ds,true)))[j]?=some (some (e,true))->(i=j/\e=.lst ds)\/(i≠j/\ρ[j]?=some (some (e,true))):=fun j e h=>by
  by_cases hj:i=j
  ·subst hj
   have:=Zaj h
   cases this
   exact .inl ⟨rfl,rfl⟩
  ·exact .inr ⟨hj,by rw[Zab hj] at h;exact h⟩
 have atI:∀ {j:Nat} {y:Sl},(ρ.set i (some (.lst ds,true)))[j]?=some y->i=j->(σ.set i (some (.ref a)))[j]?=some (some (.ref a)):=fun {j y} h e=>by
  subst e
  have hl:i<σ.length:=by
   rw[<- x.len]
   have:=(List.getElem?_eq_some_iff.mp h).1
   simpa using this
  rw[List.getElem?_set_self hl]
 have sub:∀ b,Za5 B (ρ.set i (some (.lst ds,true))) (σ.set i (some (.ref a))) b->Za5 B ρ σ b\/b=a:=fun b h=>by
  rcases h with h|⟨j,e,h1,h2⟩
  ·exact .inl (.inl h)
  ·rcases own j e h1 with ⟨hj,_⟩|⟨hj,h1'⟩
   ·rw[atI h1 hj] at h2
    cases h2
    exact .inr rfl
   ·rw[Zab hj] at h2
    exact .inl (.inr ⟨j,e,h1',h2⟩)
 have wide:∀ {v:V} {d:D},Rep K CL H (Za5 B ρ σ) v d->Rep K CL H' (Za5 B (ρ.set i (some (.lst ds,true))) (σ.set i (some (.ref a)))) v d:=fun r=>(Rep.wide (fun b hb=>(sub b hb).imp id fun e=>by rw[e];exact h0) _ r).same s
 have wides:∀ {v:List V} {d:List D},Reps K CL H (Za5 B ρ σ) v d->Reps K CL H' (Za5 B (ρ.set i (some (.lst ds,true))) (σ.set i (some (.ref a)))) v d:=fun r=>(Reps.wide (fun b hb=>(sub b hb).imp id fun e=>by rw[e];exact h0) _ r).same s
 refine⟨⟨fun j e h=>?_,fun j e h=>?_,by rw[List.length_set,List.length_set];exact x.len⟩,fun b h=>?_,fun j e b g1 g2=>?_,fun j k e f b g1 g2 g3 g4=>?_,fun b o z=>s _ _ (x.same b o z),by rw[List.length_set,List.length_set];exact x.len⟩
 ·have hj:i≠j:=by
   rintro rfl
   have:=Zaj h
   cases this
  rw[Zab hj] at h
  obtain⟨w',q,rw'⟩:=x.good.sh j e h
  exact⟨w',by rw[Zab hj];exact q,wide rw'⟩
 ·rcases own j e h with ⟨hj,rfl⟩|⟨hj,h'⟩
  ·have q:=atI h hj
   exact⟨a,xs,ds,q,rfl,.inr ⟨j,_,h,q⟩,h1,Reps.sub sub _ r⟩
  ·obtain⟨b,ys,es,q,z,ha,hh,rr⟩:=x.good.ow j e h'
   have q':(σ.set i (some (.ref a)))[j]?=some (some (.ref b)):=by rw[Zab hj];exact q
   exact⟨b,ys,es,q',z,.inr ⟨j,e,h,q'⟩,s _ _ hh,wides rr⟩
 ·rcases sub b h with z|z
  ·obtain⟨ys,q⟩:=x.aok b z
   exact⟨ys,s _ _ q⟩
  ·rw[z];exact⟨xs,h1⟩
 ·rcases own j e g1 with ⟨hj,_⟩|⟨hj,h'⟩
  ·rw[atI g1 hj] at g2
   cases g2
   refine⟨fun o z=>?_,fun z=>nA (.inl z)⟩
   have:=x.same a o z
   rw[h0] at this;cases this
  ·rw[Zab hj] at g2
   exact x.new j e b h' g2
 ·rcases own j e g1 with ⟨hj,_⟩|⟨hj,h'⟩
  ·rw[atI g1 hj] at g3
   cases g3
   rcases own k f g2 with ⟨hk,_⟩|⟨hk,h''⟩
   ·exact hj.symm.trans hk
   ·rw[Zab hk] at g4
    exact absurd (.inr ⟨k,f,h'',g4⟩) nA
  ·rw[Zab hj] at g3
   rcases own k f g2 with ⟨hk,_⟩|⟨hk,h''⟩
   ·rw[atI g2 hk] at g4
    cases g4
    exact absurd (.inr ⟨j,e,h',g3⟩) nA
   ·rw[Zab hk] at g4
    exact x.dis j k e f b h' h'' g3 g4
theorem Sx.upd(x:Sx K CL Fz B ρ σ H){i:Nat}{d:D}{a:Addr}{xs:List V}{ds:List D}(hi:ρ[i]?=some (some (d,true)))(ha:σ[i]?=some (some (.ref a)))(r:Reps K CL H (Za5 B ρ σ) xs ds):Sx K CL Fz B (ρ.set i (some (.lst ds,true))) σ (L2.upd H a (.lst xs)):=by
 have oa:Za5 B ρ σ a:=.inr ⟨i,d,hi,ha⟩
 have hil:i<ρ.length:=(List.getElem?_eq_some_iff.mp hi).1
 have get:∀ (j:Nat) (e:D),(ρ.set i (some (.lst ds,true)))[j]?=some (some (e,true))↔(i=j/\e=.lst ds)\/(i≠j/\ρ[j]?=some (some (e,true))):=fun j e=>by
  by_cases hj:i=j
  ·subst hj
   rw[List.getElem?_set_self hil]
   simp
   exact⟨fun z=>z.symm,fun z=>z.symm⟩
  ·rw[Zab hj];simp[hj]
 have same:∀ b,Za5 B (ρ.set i (some (.lst ds,true))) σ b↔Za5 B ρ σ b:=fun b=>by
  constructor
  ·rintro (h|⟨j,e,h1,h2⟩)
   ·exact .inl h
   ·rcases (get j e).mp h1 with ⟨rfl,_⟩|⟨_,h1⟩
    ·exact .inr ⟨i,d,hi,h2⟩
    ·exact .inr ⟨j,e,h1,h2⟩
  ·rintro (h|⟨j,e,h1,h2⟩)
   ·exact .inl h
   ·by_cases hj:i=j
    ·subst hj
     exact .inr ⟨i,.lst ds,(get i _).mpr (.inl ⟨rfl,rfl⟩),h2⟩
    ·exact .inr ⟨j,e,(get j e).mpr (.inr ⟨hj,h1⟩),h2⟩
 have kp:Kp (Za5 B ρ σ) H (L2.upd H a (.lst xs)):=fun b o e na=>by
  have hne:b≠a:=by
   rintro rfl
   exact na oa
  rw[Zai hne];exact e
 refine⟨⟨fun j e h=>?_,fun j e h=>?_,by rw[List.length_set];exact x.len⟩,fun b h=>?_,fun j e b g1 g2=>?_,fun j k e f b g1 g2 g3 g4=>?_,fun b o z=>?_,by rw[List.length_set];exact x.len⟩
 ·have hj:i≠j:=by
   rintro rfl
   have:=Zaj h
   cases this
  rw[Zab hj] at h
  obtain⟨w',q,rw'⟩:=x.good.sh j e h
  exact⟨w',q,Rep.sub (fun b hb=>(same b).mp hb) _ (Rep.kp kp _ rw')⟩
 ·rcases (get j e).mp h with ⟨rfl,rfl⟩|⟨hj,h'⟩
  ·exact⟨a,xs,ds,ha,rfl,(same a).mpr oa,Zaw,Reps.sub (fun b hb=>(same b).mp hb) _ (Reps.kp kp _ r)⟩
  ·obtain⟨b,ys,es,q,z,hb,hh,rr⟩:=x.good.ow j e h'
   have hne:b≠a:=fun z=>hj (x.dis i j d e a hi h' ha (z ▸ q))
   exact⟨b,ys,es,q,z,(same b).mpr hb,by rw[Zai hne];exact hh,Reps.sub (fun b hb=>(same b).mp hb) _ (Reps.kp kp _ rr)⟩
 ·obtain⟨ys,q⟩:=x.aok b ((same b).mp h)
  by_cases e:b=a
  ·rw[e];exact⟨xs,Zaw⟩
  ·exact⟨ys,by rw[Zai e];exact q⟩
 ·rcases (get j e).mp g1 with ⟨rfl,_⟩|⟨_,h'⟩
  ·exact x.new i d b hi g2
  ·exact x.new j e b h' g2
 ·rcases (get j e).mp g1 with ⟨rfl,_⟩|⟨hj,h'⟩
  ·rcases (get k f).mp g2 with ⟨rfl,_⟩|⟨hk,h''⟩
   ·rfl
   ·exact x.dis i k d f b hi h'' g3 g4
  ·rcases (get k f).mp g2 with ⟨rfl,_⟩|⟨hk,h''⟩
   ·exact x.dis j i e d b h' hi g3 g4
   ·exact x.dis j k e f b h' h'' g3 g4
 ·have hne:b≠a:=fun e=>(x.new i d a hi ha).1 o (e ▸ z)
  rw[Zai hne]
  exact x.same b o z
theorem Sx.rel(x:Sx K CL Fz B ρ σ H){i:Nat}{d:D}(hi:ρ[i]?=some (some (d,true))):Sx K CL Fz B (ρ.set i (some (d,false))) σ H:=by
 obtain⟨a,xs,ds,q,rfl,oa,hh,rr⟩:=x.good.ow i d hi
 have own:∀ (j:Nat) (e:D),(ρ.set i (some (.lst ds,false)))[j]?=some (some (e,true))->i≠j/\ρ[j]?=some (some (e,true)):=fun j e h=>by
  by_cases hj:i=j
  ·subst hj
   have:=Zaj h
   cases this
  ·exact⟨hj,by rw[Zab hj] at h;exact h⟩
 have sub:∀ b,Za5 B (ρ.set i (some (.lst ds,false))) σ b->Za5 B ρ σ b:=fun b h=>by
  rcases h with h|⟨j,e,h1,h2⟩
  ·exact .inl h
  ·exact .inr ⟨j,e,(own j e h1).2,h2⟩
 have na:¬ Za5 B (ρ.set i (some (.lst ds,false))) σ a:=fun h=>by
  rcases h with h|⟨j,e,h1,h2⟩
  ·exact(x.new i _ a hi q).2 h
  ·obtain⟨hj,h1⟩:=own j e h1
   exact hj (x.dis i j _ e a hi h1 q h2)
 refine⟨⟨fun j e h=>?_,fun j e h=>?_,by rw[List.length_set];exact x.len⟩,fun b h=>x.aok b (sub b h),fun j e b g1 g2=>x.new j e b (own j e g1).2 g2,fun j k e f b g1 g2 g3 g4=>x.dis j k e f b (own j e g1).2 (own k f g2).2 g3 g4,x.same,by rw[List.length_set];exact x.len⟩
 ·by_cases hj:i=j
  ·subst hj
   have e1:=Zaj h
   cases e1
   exact⟨_,q,a,xs,rfl,.inl na,SqL.of hh,Reps.sub sub _ rr⟩
  ·rw[Zab hj] at h
   obtain⟨w',q',rw'⟩:=x.good.sh j e h
   exact⟨w',q',Rep.sub sub _ rw'⟩
 ·obtain⟨hj,h'⟩:=own j e h
  obtain⟨b,ys,es,q',z,hb,hh',rr'⟩:=x.good.ow j e h'
  exact⟨b,ys,es,q',z,.inr ⟨j,e,h,q'⟩,hh',Reps.sub sub _ rr'⟩
end
section
variable {X:Cx} {CL:ClA} {W:XW} {pos:Pos} {e:Expr} {fe:Rho->R D} {fr:Bool}
theorem Zah.exC{Fz:Addr->HO->Prop}{B:Addr->Prop}{ρ:Rho}{σ:L2.St}{H:Hp}{r:R D}{f:D->O}{D':Ends}{Q:VK}{A:Addr->Prop}(x:Sx X.K CL Fz B ρ σ H)(h:Zah X.K CL Fz B W (O.of ρ r f) D')
  (k:∀ d v H',r=.ok d->Zag H H'->Zcp X.K CL fr H A H' v d->Sx X.K CL Fz B ρ σ H'->Zah X.K CL Fz B W (f d) D'->Q v H'):Zas (Zcp X.K CL fr H A) W H r Q:=by
 cases r with
 | ok d=>exact fun v H' s r=>k d v H' rfl s r (x.grow s) h
 | exn y=>exact fun H' s=>h H' fun b o z=>s _ _ (x.same b o z)
 | bad=>exact h
def SAs(X:Cx)(CL:ClA)(W:XW)(fr:Bool)(i:Nat)(st:Stmt)(f:Rho->R D):Prop:=∀ A,PS X st (Zs9 (fun σ H Q=>AOk H A/\∃ ρ,Good X.K CL A ρ σ H/\Zas (Zcp X.K CL fr H A) W H (f ρ) Q) (ZbP i))
theorem SC.sas{i:Nat}{n:Str}{pos':Pos}(hN:X.N.Nodup)(hi:X.N[i]?=some n)(hx:Loc X.env.scope n)(he:SC X CL W fr e fe)(hs:swapsWith e (some (.Name n pos')) pos.line X.env=pure false)(hf:X.fn n=true\/X.env.scope.names.lookup n=some .local):SAs X CL W fr i (.Assign [.Name n pos'] e pos) fe :=
 fun A=>Zg7 hN hi hx (he A) hs hf
theorem ZkP{i:Nat}{n:Str}{pos' pos2:Pos}{tg iter elt:Expr}{ifs:List Expr}{scope:Scope}{N':List Str}{ts:List Nat}{fi:Rho->R (List D)}{fc:Rho->R Bool}{fe:Rho->R D}{as:D->Rho->R Rho}{g:TG}(hc:X.calm=true)(B:BlockOk X scope N' ts)(hi:SI X CL W tg iter fi)(hGG:GG X.K CL ts as g)(hg:∀ cl C s H fp,PG (cxC X scope cl C N' s H fp) tg g)(ht:∀ cl C s H fp,STs (cxC X scope cl C N' s H fp) CL ifs fc)(he:∀ cl C s H fp,SE (cxC X scope cl C N' s H fp) CL W0 elt fe)
  (hs:∀ x,foldedSetIterable iter X.env x=pure x) (hN:X.N.Nodup) (hni:X.N[i]?=some n) (hx:X.env.scope.names.lookup n=some .local) (hsw:swapsWith (.ListComp elt [⟨tg,iter,ifs,0⟩] scope pos) (some (.Name n pos')) pos2.line X.env=pure true) :
  SAs X CL W true i (.Assign [.Name n pos'] (.ListComp elt [⟨tg,iter,ifs,0⟩] scope pos) pos2) (fun ρ=>(fi ρ).bind fun xs=>(noX (Zam (fun x=>(as x ρ).bind fc) (fun x=>(as x ρ).bind fe) xs)).bind fun ys=>.ok (.lst ys)):=fun A pins s σ H Dn I ⟨hA,ρ,gd,p⟩ =>
 ZnE hc B (hi A) hg (fun cl C s H fp=>ht cl C s H fp A) (fun cl C s H fp=>he cl C s H fp A) hs hN hni hx hsw pins s σ H Dn I ⟨hA,ρ,gd,ZfR hGG hA gd p⟩
theorem ZlK{i:Nat}{st:Stmt}(h:SAs X CL W fr i st fe):SS X CL W st (fun ρ=>O.of ρ (fe ρ) fun d=>.next (ρ.set i (some (d,false)))):=fun Fz B pins s σ H D I ⟨ρ,x,p⟩ =>
 h (Za5 B ρ σ) pins s σ H D I ⟨x.aok,ρ,x.good,Zah.exC x p fun d v H' _ s r x' q=>q _ H' (x'.set i r.1)⟩
theorem Zm5{i:Nat}{st:Stmt}(h:SAs X CL W true i st fe):SS X CL W st (fun ρ=>O.of ρ (fe ρ) fun d=>setF ρ i d):=fun Fz B pins s σ H D I ⟨ρ,x,p⟩ =>
 h (Za5 B ρ σ) pins s σ H D I ⟨x.aok,ρ,x.good,Zah.exC x p fun d v H' _ s r x' q=>by
  cases d with
  | lst ds =>
   obtain⟨a,xs,rfl,h0,h1,rs⟩:=r.2 rfl ds rfl
   exact q _ H' (x.setF s h0 h1 rs)
  | dic ds=>exact r.1.elim
  | _=>exact q.elim⟩
theorem Zm2(he:SC X CL W true e fe):SS X CL W (.Return (some e) pos) (fun ρ=>O.of ρ (fe ρ) fun d=>.ret d true):=fun Fz B pins s σ H D I ⟨ρ,x,p⟩ =>
 ZiW (he (Za5 B ρ σ)) pins s σ H D I ⟨x.aok,ρ,x.good,Zah.exC x p fun d v H' _ s r x' q=>q v H' x'.same (Rep.sub (fun a h=>.inl h) _ r.1) fun _ ds e=>by
  obtain⟨a,xs,h0,h1,h2,h3⟩:=r.2 rfl ds e
  refine⟨a,xs,h0,fun o z=>?_,h2,Reps.sub (fun b hb=>hb.imp .inl id) _ h3⟩
  have:=x.same a o z
  rw[h1] at this;cases this⟩
noncomputable def Zv9(ρ:Rho)(i:Nat):Bool:=match ρ[i]? with
  | some (some (_,o))=>o
  | _=>false
theorem Zm1{i:Nat}{e:Expr}(he:PE X e (ZhK i)):SS X CL W (.Return (some e) pos) (fun ρ=>O.of ρ (Zff ρ i) fun d=>.ret d (Zv9 ρ i)):=fun Fz B pins s σ H D I ⟨ρ,x,p⟩ =>
 ZiW he pins s σ H D I (by
  dsimp only at p
  cases e:Zff ρ i with
  | bad=>rw[e] at p;exact p.elim
  | exn z=>exact(ZgR e).elim
  | ok d =>
   rw[e] at p
   obtain⟨o,e⟩:=Zii e
   have eo:Zv9 ρ i=o:=by unfold Zv9;rw[e]
   rw[O.of_ok,eo] at p
   cases o with
   | false =>
    obtain⟨v,q,r⟩:=x.good.sh i d e
    exact⟨v,q,p v H x.same (Rep.sub (fun a h=>.inl h) _ r) fun z=>nomatch z⟩
   | true =>
    obtain⟨a,xs,ds,q,rfl,ha,hh,r⟩:=x.good.ow i d e
    obtain⟨n1,n2⟩:=x.new i _ a e q
    refine⟨_,q,p _ H x.same ⟨a,xs,rfl,.inl n2,SqL.of hh,Reps.sub (fun a h=>.inl h) _ r⟩ fun _ ds' e'=>?_⟩
    cases e'
    exact⟨a,xs,rfl,n1,hh,Reps.sub (fun b hb=>hb.elim .inl fun z=>z ▸ ha) _ r⟩)
theorem ZeT{ρ:Rho}{i:Nat}{ds:List D}(h:ZcJ ρ i=.ok ds):ρ[i]?=some (some (.lst ds,true)):=by
 unfold ZcJ at h
 split at h
 ·rename_i e;cases h;exact e
 ·cases h
theorem Zdi{ρ:Rho}{i:Nat}{x:Ex}(h:ZcJ ρ i=.exn x):False:=by
 unfold ZcJ at h
 split at h<;>cases h
variable {o:Expr} {i:Nat} {apos cpos:Pos}
theorem ZpW(ho:PE X o (ZhK i))(he:SE X CL W e fe)(hbase:attributeBase o "append" X.env (eval o X.env)=eval o X.env)(hfew:((backTo cpos (starEach [e] X.env)).all (fun x=>!x.1)&&(backToKw cpos (keywordEach [] X.env)).all (fun x=>x.1.isSome)&&decide ([e].length+([]:List Keyword).length+(if ([]:List Keyword).isEmpty then 0 else 1)<30))=true)
  (hline:(apos.endLine == cpos.line)=true) (hs:starEach [e] X.env=[(false,eval e X.env)]) (hsw:swapsWith (.Call (.Attribute o "append" apos) [e] [] cpos) none pos.line X.env=pure false) :
  SS X CL W (.Expr (.Call (.Attribute o "append" apos) [e] [] cpos) pos) (fun ρ=>O.of ρ (ZcJ ρ i) fun xs=>O.of ρ (fe ρ) fun d=>if Zdo (xs.length+1)=true then .next (ρ.set i (some (.lst (xs++[d]),true))) else .bad):=fun Fz B pins s σ H D I ⟨ρ,x,p⟩=>by
 refine Zdt (Zq9 PySem.F.plainAttrs_list PySem.F.slot_list_append PySem.F.type_list_append Zjh ho (Zao (he (Za5 B ρ σ)) Zbj hs) hbase hfew hline hs rfl) hsw pins s σ H D I ?_
 dsimp only at p
 cases e1:ZcJ ρ i with
 | bad=>rw[e1] at p;exact p.elim
 | exn z=>exact(Zdi e1).elim
 | ok ds =>
  rw[e1,O.of_ok] at p
  have hi:=ZeT e1
  obtain⟨a,xs,ds',q,e2,ha,hh,r⟩:=x.good.ow i _ hi
  cases e2
  refine⟨_,q,.inl ⟨rfl,xs,SqL.of hh⟩,x.aok,ρ,x.good,Zah.ex x p fun d v H' _ s rv x' q'=>?_⟩
  split at q'
  ·rename_i hz
   refine⟨a,xs,v,rfl,rfl,s _ _ hh,?_,q' _ _ (x'.upd hi q ((r.same s).append ⟨rv,trivial⟩))⟩
   have:=ZaX hz
   rw[r.length];omega
  ·exact q'.elim
theorem ZpV(ho:PE X o (ZhK i))(he:SC X CL W true e fe)(hbase:attributeBase o "extend" X.env (eval o X.env)=eval o X.env)(hfew:((backTo cpos (starEach [e] X.env)).all (fun x=>!x.1)&&(backToKw cpos (keywordEach [] X.env)).all (fun x=>x.1.isSome)&&decide ([e].length+([]:List Keyword).length+(if ([]:List Keyword).isEmpty then 0 else 1)<30))=true)
  (hline:(apos.endLine == cpos.line)=true) (hs:starEach [e] X.env=[(false,eval e X.env)]) (hsw:swapsWith (.Call (.Attribute o "extend" apos) [e] [] cpos) none pos.line X.env=pure false) :
  SS X CL W (.Expr (.Call (.Attribute o "extend" apos) [e] [] cpos) pos) (fun ρ=>O.of ρ (ZcJ ρ i) fun xs=>O.of ρ (fe ρ) fun d=>O.of ρ (Zlv d) fun ys=>if Zdo (xs.length+ys.length)=true then .next (ρ.set i (some (.lst (xs++ys),true))) else .bad):=fun Fz B pins s σ H D I ⟨ρ,x,p⟩=>by
 refine Zdt (Zq9 PySem.F.plainAttrs_list PySem.F.slot_list_extend PySem.F.type_list_extend Zjg ho (Zao (he (Za5 B ρ σ)) Zbj hs) hbase hfew hline hs rfl) hsw pins s σ H D I ?_
 dsimp only at p
 cases e1:ZcJ ρ i with
 | bad=>rw[e1] at p;exact p.elim
 | exn z=>exact(Zdi e1).elim
 | ok ds =>
  rw[e1,O.of_ok] at p
  have hi:=ZeT e1
  obtain⟨a,xs,ds',q,e2,ha,hh,r⟩:=x.good.ow i _ hi
  cases e2
  refine⟨_,q,.inl ⟨rfl,xs,SqL.of hh⟩,x.aok,ρ,x.good,Zah.exC x p fun d v H' _ s rv x' q'=>?_⟩
  cases d with
  | lst es =>
   obtain⟨b,ys,rfl,h0,h1,rs⟩:=rv.2 rfl es rfl
   rw[Zj3,O.of_ok] at q'
   split at q'
   ·rename_i hz
    refine⟨a,b,xs,ys,rfl,rfl,s _ _ hh,h1,?_,q' _ _ (x'.upd hi q ((r.same s).append (Reps.sub (fun c hc=>.inl hc) _ rs)))⟩
    rw[r.length,rs.length];exact ZaX hz
   ·exact q'.elim
  | _=>exact q'.elim
theorem ZpT{k:Expr}{fk:Rho->R Ov.D}{spos:Pos}(ho:PE X o (ZhK i))(hk:ST X CL W k fk)(he:SE X CL W e fe) (ha:∀ v,assign (.Subscript o k spos) X.env v=(do
      let ov <- holding [v] (eval o X.env)
      let iv <- holding [v,ov] (eval k X.env)
      standAt spos
      holding [v,ov,iv] (setItem ov iv v)
      release [v,ov,iv] [])) (hs:swapsWithSole [.Subscript o k spos] e pos.line X.env=pure false) (hw:swappedStores [.Subscript o k spos] e X.env=pure none) (h1:(assignEach [.Subscript o k spos] X.env).map (·.2)=[assign (.Subscript o k spos) X.env]) :
    SS X CL W (.Assign [.Subscript o k spos] e pos) (fun ρ=>O.of ρ (fe ρ) fun d=>O.of ρ (ZcJ ρ i) fun xs=>O.of ρ ((fk ρ).bind ZbE) fun j=>match plD xs.length j with
      | some n=>.next (ρ.set i (some (.lst (xs.set n d),true)))
      | none=>.bad):=fun Fz B pins s σ H D I ⟨ρ,x,p⟩ =>
  ZiX (he (Za5 B ρ σ)) (Zi3 ho (hk (Za5 B ρ σ)) ZeP ha) hs hw h1 pins s σ H D I ⟨x.aok,ρ,x.good,Zah.ex x p fun d v H' _ s rv x' q'=>by
    cases e1:ZcJ ρ i with
    | bad=>rw[e1] at q';exact q'.elim
    | exn z=>exact(Zdi e1).elim
    | ok ds =>
      rw[e1,O.of_ok] at q'
      have hi:=ZeT e1
      obtain⟨a,xs,ds',q,e2,ha,hh,r⟩:=x'.good.ow i _ hi
      cases e2
      refine⟨_,q,x'.aok,ρ,x'.good,?_⟩
      cases e3:fk ρ with
      | bad=>rw[e3] at q';exact q'.elim
      | exn z=>rw[e3] at q';exact fun H2 s2=>q' H2 fun b o z=>s2 _ _ (x'.same b o z)
      | ok dk =>
        rw[e3] at q'
        intro y H2 s2 ry
        cases dk with
        | int j =>
          have ey:=ry.int_of
          subst ey
          rw[R.bind_ok,Zj5,O.of_ok] at q'
          cases e4:plD ds.length j with
          | none=>rw[e4] at q';exact q'.elim
          | some n =>
            rw[e4] at q'
            refine⟨a,xs,j,n,rfl,rfl,s2 _ _ hh,?_,q' _ _ ((x'.grow s2).upd hi q (Reps.set (rv.same s2) n (r.same s2)))⟩
            rw[r.length];exact e4
        | _=>exact q'.elim⟩
theorem Zm4{tg:Expr}{as:Ov.D->Rho->R Rho}{g:TG}(hGT:GT X.K CL as g)(hg:PG X tg g)(he:SE X CL W e fe)(hs:swapsWithSole [tg] e pos.line X.env=pure false)(hw:swappedStores [tg] e X.env=pure none)(h1:(assignEach [tg] X.env).map (·.2)=[assign tg X.env])(hax:∀ d ρ x,as d ρ≠.exn x) :
  SS X CL W (.Assign [tg] e pos) (fun ρ=>O.of ρ (fe ρ) fun d=>O.of ρ (as d ρ) fun ρ'=>.next ρ'):=fun Fz B pins s σ H D I ⟨ρ,x,p⟩ =>
 ZiX (he (Za5 B ρ σ)) hg hs hw h1 pins s σ H D I ⟨x.aok,ρ,x.good,Zah.ex x p fun d v H' _ s rv x' q'=>by
  cases ea:as d ρ with
  | bad=>rw[ea] at q';exact q'.elim
  | exn z=>exact absurd ea (hax _ _ z)
  | ok ρ2 =>
   rw[ea,O.of_ok] at q'
   exact hGT Fz B ρ σ H' v d ρ2 _ x' rv ea fun σ' x3=>q' σ' H' x3⟩
theorem Zm0{rest:List Stmt}{f:Rho->O}(i:Nat)(h:SSs X CL W rest f):SSs X CL W rest (fun ρ=>(match ρ[i]? with
   | some (some (d,true))=>O.next (ρ.set i (some (d,false)))
   | _=>O.next ρ).seq f):=fun Fz B=>PSs.weak (h Fz B) fun D σ H ⟨ρ,x,p⟩=>by
 dsimp only at p
 split at p
 ·rename_i d e
  exact⟨_,x.rel e,p⟩
 ·exact⟨ρ,x,p⟩
end
end Ov
end
section
namespace Ov
open PySem PySem.Spec PyProof.Rows L2
section
variable {prog:Program} {w:World} {A:Around} {E:Vq} {s:Shared}
theorem Zrk{j t:Addr}{k:Nat}{its:Array Value}{x:Value}{Q:Vq}(st:s.heap.IsTupleIter j t k)(sq:s.heap.IsTuple t its)(at_:its[k]?=some x)
  (go:∀ h2,h2.IsTupleIter j t (k+1)->Heap.SameBut j s.heap h2->Q x { s with heap:=h2 }):wpAny (model prog w) A (Builtin.SmallTypes.nextOf (.ref j)) Q E s:=by
 obtain⟨oj,gj,cj,dj⟩:=id st
 obtain⟨ot,gt,_,nt,dt⟩:=sq
 show wpAny _ _ (callSpecial? _ _ >>= _) _ _ _
 refine wpAny_bind (wpAny_callSpecial?_slot st.typeIs F.slot_tuple_iterator_next (wpAny_call_entry F.slot_tuple_iterator_next st.typeIs F.entry_tuple_iterator_next ?_ (F.args_tuple_iterator_next_1 _)))
 show wpAny _ _ (field (.ref j) 0 >>= _) _ _ _
 refine wpAny_bind (wpAny_field gj dj (x:=.ref t) rfl ?_)
 show wpAny _ _ (field (.ref j) 1 >>= _) _ _ _
 refine wpAny_bind (wpAny_field gj dj (x:=.int k 0) rfl ?_)
 refine wpAny_bind (wpAny_seqItems gt dt ?_)
 simp only[Int.toNat_natCast,at_]
 exact wpAny_bind (wpAny_setField gj dj (by simp) (wpAny_pure ⟨x,rfl,wpAny_pure (go _ ⟨_,Heap.get?_update_self _ gj (Obj.isFreed_of_fields (Obj.data_mapFields dj _)),(Obj.cls_mapFields ..).trans cj,by rw[Obj.data_mapFields dj];simp[rawInt]⟩ (Heap.SameBut.update ..))⟩))
theorem Zjb{j t:Addr}{k:Nat}{its:Array Value}{Q:Vq}(calm:A.handled=none)(st:s.heap.IsTupleIter j t k)(sq:s.heap.IsTuple t its)(at_:its[k]?=none)
  (up:∀ h2 e,Heap.ExtBut j s.heap h2->(∃ o,h2.get? e=some o/\o.cls=.type "StopIteration")->E (.ref e) { s with heap:=h2 }):wpAny (model prog w) A (Builtin.SmallTypes.nextOf (.ref j)) Q E s:=by
 obtain⟨oj,gj,cj,dj⟩:=id st
 obtain⟨ot,gt,_,nt,dt⟩:=sq
 show wpAny _ _ (callSpecial? _ _ >>= _) _ _ _
 refine wpAny_bind (wpAny_callSpecial?_slot st.typeIs F.slot_tuple_iterator_next (wpAny_call_entry F.slot_tuple_iterator_next st.typeIs F.entry_tuple_iterator_next ?_ (F.args_tuple_iterator_next_1 _)))
 show wpAny _ _ (field (.ref j) 0 >>= _) _ _ _
 refine wpAny_bind (wpAny_field gj dj (x:=.ref t) rfl ?_)
 show wpAny _ _ (field (.ref j) 1 >>= _) _ _ _
 refine wpAny_bind (wpAny_field gj dj (x:=.int k 0) rfl ?_)
 refine wpAny_bind (wpAny_seqItems gt dt ?_)
 simp only[Int.toNat_natCast,at_]
 refine wpAny_bind (wpAny_rule (wpAny_bind (wpAny_setField gj dj (by simp) ?_)))
 refine wpAny_bind ?_
 simp only[newExc,newTuple]
 refine wpAny_bind (wpAny_newObj_type ?_ (by size_fits))
 refine wpAny_bind (m:=firstArgMember _ _) (wpAny_of_eq (a:=.none) (by first|rfl|(simp only[firstArgMember];rfl)) (wpAny_newObj_type ?_ (by size_fits)))
 simp only[raiseNew]
 refine wpAny_bind (wpAny_handled ?_)
 first|rw[show A.in1.handled=none from calm]|rw[calm]
 exact wpAny_bind (wpAny_pure (wpAny_throw (up _ _ (((Heap.SameBut.update ..).extBut.push _).push _) ⟨_,Heap.get?_push_size _ rfl,rfl⟩)))
end
structure Dw (prog:Program) (w:World) (A:Around) (j:Addr) (fp:List Addr) (n:Nat) (P:Nat->Value->Prop) (S:Nat->Heap->Prop):Prop where
 frame:∀ i h h2,S i h->(∀ c∈fp,∀ o,h.get? c=some o->h2.get? c=some o)->S i h2
 item:∀ i (s:Shared) (Q:Vq) (E:Vq),i<n->S i s.heap->(∀ x h2 tk,P i x->S (i+1) h2->Heap.SameBut j s.heap h2->Q x { s with heap:=h2,toks:=tk })->wpAny (model prog w) A (Builtin.SmallTypes.nextOf (.ref j)) Q E s
 done:∀ i (s:Shared) (Q:Vq) (E:Vq),n<=i->S i s.heap->(∀ h2 e,Heap.ExtBut j s.heap h2->(∃ o,h2.get? e=some o/\o.cls=.type "StopIteration")->E (.ref e) { s with heap:=h2 })->wpAny (model prog w) A (Builtin.SmallTypes.nextOf (.ref j)) Q E s
def ZgL(t:Bool)(h:Heap)(j l:Addr)(i:Nat):Prop:=match t with
  | true=>h.IsTupleIter j l i
  | false=>h.IsListIter j l i
def Zbt(t:Bool)(h:Heap)(l:Addr)(its:Array Value):Prop:=match t with
  | true=>h.IsTuple l its
  | false=>h.IsList l its
theorem ZfP{prog:Program}{w:World}{A:Around}(calm:A.handled=none)(t:Bool)(j l:Addr)(ne:l≠j)(its:Array Value):Dw prog w A j [j,l] its.size (fun i v=>its[i]?=some v) (fun i h=>ZgL t h j l i/\Zbt t h l its):=by
 cases t with
 | true=>exact⟨fun _ _ _ z k=>⟨z.1.at fun o e=>k j (by simp) o e,z.2.at fun o e=>k l (by simp) o e⟩,fun i s Q E hi z q=>Zrk z.1 z.2 (x:=its[i]) (by simp[hi]) fun h2 z2 sb=>q _ h2 s.toks (by simp[hi]) ⟨z2,z.2.extBut sb.extBut ne⟩ sb,fun i s Q E hi z q=>Zjb calm z.1 z.2 (by simp[hi]) q⟩
 | false=>exact⟨fun _ _ _ z k=>⟨z.1.at fun o e=>k j (by simp) o e,z.2.at fun o e=>k l (by simp) o e⟩,fun i s Q E hi z q=>wpAny_nextOf_list_item z.1 z.2 (x:=its[i]) (by simp[hi]) fun h2 z2 sb=>q _ h2 s.toks (by simp[hi]) ⟨z2,z.2.extBut sb.extBut ne⟩ sb,fun i s Q E hi z q=>wpAny_nextOf_list_end calm z.1 z.2 (by simp[hi]) q⟩
theorem nb1{I l c:Nat}(b:l<I)(h:c∈[I,l])(j:Nat):c≠I+(j+1):=by
 have h':c=I\/c=l:=by simpa using h
 omega
theorem nb2{I l c:Nat}(b:l<I)(h:c∈[I+1,l]):c≠I/\c≠I+3/\c≠I+4:=by
 have h':c=I+1\/c=l:=by simpa using h
 omega
theorem nij{I i j:Nat}(h:i≠j):I+i≠I+j:=by omega
theorem ni0{I i:Nat}(h:i≠0):I+i≠I:=by omega
section
variable {prog:Program} {w:World} {A:Around} {E:Vq} {s:Shared}
theorem Zkn{I l1 l2 n1 n2 k:Nat}{P1 P2:Nat->Value->Prop}{S1 S2:Nat->Heap->Prop}{a b:Value}{Q:Vq}(b1:l1<I)(b2:l2<I)(D1:Dw prog w A I [I,l1] n1 P1 S1)(D2:Dw prog w A (I+1) [I+1,l2] n2 P2 S2)
  (hz:IsZip s.heap (I+4) (I+2) (I+3) .none) (hI:IsPair s.heap (I+2) (.ref I) (.ref (I+1))) (hO:IsPair s.heap (I+3) a b) (g1:S1 k s.heap) (g2:S2 k s.heap) (k1:k<n1) (k2:k<n2)
  (go:∀ x y h2 tk,P1 k x->P2 k y->IsZip h2 (I+4) (I+2) (I+3) (rawInt s.heap.objs.size)->IsPair h2 (I+3) x y->S1 (k+1) h2->S2 (k+1) h2->IsPair h2 s.heap.objs.size x y ->
   (∀ c o,c∉[I,I+1,I+3,I+4]->s.heap.get? c=some o->h2.get? c=some o)->Q (.ref s.heap.objs.size) { s with heap:=h2,toks:=tk }) :
  wpAny (model prog w) A (Builtin.«zip.__next__» ⟨[.ref (I+4)],[]⟩) (fun fin s'=>∃ v,fin=.done (.ret v)/\Q v s') E s:=by
 refine wpAny_bind (m:=field (.ref (I+4)) 2) (wpAny_field hz rfl (x:=.bool false) rfl ?_)
 refine wpAny_bind (m:=field (.ref (I+4)) 3) (wpAny_field hz rfl (x:=.ref (I+2)) rfl (wpAny_bind (wpAny_seqItems hI rfl ?_)))
 refine wpAny_bind (m:=Builtin.SmallTypes.ownedTupleIsFree (.ref (I+4))) ?_
 simp only[Builtin.SmallTypes.ownedTupleIsFree]
 refine wpAny_bind (wpAny_field hz rfl (x:=.none) rfl (wpAny_pure ?_))
 rw[if_pos rfl]
 refine wpAny_bind (wpAny_rule (wpAny_bind (wpAny_field hz rfl (x:=.ref (I+3)) rfl (wpAny_bind (wpAny_setField_rec hz (by simp) fun p1 z1 e1=>wpAny_bind ?_)))))
 have z1':IsZip p1 (I+4) (I+2) (I+3) .ellipsis:=z1
 simp only[List.zipIdx_cons,List.zipIdx_nil,List.forIn_cons,List.forIn_nil]
 refine wpAny_bind (wpAny_bind (wpAny_onRaise (wpAny_bind (m:=Builtin.SmallTypes.nextOf (.ref I)) (D1.item k _ _ _ k1 (D1.frame _ _ _ g1 fun c hc o q=>e1.extBut c o (nb1 b1 hc 3) q) fun x p2 t2 px s2 e2=>wpAny_pure ?_))))
 have o2:IsPair p2 (I+3) a b:=e2.extBut _ _ (ni0 (by decide)) (e1.extBut _ _ (nij (by decide)) hO)
 refine wpAny_bind (wpAny_seqItems o2 rfl (wpAny_bind (wpAny_updateSeq_pair o2 fun p3 o3 e3=>wpAny_bind (wpAny_letGo (wpAny_pure ?_)))))
 have o3':IsPair p3 (I+3) x b:=o3
 have g2':S2 k p3:=D2.frame _ _ _ g2 fun c hc o q=>e3.extBut c o (nb2 b2 hc).2.1 (e2.extBut c o (nb2 b2 hc).1 (e1.extBut c o (nb2 b2 hc).2.2 q))
 refine wpAny_bind (wpAny_bind (wpAny_onRaise (wpAny_bind (m:=Builtin.SmallTypes.nextOf (.ref (I+1))) (D2.item k _ _ _ k2 g2' fun y p4 t4 py s4 e4=>wpAny_pure ?_))))
 have o4:IsPair p4 (I+3) x b:=e4.extBut _ _ (nij (by decide)) o3'
 refine wpAny_bind (wpAny_seqItems o4 rfl (wpAny_bind (wpAny_updateSeq_pair o4 fun p5 o5 e5=>wpAny_bind (wpAny_letGo (wpAny_pure (wpAny_pure ?_))))))
 have o5':IsPair p5 (I+3) x y:=o5
 have sz:p5.objs.size=s.heap.objs.size:=by rw[e5.1,e4.1,e3.1,e2.1,e1.1]
 have z5:IsZip p5 (I+4) (I+2) (I+3) .ellipsis:=e5.extBut _ _ (nij (by decide)) (e4.extBut _ _ (nij (by decide)) (e3.extBut _ _ (nij (by decide)) (e2.extBut _ _ (ni0 (by decide)) z1')))
 refine wpAny_bind (wpAny_seqItems o5' rfl (wpAny_bind (wpAny_newTuple ?_)))
 refine wpAny_bind (m:=Builtin.SmallTypes.ownedTupleHandOut (.ref (I+4)) (.ref p5.objs.size)) ?_
 simp only[Builtin.SmallTypes.ownedTupleHandOut]
 have z6:IsZip (p5.push { cls:=.type "tuple", data:=.seq #[x,y] }) (I+4) (I+2) (I+3) .ellipsis:=Heap.get?_push_of_some _ z5
 refine wpAny_bind (wpAny_setField_rec z6 (by simp) fun p7 z7 e7=>?_)
 have z7':IsZip p7 (I+4) (I+2) (I+3) (rawInt p5.objs.size):=z7
 refine wpAny_setField_rec z7' (by simp) fun p8 z8 e8=>wpAny_pure ⟨_,rfl,?_⟩
 have z8':IsZip p8 (I+4) (I+2) (I+3) (rawInt p5.objs.size):=z8
 have lt5:I+4<p5.objs.size:=Heap.lt_size z5
 have up:∀ c o,c≠I+4->p5.get? c=some o->p8.get? c=some o:=fun c o nc q=>e8.extBut _ _ nc (e7.extBut _ _ nc (Heap.get?_push_of_some _ q))
 have t8:IsPair p8 p5.objs.size x y:=e8.extBut _ _ (Nat.ne_of_gt lt5) (e7.extBut _ _ (Nat.ne_of_gt lt5) (Heap.get?_push_size _ rfl))
 have a1:S1 (k+1) p8:=D1.frame _ _ _ s2 fun c hc o q=>up c o (nb1 b1 hc 3) (e5.extBut c o (nb1 b1 hc 2) (e4.extBut c o (nb1 b1 hc 0) (e3.extBut c o (nb1 b1 hc 2) q)))
 have a2:S2 (k+1) p8:=D2.frame _ _ _ s4 fun c hc o q=>up c o (nb2 b2 hc).2.2 (e5.extBut c o (nb2 b2 hc).2.1 q)
 have kp:∀ c o,c∉[I,I+1,I+3,I+4]->s.heap.get? c=some o->p8.get? c=some o:=fun c o nc q=>by
  simp only[List.mem_cons,List.not_mem_nil,or_false,not_or] at nc
  exact up c o nc.2.2.2 (e5.extBut c o nc.2.2.1 (e4.extBut c o nc.2.1 (e3.extBut c o nc.2.2.1 (e2.extBut c o nc.1 (e1.extBut c o nc.2.2.2 q)))))
 have q:=go x y p8 t4 px py (by rw[<- sz];exact z8') (up _ _ (nij (by decide)) o5') a1 a2 (by rw[<- sz];exact t8) kp
 rw[<- sz] at q
 exact q
theorem ZmE{I l1 l2 n1 n2 k:Nat}{P1 P2:Nat->Value->Prop}{S1 S2:Nat->Heap->Prop}{a b:Value}{Q:Fin->Shared->Prop}(b1:l1<I)(b2:l2<I)(D1:Dw prog w A I [I,l1] n1 P1 S1)(D2:Dw prog w A (I+1) [I+1,l2] n2 P2 S2)
  (hz:IsZip s.heap (I+4) (I+2) (I+3) .none) (hI:IsPair s.heap (I+2) (.ref I) (.ref (I+1))) (hO:IsPair s.heap (I+3) a b) (g1:S1 k s.heap) (g2:S2 k s.heap) (hk:n1<=k\/(k<n1/\n2<=k))
  (up:∀ h2 e tk,(∀ c o,c∉[I,I+1,I+3,I+4]->s.heap.get? c=some o->h2.get? c=some o)->(∃ o,h2.get? e=some o/\o.cls=.type "StopIteration")->E (.ref e) { s with heap:=h2,toks:=tk }) :
  wpAny (model prog w) A (Builtin.«zip.__next__» ⟨[.ref (I+4)],[]⟩) Q E s:=by
 refine wpAny_bind (m:=field (.ref (I+4)) 2) (wpAny_field hz rfl (x:=.bool false) rfl ?_)
 refine wpAny_bind (m:=field (.ref (I+4)) 3) (wpAny_field hz rfl (x:=.ref (I+2)) rfl (wpAny_bind (wpAny_seqItems hI rfl ?_)))
 refine wpAny_bind (m:=Builtin.SmallTypes.ownedTupleIsFree (.ref (I+4))) ?_
 simp only[Builtin.SmallTypes.ownedTupleIsFree]
 refine wpAny_bind (wpAny_field hz rfl (x:=.none) rfl (wpAny_pure ?_))
 rw[if_pos rfl]
 refine wpAny_bind (wpAny_rule (wpAny_bind (wpAny_field hz rfl (x:=.ref (I+3)) rfl (wpAny_bind (wpAny_setField_rec hz (by simp) fun p1 z1 e1=>wpAny_bind ?_)))))
 have z1':IsZip p1 (I+4) (I+2) (I+3) .ellipsis:=z1
 simp only[List.zipIdx_cons,List.zipIdx_nil,List.forIn_cons,List.forIn_nil]
 have g1':S1 k p1:=D1.frame _ _ _ g1 fun c hc o q=>e1.extBut c o (nb1 b1 hc 3) q
 rcases hk with k1|⟨k1,k2⟩
 ·refine wpAny_bind (wpAny_bind (wpAny_onRaise (wpAny_bind (m:=Builtin.SmallTypes.nextOf (.ref I)) (D1.done _ _ _ _ k1 g1' fun p2 e e2 he=>?_))))
  obtain⟨oe,hoe,hce⟩:=he
  have z2:IsZip p2 (I+4) (I+2) (I+3) .ellipsis:=e2 _ _ (ni0 (by decide)) z1'
  have ne:e≠I+4:=fun x=>by subst x;rw[z2] at hoe;cases hoe;simp at hce
  refine wpAny_setField_rec z2 (by simp) fun p3 _ e3=>up p3 e s.toks (fun c o nc q=>?_) ⟨oe,e3.extBut _ _ ne hoe,hce⟩
  simp only[List.mem_cons,List.not_mem_nil,or_false,not_or] at nc
  exact e3.extBut c o nc.2.2.2 (e2 c o nc.1 (e1.extBut c o nc.2.2.2 q))
 ·refine wpAny_bind (wpAny_bind (wpAny_onRaise (wpAny_bind (m:=Builtin.SmallTypes.nextOf (.ref I)) (D1.item k _ _ _ k1 g1' fun x p2 t2 px s2 e2=>wpAny_pure ?_))))
  have o2:IsPair p2 (I+3) a b:=e2.extBut _ _ (ni0 (by decide)) (e1.extBut _ _ (nij (by decide)) hO)
  refine wpAny_bind (wpAny_seqItems o2 rfl (wpAny_bind (wpAny_updateSeq_pair o2 fun p3 o3 e3=>wpAny_bind (wpAny_letGo (wpAny_pure ?_)))))
  have g2':S2 k p3:=D2.frame _ _ _ g2 fun c hc o q=>e3.extBut c o (nb2 b2 hc).2.1 (e2.extBut c o (nb2 b2 hc).1 (e1.extBut c o (nb2 b2 hc).2.2 q))
  refine wpAny_bind (wpAny_bind (wpAny_onRaise (wpAny_bind (m:=Builtin.SmallTypes.nextOf (.ref (I+1))) (D2.done _ _ _ _ k2 g2' fun p4 e e4 he=>?_))))
  obtain⟨oe,hoe,hce⟩:=he
  have z4:IsZip p4 (I+4) (I+2) (I+3) .ellipsis:=e4 _ _ (nij (by decide)) (e3.extBut _ _ (nij (by decide)) (e2.extBut _ _ (ni0 (by decide)) z1'))
  have ne:e≠I+4:=fun x=>by subst x;rw[z4] at hoe;cases hoe;simp at hce
  refine wpAny_setField_rec z4 (by simp) fun p5 _ e5=>up p5 e t2 (fun c o nc q=>?_) ⟨oe,e5.extBut _ _ ne hoe,hce⟩
  simp only[List.mem_cons,List.not_mem_nil,or_false,not_or] at nc
  exact e5.extBut c o nc.2.2.2 (e4 c o nc.2.1 (e3.extBut c o nc.2.2.1 (e2.extBut c o nc.1 (e1.extBut c o nc.2.2.2 q))))
end
def SqX(t:Bool)(K:Fg)(H:Hp)(a:Addr)(xs:List V):Prop:=match t with
  | true=>SqT K H a xs
  | false=>SqL K H a xs
theorem Zcu{X:Cx}{pins:Pn}{σ:L2.St}{H:Hp}{s:Shared}{t:Bool}{a:Addr}{xs:List V}(I:Inv X pins σ H s)(h:SqX t X.K H a xs):∃ its:List Value,Zar xs its/\Zbt t s.heap a its.toArray/\xs.length<=sizeLine:=by
 cases t with
 | true =>
  obtain⟨its,rv,p,z⟩:=I.tuple h
  exact⟨its,rv,p,z⟩
 | false =>
  obtain⟨its,rv,p,z⟩:=I.list h
  exact⟨its,rv,p.isList,z⟩
theorem Zeu{X:Cx}{pins:Pn}{σ:L2.St}{H:Hp}{s:Shared}{t:Bool}{a:Addr}{xs ys:List V}(I:Inv X pins σ H s)(h:SqX t X.K H a xs)(h2:SqX t X.K H a ys):xs=ys:=by
 cases t with
 | true=>exact I.tuple_inj h h2
 | false=>exact I.list_inj h h2
noncomputable def Itz(K:Fg)(t1 t2:Bool)(a b:Addr):It :=
  ⟨fun i H=>∃ xs ys x y,SqX t1 K H a xs/\SqX t2 K H b ys/\xs[i]?=some x/\ys[i]?=some y,
   fun i H v H'=>∃ p x y,H p=none/\v=.ref p/\(∀ xs,SqX t1 K H a xs->xs[i]?=some x)/\(∀ ys,SqX t2 K H b ys->ys[i]?=some y)/\H'=upd H p (.tup [x,y]),
   fun i H=>∃ xs ys,SqX t1 K H a xs/\SqX t2 K H b ys/\(xs.length<=i\/(i<xs.length/\ys.length<=i))⟩
theorem Inv.turnedL{X:Cx}{pins:Pn}{σ:L2.St}{H:Hp}{s:Shared}{h':Heap}{t':Nat}(ch:List Addr)(I:Inv X pins σ H s)(k:∀ b o,b∉ch->s.heap.get? b=some o->h'.get? b=some o)(hf:∀ b∈ch,Zh9 X pins H b):Inv X pins σ H { s with heap:=h',toks:=t' }:=by
 have nit:∀ b u,H b=some u->b∉ch:=fun b u e z=>by rw[(hf b z).1] at e;cases e
 refine I.step (g':=s.gens) (d':=s.drawn) (ch:=ch) (fun b hb=>⟨(hf b hb).2.2.2.1,(hf b hb).2.1,(hf b hb).2.2.2.2.1,(hf b hb).2.2.2.2.2⟩) (fun b o _ _ hc e _=>k b o hc e) (fun b o _ _ hc e _=>⟨o.slots,k b o hc e⟩) (fun _ _ _ _ n=>n)
  (fun b o hc e=>⟨o,k b o hc e⟩) (fun _ _ e=>e) (fun _ _ _ e=>e) (fun b ps e=>⟨#[],by rw[e];simp⟩) (fun m ⟨o,es,ep,ho,r⟩=>⟨o,es,ep,k _ o (fun z=>(hf _ z).2.1 rfl) ho,r⟩) (fun b u e=>(I.hok b u e).stay (fun c v hc q=>k c v ?_ q) (fun _ q=>q) fun _ _ q=>q) I.bare
 rcases hc with z|z
 ·rw[z];exact nit b u e
 ·exact nit c _ z
def zTn(t1 t2:Bool)(I l1 l2:Nat)(i:Nat)(h:Heap):Prop:=IsZip h (I+4) (I+2) (I+3) .none/\IsPair h (I+2) (.ref I) (.ref (I+1))/\(∃ a b,IsPair h (I+3) a b)/\ZgL t1 h I l1 i/\ZgL t2 h (I+1) l2 i
noncomputable def zFp(I:Nat):List Addr:=[I,I+1,I+2,I+3,I+4]
theorem ZgL.obj{t:Bool}{h:Heap}{j l:Addr}{i:Nat}(z:ZgL t h j l i):∃ o,h.get? j=some o/\∀ v,o.data≠.cell v:=by
 cases t with
 | true=>obtain⟨o,e,c,d⟩:=z;exact⟨o,e,fun v z=>by rw[d] at z;cases z⟩
 | false=>obtain⟨o,e,c,d⟩:=z;exact⟨o,e,fun v z=>by rw[d] at z;cases z⟩
theorem ZgL.at'{t:Bool}{h h2:Heap}{j l:Addr}{i:Nat}(z:ZgL t h j l i)(k:∀ o,h.get? j=some o->h2.get? j=some o):ZgL t h2 j l i:=by
 cases t with
 | true=>exact PySem.Heap.IsTupleIter.at z k
 | false=>exact PySem.Heap.IsListIter.at z k
theorem Zkz{P:Program}{w:World}{K:Fg}{es:List Expr}{n:Nat}{pos:Pos}(t1 t2:Bool)(I l1 l2:Nat)(b1:l1<I)(b2:l2<I):Turn P w K (.Tuple es n pos) (Itz K t1 t2 l1 l2) (zFp I) (I+4) (zTn t1 t2 I l1 l2) where
  mem:=by simp[zFp]
  obj:=fun i h ⟨z1,z2,⟨a,b,z3⟩,z4,z5⟩ c hc=>by
    simp only[zFp,List.mem_cons,List.not_mem_nil,or_false] at hc
    rcases hc with rfl|rfl|rfl|rfl|rfl
    · exact z4.obj
    · exact z5.obj
    · exact⟨_,z2,fun v z=>by cases z⟩
    · exact⟨_,z3,fun v z=>by cases z⟩
    · exact⟨_,z1,fun v z=>by cases z⟩
  keep:=fun i h h2 ⟨z1,z2,⟨a,b,z3⟩,z4,z5⟩ k=>⟨k _ (by simp[zFp]) _ z1,k _ (by simp[zFp]) _ z2,⟨a,b,k _ (by simp[zFp]) _ z3⟩,z4.at' fun o e=>k _ (by simp[zFp]) o e,z5.at' fun o e=>k _ (by simp[zFp]) o e⟩
  item:=by
    intro X hP hw hK hc i pins s σ H E Iv hf ⟨z1,z2,⟨a,b,z3⟩,z4,z5⟩ ⟨xs,ys,x,y,q1,q2,hx,hy⟩
    subst hP hw hK
    obtain⟨us,rx,sx,_⟩:=Zcu Iv q1
    obtain⟨vs,ry,sy,_⟩:=Zcu Iv q2
    obtain⟨u,hu,ru⟩:=rx.get hx
    obtain⟨v,hv,rv⟩:=ry.get hy
    have hT:s.TypeIs (.ref (I+4)) "zip" := ⟨_,z1,rfl⟩
    have calm:X.A.in1.handled=none:=Iv.ok.hd hc
    show wpAny _ _ (pyNext _) _ _ _
    simp only[pyNext]
    refine wpAny_bind (wpAny_attempt (wpAny_callSpecial?_slot hT F.slot_zip_next (wpAny_call_entry F.slot_zip_next hT F.entry_zip_next (Zkn (k:=i) b1 b2 (ZfP calm t1 I l1 (Nat.ne_of_lt b1) us.toArray) (ZfP calm t2 (I+1) l2 (Nat.ne_of_lt (Nat.lt_succ_of_lt b2)) vs.toArray) z1 z2 z3 ⟨z4,sx⟩ ⟨z5,sy⟩
      (by have:=(List.getElem?_eq_some_iff.mp hu).1;simpa using this) (by have:=(List.getElem?_eq_some_iff.mp hv).1;simpa using this) fun x' y' h2 tk px py c1 c2 c3 c4 c5 kp=>wpAny_pure ?_) (F.args_zip_next_1 _))))
    have ex:x'=u:=by
      have px':us[i]?=some x':=by simpa using px
      rw[hu] at px';exact(Option.some.inj px').symm
    have ey:y'=v:=by
      have py':vs[i]?=some y':=by simpa using py
      rw[hv] at py';exact(Option.some.inj py').symm
    subst ex ey
    refine⟨_,rfl,wpAny_letOwnedTupleGo_zip c1 fun h3 d1 sb=>?_⟩
    have lt4:I+4<s.heap.objs.size:=Heap.lt_size z1
    have kp3:∀ c o,c∉zFp I->s.heap.get? c=some o->h3.get? c=some o:=fun c o nc q=>by
      simp only[zFp,List.mem_cons,List.not_mem_nil,or_false,not_or] at nc
      exact sb.extBut c o nc.2.2.2.2 (kp c o (by simp only[List.mem_cons,List.not_mem_nil,or_false,not_or];exact⟨nc.1,nc.2.1,nc.2.2.2.1,nc.2.2.2.2⟩) q)
    have nT:∀ c∈zFp I,c≠s.heap.objs.size:=fun c hc z=>by
      have:c<=I+4:=by
        simp only[zFp,List.mem_cons,List.not_mem_nil,or_false] at hc
        rcases hc with z|z|z|z|z<;>rw[z]<;>simp
      exact absurd (z ▸ Nat.lt_of_le_of_lt this lt4) (Nat.lt_irrefl _)
    have I1:Inv X pins σ (upd H s.heap.objs.size (.tup [x,y])) { s with heap:=s.heap.push { cls:=.type "tuple", data:=.seq #[x',y'] },toks:=s.toks } :=
      Iv.laid (fun _ _ q=>Heap.get?_push_of_some _ q) (Nat.le_refl _) ⟨(by decide:2<=sizeLine),[x',y'],.cons ru (.cons rv .nil),⟨_,Heap.get?_push_size _ rfl,rfl,_,rfl⟩⟩
    have hf':∀ b∈zFp I,Zh9 X pins (upd H s.heap.objs.size (.tup [x,y])) b:=fun b hb=>⟨by rw[Zai (nT b hb)];exact(hf b hb).1,(hf b hb).2⟩
    have I2:Inv X pins σ (upd H s.heap.objs.size (.tup [x,y])) { s with heap:=h3,toks:=tk }:=Inv.turnedL (s:={ s with heap:=s.heap.push { cls:=.type "tuple", data:=.seq #[x',y'] },toks:=s.toks }) (zFp I) I1 (fun c o nc q=>by
      rcases Heap.get?_push_cases q with ⟨e1,e2⟩|e1
      · subst e1 e2
        exact sb.extBut _ _ (Nat.ne_of_gt lt4) c5
      · exact kp3 c o nc e1) hf'
    refine⟨.ref s.heap.objs.size,_,I2,rfl,⟨s.heap.objs.size,x,y,Iv.fresh,rfl,fun zs hz=>by rw[Zeu Iv hz q1];exact hx,fun zs hz=>by rw[Zeu Iv hz q2];exact hy,rfl⟩,⟨d1,sb.extBut _ _ (nij (by decide)) (kp _ _ (by simp) z2),⟨_,_,sb.extBut _ _ (nij (by decide)) c2⟩,c3.1.at' fun o q=>sb.extBut _ o (Ne.symm (ni0 (by decide))) q,c4.1.at' fun o q=>sb.extBut _ o (nij (by decide)) q⟩,fun b hb=>(hf' b hb).1⟩
  done:=by
    intro X hP hw hK hc i pins s σ H E Iv hf ⟨z1,z2,⟨a,b,z3⟩,z4,z5⟩ ⟨xs,ys,q1,q2,hk⟩
    subst hP hw hK
    obtain⟨us,rx,sx,_⟩:=Zcu Iv q1
    obtain⟨vs,ry,sy,_⟩:=Zcu Iv q2
    have hT:s.TypeIs (.ref (I+4)) "zip" := ⟨_,z1,rfl⟩
    have calm:X.A.in1.handled=none:=Iv.ok.hd hc
    have e1:=rx.length
    have e2:=ry.length
    simp only[pyNext]
    refine wpAny_bind (wpAny_attempt (wpAny_callSpecial?_slot hT F.slot_zip_next (wpAny_call_entry F.slot_zip_next hT F.entry_zip_next (ZmE (k:=i) b1 b2 (ZfP calm t1 I l1 (Nat.ne_of_lt b1) us.toArray) (ZfP calm t2 (I+1) l2 (Nat.ne_of_lt (Nat.lt_succ_of_lt b2)) vs.toArray) z1 z2 z3 ⟨z4,sx⟩ ⟨z5,sy⟩
      (by simp only[List.size_toArray];omega) fun h2 e tk kp he=>?_) (F.args_zip_next_1 _))))
    obtain⟨o,ho,hcl⟩:=he
    refine wpAny_bind (wpAny_isInstance (T := "StopIteration") (b:=true) ⟨o,ho,hcl⟩ isSubtype_stop (wpAny_pure ⟨rfl,Inv.turnedL [I,I+1,I+3,I+4] Iv (fun c o nc q=>kp c o nc q) fun c hc=>hf c ?_⟩))
    simp only[List.mem_cons,List.not_mem_nil,or_false] at hc
    simp only[zFp,List.mem_cons,List.not_mem_nil,or_false]
    rcases hc with rfl|rfl|rfl|rfl<;>simp
  self:=fun _ _ _ _ _ st h=>wpAny_pyIter_zip st.1 h
section
variable {prog:Program} {w:World} {A:Around} {E:Vq} {s:Shared}
noncomputable def itO(t:Bool)(l:Addr):Obj:=match t with
  | true=>{ cls:=.type "tuple_iterator", data:=.fields #[.ref l,.int 0 0] }
  | false=>{ cls:=.type "list_iterator", data:=.fields #[.ref l,.int 0 0] }
theorem Zjq{t:Bool}{l:Addr}{its:Array Value}{Q:Vq}(h:Zbt t s.heap l its)(q:Q (.ref s.heap.objs.size) { s with heap:=s.heap.push (itO t l) }):wpAny (model prog w) A (pyIter (.ref l)) Q E s:=by
 cases t with
 | true=>exact wpAny_pyIter_tuple h q
 | false=>exact wpAny_pyIter_list h q
theorem Zbt.push{t:Bool}{l:Addr}{its:Array Value}{h:Heap}(z:Zbt t h l its)(o:Obj):Zbt t (h.push o) l its:=by
 cases t with
 | true=>exact PySem.Heap.IsTuple.at z fun _ e=>Heap.get?_push_of_some _ e
 | false=>exact PySem.Heap.IsList.at z fun _ e=>Heap.get?_push_of_some _ e
theorem ZfB{t:Bool}{l j:Addr}{h:Heap}(e:h.get? j=some (itO t l)):ZgL t h j l 0:=by
 cases t with
 | true=>exact⟨_,e,rfl,rfl⟩
 | false=>exact⟨_,e,rfl,rfl⟩
theorem Zct(t:Bool)(l:Addr):(itO t l).isFreed=false:=by cases t<;>rfl
noncomputable abbrev zh2(t1 t2:Bool)(h:Heap)(l1 l2:Addr):Heap:=(h.push (itO t1 l1)).push (itO t2 l2)
noncomputable abbrev zh3(t1 t2:Bool)(h:Heap)(l1 l2:Addr):Heap:=(zh2 t1 t2 h l1 l2).push { cls:=.type "tuple", data:=.seq #[.ref h.objs.size,.ref (h.push (itO t1 l1)).objs.size] }
noncomputable abbrev zh4(t1 t2:Bool)(h:Heap)(l1 l2:Addr):Heap:=(zh3 t1 t2 h l1 l2).push { cls:=.type "tuple", data:=.seq #[.none,.none] }
noncomputable abbrev zh5(t1 t2:Bool)(h:Heap)(l1 l2:Addr):Heap:=(zh4 t1 t2 h l1 l2).push { cls:=.type "zip", data:=.fields #[.none,.bool false,.bool false,.ref (zh2 t1 t2 h l1 l2).objs.size,.ref (zh3 t1 t2 h l1 l2).objs.size] }
theorem ZmD(t1 t2:Bool)(l1 l2:Addr)(xs ys:Array Value):Meets (Builtin.«zip.__new__» ⟨[.type "zip", .ref l1,.ref l2],[]⟩) (fun _ R s=>Zbt t1 s.heap l1 xs/\Zbt t2 s.heap l2 ys/\R (.ok (.ret (.ref (zh4 t1 t2 s.heap l1 l2).objs.size))) { s with heap:=zh5 t1 t2 s.heap l1 l2 }) :=
 .of_wp fun prog w A R s h=>by
  obtain⟨hp,g,d,tk,os⟩:=s
  obtain⟨a1,a2,q⟩:=h
  have hsub:=sub_zip
  have L1:Zbt t1 (Shared.heap ⟨hp,g,d,tk,os⟩) l1 xs:=a1
  have L2:Zbt t2 (Shared.heap ⟨hp.push (itO t1 l1),g,d,tk,os⟩) l2 ys:=a2.push _
  wp_walk using Zjq L1,Zjq L2
  exact⟨_,rfl,q⟩
theorem Zko{t1 t2:Bool}{l1 l2:Addr}{xs ys:Array Value}{Q:Vq}(a1:Zbt t1 s.heap l1 xs)(a2:Zbt t2 s.heap l2 ys)
  (q:∀ h2,zTn t1 t2 s.heap.objs.size l1 l2 0 h2->(∀ c o,s.heap.get? c=some o->h2.get? c=some o)->Q (.ref (s.heap.objs.size+4)) { s with heap:=h2 }):wpAny (model prog w) A (call (.type "zip") [.ref l1,.ref l2]) Q E s:=by
 refine callType_new F.called_zip (by decide) (F.typeCall_zip_2 _ _) (F.newCall_zip_2 _ _) (fun obj=>F.args_object_init_3 obj _ _) F.entry_zip_new (ZmD t1 t2 l1 l2 xs ys) ⟨a1,a2,?_⟩
 have s1:(s.heap.push (itO t1 l1)).objs.size=s.heap.objs.size+1:=Heap.size_push ..
 have s2:(zh2 t1 t2 s.heap l1 l2).objs.size=s.heap.objs.size+2:=by rw[Heap.size_push,s1]
 have s3:(zh3 t1 t2 s.heap l1 l2).objs.size=s.heap.objs.size+3:=by rw[Heap.size_push,s2]
 have s4:(zh4 t1 t2 s.heap l1 l2).objs.size=s.heap.objs.size+4:=by rw[Heap.size_push,s3]
 have u5:∀ {c o},(zh4 t1 t2 s.heap l1 l2).get? c=some o->(zh5 t1 t2 s.heap l1 l2).get? c=some o:=fun e=>Heap.get?_push_of_some _ e
 have u4:∀ {c o},(zh3 t1 t2 s.heap l1 l2).get? c=some o->(zh5 t1 t2 s.heap l1 l2).get? c=some o:=fun e=>u5 (Heap.get?_push_of_some _ e)
 have u3:∀ {c o},(zh2 t1 t2 s.heap l1 l2).get? c=some o->(zh5 t1 t2 s.heap l1 l2).get? c=some o:=fun e=>u4 (Heap.get?_push_of_some _ e)
 have u2:∀ {c o},(s.heap.push (itO t1 l1)).get? c=some o->(zh5 t1 t2 s.heap l1 l2).get? c=some o:=fun e=>u3 (Heap.get?_push_of_some _ e)
 have g5:(zh5 t1 t2 s.heap l1 l2).get? (zh4 t1 t2 s.heap l1 l2).objs.size=some _:=Heap.get?_push_size _ rfl
 have g4:(zh5 t1 t2 s.heap l1 l2).get? (zh3 t1 t2 s.heap l1 l2).objs.size=some _:=u5 (Heap.get?_push_size _ rfl)
 have g3:(zh5 t1 t2 s.heap l1 l2).get? (zh2 t1 t2 s.heap l1 l2).objs.size=some _:=u4 (Heap.get?_push_size _ rfl)
 have g2:(zh5 t1 t2 s.heap l1 l2).get? (s.heap.push (itO t1 l1)).objs.size=some _:=u3 (Heap.get?_push_size _ (Zct _ _))
 have g1:(zh5 t1 t2 s.heap l1 l2).get? s.heap.objs.size=some _:=u2 (Heap.get?_push_size _ (Zct _ _))
 show _/\_
 rw[s2,s3,s4] at g5
 rw[s3] at g4
 rw[s1,s2] at g3
 rw[s1] at g2
 rw[s4]
 exact⟨⟨_,g5,rfl⟩,q _ ⟨g5,g3,⟨_,_,g4⟩,ZfB g1,ZfB g2⟩ fun c o e=>u2 (Heap.get?_push_of_some _ e)⟩
end
def Zzx(K:Fg)(ta:TA):TI:=fun σ H R=>ta σ H fun vs H1=>∃ t1 t2 a b xs ys,vs=[.ref a,.ref b]/\SqX t1 K H1 a xs/\SqX t2 K H1 b ys/\(xs.length<=sizeLine->R (Itz K t1 t2 a b) H1)
theorem Zbt.lt{t:Bool}{h:Heap}{a:Addr}{its:Array Value}(z:Zbt t h a its):a<h.objs.size:=by
 cases t with
 | true=>obtain⟨o,e,_⟩:=z;exact Heap.lt_size e
 | false=>obtain⟨o,e,_⟩:=z;exact Heap.lt_size e
theorem ZqY{X:Cx}{a b:Expr}{ta:TA}{p pos:Pos}{es:List Expr}{n:Nat}{tpos:Pos}(hg:Gl X "zip")(hm:X.mg "zip" = none)(ha:PA X [a,b] ta)(hs:starEach [a,b] X.env=[(false,eval a X.env),(false,eval b X.env)])(hs2:starEach [b] X.env=[(false,eval b X.env)]) :
  PI X (.Tuple es n tpos) (.Call (.Name "zip" p) [a,b] [] pos) (Zzx X.K ta):=by
 intro pins s σ H R I h
 refine Call_ (Zcf I hg hm PyProof.Rows.boot_zip (PyProof.Rows.callWith_type1 (thn (ha pos pins s σ H _ I h) fun us s1 ⟨vs,H1,I1,r1,q1⟩=>?_) (by rw[hs,hs2]) (by rw[hs2];rfl)))
 obtain⟨t1,t2,c,d,xs,ys,e,sx,sy,q⟩:=q1
 subst e
 cases r1 with
 | cons r rr =>
  cases rr with
  | cons r' rr =>
   cases rr
   cases r
   cases r'
   obtain⟨us,ru,iu,zu⟩:=Zcu I1 sx
   obtain⟨vs,rv,iv,_⟩:=Zcu I1 sy
   refine Zko iu iv fun h2 z kp=>wpAny_pyIter_zip z.1 ?_
   refine⟨s1.heap.objs.size+4,zFp s1.heap.objs.size,_,_,H1,rfl,I1.kept (t':=s1.toks) kp,Zkz t1 t2 s1.heap.objs.size c d iu.lt iv.lt,z,fun b hb=>?_,q zu⟩
   have hb':s1.heap.objs.size<=b:=by
    simp only[zFp,List.mem_cons,List.not_mem_nil,or_false] at hb
    rcases hb with z|z|z|z|z<;>rw[z]<;>simp
   exact I1.fpOk hb' (I1.hok.fresh hb')
theorem Ziy{K:Fg}{CL:ClA}{H:Hp}{A:Addr->Prop}{v:V}{d:D}{ds:List D}(r:Rep K CL H A v d)(e:ZaF d=.ok ds):∃ t a xs,v=.ref a/\(∀ H2,Kp A H H2->SqX t K H2 a xs)/\Reps K CL H A xs ds:=by
 cases d with
 | lst es =>
  cases e
  obtain⟨q,xs,rfl,na,sq,r⟩:=r
  exact⟨false,q,xs,rfl,fun H2 k=>ZgY k na sq,r⟩
 | tup es =>
  cases e
  obtain⟨q,xs,rfl,na,sq,r⟩:=r
  exact⟨true,q,xs,rfl,fun H2 k=>ZgX k na sq,r⟩
 | _=>cases e
theorem ZeJ:∀ (xs ys:List D),(Zel xs ys).length=min xs.length ys.length
 | [],_=>by simp[Zel]
 | _::_,[]=>by simp[Zel]
 | x::xs,y::ys=>by
  rw[Zel,List.length_cons,ZeJ xs ys]
  simp only[List.length_cons]
  omega
theorem ZgP:∀ (xs ys:List D) (i:Nat) (d:D),(Zel xs ys)[i]?=some d->∃ x y,xs[i]?=some x/\ys[i]?=some y/\d=.tup [x,y]
 | [],_,i,d,h=>by simp[Zel] at h
 | _::_,[],i,d,h=>by simp[Zel] at h
 | x::xs,y::ys,0,d,h=>by
  rw[Zel] at h
  simp only[List.getElem?_cons_zero,Option.some.injEq] at h
  exact⟨x,y,rfl,rfl,h.symm⟩
 | x::xs,y::ys,i+1,d,h=>by
  rw[Zel] at h
  simp only[List.getElem?_cons_succ] at h ⊢
  exact ZgP xs ys i d h
theorem Zku{K:Fg}{CL:ClA}{A:Addr->Prop}{H1:Hp}{t1 t2:Bool}{a b:Addr}{xs ys:List V}{ds es:List D}(s1:∀ H2,Kp A H1 H2->SqX t1 K H2 a xs)(s2:∀ H2,Kp A H1 H2->SqX t2 K H2 b ys)(r1:Reps K CL H1 A xs ds)(r2:Reps K CL H1 A ys es)
  : Zmv K CL A (Zel ds es) (Itz K t1 t2 a b) H1:=fun H k i=>by
 refine⟨fun hi=>⟨xs,ys,s1 H k,s2 H k,?_⟩,fun d hd=>?_⟩
 ·rw[ZeJ] at hi
  rw[r1.length,r2.length]
  omega
 ·obtain⟨x,y,hx,hy,rfl⟩:=ZgP _ _ _ _ hd
  obtain⟨u,hu,ru⟩:=r1.get hx
  obtain⟨v,hv,rv⟩:=r2.get hy
  refine⟨⟨xs,ys,u,v,s1 H k,s2 H k,hu,hv⟩,?_⟩
  rintro w' H' ⟨p,x',y',hp,rfl,c1,c2,rfl⟩
  have ex:x'=u:=Option.some.inj ((c1 xs (s1 H k)).symm.trans hu)
  have ey:y'=v:=Option.some.inj ((c2 ys (s2 H k)).symm.trans hv)
  subst ex ey
  have sm:=Zat hp (.tup [x',y'])
  exact⟨sm,fun B hB aB=>Zdy aB hp ⟨Zcr ru k hB,Zcr rv k hB,trivial⟩⟩
section
variable {X:Cx} {CL:ClA} {W:XW} {pos p:Pos} {a b:Expr} {fa fb:Rho->R D}
theorem Zp3{es:List Expr}{n:Nat}{tpos:Pos}(ha:SE X CL W a fa)(hb:SE X CL W b fb)(hg:Gl X "zip")(hm:X.mg "zip" = none)(hs:starEach [a,b] X.env=[(false,eval a X.env),(false,eval b X.env)])(hs2:starEach [b] X.env=[(false,eval b X.env)]) :
  SI X CL W (.Tuple es n tpos) (.Call (.Name "zip" p) [a,b] [] pos) (fun ρ=>(fa ρ).bind fun x=>(fb ρ).bind fun y=>(ZaF x).bind fun xs=>(ZaF y).bind fun ys=>.ok (Zel xs ys)) :=
 fun A=>PI.weak (ZqY hg hm (Zao (ha A) (Zao (hb A) Zbj hs2) (by rw[hs,hs2])) hs hs2) fun σ H R ⟨hA,ρ,g,q⟩=>⟨hA,ρ,g,ZbR.ex q fun d v H1 _ s1 r1 p1=>⟨hA.same s1,ρ,g.same s1,ZbR.ex p1 fun d2 v2 H2 _ s2 r2 p2=>by
  cases e1:ZaF d with
  | bad=>rw[e1] at p2;exact p2.elim
  | exn z=>exact absurd e1 (by cases d<;>simp[ZaF])
  | ok ds =>
   cases e2:ZaF d2 with
   | bad=>rw[e1,e2] at p2;exact p2.elim
   | exn z=>exact absurd e2 (by cases d2<;>simp[ZaF])
   | ok es =>
    rw[e1,e2] at p2
    obtain⟨t1,c1,xs,rfl,k1,rs1⟩:=Ziy (r1.same s2) e1
    obtain⟨t2,c2,ys,rfl,k2,rs2⟩:=Ziy r2 e2
    refine⟨t1,t2,c1,c2,xs,ys,rfl,k1 H2 (Kp.of (Zag.refl H2)),k2 H2 (Kp.of (Zag.refl H2)),fun hz=>p2 _ H2 (Zag.refl H2) (Zku k1 k2 rs1 rs2) ?_⟩
    rw[ZeJ,<- rs1.length]
    omega⟩⟩
end
end Ov
end
section
namespace Ov
open PySem PySem.Spec PyProof.Rows L2
theorem ZgL.keep{t:Bool}{h h2:Heap}{j l i:Nat}(z:ZgL t h j l i)(k:∀ o,h.get? j=some o->h2.get? j=some o):ZgL t h2 j l i:=by
 cases t with
 | true=>exact PySem.Heap.IsTupleIter.at z k
 | false=>exact PySem.Heap.IsListIter.at z k
section
variable {prog:Program} {w:World} {A:Around} {E:Vq} {s:Shared}
end
section
variable {X:Cx} {CL:ClA} {W:XW} {pos p:Pos} {a:Expr} {fa:Rho->R D}
end
end Ov
end
section
namespace Ov
open PySem PySem.Spec PyProof.Rows L2
noncomputable abbrev Zej(h:Heap)(z TI TO:Addr)(f0 f1:Value):Prop:=h.get? z=some { cls:=.type "zip", dict:=none,data:=.fields #[f0,f1,.bool false,.ref TI,.ref TO],slots:=#[] }
noncomputable abbrev Zeb(h:Heap)(T:Addr)(a b c:Value):Prop:=h.get? T=some { cls:=.type "tuple", data:=.seq #[a,b,c] }
section
variable {prog:Program} {w:World} {A:Around} {E:Vq} {s:Shared}
theorem nb3{I l c:Nat}{j:Nat}(b:l<I)(h:c∈[I+j,l])(i:Nat)(hi:i≠j):c≠I+i:=by
 have h':c=I+j\/c=l:=by simpa using h
 omega
theorem ZgN{z TI TO T1:Nat}{f1:Bool}{o1:Obj}{Q:Bool->Shared->Prop}(hz:Zej s.heap z TI TO (rawInt T1) (.bool f1))(hT:s.heap.get? T1=some o1)(go:∀ h1,Zej h1 z TI TO (rawInt T1) (.bool true)->(∀ c o,c≠z->s.heap.get? c=some o->h1.get? c=some o)->h1.objs.size=s.heap.objs.size->Q false { s with heap:=h1 }) :
  wpAny (model prog w) A (Builtin.SmallTypes.ownedTupleIsFree (.ref z)) Q E s:=by
 simp only[Builtin.SmallTypes.ownedTupleIsFree]
 refine wpAny_bind (wpAny_field hz rfl (x:=rawInt T1) rfl ?_)
 show wpAny _ _ (loadIfAlive T1 >>= _) _ _ _
 refine wpAny_bind (fun Γ p _=>?_)
 show wpAny _ _ _ _ _ _
 rw[hT]
 show wpAny _ _ (field (.ref z) 1 >>= _) _ _ _
 refine wpAny_bind (wpAny_field hz rfl (x:=.bool f1) rfl ?_)
 cases f1 with
 | true=>exact wpAny_pure (go s.heap hz (fun _ _ _ e=>e) rfl)
 | false=>exact wpAny_bind (wpAny_setField_rec hz (by simp) fun h1 z1 sb=>wpAny_pure (go h1 z1 (fun c o nc e=>sb.extBut c o nc e) sb.1))
theorem ZgO{z TI TO:Nat}{f0 f1:Value}{Q:Bool->Shared->Prop}(hz:Zej s.heap z TI TO f0 f1)(hf:f0=.none\/∃ T1:Nat,f0=rawInt T1/\s.heap.get? T1=none)(go:Q true s):wpAny (model prog w) A (Builtin.SmallTypes.ownedTupleIsFree (.ref z)) Q E s:=by
 simp only[Builtin.SmallTypes.ownedTupleIsFree]
 rcases hf with rfl|⟨T1,rfl,hT⟩
 ·exact wpAny_bind (wpAny_field hz rfl (x:=.none) rfl (wpAny_pure go))
 ·refine wpAny_bind (wpAny_field hz rfl (x:=rawInt T1) rfl ?_)
  show wpAny _ _ (loadIfAlive T1 >>= _) _ _ _
  refine wpAny_bind (fun Γ p _=>?_)
  show wpAny _ _ _ _ _ _
  rw[hT]
  exact wpAny_pure go
theorem Zic{I l1 l2 l3 n1 n2 n3 k T1:Nat}{P1 P2 P3:Nat->Value->Prop}{S1 S2 S3:Nat->Heap->Prop}{f1:Bool}{o1:Obj}{Q:Vq}(b1:l1<I)(b2:l2<I)(b3:l3<I)
  (D1:Dw prog w A (I+0) [I+0,l1] n1 P1 S1) (D2:Dw prog w A (I+1) [I+1,l2] n2 P2 S2) (D3:Dw prog w A (I+2) [I+2,l3] n3 P3 S3)
  (hz:Zej s.heap (I+5) (I+3) (I+4) (rawInt T1) (.bool f1)) (hI:Zeb s.heap (I+3) (.ref (I+0)) (.ref (I+1)) (.ref (I+2))) (hT:s.heap.get? T1=some o1) (g1:S1 k s.heap) (g2:S2 k s.heap) (g3:S3 k s.heap) (k1:k<n1) (k2:k<n2) (k3:k<n3)
  (go:∀ x y u h2 tk,P1 k x->P2 k y->P3 k u->Zej h2 (I+5) (I+3) (I+4) (rawInt T1) (.bool true)->S1 (k+1) h2->S2 (k+1) h2->S3 (k+1) h2->Zeb h2 s.heap.objs.size x y u->h2.objs.size=s.heap.objs.size+1 ->
   (∀ c o,c∉[I+0,I+1,I+2,I+5]->s.heap.get? c=some o->h2.get? c=some o)->Q (.ref s.heap.objs.size) { s with heap:=h2,toks:=tk }) :
  wpAny (model prog w) A (Builtin.«zip.__next__» ⟨[.ref (I+5)],[]⟩) (fun fin s'=>∃ v,fin=.done (.ret v)/\Q v s') E s:=by
 refine wpAny_bind (m:=field (.ref (I+5)) 2) (wpAny_field hz rfl (x:=.bool false) rfl ?_)
 refine wpAny_bind (m:=field (.ref (I+5)) 3) (wpAny_field hz rfl (x:=.ref (I+3)) rfl (wpAny_bind (wpAny_seqItems hI rfl ?_)))
 refine wpAny_bind (m:=Builtin.SmallTypes.ownedTupleIsFree (.ref (I+5))) (ZgN hz hT fun p1 z1 e1 s1=>?_)
 rw[if_neg (by decide)]
 refine wpAny_bind ?_
 simp only[<- Array.forIn_toList,List.forIn_cons,List.forIn_nil]
 have f1':S1 k p1:=D1.frame _ _ _ g1 fun c hc o q=>e1 c o (nb3 b1 hc 5 (by decide)) q
 refine wpAny_bind (wpAny_bind (wpAny_holding (wpAny_bind (m:=Builtin.SmallTypes.nextOf (.ref (I+0))) (D1.item k _ _ _ k1 f1' fun x p2 t2 px s2 e2=>wpAny_pure (wpAny_pure ?_)))))
 have f2':S2 k p2:=D2.frame _ _ _ g2 fun c hc o q=>e2.extBut c o (nb3 b2 hc 0 (by decide)) (e1 c o (nb3 b2 hc 5 (by decide)) q)
 refine wpAny_bind (wpAny_bind (wpAny_holding (wpAny_bind (m:=Builtin.SmallTypes.nextOf (.ref (I+1))) (D2.item k _ _ _ k2 f2' fun y p3 t3 py s3 e3=>wpAny_pure (wpAny_pure ?_)))))
 have f3':S3 k p3:=D3.frame _ _ _ g3 fun c hc o q=>e3.extBut c o (nb3 b3 hc 1 (by decide)) (e2.extBut c o (nb3 b3 hc 0 (by decide)) (e1 c o (nb3 b3 hc 5 (by decide)) q))
 refine wpAny_bind (wpAny_bind (wpAny_holding (wpAny_bind (m:=Builtin.SmallTypes.nextOf (.ref (I+2))) (D3.item k _ _ _ k3 f3' fun u p4 t4 pu s4 e4=>wpAny_pure (wpAny_pure (wpAny_pure ?_))))))
 refine wpAny_bind (wpAny_newTuple (hsz:=by show 3<=sizeLine;decide) (wpAny_pure ⟨_,rfl,?_⟩))
 have sz:p4.objs.size=s.heap.objs.size:=by rw[e4.1,e3.1,e2.1,s1]
 have z4:Zej p4 (I+5) (I+3) (I+4) (rawInt T1) (.bool true):=e4.extBut _ _ (nij (by decide)) (e3.extBut _ _ (nij (by decide)) (e2.extBut _ _ (nij (by decide)) z1))
 have a1:S1 (k+1) p4:=D1.frame _ _ _ s2 fun c hc o q=>e4.extBut c o (nb3 b1 hc 2 (by decide)) (e3.extBut c o (nb3 b1 hc 1 (by decide)) q)
 have a2:S2 (k+1) p4:=D2.frame _ _ _ s3 fun c hc o q=>e4.extBut c o (nb3 b2 hc 2 (by decide)) q
 have psh:∀ {c o},p4.get? c=some o->(p4.push { cls:=.type "tuple", data:=.seq #[x,y,u] }).get? c=some o:=fun q=>Heap.get?_push_of_some _ q
 have q:=go x y u (p4.push { cls:=.type "tuple", data:=.seq #[x,y,u] }) t4 px py pu (psh z4) (D1.frame _ _ _ a1 fun c _ o q=>psh q) (D2.frame _ _ _ a2 fun c _ o q=>psh q) (D3.frame _ _ _ s4 fun c _ o q=>psh q) (by rw[<- sz];exact Heap.get?_push_size _ rfl) (by rw[Heap.size_push,sz]) (fun c o nc q=>by
  simp only[List.mem_cons,List.not_mem_nil,or_false,not_or] at nc
  exact psh (e4.extBut c o nc.2.2.1 (e3.extBut c o nc.2.1 (e2.extBut c o nc.1 (e1 c o nc.2.2.2 q)))))
 rw[<- sz] at q
 exact q
theorem Zib{I l1 n1 k T1:Nat}{P1:Nat->Value->Prop}{S1:Nat->Heap->Prop}{f1:Bool}{o1:Obj}{Q:Fin->Shared->Prop}(b1:l1<I)(D1:Dw prog w A (I+0) [I+0,l1] n1 P1 S1)
  (hz:Zej s.heap (I+5) (I+3) (I+4) (rawInt T1) (.bool f1)) (hI:Zeb s.heap (I+3) (.ref (I+0)) (.ref (I+1)) (.ref (I+2))) (hT:s.heap.get? T1=some o1) (g1:S1 k s.heap) (k1:n1<=k)
  (up:∀ h2 e,(∀ c o,c∉[I+0,I+5]->s.heap.get? c=some o->h2.get? c=some o)->(∃ o,h2.get? e=some o/\o.cls=.type "StopIteration")->E (.ref e) { s with heap:=h2 }) :
  wpAny (model prog w) A (Builtin.«zip.__next__» ⟨[.ref (I+5)],[]⟩) Q E s:=by
 refine wpAny_bind (m:=field (.ref (I+5)) 2) (wpAny_field hz rfl (x:=.bool false) rfl ?_)
 refine wpAny_bind (m:=field (.ref (I+5)) 3) (wpAny_field hz rfl (x:=.ref (I+3)) rfl (wpAny_bind (wpAny_seqItems hI rfl ?_)))
 refine wpAny_bind (m:=Builtin.SmallTypes.ownedTupleIsFree (.ref (I+5))) (ZgN hz hT fun p1 z1 e1 s1=>?_)
 rw[if_neg (by decide)]
 refine wpAny_bind ?_
 simp only[<- Array.forIn_toList,List.forIn_cons,List.forIn_nil]
 have f1':S1 k p1:=D1.frame _ _ _ g1 fun c hc o q=>e1 c o (nb3 b1 hc 5 (by decide)) q
 refine wpAny_bind (wpAny_bind (wpAny_holding (wpAny_bind (m:=Builtin.SmallTypes.nextOf (.ref (I+0))) (D1.done k _ _ _ k1 f1' fun p2 e e2 he=>up p2 e (fun c o nc q=>?_) he))))
 simp only[List.mem_cons,List.not_mem_nil,or_false,not_or] at nc
 exact e2 c o nc.1 (e1 c o nc.2 q)
theorem Zkq{I l1 n1 k:Nat}{P1:Nat->Value->Prop}{S1:Nat->Heap->Prop}{f0 f1:Value}{Q:Fin->Shared->Prop}(b1:l1<I)(D1:Dw prog w A (I+0) [I+0,l1] n1 P1 S1)
  (hz:Zej s.heap (I+5) (I+3) (I+4) f0 f1) (hf:f0=.none\/∃ T1:Nat,f0=rawInt T1/\s.heap.get? T1=none) (hI:Zeb s.heap (I+3) (.ref (I+0)) (.ref (I+1)) (.ref (I+2))) (g1:S1 k s.heap) (k1:n1<=k)
  (up:∀ h2 e,(∀ c o,c∉[I+0,I+5]->s.heap.get? c=some o->h2.get? c=some o)->(∃ o,h2.get? e=some o/\o.cls=.type "StopIteration")->E (.ref e) { s with heap:=h2 }) :
  wpAny (model prog w) A (Builtin.«zip.__next__» ⟨[.ref (I+5)],[]⟩) Q E s:=by
 refine wpAny_bind (m:=field (.ref (I+5)) 2) (wpAny_field hz rfl (x:=.bool false) rfl ?_)
 refine wpAny_bind (m:=field (.ref (I+5)) 3) (wpAny_field hz rfl (x:=.ref (I+3)) rfl (wpAny_bind (wpAny_seqItems hI rfl ?_)))
 refine wpAny_bind (m:=Builtin.SmallTypes.ownedTupleIsFree (.ref (I+5))) (ZgO hz hf ?_)
 rw[if_pos rfl]
 refine wpAny_bind (wpAny_rule (wpAny_bind (wpAny_field hz rfl (x:=.ref (I+4)) rfl (wpAny_bind (wpAny_setField_rec hz (by simp) fun p1 z1 e1=>wpAny_bind ?_)))))
 have z1':Zej p1 (I+5) (I+3) (I+4) .ellipsis f1:=z1
 simp only[List.zipIdx_cons,List.zipIdx_nil,List.forIn_cons,List.forIn_nil]
 have g1':S1 k p1:=D1.frame _ _ _ g1 fun c hc o q=>e1.extBut c o (nb3 b1 hc 5 (by decide)) q
 refine wpAny_bind (wpAny_bind (wpAny_onRaise (wpAny_bind (m:=Builtin.SmallTypes.nextOf (.ref (I+0))) (D1.done _ _ _ _ k1 g1' fun p2 e e2 he=>?_))))
 obtain⟨oe,hoe,hce⟩:=he
 have z2:Zej p2 (I+5) (I+3) (I+4) .ellipsis f1:=e2 _ _ (nij (by decide)) z1'
 have ne:e≠I+5:=fun x=>by subst x;rw[z2] at hoe;cases hoe;simp at hce
 refine wpAny_setField_rec z2 (by simp) fun p3 _ e3=>up p3 e (fun c o nc q=>?_) ⟨oe,e3.extBut _ _ ne hoe,hce⟩
 simp only[List.mem_cons,List.not_mem_nil,or_false,not_or] at nc
 exact e3.extBut c o nc.2 (e2 c o nc.1 (e1.extBut c o nc.2 q))
theorem Zil{T:Addr}{a b c x:Value}{k:Nat}{Q:Unit->Shared->Prop}(h:Zeb s.heap T a b c)(go:∀ h2,h2.get? T=some { cls:=.type "tuple", data:=.seq ((#[a,b,c]:Array Value).setIfInBounds k x) }->Heap.SameBut T s.heap h2->Q () { s with heap:=h2 }):wpAny (model prog w) A (updateSeq T (·.setIfInBounds k x)) Q E s:=by
 refine wpAny_updateSeq h rfl (go _ ?_ (Heap.SameBut.update ..)) (by show 3<=sizeLine;decide) (by show ((#[a,b,c]:Array Value).setIfInBounds k x).size<=sizeLine+1;rw[Array.size_setIfInBounds];show 3<=sizeLine+1;decide)
 rw[Heap.get?_update_self _ h rfl]
 simp[Obj.mapSeq]
theorem ZhA{I l1 l2 l3 n1 n2 n3 k:Nat}{P1 P2 P3:Nat->Value->Prop}{S1 S2 S3:Nat->Heap->Prop}{a b c f0 f1:Value}{Q:Vq}(b1:l1<I)(b2:l2<I)(b3:l3<I)
  (D1:Dw prog w A (I+0) [I+0,l1] n1 P1 S1) (D2:Dw prog w A (I+1) [I+1,l2] n2 P2 S2) (D3:Dw prog w A (I+2) [I+2,l3] n3 P3 S3)
  (hz:Zej s.heap (I+5) (I+3) (I+4) f0 f1) (hf:f0=.none\/∃ T1:Nat,f0=rawInt T1/\s.heap.get? T1=none) (hI:Zeb s.heap (I+3) (.ref (I+0)) (.ref (I+1)) (.ref (I+2))) (hO:Zeb s.heap (I+4) a b c) (g1:S1 k s.heap) (g2:S2 k s.heap) (g3:S3 k s.heap) (k1:k<n1) (k2:k<n2) (k3:k<n3)
  (go:∀ x y u h2 tk,P1 k x->P2 k y->P3 k u->Zej h2 (I+5) (I+3) (I+4) (rawInt s.heap.objs.size) (.bool false)->S1 (k+1) h2->S2 (k+1) h2->S3 (k+1) h2->Zeb h2 s.heap.objs.size x y u->Zeb h2 (I+4) x y u->h2.objs.size=s.heap.objs.size+1 ->
   (∀ c o,c∉[I+0,I+1,I+2,I+4,I+5]->s.heap.get? c=some o->h2.get? c=some o)->Q (.ref s.heap.objs.size) { s with heap:=h2,toks:=tk }) :
  wpAny (model prog w) A (Builtin.«zip.__next__» ⟨[.ref (I+5)],[]⟩) (fun fin s'=>∃ v,fin=.done (.ret v)/\Q v s') E s:=by
 refine wpAny_bind (m:=field (.ref (I+5)) 2) (wpAny_field hz rfl (x:=.bool false) rfl ?_)
 refine wpAny_bind (m:=field (.ref (I+5)) 3) (wpAny_field hz rfl (x:=.ref (I+3)) rfl (wpAny_bind (wpAny_seqItems hI rfl ?_)))
 refine wpAny_bind (m:=Builtin.SmallTypes.ownedTupleIsFree (.ref (I+5))) (ZgO hz hf ?_)
 rw[if_pos rfl]
 refine wpAny_bind (wpAny_rule (wpAny_bind (wpAny_field hz rfl (x:=.ref (I+4)) rfl (wpAny_bind (wpAny_setField_rec hz (by simp) fun p1 z1 e1=>wpAny_bind ?_)))))
 have z1':Zej p1 (I+5) (I+3) (I+4) .ellipsis f1:=z1
 simp only[List.zipIdx_cons,List.zipIdx_nil,List.forIn_cons,List.forIn_nil]
 have f1':S1 k p1:=D1.frame _ _ _ g1 fun c hc o q=>e1.extBut c o (nb3 b1 hc 5 (by decide)) q
 refine wpAny_bind (wpAny_bind (wpAny_onRaise (wpAny_bind (m:=Builtin.SmallTypes.nextOf (.ref (I+0))) (D1.item k _ _ _ k1 f1' fun x p2 t2 px s2 e2=>wpAny_pure ?_))))
 have o2:Zeb p2 (I+4) a b c:=e2.extBut _ _ (nij (by decide)) (e1.extBut _ _ (nij (by decide)) hO)
 refine wpAny_bind (wpAny_seqItems o2 rfl (wpAny_bind (Zil o2 fun p3 o3 e3=>wpAny_bind (wpAny_letGo (wpAny_pure ?_)))))
 have o3':Zeb p3 (I+4) x b c:=o3
 have f2':S2 k p3:=D2.frame _ _ _ g2 fun c hc o q=>e3.extBut c o (nb3 b2 hc 4 (by decide)) (e2.extBut c o (nb3 b2 hc 0 (by decide)) (e1.extBut c o (nb3 b2 hc 5 (by decide)) q))
 refine wpAny_bind (wpAny_bind (wpAny_onRaise (wpAny_bind (m:=Builtin.SmallTypes.nextOf (.ref (I+1))) (D2.item k _ _ _ k2 f2' fun y p4 t4 py s4 e4=>wpAny_pure ?_))))
 have o4:Zeb p4 (I+4) x b c:=e4.extBut _ _ (nij (by decide)) o3'
 refine wpAny_bind (wpAny_seqItems o4 rfl (wpAny_bind (Zil o4 fun p5 o5 e5=>wpAny_bind (wpAny_letGo (wpAny_pure ?_)))))
 have o5':Zeb p5 (I+4) x y c:=o5
 have f3':S3 k p5:=D3.frame _ _ _ g3 fun c hc o q=>e5.extBut c o (nb3 b3 hc 4 (by decide)) (e4.extBut c o (nb3 b3 hc 1 (by decide)) (e3.extBut c o (nb3 b3 hc 4 (by decide)) (e2.extBut c o (nb3 b3 hc 0 (by decide)) (e1.extBut c o (nb3 b3 hc 5 (by decide)) q))))
 refine wpAny_bind (wpAny_bind (wpAny_onRaise (wpAny_bind (m:=Builtin.SmallTypes.nextOf (.ref (I+2))) (D3.item k _ _ _ k3 f3' fun u p6 t6 pu s6 e6=>wpAny_pure ?_))))
 have o6:Zeb p6 (I+4) x y c:=e6.extBut _ _ (nij (by decide)) o5'
 refine wpAny_bind (wpAny_seqItems o6 rfl (wpAny_bind (Zil o6 fun p7 o7 e7=>wpAny_bind (wpAny_letGo (wpAny_pure (wpAny_pure ?_))))))
 have o7':Zeb p7 (I+4) x y u:=o7
 have sz:p7.objs.size=s.heap.objs.size:=by rw[e7.1,e6.1,e5.1,e4.1,e3.1,e2.1,e1.1]
 have z7:Zej p7 (I+5) (I+3) (I+4) .ellipsis f1:=e7.extBut _ _ (nij (by decide)) (e6.extBut _ _ (nij (by decide)) (e5.extBut _ _ (nij (by decide)) (e4.extBut _ _ (nij (by decide)) (e3.extBut _ _ (nij (by decide)) (e2.extBut _ _ (nij (by decide)) z1')))))
 refine wpAny_bind (wpAny_seqItems o7' rfl (wpAny_bind (wpAny_newTuple (hsz:=by show 3<=sizeLine;decide) ?_)))
 refine wpAny_bind (m:=Builtin.SmallTypes.ownedTupleHandOut (.ref (I+5)) (.ref p7.objs.size)) ?_
 simp only[Builtin.SmallTypes.ownedTupleHandOut]
 have z8:Zej (p7.push { cls:=.type "tuple", data:=.seq #[x,y,u] }) (I+5) (I+3) (I+4) .ellipsis f1:=Heap.get?_push_of_some _ z7
 refine wpAny_bind (wpAny_setField_rec z8 (by simp) fun p9 z9 e9=>?_)
 have z9':Zej p9 (I+5) (I+3) (I+4) (rawInt p7.objs.size) f1:=z9
 refine wpAny_setField_rec z9' (by simp) fun pa za ea=>wpAny_pure ⟨_,rfl,?_⟩
 have za':Zej pa (I+5) (I+3) (I+4) (rawInt p7.objs.size) (.bool false):=za
 have lt5:I+5<p7.objs.size:=Heap.lt_size z7
 have up:∀ c o,c≠I+5->p7.get? c=some o->pa.get? c=some o:=fun c o nc q=>ea.extBut _ _ nc (e9.extBut _ _ nc (Heap.get?_push_of_some _ q))
 have a1:S1 (k+1) pa:=D1.frame _ _ _ s2 fun c hc o q=>up c o (nb3 b1 hc 5 (by decide)) (e7.extBut c o (nb3 b1 hc 4 (by decide)) (e6.extBut c o (nb3 b1 hc 2 (by decide)) (e5.extBut c o (nb3 b1 hc 4 (by decide)) (e4.extBut c o (nb3 b1 hc 1 (by decide)) (e3.extBut c o (nb3 b1 hc 4 (by decide)) q)))))
 have a2:S2 (k+1) pa:=D2.frame _ _ _ s4 fun c hc o q=>up c o (nb3 b2 hc 5 (by decide)) (e7.extBut c o (nb3 b2 hc 4 (by decide)) (e6.extBut c o (nb3 b2 hc 2 (by decide)) (e5.extBut c o (nb3 b2 hc 4 (by decide)) q)))
 have a3:S3 (k+1) pa:=D3.frame _ _ _ s6 fun c hc o q=>up c o (nb3 b3 hc 5 (by decide)) (e7.extBut c o (nb3 b3 hc 4 (by decide)) q)
 have tp:Zeb pa p7.objs.size x y u:=ea.extBut _ _ (Nat.ne_of_gt lt5) (e9.extBut _ _ (Nat.ne_of_gt lt5) (Heap.get?_push_size _ rfl))
 have q:=go x y u pa t6 px py pu (by rw[<- sz];exact za') a1 a2 a3 (by rw[<- sz];exact tp) (up _ _ (nij (by decide)) o7') (by rw[ea.1,e9.1,Heap.size_push,sz]) (fun c o nc q=>by
  simp only[List.mem_cons,List.not_mem_nil,or_false,not_or] at nc
  exact up c o nc.2.2.2.2 (e7.extBut c o nc.2.2.2.1 (e6.extBut c o nc.2.2.1 (e5.extBut c o nc.2.2.2.1 (e4.extBut c o nc.2.1 (e3.extBut c o nc.2.2.2.1 (e2.extBut c o nc.1 (e1.extBut c o nc.2.2.2.2 q))))))))
 rw[<- sz] at q
 exact q
def Z3(t1 t2 t3:Bool)(I l1 l2 l3 i:Nat)(h:Heap):Prop:=Zeb h (I+3) (.ref (I+0)) (.ref (I+1)) (.ref (I+2))/\ZgL t1 h (I+0) l1 i/\ZgL t2 h (I+1) l2 i/\ZgL t3 h (I+2) l3 i/\(∃ a b c,Zeb h (I+4) a b c) /\
 (Zej h (I+5) (I+3) (I+4) .none (.bool false)\/∃ (T1:Nat) (f1:Bool),Zej h (I+5) (I+3) (I+4) (rawInt T1) (.bool f1))
noncomputable def z3w(I:Nat):List Addr:=[I+0,I+1,I+2,I+4,I+5]
theorem ZmG{t1 t2 t3:Bool}{I l1 l2 l3 i:Nat}{xs ys us:Array Value}{x y u:Value}{Q:Option Value->Shared->Prop}(calm:A.handled=none)(b1:l1<I)(b2:l2<I)(b3:l3<I)(z:Z3 t1 t2 t3 I l1 l2 l3 i s.heap)(q1:Zbt t1 s.heap l1 xs)(q2:Zbt t2 s.heap l2 ys)(q3:Zbt t3 s.heap l3 us)
  (hx:xs[i]?=some x) (hy:ys[i]?=some y) (hu:us[i]?=some u)
  (go:∀ h2 tk,Z3 t1 t2 t3 I l1 l2 l3 (i+1) h2->Zeb h2 s.heap.objs.size x y u->h2.objs.size=s.heap.objs.size+1->(∀ c o,c∉z3w I->s.heap.get? c=some o->h2.get? c=some o)->Q (some (.ref s.heap.objs.size)) { s with heap:=h2,toks:=tk }):wpAny (model prog w) A (pyNext (.ref (I+5))) Q E s:=by
 obtain⟨zI,i1,i2,i3,zz⟩:=z
 have calm':A.in1.handled=none:=calm
 have lt:∀ {v:Array Value} {k:Nat} {a:Value},v[k]?=some a->k<v.size:=fun h=>by
  rw[Array.getElem?_eq_some_iff] at h
  exact h.1
 have inj:∀ {v:Array Value} {k:Nat} {a b:Value},v[k]?=some a->v[k]?=some b->b=a:=fun h1 h2=>by
  rw[h1] at h2
  exact(Option.some.inj h2).symm
 have d1:=ZfP (prog:=prog) (w:=w) calm' t1 (I+0) l1 (Nat.ne_of_lt b1) xs
 have d2:=ZfP (prog:=prog) (w:=w) calm' t2 (I+1) l2 (Nat.ne_of_lt (Nat.lt_of_lt_of_le b2 (Nat.le_add_right _ _))) ys
 have d3:=ZfP (prog:=prog) (w:=w) calm' t3 (I+2) l3 (Nat.ne_of_lt (Nat.lt_of_lt_of_le b3 (Nat.le_add_right _ _))) us
 obtain⟨⟨a,b,c,hO⟩,zz⟩:=zz
 have fst:∀ {f0 f1:Value},Zej s.heap (I+5) (I+3) (I+4) f0 f1->(f0=.none\/∃ T1:Nat,f0=rawInt T1/\s.heap.get? T1=none)->wpAny (model prog w) A (pyNext (.ref (I+5))) Q E s:=fun hz hf=>by
  have hty:s.TypeIs (.ref (I+5)) "zip" := ⟨_,hz,rfl⟩
  simp only[pyNext]
  refine wpAny_bind (wpAny_attempt (wpAny_callSpecial?_slot hty F.slot_zip_next (wpAny_call_entry F.slot_zip_next hty F.entry_zip_next (ZhA (k:=i) b1 b2 b3 d1 d2 d3 hz hf zI hO ⟨i1,q1⟩ ⟨i2,q2⟩ ⟨i3,q3⟩ (lt hx) (lt hy) (lt hu) fun x' y' u' h2 tk px py pu c1 c2 c3 c4 c5 c6 c7 kp=>wpAny_pure ?_) (F.args_zip_next_1 _))))
  rw[inj hx px,inj hy py,inj hu pu] at c5
  exact go h2 tk ⟨kp _ _ (by simp) zI,c2.1,c3.1,c4.1,⟨_,_,_,c6⟩,.inr ⟨_,_,c1⟩⟩ c5 c7 kp
 rcases zz with hz|⟨T1,f1,hz⟩
 ·exact fst hz (.inl rfl)
 ·cases hT:s.heap.get? T1 with
  | none=>exact fst hz (.inr ⟨T1,rfl,hT⟩)
  | some o1 =>
   have hty:s.TypeIs (.ref (I+5)) "zip" := ⟨_,hz,rfl⟩
   simp only[pyNext]
   refine wpAny_bind (wpAny_attempt (wpAny_callSpecial?_slot hty F.slot_zip_next (wpAny_call_entry F.slot_zip_next hty F.entry_zip_next (Zic (k:=i) b1 b2 b3 d1 d2 d3 hz zI hT ⟨i1,q1⟩ ⟨i2,q2⟩ ⟨i3,q3⟩ (lt hx) (lt hy) (lt hu) fun x' y' u' h2 tk px py pu c1 c2 c3 c4 c5 c6 kp=>wpAny_pure ?_) (F.args_zip_next_1 _))))
   rw[inj hx px,inj hy py,inj hu pu] at c5
   exact go h2 tk ⟨kp _ _ (by simp) zI,c2.1,c3.1,c4.1,⟨a,b,c,kp _ _ (by simp) hO⟩,.inr ⟨T1,true,c1⟩⟩ c5 c6 (fun c o nc q=>kp c o (fun h=>nc (by simp only[z3w,List.mem_cons,List.not_mem_nil,or_false] at h ⊢;rcases h with h|h|h|h<;>simp[h])) q)
theorem Zpv{t1 t2 t3:Bool}{I l1 l2 l3 i:Nat}{xs:Array Value}{Q:Option Value->Shared->Prop}(calm:A.handled=none)(b1:l1<I)(z:Z3 t1 t2 t3 I l1 l2 l3 i s.heap)(q1:Zbt t1 s.heap l1 xs)(hx:xs.size<=i)
  (go:∀ h2,(∀ c o,c∉z3w I->s.heap.get? c=some o->h2.get? c=some o)->Q none { s with heap:=h2 }):wpAny (model prog w) A (pyNext (.ref (I+5))) Q E s:=by
 obtain⟨zI,i1,i2,i3,zz⟩:=z
 have calm':A.in1.handled=none:=calm
 have d1:=ZfP (prog:=prog) (w:=w) calm' t1 (I+0) l1 (Nat.ne_of_lt b1) xs
 have go':∀ h2 e,(∀ c o,c∉[I+0,I+5]->s.heap.get? c=some o->h2.get? c=some o)->(∃ o,h2.get? e=some o/\o.cls=.type "StopIteration")->wpAny (model prog w) A (isInstance (.ref e) (.type "StopIteration") >>= fun b=>if b=true then pure none else throw (.ref e)) Q E { s with heap:=h2 }:=fun h2 e kp ⟨o,ho,hcl⟩ =>
  wpAny_bind (wpAny_isInstance (T := "StopIteration") (b:=true) ⟨o,ho,hcl⟩ isSubtype_stop (wpAny_pure (go h2 fun c o nc q=>kp c o (fun h=>nc (by simp only[z3w,List.mem_cons,List.not_mem_nil,or_false] at h ⊢;rcases h with h|h<;>simp[h])) q)))
 have fin:∀ {f0 f1:Value},Zej s.heap (I+5) (I+3) (I+4) f0 f1->(f0=.none\/∃ T1:Nat,f0=rawInt T1/\s.heap.get? T1=none)->wpAny (model prog w) A (pyNext (.ref (I+5))) Q E s:=fun hz hf=>by
  have hty:s.TypeIs (.ref (I+5)) "zip" := ⟨_,hz,rfl⟩
  simp only[pyNext]
  exact wpAny_bind (wpAny_attempt (wpAny_callSpecial?_slot hty F.slot_zip_next (wpAny_call_entry F.slot_zip_next hty F.entry_zip_next (Zkq (k:=i) b1 d1 hz hf zI ⟨i1,q1⟩ hx fun h2 e kp he=>go' h2 e kp he) (F.args_zip_next_1 _))))
 obtain⟨_,zz⟩:=zz
 rcases zz with hz|⟨T1,f1,hz⟩
 ·exact fin hz (.inl rfl)
 ·cases hT:s.heap.get? T1 with
  | none=>exact fin hz (.inr ⟨T1,rfl,hT⟩)
  | some o1 =>
   have hty:s.TypeIs (.ref (I+5)) "zip" := ⟨_,hz,rfl⟩
   simp only[pyNext]
   exact wpAny_bind (wpAny_attempt (wpAny_callSpecial?_slot hty F.slot_zip_next (wpAny_call_entry F.slot_zip_next hty F.entry_zip_next (Zib (k:=i) b1 d1 hz zI hT ⟨i1,q1⟩ hx fun h2 e kp he=>go' h2 e kp he) (F.args_zip_next_1 _))))
end
end Ov
end
section
namespace Ov
open PySem PySem.Spec PyProof.Rows L2
section
variable {prog:Program} {w:World} {A:Around} {R:Result->Shared->Prop}
def ZeI(I S:Nat)(xs ys us:Array Value)(i:Nat)(acc:Array Value)(h:Heap):Prop:=acc.size=i/\(∀ j,j<i->∃ (a:Nat) (x y u:Value),acc[j]?=some (.ref a)/\xs[j]?=some x/\ys[j]?=some y/\us[j]?=some u/\Zeb h a x y u/\I+5<a/\a≠S)/\∀ (j1 j2 a:Nat),acc[j1]?=some (Value.ref a)->acc[j2]?=some (Value.ref a)->j1=j2
theorem Zbt.at'{t:Bool}{h h2:Heap}{l:Addr}{its:Array Value}(z:Zbt t h l its)(k:∀ o,h.get? l=some o->h2.get? l=some o):Zbt t h2 l its:=by
 cases t with
 | true=>exact PySem.Heap.IsTuple.at z k
 | false=>exact PySem.Heap.IsList.at z k
theorem Zto{I a:Nat}(h:I+5<a):a∉z3w I:=by
 intro z
 simp only[z3w,List.mem_cons,List.not_mem_nil,or_false] at z
 rcases z with z|z|z|z|z<;>· rw[z] at h;exact absurd h (Nat.not_lt.mpr (Nat.add_le_add_left (by decide) I))
theorem Zk2{I l:Nat}(h:l<I):l∉z3w I:=by
 intro z
 simp only[z3w,List.mem_cons,List.not_mem_nil,or_false] at z
 rcases z with z|z|z|z|z<;>· rw[z] at h;exact absurd h (Nat.not_lt.mpr (Nat.le_add_right I _))
theorem Z3.at'{t1 t2 t3:Bool}{I l1 l2 l3 i:Nat}{h h2:Heap}(z:Z3 t1 t2 t3 I l1 l2 l3 i h)(k:∀ j,j<=5->∀ o,h.get? (I+j)=some o->h2.get? (I+j)=some o):Z3 t1 t2 t3 I l1 l2 l3 i h2:=by
 obtain⟨zI,i1,i2,i3,⟨a,b,c,hO⟩,zz⟩:=z
 exact⟨k 3 (by decide) _ zI,i1.at' fun o q=>k 0 (by decide) o q,i2.at' fun o q=>k 1 (by decide) o q,i3.at' fun o q=>k 2 (by decide) o q,⟨a,b,c,k 4 (by decide) _ hO⟩,zz.imp (k 5 (by decide) _) fun ⟨T1,f1,hz⟩=>⟨T1,f1,k 5 (by decide) _ hz⟩⟩
theorem ZmI{t1 t2 t3:Bool}{I l1 l2 l3 n:Nat}{xs ys us:Array Value}{res:Value}(calm:A.handled=none)(b1:l1<I)(b2:l2<I)(b3:l3<I)(S:Nat)(hS:I+5<S)(n0:0<n)(nn:n<=1000)(e1:xs.size=n)(e2:ys.size=n)(e3:us.size=n) :
  ∀ (k i:Nat) (s:Shared) (acc:Array Value) (c:Nat),n-i=k->i<=n->Z3 t1 t2 t3 I l1 l2 l3 i s.heap->Zbt t1 s.heap l1 xs->Zbt t2 s.heap l2 ys->Zbt t3 s.heap l3 us ->
  s.heap.get? S=some { cls:=.type "list", dict:=none,data:=.seq acc c,slots:=#[] }->ZeI I S xs ys us i acc s.heap ->
  (∀ h2 acc2 c2 tk,(∀ d o,d∉z3w I->d≠S->s.heap.get? d=some o->h2.get? d=some o)->h2.get? S=some { cls:=.type "list", dict:=none,data:=.seq acc2 c2,slots:=#[] }->ZeI I S xs ys us n acc2 h2->R (.ok (.ret res)) { s with heap:=h2,toks:=tk }) ->
  codeAny (model prog w) A (.builtin "list.extend.loop" ⟨[.ref S,.ref (I+5),res],[]⟩) R s:=by
 have calm':A.in1.handled=none:=calm
 intro k
 induction k with
 | zero =>
  intro i s acc c hk hi hz q1 q2 q3 hSo hd hR
  have ein:i=n:=Nat.le_antisymm hi (Nat.le_of_sub_eq_zero hk)
  subst ein
  refine codeAny_builtin F.entry_extend_loop ?_
  rw[Around.under_plainId F.plain_extend_loop _]
  refine wpAny_bind (m:=pyNext (.ref (I+5))) (Zpv calm' b1 hz q1 (Nat.le_of_eq e1) fun h2 kp=>?_)
  exact wpAny_pure (hR h2 acc c s.toks (fun d o nd _ q=>kp d o nd q) (kp _ _ (Zto hS) hSo) ⟨hd.1,fun j hj=>by
   obtain⟨a,x,y,u,r1,r2,r3,r4,r5,r6,r7⟩:=hd.2.1 j hj
   exact⟨a,x,y,u,r1,r2,r3,r4,kp _ _ (Zto r6) r5,r6,r7⟩,hd.2.2⟩)
 | succ k ih =>
  intro i s acc c hk hi hz q1 q2 q3 hSo hd hR
  have lt:i<n:=Nat.lt_of_sub_pos (by rw[hk];exact Nat.succ_pos _)
  have lx:i<xs.size:=by rw[e1];exact lt
  have ly:i<ys.size:=by rw[e2];exact lt
  have lu:i<us.size:=by rw[e3];exact lt
  refine codeAny_builtin F.entry_extend_loop ?_
  rw[Around.under_plainId F.plain_extend_loop _]
  refine wpAny_bind (m:=pyNext (.ref (I+5))) (ZmG calm' b1 b2 b3 hz q1 q2 q3 (Array.getElem?_eq_getElem lx) (Array.getElem?_eq_getElem ly) (Array.getElem?_eq_getElem lu) fun h2 tk z2 tr sz kp=>?_)
  have hS2:=kp _ _ (Zto hS) hSo
  refine wpAny_bind (m:=updateSeq S _) ?_
  have ot:∀ (f:Obj->Obj) d o,d≠S->h2.get? d=some o->(h2.update S f).get? d=some o:=fun f d o nd q=>(Heap.get?_update_other _ _ (Ne.symm nd)).trans q
  have lS:I+5<s.heap.objs.size:=Nat.lt_trans hS (Heap.lt_size hSo)
  have nT:s.heap.objs.size≠S:=Nat.ne_of_gt (Heap.lt_size hSo)
  have hS3:=Heap.get?_update_self (Obj.mapSeq (·.push (.ref s.heap.objs.size))) hS2 rfl
  have lne:∀ {l:Nat},l<I->l≠S:=fun h e=>by rw[e] at h;exact absurd (Nat.lt_trans h (Nat.lt_of_le_of_lt (Nat.le_add_right I 5) hS)) (Nat.lt_irrefl _)
  refine wpAny_updateSeq hS2 rfl (wpAny_pure ⟨plainId_quiet F.plain_extend_loop _,ih (i+1) { s with heap:=h2.update S (Obj.mapSeq (·.push (.ref s.heap.objs.size))),toks:=tk } _ _ (by omega) lt (z2.at' fun j hj o q=>ot _ _ o (fun e=>by rw[<- e] at hS;exact absurd hS (Nat.not_lt.mpr (Nat.add_le_add_left hj I))) q) ?_ ?_ ?_ hS3 ⟨by rw[Array.size_push,hd.1],fun j hj=>?_,?_⟩ fun h4 acc4 c4 tk4 kp4 hS4 hd4=>hR h4 acc4 c4 tk4 (fun d o nd ns q=>kp4 d o nd ns (ot _ d o ns (kp d o nd q))) hS4 hd4⟩) ?_ ?_
  ·exact q1.at' fun o q=>ot _ _ o (lne b1) (kp _ o (Zk2 b1) q)
  ·exact q2.at' fun o q=>ot _ _ o (lne b2) (kp _ o (Zk2 b2) q)
  ·exact q3.at' fun o q=>ot _ _ o (lne b3) (kp _ o (Zk2 b3) q)
  ·by_cases ej:j=i
   ·subst ej
    exact⟨s.heap.objs.size,_,_,_,by rw[Array.getElem?_push,if_pos hd.1.symm],Array.getElem?_eq_getElem lx,Array.getElem?_eq_getElem ly,Array.getElem?_eq_getElem lu,ot _ _ _ nT tr,lS,nT⟩
   ·obtain⟨a,x,y,u,r1,r2,r3,r4,r5,r6,r7⟩:=hd.2.1 j (Nat.lt_of_le_of_ne (Nat.le_of_lt_succ hj) ej)
    exact⟨a,x,y,u,by rw[Array.getElem?_push,if_neg (by rw[hd.1];exact ej)];exact r1,r2,r3,r4,ot _ _ _ r7 (kp _ _ (Zto r6) r5),r6,r7⟩
  ·have old:∀ (j a:Nat),acc[j]?=some (Value.ref a)->a<s.heap.objs.size:=fun j a e=>by
    have hj:j<i:=by rw[<- hd.1];exact(Array.getElem?_eq_some_iff.mp e).1
    obtain⟨a',x,y,u,r1,r2,r3,r4,r5,r6,r7⟩:=hd.2.1 j hj
    rw[e] at r1
    cases r1
    exact Heap.lt_size r5
   intro j1 j2 a q1 q2
   rw[Array.getElem?_push] at q1 q2
   split at q1
   ·split at q2
    ·omega
    ·cases q1;exact absurd (old _ _ q2) (Nat.lt_irrefl _)
   ·split at q2
    ·cases q2;exact absurd (old _ _ q1) (Nat.lt_irrefl _)
    ·exact hd.2.2 _ _ _ q1 q2
  ·rw[hd.1];exact Nat.le_trans (Nat.le_trans hi nn) (by decide)
  ·show (acc.push _).size<=sizeLine+1
   rw[Array.size_push,hd.1]
   exact Nat.le_trans (Nat.succ_le_succ (Nat.le_trans hi nn)) (by decide)
end
end Ov
end
section
namespace Ov
open PySem PySem.Spec PyProof.Rows L2
theorem Zia(a b c:Value):checkTypeCall "zip" ⟨[a,b,c],[]⟩=pure ():=by kernel_rfl
theorem Zkr(a b c:Value):checkBuiltinCall "zip.__new__" ⟨[.type "zip", a,b,c],[]⟩=pure ():=by kernel_rfl
theorem ZrG(a b c d:Value):argsOk "object.__init__" ⟨[a,b,c,d],[]⟩:=by
 unfold argsOk;rw[signature?_of (id := "object.__init__") (n:=['_','_','t','i','n','i','_','_']) (o:=['t','c','e','j','b','o']) (by kernel_rfl) F.owner_object];kernel_rfl
section
variable {prog:Program} {w:World} {A:Around} {E:Vq} {s:Shared}
noncomputable abbrev yh3(t1 t2 t3:Bool)(h:Heap)(l1 l2 l3:Addr):Heap:=((h.push (itO t1 l1)).push (itO t2 l2)).push (itO t3 l3)
noncomputable abbrev yh4(t1 t2 t3:Bool)(h:Heap)(l1 l2 l3:Addr):Heap:=(yh3 t1 t2 t3 h l1 l2 l3).push { cls:=.type "tuple", data:=.seq #[.ref h.objs.size,.ref (h.push (itO t1 l1)).objs.size,.ref ((h.push (itO t1 l1)).push (itO t2 l2)).objs.size] }
noncomputable abbrev yh5(t1 t2 t3:Bool)(h:Heap)(l1 l2 l3:Addr):Heap:=(yh4 t1 t2 t3 h l1 l2 l3).push { cls:=.type "tuple", data:=.seq #[.none,.none,.none] }
noncomputable abbrev yh6(t1 t2 t3:Bool)(h:Heap)(l1 l2 l3:Addr):Heap:=(yh5 t1 t2 t3 h l1 l2 l3).push { cls:=.type "zip", data:=.fields #[.none,.bool false,.bool false,.ref (yh3 t1 t2 t3 h l1 l2 l3).objs.size,.ref (yh4 t1 t2 t3 h l1 l2 l3).objs.size] }
theorem Zkp(t1 t2 t3:Bool)(l1 l2 l3:Addr)(xs ys us:Array Value):Meets (Builtin.«zip.__new__» ⟨[.type "zip", .ref l1,.ref l2,.ref l3],[]⟩) (fun _ R s=>Zbt t1 s.heap l1 xs/\Zbt t2 s.heap l2 ys/\Zbt t3 s.heap l3 us/\R (.ok (.ret (.ref (yh5 t1 t2 t3 s.heap l1 l2 l3).objs.size))) { s with heap:=yh6 t1 t2 t3 s.heap l1 l2 l3 }) :=
 .of_wp fun prog w A R s h=>by
  obtain⟨hp,g,d,tk,os⟩:=s
  obtain⟨a1,a2,a3,q⟩:=h
  have hsub:=sub_zip
  have L1:Zbt t1 (Shared.heap ⟨hp,g,d,tk,os⟩) l1 xs:=a1
  have L2:Zbt t2 (Shared.heap ⟨hp.push (itO t1 l1),g,d,tk,os⟩) l2 ys:=a2.push _
  have L3:Zbt t3 (Shared.heap ⟨(hp.push (itO t1 l1)).push (itO t2 l2),g,d,tk,os⟩) l3 us:=(a3.push _).push _
  wp_walk using Zjq L1,Zjq L2,Zjq L3
  exact⟨_,rfl,q⟩
theorem Zid{t1 t2 t3:Bool}{l1 l2 l3:Addr}{xs ys us:Array Value}{Q:Vq}(a1:Zbt t1 s.heap l1 xs)(a2:Zbt t2 s.heap l2 ys)(a3:Zbt t3 s.heap l3 us)
  (q:∀ h2,Z3 t1 t2 t3 s.heap.objs.size l1 l2 l3 0 h2->h2.objs.size=s.heap.objs.size+6->(∀ c o,s.heap.get? c=some o->h2.get? c=some o)->Q (.ref (s.heap.objs.size+5)) { s with heap:=h2 }):wpAny (model prog w) A (call (.type "zip") [.ref l1,.ref l2,.ref l3]) Q E s:=by
 refine callType_new F.called_zip (by decide) (Zia _ _ _) (Zkr _ _ _) (fun obj=>ZrG obj _ _ _) F.entry_zip_new (Zkp t1 t2 t3 l1 l2 l3 xs ys us) ⟨a1,a2,a3,?_⟩
 have s1:(s.heap.push (itO t1 l1)).objs.size=s.heap.objs.size+1:=Heap.size_push ..
 have s2:((s.heap.push (itO t1 l1)).push (itO t2 l2)).objs.size=s.heap.objs.size+2:=by rw[Heap.size_push,s1]
 have s3:(yh3 t1 t2 t3 s.heap l1 l2 l3).objs.size=s.heap.objs.size+3:=by rw[Heap.size_push,s2]
 have s4:(yh4 t1 t2 t3 s.heap l1 l2 l3).objs.size=s.heap.objs.size+4:=by rw[Heap.size_push,s3]
 have s5:(yh5 t1 t2 t3 s.heap l1 l2 l3).objs.size=s.heap.objs.size+5:=by rw[Heap.size_push,s4]
 have s6:(yh6 t1 t2 t3 s.heap l1 l2 l3).objs.size=s.heap.objs.size+6:=by rw[Heap.size_push,s5]
 have u6:∀ {c o},(yh5 t1 t2 t3 s.heap l1 l2 l3).get? c=some o->(yh6 t1 t2 t3 s.heap l1 l2 l3).get? c=some o:=fun e=>Heap.get?_push_of_some _ e
 have u5:∀ {c o},(yh4 t1 t2 t3 s.heap l1 l2 l3).get? c=some o->(yh6 t1 t2 t3 s.heap l1 l2 l3).get? c=some o:=fun e=>u6 (Heap.get?_push_of_some _ e)
 have u4:∀ {c o},(yh3 t1 t2 t3 s.heap l1 l2 l3).get? c=some o->(yh6 t1 t2 t3 s.heap l1 l2 l3).get? c=some o:=fun e=>u5 (Heap.get?_push_of_some _ e)
 have u3:∀ {c o},((s.heap.push (itO t1 l1)).push (itO t2 l2)).get? c=some o->(yh6 t1 t2 t3 s.heap l1 l2 l3).get? c=some o:=fun e=>u4 (Heap.get?_push_of_some _ e)
 have u2:∀ {c o},(s.heap.push (itO t1 l1)).get? c=some o->(yh6 t1 t2 t3 s.heap l1 l2 l3).get? c=some o:=fun e=>u3 (Heap.get?_push_of_some _ e)
 have g6:(yh6 t1 t2 t3 s.heap l1 l2 l3).get? (yh5 t1 t2 t3 s.heap l1 l2 l3).objs.size=some _:=Heap.get?_push_size _ rfl
 have g5:(yh6 t1 t2 t3 s.heap l1 l2 l3).get? (yh4 t1 t2 t3 s.heap l1 l2 l3).objs.size=some _:=u6 (Heap.get?_push_size _ rfl)
 have g4:(yh6 t1 t2 t3 s.heap l1 l2 l3).get? (yh3 t1 t2 t3 s.heap l1 l2 l3).objs.size=some _:=u5 (Heap.get?_push_size _ rfl)
 have g3:(yh6 t1 t2 t3 s.heap l1 l2 l3).get? ((s.heap.push (itO t1 l1)).push (itO t2 l2)).objs.size=some _:=u4 (Heap.get?_push_size _ (Zct _ _))
 have g2:(yh6 t1 t2 t3 s.heap l1 l2 l3).get? (s.heap.push (itO t1 l1)).objs.size=some _:=u3 (Heap.get?_push_size _ (Zct _ _))
 have g1:(yh6 t1 t2 t3 s.heap l1 l2 l3).get? s.heap.objs.size=some _:=u2 (Heap.get?_push_size _ (Zct _ _))
 show _/\_
 rw[s3,s4,s5] at g6
 rw[s4] at g5
 rw[s1,s2,s3] at g4
 rw[s2] at g3
 rw[s1] at g2
 rw[s5]
 exact⟨⟨_,g6,rfl⟩,q _ ⟨g4,ZfB g1,ZfB g2,ZfB g3,⟨_,_,_,g5⟩,.inl g6⟩ s6 fun c o e=>u2 (Heap.get?_push_of_some _ e)⟩
end
end Ov
end
section
namespace Ov
open PySem PySem.Spec PyProof.Rows L2
theorem Zhz:typeLookup (.type "zip") "__len__" = pure none:=by rw[typeLookup_type,builtinLookup_eq_fast];kernel_rfl
theorem Zgf:typeLookup (.type "zip") "__length_hint__" = pure none:=by rw[typeLookup_type,builtinLookup_eq_fast];kernel_rfl
theorem Z3.ty{t1 t2 t3:Bool}{I l1 l2 l3 i:Nat}{s:Shared}(z:Z3 t1 t2 t3 I l1 l2 l3 i s.heap):s.TypeIs (.ref (I+5)) "zip" := by
 obtain⟨_,_,_,_,_,hz|⟨_,_,hz⟩⟩:=z
 ·exact⟨_,hz,rfl⟩
 ·exact⟨_,hz,rfl⟩
theorem Z3.lt{t1 t2 t3:Bool}{I l1 l2 l3 i:Nat}{s:Shared}(z:Z3 t1 t2 t3 I l1 l2 l3 i s.heap):I+5<s.heap.objs.size:=by
 obtain⟨o,h,_⟩:=z.ty
 exact Heap.lt_size h
theorem ZmH{t1 t2 t3:Bool}{I l1 l2 l3 i:Nat}{h:Heap}{o:Obj}(z:Z3 t1 t2 t3 I l1 l2 l3 i h):Z3 t1 t2 t3 I l1 l2 l3 i (h.push o):=by
 have k:∀ {c u},h.get? c=some u->(h.push o).get? c=some u:=fun q=>Heap.get?_push_of_some _ q
 obtain⟨zI,i1,i2,i3,zz⟩:=z
 refine⟨k zI,i1.at' fun o q=>k q,i2.at' fun o q=>k q,i3.at' fun o q=>k q,?_⟩
 obtain⟨⟨a,b,c,hO⟩,zz⟩:=zz
 refine⟨⟨a,b,c,k hO⟩,?_⟩
 rcases zz with hz|⟨T1,f1,hz⟩
 ·exact .inl (k hz)
 ·exact .inr ⟨T1,f1,k hz⟩
section
variable {prog:Program} {w:World} {A:Around} {E:Vq} {s:Shared}
theorem Zkm{z:Addr}{Q:Vq}(hT:s.TypeIs (.ref z) "zip")(h:Q (.ref z) s):wpAny (model prog w) A (pyIter (.ref z)) Q E s:=by
 refine wpAny_pyIter_slot hT F.slot_zip_iter (wpAny_call_entry F.slot_zip_iter hT F.entry_zip_iter ?_ (F.args_zip_iter_1 _))
 show wpAny _ _ (ret (.ref z)) _ _ s
 exact wpAny_pure ⟨_,rfl, "zip", _,hT,F.slot_zip_next.lookup,h⟩
theorem ZhC{t1 t2 t3:Bool}{I l1 l2 l3 n:Nat}{xs ys us:Array Value}{Q:List Value->Shared->Prop}(calm:A.handled=none)(b1:l1<I)(b2:l2<I)(b3:l3<I)(n0:0<n)(nn:n<=1000)(e1:xs.size=n)(e2:ys.size=n)(e3:us.size=n)
    (hz:Z3 t1 t2 t3 I l1 l2 l3 0 s.heap) (q1:Zbt t1 s.heap l1 xs) (q2:Zbt t2 s.heap l2 ys) (q3:Zbt t3 s.heap l3 us)
    (hQ:∀ h2 acc tk,(∀ d o,d∉z3w I->s.heap.get? d=some o->h2.get? d=some o)->ZeI I s.heap.objs.size xs ys us n acc h2->Q acc.toList { s with heap:=h2,toks:=tk }):wpAny (model prog w) A (collect (.ref (I+5))) Q E s:=by
  have lt:=hz.lt
  have hSI:s.heap.objs.size≠I+5:=Nat.ne_of_gt lt
  unfold collect
  refine wpAny_bind (wpAny_runValue (codeAny_builtin F.entry_proto_collect ?_))
  rw[Around.under_plainId F.plain_proto_collect _]
  show wpAny _ A.in1 (newList [] >>= fun l=>again (.builtin "list.__iadd__" ⟨[l,.ref (I+5)],[]⟩)) _ _ s
  refine wpAny_bind (wpAny_newObj_type ?_)
  refine wpAny_pure ⟨plainId_quiet F.plain_list_iadd _,codeAny_builtin F.entry_list_iadd ?_⟩
  rw[Around.under_plainId F.plain_list_iadd _]
  have hz1:Z3 t1 t2 t3 I l1 l2 l3 0 (s.heap.push { cls:=.type "list", data:=.seq ([]:List Value).toArray }):=ZmH hz
  have ty1:Shared.TypeIs { s with heap:=s.heap.push { cls:=.type "list", data:=.seq ([]:List Value).toArray } } (.ref (I+5)) "zip" := Z3.ty (s:={ s with heap:=s.heap.push { cls:=.type "list", data:=.seq ([]:List Value).toArray } }) hz1
  show wpAny _ A.in1 (Builtin.List.listExtendWith (.ref s.heap.objs.size) (.ref (I+5)) (.ref s.heap.objs.size)) _ _ _
  unfold Builtin.List.listExtendWith
  refine wpAny_bind (wpAny_typeOf ty1 ?_)
  have h1:Builtin.List.listSameRef (.ref s.heap.objs.size) (.ref (I+5))=false:=by simp[Builtin.List.listSameRef,hSI]
  have h2:(Value.type "zip" == Value.type "list")=false:=by decide
  have h3:(Value.type "zip" == Value.type "tuple")=false:=by decide
  simp only[h1,h2,h3,Bool.or_false,Bool.false_eq_true,if_false]
  refine wpAny_bind (Zkm ty1 ?_)
  refine wpAny_bind (wpAny_holding ?_)
  unfold Builtin.List.listLengthHint
  refine wpAny_bind (wpAny_specialOf ty1 Zhz ?_)
  show wpAny _ A.in1 (specialOf (Value.ref (I+5)) (Str.ofString "__length_hint__") >>= _) _ _ _
  refine wpAny_bind (wpAny_specialOf ty1 Zgf ?_)
  refine wpAny_pure ?_
  show wpAny _ A.in1 (rule "list.extend.makes-room" >>= fun _=>Builtin.List.listTouch (.ref s.heap.objs.size) >>= fun _ =>
    again (.builtin "list.extend.loop" ⟨[.ref s.heap.objs.size,.ref (I+5),.ref s.heap.objs.size],[]⟩)) _ _ _
  refine wpAny_bind (wpAny_rule ?_)
  have hS₁:(s.heap.push { cls:=.type "list", data:=.seq ([]:List Value).toArray }).get? s.heap.objs.size=some { cls:=.type "list", data:=.seq ([]:List Value).toArray }:=Heap.get?_push_size _ rfl
  refine wpAny_bind ?_
  show wpAny _ A.in1 (updateSeq s.heap.objs.size (·.push .none) >>= fun _=>updateSeq s.heap.objs.size (·.pop)) _ _ _
  refine wpAny_bind (wpAny_updateSeq hS₁ rfl ?_)
  have hS₂:=Heap.get?_update_self (Obj.mapSeq (·.push Value.none)) hS₁ rfl
  refine wpAny_updateSeq hS₂ rfl ?_
  have hS₃:=Heap.get?_update_self (Obj.mapSeq (·.pop)) hS₂ rfl
  have oth:∀ b o,b≠s.heap.objs.size->(s.heap.push { cls:=.type "list", data:=.seq ([]:List Value).toArray }).get? b=some o ->
      (((s.heap.push { cls:=.type "list", data:=.seq ([]:List Value).toArray }).update s.heap.objs.size (Obj.mapSeq (·.push Value.none))).update s.heap.objs.size (Obj.mapSeq (·.pop))).get? b=some o :=
    fun b o hb e=>(Heap.get?_update_other _ _ (Ne.symm hb)).trans ((Heap.get?_update_other _ _ (Ne.symm hb)).trans e)
  have oth':∀ b o,s.heap.get? b=some o->(((s.heap.push { cls:=.type "list", data:=.seq ([]:List Value).toArray }).update s.heap.objs.size (Obj.mapSeq (·.push Value.none))).update s.heap.objs.size (Obj.mapSeq (·.pop))).get? b=some o :=
    fun b o e=>oth b o (Nat.ne_of_lt (Heap.lt_size e)) (Heap.get?_push_of_some _ e)
  refine wpAny_pure ⟨plainId_quiet F.plain_extend_loop _,ZmI calm b1 b2 b3 s.heap.objs.size lt n0 nn e1 e2 e3 n 0 _ _ _ rfl (Nat.zero_le _) (hz1.at' fun j hj o q=>oth _ o (fun e=>by rw[<- e] at lt;exact absurd lt (Nat.not_lt.mpr (Nat.add_le_add_left hj I))) q) (q1.at' fun o e=>oth' _ o e) (q2.at' fun o e=>oth' _ o e) (q3.at' fun o e=>oth' _ o e) hS₃ ⟨rfl,fun j hj=>absurd hj (Nat.not_lt_zero _),fun j1 j2 a e=>by simp[Obj.mapSeq] at e⟩ fun h2 acc c tk kp hS hd=>?_⟩
  show wpAny _ A (load s.heap.objs.size >>= _) _ _ _
  refine wpAny_bind (wpAny_load hS ?_)
  exact wpAny_pure (hQ h2 acc tk (fun d o nd e=>kp d o nd (Nat.ne_of_lt (Heap.lt_size e)) (oth' d o e)) hd)
theorem ZmJ{t1 t2 t3:Bool}{I l1 l2 l3 n:Nat}{xs ys us:Array Value}{Q₁:Vq}(calm:A.handled=none)(b1:l1<I)(b2:l2<I)(b3:l3<I)(n0:0<n)(nn:n<=1000)(e1:xs.size=n)(e2:ys.size=n)(e3:us.size=n)
  (hz:Z3 t1 t2 t3 I l1 l2 l3 0 s.heap) (q1:Zbt t1 s.heap l1 xs) (q2:Zbt t2 s.heap l2 ys) (q3:Zbt t3 s.heap l3 us)
  (h:∀ h2 acc tk,(∀ d o,d∉z3w I->s.heap.get? d=some o->h2.get? d=some o)->ZeI I s.heap.objs.size xs ys us n acc h2->Q₁ (.ref h2.objs.size) { s with heap:=h2.push { cls:=.type "tuple", data:=.seq acc },toks:=tk }) :
  codeAny (model prog w) A (.call (.builtin "tuple.__new__") ⟨[.type "tuple", .ref (I+5)],[]⟩) (wants Q₁ E) s:=by
 refine codeAny_of_tree ?_
 show wpAny _ A.in1 (do checkBuiltinCall "tuple.__new__" ⟨[.type "tuple", .ref (I+5)],[]⟩;again (.builtin "tuple.__new__" ⟨[.type "tuple", .ref (I+5)],[]⟩)) _ _ s
 refine wpAny_bind (wpAny_of_eq (F.newCall_tuple_1 _) (wpAny_pure ⟨plainId_quiet F.plain_tuple_new _,codeAny_builtin F.entry_tuple_new ?_⟩))
 rw[Around.under_plainId F.plain_tuple_new _]
 have hsub:=sub_tuple_self
 have hinit:=init_tuple_lookup
 have hmh:=madeHere_tuple
 have hTI:=hz.ty
 have calm2:A.in1.handled=none:=calm
 wp_walk using wpAny_typeOf hTI,ZhC calm2 b1 b2 b3 n0 nn e1 e2 e3 hz q1 q2 q3
 intro h2 acc tk kp hd
 show wpAny _ _ (Builtin.Tuple.tupleExact acc.toList.toArray >>= fun v=>ret v) _ _ _
 unfold Builtin.Tuple.tupleExact
 refine wpAny_bind (wpAny_newObj_type ?_ (by show acc.toList.toArray.size<=sizeLine;simp only[Array.toArray_toList];rw[hd.1,sizeLine_eq];omega))
 refine wpAny_pure ?_
 have e:acc.toList.toArray=acc:=by simp
 rw[e]
 exact h h2 acc tk kp hd
theorem Zkt{t1 t2 t3:Bool}{I l1 l2 l3 n:Nat}{xs ys us:Array Value}{Q:Vq}(calm:A.handled=none)(b1:l1<I)(b2:l2<I)(b3:l3<I)(n0:0<n)(nn:n<=1000)(e1:xs.size=n)(e2:ys.size=n)(e3:us.size=n)
  (hz:Z3 t1 t2 t3 I l1 l2 l3 0 s.heap) (q1:Zbt t1 s.heap l1 xs) (q2:Zbt t2 s.heap l2 ys) (q3:Zbt t3 s.heap l3 us)
  (h:∀ h2 acc tk,(∀ d o,d∉z3w I->s.heap.get? d=some o->h2.get? d=some o)->ZeI I s.heap.objs.size xs ys us n acc h2->Q (.ref h2.objs.size) { s with heap:=h2.push { cls:=.type "tuple", data:=.seq acc },toks:=tk }) :
  wpAny (model prog w) A (call (.type "tuple") [.ref (I+5)]) Q E s:=by
 refine callType_codes (Q₁:=fun obj s₁=>s₁.TypeIs obj "tuple"/\Q obj s₁) F.called_tuple (F.typeCall_tuple_1 _) F.entry_object_init
  (ZmJ (by exact calm) b1 b2 b3 n0 nn e1 e2 e3 hz q1 q2 q3 fun h2 acc tk kp hd=>⟨⟨_,Heap.get?_push_size _ rfl,rfl⟩,h h2 acc tk kp hd⟩) fun obj s₁ h₁=>?_
 exact⟨h₁.1,F.args_object_init_2 obj _,object_init_meets F.called_tuple.init.lookup F.called_tuple.made (by decide) prog w A.in1 _ s₁ ⟨h₁.1,rfl,h₁.2⟩⟩
end
end Ov
end
section
namespace Ov
open PySem PySem.Spec PyProof.Rows L2
noncomputable def Zki(H:Hp)(ps:List (Addr×List V)):Hp:=fun b=>match ps.lookup b with
  | some xs=>some (.tup xs)
  | none=>H b
theorem Zl5{ps:List (Addr×List V)}{a:Addr}{xs:List V}(h:ps.lookup a=some xs):(a,xs)∈ps:=by
 induction ps with
 | nil=>cases h
 | cons p ps ih =>
  obtain⟨b,ys⟩:=p
  rw[List.lookup_cons] at h
  split at h
  ·rename_i e
   cases h
   rw[beq_iff_eq] at e
   subst e
   exact List.mem_cons_self
  ·exact List.mem_cons_of_mem _ (ih h)
theorem ZgS{H:Hp}{ps:List (Addr×List V)}{b:Addr}(h:∀ p∈ps,p.1≠b):Zki H ps b=H b:=by
 unfold Zki
 cases e:ps.lookup b with
 | none=>rfl
 | some xs=>exact absurd rfl (h _ (Zl5 e))
theorem Zk7{X:Cx}{pins:Pn}{σ:L2.St}{H:Hp}{s:Shared}{h':Heap}{t':Nat}(ps:List (Addr×List V))(I:Inv X pins σ H s)(k:∀ b u,s.heap.get? b=some u->h'.get? b=some u)(hp:∀ p∈ps,s.heap.objs.size<=p.1)
  (new:∀ p∈ps,p.2.length<=sizeLine/\∃ its:List Value,Zar p.2 its/\IsTup h' p.1 its.toArray):Inv X pins σ (Zki H ps) { s with heap:=h',toks:=t' }:=by
 have old:∀ b,b<s.heap.objs.size->Zki H ps b=H b:=fun b hb=>ZgS fun p hq e=>by
  have:=hp p hq
  rw[e] at this
  exact absurd hb (Nat.not_lt.mpr this)
 have hl:∀ b o,H b=some o->Zki H ps b=some o:=fun b o q=>by rw[old b (I.hok.lt q)];exact q
 refine I.un ⟨fun b u q _ _ _=>k b u q,fun b u q _ _ _=>⟨u.slots,k b u q⟩,fun b u q n _=>by rw[old b (Heap.lt_size q)];exact n,fun b u q _=>⟨u,k b u q⟩,fun b xs q=>hl b _ q,fun b u xs q=>hl b _ q,fun b xs q=>⟨#[],by rw[hl b _ q];simp⟩⟩ fun b u e=>?_
 unfold Zki at e
 split at e
 ·rename_i xs hx
  cases e
  exact new _ (Zl5 hx)
 ·exact(I.hok b u e).stay (fun c v _ q=>k c v q) (fun c q=>hl c _ q) fun c xs q=>hl c _ q
noncomputable def Zc9:List V->List V->List V->List (List V)
 | x::xs,y::ys,u::us=>[x,y,u]::Zc9 xs ys us
 | _,_,_=>[]
theorem Zfq:∀ (xs ys us:List V) (j:Nat) (r:List V),(Zc9 xs ys us)[j]?=some r->∃ x y u,xs[j]?=some x/\ys[j]?=some y/\us[j]?=some u/\r=[x,y,u]
 | [],_,_,j,r,h=>by simp[Zc9] at h
 | _::_,[],_,j,r,h=>by simp[Zc9] at h
 | _::_,_::_,[],j,r,h=>by simp[Zc9] at h
 | x::xs,y::ys,u::us,0,r,h=>by
  simp only[Zc9,List.getElem?_cons_zero,Option.some.injEq] at h
  exact⟨x,y,u,rfl,rfl,rfl,h.symm⟩
 | x::xs,y::ys,u::us,j+1,r,h=>by
  simp only[Zc9,List.getElem?_cons_succ] at h ⊢
  exact Zfq xs ys us j r h
theorem ZbG{α β:Type}:∀ {as:List α} {bs:List β} {a:α} {b:β},(a,b)∈as.zip bs->∃ j:Nat,as[j]?=some a/\bs[j]?=some b
 | [],_,_,_,h=>by simp at h
 | _::_,[],_,_,h=>by simp at h
 | x::as,y::bs,a,b,h=>by
  simp only[List.zip_cons_cons,List.mem_cons,Prod.mk.injEq] at h
  rcases h with ⟨rfl,rfl⟩|h
  ·exact⟨0,rfl,rfl⟩
  ·obtain⟨j,h1,h2⟩:=ZbG h
   exact⟨j+1,h1,h2⟩
def Zzc(K:Fg)(ta:TA):TE:=fun σ H Q=>ta σ H fun vs H1=>∃ t1 t2 t3 a b c xs ys us,vs=[.ref a,.ref b,.ref c]/\SqX t1 K H1 a xs/\SqX t2 K H1 b ys/\SqX t3 K H1 c us/\0<xs.length/\xs.length<=1000/\ys.length=xs.length/\us.length=xs.length /\
 ∀ (as:List Addr) (T:Addr),as.length=xs.length->as.Nodup->(∀ p∈as,H1 p=none)->T∉as->H1 T=none->Q (.ref T) (Zki H1 ((T,as.map .ref)::as.zip (Zc9 xs ys us)))
theorem Zlm{I S:Nat}{xs ys us acc:Array Value}{n:Nat}{h:Heap}(d:ZeI I S xs ys us n acc h):∃ as:List Addr,acc.toList=as.map Value.ref/\as.length=n/\as.Nodup/\∀ (j:Nat) (a:Addr),as[j]?=some a->∃ x y u,xs[j]?=some x/\ys[j]?=some y/\us[j]?=some u/\Zeb h a x y u/\I+5<a:=by
  obtain⟨hn,hj,inj⟩:=d
  let f:Value->Addr:=fun v=>match v with
    | .ref a=>a
    | _=>0
  have hg:∀ j v,acc.toList[j]?=some v->∃ (a:Nat) (x y u:Value),v=Value.ref a/\xs[j]?=some x/\ys[j]?=some y/\us[j]?=some u/\Zeb h a x y u/\I+5<a:=fun j v e=>by
    rw[Array.getElem?_toList] at e
    have lt:j<n:=by rw[<- hn];exact(Array.getElem?_eq_some_iff.mp e).1
    obtain⟨a,x,y,u,r1,r2,r3,r4,r5,r6,_⟩:=hj j lt
    rw[e] at r1
    cases r1
    exact⟨a,x,y,u,rfl,r2,r3,r4,r5,r6⟩
  have hf:∀ v∈acc.toList,Value.ref (f v)=v:=fun v hv=>by
    obtain⟨j,hj⟩:=List.getElem?_of_mem hv
    obtain⟨a,_,_,_,rfl,_⟩:=hg j v hj
    rfl
  have hm:acc.toList=(acc.toList.map f).map Value.ref:=by
    rw[List.map_map]
    conv=>lhs;rw[<- List.map_id acc.toList]
    exact List.map_congr_left fun v hv=>(hf v hv).symm
  refine⟨acc.toList.map f,hm,by rw[List.length_map,Array.length_toList,hn],?_,fun j a e=>?_⟩
  · rw[List.nodup_iff_pairwise_ne,List.pairwise_iff_getElem]
    intro i j hi hj' lt e
    rw[List.length_map,Array.length_toList] at hi hj'
    have at':∀ (k:Nat) (hk:k<acc.size) (hk':k<(acc.toList.map f).length),acc[k]?=some (Value.ref (acc.toList.map f)[k]):=fun k hk hk'=>by
      rw[Array.getElem?_eq_getElem hk,List.getElem_map,hf _ (List.getElem_mem _),Array.getElem_toList]
    have:=inj i j _ (at' i hi _) (by rw[e];exact at' j hj' _)
    omega
  · rw[List.getElem?_map,Option.map_eq_some_iff] at e
    obtain⟨v,hv,rfl⟩:=e
    obtain⟨a,x,y,u,rfl,r⟩:=hg j v hv
    exact⟨x,y,u,r⟩
theorem Zq8{X:Cx}{a b c:Expr}{ta:TA}{p p' pos pos':Pos}(hc:X.calm=true)(hg:Gl X "tuple")(hm:X.mg "tuple" = none)(hg':Gl X "zip")(hm':X.mg "zip" = none)(ha:PA X [a,b,c] ta)
    (hs:starEach [a,b,c] X.env=[(false,eval a X.env),(false,eval b X.env),(false,eval c X.env)]) (hs2:starEach [b,c] X.env=[(false,eval b X.env),(false,eval c X.env)]) :
    PE X (.Call (.Name "tuple" p) [.Call (.Name "zip" p') [a,b,c] [] pos'] [] pos) (Zzc X.K ta):=by
  intro pins s σ H Q I h
  refine Call_ (Zcf I hg hm PyProof.Rows.boot_tuple (PyProof.Rows.callWith_type1 ?_ rfl rfl))
  show wpAny _ _ (spliced ((false,eval (.Call (.Name "zip" p') [a,b,c] [] pos') X.env)::backTo pos (starEach [] X.env))) _ _ s
  refine Calls.spliced_cons ?_
  refine Call_ (Zcf I hg' hm' PyProof.Rows.boot_zip (PyProof.Rows.callWith_type1 (thn (ha pos' pins s σ H _ I h) fun us s1 ⟨vs,H1,I1,r1,q1⟩=>?_) (by rw[hs,hs2]) (by rw[hs2];rfl)))
  obtain⟨t1,t2,t3,l1,l2,l3,xs,ys,zs,e,sx,sy,sz,n0,nn,ey,ez,q⟩:=q1
  subst e
  cases r1 with
  | cons r rr =>
    cases rr with
    | cons r' rr =>
      cases rr with
      | cons r'' rr =>
        cases rr
        cases r
        cases r'
        cases r''
        obtain⟨xv,rx,ix,_⟩:=Zcu I1 sx
        obtain⟨yv,ry,iy,_⟩:=Zcu I1 sy
        obtain⟨zv,rz,iz,_⟩:=Zcu I1 sz
        refine Zid ix iy iz fun h2 z hsz kp=>Calls.spliced_nil ?_
        have lx:=rx.length
        have ly:=ry.length
        have lz:=rz.length
        refine Zkt (s:={ s1 with heap:=h2 }) (n:=xs.length) (I1.ok.hd hc) ix.lt iy.lt iz.lt n0 nn (by simp[lx]) (by simp[<- ly,ey]) (by simp[<- lz,ez]) z (ix.at' fun o e=>kp _ o e) (iy.at' fun o e=>kp _ o e) (iz.at' fun o e=>kp _ o e) fun h3 acc tk kp3 dr=>?_
        obtain⟨as,e1,e2,nd,each⟩:=Zlm dr
        have nw:∀ b,b<s1.heap.objs.size->b∉z3w s1.heap.objs.size:=fun b hb=>Zk2 hb
        have kp4:∀ b o,s1.heap.get? b=some o->(h3.push { cls:=.type "tuple", data:=.seq acc }).get? b=some o:=fun b o e=>Heap.get?_push_of_some _ (kp3 b o (nw b (Heap.lt_size e)) (kp b o e))
        have big:∀ a∈as,s1.heap.objs.size<=a/\a<h3.objs.size:=fun a ha=>by
          obtain⟨j,hj⟩:=List.getElem?_of_mem ha
          obtain⟨x,y,u,_,_,_,tr,lt⟩:=each j a hj
          exact⟨Nat.le_of_lt (Nat.lt_of_le_of_lt (Nat.le_add_right _ 5) lt),Heap.lt_size tr⟩
        have b3:s1.heap.objs.size<=h3.objs.size:=by
          obtain⟨a,ha⟩:∃ a,a∈as:=List.exists_mem_of_length_pos (by rw[e2];exact n0)
          exact Nat.le_of_lt (Nat.lt_of_le_of_lt (big a ha).1 (big a ha).2)
        refine⟨.ref h3.objs.size,_,Zk7 (s:=s1) (h':=h3.push { cls:=.type "tuple", data:=.seq acc }) (t':=tk) ((h3.objs.size,as.map V.ref)::as.zip (Zc9 xs ys zs)) I1 kp4 (fun p hp=>?_) (fun p hp=>?_),rfl,q as h3.objs.size e2 nd (fun p hp=>I1.hok.fresh (big p hp).1) (fun hT=>absurd (big _ hT).2 (Nat.lt_irrefl _)) (I1.hok.fresh b3)⟩
        · rcases List.mem_cons.mp hp with rfl|hp
          · exact b3
          · obtain⟨j,h1,h2⟩:=ZbG (a:=p.1) (b:=p.2) hp
            exact(big _ (List.mem_of_getElem? h1)).1
        · rcases List.mem_cons.mp hp with rfl|hp
          · refine⟨by rw[List.length_map,e2,sizeLine_eq];omega,as.map Value.ref,?_,?_⟩
            · clear q each big hp e1 e2 nd
              induction as with
              | nil=>exact .nil
              | cons a as ih=>exact .cons rfl ih
            · rw[<- e1,Array.toArray_toList]
              exact IsTup.new _ _
          · obtain⟨j,h1,h2⟩:=ZbG (a:=p.1) (b:=p.2) hp
            obtain⟨x,y,u,g1,g2,g3,er⟩:=Zfq _ _ _ _ _ h2
            obtain⟨x',y',u',k1,k2,k3,tr,_⟩:=each j _ h1
            obtain⟨x2,m1,w1⟩:=rx.get g1
            obtain⟨y2,m2,w2⟩:=ry.get g2
            obtain⟨u2,m3,w3⟩:=rz.get g3
            rw[List.getElem?_toArray] at k1 k2 k3
            cases m1.symm.trans k1
            cases m2.symm.trans k2
            cases m3.symm.trans k3
            rw[er]
            exact⟨by show 3<=sizeLine;decide,[x',y',u'],.cons w1 (.cons w2 (.cons w3 .nil)),⟨_,Heap.get?_push_of_some _ tr,rfl,_,rfl⟩⟩
theorem Zem{K:Fg}{CL:ClA}{H H3:Hp}{A:Addr->Prop}(hA:AOk H A)(sm:Zag H H3):∀ {as:List Addr} {xs ys us:List V} {ds es fs:List D},(∀ (j:Nat) (a:Addr) (r:List V),as[j]?=some a->(Zc9 xs ys us)[j]?=some r->H3 a=some (.tup r))->(∀ p∈as,H p=none) ->
  as.length=xs.length->ys.length=xs.length->us.length=xs.length->Reps K CL H A xs ds->Reps K CL H A ys es->Reps K CL H A us fs->Reps K CL H3 A (as.map .ref) (ZmF ds es fs)
 | [],[],[],[],[],[],[],_,_,_,_,_,_,_,_=>trivial
 | a::as,x::xs,y::ys,u::us,d::ds,e::es,f::fs,h,hn,l1,l2,l3,r1,r2,r3 =>
  ⟨⟨a,[x,y,u],rfl,.inl (hA.new (hn a List.mem_cons_self)),SqT.of (h 0 a _ rfl rfl),r1.1.same sm,r2.1.same sm,r3.1.same sm,trivial⟩,
   Zem hA sm (fun j a' r p q=>h (j+1) a' r p q) (fun p hp=>hn p (List.mem_cons_of_mem _ hp)) (Nat.succ.inj l1) (Nat.succ.inj l2) (Nat.succ.inj l3) r1.2 r2.2 r3.2⟩
 | [],_::_,_,_,_,_,_,_,_,l,_,_,_,_,_=>nomatch l
 | _::_,[],_,_,_,_,_,_,_,l,_,_,_,_,_=>nomatch l
 | _,[],_::_,_,_,_,_,_,_,_,l,_,_,_,_=>nomatch l
 | _,[],_,_::_,_,_,_,_,_,_,_,l,_,_,_=>nomatch l
 | _,_::_,[],_,_,_,_,_,_,_,l,_,_,_,_=>nomatch l
 | _,_::_,_,[],_,_,_,_,_,_,_,l,_,_,_=>nomatch l
 | _,[],_,_,_::_,_,_,_,_,_,_,_,r,_,_=>r.elim
 | _,_::_,_,_,[],_,_,_,_,_,_,_,r,_,_=>r.elim
 | _,_,[],_,_,_::_,_,_,_,_,_,_,_,r,_=>r.elim
 | _,_,_::_,_,_,[],_,_,_,_,_,_,_,r,_=>r.elim
 | _,_,_,[],_,_,_::_,_,_,_,_,_,_,_,r=>r.elim
 | _,_,_,_::_,_,_,[],_,_,_,_,_,_,_,r=>r.elim
theorem Zl4:∀ {as:List Addr} {rs:List (List V)} {j:Nat} {a:Addr} {r:List V},as.Nodup->as[j]?=some a->rs[j]?=some r->(as.zip rs).lookup a=some r
 | [],_,_,_,_,_,h,_=>by simp at h
 | _::_,[],_,_,_,_,_,h=>by simp at h
 | b::as,q::rs,0,a,r,nd,h1,h2=>by
  simp only[List.getElem?_cons_zero,Option.some.injEq] at h1 h2
  subst h1 h2
  rw[List.zip_cons_cons,List.lookup_cons_self]
 | b::as,q::rs,j+1,a,r,nd,h1,h2=>by
  simp only[List.getElem?_cons_succ] at h1 h2
  have nb:a≠b:=fun e=>by subst e;exact(List.nodup_cons.mp nd).1 (List.mem_of_getElem? h1)
  rw[List.zip_cons_cons,List.lookup_cons,beq_false_of_ne nb]
  exact Zl4 (List.nodup_cons.mp nd).2 h1 h2
section
variable {X:Cx} {CL:ClA} {W:XW} {pos p pos' p':Pos} {a b c:Expr} {fa fb fc:Rho->R D}
theorem Zqh(ha:SE X CL W a fa)(hb:SE X CL W b fb)(hd:SE X CL W c fc)(hc:X.calm=true)(hg:Gl X "tuple")(hm:X.mg "tuple" = none)(hg':Gl X "zip")(hm':X.mg "zip" = none)
  (hs:starEach [a,b,c] X.env=[(false,eval a X.env),(false,eval b X.env),(false,eval c X.env)]) (hs2:starEach [b,c] X.env=[(false,eval b X.env),(false,eval c X.env)]) (hs3:starEach [c] X.env=[(false,eval c X.env)]) :
  SE X CL W (.Call (.Name "tuple" p) [.Call (.Name "zip" p') [a,b,c] [] pos'] [] pos) (fun ρ=>((fa ρ).bind fun x=>(fb ρ).bind fun y=>(fc ρ).bind fun z=>ZhB x y z).bind fun xs=>.ok (.tup xs)) :=
 fun A=>PE.weak (Zq8 hc hg hm hg' hm' (Zao (ha A) (Zao (hb A) (Zao (hd A) Zbj hs3) (by rw[hs2,hs3])) (by rw[hs,hs2])) hs hs2) fun σ H Q ⟨hA,ρ,g,q⟩=>by
  simp only[R.bind_assoc] at q
  refine⟨hA,ρ,g,Zas.bind q fun d v H1 _ s1 r1 p1=>⟨hA.same s1,ρ,g.same s1,Zas.bind p1 fun d2 v2 H2 _ s2 r2 p2=>⟨(hA.same s1).same s2,ρ,(g.same s1).same s2,Zas.bind p2 fun d3 v3 H3 _ s3 r3 p3=>?_⟩⟩⟩
  unfold ZhB at p3
  cases e1:ZaF d with
  | bad=>rw[e1] at p3;exact p3.elim
  | exn z=>exact absurd e1 (by cases d<;>simp[ZaF])
  | ok ds =>
   cases e2:ZaF d2 with
   | bad=>rw[e1,e2] at p3;exact p3.elim
   | exn z=>exact absurd e2 (by cases d2<;>simp[ZaF])
   | ok es =>
    cases e3:ZaF d3 with
    | bad=>rw[e1,e2,e3] at p3;exact p3.elim
    | exn z=>exact absurd e3 (by cases d3<;>simp[ZaF])
    | ok fs =>
     rw[e1,e2,e3] at p3
     simp only[R.bind_ok] at p3
     obtain⟨t1,c1,xs,rfl,k1,rs1⟩:=Ziy ((r1.same s2).same s3) e1
     obtain⟨t2,c2,ys,rfl,k2,rs2⟩:=Ziy (r2.same s3) e2
     obtain⟨t3,c3,us,rfl,k3,rs3⟩:=Ziy r3 e3
     split at p3
     ·rename_i hn
      obtain⟨n0,nn,ny,nz⟩:=hn
      rw[<- rs1.length] at n0 nn ny nz
      rw[<- rs2.length] at ny
      rw[<- rs3.length] at nz
      refine⟨t1,t2,t3,c1,c2,c3,xs,ys,us,rfl,k1 H3 (Kp.of (Zag.refl H3)),k2 H3 (Kp.of (Zag.refl H3)),k3 H3 (Kp.of (Zag.refl H3)),n0,nn,ny,nz,fun as T el nd fr hT fT=>?_⟩
      have hA3:AOk H3 A:=((hA.same s1).same s2).same s3
      have fr':∀ q∈(T,as.map V.ref)::as.zip (Zc9 xs ys us),H3 q.1=none:=fun q hq=>by
       rcases List.mem_cons.mp hq with rfl|hq
       ·exact fT
       ·obtain⟨j,h1,h2⟩:=ZbG (a:=q.1) (b:=q.2) hq
        exact fr _ (List.mem_of_getElem? h1)
      have sm:Zag H3 (Zki H3 ((T,as.map V.ref)::as.zip (Zc9 xs ys us))):=fun b o e=>by
       rw[ZgS fun q hq z=>by rw[<- z,fr' q hq] at e;cases e]
       exact e
      refine p3 _ _ sm ⟨T,as.map V.ref,rfl,.inl (hA3.new fT),SqT.of ?_,Zem hA3 sm (fun j a r h1 h2=>?_) fr el ny nz rs1 rs2 rs3⟩
      ·unfold Zki
       rw[List.lookup_cons_self]
      ·have na:a≠T:=fun e=>by subst e;exact hT (List.mem_of_getElem? h1)
       unfold Zki
       rw[List.lookup_cons,beq_false_of_ne na,Zl4 nd h1 h2]
     ·exact p3.elim
end
end Ov
end
section
namespace Ov
open PySem PySem.Spec PyProof.Rows L2
section
variable {X:Cx} {CL:ClA} {W:XW} {pos p tpos:Pos} {a b c:Expr} {fa fb fc:Rho->R D} {x:Str}
end
end Ov
end
section
namespace Ov
open PySem PySem.Spec PyProof.Rows L2
section
variable {X:Cx} {CL:ClA} {W:XW} {a:Expr} {fa:Rho->R D}
end
end Ov
end
section
namespace Ov
open PySem PySem.Spec PyProof.Rows L2
section
variable {X:Cx} {CL:ClA} {W:XW}
end
end Ov
end
section
namespace Ov
open PySem PySem.Spec PyProof.Rows L2
noncomputable def ZhY(lo:Int)(n:Nat):List V:=(List.range n).map fun (k:Nat)=>V.int (lo+(k:Int))
theorem ZfH(lo:Int)(n:Nat):(ZhY lo n).length=n:=by simp[ZhY]
theorem ZhX{K:Fg}{CL:ClA}{H:Hp}{A:Addr->Prop}(lo:Int)(n:Nat):Reps K CL H A (ZhY lo n) (ZcM lo n):=by
 have key:∀ L:List Nat,Reps K CL H A (L.map fun (k:Nat)=>V.int (lo+(k:Int))) (L.map fun (k:Nat)=>D.int (lo+(k:Int))):=fun L=>by
  induction L with
  | nil=>exact trivial
  | cons x L ih=>exact⟨rfl,ih⟩
 exact key _
theorem ZhW{lo:Int}{n:Nat}{acc:Array Value}(h:ItemsOf (fun i v=>∃ t,v=.int (lo+i*1) t) acc n):Zar (ZhY lo n) acc.toList:=by
 obtain⟨h1,h2⟩:=h
 have key:∀ (L:List Value) (m:Nat),(∀ (j:Nat) (v:Value),L[j]?=some v->∃ t,v=.int (lo+((m+j:Nat):Int)) t)->Zar ((List.range' m L.length).map fun (k:Nat)=>V.int (lo+(k:Int))) L:=fun L=>by
  induction L with
  | nil=>intro m _;exact .nil
  | cons v L ih =>
   intro m h
   obtain⟨t,rfl⟩:=h 0 v rfl
   refine .cons ⟨t,rfl⟩ (ih (m+1) fun j w hw=>?_)
   obtain⟨u,rfl⟩:=h (j+1) w hw
   exact⟨u,by rw[show m+1+j=m+(j+1) by omega]⟩
 have k:=key acc.toList 0 fun j v hv=>by
  obtain⟨t,rfl⟩:=h2 j v (by rw[<- Array.getElem?_toList];exact hv)
  exact⟨t,by rw[Int.mul_one,Nat.zero_add]⟩
 rw[Array.length_toList,h1,<- List.range_eq_range'] at k
 exact k
section
variable {X:Cx}
def Zy9(ta:TA):TE:=fun σ H Q=>ta σ H fun vs H1=>∃ i j:Int,vs=[.int i,.int j]/\(-(2 ^ 62)<=i/\i<2 ^ 62/\-(2 ^ 62)<=j/\j<2 ^ 62)/\(j-i).toNat<=2 ^ 24/\(j-i).toNat<=sizeLine/\∀ l,H1 l=none->Q (.ref l) (upd H1 l (.lst (ZhY i (j-i).toNat)))
theorem Zq6{a b:Expr}{ta:TA}{p p' pos pos':Pos}(hc:X.calm=true)(hg:Gl X "list")(hm:X.mg "list" = none)(hg':Gl X "range")(hm':X.mg "range" = none)(ha:PA X [a,b] ta)
  (hs:starEach [a,b] X.env=[(false,eval a X.env),(false,eval b X.env)]) (hs2:starEach [b] X.env=[(false,eval b X.env)]) :
  PE X (.Call (.Name "list" p) [.Call (.Name "range" p') [a,b] [] pos'] [] pos) (Zy9 ta):=by
 intro pins s σ H Q I h
 refine Call_ (Zcf I hg hm PyProof.Rows.boot_list (PyProof.Rows.callWith_type1 ?_ rfl rfl))
 show wpAny _ _ (spliced ((false,eval (.Call (.Name "range" p') [a,b] [] pos') X.env)::backTo pos (starEach [] X.env))) _ _ s
 refine Calls.spliced_cons ?_
 refine Call_ (Zcf I hg' hm' boot_range (PyProof.Rows.callWith_type1 (thn (ha pos' pins s σ H _ I h) fun us s1 ⟨vs,H1,I1,r1,q1⟩=>?_) (by rw[hs,hs2]) (by rw[hs2];rfl)))
 obtain⟨i,j,e,⟨b1,b2,b3,b4⟩,hn,hz,q⟩:=q1
 subst e
 cases r1 with
 | cons r rr =>
  cases rr with
  | cons r' rr =>
   cases rr
   obtain⟨t,rfl⟩:=r
   obtain⟨t',rfl⟩:=r'
   refine call_range_2 (Calls.spliced_nil ?_)
   refine call_list_range (n:=(j-i).toNat) (I1.ok.hd hc) (IsRange.new ..) (small_one b1 b2 b3 b4) (by rw[rangeSize_one];split<;>omega) hn fun h' tk acc c' kp e it=>?_
   have e':=ZhW it
   refine⟨.ref (s1.heap.push { cls:=.type "range", data:=.fields #[.int i t,.int j t',.int 1 s1.toks] }).objs.size,_,I1.laid (t':=tk) (fun b o e=>kp b o (Heap.get?_push_of_some _ e)) ?_ (show ObjOk X.prog X.w _ h' _ (.lst (ZhY i (j-i).toNat)) from ⟨by rw[ZfH];exact hz,acc.toList,c',e',by rw[Array.toArray_toList];exact e⟩),rfl,q _ (I1.hok.fresh ?_)⟩
   ·rw[Heap.size_push];exact Nat.le_succ _
   ·rw[Heap.size_push];exact Nat.le_succ _
noncomputable def Zyq(x y:D):R D:=(ZbE x).bind fun i=>(ZbE y).bind fun j=>(Zaz i j).bind fun xs=>.ok (.lst xs)
variable {CL:ClA} {W:XW} {pos p pos' p':Pos} {a b:Expr} {fa fb:Rho->R D}
theorem ZpY(ha:ST X CL W a fa)(hb:ST X CL W b fb)(hc:X.calm=true)(hg:Gl X "list")(hm:X.mg "list" = none)(hg':Gl X "range")(hm':X.mg "range" = none)
  (hs:starEach [a,b] X.env=[(false,eval a X.env),(false,eval b X.env)]) (hs2:starEach [b] X.env=[(false,eval b X.env)]) :
  SC X CL W true (.Call (.Name "list" p) [.Call (.Name "range" p') [a,b] [] pos'] [] pos) (fun ρ=>(fa ρ).bind fun x=>(fb ρ).bind fun y=>Zyq x y):=fun A pins s σ H Q I h=>by
 obtain⟨hA,ρ,g,pp⟩:=h
 refine Zq6 hc hg hm hg' hm' (Zao (ha A) (Zao (hb A) Zbj hs2) (by rw[hs,hs2])) hs hs2 pins s σ H Q I ?_
 refine⟨hA,ρ,g,Zas.bindF pp fun dx x H1 _ s1 r1 p1=>⟨hA.same s1,ρ,g.same s1,Zas.bind (Rq:=Zcp X.K CL true H A) p1 fun dy y H2 _ s2 r2 p2=>?_⟩⟩
 cases dx with
 | int i =>
  cases dy with
  | int j =>
   have e:=r1.int_of
   have e':=r2.int_of
   subst e e'
   have p3:Zas (Zcp X.K CL true H A) W H2 ((Zaz i j).bind fun xs=>.ok (.lst xs)) Q:=p2
   cases e2:Zaz i j with
   | ok ds =>
    rw[e2] at p3
    obtain⟨h1,h2,rfl,hz⟩:=Zds e2
    rw[ZaS] at hz
    refine⟨i,j,rfl,⟨h1.1,h1.2,h2.1,h2.2⟩,by rw[sizeLine_eq] at hz;omega,hz,fun l hl=>?_⟩
    exact p3 _ _ (Zat hl _) (Zbi (s1.trans s2) ((hA.same s1).same s2) hl (ZhX i _))
   | exn y=>exact(ZcN e2).elim
   | bad=>rw[e2] at p3;exact p3.elim
  | _=>exact p2.elim
 | _=>exact p2.elim
end
end Ov
end
section
namespace Ov
open PySem PySem.Spec PyProof.Rows L2
section
variable {X:Cx} {CL:ClA} {W:XW} {e o o' k l:Expr} {fe:Rho->R Ov.D} {i ik il:Nat} {pos spos spos' tpos:Pos} {kt:Nat}
theorem Zhj{ρ:Rho}{k:Nat}{j:Int}(h:ZdC ρ k=.ok j):ρ[k]?=some (some (.int j,false)):=by
 unfold ZdC ZeK at h
 split at h
 ·rename_i d hd
  cases d<;>first|(cases h;exact hd)|cases h
 ·cases h
theorem ZfI{ρ:Rho}{k:Nat}{z:Ex}(h:ZdC ρ k=.exn z):False:=by
 unfold ZdC ZeK at h
 split at h
 ·rename_i d hd
  cases d<;>cases h
 ·cases h
theorem ZpR(hc:X.calm=true)(ho:PE X o (ZhK i))(ho':PE X o' (ZhK i))(hk:PE X k (ZhK ik))(hl:PE X l (ZhK il))(he:SE X CL W e fe) (ha:∀ v,assign (.Subscript o k spos) X.env v=(do
      let ov <- holding [v] (eval o X.env)
      let iv <- holding [v,ov] (eval k X.env)
      standAt spos
      holding [v,ov,iv] (setItem ov iv v)
      release [v,ov,iv] [])) (ha':∀ v,assign (.Subscript o' l spos') X.env v=(do
      let ov <- holding [v] (eval o' X.env)
      let iv <- holding [v,ov] (eval l X.env)
      standAt spos'
      holding [v,ov,iv] (setItem ov iv v)
      release [v,ov,iv] [])) (hs:swapsWithSole [.Tuple [.Subscript o k spos,.Subscript o' l spos'] kt tpos] e pos.line X.env=pure false) (hw:swappedStores [.Tuple [.Subscript o k spos,.Subscript o' l spos'] kt tpos] e X.env=pure none) :
    SS X CL W (.Assign [.Tuple [.Subscript o k spos,.Subscript o' l spos'] kt tpos] e pos) (fun ρ=>O.of ρ (fe ρ) fun d=>Zta ρ d i ik il):=fun Fz B pins s σ H D I ⟨ρ,x,p⟩ =>
  ZiX (he (Za5 B ρ σ)) (Zg9 hc (Zdh (Zi3 ho hk ZeP ha) (Zdh (Zi3 ho' hl ZeP ha') Zgo))) hs hw rfl pins s σ H D I ⟨x.aok,ρ,x.good,Zah.ex x p fun d v H' _ s rv x' q'=>by
    cases d with
    | tup es =>
     cases es with
     | nil=>exact q'.elim
     | cons dx es =>
      cases es with
      | nil=>exact q'.elim
      | cons dy es =>
       cases es with
       | cons _ _=>exact q'.elim
       | nil =>
        have q':Zah X.K CL Fz B W (O.of ρ (ZcJ ρ i) fun xs=>O.of ρ (ZdC ρ ik) fun a=>O.of ρ (ZdC ρ il) fun b=>match plD xs.length a,plD xs.length b with
          | some m,some n=>.next (ρ.set i (some (.lst ((xs.set m dx).set n dy),true)))
          | _,_=>.bad) D:=q'
        obtain⟨t,vs,rfl,_,sq,r⟩:=rv
        cases vs with
        | nil=>exact r.elim
        | cons vx vs =>
         cases vs with
         | nil=>exact r.2.elim
         | cons vy vs =>
          cases vs with
          | cons _ _=>exact r.2.2.elim
          | nil =>
            obtain⟨rx,ry,_⟩:=r
            cases e1:ZcJ ρ i with
            | bad=>rw[e1] at q';exact q'.elim
            | exn z=>exact(Zdi e1).elim
            | ok ds =>
              rw[e1,O.of_ok] at q'
              have hi:=ZeT e1
              obtain⟨a,xs,ds',q,e2,ha,hh,rr⟩:=x'.good.ow i _ hi
              cases e2
              cases e3:ZdC ρ ik with
              | bad=>rw[e3] at q';exact q'.elim
              | exn z=>exact(ZfI e3).elim
              | ok j =>
                rw[e3,O.of_ok] at q'
                obtain⟨w1,qk,rk⟩:=x'.good.sh ik _ (Zhj e3)
                subst rk
                cases e4:ZdC ρ il with
                | bad=>rw[e4] at q';exact q'.elim
                | exn z=>exact(ZfI e4).elim
                | ok j' =>
                  rw[e4,O.of_ok] at q'
                  obtain⟨w2,ql,rl⟩:=x'.good.sh il _ (Zhj e4)
                  subst rl
                  cases e5:plD ds.length j with
                  | none=>rw[e5] at q';exact q'.elim
                  | some m =>
                    cases e6:plD ds.length j' with
                    | none=>rw[e5,e6] at q';exact q'.elim
                    | some n =>
                      rw[e5,e6] at q'
                      have lx:=rr.length
                      refine⟨t,[vx,vy],rfl,sq,rfl,vx,[vy],rfl,_,q,_,qk,a,xs,j,m,rfl,rfl,hh,by rw[lx];exact e5,vy,[],rfl,_,q,_,ql,a,xs.set m vx,j',n,rfl,rfl,Zaw,by rw[List.length_set,lx];exact e6,rfl,?_⟩
                      have uu:L2.upd (L2.upd H' a (.lst (xs.set m vx))) a (.lst ((xs.set m vx).set n vy))=L2.upd H' a (.lst ((xs.set m vx).set n vy)):=by
                        funext b
                        by_cases hb:b=a
                        · subst hb;rw[Zaw,Zaw]
                        · rw[Zai hb,Zai hb,Zai hb]
                      rw[uu]
                      exact q' _ _ (x'.upd hi q (Reps.set ry n (Reps.set rx m rr)))
    | _=>exact q'.elim⟩
end
end Ov
end
section
namespace Ov
open PySem PySem.Spec PyProof.Rows L2
section
variable {prog:Program} {w:World} {A:Around} {E:Vq} {s:Shared}
theorem ZfQ{it t:Addr}{items:Array Value}(hne:t≠it):∀ (n i:Nat) (s:Shared) (Q:List Value->Shared->Prop),s.heap.IsListIter it t i->s.heap.IsList t items->i+n<=items.size ->
  (∀ h',h'.IsListIter it t (i+n)->Heap.SameBut it s.heap h'->Q ((items.toList.drop i).take n) { s with heap:=h' })->wpAny (model prog w) A (draw (.ref it) n) Q E s
 | 0,i,s,Q,hit,_,_,hQ=>by
  show wpAny _ _ (pure []) Q E s
  exact wpAny_pure (by simpa using hQ s.heap hit (Heap.SameBut.refl ..))
 | n+1,i,s,Q,hit,ht,hle,hQ=>by
  have hlt:i<items.size:=by omega
  show wpAny _ _ (pyNext (.ref it) >>= _) Q E s
  refine wpAny_bind (wpAny_pyNext_list_item hit ht (x:=items[i]) (by simp[hlt]) fun h₁ hit₁ hs₁=>?_)
  refine wpAny_bind (wpAny_holding (ZfQ hne n (i+1) _ _ hit₁ (ht.extBut hs₁.extBut hne) (by omega) fun h₂ hit₂ hs₂=>wpAny_pure ?_))
  have hd:items.toList.drop i=items[i]::items.toList.drop (i+1):=by simp[List.drop_eq_getElem_cons,hlt]
  have:=hQ h₂ (by rw[show i+(n+1)=i+1+n by omega];exact hit₂) (hs₁.trans hs₂)
  rw[hd,List.take_succ_cons] at this
  exact this
theorem Zc7{t:Addr}{items:Array Value}{Q:List Value->Shared->Prop}(hh:A.handled=none)(ht:s.heap.IsList t items)
  (hQ:∀ h',Heap.ExtBut s.heap.objs.size s.heap h'->Q items.toList { s with heap:=h' }):wpAny (model prog w) A (unpackItems (.ref t) items.size none) Q E s:=by
 have hlt:t≠s.heap.objs.size:=by obtain⟨o,ho,_⟩:=ht;exact Nat.ne_of_lt (Heap.lt_size ho)
 have htp:(s.heap.push { cls:=.type "list_iterator", data:=.fields #[.ref t,.int 0 0] }).IsList t items:=by
  obtain⟨o,ho,r⟩:=ht
  exact⟨o,Heap.get?_push_of_some _ ho,r⟩
 unfold unpackItems
 refine wpAny_bind ?_
 ·unfold notIterableAtAll
  refine wpAny_bind (wpAny_specialOf ht.typeIs slot_list_iter.lookup ?_)
  refine wpAny_pure ?_
  simp only[Bool.false_eq_true,if_false]
  refine wpAny_bind (wpAny_holding (wpAny_pyIter_list ht ?_))
  refine wpAny_bind (wpAny_holding (ZfQ hlt items.size 0 _ _ ⟨_,Heap.get?_push_size _ rfl,rfl,rfl⟩ htp (by omega) fun h₁ hit₁ hs₁=>?_))
  have hall:List.take items.size (List.drop 0 items.toList)=items.toList:=by
   rw[List.drop_zero];exact List.take_of_length_le (by simp)
  rw[hall]
  rw[if_neg (by simp)]
  have ht₁:h₁.IsList t items:=htp.extBut hs₁.extBut hlt
  refine wpAny_bind (wpAny_holding (wpAny_pyNext_list_end hh hit₁ ht₁ (by simp) fun h₂ he₂=>?_))
  simp only[Option.isSome_none,Bool.false_eq_true,if_false]
  refine wpAny_pure (hQ h₂ fun b o hb e=>he₂ b o hb (hs₁.extBut b o hb (Heap.get?_push_of_some _ e)))
theorem Zc0{env:Env}{elts:List Expr}{x1}{pos:Pos}{t:Addr}{items:Array Value}{Q:Unit->Shared->Prop}(hh:A.handled=none)(ht:s.heap.IsList t items)
  (hn:(assignEach elts env).length=items.size) (hstar:(assignEach elts env).findIdx? (·.1)=none)
  (h:∀ h',Heap.ExtBut s.heap.objs.size s.heap h'->wpAny (model prog w) A (assignInOrder ((assignEach elts env).map (·.2)) items.toList) Q E { s with heap:=h' }) :
  wpAny (model prog w) A (assign (.Tuple elts x1 pos) env (.ref t)) Q E s:=by
 rw[assign_Tuple]
 refine wpAny_bind (wpAny_standAt ?_)
 unfold unpack
 rw[hn,hstar]
 exact wpAny_bind (wpAny_holding (Zc7 hh ht h))
end
section
variable {X:Cx} {pos:Pos} {CL:ClA}
def gSq(K:Fg)(n:Nat)(t:TGs):TG:=fun v σ H Q=>Zpp K n t v σ H Q\/∃ a xs,v=.ref a/\SqL K H a xs/\xs.length=n/\t xs σ H Q
theorem Zv3{es:List Expr}{k:Nat}{t:TGs}{n:Nat}(hc:X.calm=true)(h:PGs X es t)
  (hn:(assignEach es X.env).length=n) (hst:(assignEach es X.env).findIdx? (·.1)=none):PG X (.Tuple es k pos) (gSq X.K n t):=by
 intro pins s σ H v u Q I r hw
 rcases hw with hw|hw
 ·exact Zg9 hc h hn hst pins s σ H v u Q I r hw
 ·obtain⟨a,xs,e1,hq,hl,hw⟩:=hw
  subst e1
  cases r
  obtain⟨its,rv,ht,hz⟩:=I.list hq
  refine Zc0 (I.ok.hd hc) ht.isList (by simp[hn,<- hl,rv.length]) hst fun h' hx=>?_
  have I1:Inv X pins σ H { s with heap:=h' }:=I.kept (t':=s.toks) fun b o e=>hx b o (Nat.ne_of_lt (Heap.lt_size e)) e
  exact h pins _ σ H xs _ Q I1 (by simpa using rv) hw
theorem ZwK{K:Fg}(ts:List Nat):GT K CL (Zf5 ts) (gSq K ts.length (ts.foldr (fun t u=>ZdF (ZbP t) u) Zjz)):=fun Fz B ρ σ H v d ρ' Q x r e k=>by
 cases d with
 | lst ds =>
  obtain⟨a,xs,rfl,na,sq,rs⟩:=r
  rw[Zj2] at e
  cases e2:ZaO ts ds ρ with
  | none=>rw[e2] at e;cases e
  | some ρ2 =>
   rw[e2] at e
   cases e
   exact .inr ⟨a,xs,rfl,sq,by rw[rs.length];exact Zb2 _ _ _ _ e2,Zjx ts ds xs ρ _ σ Q x rs e2 k⟩
 | _=>exact .inl (Zmg ts Fz B ρ σ H v _ ρ' Q x r e k)
end
end Ov
end
section
namespace Ov
open PySem PySem.Spec PyProof.Rows L2
section
variable {X:Cx} {CL:ClA} {W:XW}
end
end Ov
end
section
namespace Ov
open PySem PySem.W PyProof.Rows
def Kr{α:Type}(lt:Nat->Nat->Bool)(n:Nat):KasT α->(α->Prop)->Prop
 | .ret a,Q=>Q a
 | .ask i j k,Q=>i<n/\j<n/\Kr lt n (k (lt i j)) Q
theorem Kr.mono{α:Type}{lt:Nat->Nat->Bool}{n:Nat}{Q Q':α->Prop}:∀ {t:KasT α},Kr lt n t Q->(∀ a,Q a->Q' a)->Kr lt n t Q'
 | .ret _,h,k=>k _ h
 | .ask i j f,h,k=>⟨h.1,h.2.1,Kr.mono (t:=f (lt i j)) h.2.2 k⟩
theorem Kr.bind{α β:Type}{lt:Nat->Nat->Bool}{n:Nat}{f:α->KasT β}{Q:β->Prop}:∀ {t:KasT α},Kr lt n t (fun a=>Kr lt n (f a) Q)->Kr lt n (t.bind f) Q
 | .ret _,h=>h
 | .ask i j k,h=>⟨h.1,h.2.1,Kr.bind (t:=k (lt i j)) h.2.2⟩
theorem Kr.wp{α:Type}{lt:Nat->Nat->Bool}{n:Nat}{cmp:Nat->Nat->(Bool->Shared->Prop)->Shared->Prop}{s:Shared}(hc:∀ i j C,i<n->j<n->C (lt i j) s->cmp i j C s){Q:α->Prop}{Q':α->Shared->Prop}:∀ {t:KasT α},Kr lt n t Q->(∀ a,Q a->Q' a s)->t.kasWp cmp Q' s
 | .ret _,h,k=>k _ h
 | .ask i j f,h,k=>hc i j _ h.1 h.2.1 (Kr.wp hc (t:=f (lt i j)) h.2.2 k)
structure Sto (lt:Nat->Nat->Bool) (n:Nat):Prop where
 tr:∀ i j k,i<n->j<n->k<n->lt i j=true->lt j k=true->lt i k=true
 tot:∀ i j,i<n->j<n->i≠j->lt i j=false->lt j i=true
 asy:∀ i j,i<n->j<n->lt i j=true->lt j i=false
noncomputable def at0(p:Array Nat)(x:Nat):Nat:=p.getD x 0
structure Pm (n:Nat) (p:Array Nat):Prop where
 sz:p.size=n
 lt:∀ x,x<n->at0 p x<n
 inj:∀ x y,x<n->y<n->at0 p x=at0 p y->x=y
section
variable {lt:Nat->Nat->Bool} {n:Nat}
def Zdn(lt:Nat->Nat->Bool)(p:Array Nat)(m:Nat):Prop:=∀ x y,x<y->y<m->lt (at0 p x) (at0 p y)=true
def ZmC(lt:Nat->Nat->Bool)(p:Array Nat)(m:Nat):Prop:=∀ x y,x<y->y<m->lt (at0 p y) (at0 p x)=true
theorem Zdn.succ{p:Array Nat}{m:Nat}(S:Sto lt n)(hp:Pm n p)(h1:1<=m)(hm:m<n)(h:Zdn lt p m)(e:lt (at0 p (m-1)) (at0 p m)=true):Zdn lt p (m+1):=fun x y hxy hy=>by
 by_cases hym:y<m
 ·exact h x y hxy hym
 ·have:y=m:=by omega
  subst this
  by_cases hx:x=y-1
  ·rw[hx];exact e
  ·exact S.tr _ _ _ (hp.lt _ (by omega)) (hp.lt _ (by omega)) (hp.lt _ hm) (h x (y-1) (by omega) (by omega)) e
theorem ZmC.succ{p:Array Nat}{m:Nat}(S:Sto lt n)(hp:Pm n p)(h1:1<=m)(hm:m<n)(h:ZmC lt p m)(e:lt (at0 p m) (at0 p (m-1))=true):ZmC lt p (m+1):=fun x y hxy hy=>by
 by_cases hym:y<m
 ·exact h x y hxy hym
 ·have:y=m:=by omega
  subst this
  by_cases hx:x=y-1
  ·rw[hx];exact e
  ·exact S.tr _ _ _ (hp.lt _ hm) (hp.lt _ (by omega)) (hp.lt _ (by omega)) e (h x (y-1) (by omega) (by omega))
theorem Zk6(S:Sto lt n){p:Array Nat}(hp:Pm n p):∀ (f m:Nat) {Q:Nat->Prop},1<=m->m+f<=n->Zdn lt p m->(∀ m',m<=m'->m'<=m+f->Zdn lt p m'->(m'=m+f\/lt (at0 p m') (at0 p (m'-1))=true)->Q m')->Kr lt n (kas_asc p f m) Q
 | 0,m,Q,h1,hf,hs,k=>k m (Nat.le_refl _) (by omega) hs (.inl (by omega))
 | f+1,m,Q,h1,hf,hs,k=>by
  refine⟨hp.lt _ (by omega),hp.lt _ (by omega),?_⟩
  cases e:lt (p.getD m 0) (p.getD (m-1) 0) with
  | true =>
   dsimp only
   rw[if_pos rfl]
   exact k m (Nat.le_refl _) (by omega) hs (.inr e)
  | false =>
   dsimp only
   rw[if_neg Bool.false_ne_true]
   have ne:at0 p m≠at0 p (m-1):=fun z=>by have:=hp.inj _ _ (by omega) (by omega) z;omega
   have hs':=hs.succ S hp h1 (by omega) (S.tot _ _ (hp.lt _ (by omega)) (hp.lt _ (by omega)) ne e)
   exact Zk6 S hp f (m+1) (by omega) (by omega) hs' fun m' a b c d=>k m' (by omega) (by omega) c (d.imp (fun z=>by omega) id)
theorem Zmb(S:Sto lt n){p:Array Nat}(hp:Pm n p):∀ (f m:Nat) {Q:Array Nat×Nat×Nat->Prop},1<=m->m+f<=n->ZmC lt p m->(∀ m',m<=m'->m'<=m+f->ZmC lt p m'->Q (p,m',0))->Kr lt n (kas_desc f p m 0) Q
 | 0,m,Q,h1,hf,hs,k=>k m (Nat.le_refl _) (by omega) hs
 | f+1,m,Q,h1,hf,hs,k=>by
  refine⟨hp.lt _ (by omega),hp.lt _ (by omega),?_⟩
  cases e:lt (p.getD m 0) (p.getD (m-1) 0) with
  | true =>
   dsimp only
   rw[if_pos rfl,if_neg (by omega)]
   exact Zmb S hp f (m+1) (by omega) (by omega) (hs.succ S hp h1 (by omega) e) fun m' a b c=>k m' (by omega) (by omega) c
  | false =>
   dsimp only
   rw[if_neg Bool.false_ne_true]
   have ne:at0 p m≠at0 p (m-1):=fun z=>by have:=hp.inj _ _ (by omega) (by omega) z;omega
   refine⟨hp.lt _ (by omega),hp.lt _ (by omega),?_⟩
   have e2:lt (p.getD (m-1) 0) (p.getD m 0)=true:=S.tot _ _ (hp.lt _ (by omega)) (hp.lt _ (by omega)) ne e
   rw[e2]
   dsimp only
   rw[if_pos rfl]
   exact k m (Nat.le_refl _) (by omega) hs
theorem ZdE{p:Array Nat}{q:Array Nat}{x y:Nat}(h:p[x]?=q[y]?):p.getD x 0=q.getD y 0:=by
 rw[Array.getD_eq_getD_getElem?,Array.getD_eq_getD_getElem?,h]
theorem ZiR{p:Array Nat}{m:Nat}(hm:m<=p.size)(x:Nat):at0 (kas_rev p 0 m) x=if x<m then at0 p (m-1-x) else at0 p x:=by
 have e:=getElem?_mirror_all (xs:=p) (i:=0) (j:=m) hm x
 by_cases h:x<m
 ·rw[if_pos h]
  rw[if_pos (by omega)] at e
  rw[show 0+m-1-x=m-1-x by omega] at e
  exact ZdE e
 ·rw[if_neg h]
  rw[if_neg (by omega)] at e
  exact ZdE e
theorem ZvN{m x y:Nat}(h:(if x<m then m-1-x else x)=(if y<m then m-1-y else y)):x=y:=by
 split at h<;>split at h<;>omega
theorem ZlU{p:Array Nat}(hp:Pm n p){m:Nat}(hm:m<=n):Pm n (kas_rev p 0 m):=by
 have hs:m<=p.size:=by rw[hp.sz];exact hm
 have at_:∀ x,at0 (kas_rev p 0 m) x=at0 p (if x<m then m-1-x else x):=fun x=>by
  rw[ZiR hs]
  split<;>rfl
 have lt_:∀ x,x<n->(if x<m then m-1-x else x)<n:=fun x hx=>by
  split
  ·rename_i h;exact Nat.lt_of_le_of_lt (Nat.sub_le _ _) (Nat.lt_of_lt_of_le (Nat.sub_lt (Nat.lt_of_le_of_lt (Nat.zero_le _) h) Nat.one_pos) hm)
  ·exact hx
 refine⟨(mirror_size _ _ _ _).trans hp.sz,fun x hx=>?_,fun x y hx hy e=>?_⟩
 ·rw[at_];exact hp.lt _ (lt_ x hx)
 ·rw[at_,at_] at e
  exact ZvN (hp.inj _ _ (lt_ x hx) (lt_ y hy) e)
theorem Zqs{p:Array Nat}(hp:Pm n p){m:Nat}(hm:m<=n)(h:ZmC lt p m):Zdn lt (kas_rev p 0 m) m:=fun x y hxy hy=>by
 have hs:m<=p.size:=by rw[hp.sz];exact hm
 rw[ZiR hs,ZiR hs,if_pos (by omega),if_pos hy]
 exact h _ _ (by omega) (by omega)
theorem Zob(S:Sto lt n){p:Array Nat}(hp:Pm n p){m:Nat}(h1:1<=m)(hm:m<=n)(h:ZmC lt p m){Q:Nat×Array Nat->Prop}(k:∀ m' q,m<=m'->m'<=n->Pm n q->Zdn lt q m'->Q (m',q)):Kr lt n (kas_tail3 m n p) Q:=by
 refine Kr.bind (Zk6 S (ZlU hp hm) (n-m) m h1 (by omega) (Zqs hp hm h) fun m' a b c _=>?_)
 exact k m' _ a (by omega) (ZlU hp hm) c
theorem Zoc(S:Sto lt n){p:Array Nat}(hp:Pm n p)(h2:2<=n){Q:Nat×Array Nat->Prop}(k:∀ m' q,1<=m'->m'<=n->Pm n q->Zdn lt q m'->Q (m',q)):Kr lt n (kas_count n p) Q:=by
 refine Kr.bind (Zk6 S hp (n-1) 1 (Nat.le_refl _) (Nat.le_of_eq (Nat.add_sub_cancel' (Nat.le_trans (by decide) h2))) (fun x y a b=>absurd (Nat.lt_of_le_of_lt (Nat.zero_le x) a) (Nat.not_lt.mpr (Nat.le_of_lt_succ b))) fun m a b c d=>?_)
 have b':m<=n:=Nat.le_trans b (Nat.le_of_eq (Nat.add_sub_cancel' (Nat.le_trans (by decide) h2)))
 by_cases e:m=n
 ·rw[if_pos (by simp[e])]
  exact k m p a b' hp c
 ·rw[if_neg (by simp[e])]
  by_cases g:m > 1
  ·rw[if_pos g]
   have m1:m-1<m:=Nat.sub_lt a Nat.one_pos
   refine⟨hp.lt _ (Nat.lt_of_lt_of_le a b'),hp.lt _ (Nat.lt_of_lt_of_le m1 b'),?_⟩
   have c0:lt (p.getD 0 0) (p.getD (m-1) 0)=true:=c 0 (m-1) (Nat.sub_pos_of_lt g) m1
   rw[c0]
   dsimp only
   rw[if_pos rfl]
   exact k m p a b' hp c
  ·rw[if_neg g]
   have m1:m=1:=Nat.le_antisymm (Nat.le_of_not_lt g) a
   subst m1
   have e1:lt (at0 p 1) (at0 p 0)=true:=by
    rcases d with d|d
    ·omega
    ·exact d
   have d2:ZmC lt p 2:=fun x y hxy hy=>by
    have:x=0/\y=1:=by omega
    obtain⟨rfl,rfl⟩:=this
    exact e1
   refine Kr.bind (Zmb S hp (n-(1+1)) (1+1) (by omega) (by omega) d2 fun m' a' b' c'=>?_)
   show Kr lt n (if (0:Nat) > 0 then _ else kas_tail3 m' n p) Q
   rw[if_neg (by omega)]
   exact Zob S hp (by omega) (by omega) c' fun m'' q x1 x2 x3 x4=>k m'' q (by omega) x2 x3 x4
theorem Zrq{l r:Nat}(h:l<r):∃ m,(l+r) / 2=m/\l<=m/\m<r:=⟨_,rfl,by omega,by omega⟩
theorem Zgv(S:Sto lt n){p:Array Nat}(hp:Pm n p){k:Nat}(hk:k<n)(hs:Zdn lt p k):∀ (f l r:Nat) {Q:Nat->Prop},l<=r->r<=k->r-l<=f->(∀ x,x<l->lt (at0 p x) (at0 p k)=true)->(∀ x,r<=x->x<k->lt (at0 p k) (at0 p x)=true) ->
  (∀ l',l'<=k->(∀ x,x<l'->lt (at0 p x) (at0 p k)=true)->(∀ x,l'<=x->x<k->lt (at0 p k) (at0 p x)=true)->Q l')->Kr lt n (kas_place p k f l r) Q
 | 0,l,r,Q,h1,h2,h3,ha,hb,q=>q l (Nat.le_trans h1 h2) ha fun x hx=>hb x (Nat.le_trans (Nat.le_of_sub_eq_zero (Nat.le_zero.mp h3)) hx)
 | f+1,l,r,Q,h1,h2,h3,ha,hb,q=>by
  unfold kas_place
  by_cases g:l ≥ r
  ·rw[if_pos g]
   exact q l (Nat.le_trans h1 h2) ha fun x hx=>hb x (Nat.le_trans g hx)
  ·rw[if_neg g]
   obtain⟨m,em,m1,m2⟩:=Zrq (Nat.lt_of_not_le g)
   rw[em]
   have hm:m<k:=Nat.lt_of_lt_of_le m2 h2
   have hmn:m<n:=Nat.lt_trans hm hk
   refine⟨hp.lt _ hk,hp.lt _ hmn,?_⟩
   cases e:lt (p.getD k 0) (p.getD m 0) with
   | true =>
    dsimp only
    rw[if_pos rfl]
    refine Zgv S hp hk hs f l m m1 (Nat.le_of_lt hm) (Nat.le_of_lt_succ (Nat.lt_of_lt_of_le (Nat.sub_lt_sub_right m1 m2) h3)) ha (fun x hx hxk=>?_) q
    by_cases hxm:x=m
    ·rw[hxm];exact e
    ·exact S.tr _ _ _ (hp.lt _ hk) (hp.lt _ hmn) (hp.lt _ (Nat.lt_trans hxk hk)) e (hs _ x (Nat.lt_of_le_of_ne hx (Ne.symm hxm)) hxk)
   | false =>
    dsimp only
    rw[if_neg Bool.false_ne_true]
    have ne:at0 p k≠at0 p m:=fun z=>absurd (hp.inj _ _ hk hmn z) (Nat.ne_of_gt hm)
    have e2:=S.tot _ _ (hp.lt _ hk) (hp.lt _ hmn) ne e
    refine Zgv S hp hk hs f (m+1) r m2 h2 (Nat.le_of_lt_succ (Nat.lt_of_lt_of_le (Nat.sub_lt_sub_left (Nat.lt_of_le_of_lt m1 m2) (Nat.lt_succ_of_le m1)) h3)) (fun x hx=>?_) hb q
    by_cases hxm:x=m
    ·rw[hxm];exact e2
    ·have hx':x<m:=Nat.lt_of_le_of_ne (Nat.le_of_lt_succ hx) hxm
     exact S.tr _ _ _ (hp.lt _ (Nat.lt_trans hx' hmn)) (hp.lt _ hmn) (hp.lt _ hk) (hs x _ hx' hm) e2
theorem ZjW{p:Array Nat}{k l:Nat}(hk:k<p.size)(hl:l<=k)(x:Nat):at0 (bubble p k (k-l)) x=if x=l then at0 p k else if l<x/\x<=k then at0 p (x-1) else at0 p x:=by
 have e:=getElem?_bubble hk (k-l) (by omega) x
 rw[show k-(k-l)=l by omega] at e
 split
 ·rename_i h
  rw[if_pos h] at e
  exact ZdE e
 ·rename_i h
  rw[if_neg h] at e
  split
  ·rename_i g
   rw[if_pos g] at e
   exact ZdE e
  ·rename_i g
   rw[if_neg g] at e
   exact ZdE e
noncomputable def Zo1(k l x:Nat):Nat:=if x=l then k else if l<x/\x<=k then x-1 else x
theorem Zls{k l x y:Nat}(hl:l<=k)(h:Zo1 k l x=Zo1 k l y):x=y:=by
 unfold Zo1 at h
 split at h<;>split at h<;>first|omega|(split at h<;>first|omega|(split at h<;>omega))
theorem ZgE{n k l x:Nat}(hk:k<n)(hx:x<n):Zo1 k l x<n:=by
 unfold Zo1
 split
 ·exact hk
 ·split
  ·exact Nat.lt_of_le_of_lt (Nat.sub_le _ _) hx
  ·exact hx
theorem Zsw{p:Array Nat}(hp:Pm n p){k l:Nat}(hk:k<n)(hl:l<=k):Pm n (bubble p k (k-l)):=by
 have hs:k<p.size:=by rw[hp.sz];exact hk
 have at_:∀ x,at0 (bubble p k (k-l)) x=at0 p (Zo1 k l x):=fun x=>by
  rw[ZjW hs hl]
  unfold Zo1
  split
  ·rfl
  ·split<;>rfl
 refine⟨(bubble_size _ _ _).trans hp.sz,fun x hx=>?_,fun x y hx hy e=>?_⟩
 ·rw[at_];exact hp.lt _ (ZgE hk hx)
 ·rw[at_,at_] at e
  exact Zls hl (hp.inj _ _ (ZgE hk hx) (ZgE hk hy) e)
theorem ZrD(S:Sto lt n):∀ (f:Nat) {p:Array Nat} {k:Nat} {Q:Array Nat->Prop},Pm n p->k+f=n->Zdn lt p k->(∀ q,Pm n q->Zdn lt q n->Q q)->Kr lt n (kas_bin f p k) Q
 | 0,p,k,Q,hp,hk,hs,q=>by
  have:k=n:=by omega
  subst this
  exact q p hp hs
 | f+1,p,k,Q,hp,hk,hs,q=>by
  have hkn:k<n:=by omega
  have hsz:k<p.size:=by rw[hp.sz];exact hkn
  refine Kr.bind (Zgv S hp hkn hs k 0 k (Nat.zero_le _) (Nat.le_refl _) (Nat.sub_le _ _) (fun x hx=>absurd hx (Nat.not_lt_zero _)) (fun x a b=>absurd b (Nat.not_lt.mpr a)) fun l hl ha hb=>?_)
  refine ZrD S f (Zsw hp hkn hl) (by omega) (fun x y hxy hy=>?_) q
  have y2:y<=k:=Nat.le_of_lt_succ hy
  have py:y-1<k:=Nat.lt_of_lt_of_le (Nat.sub_lt (Nat.lt_of_le_of_lt (Nat.zero_le _) hxy) Nat.one_pos) y2
  rw[ZjW hsz hl,ZjW hsz hl]
  by_cases x1:x=l
  ·have ly:l<y:=x1 ▸ hxy
   rw[if_pos x1,if_neg (Nat.ne_of_gt ly),if_pos ⟨ly,y2⟩]
   exact hb _ (Nat.le_pred_of_lt ly) py
  ·rw[if_neg x1]
   by_cases x2:l<x/\x<=k
   ·have ly:l<y:=Nat.lt_trans x2.1 hxy
    rw[if_pos x2,if_neg (Nat.ne_of_gt ly),if_pos ⟨ly,y2⟩]
    exact hs _ _ (Nat.sub_lt_sub_right (Nat.lt_of_le_of_lt (Nat.zero_le _) x2.1) hxy) py
   ·rw[if_neg x2]
    have xl:x<l:=Nat.lt_of_le_of_ne (Nat.le_of_not_lt fun z=>x2 ⟨z,Nat.le_of_lt (Nat.lt_of_lt_of_le hxy y2)⟩) x1
    by_cases y1:y=l
    ·rw[if_pos y1]
     exact ha _ xl
    ·rw[if_neg y1]
     by_cases y3:l<y/\y<=k
     ·rw[if_pos y3]
      exact hs _ _ (Nat.lt_of_lt_of_le xl (Nat.le_pred_of_lt y3.1)) py
     ·rw[if_neg y3]
      exact hs _ _ hxy (Nat.lt_of_lt_of_le (Nat.lt_of_le_of_ne (Nat.le_of_not_lt fun z=>y3 ⟨z,y2⟩) y1) hl)
theorem Zb3(n:Nat):Pm n (List.toArray (List.range n)):=by
 have e:∀ x,x<n->at0 (List.toArray (List.range n)) x=x:=fun x hx=>by simp[at0,Array.getD,hx]
 exact⟨by simp,fun x hx=>by rw[e x hx];exact hx,fun x y hx hy h=>by rw[e x hx,e y hy] at h;exact h⟩
theorem ZrC(S:Sto lt n)(h2:2<=n):Kr lt n (kas_sort n) (fun q=>Pm n q/\Zdn lt q n):=by
 refine Kr.bind (Zoc S (Zb3 n) h2 fun m q h1 hm hq hs=>?_)
 by_cases h:m<n
 ·rw[if_pos h]
  have mx:max m 1=m:=by omega
  rw[mx]
  exact ZrD S (n-m) hq (by omega) hs fun q a b=>⟨a,b⟩
 ·rw[if_neg h]
  have:m=n:=by omega
  subst this
  exact⟨hq,hs⟩
end
theorem Zl0:∀ (f n r:Nat),r<=1->minRun' f n r<=n+r
 | 0,n,r,_=>Nat.le_refl _
 | f+1,n,r,h=>by
  rw[minRun'_succ]
  split
  ·exact Nat.le_refl _
  ·have:=Zl0 f (n / 2) (max r (n%2)) (by omega)
   omega
section
variable {prog:Program} {w:World} {A:Around} {E:Vq} {κ:SortKind} {it:Array Keyed}
theorem ZkR{n:Nat}{Q:Unit->SortSt->Shared->Prop}{G:Array Nat->Shared->Prop}{s:Shared}(h2:2<=n)
  (hG:∀ p' st' s',p'.size=n->arrOf st'=p'.map (kas_item it)->failedOf st'=none->G p' s'->Q () st' s') (h:(kas_count n (List.toArray (List.range n))).kasWp (kas_cmp prog w A κ it) (fun r s'=>r.1=n/\G r.2 s') s) :
  kasC (model prog w) A E sortRuns' Q (kas_st κ it (List.toArray (List.range n))) s:=by
 obtain⟨r,rfl⟩:∃ r,n=r+2:=⟨n-2,by omega⟩
 have hrs:(List.toArray (List.range (r+2))).size=r+2:=by simp
 rw[sortRuns'_eq]
 refine kasC_bind (kasC_get ?_)
 dsimp only
 have hsz:(arrOf (kas_st κ it (List.toArray (List.range (r+2))))).size=r+2:=by
  show ((List.toArray (List.range (r+2))).map (kas_item it)).size=_
  rw[Array.size_map,hrs]
 have hmr:=Zl0 (r+2) (r+2) 0 (by omega)
 simp only[hsz]
 generalize minRun' (r+2) (r+2) 0=mr at *
 refine kasC_bind (kasC_range ?_)
 show kasC _ _ _ (forIn (0::1::List.range' 2 r) _ _) _ _ _
 refine kasC_cons ?_
 dsimp only
 rw[if_neg (by omega)]
 simp only[Nat.sub_zero,Nat.zero_add]
 refine kasC_bind (kas_count_ (by omega) (by rw[hrs];exact Nat.le_refl _) (fun m p' s' hm1 hm2 hp hg=>?_) h)
 have hps:p'.size=r+2:=hp.trans hrs
 dsimp only
 obtain⟨hm,hg'⟩:=hg
 replace hm:m=r+2:=hm
 subst hm
 rw[if_neg (by omega)]
 refine kasC_bind (kasC_get ?_)
 rw[show (pendingOf (kas_st κ it p')).back?=none from rfl]
 dsimp only
 refine kasC_bind (kasC_modify (kasC_pure ?_))
 show kasC _ _ _ (forIn (1::List.range' 2 r) _ _) _ _ _
 refine kasC_cons ?_
 dsimp only
 rw[if_pos (Nat.le_refl _)]
 refine kasC_pure ?_
 dsimp only
 refine kasC_bind (kasC_range ?_)
 show kasC _ _ _ (forIn (0::1::List.range' 2 r) _ _) _ _ _
 refine kasC_cons ?_
 refine kasC_bind (kasC_get ?_)
 rw[if_pos (show (pendingOf (setPending (kas_st κ it p') ((pendingOf (kas_st κ it p')).push (0,r+2,0)))).size<=1 from Nat.le_refl 1)]
 refine kasC_pure ?_
 dsimp only
 exact kasC_pure (hG p' _ _ hps rfl rfl hg')
theorem Znf{s:Shared}{ks vs:List Value}{Q:SortSt->Shared->Prop}{G:Array Nat->Shared->Prop}(hl:ks.length=vs.length)(h2:2<=vs.length)
  (hG:∀ p st' s',p.size=vs.length->arrOf st'=p.map (kas_item (ks.toArray.zip vs.toArray))->failedOf st'=none->G p s'->Q st' s') (h:(kas_count vs.length (List.toArray (List.range vs.length))).kasWp (kas_ask prog w A κ ks) (fun r s'=>r.1=vs.length/\G r.2 s') s) :
  wpAny (model prog w) A ((sortRuns').run (SortSt.mk' κ (ks.toArray.zip vs.toArray) #[] 7 none)) (fun r s'=>Q r.2 s') E s:=by
 rw[kat_ask_eq hl] at h
 have run:=ZkR (E:=E) (Q:=fun _ st' s'=>Q st' s') h2 hG h
 have est:SortSt.mk' κ (ks.toArray.zip vs.toArray) #[] 7 none=kas_st κ (ks.toArray.zip vs.toArray) (List.toArray (List.range vs.length)):=by
  have e:=kas_range (ks.toArray.zip vs.toArray)
  rw[show (ks.toArray.zip vs.toArray).size=vs.length by simp[hl]] at e
  show SortSt.mk' κ (ks.toArray.zip vs.toArray) #[] 7 none=SortSt.mk' κ ((List.toArray (List.range vs.length)).map (kas_item (ks.toArray.zip vs.toArray))) #[] 7 none
  rw[e]
 rw[est]
 exact run
end
section
variable {lt:Nat->Nat->Bool} {n:Nat}
theorem Zgw(S:Sto lt n)(h2:2<=n)(hs:Zdn lt (List.toArray (List.range n)) n):Kr lt n (kas_count n (List.toArray (List.range n))) (fun r=>r.1=n/\Pm n r.2/\Zdn lt r.2 n):=by
 refine Kr.bind (Zk6 S (Zb3 n) (n-1) 1 (Nat.le_refl _) (by omega) (fun x y a b=>by omega) fun m a b c d=>?_)
 have e:m=n:=by
  rcases d with d|d
  ·omega
  ·refine Classical.byContradiction fun ne=>?_
   have q:=hs (m-1) m (by omega) (by omega)
   have:=S.asy _ _ ((Zb3 n).lt _ (by omega)) ((Zb3 n).lt _ (by omega)) q
   rw[this] at d
   cases d
 rw[if_pos (by simp[e])]
 subst e
 exact⟨rfl,Zb3 _,hs⟩
end
end Ov
end
section
namespace Ov
open PySem PySem.W PyProof.Rows
def Zbs(h:Heap)(v:Value)(r:List Int):Prop:=∃ a its,v=.ref a/\IsTup h a its/\IntsAre its.toList r/\r≠[]
theorem Zbs.kept{h h':Heap}{v:Value}{r:List Int}(t:Zbs h v r)(k:∀ b o,h.get? b=some o->h'.get? b=some o):Zbs h' v r:=by
 obtain⟨a,its,e,⟨o,ho,q⟩,i,n⟩:=t
 exact⟨a,its,e,⟨o,k _ _ ho,q⟩,i,n⟩
noncomputable def Zbk:List Int->List Int->Bool
 | [],[]=>false
 | [],_::_=>true
 | _::_,[]=>false
 | x::xs,y::ys=>if x=y then Zbk xs ys else decide (x<y)
section
variable {prog:Program} {w:World} {A:Around} {E:Vq} {s:Shared}
theorem Zl6{C:Bool->Shared->Prop}:∀ {vs us:List Value} {r q:List Int} (i:Nat),IntsAre vs r->IntsAre us q->C (Zbk r q) s->KatLex prog w A true (decide (vs.length<us.length)) C (vs.zip us) i s
 | [],[],[],[],i,_,_,h=>by
  have h':C false s:=h
  exact kat_nil h'
 | [],u::us,[],y::q,i,_,_,h=>by
  have h':C true s:=h
  refine kat_nil ?_
  have e:decide (([]:List Value).length<(u::us).length)=true:=by simp
  rw[e];exact h'
 | v::vs,[],x::r,[],i,_,_,h=>by
  have h':C false s:=h
  exact kat_nil h'
 | v::vs,u::us,x::r,y::q,i,hv,hu,h=>by
  cases hv with
  | cons _ tv hv =>
   cases hu with
   | cons _ tu hu =>
    have e0:decide ((Value.int x tv::vs).length<(Value.int y tu::us).length)=decide (vs.length<us.length):=by simp
    rw[e0]
    refine kat_cons (wpAny_eqBool_int ?_)
    by_cases e:x=y
    ·have e1:(x == y)=true:=by simp[e]
     rw[e1]
     refine kat_yes (Zl6 (i+1) hv hu ?_)
     have h':C (if x=y then Zbk r q else decide (x<y)) s:=h
     rw[if_pos e] at h'
     exact h'
    ·have e1:(x == y)=false:=by simp[e]
     rw[e1]
     have h':C (decide (x<y)) s:=by
      have h':C (if x=y then Zbk r q else decide (x<y)) s:=h
      rwa [if_neg e] at h'
     refine kat_no ?_
     cases i with
     | zero=>exact oneLt_int h'
     | succ i =>
      have e2:(true&&(i+1 == 0))=false:=rfl
      rw[e2]
      exact kat_one _ _ (wpAny_lt_int h')
 | [],_,_::_,_,_,hv,_,_=>nomatch hv
 | _::_,_,[],_,_,hv,_,_=>nomatch hv
 | _,[],_,_::_,_,_,hu,_=>nomatch hu
 | _,_::_,_,[],_,_,hu,_=>nomatch hu
theorem ZpD{C:Bool->Shared->Prop}{v u:Value}{r q:List Int}(hv:Zbs s.heap v r)(hu:Zbs s.heap u q)(h:C (Zbk r q) s):wpAny (model prog w) A (keyLt' (tuples' true) v u) C E s:=by
 obtain⟨a,xs,rfl,⟨oa,ga,_,n,da⟩,ix,_⟩:=hv
 obtain⟨b,ys,rfl,⟨ob,gb,_,m,db⟩,iy,_⟩:=hu
 refine kat_lt ga da gb db ?_
 have:=Zl6 (prog:=prog) (w:=w) (A:=A) (s:=s) 0 ix iy h
 simpa using this
theorem Zdk:∀ {r q:List Int},Zbk r q=true->Zbk q r=false
 | [],[],h=>by cases h
 | [],_::_,_=>rfl
 | _::_,[],h=>by cases h
 | x::r,y::q,h=>by
  have h':(if x=y then Zbk r q else decide (x<y))=true:=h
  show (if y=x then Zbk q r else decide (y<x))=false
  by_cases e:x=y
  ·rw[if_pos e] at h'
   rw[if_pos e.symm]
   exact Zdk h'
  ·rw[if_neg e,decide_eq_true_eq] at h'
   rw[if_neg (Ne.symm e),decide_eq_false_iff_not]
   omega
theorem ZeY:∀ {r q:List Int},r≠q->Zbk r q=false->Zbk q r=true
 | [],[],n,_=>absurd rfl n
 | [],_::_,_,h=>by cases h
 | _::_,[],_,_=>rfl
 | x::r,y::q,n,h=>by
  have h':(if x=y then Zbk r q else decide (x<y))=false:=h
  show (if y=x then Zbk q r else decide (y<x))=true
  by_cases e:x=y
  ·rw[if_pos e] at h'
   rw[if_pos e.symm]
   exact ZeY (fun z=>n (by rw[e,z])) h'
  ·rw[if_neg e,decide_eq_false_iff_not] at h'
   rw[if_neg (Ne.symm e),decide_eq_true_eq]
   omega
theorem ZeX:∀ {r q t:List Int},Zbk r q=true->Zbk q t=true->Zbk r t=true
 | [],[],_,h,_=>by cases h
 | _::_,[],_,h,_=>by cases h
 | _,_::_,[],_,h=>by cases h
 | [],_::_,_::_,_,_=>rfl
 | x::r,y::q,u::t,h,g=>by
  have h':(if x=y then Zbk r q else decide (x<y))=true:=h
  have g':(if y=u then Zbk q t else decide (y<u))=true:=g
  show (if x=u then Zbk r t else decide (x<u))=true
  by_cases e:x=y
  ·rw[if_pos e] at h'
   by_cases f:y=u
   ·rw[if_pos f] at g'
    rw[if_pos (e.trans f)]
    exact ZeX h' g'
   ·rw[if_neg f,decide_eq_true_eq] at g'
    rw[if_neg (by omega),decide_eq_true_eq]
    omega
  ·rw[if_neg e,decide_eq_true_eq] at h'
   by_cases f:y=u
   ·rw[if_neg (by omega),decide_eq_true_eq]
    omega
   ·rw[if_neg f,decide_eq_true_eq] at g'
    rw[if_neg (by omega),decide_eq_true_eq]
    omega
noncomputable def ltR(rs:List (List Int))(i j:Nat):Bool:=Zbk (rs.getD i []) (rs.getD j [])
theorem ZkE{rs:List (List Int)}(nd:rs.Nodup):Sto (ltR rs) rs.length:=by
 refine⟨fun i j k _ _ _=>ZeX,fun i j hi hj ne h=>ZeY (fun e=>ne ?_) h,fun i j _ _=>Zdk⟩
 have h':=List.pairwise_iff_getElem.mp nd
 rw[List.getD_eq_getElem?_getD,List.getD_eq_getElem?_getD,List.getElem?_eq_getElem hi,List.getElem?_eq_getElem hj] at e
 have e':rs[i]=rs[j]:=e
 rcases Nat.lt_trichotomy i j with z|z|z
 ·exact absurd e' (h' i j hi hj z)
 ·exact z
 ·exact absurd e'.symm (h' j i hj hi z)
noncomputable abbrev ZlX(vs:List Value)(p:Array Nat):Array Value:=List.toArray (p.toList.map fun i=>vs.getD i Value.none)
theorem Zi7(vs:List Value):ZlX vs (List.toArray (List.range vs.length))=vs.toArray:=by
 apply Array.toList_inj.mp
 show (List.range vs.length).map (fun i=>vs.getD i Value.none)=vs
 apply List.ext_getElem
 ·simp
 ·intro i h1 h2
  simp[h2]
theorem ZfL{h:Heap}:∀ {vs:List Value} {rs:List (List Int)},rs.length=vs.length->(∀ (i:Nat) (v:Value) (r:List Int),vs[i]?=some v->rs[i]?=some r->Zbs h v r)->∃ fs,KatTups h vs fs/\fs.length=vs.length/\∀ v∈fs,∃ x t,v=Value.int x t
 | [],_,_,_=>⟨[],KatTups.nil,rfl,fun v hv=>by cases hv⟩
 | v::vs,[],hl,_=>by cases hl
 | v::vs,r::rs,hl,ht=>by
  obtain⟨fs,h1,h2,h3⟩:=ZfL (vs:=vs) (rs:=rs) (by simpa using hl) fun i v r a b=>ht (i+1) v r a b
  obtain⟨a,its,rfl,⟨o,ho,hc,n,hd⟩,hi,hne⟩:=ht 0 v r rfl rfl
  cases e:its.toList with
  | nil =>
   rw[e] at hi
   cases hi
   exact absurd rfl hne
  | cons f l =>
   rw[e] at hi
   cases hi with
   | cons x t hi =>
    refine⟨.int x t::fs,KatTups.cons ho hc hd ?_ h1,by simp[h2],fun v hv=>?_⟩
    ·rw[<- Array.getElem?_toList,e]
     rfl
    ·rcases List.mem_cons.mp hv with rfl|hv
     ·exact⟨x,t,rfl⟩
     ·exact h3 v hv
theorem ZeW{a:Addr}{vs:List Value}{rs:List (List Int)}{n:Nat}{P:PySem.Fin->Shared->Prop}(ho:s.heap.get? a=some (seqObj "list" vs.toArray n))(hr:rs.length=vs.length)
  (ht:∀ (i:Nat) (v:Value) (r:List Int),vs[i]?=some v->rs[i]?=some r->Zbs s.heap v r) (nd:rs.Nodup) (h64:vs.length<64\/(Zdn (ltR rs) (List.toArray (List.range vs.length)) vs.length/\vs.length<=1000))
  (h:∀ p:Array Nat,Pm vs.length p->Zdn (ltR rs) p vs.length->P (.done (.ret .none)) { s with heap:=sortedHeap s.heap a vs (ZlX vs p) }) :
  wpAny (model prog w) A (Builtin.«list.sort» ⟨[.ref a],[]⟩) P E s:=by
 have hz:vs.length<=1000:=h64.elim (fun h=>by omega) fun h=>h.2
 rw[list_sort_plain]
 have ha:a<s.heap.objs.size:=Heap.lt_size ho
 refine wpAny_bind (listItems_at ho rfl ?_ )
 refine wpAny_bind (listUpdate_at ho rfl ?_ (by rw[List.size_toArray,sizeLine_eq];omega) (Nat.zero_le _))
 obtain⟨e1,ho1⟩:∃ e1,(s.heap.update a (Obj.mapSeq fun _=>(#[]:Array Value))).get? a=some (seqObj "list" #[] e1):=⟨_,get?_update_seq ho (fun _=>#[])⟩
 refine wpAny_bind (seqEpoch_at ho1 rfl ?_)
 refine wpAny_bind (wpAny_newTuple ?_ (by show vs.length<=_;rw[sizeLine_eq];omega))
 refine wpAny_bind (wpAny_newList ?_ (Nat.zero_le _))
 refine wpAny_holding ?_
 have ho6:(((s.heap.update a (Obj.mapSeq fun _=>(#[]:Array Value))).push (seqObj "tuple" vs.toArray 0)).push (seqObj "list" #[] 0)).get? a=some (seqObj "list" #[] e1):=by
  rw[Heap.get?_push_ne _ _ _ (by rw[size_push',Heap.size_update];exact Nat.ne_of_lt (Nat.lt_succ_of_lt ha)),Heap.get?_push_ne _ _ _ (by rw[Heap.size_update];exact Nat.ne_of_lt ha)]
  exact ho1
 show wpAny (model prog w) A _ P E { s with heap:=((s.heap.update a (Obj.mapSeq fun _=>(#[]:Array Value))).push (seqObj "tuple" vs.toArray 0)).push (seqObj "list" #[] 0) }
 have kt:∀ (i:Nat) (v:Value) (r:List Int),vs[i]?=some v->rs[i]?=some r->Zbs (((s.heap.update a (Obj.mapSeq fun _=>(#[]:Array Value))).push (seqObj "tuple" vs.toArray 0)).push (seqObj "list" #[] 0)) v r:=fun i v r h1 h2=>by
  obtain⟨b,its,e,⟨o,hb,hc,q⟩,x,y⟩:=ht i v r h1 h2
  have ne:b≠a:=fun z=>by
   rw[z,ho] at hb
   cases hb
   have hc':Value.type "list" = Value.type "tuple" := hc
   injection hc' with hc'
   exact absurd hc' (by decide)
  refine⟨b,its,e,⟨o,?_,hc,q⟩,x,y⟩
  exact Heap.get?_push_of_some _ (Heap.get?_push_of_some _ ((Heap.get?_update_other _ _ (Ne.symm ne)).trans hb))
 dsimp only
 have hsz:vs.toArray.size=vs.length:=by simp
 have fin:∀ p:Array Nat,Pm vs.length p->Zdn (ltR rs) p vs.length->∀ st':SortSt,(arrOf st').map (·.2)=ZlX vs p->failedOf st'=none->∀ s':Shared,s'={ s with heap:=((s.heap.update a (Obj.mapSeq fun _=>(#[]:Array Value))).push (seqObj "tuple" vs.toArray 0)).push (seqObj "list" #[] 0) }->wpAny (model prog w) A (do
   let sorted:=(arrOf st').map (·.2)
   let touched:=(<- seqEpoch a) != e1
   Builtin.List.listUpdate (.ref a) fun _=>sorted
   if let some e:=failedOf st' then rule "list.sort.comparison-raised"; throw e
   if touched then rule "list.sort.modified"; raiseError "ValueError" "list modified during sort"
   ret .none) P E s':=fun p hp hs st' ho' hf s' es=>by
  subst es
  have osz:(ZlX vs p).size=vs.length:=by show (List.toArray (p.toList.map _)).size=_;rw[List.size_toArray,List.length_map,Array.length_toList,hp.sz]
  refine wpAny_bind (seqEpoch_at ho6 rfl ?_)
  rw[ho',hf]
  refine wpAny_bind (listUpdate_at ho6 rfl ?_ (Nat.zero_le _) (by rw[osz,sizeLine_eq];omega))
  simp only[bne_self_eq_false,Bool.false_eq_true,if_false]
  exact wpAny_pure (h p hp hs)
 by_cases h2:vs.toArray.size<2
 ·rw[if_pos h2,if_pos h2]
  refine wpAny_bind (wpAny_pure ?_)
  rw[StateT.run_pure]
  refine wpAny_bind (wpAny_pure ?_)
  dsimp only
  refine fin (List.toArray (List.range vs.length)) (Zb3 _) (fun x y a b=>by omega) (SortSt.mk' general' (vs.toArray.zip vs.toArray) #[] 7 none) ?_ rfl _ rfl
  rw[Zi7]
  show (vs.toArray.zip vs.toArray).map (·.2)=vs.toArray
  apply Array.toList_inj.mp
  simp[List.map_snd_zip]
 ·rw[if_neg h2,if_neg h2]
  have h2':2<=vs.length:=by rw[hsz] at h2;omega
  obtain⟨fs,t1,t2,t3⟩:=ZfL hr kt
  refine wpAny_bind (kat_kind t1 (by omega) (T:=Value.type "int") (fun v hv=>?_) rfl ?_)
  ·obtain⟨x,t,rfl⟩:=t3 v hv
   exact .now
  ·have e0:tuples' (Value.type "int" != Value.type "tuple")=tuples' true:=rfl
   rw[e0]
   have S:=ZkE nd
   rw[hr] at S
   have ask:∀ (i j:Nat) (C:Bool->Shared->Prop),i<vs.length->j<vs.length->C (ltR rs i j) { s with heap:=((s.heap.update a (Obj.mapSeq fun _=>(#[]:Array Value))).push (seqObj "tuple" vs.toArray 0)).push (seqObj "list" #[] 0) }->kas_ask prog w A (tuples' true) vs i j C { s with heap:=((s.heap.update a (Obj.mapSeq fun _=>(#[]:Array Value))).push (seqObj "tuple" vs.toArray 0)).push (seqObj "list" #[] 0) }:=fun i j C hi hj hC=>by
    have gi:vs[i]?=some vs[i]:=List.getElem?_eq_getElem hi
    have gj:vs[j]?=some vs[j]:=List.getElem?_eq_getElem hj
    have ri:rs[i]?=some rs[i]:=List.getElem?_eq_getElem (by omega)
    have rj:rs[j]?=some rs[j]:=List.getElem?_eq_getElem (by omega)
    show wpAny (model prog w) A (keyLt' (tuples' true) (vs.getD i Value.none) (vs.getD j Value.none)) C (fun _ _=>False) _
    rw[List.getD_eq_getElem?_getD,List.getD_eq_getElem?_getD,gi,gj]
    refine ZpD (kt i _ _ gi ri) (kt j _ _ gj rj) ?_
    have:ltR rs i j=Zbk rs[i] rs[j]:=by unfold ltR;rw[List.getD_eq_getElem?_getD,List.getD_eq_getElem?_getD,ri,rj];rfl
    rw[<- this]
    exact hC
   have hq:∀ (p:Array Nat) (st':SortSt) (s':Shared),p.size=vs.length->arrOf st'=p.map (kas_item (vs.toArray.zip vs.toArray))->failedOf st'=none->(fun p s'=>Pm vs.length p/\Zdn (ltR rs) p vs.length/\s'={ s with heap:=((s.heap.update a (Obj.mapSeq fun _=>(#[]:Array Value))).push (seqObj "tuple" vs.toArray 0)).push (seqObj "list" #[] 0) }) p s'->(fun st' s'=>∃ p,Pm vs.length p/\Zdn (ltR rs) p vs.length/\(arrOf st').map (·.2)=ZlX vs p/\failedOf st'=none/\s'={ s with heap:=((s.heap.update a (Obj.mapSeq fun _=>(#[]:Array Value))).push (seqObj "tuple" vs.toArray 0)).push (seqObj "list" #[] 0) }) st' s':=fun p st' s' _ ha hf hg=>⟨p,hg.1,hg.2.1,kat_snds rfl ha,hf,hg.2.2⟩
   refine wpAny_bind (wpAny_mono (show wpAny (model prog w) A ((sortRuns').run (SortSt.mk' (tuples' true) (vs.toArray.zip vs.toArray) #[] 7 none)) (fun r s'=>(fun st' s'=>∃ p,Pm vs.length p/\Zdn (ltR rs) p vs.length/\(arrOf st').map (·.2)=ZlX vs p/\failedOf st'=none/\s'={ s with heap:=((s.heap.update a (Obj.mapSeq fun _=>(#[]:Array Value))).push (seqObj "tuple" vs.toArray 0)).push (seqObj "list" #[] 0) }) r.2 s') E _ from ?_) ?_ fun _ _ e=>e)
   ·rcases h64 with h64|⟨h64,_⟩
    ·exact kat_run (ks:=vs) (vs:=vs) (κ:=tuples' true) rfl h2' h64 hq (Kr.wp ask (ZrC S h2') fun p hp=>⟨hp.1,hp.2,rfl⟩)
    ·exact Znf (ks:=vs) (vs:=vs) (κ:=tuples' true) rfl h2' hq (Kr.wp ask (Zgw S h2' h64) fun r hr=>⟨hr.1,hr.2.1,hr.2.2,rfl⟩)
   ·rintro⟨⟨⟩,st'⟩ s' ⟨p,hp,hs,ho',hf,es⟩
    exact fin p hp hs st' ho' hf s' es
theorem ZhM{l:Addr}{vs:List Value}{rs:List (List Int)}{Q:Vq}(hl:s.heap.IsList l vs.toArray)(hr:rs.length=vs.length)
    (ht:∀ (i:Nat) (v:Value) (r:List Int),vs[i]?=some v->rs[i]?=some r->Zbs s.heap v r) (nd:rs.Nodup) (h64:vs.length<64\/(Zdn (ltR rs) (List.toArray (List.range vs.length)) vs.length/\vs.length<=1000))
    (h:∀ p:Array Nat,Pm vs.length p->Zdn (ltR rs) p vs.length->Q (.ref (s.heap.objs.size+1)) { s with heap:=sortedAll s.heap vs (ZlX vs p) }) :
    wpAny (model prog w) A (call (.builtin "sorted") [.ref l]) Q E s:=by
  have hz:vs.length<=1000:=h64.elim (fun h=>by omega) fun h=>h.2
  refine Calls.call_function_entry kind_sorted plain_sorted entry_sorted (args_sorted1 _) ?_
  unfold Builtin.«sorted»
  refine wpAny_bind (m:=checkCount "sorted" 1 1 _) (wpAny_pure ?_)
  refine wpAny_bind (collect_list hl ?_ (by rw[sizeLine_eq];omega))
  refine wpAny_bind (wpAny_newList ?_ (by rw[sizeLine_eq];omega))
  have hsz:((s.heap.push (seqObj "list" #[] 0)).update s.heap.objs.size (Obj.mapSeq (· ++ vs.toArray))).objs.size=s.heap.objs.size+1:=by
    rw[Heap.size_update,size_push']
  have hoL:(((s.heap.push (seqObj "list" #[] 0)).update s.heap.objs.size (Obj.mapSeq (· ++ vs.toArray))).push (seqObj "list" vs.toArray 0)).get? (s.heap.objs.size+1)=some (seqObj "list" vs.toArray 0):=by
    rw[<- hsz];exact Heap.get?_push_size _ rfl
  have keep:∀ b o,s.heap.get? b=some o->(((s.heap.push (seqObj "list" #[] 0)).update s.heap.objs.size (Obj.mapSeq (· ++ vs.toArray))).push (seqObj "list" vs.toArray 0)).get? b=some o:=fun b o q=>by
    have hlt:b<s.heap.objs.size:=Heap.lt_size q
    rw[Heap.get?_push_ne _ _ _ (by rw[hsz];exact Nat.ne_of_lt (Nat.lt_succ_of_lt hlt)),Heap.get?_update_ne _ _ _ _ (Nat.ne_of_lt hlt),Heap.get?_push_ne _ _ _ (Nat.ne_of_lt hlt)]
    exact q
  show wpAny _ _ _ _ _ { s with heap:=((s.heap.push (seqObj "list" #[] 0)).update s.heap.objs.size (Obj.mapSeq (· ++ vs.toArray))).push (seqObj "list" vs.toArray 0) }
  rw[hsz]
  refine wpAny_bind (wpAny_holding (wpAny_call_entry slot_list_sort ⟨_,hoL,rfl⟩ entry_list_sort (ZeW (s:={ s with heap:=((s.heap.push (seqObj "list" #[] 0)).update s.heap.objs.size (Obj.mapSeq (· ++ vs.toArray))).push (seqObj "list" vs.toArray 0) }) hoL hr (fun i v r h1 h2=>(ht i v r h1 h2).kept keep) nd h64 fun p hp hs=>⟨_,rfl,?_⟩) (args_list_sort _)))
  exact wpAny_pure ⟨_,rfl,h p hp hs⟩
end
end Ov
end
section
namespace Ov
noncomputable def tI(r:List Int):D:=.tup (r.map D.int)
theorem ZdI:∀ (r q:List Int),eqDs (r.map D.int) (q.map D.int)=decide (r=q)
 | [],[]=>rfl
 | [],_::_=>rfl
 | _::_,[]=>rfl
 | x::r,y::q=>by
  have e:eqDs ((x::r).map D.int) ((y::q).map D.int)=(x == y&&eqDs (r.map D.int) (q.map D.int)):=rfl
  rw[e,ZdI r q]
  by_cases h:x=y<;>by_cases g:r=q<;>simp[h,g]
theorem Zmn(r q:List Int):eqD (tI r) (tI q)=decide (r=q):=ZdI r q
theorem Zfz:∀ (r q:List Int),ltD.ltDs (ltD 0) (r.map D.int) (q.map D.int)=Zbk r q
 | [],[]=>rfl
 | [],_::_=>rfl
 | _::_,[]=>rfl
 | x::r,y::q=>by
  have e:ltD.ltDs (ltD 0) ((x::r).map D.int) ((y::q).map D.int)=if (x == y)=true then ltD.ltDs (ltD 0) (r.map D.int) (q.map D.int) else decide (x<y):=rfl
  have e':Zbk (x::r) (y::q)=if x=y then Zbk r q else decide (x<y):=rfl
  rw[e,e',Zfz r q]
  by_cases h:x=y<;>simp[h]
theorem Zl2(r q:List Int):ltD 1 (tI r) (tI q)=Zbk r q:=Zfz r q
theorem ZiQ:∀ {xs:List D},xs.all (rkD 0)=true->∃ r:List Int,xs=r.map D.int
 | [],_=>⟨[],rfl⟩
 | x::xs,h=>by
  rw[List.all_cons,Bool.and_eq_true] at h
  obtain⟨r,e⟩:=ZiQ h.2
  cases x with
  | int i=>exact⟨i::r,by rw[e];rfl⟩
  | _=>cases h.1
theorem ZvM{d:D}(h:rkD 1 d=true):∃ r,d=tI r:=by
 cases d with
 | tup xs =>
  obtain⟨r,e⟩:=ZiQ (xs:=xs) h
  exact⟨r,by rw[e];rfl⟩
 | _=>cases h
theorem ZlS:∀ {xs:List D},xs.all (fun d=>rkD 1 d && !eqD d (.tup []))=true->∃ rs:List (List Int),xs=rs.map tI/\∀ r∈rs,r≠[]
 | [],_=>⟨[],rfl,fun r h=>by cases h⟩
 | x::xs,h=>by
  rw[List.all_cons,Bool.and_eq_true,Bool.and_eq_true] at h
  obtain⟨rs,e,hn⟩:=ZlS h.2
  obtain⟨r,e1⟩:=ZvM h.1.1
  refine⟨r::rs,by rw[e,e1];rfl,fun q hq=>?_⟩
  rcases List.mem_cons.mp hq with rfl|hq
  ·intro z
   have h2:=h.1.2
   rw[e1,z] at h2
   cases h2
  ·exact hn q hq
theorem ZlT:∀ {rs:List (List Int)},(∀ r∈rs,r≠[])->(rs.map tI).all (fun d=>rkD 1 d && !eqD d (.tup []))=true
 | [],_=>rfl
 | r::rs,h=>by
  rw[List.map_cons,List.all_cons,Bool.and_eq_true,Bool.and_eq_true]
  refine⟨⟨?_,?_⟩,ZlT fun q hq=>h q (List.mem_cons_of_mem _ hq)⟩
  ·show (r.map D.int).all (rkD 0)=true
   rw[List.all_eq_true]
   intro d hd
   obtain⟨i,_,rfl⟩:=List.mem_map.mp hd
   rfl
  ·have e:eqD (tI r) (.tup [])=decide (r=[]):=ZdI r []
   rw[e]
   have:=h r (List.mem_cons_self ..)
   simp[this]
noncomputable def Zkk(x:List Int):List (List Int)->List (List Int)
 | []=>[x]
 | y::ys=>if Zbk y x=true then y::Zkk x ys else x::y::ys
noncomputable def ZeN:List (List Int)->List (List Int)
 | []=>[]
 | x::xs=>Zkk x (ZeN xs)
theorem Zme(x:List Int):∀ ys:List (List Int),Zpo (ltD 1) (tI x) (ys.map tI)=(Zkk x ys).map tI
 | []=>rfl
 | y::ys=>by
  have e:Zpo (ltD 1) (tI x) ((y::ys).map tI)=if ltD 1 (tI y) (tI x)=true then tI y::Zpo (ltD 1) (tI x) (ys.map tI) else tI x::tI y::ys.map tI:=rfl
  have e':Zkk x (y::ys)=if Zbk y x=true then y::Zkk x ys else x::y::ys:=rfl
  rw[e,e',Zl2,Zme x ys]
  by_cases h:Zbk y x=true<;>simp[h]
theorem Zgk:∀ rs:List (List Int),ZkI (ltD 1) (rs.map tI)=(ZeN rs).map tI
 | []=>rfl
 | r::rs=>by
  show Zpo (ltD 1) (tI r) (ZkI (ltD 1) (rs.map tI))=(Zkk r (ZeN rs)).map tI
  rw[Zgk rs,Zme]
theorem Ze0(x:List Int):∀ ys:List (List Int),(Zkk x ys).Perm (x::ys)
 | []=>.refl _
 | y::ys=>by
  show (if Zbk y x=true then y::Zkk x ys else x::y::ys).Perm _
  split
  ·exact(List.Perm.cons y (Ze0 x ys)).trans (List.Perm.swap ..)
  ·exact .refl _
theorem Zdp:∀ rs:List (List Int),(ZeN rs).Perm rs
 | []=>.refl _
 | r::rs=>(Ze0 r _).trans (List.Perm.cons r (Zdp rs))
theorem Zmf(x:List Int):∀ {ys:List (List Int)},x∉ys->ys.Pairwise (fun a b=>Zbk a b=true)->(Zkk x ys).Pairwise (fun a b=>Zbk a b=true)
 | [],_,_=>List.pairwise_singleton ..
 | y::ys,hx,h=>by
  show (if Zbk y x=true then y::Zkk x ys else x::y::ys).Pairwise _
  obtain⟨h1,h2⟩:=List.pairwise_cons.mp h
  by_cases g:Zbk y x=true
  ·rw[if_pos g]
   refine List.pairwise_cons.mpr ⟨fun z hz=>?_,Zmf x (fun m=>hx (List.mem_cons_of_mem _ m)) h2⟩
   rcases List.mem_cons.mp ((Ze0 x ys).mem_iff.mp hz) with rfl|hz
   ·exact g
   ·exact h1 z hz
  ·rw[if_neg g]
   have g':Zbk y x=false:=by simpa using g
   have xy:Zbk x y=true:=ZeY (fun e=>hx (by rw[e];exact List.mem_cons_self ..)) g'
   refine List.pairwise_cons.mpr ⟨fun z hz=>?_,h⟩
   rcases List.mem_cons.mp hz with rfl|hz
   ·exact xy
   ·exact ZeX xy (h1 z hz)
theorem ZiA:∀ {rs:List (List Int)},rs.Nodup->(ZeN rs).Pairwise (fun a b=>Zbk a b=true)
 | [],_=>.nil
 | r::rs,h=>by
  obtain⟨h1,h2⟩:=List.nodup_cons.mp h
  exact Zmf r (fun m=>h1 ((Zdp rs).mem_iff.mp m)) (ZiA h2)
theorem Zfm{ys rs:List (List Int)}(nd:rs.Nodup)(hs:ys.Pairwise (fun a b=>Zbk a b=true))(hp:ys.Perm rs):ZeN rs=ys:=by
 refine List.Perm.eq_of_pairwise (le:=fun a b=>Zbk a b=true) (fun a b _ _ h1 h2=>?_) (ZiA nd) hs ((Zdp rs).trans hp.symm)
 rw[Zdk h1] at h2
 cases h2
theorem ZgW{α:Type}[DecidableEq α]:∀ {l m:List α},l.Nodup->(∀ x∈l,x∈m)->m.length<=l.length->l.Perm m
 | [],m,_,_,hl=>by
  cases m with
  | nil=>exact .refl _
  | cons a m=>simp at hl
 | x::l,m,nd,hs,hl=>by
  obtain⟨h1,h2⟩:=List.nodup_cons.mp nd
  have hx:x∈m:=hs x (List.mem_cons_self ..)
  have hp:=List.perm_cons_erase hx
  refine(List.Perm.cons x (ZgW h2 (fun y hy=>?_) ?_)).trans hp.symm
  ·refine(List.mem_erase_of_ne (fun e=>h1 (by rw[<- e];exact hy))).mpr (hs y (List.mem_cons_of_mem _ hy))
  ·have:=List.length_erase_of_mem hx
   simp at hl
   omega
theorem Zfw{ys:List (List Int)}(h:ys.Pairwise (fun a b=>Zbk a b=true)):ys.Nodup :=
 h.imp fun {a b} g e=>by
  subst e
  have:=Zdk g
  rw[g] at this
  cases this
theorem ZiL{α:Type}[DecidableEq α]{l m:List α}(hl:l.Nodup)(hm:m.Nodup)(h:∀ x,x∈l↔x∈m):l.Perm m:=by
 rw[List.perm_iff_count]
 intro a
 rw[hl.count,hm.count]
 simp[h]
theorem Zgq:∀ rs:List (List Int),Zpi (rs.map tI)=true↔rs.Nodup
 | []=>by simp[Zpi]
 | r::rs=>by
  have e:Zpi ((r::rs).map tI)=((rs.map tI).all (fun y=>!eqD (tI r) y)&&Zpi (rs.map tI)):=rfl
  rw[e,Bool.and_eq_true,Zgq rs,List.nodup_cons]
  refine and_congr ?_ Iff.rfl
  rw[List.all_map,List.all_eq_true]
  constructor
  ·intro h m
   have:=h r m
   simp[Zmn] at this
  ·intro h q hq
   have:r≠q:=fun z=>h (by rw[z];exact hq)
   simp[Zmn,this]
theorem Zmu:∀ {rs:List (List Int)},Zt2 (rs.map tI)=true->rs.Pairwise (fun a b=>Zbk a b=true)
 | [],_=>.nil
 | [_],_=>List.pairwise_singleton ..
 | x::y::r,h=>by
  have h':(ltD 1 (tI x) (tI y)&&Zt2 ((y::r).map tI))=true:=h
  rw[Bool.and_eq_true,Zl2] at h'
  have ih:=Zmu h'.2
  refine List.pairwise_cons.mpr ⟨fun z hz=>?_,ih⟩
  rcases List.mem_cons.mp hz with rfl|hz
  ·exact h'.1
  ·exact ZeX h'.1 ((List.pairwise_cons.mp ih).1 z hz)
theorem Ziz{rs ys:List (List Int)}(hn:∀ r∈rs,r≠[])(nd:rs.Nodup)(h64:rs.length<64)(hs:ys.Pairwise (fun a b=>Zbk a b=true))(hm:∀ r,r∈ys↔r∈rs):Zbb (rs.map tI)=.ok (ys.map tI):=by
 unfold Zbb
 rw[if_pos (by rw[ZlT hn,(Zgq rs).mpr nd,List.length_map,decide_eq_true h64,Bool.true_or];rfl),Zgk,Zfm nd hs (ZiL (Zfw hs) nd hm)]
theorem ZhN{xs:List D}{d:List D}(h:Zbb xs=.ok d):∃ rs:List (List Int),xs=rs.map tI/\(∀ r∈rs,r≠[])/\rs.Nodup/\(rs.length<64\/(rs.Pairwise (fun a b=>Zbk a b=true)/\rs.length<=1000))/\d=(ZeN rs).map tI:=by
 unfold Zbb at h
 split at h
 ·next g =>
  rw[Bool.and_eq_true,Bool.and_eq_true,Bool.or_eq_true,Bool.and_eq_true,decide_eq_true_eq,decide_eq_true_eq] at g
  obtain⟨rs,e,hn⟩:=ZlS g.1.1
  subst e
  rw[Zgk] at h
  cases h
  exact⟨rs,rfl,hn,(Zgq rs).mp g.1.2,g.2.imp (fun h=>by simpa using h) fun h=>⟨Zmu h.1,by simpa using h.2⟩,rfl⟩
 ·cases h
open PySem PySem.Spec PyProof.Rows L2
section
variable {X:Cx} {CL:ClA} {W:XW}
theorem ZfG{K:Fg}{H:Hp}{A:Addr->Prop}:∀ {is:List Int} {ys:List V},Reps K CL H A ys (is.map D.int)->ys=is.map V.int
 | [],[],_=>rfl
 | [],_::_,r=>r.elim
 | _::_,[],r=>r.elim
 | i::is,y::ys,r=>by
  have e1:y=.int i:=r.1
  rw[ZfG r.2,e1]
  rfl
theorem Zhi:∀ {is:List Int} {its:List Value},Zar (is.map V.int) its->IntsAre its is
 | [],_,h=>by cases h;exact .nil
 | i::is,_,h=>by
  cases h with
  | cons h1 h2 =>
   obtain⟨t,rfl⟩:=h1
   exact .cons i t (Zhi h2)
theorem Zg2{pins:Pn}{s:Shared}{σ:List (Option V)}{H:Hp}{A:Addr->Prop}(I:Inv X pins σ H s):∀ {rs:List (List Int)} {ys:List V} {its:List Value},Reps X.K CL H A ys (rs.map tI)->Zar ys its->(∀ r∈rs,r≠[])->∀ (i:Nat) (v:Value) (r:List Int),its[i]?=some v->rs[i]?=some r->Zbs s.heap v r
 | [],_,_,_,_,_,i,v,r,_,e=>by cases e
 | _::_,[],_,h,_,_,_,_,_,_,_=>h.elim
 | q::rs,y::ys,_,h,hv,hn,i,v,r,e1,e2=>by
  cases hv with
  | cons h1 h2 =>
   cases i with
   | succ i=>exact Zg2 I h.2 h2 (fun r m=>hn r (List.mem_cons_of_mem _ m)) i v r e1 e2
   | zero =>
    cases e1
    cases e2
    have h0:Zb1 X.K CL H A y (.tup (q.map D.int)):=.inl h.1
    obtain⟨a,xs,rfl,_,sq,rx⟩:=h0.tup_of
    obtain⟨its,hi,ht,_⟩:=I.tuple sq
    rw[ZfG rx] at hi
    cases h1
    exact⟨a,its.toArray,rfl,ht,Zhi hi,hn q (List.mem_cons_self ..)⟩
theorem Zfh{ys:List V}{its:List Value}(h:Zar ys its):∀ l:List Nat,(∀ i∈l,i<ys.length)->Zar (l.map fun i=>ys.getD i .non) (l.map fun i=>its.getD i Value.none)
 | [],_=>.nil
 | i::l,hl=>by
  have hi:i<ys.length:=hl i (List.mem_cons_self ..)
  have e:ys[i]?=some ys[i]:=List.getElem?_eq_getElem hi
  obtain⟨u,e2,r⟩:=h.get e
  refine .cons ?_ (Zfh h l fun j hj=>hl j (List.mem_cons_of_mem _ hj))
  show ZaR (ys.getD i .non) (its.getD i Value.none)
  rw[List.getD_eq_getElem?_getD,List.getD_eq_getElem?_getD,e,e2]
  exact r
theorem ZiS{K:Fg}{H:Hp}{A:Addr->Prop}:∀ {ys:List V} {ds:List D} {i:Nat},Reps K CL H A ys ds->i<ds.length->Rep K CL H A (ys.getD i .non) (ds.getD i .non)
 | [],[],_,_,h=>by cases h
 | [],_::_,_,r,_=>r.elim
 | _::_,[],_,r,_=>r.elim
 | y::ys,d::ds,0,r,_=>r.1
 | y::ys,d::ds,i+1,r,h=>ZiS (ys:=ys) (ds:=ds) (i:=i) r.2 (Nat.lt_of_succ_lt_succ h)
theorem Zfs{K:Fg}{H:Hp}{A:Addr->Prop}{ys:List V}{ds:List D}(h:Reps K CL H A ys ds):∀ l:List Nat,(∀ i∈l,i<ds.length)->Reps K CL H A (l.map fun i=>ys.getD i .non) (l.map fun i=>ds.getD i .non)
 | [],_=>trivial
 | i::l,hl=>⟨ZiS h (hl i (List.mem_cons_self ..)),Zfs h l fun j hj=>hl j (List.mem_cons_of_mem _ hj)⟩
theorem Zg8{n:Nat}{p:Array Nat}(hp:Pm n p):∀ i∈p.toList,i<n:=fun i hi=>by
 obtain⟨j,hj,e⟩:=List.mem_iff_getElem.mp hi
 have hj':j<n:=by rw[<- hp.sz];simpa using hj
 have:=hp.lt j hj'
 unfold at0 at this
 rw[Array.getD_eq_getD_getElem?,<- Array.getElem?_toList,List.getElem?_eq_getElem hj,e] at this
 exact this
theorem ZqX{n:Nat}{p:Array Nat}(hp:Pm n p){j:Nat}(hj:j<p.toList.length):at0 p j=p.toList[j]:=by
 unfold at0
 rw[Array.getD_eq_getD_getElem?,<- Array.getElem?_toList,List.getElem?_eq_getElem hj]
 rfl
theorem Zi0{rs:List (List Int)}(nd:rs.Nodup){p:Array Nat}(hp:Pm rs.length p)(hs:Zdn (ltR rs) p rs.length):p.toList.map (fun i=>rs.getD i [])=ZeN rs:=by
 have hl:p.toList.length=rs.length:=by rw[Array.length_toList,hp.sz]
 have pw:(p.toList.map (fun i=>rs.getD i [])).Pairwise (fun a b=>Zbk a b=true):=by
  rw[List.pairwise_map,List.pairwise_iff_getElem]
  intro i j hi hj hij
  have:=hs i j hij (by omega)
  rw[ZqX hp hi,ZqX hp hj] at this
  exact this
 refine(Zfm nd pw (ZgW (Zfw pw) (fun x hx=>?_) (by rw[List.length_map,hl];exact Nat.le_refl _))).symm
 obtain⟨i,hi,rfl⟩:=List.mem_map.mp hx
 have:=Zg8 hp i hi
 rw[List.getD_eq_getElem?_getD,List.getElem?_eq_getElem this]
 exact List.getElem_mem this
theorem ZjL:ZlB X CL W (.builtin "sorted") (biD .sorted):=by
  intro A H0 pins s σ H xs us Q I r ⟨s0,hA,ds,rs,p⟩
  by_cases hls:∃ es,ds=[.lst es]
  · obtain⟨es,rfl⟩:=hls
    obtain⟨v,rfl,rv⟩:=rs.one
    obtain⟨q,ys,rfl,sq,ry⟩:=rv.lst_of
    have p':Zas (Zcp X.K CL true H0 A) W H ((Zbb es).bind fun b=>.ok (.lst b)) Q:=p
    cases hd:Zbb es with
    | exn x =>
      unfold Zbb at hd
      split at hd<;>cases hd
    | bad =>
      rw[hd] at p'
      exact p'.elim
    | ok d =>
      rw[hd] at p'
      obtain⟨rs',rfl,hn,nd,h64,rfl⟩:=ZhN hd
      obtain⟨u,rfl,rx⟩:=ZcL r
      cases rx
      obtain⟨its,hv,pl,hz⟩:=I.list sq
      have l1:ys.length=rs'.length:=by rw[ry.length,List.length_map]
      have l2:ys.length=its.length:=hv.length
      have h1000:rs'.length<=1000:=h64.elim (fun h=>by omega) fun h=>h.2
      have h64':its.length<64\/(Zdn (ltR rs') (List.toArray (List.range its.length)) its.length/\its.length<=1000):=h64.imp (fun h=>by omega) fun h=>⟨fun x y hxy hy=>by
        have e:∀ x,x<its.length->at0 (List.toArray (List.range its.length)) x=x:=fun x hx=>by simp[at0,Array.getD,hx]
        rw[e x (by omega),e y hy]
        have g:=List.pairwise_iff_getElem.mp h.1 x y (by omega) (by omega) hxy
        unfold ltR
        rw[List.getD_eq_getElem?_getD,List.getD_eq_getElem?_getD,List.getElem?_eq_getElem (by omega),List.getElem?_eq_getElem (by omega)]
        exact g,by omega⟩
      refine ZhM pl.isList (by omega) (Zg2 I ry hv hn) nd h64' fun pp hp hs=>?_
      rw[<- l2,l1] at hp hs
      have e1:=Zi0 nd hp hs
      have rp:=Zfs ry pp.toList (fun i hi=>by rw[List.length_map];exact Zg8 hp i hi)
      have e2:(pp.toList.map fun i=>(rs'.map tI).getD i .non)=(ZeN rs').map tI:=by
        rw[<- e1,List.map_map]
        apply List.map_congr_left
        intro i hi
        have:=Zg8 hp i hi
        simp[List.getElem?_eq_getElem this]
      rw[e2] at rp
      have vp:=Zfh hv pp.toList (fun i hi=>by rw[l1];exact Zg8 hp i hi)
      obtain⟨c,hat⟩:=sortedAll_at s.heap its (ZlX its pp)
      have hf:=I.hok.fresh (Nat.le_succ s.heap.objs.size)
      refine⟨.ref (s.heap.objs.size+1),_,I.laid (t':=s.toks) (fun b o hb=>sortedAll_old hb) (Nat.le_succ _) (o:=.lst (pp.toList.map fun i=>ys.getD i .non)) ?_,rfl,p' _ _ (Zat hf _) (Zbi s0 hA hf rp)⟩
      refine⟨?_,pp.toList.map fun i=>its.getD i Value.none,c,vp,hat⟩
      rw[List.length_map,Array.length_toList,hp.sz,sizeLine_eq]
      omega
  · have e:biD .sorted ds=.bad:=by
      match ds with
      | []=>rfl
      | [x]=>cases x<;>first|rfl|exact absurd ⟨_,rfl⟩ hls
      | x::_::_=>cases x<;>rfl
    rw[e] at p
    exact p.elim
end
end Ov
end
section
namespace Ov
open PySem PySem.Spec PyProof.Rows L2
def Fly(e T:Addr)(cls:Value)(h:Heap):Prop:=∃ oe vs oT ts a0,h.get? e=some oe/\oe.cls=cls/\vs[0]?=some a0/\oe.data=.fields vs/\vs[1]?=some (.ref T)/\T≠e/\h.get? T=some oT/\oT.data=.fields ts/\ts[3]?=some Value.none
structure Shift (ex fs:List Addr) (h h':Heap):Prop where
 keep:∀ b o,h.get? b=some o->b∉ex->b∉fs->h'.get? b=some o
 slot:∀ b o,h.get? b=some o->b∈fs->∃ sl,h'.get? b=some { o with slots:=sl }
theorem Shift.trans{ex fs:List Addr}{h h1 h2:Heap}(a:Shift ex fs h h1)(b:Shift ex fs h1 h2):Shift ex fs h h2 :=
 ⟨fun c o q n m=>b.keep c o (a.keep c o q n m) n m,fun c o q m=>by
  obtain⟨sl,e1⟩:=a.slot c o q m
  obtain⟨sl',e2⟩:=b.slot c _ e1 m
  exact⟨sl',e2⟩⟩
theorem ObjOk.isThere{P:Program}{w:World}{H:Hp}{h:Heap}{a:Addr}:∀ (o:HO),L2.ObjOk P w H h a o->∃ ob,h.get? a=some ob
 | .lst _,x=>by obtain⟨_,_,_,_,e⟩:=x;exact⟨_,e⟩
 | .tup _,x=>by obtain⟨_,_,_,p⟩:=x;obtain⟨o,e,_⟩:=p;exact⟨_,e⟩
 | .dK _,x=>by obtain⟨_,_,_,_,o,_,_,e,_⟩:=x;exact⟨_,e⟩
 | .dT _,x=>by obtain⟨_,_,_,_,o,_,_,e,_⟩:=x;exact⟨_,e⟩
 | .set _ _,x=>by obtain⟨o,_,_,_,e,_⟩:=x;exact⟨_,e⟩
 | .ins _ _ _,x=>by obtain⟨_,_,_,e,_⟩:=x;exact⟨_,e⟩
 | .own _,x=>x
 | .xd _,x=>by obtain⟨_,⟨_,_,_,e,_⟩,_⟩:=x;exact⟨_,e⟩
 | .met _ _,x=>⟨_,x⟩
 | .rng _ _,x=>by obtain⟨_,_,_,e⟩:=x;exact⟨_,e⟩
 | .frz _ _,x=>⟨_,x.1⟩
 | .tbl _,x=>⟨_,x⟩
 | .ext _,x=>x.2.1
theorem Zdl{P:Program}{w:World}{H:Hp}{h:Heap}{a:Addr}(x:HOk P w H h)(e:h.get? a=none):H a=none:=by
 cases q:H a with
 | none=>rfl
 | some o =>
  obtain⟨ob,z⟩:=ObjOk.isThere o (x a o q)
  rw[e] at z;cases z
theorem HOk.shift{P:Program}{w:World}{H:Hp}{h h':Heap}{ex fs:List Addr}(x:HOk P w H h)(sh:Shift ex fs h h')(h1:∀ b∈ex,H b=none)(h2:∀ b∈fs,H b=none):HOk P w H h':=fun a o e =>
 (x a o e).stay (fun b u hb q=>by
  have hs:∃ v,H b=some v:=by
   rcases hb with rfl|hb
   ·exact⟨_,e⟩
   ·exact⟨_,hb⟩
  obtain⟨v,hv⟩:=hs
  exact sh.keep b u q (fun z=>by rw[h1 b z] at hv;cases hv) (fun z=>by rw[h2 b z] at hv;cases hv)) (fun _ q=>q) fun _ _ q=>q
theorem Un.shift{fs0 fs ex:List Addr}{H H':Hp}{h0 h h':Heap}(u:Un fs0 [] H H' h0 h)(sh:Shift ex fs h h')(h1:∀ b∈ex,h0.get? b=none)(h2:∀ b∈fs,b∈fs0\/h0.get? b=none):Un fs0 [] H H' h0 h' where
 keep:=fun b o q n hb hx=>sh.keep b o (u.keep b o q n hb hx) (fun z=>by rw[h1 b z] at q;cases q) fun z=>(h2 b z).elim hb fun e=>by rw[e] at q;cases q
 slot:=fun b o q n hb hx=>by
  obtain⟨sl,e1⟩:=u.slot b o q n hb hx
  by_cases hf:b∈fs
  ·obtain⟨sl',e2⟩:=sh.slot b _ e1 hf
   exact⟨sl',e2⟩
  ·exact⟨sl,sh.keep b _ e1 (fun z=>by rw[h1 b z] at q;cases q) hf⟩
 free:=u.free
 there:=fun b o q hx=>by
  obtain⟨o',e1⟩:=u.there b o q hx
  by_cases hf:b∈fs
  ·obtain⟨sl',e2⟩:=sh.slot b _ e1 hf
   exact⟨_,e2⟩
  ·exact⟨o',sh.keep b _ e1 (fun z=>by rw[h1 b z] at q;cases q) hf⟩
 tups:=u.tups
 frzs:=u.frzs
 tbls:=u.tbls
section
variable {M:Model} {A:Around} {E:Vq} {s:Shared} {env:Env} {outer:List Env} {L e T:Addr} {cls:Value} {base h:Heap}
theorem ZjA(l:List Env):∀ env∈l,∀ a,env.frame=some a->a∈frs l:=fun env he a hf=>List.mem_filterMap.mpr ⟨env,he,hf⟩
theorem Ze3{l:List Env}(ff:h.FunFrames base l)(fl:Fly e T cls h):∃ a0,Heap.FlyingW (PySem.W.hideAll h (e::T::frs l)) l e cls a0 h:=by
 obtain⟨oe,vs,oT,ts,a0,he,hc,h0,hd,h1,hTe,hT,hdT,h3⟩:=fl
 exact⟨a0,fun b o q=>PySem.W.of_hideAll _ q,PySem.W.hideAll_none _ List.mem_cons_self,PySem.W.funFrames_hide ff fun env he a hf=>List.mem_cons_of_mem _ (List.mem_cons_of_mem _ (ZjA l env he a hf)),
  oe,vs,T,oT,ts,he,⟨hc,h0⟩,hd,h1,PySem.W.hideAll_none _ (List.mem_cons_of_mem _ List.mem_cons_self),hTe,hT,hdT,h3⟩
theorem Zim{l:List Env}{h':Heap}(ff:h.FunFrames base l)(up:h.UpToSlots h'){b:Addr}{o:Obj}(ho:h.get? b=some o)(hb:b∈frs l):∃ sl,h'.get? b=some { o with slots:=sl }:=by
 obtain⟨_,o',ho',hn⟩:=ff.mem hb
 rw[ho] at ho';cases ho'
 exact up b o ho hn
theorem Zhd{l:List Env}{h':Heap}{oT:Obj}{ts:Array Value}(ff:h.FunFrames base l)(up:h.UpToSlots h')(hT:h'.get? T=some oT)(hd:oT.data=.fields ts):T∉frs l:=fun hb=>by
 obtain⟨_,o',ho',hn⟩:=ff.mem hb
 obtain⟨sl,e1⟩:=up T o' ho' hn
 rw[hT] at e1
 cases e1
 exact hn ts hd
theorem Zho{l:List Env}{B h':Heap}{a0:Value}(x:Heap.FlyingW B l e cls a0 h'):∃ T',Fly e T' cls h'/\B.get? T'=none/\∃ oT ts,h'.get? T'=some oT/\oT.data=.fields ts:=by
 obtain⟨_,_,_,oe,vs,T',oT,ts,he,⟨hc,h0⟩,hd,h1,hn,hTe,hT,hdT,h3⟩:=x
 exact⟨T',⟨oe,vs,oT,ts,a0,he,hc,h0,hd,h1,hTe,hT,hdT,h3⟩,hn,oT,ts,hT,hdT⟩
theorem ZdG{l:List Env}{h':Heap}(ff:h.FunFrames base l)(st:(PySem.W.hideAll h (e::T::frs l)).StaysIn h')(up:h.UpToSlots h'):Shift [e,T] (frs l) h h' :=
 ⟨fun b o q n1 n2=>st b o (PySem.W.hideAll_get _ q (by simp only[List.mem_cons,not_or,List.not_mem_nil,or_false] at n1 ⊢;exact⟨n1.1,by first|exact n1.2|exact n1.2.1,n2⟩)),fun b o q hb=>Zim ff up q hb⟩
theorem ZdK{l:List Env}{h':Heap}{T':Addr}{oT:Obj}{ts:Array Value}(ff:h.FunFrames base l)(up:h.UpToSlots h')(hn:(PySem.W.hideAll h (e::T::frs l)).get? T'=none)(hT:h'.get? T'=some oT)(hd:oT.data=.fields ts)(hne:T'≠e):T'=T\/h.get? T'=none:=by
 cases q:h.get? T' with
 | none=>exact .inr rfl
 | some o =>
  refine .inl ?_
  by_cases hm:T'∈e::T::frs l
  ·rcases List.mem_cons.mp hm with z|hm
   ·exact absurd z hne
   ·rcases List.mem_cons.mp hm with z|hm
    ·exact z
    ·exact absurd hm (Zhd ff up hT hd)
  ·have:=PySem.W.hideAll_get _ q hm
   rw[hn] at this;cases this
theorem Fly.ne(x:Fly e T cls h):T≠e:=by obtain⟨_,_,_,_,_,_,_,_,_,_,z,_⟩:=x;exact z
theorem ZjB{Q:Unit->Shared->Prop}(hfr:A.frames=some (env::outer))(hf:env.frame=some L)(ff:s.heap.FunFrames base (env::outer))(fl:Fly e T cls s.heap)
  (hQ:∀ h' T',Fly e T' cls h'->Shift [e,T] (frs (env::outer)) s.heap h'->(T'=T\/s.heap.get? T'=none)->Q () { s with heap:=h' }):wpAny M A (leaving env (.ref e)) Q E s:=by
 obtain⟨a0,fw⟩:=Ze3 ff fl
 refine wpAny_leaves_onW hfr hf fw fun h' fw' up=>?_
 obtain⟨T',fl',hn,oT,ts,hT,hd⟩:=Zho fw'
 exact hQ h' T' fl' (ZdG ff fw'.1 up) (ZdK ff up hn hT hd fl'.ne)
theorem ZhU{args:List Value}{Q:Unit->Shared->Prop}(hfr:A.frames=some (env::outer))(hf:env.frame=some L)(ff:h.FunFrames base (env::outer))(hx:Heap.MadeExcOf h s.heap e cls args)
  (hQ:∀ h' T',Fly e T' cls h'->Shift [] (frs (env::outer)) h h'->h.get? T'=none->Q () { s with heap:=h' }):wpAny M A (leaving env (.ref e)) Q E s:=by
 have fh:=PySem.W.funFrames_hide (as:=frs (env::outer)) ff (ZjA _)
 refine wpAny_leaves_madeW hfr hf (fun b o q=>PySem.W.of_hideAll _ q) fh hx fun h' t fw _ _ up=>?_
 have up':h.UpToSlots h':=(Heap.UpToSlots.of_keeps hx.keeps).trans up
 obtain⟨T',fl',hn,oT,ts,hT,hd⟩:=Zho fw
 refine hQ h' T' fl' ⟨fun b o q _ n2=>fw.1 b o (PySem.W.hideAll_get _ q n2),fun b o q hb=>Zim ff up' q hb⟩ ?_
 cases q:h.get? T' with
 | none=>rfl
 | some o =>
  have:=PySem.W.hideAll_get _ q (Zhd ff up' hT hd)
  rw[hn] at this;cases this
theorem Zlf{Q:Unit->Shared->Prop}(hfr:A.frames=some (env::outer))(hf:env.frame=some L)(ff:s.heap.FunFrames base (env::outer))(fl:Fly e T cls s.heap)
  (hQ:∀ h' T',Fly e T' cls h'->Shift [e,T] (frs (env::outer)) s.heap h'->(T'=T\/s.heap.get? T'=none)->Q () { s with heap:=h' }):wpAny M A (noteFrame (.ref e) env) (fun _ s2=>wpAny M A (setFlight (.ref e) none) Q E s2) E s:=by
 obtain⟨a0,fw⟩:=Ze3 ff fl
 refine wpAny_looks_onW hfr hf fw fun h1 hw up1=>?_
 refine wpAny_landsW hw fun h' fw' up2=>?_
 have up:=up1.trans up2
 obtain⟨T',fl',hn,oT,ts,hT,hd⟩:=Zho fw'
 exact hQ h' T' fl' (ZdG ff fw'.1 up) (ZdK ff up hn hT hd fl'.ne)
theorem ZjC{l:List Env}{A':Around}{Q:Unit->Shared->Prop}(ff:s.heap.FunFrames base l)(fl:Fly e T cls s.heap)
  (hQ:∀ h' T',Fly e T' cls h'->Shift [e,T] (frs l) s.heap h'->(T'=T\/s.heap.get? T'=none)->Q () { s with heap:=h' }):wpAny M A' (setFlight (.ref e) none) Q E s:=by
 obtain⟨a0,fw⟩:=Ze3 ff fl
 refine lands_againW fw fun h' fw' up=>?_
 obtain⟨T',fl',hn,oT,ts,hT,hd⟩:=Zho fw'
 exact hQ h' T' fl' (ZdG ff fw'.1 up) (ZdK ff up hn hT hd fl'.ne)
end
def CXR(P:Program)(w:World):CXT:=fun outer H s E ev s'=>∃ e T cls H',ev=.ref e/\s'.os=s.os/\AllBare s'.gens/\Un (frs outer) [] H H' s.heap s'.heap/\HOk P w H' s'.heap/\Fly e T cls s'.heap/\H' e=none/\H' T=none/\s.heap.get? e=none/\s.heap.get? T=none/\E cls none H'
def Zt6(X:Cx)(CL:ClA)(W:XW):Prop:=∀ pins σ H s h' e C vs x,Inv X pins σ H s->Heap.MadeExcOf s.heap h' e (.ref C) vs->CL x.c=some C->x.fs=[]->W x H->X.xe (.ref e) { s with heap:=h' }
section
variable {P:Program} {w:World} {K:Fg} {mg:Str->Option Value} {base:Heap} {N:List Str} {qual:Str} {scope:Scope} {f:Addr} {cd:Value} {A:Around} {outer:List Env} {s:Shared} {H:Hp} {E:XK} {CL:ClA} {W:XW}
theorem ZgA{X:Cx}{pins:Pn}{σ:L2.St}{H:Hp}{s:Shared}(I:Inv X pins σ H s):∀ b∈frs X.stack,b∈X.fs\/X.s₀.heap.get? b=none:=fun b hb=>by
 rcases List.mem_cons.mp (I.stkSub b hb) with z|z
 ·exact .inr (by rw[z];exact Heap.get?_none_of_le I.ok.above)
 ·exact .inl z
theorem Zb5{X:Cx}{pins:Pn}{σ:L2.St}{H:Hp}{s:Shared}{b:Addr}(I:Inv X pins σ H s)(hx:X.ex=[])(h:s.heap.get? b=none):X.s₀.heap.get? b=none:=by
 cases q:X.s₀.heap.get? b with
 | none=>rfl
 | some o =>
  obtain⟨o',z⟩:=I.base.there b o q (by rw[hx];simp)
  rw[h] at z;cases z
theorem Zv8(hE:∀ x cls H',W x H'->(∃ C,CL x.c=some C/\cls=.ref C)->E cls none H'):∀ A',ZeH (CXR P w) (Zfe (CXR P w) P w K mg base N qual scope f cd A outer s H E) (EKW K CL A' W):=by
 intro A' pins σ H1 s1 ev s2 I h
 obtain⟨e,T,cls,H',rfl,os,bare,un,hok,fl,he,hT,ne,nT,x,xr,wx⟩:=h
 have I':=I.call' (s':=s2) (ch:=[]) os un hok bare (fun b z=>absurd z (by simp))
 have hb0:Un (frs outer) [] H H' s.heap s2.heap:=I'.base
 show wpAny (model P w) (A.deeper (envOfC qual scope s.heap.objs.size f cd)) (leaving (envOfC qual scope s.heap.objs.size f cd) (.ref e)) _ _ s2
 refine ZjB (L:=s.heap.objs.size) I'.ok.frames rfl I'.stack fl fun h' T' fl' sh hT'=>?_
 have e0:s.heap.get? e=none:=Zb5 I rfl ne
 have T0:s.heap.get? T=none:=Zb5 I rfl nT
 refine⟨e,T',cls,H',rfl,I'.os,bare,Un.shift hb0 sh ?_ (ZgA I'),HOk.shift hok sh ?_ I'.stkFree,fl',he,?_,e0,?_,?_⟩
 ·intro b hb
  rcases List.mem_cons.mp hb with rfl|hb
  ·exact e0
  ·rw[List.mem_singleton.mp hb];exact T0
 ·intro b hb
  rcases List.mem_cons.mp hb with rfl|hb
  ·exact he
  ·rw[List.mem_singleton.mp hb];exact hT
 ·rcases hT' with rfl|z
  ·exact hT
  ·exact Zdl hok z
 ·rcases hT' with rfl|z
  ·exact T0
  ·exact Zb5 I' rfl z
 ·obtain⟨C,c1,c2,_⟩:=xr
  exact hE x cls H' wx ⟨C,c1,c2⟩
theorem rzR(hE:∀ x cls H',W x H'->(∃ C,CL x.c=some C/\cls=.ref C)->E cls none H'):Zt6 (Zfe (CXR P w) P w K mg base N qual scope f cd A outer s H E) CL W:=by
  intro pins σ H1 s1 h2 e C vs x I hm hc hf hw
  have hb0:Un (frs outer) [] H H1 s.heap s1.heap:=I.base
  show wpAny (model P w) (A.deeper (envOfC qual scope s.heap.objs.size f cd)) (leaving (envOfC qual scope s.heap.objs.size f cd) (.ref e)) _ _ { s1 with heap:=h2 }
  refine ZhU (s:={ s1 with heap:=h2 }) (h:=s1.heap) (L:=s.heap.objs.size) I.ok.frames rfl I.stack hm fun h' T' fl' sh hT'=>?_
  refine⟨e,T',.ref C,H1,rfl,I.os,I.bare,Un.shift hb0 sh (fun b hb=>nomatch hb) (ZgA I),HOk.shift I.hok sh (fun b hb=>nomatch hb) I.stkFree,fl',Zdl I.hok hm.new,Zdl I.hok hT',Zb5 I rfl hm.new,Zb5 I rfl hT',hE x _ H1 hw ⟨C,hc,rfl⟩⟩
theorem ownR:PassesOwn (model P w) (Zfe (CXR P w) P w K mg base N qual scope f cd A outer s H E).A (Zfe (CXR P w) P w K mg base N qual scope f cd A outer s H E).env (Zfe (CXR P w) P w K mg base N qual scope f cd A outer s H E).xe:=PassesOwn.leaving
end
end Ov
end
section
namespace Ov
open PySem PySem.Spec PyProof.Rows L2
noncomputable def veB:List Value:=[.type "ValueError", .type "Exception", .type "BaseException", .type "object"]
structure XcOk (K:Fg) (C:Addr):Prop where
 exc:PySem.W.excIn K C veB "ValueError.__new__" = true
 ga:PySem.W.findIn K (.ref C) "__getattribute__" = some (some (.builtin "BaseException.__getattribute__"))
 gt:PySem.W.findIn K (.ref C) "__getattr__" = some none
 cl:PySem.W.findIn K (.ref C) "__class__" = some (some (.builtin "object.__class__"))
 ob:PySem.W.mroIn K C (.type "object")=some true
 be:PySem.W.subIn K (.ref C) (.type "BaseException")=some true
 cs:(PySem.W.clsIn K C).isSome=true
 ve:PySem.W.kitOne K (.ref C) (.type "ValueError")=some true
def XAt(e C:Addr)(h:Heap):Prop:=∃ o,h.get? e=some o/\o.cls=.ref C
theorem Zos{K:Fg}{h:Heap}{C:Addr}(X:K.In h)(q:PySem.W.excIn K C veB "ValueError.__new__" = true) :
  ∃ bm N nm qn bs hd sn sub ab col dd k0 k1 k2 k3 k5 mN,h.get? C=some (excClassObj nm qn C N bs bm hd sn sub ab col dd k0 k1 k2 k3 k5 "ValueError.__new__")/\h.Ns N mN/\mN "__init__" = none/\OwnTail h veB bm:=by
 unfold PySem.W.excIn at q
 split at q
 ·rename_i dd cd sl ho
  split at q
  ·rename_i C' bm k0 k1 k2 k3 n k5 hm hs
   simp only[Bool.and_eq_true,beq_iff_eq,Bool.not_eq_true'] at q
   obtain⟨⟨⟨⟨⟨rfl,rfl⟩,hdel⟩,ht⟩,hok⟩,hni⟩:=q
   obtain⟨nm,bs,mro,ns,qn,hd,sn,sub,ab,col,del⟩:=cd
   dsimp only at hm hdel hok hni
   subst hm hdel
   have hsl:sl=#[k0,k1,k2,k3,some (.builtin "ValueError.__new__"),k5]:=by
    obtain⟨l⟩:=sl
    simp only at hs
    rw[hs]
   subst hsl
   exact⟨bm,ns,nm,qn,bs,hd,sn,sub,ab,col,dd,k0,k1,k2,k3,k5,_,X _ _ ho,.of_isNs (PySem.W.isNs_of_in X hok),PySem.W.nsMap_none_of_in X hok hni,PySem.W.tail_of_in X ht⟩
  ·cases q
 ·cases q
section
variable {prog:Program} {w:World} {A:Around} {E:Vq} {h:Heap} {g:Array GenState} {d:Drawn} {t:Nat} {os:OsState} {K:Fg} {e C:Addr}
theorem Zen{M:Model}(p:XAt e C h):PySem.W.Looks M h (typeOf (.ref e)) (.ref C):=by
 obtain⟨o,h1,h2⟩:=p
 exact h2 ▸ (PySem.W.Looks.ld h1).andThen .now
theorem Zkw{R:Result->Shared->Prop}{tp:Value}(X:K.In h)(p:XAt e C h)(hm:PySem.W.mroIn K C (.type "object")=some true)(hq:R (.ok (.ret (.ref C))) ⟨h,g,d,t,os⟩) :
  codeAny (model prog w) A (.call (.builtin "getset_descriptor.__get__") ⟨[.builtin "object.__class__", .ref e,tp],[]⟩) R ⟨h,g,d,t,os⟩:=by
 have L0:=Zen (M:=model prog w) p
 have L1:=PySem.W.looks_mroIn (M:=model prog w) X hm
 refine codeAny_call_builtin PySem.W.KF.slot_gs.plain PySem.W.KF.entry_gs (PySem.W.KF.slot_gs.check _ _ _ _ _ _ _ _ PySem.W.KF.type_class (PySem.W.KF.args_gs _ _ _) ?_)
 unfold Builtin.«getset_descriptor.__get__» Builtin.Getset_descriptor.descrGet
 rw[PySem.W.dga_obj]
 refine wpAny_bind (wpAny_pure ?_)
 unfold Builtin.Getset_descriptor.descrGetter Builtin.Getset_descriptor.descrCheckInstance Builtin.Getset_descriptor.descrNameAndClass isInstance
 simp only[PySem.W.KF.owner_class]
 repeat lk
 refine⟨Code.quiet_builtin _ (by decide +kernel),codeAny_builtin PySem.W.KF.entry_class ?_⟩
 unfold Builtin.«object.__class__» shownTypeOf
 repeat lk
 exact hq
theorem ZhE{tk:Tok}{Q:Fin->Shared->Prop}(X:K.In h)(x:XcOk K C)(p:XAt e C h)(hq:Q (.done (.ret (.ref C))) ⟨h,g,d,t,os⟩) :
  wpAny (model prog w) A (Builtin.«object.__getattribute__» ⟨[.ref e,.str "__class__" tk],[]⟩) Q E ⟨h,g,d,t,os⟩:=by
 have L0:=Zen (M:=model prog w) p
 have L1:=PySem.W.looks_findIn (M:=model prog w) X x.cl
 have hT5:(⟨h,g,d,t,os⟩:Shared).TypeIs (.builtin "object.__class__") "getset_descriptor" := F.typeOf_object_class
 have f5:=F.typeOf_object_class
 have f6:=F.slot_gs_get.lookup
 have f7:=F.slot_gs_set.lookup
 repeat (any_goals (first|assumption|with_reducible refine L0.at ?_|with_reducible refine L1.at ?_|wp_step))
 refine Zkw X p x.ob ?_
 repeat (any_goals (first|assumption|wp_step))
theorem ZhF{M:Model}{nameV:Value}{Q:Unit->Shared->Prop}(X:K.In h)(x:XcOk K C)(p:XAt e C h)(hq:Q () ⟨h,g,d,t,os⟩):wpAny M A (checkBuiltinCall "BaseException.__getattribute__" ⟨[.ref e,nameV],[]⟩) Q E ⟨h,g,d,t,os⟩:=by
 have hk:builtinKind "BaseException.__getattribute__" = some .slot:=by decide +kernel
 have hsplit:splitId "BaseException.__getattribute__" = some ("BaseException", "__getattribute__"):=by decide +kernel
 have L0:=Zen (M:=M) p
 have L1:=PySem.W.looks_subIn (M:=M) X x.be
 have ha:=F.args_bexc_ga (.ref e) nameV
 simp only[checkBuiltinCall,hk,hsplit]
 refine wpAny_bind ?_
 ·unfold isInstance
  repeat (first|(with_reducible refine wpAny_bind (L0.at ?_))|(with_reducible refine L1.at ?_)|wp_step)
  exact hq
theorem ZmK{tk:Tok}{fill expr:Bool}{Q:Vq}(X:K.In h)(x:XcOk K C)(p:XAt e C h)(hq:Q (.ref C) ⟨h,g,d,t,os⟩):wpAny (model prog w) A (getAttrBy (.ref e) (.str "__class__" tk) fill expr) Q E ⟨h,g,d,t,os⟩:=by
 have L0:=Zen (M:=model prog w) p
 have L1:=PySem.W.looks_findIn (M:=model prog w) X x.ga
 have L2:=PySem.W.looks_findIn (M:=model prog w) X x.gt
 have f3:=F.attr_ValueError.ga.bind (.ref e)
 have hx0:(expr&&onTheHeap (Value.builtin "BaseException.__getattribute__"))=false:=by cases expr<;>rfl
 have hx2:(Value.builtin "BaseException.__getattribute__" == Value.builtin "object.__getattribute__")=false:=by decide +kernel
 have hx1:(onTheHeap (Value.ref C)&&Value.builtin "BaseException.__getattribute__" == Value.builtin "object.__getattribute__")=false:=by rw[hx2];rfl
 repeat (any_goals (first|assumption|with_reducible refine L0.at ?_|with_reducible refine L1.at ?_|with_reducible refine L2.at ?_|wp_step))
 refine codeAny_call_builtin F.attr_ValueError.ga.plain F.entry_bexc_ga (ZhF X x p (ZhE X x p ?_))
 repeat (any_goals (first|assumption|wp_step))
theorem Zie{Q:Option Value->Shared->Prop}(X:K.In h)(x:XcOk K C)(p:XAt e C h)(hq:Q (some (.ref C)) ⟨h,g,d,t+1,os⟩):wpAny (model prog w) A (getAttr? (.ref e) "__class__") Q E ⟨h,g,d,t,os⟩:=by
 unfold getAttr? getAttrBy?
 repeat (any_goals (first|assumption|with_reducible apply ZmK X x p|wp_step))
end
theorem Zhf{K:Fg}{e C:Addr}(x:XcOk K C):PySem.W.KitX K (.ref e) (.ref C) (XAt e C) where
 ty:=fun M h _ p=>Zen p
 it:=fun M h X _=>by
  obtain⟨cd,hc⟩:=Option.isSome_iff_exists.mp x.cs
  unfold PySem.W.clsIn at hc
  split at hc
  ·rename_i c' d' cd' sl' ho
   intro A' Q' E' s' k q
   unfold isType loadHead
   exact wpAny_bind (wpAny_loadPart (k _ _ (X _ _ ho)) (wpAny_pure q))
  ·cases hc
 ne:=fun h tp dd its n sl X htp=>by
  obtain⟨cd,hc⟩:=Option.isSome_iff_exists.mp x.cs
  refine Bool.eq_false_iff.mpr fun q=>?_
  have e:C=tp:=Value.ref.inj (beq_iff_eq.mp q)
  subst e
  unfold PySem.W.clsIn at hc
  split at hc
  ·rename_i c' d' cd' sl' ho
   have z:=(X _ _ ho).symm.trans htp
   cases z
  ·cases hc
 ca:=fun {_ _ _ _ _ s} X p k=>by
  obtain⟨h,g,d,t,os⟩:=s
  exact Zie X x p k
theorem Zkx{M:Model}{A:Around}{E:Vq}{h:Heap}{g:Array GenState}{d:Drawn}{t:Nat}{os:OsState}{K:Fg}{e C C':Addr}{b:Bool}{Q:Bool->Shared->Prop}(X:K.In h)(p:XAt e C h)(x':XcOk K C')(hs:PySem.W.subIn K (.ref C) (.ref C')=some b)(hq:Q b ⟨h,g,d,t,os⟩) :
  wpAny M A (excMatches (.ref e) (.ref C')) Q E ⟨h,g,d,t,os⟩:=by
 obtain⟨bm,N,nm,qn,bs,hd,sn,sub,ab,col,dd,k0,k1,k2,k3,k5,mN,hC',_,_,T⟩:=Zos X x'.exc
 have hcB:(Value.ref C'::bm).contains (.type "BaseException")=true:=by rw[List.contains_cons,T.hasType (show veB.contains (.type "BaseException")=true by decide),Bool.or_true]
 have L0:=Zen (M:=M) p
 have L1:=PySem.W.looks_subIn (M:=M) X hs
 have f:=tc_notTuple
 unfold excMatches
 repeat (first|(with_reducible refine wpAny_bind (L0.at ?_))|(with_reducible refine L1.at ?_)|(with_reducible refine wpAny_bind (L1.at ?_))|with_reducible refine wpAny_loadPart_at hC' ?_|(with_reducible refine wpAny_isSubtype_exc hC' ?_;rw[hcB])|wp_step)
 all_goals first|exact hq|(cases b<;>(wp_walk;exact hq))
end Ov
end
section
namespace Ov
open PySem PySem.Spec PyProof.Rows L2
def Zh6(X:Cx)(pins:Pn)(e:Addr):Prop:=e≠X.env.locals/\(∀ x c,X.env.cells.lookup x=some c->c≠e)/\(∀ p∈X.pn++pins,p.1≠e)/\X.s₀.heap.get? e=none
section
variable {X:Cx} {pins:Pn} {σ:L2.St} {H:Hp} {s:Shared} {e:Addr}
theorem Ze9(I:Inv X pins σ H s)(hx:X.ex=[])(h:s.heap.get? e=none):Zh6 X pins e:=by
 refine⟨?_,fun x c q z=>?_,fun p hp z=>?_,Zb5 I hx h⟩
 ·rintro rfl
  obtain⟨m,⟨o,_,_,ho,_⟩,_⟩:=I.loc
  rw[h] at ho;cases ho
 ·obtain⟨v,o,ho,_⟩:=I.cell x c q
  rw[z,h] at ho;cases ho
 ·obtain⟨q,_⟩:=I.pin p hp
  rw[z,h] at q;cases q
theorem ZfD{ex:List Addr}{h':Heap}(I:Inv X pins σ H s)(hx:X.ex=[])(sh:Shift ex (frs X.stack) s.heap h')(ha:∀ b∈ex,Zh6 X pins b)(hH:∀ b∈ex,H b=none):Inv X pins σ H { s with heap:=h' }:=by
 have kp:∀ b o,s.heap.get? b=some o->b∉ex->∃ sl,h'.get? b=some { o with slots:=sl }:=fun b o q n=>by
  by_cases hb:b∈frs X.stack
  ·exact sh.slot b o q hb
  ·exact⟨o.slots,sh.keep b o q n hb⟩
 have cellK:∀ x c,X.env.cells.lookup x=some c->∀ v,s.heap.IsCell c v->h'.IsCell c v:=fun x c q v ⟨o,ho,hd⟩=>by
  obtain⟨sl,z⟩:=kp c o ho fun z=>(ha c z).2.1 x c q rfl
  exact⟨_,z,hd⟩
 refine⟨I.ok,I.os,I.bare,?_,?_,fun x c q=>?_,I.free,I.freeC,fun p hp=>?_,HOk.shift I.hok sh hH I.stkFree,I.len⟩
 ·have b0:=I.base
  rw[hx] at b0 ⊢
  exact Un.shift b0 sh (fun b hb=>(ha b hb).2.2.2) (ZgA I)
 ·obtain⟨m,⟨o,es,ep,ho,r⟩,hl⟩:=I.loc
  obtain⟨sl,z⟩:=kp _ o ho fun z=>(ha _ z).1 rfl
  refine⟨m,⟨_,es,ep,z,r⟩,fun i x v e1 e2 e3=>?_⟩
  obtain⟨u,ru,l⟩:=hl i x v e1 e2 e3
  refine⟨u,ru,?_⟩
  rcases l with l|⟨k,c,q,z⟩
  ·exact .inl l
  ·exact .inr ⟨k,c,q,cellK x c q _ z⟩
 ·obtain⟨v,z⟩:=I.cell x c q
  exact⟨v,cellK x c q v z⟩
 ·obtain⟨q,n,ne,nf,d⟩:=I.pin p hp
  exact⟨sh.keep p.1 p.2 q (fun z=>(ha p.1 z).2.2.1 p hp rfl) (fun z=>(List.mem_cons.mp (I.stkSub p.1 z)).elim ne nf),n,ne,nf,d⟩
theorem Zju{φ:Heap->Prop}(I:Inv X pins σ H s)(hx:X.ex=[])(ha:Zh6 X pins e)(hH:H e=none)(ho:∃ o,s.heap.get? e=some o)(p:φ s.heap)(hφ:∀ h1 h2:Heap,φ h1->(∀ o,h1.get? e=some o->h2.get? e=some o)->φ h2):Inv X pins σ (upd H e (.ext φ)) s:=by
 have ne:∀ b o,H b=some o->b≠e:=fun b o q z=>by rw[z,hH] at q;cases q
 refine⟨I.ok,I.os,I.bare,⟨I.base.keep,I.base.slot,fun b o q n hb=>?_,I.base.there,fun b xs q=>?_,fun b o u q=>?_,fun b ps q=>?_⟩,I.loc,I.cell,?_,fun x c q=>?_,fun p hp=>?_,fun b o q=>?_,I.len⟩
 ·rw[Zai fun z=>by rw[z,ha.2.2.2] at q;cases q]
  exact I.base.free b o q n hb
 ·have:=I.base.tups b xs q
  rw[Zai (ne _ _ this)];exact this
 ·have:=I.base.frzs b o u q
  rw[Zai (ne _ _ this)];exact this
 ·obtain⟨more,this⟩:=I.base.tbls b ps q
  exact⟨more,by rw[Zai (ne _ _ this)];exact this⟩
 ·rw[Zai fun z=>ha.1 z.symm];exact I.free
 ·rw[Zai (ha.2.1 x c q)];exact I.freeC x c q
 ·obtain⟨q,n,r⟩:=I.pin p hp
  exact⟨q,by rw[Zai (ha.2.2.1 p hp)];exact n,r⟩
 ·by_cases hb:b=e
  ·subst hb
   rw[Zaw] at q
   cases q
   exact⟨p,ho,hφ⟩
  ·rw[Zai hb] at q
   exact(I.hok b o q).stay (fun c v hc z=>z) (fun c z=>by rw[Zai (ne _ _ z)];exact z) fun c zs z=>by rw[Zai (ne _ _ z)];exact z
theorem Zjt{i:Nat}{n:Str}{h':Heap}{v:Option Value}{m:Str->Option Value}{tk:Nat}(I:Inv X pins σ H s)(hN:X.N.Nodup)(hi:X.N[i]?=some n)(hn:s.heap.Ns X.env.locals m)
  (hn':h'.Ns X.env.locals (fun x=>if x=n then v else m x)) (hs:Heap.SameBut X.env.locals s.heap h'):Inv X pins (σ.set i none) H { s with heap:=h',toks:=tk }:=by
 obtain⟨m0,hn0,hl⟩:=I.loc
 have em:m0=m:=by
  obtain⟨o,es,ep,h1,h2,_,h3⟩:=hn0
  obtain⟨o',es',ep',h1',h2',_,h3'⟩:=hn
  rw[h1] at h1'
  cases h1'
  rw[h2] at h2'
  cases h2'
  funext y
  rw[<- h3,<- h3']
 subst em
 obtain⟨oL,_,_,hoL,_⟩:=id hn
 have lt:∀ b o,X.s₀.heap.get? b=some o->b≠X.env.locals:=fun b o q=>Nat.ne_of_lt (Nat.lt_of_lt_of_le (Heap.lt_size q) I.ok.above)
 refine⟨I.ok,I.os,I.bare,⟨fun b o q n hb hx=>?_,fun b o q n hb hx=>?_,I.base.free,fun b o q hx=>?_,I.base.tups,I.base.frzs,I.base.tbls⟩,⟨_,hn',fun j y v' e1 e2 e3=>?_⟩,fun y c q=>?_,I.free,I.freeC,fun p hp=>?_,fun b ob q=>?_,by rw[List.length_set];exact I.len⟩
 ·exact(hs.2 b (lt b o q)).trans (I.base.keep b o q n hb hx)
 ·obtain⟨sl,e1⟩:=I.base.slot b o q n hb hx
  exact⟨sl,(hs.2 b (lt b o q)).trans e1⟩
 ·obtain⟨o',e1⟩:=I.base.there b o q hx
  exact⟨o',(hs.2 b (lt b o q)).trans e1⟩
 ·by_cases hj:i=j
  ·subst hj
   have:=Zaj e2
   cases this
  ·rw[Zab hj] at e2
   obtain⟨u',r',q⟩:=hl j y v' e1 e2 e3
   refine⟨u',r',?_⟩
   rcases q with ⟨k,e⟩|⟨k,c,e,z⟩
   ·refine .inl ⟨k,?_⟩
    have:y≠n:=fun e=>hj (ZeV hN hi (e ▸ e1))
    simp[this,e]
   ·exact .inr ⟨k,c,e,z.sameBut hs (I.cne y c e)⟩
 ·obtain⟨w',z⟩:=I.cell y c q
  exact⟨w',z.sameBut hs (I.cne y c q)⟩
 ·obtain⟨q,n,ne,nf,d⟩:=I.pin p hp
  exact⟨(hs.2 p.1 ne).trans q,n,ne,nf,d⟩
 ·refine(I.hok b ob q).stay (fun c w' hc z=>(hs.2 c ?_).trans z) (fun _ q=>q) fun _ _ q=>q
  rintro rfl
  have hfree:=I.free
  rcases hc with z|hc
  ·rw[<- z,hfree] at q;cases q
  ·rw[hfree] at hc;cases hc
end
noncomputable def Cx.hot(X:Cx)(e:Addr):Cx:={ X with A:=X.A.mark (some (.ref e)),calm:=false,xe:=fun _ _=>False }
section
variable {X:Cx} {pins:Pn} {σ:L2.St} {H:Hp} {s:Shared} {e:Addr}
theorem Zri(ok:X.Ok):(Cx.hot X e).Ok:=⟨ok.mod,ok.kind,ok.glob,ok.blt,ok.above,ok.inj,ok.has,ok.cab,fun z=>(nomatch z),ok.frames,ok.stk,ok.exf,ok.bs,ok.bsz,ok.noex,ok.exfs,ok.funs,ok.frf⟩
theorem Zgx(I:Inv X pins σ H s)(e:Addr):Inv (Cx.hot X e) pins σ H s:=⟨Zri I.ok,I.os,I.bare,I.base,I.loc,I.cell,I.free,I.freeC,I.pin,I.hok,I.len⟩
theorem Zk8(ok:X.Ok)(I:Inv (Cx.hot X e) pins σ H s):Inv X pins σ H s:=⟨ok,I.os,I.bare,I.base,I.loc,I.cell,I.free,I.freeC,I.pin,I.hok,I.len⟩
theorem Sx.unset{K:Fg}{CL:ClA}{Fz:Addr->HO->Prop}{B:Addr->Prop}{ρ:Rho}(x:Sx K CL Fz B ρ σ H)(i:Nat):Sx K CL Fz B (ρ.set i none) (σ.set i none) H:=by
 have get:∀ (j:Nat) (y:D×Bool),(ρ.set i none)[j]?=some (some y)->i≠j/\ρ[j]?=some (some y):=fun j y h=>by
  by_cases hj:i=j
  ·subst hj
   have:=Zaj h
   cases this
  ·exact⟨hj,by rw[Zab hj] at h;exact h⟩
 have sub:∀ a,Za5 B (ρ.set i none) (σ.set i none) a->Za5 B ρ σ a:=fun a h=>by
  rcases h with h|⟨j,d,h1,h2⟩
  ·exact .inl h
  ·obtain⟨hj,h1⟩:=get j _ h1
   rw[Zab hj] at h2
   exact .inr ⟨j,d,h1,h2⟩
 refine⟨⟨fun j d h=>?_,fun j d h=>?_,by rw[List.length_set,List.length_set];exact x.len⟩,fun a h=>x.aok a (sub a h),fun j d a h1 h2=>?_,fun j k d f a h1 h2 h3 h4=>?_,x.same,by rw[List.length_set,List.length_set];exact x.len⟩
 ·obtain⟨hj,h1⟩:=get j _ h
  obtain⟨v,q,r⟩:=x.good.sh j d h1
  exact⟨v,by rw[Zab hj];exact q,Rep.sub sub _ r⟩
 ·obtain⟨hj,h1⟩:=get j _ h
  obtain⟨a,xs,ds,q,z,ha,hh,rr⟩:=x.good.ow j d h1
  exact⟨a,xs,ds,by rw[Zab hj];exact q,z,.inr ⟨j,d,h,by rw[Zab hj];exact q⟩,hh,Reps.sub sub _ rr⟩
 ·obtain⟨hj,h1⟩:=get j _ h1
  rw[Zab hj] at h2
  exact x.new j d a h1 h2
 ·obtain⟨hj,h1⟩:=get j _ h1
  obtain⟨hk,h2⟩:=get k _ h2
  rw[Zab hj] at h3
  rw[Zab hk] at h4
  exact x.dis j k d f a h1 h2 h3 h4
end
noncomputable def Zh5(X:Cx)(CL:ClA)(pins:Pn)(σ:L2.St)(H:Hp)(y:Ex)(Xw:Vq):Prop :=
 ∀ s' H' e T C,Inv X pins σ H' s'->Zag H H'->Fly e T (.ref C) s'.heap->H' e=none->H' T=none->Zh6 X pins e->Zh6 X pins T->CL y.c=some C->y.fs=[]->Xw (.ref e) s'
def STB(X:Cx)(CL:ClA)(body:List Stmt)(f:Rho->O):Prop:=∀ Fz B pins s σ H D ρ (Xw:Vq),PassesOwn (model X.prog X.w) X.A X.env Xw->Inv X pins σ H s->Sx X.K CL Fz B ρ σ H ->
  (match f ρ with
   | .exn y ρ'=>ρ'=ρ->Zh5 X CL pins σ H y Xw
   | o=>Zah X.K CL Fz B (fun _ _=>False) o D)->(∀ y ρ',f ρ=.exn y ρ'->ρ'=ρ)->wpAny (model X.prog X.w) X.A (execs body X.env) (SP X pins D) Xw s
noncomputable def ZxT(up:Nat->List Nat)(c i:Nat)(o:O)(fh:Rho->O):O:=match o with
  | .exn y ρ'=>if (up y.c).contains c=true then (match fh (ρ'.set i (some (.exc y.c y.fs,false))) with
      | .next ρ''=>.next (ρ''.set i none)
      | .ret d f=>.ret d f
      | _=>.bad) else .bad
  | o=>o
theorem ZpQ{X:Cx}{CL:ClA}{W:XW}{up:Nat->List Nat}{c i:Nat}{g n:Str}{C':Addr}{body hs:List Stmt}{h0:Stmt}{p1 hp pos:Pos}{fb fh:Rho->O}(hx:X.ex=[])(hst:X.stack=X.env::X.outer)(hfm:X.env.frame=some X.env.locals)(hN:X.N.Nodup)(hi:X.N[i]?=some n)(hl:X.env.scope.names.lookup n=some .local)
    (hg:Gl X g) (hm:X.mg g=some (.ref C')) (hdb:(g == ("__debug__" : Str))=false) (xc:XcOk X.K C') (hup:∀ c' C,(up c').contains c=true->CL c'=some C->PySem.W.subIn X.K (.ref C) (.ref C')=some true)
    (hb:STB X CL body fb) (hρ:∀ ρ y ρ',fb ρ=.exn y ρ'->ρ'=ρ) (hh:∀ e,SSs (Cx.hot X e) CL (fun _ _=>False) (h0::hs) fh) :
    SS X CL W (.Try body [.ExceptHandler (some (.Name g p1)) (some n) (h0::hs) hp] [] [] pos) (fun ρ=>ZxT up c i (fb ρ) fh):=fun Fz B pins s σ H D I ⟨ρ,x,p⟩=>by
  refine wpAny_Try_except (wpAny_mono (hb Fz B pins s σ H D ρ (fun ev s1=>wpAny (model X.prog X.w) X.A (noteFrame ev X.env) (fun _ s2=>wpAny (model X.prog X.w) X.A (setFlight ev none) (fun _ s3=>wpAny (model X.prog X.w) X.A (handleBy ev X.env [.ExceptHandler (some (.Name g p1)) (some n) (h0::hs) hp]) (SP X pins D) X.xe s3) X.xe s2) X.xe s1) PassesOwn.looking I x ?_ (hρ ρ)) (fun f s1 hf=>?_) fun _ _ z=>z)
  · dsimp only at p
    cases eb:fb ρ with
    | exn y ρ' =>
      rw[eb] at p
      intro e0
      subst e0
      have p2:Zah X.K CL Fz B W (if (up y.c).contains c=true then (match fh (ρ'.set i (some (.exc y.c y.fs,false))) with
        | .next ρ''=>.next (ρ''.set i none)
        | .ret d f=>.ret d f
        | _=>.bad) else .bad) D:=p
      by_cases hc:(up y.c).contains c=true
      · rw[if_pos hc] at p2
        intro s' H' e T C I' sm fl he hT ae aT hcl hfs
        have two:∀ {T:Addr} {Z:Addr->Prop},Z e->Z T->∀ b∈[e,T],Z b:=fun {T Z} h1 h2 b hb=>by
          rcases List.mem_cons.mp hb with rfl|hb
          · exact h1
          · rw[List.mem_singleton.mp hb];exact h2
        have hfr:X.A.frames=some (X.env::X.outer):=by rw[<- hst];exact I'.ok.frames
        refine Zlf (base:=X.base) hfr hfm (by rw[<- hst];exact I'.stack) fl fun h1 T1 fl1 sh1 hT1=>?_
        rw[<- hst] at sh1
        have I1:=ZfD I' hx sh1 (two ae aT) (two (Z:=fun b=>H' b=none) he hT)
        have aT1:Zh6 X pins T1:=hT1.elim (fun z=>z ▸ aT) fun z=>Ze9 I' hx z
        have HT1:H' T1=none:=hT1.elim (fun z=>z ▸ hT) fun z=>Zdl I'.hok z
        have xat:∀ {h:Heap} {T:Addr},Fly e T (.ref C) h->XAt e C h:=fun {h T} z=>by
          obtain⟨oe,_,_,_,_,z1,z2,_⟩:=z
          exact⟨oe,z1,z2⟩
        refine wpAny_handleBy_cons (codeAny_handlers_test (ZcP (X:=Cx.hot X e) (Zgx I1 e) hg hm ?_ hdb)) (by intro q;cases q)
        refine Zkx (K:=X.K) I1.kIn (xat fl1) xc (hup y.c C hc hcl) ?_
        refine codeAny_handlers_suite_as ?_
        refine ZjC (base:=X.base) (l:=X.stack) I1.stack fl1 fun h3 T3 fl3 sh3 hT3=>?_
        have I3:=ZfD I1 hx sh3 (two ae aT1) (two (Z:=fun b=>H' b=none) he HT1)
        obtain⟨oe,oeg,oec⟩:=xat fl3
        have I3':=Zju (φ:=XAt e C) I3 hx ae he ⟨oe,oeg⟩ ⟨oe,oeg,oec⟩ fun h1 h2 ⟨o,q1,q2⟩ k=>⟨o,k o q1,q2⟩
        have sm3:Zag H' (upd H' e (.ext (XAt e C))):=fun b o q=>by rw[Zai fun z=>by rw[z,he] at q;cases q];exact q
        refine ZeL (X:=Cx.hot X e) (i:=i) (v:=.ref e) (Zgx I3' e) hN hi (.inl hl) rfl (fun s4 I4=>?_) (.inr hl)
        have x3:=(x.grow sm).grow sm3
        have nA:¬ Za5 B ρ' σ e:=fun z=>by
          obtain⟨xs,q⟩:=x3.aok e z
          rw[Zaw] at q
          cases q
        have rp:Rep X.K CL (upd H' e (.ext (XAt e C))) (Za5 B ρ' σ) (.ref e) (.exc y.c y.fs):=⟨e,C,XAt e C,rfl,nA,hcl,Zaw,fun h z=>z,.inl hfs⟩
        have x4:=x3.set i rp
        have fin:∀ {s5:Shared} {σ5:L2.St} {H5:Hp} {Q:Unit->Shared->Prop},Inv (Cx.hot X e) pins σ5 H5 s5->(∀ s6,Inv X pins (σ5.set i none) H5 s6->Q () s6)->wpAny (model X.prog X.w) X.A (do bindName X.env n .none;unbindBehindTheSuite X.env n hp) Q X.xe s5:=fun {s5 σ5 H5 Q} I5 k=>by
          have I5':=Zk8 I.ok I5
          obtain⟨m,hn,_⟩:=id I5'.loc
          refine wpAny_nameGoes_keeps hl hn (by rw[I.ok.kind];rfl) fun h6 v6 hn6 sb6=>?_
          exact k _ (Zjt I5' hN hi hn hn6 sb6)
        refine wpAny_mono (hh e Fz B pins s4 _ _ { nx:=fun σ5 H5=>D.nx (σ5.set i none) H5,rt:=D.rt } I4 ⟨_,x4,?_⟩) (fun f s5 hf=>?_) fun _ _ z=>False.elim z
        · cases ef:fh (ρ'.set i (some (.exc y.c y.fs,false))) with
          | next ρ''=>rw[ef] at p2;exact fun σ5 H5 x5=>p2 _ _ (x5.unset i)
          | ret d b=>rw[ef] at p2;exact p2
          | brk _=>rw[ef] at p2;exact p2.elim
          | cont _=>rw[ef] at p2;exact p2.elim
          | exn _ _=>rw[ef] at p2;exact p2.elim
          | bad=>rw[ef] at p2;exact p2.elim
        · cases f with
          | next =>
            obtain⟨σ5,H5,I5,q⟩:=hf
            exact fin I5 fun s6 I6=>⟨_,H5,I6,q⟩
          | ret u =>
            obtain⟨v,σ5,H5,I5,r,q⟩:=hf
            exact fin I5 fun s6 I6=>⟨v,_,H5,I6,r,q⟩
          | brk=>obtain⟨_,_,_,q⟩:=hf;exact False.elim q
          | cont=>obtain⟨_,_,_,q⟩:=hf;exact False.elim q
      · rw[if_neg hc] at p2
        exact p2.elim
    | next ρ'=>rw[eb] at p;exact p
    | ret d b=>rw[eb] at p;exact p
    | brk ρ'=>rw[eb] at p;exact p
    | cont ρ'=>rw[eb] at p;exact p
    | bad=>rw[eb] at p;exact p.elim
  · cases f with
    | next=>exact wpAny_execs_nil hf
    | ret u=>exact hf
    | brk=>exact hf
    | cont=>exact hf
end Ov
end
section
namespace Ov
open PySem PySem.Spec PyProof.Rows L2
theorem Zha{X:Cx}{CX:CXT}{k:Nat}{f:Addr}{fd:FuncData}{ps:List Str}{sp:Sp}{E:XK}{x:Str}{p pos:Pos}{e:Expr}{es:List Expr}{t:TA}{σ0:L2.St}(F:FnOk X.prog X.w X.K X.mg X.base CX k f fd ps sp)(hr:Room k X.A)(hg:Gl X x)(hm:X.mg x=some (.ref f))(hk:PySem.W.keepIn X.K (.ref f)=true)(hb:ZcH X.K fd ps [])
  (hx:∀ pins H s e s',Inv X pins σ0 H s->CX X.stack H s E e s'->X.xe e s') (ha:PA X (e::es) t) (hdb:(x == ("__debug__" : Str))=false) (he:starEach (e::es) X.env=(false,eval e X.env)::starEach es X.env) (hpl:(backTo pos (starEach es X.env)).any (·.1)=false) :
  PE X (.Call (.Name x p) (e::es) [] pos) (fun σ H Q=>σ=σ0/\t σ H fun vs H1=>sp vs H1 Q E):=by
 intro pins s σ H Q I ⟨e0,h⟩
 subst e0
 refine wpAny_Call_Name_kw (ZcP I hg hm ?_ hdb)
 refine PySem.W.callWith_K (h₀:=X.base) I.ok.mod.kin hk (thn (ha pos pins s σ H _ I h) fun us s1 ⟨vs,H1,I1,r,q⟩=>⟨I1.kIn,?_⟩) he hpl
 have hl:us.length=ps.length:=by rw[<- r.length];exact F.len _ _ _ _ q
 have hb':BindsTo s1 fd ⟨us,[]⟩ (ps.zip us):=by
  have:=hb s1 us I1.kIn (by rw[List.append_nil];exact hl)
  rw[List.append_nil] at this
  exact this
 refine wpAny_call (codeAny_mono (F.run X.A X.stack s1 H1 ⟨us,[]⟩ us vs Q E hr I1.env0 hb' r q) fun r s' hq=>?_)
 cases r with
 | error e=>exact hx pins H1 s1 e s' I1 hq
 | ok fl =>
  cases fl with
  | ret u=>exact I1.after hq
  | next=>exact False.elim hq
  | brk=>exact False.elim hq
  | cont=>exact False.elim hq
def Zpb(CL:ClA)(Rp:Hp->V->D->Prop)(E0:Value->Hp->Prop)(H:Hp)(r:R D)(Q:VK):Prop:=match r with
  | .ok d=>∀ v H',Zag H H'->Rp H' v d->Q v H'
  | .exn y=>∀ cls H' C,Zag H H'->CL y.c=some C->cls=.ref C->y.fs=[]->E0 cls H'
  | .bad=>False
theorem Zdf{X:Cx}{CL:ClA}{CX:CXT}{k n:Nat}{fr:Bool}{f:Addr}{fd:FuncData}{ps:List Str}{F:List D->R D}{x:Str}{p pos:Pos}{e:Expr}{es:List Expr}{fs ft:Rho->R (List D)}{sh:Rho->Bool}{E0:Value->Hp->Prop}{σ0:L2.St}(G:FnOk X.prog X.w X.K X.mg X.base CX k f fd ps (spD X.K CL n fr F))(hr:Room k X.A)(hg:Gl X x)(hm:X.mg x=some (.ref f))
  (hk:PySem.W.keepIn X.K (.ref f)=true) (hb:ZcH X.K fd ps []) (hx:∀ pins H s e s',Inv X pins σ0 H s->CX X.stack H s (fun cls dx H'=>dx=none->E0 cls H') e s'->X.xe e s') (ha:SA X CL (fun _ _=>False) (e::es) fs) (hat:SAT X CL (fun _ _=>False) (e::es) ft) (hst:∀ ρ,sh ρ=true->ft ρ=fs ρ) (hn:∀ ρ ds,ft ρ=.ok ds->ds.length=n) (hnx:∀ ρ y,ft ρ≠.exn y)
  (hdb:(x == ("__debug__" : Str))=false) (he:starEach (e::es) X.env=(false,eval e X.env)::starEach es X.env) (hpl:∀ pos,(backTo pos (starEach es X.env)).any (·.1)=false) (A:Addr->Prop) :
  PE X (.Call (.Name x p) (e::es) [] pos) (fun σ H Q=>σ=σ0/\AOk H A/\∃ ρ,Good X.K CL A ρ σ H/\Zpb CL (Zcp X.K CL fr H A) E0 H ((ft ρ).bind fun ds=>(F ds).bind fun d=>if sh ρ=true then .ok d else if Zgd fr d=true then .ok d else .bad) Q):=fun pins s σ H Q I ⟨e0,hA,ρ,gd,q⟩=>by
 have xf:∀ {A':Addr->Prop} {H2:Hp} {cls:Value} {y:Ex},Zpt X.K CL H2 A' cls none y->(∃ C,CL y.c=some C/\cls=.ref C)/\y.fs=[]:=fun {A' H2 cls y} ⟨C,c1,c2,c3⟩=>⟨⟨C,c1,c2⟩,c3.resolve_right fun ⟨d,vs,z,_⟩=>nomatch z⟩
 by_cases hs:sh ρ=true
 ·rw[hst ρ hs] at q
  refine Zha G hr hg hm hk hb hx (ha A) hdb he (hpl _) pins s σ H Q I ⟨e0,hA,ρ,gd,?_⟩
  cases e1:fs ρ with
  | bad=>rw[e1] at q;exact q
  | exn y=>exact absurd (by rw[hst ρ hs];exact e1) (hnx ρ y)
  | ok ds =>
   rw[e1] at q
   intro vs H1 s1 r1
   refine⟨ds,A,by rw[r1.length];exact hn ρ ds (by rw[hst ρ hs];exact e1),hA.same s1,r1,?_⟩
   have q':Zpb CL (Zcp X.K CL fr H A) E0 H ((F ds).bind fun d=>if sh ρ=true then .ok d else if Zgd fr d=true then .ok d else .bad) Q:=q
   cases e2:F ds with
   | ok d =>
    rw[e2,R.bind_ok,if_pos hs] at q'
    exact fun v H2 s2 r2=>q' v H2 (s1.trans s2) ⟨r2.1,fun z ds' e'=>let ⟨a,xs,z1,z2,z3⟩:=r2.2 z ds' e';⟨a,xs,z1,s1.free z2,z3⟩⟩
   | exn y =>
    rw[e2] at q'
    intro cls dx H2 s2 xr hdx
    subst hdx
    obtain⟨⟨C,c1,c2⟩,c3⟩:=xf xr
    exact q' cls H2 C (s1.trans s2) c1 c2 c3
   | bad=>rw[e2] at q';exact q'.elim
 ·refine Zha G hr hg hm hk hb hx (hat A) hdb he (hpl _) pins s σ H Q I ⟨e0,hA,ρ,gd,?_⟩
  cases e1:ft ρ with
  | bad=>rw[e1] at q;exact q
  | exn y=>exact absurd e1 (hnx ρ y)
  | ok ds =>
   rw[e1] at q
   intro vs H1 s1 r1
   refine⟨ds,A0,by rw[r1.plain.length];exact hn ρ ds e1,fun _ z=>z.elim,r1.plain,?_⟩
   have q':Zpb CL (Zcp X.K CL fr H A) E0 H ((F ds).bind fun d=>if sh ρ=true then .ok d else if Zgd fr d=true then .ok d else .bad) Q:=q
   cases e2:F ds with
   | ok d =>
    rw[e2,R.bind_ok,if_neg hs] at q'
    split at q'
    ·rename_i hc
     exact fun v H2 s2 r2=>q' v H2 (s1.trans s2) (ZjN hA (s1.trans s2) hc ⟨r2.1,fun z ds' e'=>let ⟨a,xs,z1,z2,z3⟩:=r2.2 z ds' e';⟨a,xs,z1,s1.free z2,z3⟩⟩)
    ·exact q'.elim
   | exn y =>
    rw[e2] at q'
    intro cls dx H2 s2 xr hdx
    subst hdx
    obtain⟨⟨C,c1,c2⟩,c3⟩:=xf xr
    exact q' cls H2 C (s1.trans s2) c1 c2 c3
   | bad=>rw[e2] at q';exact q'.elim
noncomputable def Cx.pw(X:Cx)(pins:Pn)(Xw:Vq):Cx:={ X with pn:=X.pn++pins,xe:=Xw }
section
variable {X:Cx} {pins pins':Pn} {σ:L2.St} {H:Hp} {s:Shared} {Xw:Vq}
theorem Zwe(ok:X.Ok):(Cx.pw X pins Xw).Ok:=⟨ok.mod,ok.kind,ok.glob,ok.blt,ok.above,ok.inj,ok.has,ok.cab,ok.hd,ok.frames,ok.stk,ok.exf,ok.bs,ok.bsz,ok.noex,ok.exfs,ok.funs,ok.frf⟩
theorem ZfE(I:Inv X pins σ H s)(Xw:Vq):Inv (Cx.pw X pins Xw) [] σ H s:=⟨Zwe I.ok,I.os,I.bare,I.base,I.loc,I.cell,I.free,I.freeC,fun p hp=>I.pin p (by
 rcases List.mem_append.mp hp with z|z
 ·exact z
 ·exact absurd z (by simp)),I.hok,I.len⟩
theorem Zcb(ok:X.Ok)(I:Inv (Cx.pw X pins Xw) pins' σ H s):Inv X pins σ H s:=⟨ok,I.os,I.bare,I.base,I.loc,I.cell,I.free,I.freeC,fun p hp=>I.pin p (List.mem_append_left _ hp),I.hok,I.len⟩
theorem ZeM(ok:X.Ok){D:Ends}{f:Flow}{s':Shared}(h:SP (Cx.pw X pins Xw) pins' D f s'):SP X pins D f s':=by
 cases f with
 | next=>obtain⟨σ',H',I,q⟩:=h;exact⟨σ',H',Zcb ok I,q⟩
 | brk=>obtain⟨σ',H',I,q⟩:=h;exact⟨σ',H',Zcb ok I,q⟩
 | cont=>obtain⟨σ',H',I,q⟩:=h;exact⟨σ',H',Zcb ok I,q⟩
 | ret u=>obtain⟨v,σ',H',I,r,q⟩:=h;exact⟨v,σ',H',Zcb ok I,r,q⟩
end
section
variable {X:Cx} {CL:ClA} {k n:Nat} {fr:Bool} {f:Addr} {fd:FuncData} {ps:List Str} {F:List D->R D} {x:Str} {p pos pos2:Pos} {e:Expr} {es:List Expr} {fs ft:Rho->R (List D)} {sh:Rho->Bool}
theorem Zif{σ:L2.St}{H:Hp}{pins:Pn}{y:Ex}{Xw:Vq}(hx:X.ex=[])(ok:X.Ok)(q:Zh5 X CL pins σ H y Xw) :
  ∀ pins' H1 s1 e s',Inv (Cx.pw X pins Xw) pins' σ H1 s1->CXR X.prog X.w (Cx.pw X pins Xw).stack H1 s1 (fun cls dx H'=>dx=none->(∃ C,CL y.c=some C/\cls=.ref C)/\y.fs=[]/\Zag H H') e s'->(Cx.pw X pins Xw).xe e s':=by
 intro pins' H1 s1 ev s' J h
 obtain⟨e,T,cls,H',rfl,os,bare,un,hok,fl,he,hT,ne,nT,w⟩:=h
 obtain⟨⟨C,c1,c2⟩,yfs,sm⟩:=w rfl
 subst c2
 have J':=Zcb ok J
 have J2:=J'.call' (s':=s') (ch:=[]) os un hok bare (fun b z=>absurd z (by simp))
 exact q s' H' e T C J2 sm fl he hT (Ze9 J' hx ne) (Ze9 J' hx nT) c1 yfs
theorem Zig{σ:L2.St}{pins:Pn}{Xw:Vq} :
  ∀ pins' H1 s1 e s',Inv (Cx.pw X pins Xw) pins' σ H1 s1->CXR X.prog X.w (Cx.pw X pins Xw).stack H1 s1 (fun cls dx H'=>dx=none->False) e s'->(Cx.pw X pins Xw).xe e s':=by
 intro pins' H1 s1 ev s' J h
 obtain⟨e,T,cls,H',rfl,os,bare,un,hok,fl,he,hT,ne,nT,w⟩:=h
 exact(w rfl).elim
variable (hx0:X.ex=[]) (G:FnOk X.prog X.w X.K X.mg X.base (CXR X.prog X.w) k f fd ps (spD X.K CL n fr F)) (hr:Room k X.A) (hg:Gl X x) (hm:X.mg x=some (.ref f))
    (hk:PySem.W.keepIn X.K (.ref f)=true) (hb:ZcH X.K fd ps []) (hst:∀ ρ,sh ρ=true->ft ρ=fs ρ) (hn:∀ ρ ds,ft ρ=.ok ds->ds.length=n) (hnx:∀ ρ y,ft ρ≠.exn y)
    (hdb:(x == ("__debug__" : Str))=false) (he:starEach (e::es) X.env=(false,eval e X.env)::starEach es X.env) (hpl:∀ pos,(backTo pos (starEach es X.env)).any (·.1)=false)
    (ha:∀ pins Xw,PassesOwn (model X.prog X.w) X.A X.env Xw->SA (Cx.pw X pins Xw) CL (fun _ _=>False) (e::es) fs/\SAT (Cx.pw X pins Xw) CL (fun _ _=>False) (e::es) ft)
include hx0 G hr hg hm hk hb hst hn hnx hdb he hpl ha
theorem ZkF(hs:swapsWith (.Call (.Name x p) (e::es) [] pos) none pos2.line X.env=pure false):STB X CL [.Expr (.Call (.Name x p) (e::es) [] pos) pos2] (fun ρ=>O.of ρ ((ft ρ).bind fun ds=>(F ds).bind fun d=>if sh ρ=true then .ok d else if Zgd fr d=true then .ok d else .bad) fun _=>.next ρ):=by
 intro Fz B pins s σ H D ρ Xw own I sx q _
 obtain⟨ha1,ha2⟩:=ha pins Xw own
 dsimp only at q
 cases er:(ft ρ).bind fun ds=>(F ds).bind fun d=>if sh ρ=true then .ok d else if Zgd fr d=true then .ok d else .bad with
 | bad=>rw[er] at q;exact q.elim
 | exn y =>
  rw[er] at q
  have key:=Zdf (X:=Cx.pw X pins Xw) (p:=p) (pos:=pos) (σ0:=σ) (fr:=fr) (F:=F) (n:=n) (sh:=sh) G hr hg hm hk hb (Zif hx0 I.ok (q rfl)) ha1 ha2 hst hn hnx hdb he hpl (Za5 B ρ σ)
  refine wpAny_mono (ZeS (Zdt (pos:=pos2) key hs) [] s σ H D (ZfE I Xw) ⟨rfl,sx.aok,ρ,sx.good,?_⟩) (fun _ _ z=>ZeM I.ok z) fun _ _ z=>z
  rw[er]
  exact fun cls H' C sm c1 c2 c3=>⟨⟨C,c1,c2⟩,c3,sm⟩
 | ok d =>
  rw[er] at q
  have key:=Zdf (X:=Cx.pw X pins Xw) (p:=p) (pos:=pos) (σ0:=σ) (fr:=fr) (F:=F) (n:=n) (sh:=sh) (E0:=fun _ _=>False) G hr hg hm hk hb Zig ha1 ha2 hst hn hnx hdb he hpl (Za5 B ρ σ)
  refine wpAny_mono (ZeS (Zdt (pos:=pos2) key hs) [] s σ H D (ZfE I Xw) ⟨rfl,sx.aok,ρ,sx.good,?_⟩) (fun _ _ z=>ZeM I.ok z) fun _ _ z=>z
  rw[er]
  exact fun v H' sm r=>q σ H' (sx.grow sm)
theorem ZmZ{i:Nat}{m:Str}{pos':Pos}(hN:X.N.Nodup)(hi:X.N[i]?=some m)(hl:Loc X.env.scope m)(hf:X.fn m=true\/X.env.scope.names.lookup m=some .local)(hs:swapsWith (.Call (.Name x p) (e::es) [] pos) (some (.Name m pos')) pos2.line X.env=pure false):STB X CL [.Assign [.Name m pos'] (.Call (.Name x p) (e::es) [] pos) pos2] (fun ρ=>O.of ρ ((ft ρ).bind fun ds=>(F ds).bind fun d=>if sh ρ=true then .ok d else if Zgd fr d=true then .ok d else .bad) fun d=>.next (ρ.set i (some (d,false)))):=by
 intro Fz B pins s σ H D ρ Xw own I sx q _
 obtain⟨ha1,ha2⟩:=ha pins Xw own
 dsimp only at q
 cases er:(ft ρ).bind fun ds=>(F ds).bind fun d=>if sh ρ=true then .ok d else if Zgd fr d=true then .ok d else .bad with
 | bad=>rw[er] at q;exact q.elim
 | exn y =>
  rw[er] at q
  have key:=Zdf (X:=Cx.pw X pins Xw) (p:=p) (pos:=pos) (σ0:=σ) (fr:=fr) (F:=F) (n:=n) (sh:=sh) G hr hg hm hk hb (Zif hx0 I.ok (q rfl)) ha1 ha2 hst hn hnx hdb he hpl (Za5 B ρ σ)
  refine wpAny_mono (ZeS (Zg7 (X:=Cx.pw X pins Xw) (i:=i) (pos:=pos2) hN hi hl key hs hf) [] s σ H D (ZfE I Xw) ⟨rfl,sx.aok,ρ,sx.good,?_⟩) (fun _ _ z=>ZeM I.ok z) fun _ _ z=>z
  rw[er]
  exact fun cls H' C sm c1 c2 c3=>⟨⟨C,c1,c2⟩,c3,sm⟩
 | ok d =>
  rw[er] at q
  have key:=Zdf (X:=Cx.pw X pins Xw) (p:=p) (pos:=pos) (σ0:=σ) (fr:=fr) (F:=F) (n:=n) (sh:=sh) (E0:=fun _ _=>False) G hr hg hm hk hb Zig ha1 ha2 hst hn hnx hdb he hpl (Za5 B ρ σ)
  refine wpAny_mono (ZeS (Zg7 (X:=Cx.pw X pins Xw) (i:=i) (pos:=pos2) hN hi hl key hs hf) [] s σ H D (ZfE I Xw) ⟨rfl,sx.aok,ρ,sx.good,?_⟩) (fun _ _ z=>ZeM I.ok z) fun _ _ z=>z
  rw[er]
  exact fun v H' sm r=>q _ H' ((sx.grow sm).set i r.1)
end
end Ov
end
section
namespace Ov
open PySem PySem.Spec PyProof.Rows L2
theorem Zlg{K:Fg}{h0:Heap}{C:Addr}(X0:K.In h0)(q:PySem.W.excIn K C veB "ValueError.__new__" = true) :
  ∃ bm N nm qn bs hd sn sub ab col dd k0 k1 k2 k3 k5 mN,(∀ h:Heap,K.In h->h.get? C=some (excClassObj nm qn C N bs bm hd sn sub ab col dd k0 k1 k2 k3 k5 "ValueError.__new__")/\h.Ns N mN/\OwnTail h veB bm)/\mN "__init__" = none/\bm.contains (.type "BaseException")=true:=by
 unfold PySem.W.excIn at q
 split at q
 ·rename_i dd cd sl ho
  split at q
  ·rename_i C' bm k0 k1 k2 k3 n k5 hm hs
   simp only[Bool.and_eq_true,beq_iff_eq,Bool.not_eq_true'] at q
   obtain⟨⟨⟨⟨⟨rfl,rfl⟩,hdel⟩,ht⟩,hok⟩,hni⟩:=q
   obtain⟨nm,bs,mro,ns,qn,hd,sn,sub,ab,col,del⟩:=cd
   dsimp only at hm hdel hok hni
   subst hm hdel
   have hsl:sl=#[k0,k1,k2,k3,some (.builtin "ValueError.__new__"),k5]:=by
    obtain⟨l⟩:=sl
    simp only at hs
    rw[hs]
   subst hsl
   have kN:∃ o,K.lookup ns=some o:=by
    unfold PySem.W.nsOkIn at hok
    split at hok
    ·rename_i z;exact⟨_,z⟩
    ·cases hok
   obtain⟨oN,hoN⟩:=kN
   have nsAt:∀ h:Heap,K.In h->h.Ns ns (h0.nsMap ns):=fun h X=>by
    obtain⟨o,es,ep,e1,r⟩:=Heap.Ns.of_isNs (PySem.W.isNs_of_in X0 hok)
    have e2:=X0 _ _ hoN
    rw[e1] at e2
    cases e2
    exact⟨_,es,ep,X _ _ hoN,r⟩
   exact⟨bm,ns,nm,qn,bs,hd,sn,sub,ab,col,dd,k0,k1,k2,k3,k5,h0.nsMap ns,fun h X=>⟨X _ _ ho,nsAt h X,PySem.W.tail_of_in X ht⟩,PySem.W.nsMap_none_of_in X0 hok hni,(PySem.W.tail_of_in X0 ht).hasType (by decide)⟩
  ·cases q
 ·cases q
section
variable {X:Cx} {CL:ClA} {W:XW}
theorem ZkG{c:Nat}{C:Addr}{g:Str}{np cpos pos:Pos}{e:Expr}{es:List Expr}{fs:Rho->R (List D)}{xn:Nat->List D->R Ex}(hcalm:X.calm=true)(rz:Zt6 X CL W)(hg:Gl X g)(hm:X.mg g=some (.ref C))(hdb:(g == ("__debug__" : Str))=false)(xc:XcOk X.K C)(hcl:CL c=some C)(ha:SA X CL W (e::es) fs)
  (hxn:∀ ds,xn c ds=.bad\/xn c ds=.ok ⟨c,[]⟩) (he:starEach (e::es) X.env=(false,eval e X.env)::starEach es X.env) (hpl:∀ pos,(backTo pos (starEach es X.env)).any (·.1)=false) (hz:∀ ρ ds,fs ρ=.ok ds->ds.length<=100000) :
  SS X CL W (.Raise (some (.Call (.Name g np) (e::es) [] cpos)) none pos) (fun ρ=>O.of ρ (noX (fs ρ)) fun xs=>O.of ρ (xn c xs) fun x=>.exn x ρ):=fun Fz B pins s σ H D I ⟨ρ,x,p⟩=>by
 dsimp only at p
 cases e1:fs ρ with
 | bad=>rw[e1] at p;exact p.elim
 | exn y=>rw[e1] at p;exact p.elim
 | ok ds =>
  rw[e1] at p
  have p2:Zah X.K CL Fz B W (O.of ρ (xn c ds) fun x=>.exn x ρ) D:=p
  rcases hxn ds with e2|e2
  ·rw[e2] at p2;exact p2.elim
  ·rw[e2] at p2
   have p3:∀ H,(∀ b o,Fz b o->H b=some o)->W ⟨c,[]⟩ H:=p2
   obtain⟨bm,N,nm,qn,bs,hd,sn,sub,ab,col,dd,k0,k1,k2,k3,k5,mN,hob,hni,hbase⟩:=Zlg I.kIn xc.exc
   refine wpAny_Raise_call_subT (bmB:=veB) (nm:=nm) (q:=qn) (C:=C) (N:=N) (bs:=bs) (bm:=bm) (hdct:=hd) (sn:=sn) (sub:=sub) (ab:=ab) (col:=col) (dd:=dd) (k0:=k0) (k1:=k1) (k2:=k2) (k3:=k3) (k5:=k5) (mN:=mN) PySem.F.excBase_ValueError hbase (I.ok.hd hcalm) (by rw[he];show (false||(backTo cpos (starEach es X.env)).any (·.1))=false;rw[hpl];rfl) hni ?_
   refine ZcP I hg hm ⟨rfl,?_⟩ hdb
   have q1:=ha (Za5 B ρ σ) cpos pins s σ H (fun vs H1=>Zag H H1/\vs.length=ds.length) I ⟨x.aok,ρ,x.good,by rw[e1];exact fun vs H1 s1 r1=>⟨s1,r1.length⟩⟩
   rw[he] at q1 ⊢
   refine Calls.evalArgs_plain (wpAny_mono q1 (fun us s2 ⟨vs,H2,I2,r2,s2',hl⟩=>⟨rfl,?_⟩) fun _ _ z=>z)
   obtain⟨o1,o2,o3⟩:=hob _ I2.kIn
   refine⟨?_,o1,o2,o3,fun h' ev hmade=>?_⟩
   ·rw[<- r2.length,hl,sizeLine_eq]
    have:=hz ρ ds e1
    omega
   ·exact rz pins σ H2 s2 h' ev C us ⟨c,[]⟩ I2 hmade hcl rfl (p3 H2 fun b o z=>s2' _ _ (x.same b o z))
def Zf9(K:Fg)(CL:ClA)(up:Nat->List Nat)(c':Nat)(C':Addr):Prop:=∀ c C,CL c=some C->PySem.W.kitOne K (.ref C) (.ref C')=some ((up c).contains c')
theorem Zhg{pins:Pn}{s:Shared}{σ:L2.St}{H:Hp}{a C:Addr}{φ:Heap->Prop}{cv:Value}{b:Bool}{Q:VK}(I:Inv X pins σ H s)(ha:H a=some (.ext φ))(hφ:∀ h,φ h->∃ o,h.get? a=some o/\o.cls=.ref C)(xc:XcOk X.K C)(e:PySem.W.kitOne X.K (.ref C) cv=some b)(q:Q (.bl b) H) :
  wpAny (model X.prog X.w) X.A (call (.builtin "isinstance") [.ref a,cv]) (EP X pins σ Q) X.xe s:=by
 have p:XAt a C s.heap:=hφ _ (I.hok a _ ha).1
 exact PySem.W.kia_one (Zhf xc) I.kIn p e (by intro z;cases z) fun tk=>⟨.bl b,H,I.tok tk,rfl,q⟩
theorem Zfg:∀ (Cs:List Addr) {its:List Value},Zar (Cs.map V.ref) its->its=Cs.map Value.ref
 | [],_,rv=>by cases rv;rfl
 | c::cs,_,rv=>by
  cases rv with
  | cons h1 h2=>rw[Zfg cs h2];cases h1;rfl
theorem Zof{pins:Pn}{s:Shared}{σ:L2.St}{H:Hp}{a C tp:Addr}{φ:Heap->Prop}{Cs:List Addr}{b:Bool}{Q:VK}(I:Inv X pins σ H s)(ha:H a=some (.ext φ))(hφ:∀ h,φ h->∃ o,h.get? a=some o/\o.cls=.ref C)(xc:XcOk X.K C)(ht:H tp=some (.tup (Cs.map V.ref)))(e:PySem.W.kitAny X.K (.ref C) (Cs.map Value.ref)=some b)(q:Q (.bl b) H) :
  wpAny (model X.prog X.w) X.A (call (.builtin "isinstance") [.ref a,.ref tp]) (EP X pins σ Q) X.xe s:=by
 have p:XAt a C s.heap:=hφ _ (I.hok a _ ha).1
 obtain⟨_,its,rv,⟨o,ho,hc,n,hd⟩⟩:=I.hok tp _ ht
 have ei:its=Cs.map Value.ref:=Zfg Cs rv
 subst ei
 obtain⟨cls,dd,dat,sl⟩:=o
 have hc':cls=.type "tuple" := hc
 have hd':dat=.seq (List.toArray (Cs.map Value.ref)) n:=hd
 subst hc' hd'
 exact PySem.W.kia_tup (Zhf xc) I.kIn p ho e (by intro z;cases z) fun tk=>⟨.bl b,H,I.tok tk,rfl,q⟩
theorem Zjn{K:Fg}{up:Nat->List Nat}{c:Nat}{C:Addr}(h:CL c=some C):∀ (cs:List (Nat×Addr)),(∀ p∈cs,Zf9 K CL up p.1 p.2)->PySem.W.kitAny K (.ref C) ((cs.map fun q:Nat×Addr=>q.2).map Value.ref)=some (cs.any fun p=>(up c).contains p.1)
  | [],_=>rfl
  | p::cs,hk=>by
    have h1:=hk p List.mem_cons_self c C h
    have h2:=Zjn h cs fun q hq=>hk q (List.mem_cons_of_mem _ hq)
    show (match PySem.W.kitOne K (.ref C) (.ref p.2) with
      | some true=>some true
      | some false=>PySem.W.kitAny K (.ref C) ((cs.map fun q:Nat×Addr=>q.2).map Value.ref)
      | none=>none)=_
    rw[h1,List.any_cons]
    cases (up c).contains p.1 with
    | true=>rfl
    | false=>rw[h2];rfl
theorem ZeZ{up:Nat->List Nat}{ks:List Ki}{d:D}{Rp:Hp->V->D->Prop}{H:Hp}{Q:VK}(hk:ks.all ZdR=true)(hne:ks≠[])(p:Zas Rp W H (Zee up ks d) Q):∃ c fs,d=.exc c fs/\Zas Rp W H (.ok (.bl (ks.any fun k=>kiD up k d))) Q:=by
 have ha:ks.any ZdR=true:=by
  cases ks with
  | nil=>exact absurd rfl hne
  | cons k ks=>simp only[List.all_cons,Bool.and_eq_true] at hk;simp[List.any_cons,hk.1]
 cases d with
 | exc c fs=>exact⟨c,fs,rfl,by
   have p':Zas Rp W H (if ks.all ZdR=true then .ok (.bl (ks.any fun k=>kiD up k (.exc c fs))) else .bad) Q:=p
   rw[if_pos hk] at p'
   exact p'⟩
 | obj c fs=>exact False.elim p
 | dic _=>exact False.elim p
 | non=>simp only[Zee,ha,if_true] at p;exact False.elim p
 | bl _=>simp only[Zee,ha,if_true] at p;exact False.elim p
 | int _=>simp only[Zee,ha,if_true] at p;exact False.elim p
 | str _=>simp only[Zee,ha,if_true] at p;exact False.elim p
 | tup _=>simp only[Zee,ha,if_true] at p;exact False.elim p
 | lst _=>simp only[Zee,ha,if_true] at p;exact False.elim p
theorem Zgn{K:Fg}{H:Hp}{A:Addr->Prop}{v:V}{c:Nat}{fs:List (Str×D)}(r:Zb1 K CL H A v (.exc c fs)):∃ a C φ,v=.ref a/\CL c=some C/\H a=some (.ext φ)/\∀ h,φ h->∃ o,h.get? a=some o/\o.cls=.ref C:=by
 rcases r with ⟨a,C,φ,e,_,hc,hH,hφ,_⟩|⟨a,xs,ds,_,z,_⟩
 ·exact⟨a,C,φ,e,hc,hH,hφ⟩
 ·cases z
variable {a:Expr} {fa:Rho->R D} {up:Nat->List Nat} {x:Str} {p p2 pos:Pos}
theorem Zqe{c':Nat}{C':Addr}(hxc:∀ c C,CL c=some C->XcOk X.K C)(hg:Gl X "isinstance")(hm:X.mg "isinstance" = none)(hg2:Gl X x)(hm2:X.mg x=some (.ref C'))(hkit:Zf9 X.K CL up c' C')(hdb:(x == ("__debug__" : Str))=false)
  (ha:ST X CL W a fa) (he:starEach [a,.Name x p2] X.env=(false,eval a X.env)::starEach [.Name x p2] X.env):SE X CL W (.Call (.Name "isinstance" p) [a,.Name x p2] [] pos) (fun ρ=>(fa ρ).bind fun x=>Zee up [.cls c'] x):=fun A =>
 PE.weak (Zb4 (r:=fun xs H Q=>∃ a C φ c,xs=[.ref a,.ref C']/\CL c=some C/\H a=some (.ext φ)/\(∀ h,φ h->∃ o,h.get? a=some o/\o.cls=.ref C)/\Q (.bl ((up c).contains c')) H) (fun pins s σ H xs us Q I r ⟨b,C,φ,c,e,hc,hH,hφ,q⟩=>by
   subst e
   obtain⟨u,w',rfl,r1,r2⟩:=ZhH r
   cases r1
   cases r2
   exact Zhg I hH hφ (hxc c C hc) (hkit c C hc) q)
  hg hm boot_isinstance (Zao (ha A) (Zao (Zgp (v:=.ref C') hg2 hm2 rfl hdb) Zbj rfl) he) (by decide) (by decide) he rfl) fun σ H Q ⟨hA,ρ,g,q⟩=>⟨hA,ρ,g,Zas.bind q fun d v H1 _ s1 r1 p1=>by
   obtain⟨c,fs,rfl,p2⟩:=ZeZ (by rfl) (by simp) p1
   obtain⟨b,C,φ,rfl,hc,hH,hφ⟩:=Zgn r1
   refine⟨b,C,φ,c,rfl,hc,hH,hφ,p2 _ H1 (Zag.refl H1) ?_⟩
   show V.bl _=V.bl _
   simp[kiD]⟩
theorem Zqb(hxc:∀ c C,CL c=some C->XcOk X.K C)(hg:Gl X "isinstance")(hm:X.mg "isinstance" = none)(hg2:Gl X "ValueError")(hm2:X.mg "ValueError" = none)
  (ha:ST X CL W a fa) (he:starEach [a,.Name "ValueError" p2] X.env=(false,eval a X.env)::starEach [.Name "ValueError" p2] X.env):SE X CL W (.Call (.Name "isinstance" p) [a,.Name "ValueError" p2] [] pos) (fun ρ=>(fa ρ).bind fun x=>Zee up [.verr] x):=fun A =>
 PE.weak (Zb4 (r:=fun xs H Q=>∃ a C φ c,xs=[.ref a,.ty "ValueError"]/\CL c=some C/\H a=some (.ext φ)/\(∀ h,φ h->∃ o,h.get? a=some o/\o.cls=.ref C)/\Q (.bl true) H) (fun pins s σ H xs us Q I r ⟨b,C,φ,c,e,hc,hH,hφ,q⟩=>by
   subst e
   obtain⟨u,w',rfl,r1,r2⟩:=ZhH r
   cases r1
   cases r2
   exact Zhg I hH hφ (hxc c C hc) (hxc c C hc).ve q)
  hg hm boot_isinstance (Zao (ha A) (Zao (Zi5 (v:=.ty "ValueError") hg2 hm2 PyProof.Rows.Boot.«ValueError» rfl (by decide) (by decide)) Zbj rfl) he) (by decide) (by decide) he rfl) fun σ H Q ⟨hA,ρ,g,q⟩=>⟨hA,ρ,g,Zas.bind q fun d v H1 _ s1 r1 p1=>by
   obtain⟨c,fs,rfl,p2⟩:=ZeZ (by rfl) (by simp) p1
   obtain⟨b,C,φ,rfl,hc,hH,hφ⟩:=Zgn r1
   refine⟨b,C,φ,c,rfl,hc,hH,hφ,p2 _ H1 (Zag.refl H1) ?_⟩
   show V.bl _=V.bl _
   simp[kiD]⟩
def Zx1(Cs:List Addr):TA:=fun _ H Q=>Q (Cs.map V.ref) H
theorem Zqc{ts:List Expr}{kk:Nat}{cs:List (Nat×Addr)}(hxc:∀ c C,CL c=some C->XcOk X.K C)(hg:Gl X "isinstance")(hm:X.mg "isinstance" = none)(hts:PA X ts (Zx1 (cs.map fun q:Nat×Addr=>q.2)))(hne:cs≠[])(hl:cs.length<=1000)(hkit:∀ q∈cs,Zf9 X.K CL up q.1 q.2)
  (ha:ST X CL W a fa) (he:starEach [a,.Tuple ts kk p2] X.env=(false,eval a X.env)::starEach [.Tuple ts kk p2] X.env):SE X CL W (.Call (.Name "isinstance" p) [a,.Tuple ts kk p2] [] pos) (fun ρ=>(fa ρ).bind fun x=>Zee up (cs.map fun q=>.cls q.1) x):=fun A =>
 PE.weak (Zb4 (r:=fun xs H Q=>∃ a C φ c tp,xs=[.ref a,.ref tp]/\CL c=some C/\H a=some (.ext φ)/\(∀ h,φ h->∃ o,h.get? a=some o/\o.cls=.ref C)/\H tp=some (.tup ((cs.map fun q:Nat×Addr=>q.2).map V.ref))/\Q (.bl (cs.any fun q=>(up c).contains q.1)) H) (fun pins s σ H xs us Q I r ⟨b,C,φ,c,tp,e,hc,hH,hφ,ht,q⟩=>by
   subst e
   obtain⟨u,w',rfl,r1,r2⟩:=ZhH r
   cases r1
   cases r2
   exact Zof I hH hφ (hxc c C hc) ht (Zjn hc cs hkit) q)
  hg hm boot_isinstance (Zao (ha A) (Zao (ZlW hts) Zbj rfl) he) (by decide) (by decide) he rfl) fun σ H Q ⟨hA,ρ,g,q⟩=>⟨hA,ρ,g,Zas.bind q fun d v H1 _ s1 r1 p1=>by
   have hk:(cs.map fun q=>Ki.cls q.1).all ZdR=true:=by simp[List.all_map,ZdR]
   obtain⟨c,fs,rfl,p2⟩:=ZeZ hk (by simpa using hne) p1
   obtain⟨b,C,φ,rfl,hc,hH,hφ⟩:=Zgn r1
   refine⟨by rw[List.length_map,List.length_map,sizeLine_eq];omega,fun t ht=>?_⟩
   have hbt:b≠t:=Zal hH ht
   refine⟨b,C,φ,c,t,rfl,hc,by rw[Zai hbt];exact hH,hφ,Zaw,p2 _ _ (Zat ht _) ?_⟩
   show V.bl _=V.bl _
   simp[kiD,List.any_map,Function.comp_def]⟩
end
end Ov
end
section
namespace Ov
open PySem PySem.Spec PyProof.Rows L2
theorem Zml{K:Fg}{C:Addr}(q:PySem.W.excIn K C veB "ValueError.__new__" = true):∃ dd cd sl bm,K.lookup C=some ⟨.type "type", dd,.cls cd,sl⟩/\cd.mro=.ref C::bm:=by
 unfold PySem.W.excIn at q
 split at q
 ·rename_i dd cd sl ho
  split at q
  ·rename_i C' bm k0 k1 k2 k3 n k5 hm hs
   simp only[Bool.and_eq_true,beq_iff_eq,Bool.not_eq_true'] at q
   obtain⟨⟨⟨⟨⟨rfl,rfl⟩,_⟩,_⟩,_⟩,_⟩:=q
   exact⟨dd,cd,sl,bm,ho,hm⟩
  ·cases q
 ·cases q
theorem Ze4{K:Fg}{C:Addr}(q:PySem.W.excIn K C veB "ValueError.__new__" = true):∃ cd bm,PySem.W.clsIn K C=some cd/\cd.mro=.ref C::bm:=by
 obtain⟨dd,cd,sl,bm,h1,h2⟩:=Zml q
 exact⟨cd,bm,by unfold PySem.W.clsIn;rw[h1],h2⟩
theorem ZrT{K:Fg}{C:Addr}(q:PySem.W.excIn K C veB "ValueError.__new__" = true):PySem.W.typeIn K (.ref C)=some (.type "type"):=by
 obtain⟨dd,cd,sl,bm,h1,h2⟩:=Zml q
 show (K.lookup C).map _=_
 rw[h1]
 rfl
theorem Zn6{K:Fg}{C C':Addr}{v:Bool}(q:PySem.W.excIn K C veB "ValueError.__new__" = true)(q':PySem.W.excIn K C' veB "ValueError.__new__" = true)(su:PySem.W.subIn K (.ref C) (.ref C')=some v):PySem.W.kitOne K (.ref C) (.ref C')=some v:=by
 unfold PySem.W.kitOne
 by_cases e:C=C'
 ·subst e
  obtain⟨cd,bm,h1,h2⟩:=Ze4 q
  have su':PySem.W.mroIn K C (.ref C)=some v:=su
  have:v=true:=by
   unfold PySem.W.mroIn at su'
   rw[h1,Option.bind_some,h2,if_neg (by simp)] at su'
   rw[<- Option.some.inj su']
   simp
  rw[if_pos (by simp),this]
 ·rw[if_neg (fun z=>e (Value.ref.inj (beq_iff_eq.mp z)))]
  obtain⟨cd,bm,h1,h2⟩:=Ze4 q'
  show (if ((PySem.W.clsIn K C').isSome&&PySem.W.typeIn K (.ref C') == some (.type "type"))=true then PySem.W.subIn K (.ref C) (.ref C') else none)=_
  rw[h1,ZrT q',if_pos (by simp),su]
theorem Zt8{K:Fg}{C:Addr}(exc:PySem.W.excIn K C veB "ValueError.__new__" = true)(ga:PySem.W.findIn K (.ref C) "__getattribute__" = some (some (.builtin "BaseException.__getattribute__")))(gt:PySem.W.findIn K (.ref C) "__getattr__" = some none)(cl:PySem.W.findIn K (.ref C) "__class__" = some (some (.builtin "object.__class__")))
  (ob:PySem.W.mroIn K C (.type "object")=some true) (be:PySem.W.subIn K (.ref C) (.type "BaseException")=some true) (sv:PySem.W.subIn K (.ref C) (.type "ValueError")=some true):XcOk K C:=by
 obtain⟨cd,bm,h1,h2⟩:=Ze4 exc
 refine⟨exc,ga,gt,cl,ob,be,by rw[h1];rfl,?_⟩
 unfold PySem.W.kitOne
 rw[if_neg (fun z=>by cases beq_iff_eq.mp z)]
 have hm:PySem.W.kitMeta "ValueError" = true:=by decide +kernel
 show (if PySem.W.kitMeta "ValueError" = true then PySem.W.subIn K (.ref C) (.type "ValueError") else none)=_
 rw[if_pos hm,sv]
end Ov
end
section
namespace Ov
open PySem PySem.Spec PyProof.Rows L2
noncomputable abbrev Zpu:CXT:=fun _ _ _ _ _ _=>False
structure HotOk (P:Program) (w:World) (K:Fg) (mg:Str->Option Value) (base:Heap) (k:Nat) (f:Addr) (fd:FuncData) (ps:List Str) (sp:Sp):Prop where
 len:∀ vs H Q E,sp vs H Q E->vs.length=ps.length
 run:∀ (A:Around) (ev:Addr) (outer:List Env) (s:Shared) (H:Hp) (args:Args) (us:List Value) (vs:List V) (Q:VK) (E:XK),Room k A->Env0 P w K mg base (A.mark (some (.ref ev))) outer s H->BindsTo s fd args (ps.zip us)->Zar vs us->sp vs H Q E ->
  codeAny (model P w) (A.mark (some (.ref ev))) (.call (.ref f) args) (CR Zpu outer P w H s Q E) s
theorem ZrJ{P:Program}{w:World}{K:Fg}{mg:Str->Option Value}{base:Heap}{k:Nat}{f:Addr}{name qual:Str}{params:Arguments}{body:List Stmt}{scope:Scope}{dV kV doc pm cdv ct oc:Value}{an od:Option Addr}
  {osl:Array (Option Value)} {N ps:List Str} {sp:Sp} (lk:K.lookup f=some ⟨oc,od,.func (PySem.W.fnOf name qual params body scope dV kV doc pm an cdv ct),osl⟩) (hcd:PySem.W.codeIn K cdv qual=true) (S:FnScope N ps scope)
  (len:∀ vs H Q E,sp vs H Q E->vs.length=ps.length)
  (hbody:∀ (A:Around) (ev:Addr) (outer:List Env) (s:Shared) (H:Hp) (vs:List V) (Q:VK) (E:XK),Room k (A.deeper (envOfC qual scope s.heap.objs.size f cdv))->sp vs H Q E ->
   ∃ t,PSs (Cx.hot (Zfe Zpu P w K mg base N qual scope f cdv A outer s H E) ev) body t/\t { nx:=fun _ H'=>Q .non H',rt:=Q } (start N vs) H) :
  HotOk P w K mg base (k+1) f (PySem.W.fnOf name qual params body scope dV kV doc pm an cdv ct) ps sp:=by
 refine⟨len,fun A ev outer s H args us vs Q E hr e0 hb r hsp=>?_⟩
 have hl:=len _ _ _ _ hsp
 have e1:Env0 P w K mg base A outer s H:=⟨e0.frames,e0.mod,e0.bs,e0.bsz,e0.funs,e0.frf,e0.hok,e0.bare⟩
 have KX:K.In s.heap:=e0.mod.kin.keeps fun b o e=>(e0.bs b o e).1
 have lim:s.heap.NoLimit:=e0.mod.nolimit.keeps fun b o e=>(e0.bs b o e).1
 have hkind:∀ y∈ps.zip us,scope.names.lookup y.1=some .local\/(scope.names.lookup y.1=some .cell/\((cellsFrom (s.heap.objs.size+1) scope.names []).lookup y.1).isSome=true):=fun ⟨n,v⟩ hy=>by
  rcases S.par n (List.of_mem_zip hy).1 with q|q
  ·exact .inl q
  ·exact .inr ⟨q,PySem.W.cellsFrom_some _ _ _ (.inl q)⟩
 have hdp:(A.mark (some (.ref ev))).depth<recursionLimit:=hr.depth
 refine codeAny_call_function hdp (KX _ _ lk) rfl S.co S.gen rfl (PySem.W.codeRec_of KX hcd) (hb _ _ _ _ ?_)
 refine wpAny_newFunctionEnv_cells S.kind hkind fun env he s1 x=>?_
 subst he
 refine⟨lim.keeps x.toInCall.keep,codeAny_func ?_⟩
 obtain⟨t,ht,hq⟩:=hbody A ev outer s H vs Q E (hr.deeper _) hsp
 have I:Inv (Zfe Zpu P w K mg base N qual scope f cdv A outer s H E) [] (start N vs) H s1:=ZfC S hr.hd e1 hl r x
 refine wpAny_mono (ht [] s1 (start N vs) H _ (Zgx I ev) hq) (fun fl s' hs=>?_) fun e s' hs=>hs.elim
 have fin:∀ {σ':L2.St} {H':Hp} {v:V} {u:Value},Inv (Cx.hot (Zfe Zpu P w K mg base N qual scope f cdv A outer s H E) ev) [] σ' H' s'->ZaR v u->Q v H'->CE outer P w H s Q u s' :=
  fun {σ' H' v u} J rv q=>⟨v,H',J.os,J.bare,J.base,J.hok,rv,q⟩
 cases fl with
 | ret u =>
  obtain⟨v,σ',H',J,rv,q⟩:=hs
  exact fin J rv q
 | next =>
  obtain⟨σ',H',J,q⟩:=hs
  exact fin (v:=V.non) (u:=Value.none) J rfl q
 | brk =>
  obtain⟨_,_,_,q⟩:=hs
  exact False.elim q
 | cont =>
  obtain⟨_,_,_,q⟩:=hs
  exact False.elim q
theorem Zax{K:Fg}{C C':Addr}{v:Bool}(q:PySem.W.excIn K C veB "ValueError.__new__" = true)(mr:PySem.W.mroIn K C' (.type "object")=some true)(ty:PySem.W.typeIn K (.ref C')=some (.type "type"))(su:PySem.W.subIn K (.ref C) (.ref C')=some v):PySem.W.kitOne K (.ref C) (.ref C')=some v:=by
 unfold PySem.W.kitOne
 by_cases e:C=C'
 ·subst e
  obtain⟨cd,bm,h1,h2⟩:=Ze4 q
  have su':PySem.W.mroIn K C (.ref C)=some v:=su
  have:v=true:=by
   unfold PySem.W.mroIn at su'
   rw[h1,Option.bind_some,h2,if_neg (by simp)] at su'
   rw[<- Option.some.inj su']
   simp
  rw[if_pos (by simp),this]
 ·rw[if_neg (fun z=>e (Value.ref.inj (beq_iff_eq.mp z)))]
  show (if ((PySem.W.clsIn K C').isSome&&PySem.W.typeIn K (.ref C') == some (.type "type"))=true then PySem.W.subIn K (.ref C) (.ref C') else none)=_
  have cs:(PySem.W.clsIn K C').isSome=true:=by
   unfold PySem.W.mroIn at mr
   cases e1:PySem.W.clsIn K C' with
   | none=>rw[e1] at mr;cases mr
   | some cd=>rfl
  rw[cs,ty,if_pos (by simp),su]
def spH(K:Fg)(CL:ClA)(n:Nat)(fr:Bool)(F:List D->R D):Sp:=fun vs H Q _=>∃ (ds:List D) (A:Addr->Prop),vs.length=n/\AOk H A/\Reps K CL H A vs ds/\(match F ds with
  | .ok d=>∀ v H',Zag H H'->Zcp K CL fr H A H' v d->Q v H'
  | .exn _=>False
  | .bad=>False)
section
variable {X:Cx} {CL:ClA} {ev:Addr}
theorem Zhb{k:Nat}{f:Addr}{fd:FuncData}{ps:List Str}{sp:Sp}{E:XK}{x:Str}{p pos:Pos}{e:Expr}{es:List Expr}{t:TA}(F:HotOk X.prog X.w X.K X.mg X.base k f fd ps sp)(hr:Room k X.A)(hg:Gl X x)(hm:X.mg x=some (.ref f))(hk:PySem.W.keepIn X.K (.ref f)=true)(hb:ZcH X.K fd ps [])
  (ha:PA (Cx.hot X ev) (e::es) t) (hdb:(x == ("__debug__" : Str))=false) (he:starEach (e::es) X.env=(false,eval e X.env)::starEach es X.env) (hpl:(backTo pos (starEach es X.env)).any (·.1)=false) :
  PE (Cx.hot X ev) (.Call (.Name x p) (e::es) [] pos) (fun σ H Q=>t σ H fun vs H1=>sp vs H1 Q E):=by
 intro pins s σ H Q I h
 refine wpAny_Call_Name_kw (ZcP (X:=Cx.hot X ev) I hg hm ?_ hdb)
 refine PySem.W.callWith_K (h₀:=X.base) I.ok.mod.kin hk (thn (ha pos pins s σ H _ I h) fun us s1 ⟨vs,H1,I1,r,q⟩=>⟨I1.kIn,?_⟩) he hpl
 have hl:us.length=ps.length:=by rw[<- r.length];exact F.len _ _ _ _ q
 have hb':BindsTo s1 fd ⟨us,[]⟩ (ps.zip us):=by
  have:=hb s1 us I1.kIn (by rw[List.append_nil];exact hl)
  rw[List.append_nil] at this
  exact this
 refine wpAny_call (codeAny_mono (F.run X.A ev X.stack s1 H1 ⟨us,[]⟩ us vs Q E hr I1.env0 hb' r q) fun r s' hq=>?_)
 cases r with
 | error e=>exact False.elim hq
 | ok fl =>
  cases fl with
  | ret u=>exact I1.after hq
  | next=>exact False.elim hq
  | brk=>exact False.elim hq
  | cont=>exact False.elim hq
theorem ZkN{k n:Nat}{fr:Bool}{f:Addr}{fd:FuncData}{ps:List Str}{F:List D->R D}{x:Str}{p pos:Pos}{e:Expr}{es:List Expr}{fs ft:Rho->R (List D)}{sh:Rho->Bool}(G:HotOk X.prog X.w X.K X.mg X.base k f fd ps (spH X.K CL n fr F))(hr:Room k X.A)(hg:Gl X x)(hm:X.mg x=some (.ref f))
  (hk:PySem.W.keepIn X.K (.ref f)=true) (hb:ZcH X.K fd ps []) (ha:SA (Cx.hot X ev) CL (fun _ _=>False) (e::es) fs) (hat:SAT (Cx.hot X ev) CL (fun _ _=>False) (e::es) ft) (hst:∀ ρ,sh ρ=true->ft ρ=fs ρ) (hn:∀ ρ ds,ft ρ=.ok ds->ds.length=n)
  (hdb:(x == ("__debug__" : Str))=false) (he:starEach (e::es) X.env=(false,eval e X.env)::starEach es X.env) (hpl:∀ pos,(backTo pos (starEach es X.env)).any (·.1)=false) :
  SC (Cx.hot X ev) CL (fun _ _=>False) fr (.Call (.Name x p) (e::es) [] pos) (fun ρ=>(ft ρ).bind fun ds=>(F ds).bind fun d=>if sh ρ=true then .ok d else if Zgd fr d=true then .ok d else .bad):=fun A pins s σ H Q I ⟨hA,ρ,gd,q⟩=>by
 dsimp only at q
 by_cases hs:sh ρ=true
 ·rw[hst ρ hs] at q
  refine Zhb (E:=fun _ _ _=>False) G hr hg hm hk hb (ha A) hdb he (hpl _) pins s σ H Q I ⟨hA,ρ,gd,?_⟩
  cases e1:fs ρ with
  | bad=>rw[e1] at q;exact q
  | exn y=>rw[e1] at q;exact q
  | ok ds =>
   rw[e1] at q
   intro vs H1 s1 r1
   refine⟨ds,A,by rw[r1.length];exact hn ρ ds (by rw[hst ρ hs];exact e1),hA.same s1,r1,?_⟩
   have q':Zas (Zcp X.K CL fr H A) (fun _ _=>False) H ((F ds).bind fun d=>if sh ρ=true then .ok d else if Zgd fr d=true then .ok d else .bad) Q:=q
   cases e2:F ds with
   | ok d =>
    rw[e2,R.bind_ok,if_pos hs] at q'
    exact fun v H2 s2 r2=>q' v H2 (s1.trans s2) ⟨r2.1,fun z ds' e'=>let ⟨a,xs,z1,z2,z3⟩:=r2.2 z ds' e';⟨a,xs,z1,s1.free z2,z3⟩⟩
   | exn y=>rw[e2] at q';exact(q' H (Zag.refl H)).elim
   | bad=>rw[e2] at q';exact q'.elim
 ·refine Zhb (E:=fun _ _ _=>False) G hr hg hm hk hb (hat A) hdb he (hpl _) pins s σ H Q I ⟨hA,ρ,gd,?_⟩
  cases e1:ft ρ with
  | bad=>rw[e1] at q;exact q
  | exn y=>rw[e1] at q;exact q
  | ok ds =>
   rw[e1] at q
   intro vs H1 s1 r1
   refine⟨ds,A0,by rw[r1.plain.length];exact hn ρ ds e1,fun _ z=>z.elim,r1.plain,?_⟩
   have q':Zas (Zcp X.K CL fr H A) (fun _ _=>False) H ((F ds).bind fun d=>if sh ρ=true then .ok d else if Zgd fr d=true then .ok d else .bad) Q:=q
   cases e2:F ds with
   | ok d =>
    rw[e2,R.bind_ok,if_neg hs] at q'
    split at q'
    ·rename_i hc
     exact fun v H2 s2 r2=>q' v H2 (s1.trans s2) (ZjN hA (s1.trans s2) hc ⟨r2.1,fun z ds' e'=>let ⟨a,xs,z1,z2,z3⟩:=r2.2 z ds' e';⟨a,xs,z1,s1.free z2,z3⟩⟩)
    ·exact q'.elim
   | exn y=>rw[e2] at q';exact(q' H (Zag.refl H)).elim
   | bad=>rw[e2] at q';exact q'.elim
theorem ZmY{t:Expr}{xs ys:List Stmt}{pos:Pos}{fc:Rho->R Bool}{fx fy:Rho->O}(hc:∀ pins Xw,PassesOwn (model X.prog X.w) X.A X.env Xw->SB (Cx.pw X pins Xw) CL (fun _ _=>False) t fc)(hnx:∀ ρ y,fc ρ≠.exn y)
    (hx:STB X CL xs fx) (hy:STB X CL ys fy):STB X CL [.If t xs ys pos] (fun ρ=>O.of ρ (fc ρ) fun b=>if b=true then fx ρ else fy ρ):=by
  intro Fz B pins s σ H D ρ Xw own I sx q hρ
  dsimp only at q hρ
  cases ec:fc ρ with
  | bad=>rw[ec] at q;exact q.elim
  | exn y=>exact absurd ec (hnx ρ y)
  | ok b =>
    rw[ec] at q hρ
    have key:=hc pins Xw own (Za5 B ρ σ) [] s σ H (fun b' H'=>b'=b/\Zag H H') (ZfE I Xw) ⟨sx.aok,ρ,sx.good,by rw[ec];exact fun H' sm=>⟨rfl,sm⟩⟩
    refine wpAny_execs_cons (thn (wpAny_If (Q:=SP X pins D) (thn key fun b' s1 ⟨H1,I1,e,sm⟩=>?_)) (fun f s1 z=>by
      cases f with
      | next=>exact wpAny_execs_nil z
      | ret v=>exact z
      | brk=>exact z
      | cont=>exact z))
    subst e
    have J:=Zcb I.ok I1
    have up:∀ {y:Ex},Zh5 X CL pins σ H y Xw->Zh5 X CL pins σ H1 y Xw:=fun {y} w s' H' e T C a1 a2=>w s' H' e T C a1 (sm.trans a2)
    have lift:∀ {o:O},(match o with
       | .exn y ρ'=>ρ'=ρ->Zh5 X CL pins σ H y Xw
       | o=>Zah X.K CL Fz B (fun _ _=>False) o D)->(match o with
       | .exn y ρ'=>ρ'=ρ->Zh5 X CL pins σ H1 y Xw
       | o=>Zah X.K CL Fz B (fun _ _=>False) o D):=fun {o} z=>by
      cases o with
      | exn y ρ'=>exact fun e=>up (z e)
      | next _=>exact z
      | ret _ _=>exact z
      | brk _=>exact z
      | cont _=>exact z
      | bad=>exact z
    cases b' with
    | true=>exact hx Fz B pins s1 σ H1 D ρ Xw own J (sx.grow sm) (lift q) hρ
    | false=>exact hy Fz B pins s1 σ H1 D ρ Xw own J (sx.grow sm) (lift q) hρ
end
end Ov
end
section
namespace Ov
open PySem PySem.Spec PyProof.Rows L2
structure Tc where
 sc:Scope
 N:List Str
 /-- a def's name,its number,how many parameters it has -/
 fns:List (Str×Nat×Nat)
 /-- built-in names that the text does not hide -/
 bl:List Str
 /-- exceptions' classes by their names: those that are raised,all that are asked for -/
 rzs:List (Str×Nat)
 exs:List (Str×Nat)
 /-- the text's constants -/
 gls:List (Str×Nat)
noncomputable def Zua(T:Tc)(x:Str):Bool:=match T.sc.names.lookup x with
  | some .local=>true
  | some .cell=>true
  | some .free=>true
  | _=>false
noncomputable def Zl3(T:Tc)(x:Str):Bool:=match T.sc.names.lookup x with
  | some .local=>true
  | some .cell=>true
  | _=>false
noncomputable def glB(T:Tc)(x:Str):Bool:=T.sc.names.lookup x == some .globalImplicit
noncomputable def Zh7(x:Str):Bool:=!(x == ("__debug__" : Str)) && !(x == ("__classdict__" : Str)) && !(x == ("__name__" : Str))
noncomputable def isV(T:Tc)(x:Str)(i:Nat):Bool:=T.N[i]? == some x&&Zua T x&&Zh7 x
noncomputable def isB(T:Tc)(x:Str):Bool:=T.bl.contains x&&glB T x&&Zh7 x
noncomputable def ZaM:Expr->Bool
 | .Starred _ _=>false
 | _=>true
noncomputable def Zgr:Expr->Bool
 | .Slice _ _ _ _=>false
 | _=>true
noncomputable def Zjd:Expr->Bool
 | .Set _ _ _=>false
 | _=>true
noncomputable def Zdx:Expr->Bool
 | .ListComp _ _ _ _=>false
 | .SetComp _ _ _ _=>false
 | .DictComp _ _ _ _ _=>false
 | _=>true
noncomputable def Zx0(tu:Bool):Expr->Bool
 | .Tuple ..=>tu
 | .Name ..=>!tu
 | _=>false
noncomputable def ZwA:Expr->Bool
 | .Tuple _ _ _=>true
 | _=>false
noncomputable def Zrm:Expr->Bool
 | .Tuple _ _ _=>false
 | _=>true
noncomputable def ZbU:Expr->Bool
 | .UnaryOp _ _ _=>false
 | .BoolOp _ _ _=>false
 | .IfExp _ _ _ _=>false
 | .Compare _ _ _ _=>false
 | _=>true
noncomputable def ZnW:Ki->Option Str
 | .int=>some "int"
 | .bool=>some "bool"
 | .str=>some "str"
 | .list=>some "list"
 | .tuple=>some "tuple"
 | _=>none
noncomputable def ZnX:BI->Option Str
 | .len=>some "len"
 | .abs=>none
 | .max=>some "max"
 | .min=>some "min"
 | .int=>some "int"
 | .list=>some "list"
 | .tuple=>some "tuple"
 | .all=>some "all"
 | .any=>some "any"
 | .sum=>some "sum"
 | .sorted=>some "sorted"
 | _=>none
noncomputable def Zni(o scope:Scope):Scope:={ scope with names:=scope.names.map fun (n,k)=>if (k == .free&&o.kind == .function&&o.names.lookup n == some .cell) then (n,.cell) else (n,k) }
noncomputable def Zpf:List Nat->List Str->List Str->List Str
 | t::ts,x::xs,N=>Zpf ts xs ((N.map fun y=>if y == x then N.getD t x else y).set t x)
 | _,_,N=>N
noncomputable def Zfx:List Str->Bool
 | []=>true
 | x::xs=>!xs.contains x&&Zfx xs
noncomputable def Zsy(T:Tc)(scope:Scope)(ts:List Nat)(N':List Str):Bool :=
  scope.kind == .function&&scope.names.all (fun y=>scope.names.lookup y.1 == some y.2) &&
  scope.names.all (fun y=>y.2 != .free||T.sc.names.lookup y.1 == some .cell||T.sc.names.lookup y.1 == some .free) &&
  N'.length == T.N.length&&Zfx N' &&
  (List.range N'.length).all fun i=>ts.contains i||(match N'[i]? with
    | some x=>(scope.names.lookup x != some .local&&scope.names.lookup x != some .cell)&&(scope.names.lookup x != some .free||T.N[i]? == some x)
    | none=>true)
noncomputable def ZaC:List Expr->Option (List Str)
 | []=>some []
 | .Name x _::r=>(ZaC r).map (x :: ·)
 | _=>none
noncomputable def tgN(ys:List Expr):List Str:=(ZaC ys).getD []
noncomputable def tgB(T:Tc):List Nat->List Str->Bool
 | [],[]=>true
 | t::ts,x::xs=>T.N[t]? == some x&&T.sc.names.lookup x == some .local&&tgB T ts xs
 | _,_=>false
noncomputable def tgO(T:Tc)(scope:Scope)(t:Nat)(x:Str):Bool:=T.N[t]? == some x&&(T.sc.names.lookup x == some .local||(T.sc.names.lookup x == some .cell&&scope.names.lookup x == some .cell))
noncomputable def tgC(T:Tc):List Nat->List Str->Bool
 | [],[]=>true
 | t::ts,x::xs=>T.N[t]? == some x&&Zl3 T x&&tgC T ts xs
 | _,_=>false
noncomputable def Tc.blk(T:Tc)(scope:Scope)(ts:List Nat)(xs:List Str):Tc:={ T with sc:=Zni T.sc scope,N:=Zpf ts xs T.N }
noncomputable def Zwm:E->Bool
 | .lst _=>true
 | .comp _ _ _ _=>true
 | .compT _ _ _ _=>true
 | .bin .Add _ _=>true
 | .bi .list _=>true
 | .sl _ _ _=>true
 | _=>false
theorem ZnV(Γ:Gam){e:E}(h:Zwm e=true):Zfd Γ e=true:=by
 unfold Zwm at h
 split at h<;>first|rfl|cases h
noncomputable def inX(l:List (Str×Nat))(g:Str)(c:Nat):Bool:=l.any fun p=>p.1 == g&&p.2 == c
noncomputable def ZyU(T:Tc)(e:Expr)(b:BI)(as:Es):Bool:=false
noncomputable def Zf6:Expr->Option (Str×Pos)
 | .Name x p=>some (x,p)
 | _=>none
theorem ZcC{e:Expr}{t:Str×Pos}(q:Zf6 e=some t):e=.Name t.1 t.2:=by
 cases e with
 | Name x p=>cases q;rfl
 | _=>cases q
noncomputable def Zj6:Expr->Option (Expr×List Expr×List Keyword×Pos)
 | .Call f as ks p=>some (f,as,ks,p)
 | _=>none
theorem Zf7{e:Expr}{t:Expr×List Expr×List Keyword×Pos}(q:Zj6 e=some t):e=.Call t.1 t.2.1 t.2.2.1 t.2.2.2:=by
 cases e with
 | Call f as ks p=>cases q;rfl
 | _=>cases q
noncomputable def Zo3:Expr->Option (Expr×Expr×Pos)
 | .Subscript v s p=>some (v,s,p)
 | _=>none
theorem Zhx{e:Expr}{t:Expr×Expr×Pos}(q:Zo3 e=some t):e=.Subscript t.1 t.2.1 t.2.2:=by
 cases e with
 | Subscript v s p=>cases q;rfl
 | _=>cases q
noncomputable def ZsA:Expr->Option (List Expr×Nat×Pos)
 | .Tuple es k p=>some (es,k,p)
 | _=>none
theorem Zlt{e:Expr}{t:List Expr×Nat×Pos}(q:ZsA e=some t):e=.Tuple t.1 t.2.1 t.2.2:=by
 cases e with
 | Tuple es k p=>cases q;rfl
 | _=>cases q
noncomputable def ZsE:Stmt->Option (List Expr×Expr×Pos)
 | .Assign ts v p=>some (ts,v,p)
 | _=>none
theorem Zlx{s:Stmt}{t:List Expr×Expr×Pos}(q:ZsE s=some t):s=.Assign t.1 t.2.1 t.2.2:=by
 cases s with
 | Assign ts v p=>cases q;rfl
 | _=>cases q
noncomputable def one{α:Type}:List α->Option α
 | [a]=>some a
 | _=>none
theorem ZlY{α:Type}{l:List α}{a:α}(q:one l=some a):l=[a]:=by
  match l,q with
  | [b],q=>cases q;rfl
noncomputable def Zsd(e:Expr):Option (Str×Str×List Expr):=(Zj6 e).bind fun c=>(Zf6 c.1).bind fun g=>(one c.2.1).bind fun a=>(Zj6 a).bind fun d=>(Zf6 d.1).bind fun h=>if (c.2.2.1.isEmpty&&d.2.2.1.isEmpty)=true then some (g.1,h.1,d.2.1) else none
theorem ZjO{e:Expr}{g h:Str}{bs:List Expr}(q:Zsd e=some (g,h,bs)):∃ p p' pos pos',e=.Call (.Name g p) [.Call (.Name h p') bs [] pos'] [] pos:=by
 obtain⟨⟨f,as,ks,pos⟩,e1,q⟩:=Option.bind_eq_some_iff.mp q
 obtain⟨⟨g',p⟩,e2,q⟩:=Option.bind_eq_some_iff.mp q
 obtain⟨a,e3,q⟩:=Option.bind_eq_some_iff.mp q
 obtain⟨⟨f',bs',ks',pos'⟩,e4,q⟩:=Option.bind_eq_some_iff.mp q
 obtain⟨⟨h',p'⟩,e5,q⟩:=Option.bind_eq_some_iff.mp q
 by_cases hk:(ks.isEmpty&&ks'.isEmpty)=true
 ·rw[if_pos hk] at q
  cases q
  rw[Bool.and_eq_true,List.isEmpty_iff,List.isEmpty_iff] at hk
  obtain⟨rfl,rfl⟩:=hk
  have x1:=Zf7 e1
  have x2:=ZcC e2
  have x3:=ZlY e3
  have x4:=Zf7 e4
  have x5:=ZcC e5
  dsimp only at x1 x2 x3 x4 x5
  subst x1 x2 x3 x4 x5
  exact⟨_,_,_,_,rfl⟩
 ·rw[if_neg hk] at q
  cases q
noncomputable def ZtX(e:Expr):Option (Str×Str×Expr×Expr×Expr):=match Zsd e with
  | some (g,h,bs)=>(match bs with
    | [x,y,z]=>some (g,h,x,y,z)
    | _=>none)
  | none=>none
theorem Zoz{e:Expr}{g h:Str}{x y z:Expr}(q:ZtX e=some (g,h,x,y,z)):∃ p p' pos pos',e=.Call (.Name g p) [.Call (.Name h p') [x,y,z] [] pos'] [] pos:=by
  unfold ZtX at q
  cases c:Zsd e with
  | none=>rw[c] at q;cases q
  | some t =>
    obtain⟨g',h',bs⟩:=t
    rw[c] at q
    match bs,q,c with
    | [a,b,d],q,c=>cases q;exact ZjO c
noncomputable def Zru(e:Expr):Option (Str×Str×Expr×Expr):=match Zsd e with
  | some (g,h,bs)=>(match bs with
    | [x,y]=>some (g,h,x,y)
    | _=>none)
  | none=>none
theorem Zn1{e:Expr}{g h:Str}{x y:Expr}(q:Zru e=some (g,h,x,y)):∃ p p' pos pos',e=.Call (.Name g p) [.Call (.Name h p') [x,y] [] pos'] [] pos:=by
  unfold Zru at q
  cases c:Zsd e with
  | none=>rw[c] at q;cases q
  | some t =>
    obtain⟨g',h',bs⟩:=t
    rw[c] at q
    match bs,q,c with
    | [a,b],q,c=>cases q;exact ZjO c
noncomputable def Zj4:Es->Option (E×E)
 | .cons (.tupI (.rng2 a b)) .nil=>some (a,b)
 | _=>none
theorem Zlw{as:Es}{a b:E}(q:Zj4 as=some (a,b)):as=.cons (.tupI (.rng2 a b)) .nil:=by
 unfold Zj4 at q
 split at q
 ·cases q
  rfl
 ·cases q
noncomputable def ZuF(e:Expr):Option (Str×Str):=(Zo3 e).bind fun t=>(Zf6 t.1).bind fun x=>(Zf6 t.2.1).bind fun y=>some (x.1,y.1)
theorem Zit{e:Expr}{x y:Str}(q:ZuF e=some (x,y)):∃ p1 p2 p3,e=.Subscript (.Name x p1) (.Name y p2) p3:=by
 obtain⟨⟨v,s,p⟩,e1,q⟩:=Option.bind_eq_some_iff.mp q
 obtain⟨⟨x',p1⟩,e2,q⟩:=Option.bind_eq_some_iff.mp q
 obtain⟨⟨y',p2⟩,e3,q⟩:=Option.bind_eq_some_iff.mp q
 cases q
 have x1:=Zhx e1
 have x2:=ZcC e2
 have x3:=ZcC e3
 dsimp only at x1 x2 x3
 subst x1 x2 x3
 exact⟨_,_,_,rfl⟩
noncomputable def Zjs(e:Expr):Bool:=(Zo3 e).isSome
theorem Zhh{e:Expr}(q:Zjs e=true):∃ o a p,e=.Subscript o a p:=by
 obtain⟨t,h⟩:=Option.isSome_iff_exists.mp q
 exact⟨_,_,_,Zhx h⟩
noncomputable def two(e:Expr):Option (Expr×Expr):=(ZsA e).bind fun t=>match t.1 with
  | [a,b]=>some (a,b)
  | _=>none
theorem ZlE{e a b:Expr}(q:two e=some (a,b)):∃ k p,e=.Tuple [a,b] k p:=by
  obtain⟨⟨es,k,p⟩,e1,q⟩:=Option.bind_eq_some_iff.mp q
  have x1:=Zlt e1
  dsimp only at x1
  subst x1
  match es,q with
  | [a',b'],q=>cases q;exact⟨_,_,rfl⟩
noncomputable def ZuE(st:Stmt):Option (Str×Str×Str×Str×Expr):=(ZsE st).bind fun t=>(one t.1).bind fun u=>(two u).bind fun ab=>(ZuF ab.1).bind fun xy=>(ZuF ab.2).bind fun xz=>(two t.2.1).bind fun cd=>if (Zjs cd.1&&Zjs cd.2)=true then some (xy.1,xy.2,xz.1,xz.2,t.2.1) else none
theorem ZmU{st:Stmt}{x y x' z:Str}{v:Expr}(q:ZuE st=some (x,y,x',z,v)):∃ p1 p2 p3 p4 p5 p6 kt tp o a p o' a' p' q0 q1 pos,v=.Tuple [.Subscript o a p,.Subscript o' a' p'] q0 q1/\st=.Assign [.Tuple [.Subscript (.Name x p1) (.Name y p2) p3,.Subscript (.Name x' p4) (.Name z p5) p6] kt tp] (.Tuple [.Subscript o a p,.Subscript o' a' p'] q0 q1) pos:=by
 obtain⟨⟨ts,w,pos⟩,e5,q⟩:=Option.bind_eq_some_iff.mp q
 obtain⟨t,e6,q⟩:=Option.bind_eq_some_iff.mp q
 obtain⟨⟨a,b⟩,e1,q⟩:=Option.bind_eq_some_iff.mp q
 obtain⟨⟨y1,y2⟩,e2,q⟩:=Option.bind_eq_some_iff.mp q
 obtain⟨⟨z1,z2⟩,e3,q⟩:=Option.bind_eq_some_iff.mp q
 obtain⟨⟨c,d⟩,e4,q⟩:=Option.bind_eq_some_iff.mp q
 by_cases hs:(Zjs c&&Zjs d)=true
 ·rw[if_pos hs] at q
  cases q
  rw[Bool.and_eq_true] at hs
  have x5:=Zlx e5
  have x6:=ZlY e6
  dsimp only at x5 x6 e4
  obtain⟨k1,t1,rfl⟩:=ZlE e1
  obtain⟨u1,u2,u3,rfl⟩:=Zit e2
  obtain⟨u4,u5,u6,rfl⟩:=Zit e3
  obtain⟨k2,t2,rfl⟩:=ZlE e4
  obtain⟨o,a,p,rfl⟩:=Zhh hs.1
  obtain⟨o',a',p',rfl⟩:=Zhh hs.2
  subst x6 x5
  exact⟨_,_,_,_,_,_,_,_,_,_,_,_,_,_,_,_,_,rfl,rfl⟩
 ·rw[if_neg hs] at q
  cases q
noncomputable def Zx3:Expr->Option (Expr×Int)
  | .Subscript v s _=>(match s with
    | .Slice lo hi st _=>(match lo with
      | some (.Constant (.int k) _ _)=>(match hi with
        | none=>(match st with
          | some (.Constant (.int j) _ _)=>if j=2 then some (v,k) else none
          | _=>none)
        | some _=>none)
      | _=>none)
    | _=>none)
  | _=>none
noncomputable def Zlu(_:Es):Option (E×Int):=none
theorem Zt3{as:Es}{a:E}{k:Int}(q:Zlu as=some (a,k)):as=.cons a (.cons (.int k) .nil):=by
 cases q
mutual
noncomputable def Zaq:Nat->Tc->Expr->E->Bool
  | 0,_,_,_=>false
  | n+1,T,e,c=>match c with
    | .non=>(match e with | .Constant .none _ _=>true|_=>false)
    | .bl b=>(match e with | .Constant (.bool b') _ _=>b' == b|_=>false)
    | .int i=>(match e with | .Constant (.int j) _ _=>decide (j=i)|_=>false)
    | .str x=>(match e with | .Constant (.str y) _ _=>decide (y=x)|_=>false)
    | .var i=>(match e with | .Name x _=>isV T x i|_=>false)
    | .glob g=>(match e with | .Name x _=>inX T.gls x g&&glB T x&&Zh7 x|_=>false)
    | .bin op a b=>(match e with | .BinOp x op' y _=>decide (op'=op)&&Zaq n T x a&&Zaq n T y b|_=>false)
    | .un op a=>false
    | .no a=>(match e with | .UnaryOp .Not x _=>Zaq n T x a|_=>false)
    | .and es=>(match e with | .BoolOp .And xs _=>chkEs n T xs es && !xs.isEmpty|_=>false)
    | .or es=>(match e with | .BoolOp .Or xs _=>chkEs n T xs es && !xs.isEmpty|_=>false)
    | .cmp op a b=>(match e with | .Compare x [op'] [y] _=>decide (op'=op) && !behindInMarks op y&&Zaq n T x a&&Zaq n T y b|_=>false)
    | .cmp2 op1 op2 a b c=>(match e with | .Compare x [o1,o2] [y,z] _=>decide (o1=op1)&&decide (o2=op2) && !lastMarks [op1,op2] [y,z]&&Zaq n T x a&&Zaq n T y b&&Zaq n T z c|_=>false)
    | .ite c a b=>false
    | .call f as=>(match e with | .Call (.Name g _) (x::xs) [] _=>(T.fns.any fun p=>p.1 == g&&p.2.1 == f&&p.2.2 == xs.length+1)&&decide (xs.length<900)&&glB T g&&Zh7 g&&chkEs n T (x::xs) as|_=>false)
    | .bi b as=>(match e with | .Call (.Name g _) (x::xs) [] _=>ZnX b == some g&&isB T g&&chkEs n T (x::xs) as|_=>false)||ZyU T e b as||(match Zj4 as with|some (a,c)=>(match Zru e with|some (g,h,x,y)=>decide (b=.list)&&g == ("list" : Str)&&h == ("range" : Str)&&isB T g&&isB T h&&ZaM x&&ZaM y&&Zaq n T x a&&Zaq n T y c|none=>false)|none=>false)||(match Zlu as with|some (a,k)=>(match Zx3 e with|some (x,j)=>decide (b=.stp)&&decide (j=k)&&decide (0<=k)&&Zaq n T x a|none=>false)|none=>false)
    | .isi a ks=>(match ks with | [k]=>(match e with | .Call (.Name g _) [x,.Name t _] [] _=>g == ("isinstance" : Str)&&isB T g&&ZnW k == some t&&isB T t&&ZaM x&&Zaq n T x a|_=>false)|_=>false)
    | .idx a i=>(match e with | .Subscript x y _=>Zgr y&&Zaq n T x a&&Zaq n T y i|_=>false)
    | .sl a lo hi=>(match e with | .Subscript x (.Slice l h none _) _=>Zaq n T x a&&chkO n T l lo&&chkO n T h hi|_=>false)
    | .tup es=>(match e with | .Tuple xs _ _=>chkEs n T xs es&&decide (xs.length<=1000)|_=>false)
    | .lst es=>(match e with | .List xs _=>chkEs n T xs es&&decide (xs.length<=1000)|_=>false)
    | .comp elt t it c=>(match e with | .ListComp x [⟨.Name y _,iter,ifs,0⟩] scope _=>chkI n T false iter it&&Zjd iter&&Zsy T scope [t] (Zpf [t] [y] T.N)&&tgO (T.blk scope [t] [y]) scope t y&&chkT n (T.blk scope [t] [y]) ifs c&&Zaq n (T.blk scope [t] [y]) x elt|_=>false)
    | .compT elt ts it c=>(match e with | .ListComp x [⟨.Tuple ys _ _,iter,ifs,0⟩] scope _=>(ZaC ys).isSome&&chkI n T true iter it&&Zjd iter&&Zsy T scope ts (Zpf ts (tgN ys) T.N)&&tgB (T.blk scope ts (tgN ys)) ts (tgN ys)&&chkT n (T.blk scope ts (tgN ys)) ifs c&&Zaq n (T.blk scope ts (tgN ys)) x elt|_=>false)
    | .tupI it=>(match it with | .zip3 a b c=>(match ZtX e with|some (g,h,x,y,z)=>g == ("tuple" : Str)&&h == ("zip" : Str)&&isB T g&&isB T h&&ZaM x&&ZaM y&&ZaM z&&Zaq n T x a&&Zaq n T y b&&Zaq n T z c|none=>false)|_=>false)
    | .dnew=>false
    | .fld _ _=>false
noncomputable def Zlq:Nat->Tc->Expr->E->Bool
  | 0,_,_,_=>false
  | n+1,T,e,c=>match e with
    | .UnaryOp .Not x _=>(match c with | .no a=>Zlq n T x a|_=>false)
    | .BoolOp .And xs _=>(match c with | .and es=>chkBs n T xs es && !xs.isEmpty|_=>false)
    | .BoolOp .Or xs _=>(match c with | .or es=>chkBs n T xs es && !xs.isEmpty|_=>false)
    | .Compare x ops ys _=>(match c with
      | .cmp op a b=>(match ops,ys with | [op'],[y]=>decide (op'=op) && !behindInMarks op y&&Zaq n T x a&&Zaq n T y b|_,_=>false)
      | .cmp2 op1 op2 a b c=>(match ops,ys with | [o1,o2],[y,z]=>decide (o1=op1)&&decide (o2=op2) && !lastMarks [op1,op2] [y,z]&&Zaq n T x a&&Zaq n T y b&&Zaq n T z c|_,_=>false)
      | _=>false)
    | e=>ZbU e&&Zaq n T e c
noncomputable def chkBs:Nat->Tc->List Expr->Es->Bool
  | 0,_,_,_=>false
  | n+1,T,xs,es=>match xs,es with
    | [],.nil=>true
    | x::xs,.cons e es=>Zlq n T x e&&chkBs n T xs es
    | _,_=>false
noncomputable def chkEs:Nat->Tc->List Expr->Es->Bool
  | 0,_,_,_=>false
  | n+1,T,xs,es=>match xs,es with
    | [],.nil=>true
    | x::xs,.cons e es=>ZaM x&&Zaq n T x e&&chkEs n T xs es
    | _,_=>false
noncomputable def chkO:Nat->Tc->Option Expr->E->Bool
  | 0,_,_,_=>false
  | n+1,T,x,e=>match x with
    | none=>(match e with | .non=>true|_=>false)
    | some x=>(match e with | .non=>false|e=>Zaq n T x e)
noncomputable def chkT:Nat->Tc->List Expr->E->Bool
  | 0,_,_,_=>false
  | n+1,T,xs,e=>match xs with
    | []=>(match e with | .bl true=>true|_=>false)
    | [x]=>Zlq n T x e
    | _=>false
noncomputable def chkI:Nat->Tc->Bool->Expr->I->Bool
  | 0,_,_,_,_=>false
  | n+1,T,tu,e,i=>match i with
    | .e a=>Zaq n T e a
    | .rng a=>(match e with | .Call (.Name g _) [x] [] _=>g == ("range" : Str)&&isB T g&&ZaM x&&Zaq n T x a|_=>false)
    | .enm a=>false
    | .zip a b=>(match e with | .Call (.Name g _) [x,y] [] _=>tu&&g == ("zip" : Str)&&isB T g&&ZaM x&&ZaM y&&Zaq n T x a&&Zaq n T y b|_=>false)
    | .rng2 a b=>(match e with | .Call (.Name g _) [x,y] [] _=>g == ("range" : Str)&&isB T g&&ZaM x&&ZaM y&&Zaq n T x a&&Zaq n T y b|_=>false)
    | .zip3 a b c=>false
end
noncomputable def Ztc:E->Bool
 | .var _=>true
 | .int _=>true
 | .bl _=>true
 | .str _=>true
 | .non=>true
 | _=>false
noncomputable def ZhO:Es->Bool
 | .nil=>true
 | .cons e es=>Ztc e&&ZhO es
noncomputable def ZfS(T:Tc):List Expr->List Ki->Bool
 | [],[]=>true
 | .Name t _::r,.cls c::ks=>inX T.exs t c&&glB T t&&Zh7 t&&ZfS T r ks
 | _,_=>false
noncomputable def Zyz(T:Tc)(g:Str)(f:Nat):Bool:=(T.fns.any fun p=>p.1 == g&&p.2.1 == f&&p.2.2 == 1001)&&glB T g&&Zh7 g
noncomputable def Zcy:Nat->Tc->Nat->Expr->E->Bool
  | 0,_,_,_,_=>false
  | n+1,T,x,e,c=>match c with
    | .bl b=>(match e with | .Constant (.bool b') _ _=>b' == b|_=>false)
    | .no a=>(match e with | .UnaryOp .Not y _=>Zcy n T x y a|_=>false)
    | .and (.cons a .nil)=>(match e with | .BoolOp .And [y] _=>Zcy n T x y a|_=>false)
    | .and (.cons a (.cons a' as))=>(match e with | .BoolOp .And (y::z::zs) p=>Zcy n T x y a&&Zcy n T x (.BoolOp .And (z::zs) p) (.and (.cons a' as))|_=>false)
    | .isi (.var i) [.verr]=>(match e with | .Call (.Name g _) [.Name v _,.Name t _] [] _=>i == x&&g == ("isinstance" : Str)&&isB T g&&isV T v x&&t == ("ValueError" : Str)&&isB T t|_=>false)
    | .isi (.var i) [.cls c]=>(match e with
      | .Call (.Name g _) [.Name v _,.Name t _] [] _=>i == x&&g == ("isinstance" : Str)&&isB T g&&isV T v x&&inX T.exs t c&&glB T t&&Zh7 t
      | _=>false)
    | .isi (.var i) (.cls c::k::ks)=>(match e with
      | .Call (.Name g _) [.Name v _,.Tuple ts _ _] [] _=>i == x&&g == ("isinstance" : Str)&&isB T g&&isV T v x&&ZfS T ts (.cls c::k::ks)&&decide (ts.length<=1000)
      | _=>false)
    | .call f (.cons (.var i) .nil)=>(match e with
      | .Call (.Name g _) [.Name v _] [] _=>Zyz T g f&&isV T v i
      | _=>false)
    | _=>false
noncomputable def ZdS(n:Nat)(T:Tc)(x:Nat):List Expr->Es->Bool
 | [],.nil=>true
 | y::ys,.cons e es=>ZbU y&&Zcy n T x y e&&ZdS n T x ys es
 | _,_=>false
noncomputable def ZoZ(n:Nat)(T:Tc)(x:Nat)(e:Expr)(c:E):Bool:=match e with
  | .BoolOp .Or ys _=>(match c with | .or es=>ZdS n T x ys es && !ys.isEmpty|_=>false)
  | e=>ZbU e&&Zcy n T x e c
noncomputable def Zzr:E->Bool
 | .isi _ _=>true
 | .bl _=>true
 | _=>false
noncomputable def Ze8:Nat->Tc->Nat->List Stmt->Ss->Bool
  | 0,_,_,_,_=>false
  | n+1,T,x,sts,ss=>match ss with
    | .nil=>sts.isEmpty
    | .cons (.asg i false e) ss=>(match sts with
      | .Assign [.Name y _] v _::r=>T.N[i]? == some y&&Zl3 T y&&Zdx v&&Zcy n T x v e&&Ze8 n T x r ss
      | _=>false)
    | .cons (.ife c a .nil) ss=>(match sts with
      | .If t xs [] _::r=>ZoZ n T x t c&&Ze8 n T x xs a&&Ze8 n T x r ss
      | _=>false)
    | .cons (.ret e) ss=>(match sts with
      | .Return (some v) _::r=>Zzr e&&Zcy n T x v e&&Ze8 n T x r ss
      | _=>false)
    | _=>false
noncomputable def ZuT:E->Bool
 | .var _=>true
 | .cmp _ a b=>Ztc a&&Ztc b
 | _=>false
noncomputable def Zhu(n:Nat)(T:Tc)(st:Stmt)(s:S):Bool:=match s with
  | .expr (.call f as)=>(match st with | .Expr v _=>Zaq n T v (.call f as)&&ZhO as|_=>false)
  | .asg i false (.call f as)=>(match st with | .Assign [.Name y _] v _=>T.N[i]? == some y&&Zl3 T y&&Zaq n T v (.call f as)&&ZhO as|_=>false)
  | _=>false
noncomputable def Zh0:Nat->Nat->Tc->Stmt->S->Bool
  | 0,n,T,st,s=>Zhu n T st s
  | m+1,n,T,st,s=>Zhu n T st s||(match s with
    | .ife c (.cons a .nil) (.cons b .nil)=>(match st with
      | .If t [xs] [ys] _=>Zlq n T t c&&ZuT c&&Zh0 m n T xs a&&Zh0 m n T ys b
      | _=>false)
    | _=>false)
mutual
noncomputable def Zcl:Nat->Tc->Stmt->S->Bool
  | 0,_,_,_=>false
  | n+1,T,st,s=>match s with
    | .pass=>false
    | .brk=>false
    | .cont=>false
    | .asg i _ e=>(match st with | .Assign [.Name x _] v _=>T.N[i]? == some x&&Zl3 T x&&Zaq n T v e|_=>false)
    | .asgT ts e=>(match st with | .Assign [.Tuple ys _ _] v _=>(ZaC ys).isSome&&tgC T ts (tgN ys)&&(Zrm v||Nat.ble 4 ys.length)&&Zaq n T v e|_=>false)
    | .expr e=>(match st with | .Expr v _=>Zdx v&&Zaq n T v e|_=>false)
    | .ret e=>(match st with | .Return (some v) _=>Zaq n T v e|_=>false)
    | .retN=>false
    | .ife c a b=>(match st with | .If t xs ys _=>Zlq n T t c&&chkSs n T xs a&&chkSs n T ys b|_=>false)
    | .fors t it body=>(match st with | .For (.Name x _) iter xs [] _=>tgC T [t] [x]&&Zjd iter&&chkI n T false iter it&&chkSs n T xs body|_=>false)
    | .forT ts it body=>(match st with | .For (.Tuple ys _ _) iter xs [] _=>(ZaC ys).isSome&&tgC T ts (tgN ys)&&Zjd iter&&chkI n T true iter it&&chkSs n T xs body|_=>false)
    | .whl c body=>false
    | .rais c as=>!(T.rzs.any fun p=>p.2 == c)||(match st with | .Raise (some (.Call (.Name g _) (x::xs) [] _)) none _=>inX T.rzs g c&&glB T g&&Zh7 g&&decide (xs.length<=1000)&&chkEs n T (x::xs) as|_=>false)
    | .tryx bs c x h=>(match bs with | .cons b .nil=>(match st with | .Try [bt] [.ExceptHandler (some (.Name g _)) (some m) (h0::hs) _] [] [] _=>inX T.exs g c&&inX T.rzs g c&&glB T g&&Zh7 g&&T.N[x]? == some m&&T.sc.names.lookup m == some .local&&Zh0 6 n T bt b&&Ze8 n T x (h0::hs) h|_=>false)|_=>false)
    | .app i e=>(match st with | .Expr (.Call (.Attribute (.Name x _) m ap) [v] [] cp) _=>m == ("append" : Str)&&isV T x i&&ap.endLine == cp.line&&ZaM v&&Zaq n T v e|_=>false)
    | .ext i e=>(match st with | .Expr (.Call (.Attribute (.Name x _) m ap) [v] [] cp) _=>m == ("extend" : Str)&&isV T x i&&ap.endLine == cp.line&&ZaM v&&Zwm e&&Zaq n T v e|_=>false)
    | .rev i=>false
    | .clr i=>false
    | .put i k e=>(match st with | .Assign [.Subscript (.Name x _) y _] v _=>isV T x i&&Zgr y&&Zaq n T y k&&Zaq n T v e|_=>false)
    | .swp i k l=>(match ZuE st with|some (x,y,x',z,v)=>isV T x i&&isV T x' i&&isV T y k&&isV T z l&&Zaq n T v (.tup (.cons (.idx (.var i) (.var l)) (.cons (.idx (.var i) (.var k)) .nil)))|none=>false)
    | .ins _ _ _=>false
    | .dput _ _ _=>false
    | .dsd _ _ _=>false
    | .rel _=>false
noncomputable def chkSs:Nat->Tc->List Stmt->Ss->Bool
  | 0,_,_,_=>false
  | n+1,T,sts,ss=>match ss with
    | .nil=>sts.isEmpty
    | .cons (.rel i) ss=>chkSs n T sts ss
    | .cons s ss=>(match sts with
      | st::r=>Zcl n T st s&&chkSs n T r ss
      | []=>false)
end
noncomputable def Zh8(fuel:Nat)(hot:Bool)(fns:List (Str×Nat×Nat))(bl:List Str)(rzs exs gls:List (Str×Nat))(ps N:List Str)(st:Stmt)(df:Df):Bool :=
  let sc:=Zav st
  sc.kind == .function && !sc.isCoroutine && !sc.isGenerator&&Zfx N&&N.take ps.length == ps&&ps.all (fun x=>sc.names.lookup x == some .local||sc.names.lookup x == some .cell)&&sc.names.all (fun y=>y.2 != .free)&&N.length == df.n &&
  (match hot with
  | true=>Ze8 fuel ⟨sc,N,fns,bl,rzs,exs,gls⟩ 0 (Zbc st) df.body
  | false=>chkSs fuel ⟨sc,N,fns,bl,rzs,exs,gls⟩ (Zbc st) df.body)
end Ov
end
section
namespace Ov
open PySem PySem.Spec PyProof.Rows L2
structure XT (up:Nat->List Nat) (xn:Nat->List D->R Ex) (CL:ClA) (rzs exs:List (Str×Nat)) (K:Fg) (mg:Str->Option Value):Prop where
 xc:∀ c C,CL c=some C->XcOk K C
 rz:∀ p∈rzs,∃ C,CL p.2=some C/\mg p.1=some (.ref C)
 ex:∀ p∈exs,∃ C,mg p.1=some (.ref C)/\Zf9 K CL up p.2 C/\∀ c D,CL c=some D->PySem.W.subIn K (.ref D) (.ref C)=some ((up c).contains p.2)
 made:∀ c ds,xn c ds=.bad\/xn c ds=.ok ⟨c,[]⟩
 xb:∀ c,(∀ p∈rzs,p.2≠c)->∀ ds,xn c ds=.bad
def ZsS(K:Fg)(mg:Str->Option Value)(CL:ClA)(x:Str)(d:D):Prop:=∃ u v,mg x=some u/\ZaR v u/\∀ H A,Rep K CL H A v d
structure VX (Γ:Gam) (CL:ClA) (k:Nat) (W:XW) (T:Tc) (X:Cx):Prop where
 sc:X.env.scope=T.sc
 kd:T.sc.kind=.function
 N:X.N=T.N
 nd:T.N.Nodup
 calm:X.calm=true
 room:Room k X.A
 bl:∀ x,x∈T.bl->X.mg x=none
 fn:∀ p∈T.fns,∃ f fd ps,X.mg p.1=some (.ref f)/\PySem.W.keepIn X.K (.ref f)=true/\ZcH X.K fd ps []/\ps.length=p.2.2%1000/\(p.2.2<1000->FnOk X.prog X.w X.K X.mg X.base (CXR X.prog X.w) k f fd ps (spD X.K CL (p.2.2%1000) (Γ.fr p.2.1) (Γ.F p.2.1)))/\(1000<=p.2.2->HotOk X.prog X.w X.K X.mg X.base k f fd ps (spH X.K CL (p.2.2%1000) (Γ.fr p.2.1) (Γ.F p.2.1)))
 own:PassesOwn (model X.prog X.w) X.A X.env X.xe
 px:∀ A,ZeH (CXR X.prog X.w) X (EKW X.K CL A W)
 rz:Zt6 X CL W
 xt:XT Γ.up Γ.xn CL T.rzs T.exs X.K X.mg
 gl:∀ p∈T.gls,ZsS X.K X.mg CL p.1 (Γ.G p.2)
theorem Zi6{X:Cx}{CL:ClA}:∀ A,ZeH (CXR X.prog X.w) X (EKW X.K CL A W0):=fun A pins σ H s ev s' I h=>by
 obtain⟨e,T,cls,H',_,_,_,_,_,_,_,_,_,_,x,_,w⟩:=h
 exact w.elim
theorem Zvd{X:Cx}{CL:ClA}:Zt6 X CL W0:=fun _ _ _ _ _ _ _ _ _ _ _ _ _ z=>z.elim
def Rf{α:Type}(g f:Rho->R α):Prop:=∀ ρ,g ρ=.bad\/g ρ=f ρ
section
variable {X:Cx} {CL:ClA} {W:XW} {a:Expr} {f g:Rho->R D}
theorem SE.ref(h:SE X CL W a f)(r:Rf g f):SE X CL W a g:=fun A=>PE.weak (h A) fun σ H Q ⟨hA,ρ,q,p⟩=>⟨hA,ρ,q,by
 rcases r ρ with e|e
 ·rw[e] at p;exact p.elim
 ·rw[e] at p;exact p⟩
theorem SB.ref{f g:Rho->R Bool}(h:SB X CL W a f)(r:Rf g f):SB X CL W a g:=fun A=>PT.weak (h A) fun σ H Q ⟨hA,ρ,q,p⟩=>⟨hA,ρ,q,by
 rcases r ρ with e|e
 ·rw[e] at p;exact p.elim
 ·rw[e] at p;exact p⟩
theorem SW.ref{f g:Rho->R Bool}(h:SW X CL W a f)(r:Rf g f):SW X CL W a g:=fun A=>PW.weak (h A) fun σ H Q ⟨hA,ρ,q,p⟩=>⟨hA,ρ,q,by
 rcases r ρ with e|e
 ·rw[e] at p;exact p.elim
 ·rw[e] at p;exact p⟩
theorem SC.ref{fr:Bool}(h:SC X CL W fr a f)(r:Rf g f):SC X CL W fr a g:=fun A=>PE.weak (h A) fun σ H Q ⟨hA,ρ,q,p⟩=>⟨hA,ρ,q,by
 rcases r ρ with e|e
 ·rw[e] at p;exact p.elim
 ·rw[e] at p;exact p⟩
theorem SS.ref{st:Stmt}{f g:Rho->O}(h:SS X CL W st f)(r:∀ ρ,g ρ=.bad\/g ρ=f ρ):SS X CL W st g:=fun Fz B=>PS.weak (h Fz B) fun D σ H ⟨ρ,x,p⟩=>⟨ρ,x,by
 rcases r ρ with e|e
 ·rw[e] at p;exact p.elim
 ·rw[e] at p;exact p⟩
end
theorem Zbv:∀ {l:List Str},Zfx l=true->l.Nodup
 | [],_=>List.nodup_nil
 | x::xs,h=>by
  unfold Zfx at h
  simp only[Bool.and_eq_true,Bool.not_eq_true',List.contains_eq_mem,decide_eq_false_iff_not] at h
  exact List.nodup_cons.mpr ⟨h.1,Zbv h.2⟩
section
variable {T:Tc} {X:Cx} {Γ:Gam} {CL:ClA} {k:Nat} {W:XW}
theorem Zih{x:Str}(h:Zua T x=true):Vis T.sc x:=by
 unfold Zua at h
 split at h
 ·exact .inl (by assumption)
 ·exact .inr (.inl (by assumption))
 ·exact .inr (.inr (by assumption))
 ·cases h
theorem Zdz{x:Str}(h:Zl3 T x=true):Loc T.sc x:=by
 unfold Zl3 at h
 split at h
 ·exact .inl (by assumption)
 ·exact .inr (by assumption)
 ·cases h
theorem ZaY{x:Str}(h:Zh7 x=true):(x == ("__debug__" : Str))=false/\(x == ("__classdict__" : Str))=false/\x≠"__name__" := by
 unfold Zh7 at h
 simp only[Bool.and_eq_true,Bool.not_eq_true'] at h
 exact⟨h.1.1,h.1.2,fun e=>by subst e;exact absurd h.2 (by simp)⟩
theorem Zch{x:Str}{i:Nat}{pos:Pos}(v:VX Γ CL k W T X)(h:isV T x i=true):PE X (.Name x pos) (ZhK i):=by
 unfold isV at h
 simp only[Bool.and_eq_true,beq_iff_eq] at h
 obtain⟨h2,h3,_⟩:=ZaY h.2
 exact ZlV (by rw[v.N];exact h.1.1) (by rw[v.sc];exact Zih h.1.2) h2 h3
theorem Zbl{x:Str}(v:VX Γ CL k W T X)(h:isB T x=true):Gl X x/\X.mg x=none/\x≠"__name__"/\(x == ("__debug__" : Str))=false:=by
 unfold isB glB at h
 simp only[Bool.and_eq_true,beq_iff_eq,List.contains_eq_mem,decide_eq_true_eq] at h
 obtain⟨h2,h3,h4⟩:=ZaY h.2
 exact⟨by show X.env.scope.names.lookup x=_;rw[v.sc];exact h.1.2,v.bl x h.1.1,h4,h2⟩
theorem Zaf{x:Expr}{xs:List Expr}{env:Env}(h:ZaM x=true):starEach (x::xs) env=(false,eval x env)::starEach xs env:=by
 cases x<;>first|rfl|cases h
theorem ZkK{y:Expr}(h:Zgr y=true):ZgK y:=by
 intro o i
 cases y<;>first|rfl|cases h
theorem Zg0{e:Expr}{env:Env}(h:Zjd e=true):∀ x,foldedSetIterable e env x=pure x:=by
 intro x
 cases e<;>first|rfl|cases h
theorem ZdO{e:Expr}{t:Option Expr}{l:Nat}{env:Env}(h:Zdx e=true):swapsWith e t l env=pure false:=by
 cases e<;>first|rfl|cases h
theorem Zgh{e:Expr}{env:Env}(h:ZbU e=true):∀ whole,isTrue e env whole=(do let v <- whole;standAt e.pos;holding [v] (truthy v)):=by
 intro whole
 cases e<;>first|rfl|cases h
theorem ZhQ(v:VX Γ CL k W T X)(scope:Scope):relabel scope X.env=Zni T.sc scope:=by
 unfold relabel Zni
 have:∀ n,X.env.kindOf n=T.sc.names.lookup n:=fun n=>by show X.env.scope.names.lookup n=_;rw[v.sc]
 simp only[this,v.sc]
theorem ZjX{scope:Scope}{ts:List Nat}{N':List Str}(v:VX Γ CL k W T X)(h:Zsy T scope ts N'=true):BlockOk X scope N' ts/\N'.Nodup/\scope.kind=.function:=by
 unfold Zsy at h
 simp only[Bool.and_eq_true,beq_iff_eq,List.all_eq_true,Bool.or_eq_true,bne_iff_ne,ne_eq] at h
 obtain⟨⟨⟨⟨⟨h1,h2⟩,h4⟩,h5⟩,h6⟩,h7⟩:=h
 have at7:∀ i x,N'[i]?=some x->i∈ts\/((scope.names.lookup x≠some .local/\scope.names.lookup x≠some .cell)/\(scope.names.lookup x≠some .free\/T.N[i]?=some x)):=fun i x e=>by
  have hi:=(List.getElem?_eq_some_iff.mp e).1
  have:=h7 i (List.mem_range.mpr hi)
  rcases this with z|z
  ·exact .inl (by simpa using z)
  ·rw[e] at z
   simp only[Bool.and_eq_true,bne_iff_ne,ne_eq,Bool.or_eq_true,beq_iff_eq] at z
   exact .inr z
 refine⟨⟨h1,h2,fun y hy hl=>by rw[h2 y hy,hl],fun y hy hf=>?_,by rw[v.N];exact h5,fun i x e hf hn=>?_,fun i x e hl=>?_⟩,Zbv h6,h1⟩
 ·rw[v.sc]
  rcases h4 y hy with (z|z)|z
  ·exact absurd hf z
  ·exact .inl z
  ·exact .inr z
 ·rw[v.N]
  rcases at7 i x e with z|⟨_,z⟩
  ·exact absurd z hn
  ·exact z.resolve_left fun q=>q hf
 ·rcases at7 i x e with z|⟨z,_⟩
  ·exact z
  ·exact hl.elim (fun q=>absurd q z.1) (fun q=>absurd q z.2)
theorem VX.blk{scope:Scope}{ts:List Nat}{xs:List Str}{cl:List (Str×Addr)}{C:Addr}{s:Shared}{H:Hp}{fp:List Addr}(v:VX Γ CL k W T X)(h:Zsy T scope ts (Zpf ts xs T.N)=true):VX Γ CL k W0 (T.blk scope ts xs) (cxC X scope cl C (Zpf ts xs T.N) s H fp):=by
 obtain⟨_,h2,h3⟩:=ZjX v h
 exact⟨ZhQ v scope,h3,rfl,h2,v.calm,v.room,v.bl,v.fn,PassesOwn.never,Zi6,Zvd,v.xt,v.gl⟩
theorem ZmO{t:Nat}{x:Str}{pos:Pos}{scope:Scope}(v:VX Γ CL k W T X)(hfn:scope.names.lookup x=some .cell->X.fn x=true)(h:tgO T scope t x=true):PG X (.Name x pos) (ZbP t):=by
 unfold tgO at h
 simp only[Bool.and_eq_true,Bool.or_eq_true,beq_iff_eq] at h
 rcases h with ⟨h1,h2|h2⟩
 ·exact Zdv (by rw[v.N];exact v.nd) (by rw[v.N];exact h1) (by rw[v.sc];exact .inl h2) (.inr (by rw[v.sc];exact h2))
 ·exact Zdv (by rw[v.N];exact v.nd) (by rw[v.N];exact h1) (by rw[v.sc];exact .inr h2.1) (.inl (hfn h2.2))
theorem ZbT{y:Expr}{r:List Expr}{zs:List Str}(h:ZaC (y::r)=some zs):∃ x p ws,y=.Name x p/\ZaC r=some ws/\zs=x::ws:=by
 cases y with
 | Name x p =>
  have h':(ZaC r).map (x :: ·)=some zs:=h
  cases e:ZaC r with
  | none=>rw[e] at h';cases h'
  | some ws=>rw[e] at h';cases h';exact⟨x,p,ws,rfl,rfl,rfl⟩
 | _=>cases h
theorem ZdL(x:Str)(p:Pos)(r:List Expr)(env:Env):assignEach (.Name x p::r) env=(false,assign (.Name x p) env)::assignEach r env:=rfl
theorem ZbS{env:Env}:∀ (ys:List Expr) (zs:List Str),ZaC ys=some zs->(assignEach ys env).length=ys.length/\(assignEach ys env).findIdx? (·.1)=none/\(assignEach ys env).map (·.2)=ys.map fun y=>assign y env:=by
 intro ys
 induction ys with
 | nil=>intro _ _;exact⟨rfl,rfl,rfl⟩
 | cons y r ih =>
  intro zs h
  obtain⟨x,p,ws,rfl,e,rfl⟩:=ZbT h
  obtain⟨h1,h2,h3⟩:=ih ws e
  rw[ZdL]
  refine⟨?_,?_,?_⟩
  ·rw[List.length_cons,List.length_cons,h1]
  ·rw[List.findIdx?_cons,h2]
   simp
  ·rw[List.map_cons,List.map_cons,h3]
theorem ZmS(v:VX Γ CL k W T X):∀ (ys:List Expr) (ts:List Nat) (zs:List Str),ZaC ys=some zs->tgB T ts zs=true->PGs X ys (ts.foldr (fun t u=>ZdF (ZbP t) u) Zjz)/\ts.length=ys.length:=by
 intro ys
 induction ys with
 | nil =>
  intro ts zs e h
  cases e
  cases ts with
  | nil=>exact⟨Zgo,rfl⟩
  | cons t ts=>cases h
 | cons y r ih =>
  intro ts zs e h
  obtain⟨x,p,ws,rfl,e2,rfl⟩:=ZbT e
  cases ts with
  | nil=>cases h
  | cons t ts =>
   have h':(T.N[t]? == some x&&T.sc.names.lookup x == some .local&&tgB T ts ws)=true:=h
   simp only[Bool.and_eq_true,beq_iff_eq] at h'
   obtain⟨h1,h2⟩:=ih ts ws e2 h'.2
   exact⟨Zdh (Zdv (by rw[v.N];exact v.nd) (by rw[v.N];exact h'.1.1) (by rw[v.sc];exact .inl h'.1.2) (.inr (by rw[v.sc];exact h'.1.2))) h1 (by rw[ZdL];rfl),congrArg (· + 1) h2⟩
theorem ZmR{ts:List Nat}{ys:List Expr}{kk:Nat}{pos:Pos}(v:VX Γ CL k W T X)(hn:(ZaC ys).isSome=true)(h:tgB T ts (tgN ys)=true):PG X (.Tuple ys kk pos) (Zpp X.K ts.length (ts.foldr (fun t u=>ZdF (ZbP t) u) Zjz)):=by
 cases e:ZaC ys with
 | none=>rw[e] at hn;cases hn
 | some zs =>
  have e2:tgN ys=zs:=by unfold tgN;rw[e];rfl
  rw[e2] at h
  obtain⟨h1,h2⟩:=ZmS v ys ts zs e h
  obtain⟨h3,h4,_⟩:=ZbS (env:=X.env) ys zs e
  exact Zg9 v.calm h1 (by rw[h3,h2]) h4
end
noncomputable def Es.len:Es->Nat
 | .nil=>0
 | .cons _ es=>es.len+1
theorem Ze6(Γ:Gam)(ρ:Rho):∀ (es:Es) (ds:List D),evA Γ ρ es=.ok ds->ds.length=es.len
 | .nil,ds,h=>by cases h;rfl
 | .cons e es,ds,h=>by
  obtain⟨x,h1,h2⟩:=ZaV (Zhq Γ ρ e es ▸ h)
  obtain⟨xs,h3,h4⟩:=ZaV h2
  cases h4
  exact congrArg (· + 1) (Ze6 Γ ρ es xs h3)
theorem ZdH(Γ:Gam)(ρ:Rho):∀ (es:Es) (ds:List D),evB Γ ρ es=.ok ds->ds.length=es.len
 | .nil,ds,h=>by cases h;rfl
 | .cons e es,ds,h=>by
  obtain⟨x,h1,h2⟩:=ZaV (Ze5 Γ ρ e es ▸ h)
  obtain⟨xs,h3,h4⟩:=ZaV h2
  cases h4
  exact congrArg (· + 1) (ZdH Γ ρ es xs h3)
theorem ZlF(Γ:Gam)(ρ:Rho)(e:E)(h:shE ρ e=true):top ρ e (evE Γ ρ e)=evE Γ ρ e:=by
 cases e with
 | var i =>
  show Zff ρ i=ZeK ρ i
  have h':shV ρ i=true:=h
  unfold shV at h'
  unfold Zff ZeK
  cases q:ρ[i]? with
  | none=>rfl
  | some x =>
   cases x with
   | none=>rfl
   | some y =>
    obtain⟨d,o⟩:=y
    cases o with
    | true=>rw[q] at h';cases h'
    | false=>rfl
 | _=>rfl
theorem ZfN(Γ:Gam)(ρ:Rho):∀ (es:Es),ZiD ρ es=true->evB Γ ρ es=evA Γ ρ es
 | .nil,_=>rfl
 | .cons e es,h=>by
  simp only[ZiC,Bool.and_eq_true] at h
  rw[Zhq,Ze5,ZlF Γ ρ e h.1,ZfN Γ ρ es h.2]
theorem Zio(Γ:Gam)(c:E):Rf (fun ρ=>evE Γ ρ c) (fun ρ=>top ρ c (evE Γ ρ c)):=fun ρ=>by
 by_cases h:shE ρ c=true
 ·exact .inr (ZlF Γ ρ c h).symm
 ·cases c with
  | var i =>
   refine .inl ?_
   show ZeK ρ i=.bad
   have h':¬ shV ρ i=true:=h
   unfold shV at h'
   unfold ZeK
   cases q:ρ[i]? with
   | none=>rfl
   | some x =>
    cases x with
    | none=>rfl
    | some y =>
     obtain⟨d,o⟩:=y
     cases o with
     | true=>rfl
     | false=>rw[q] at h';exact absurd rfl h'
  | _=>exact absurd rfl h
end Ov
end
section
namespace Ov
open PySem PySem.Spec PyProof.Rows L2
def Pcs(X:Cx)(CL:ClA)(W:XW)(e:Expr)(f:Rho->R D):Prop:=∃ tg iter elt ifs scope pos N' ts fi fc fe as g,e=.ListComp elt [⟨tg,iter,ifs,0⟩] scope pos/\BlockOk X scope N' ts/\SI X CL W tg iter fi/\GG X.K CL ts as g /\
 (∀ cl C s H fp,PG (cxC X scope cl C N' s H fp) tg g)/\(∀ cl C s H fp,STs (cxC X scope cl C N' s H fp) CL ifs fc)/\(∀ cl C s H fp,SE (cxC X scope cl C N' s H fp) CL W0 elt fe)/\(∀ x,foldedSetIterable iter X.env x=pure x) /\
 ∀ ρ,f ρ=(fi ρ).bind fun xs=>(noX (Zam (fun x=>(as x ρ).bind fc) (fun x=>(as x ρ).bind fe) xs)).bind fun ys=>.ok (.lst ys)
theorem Pcs.sc{X:Cx}{CL:ClA}{W:XW}{e:Expr}{f:Rho->R D}(hc:X.calm=true)(h:Pcs X CL W e f):SC X CL W true e f:=by
 obtain⟨tg,iter,elt,ifs,scope,pos,N',ts,fi,fc,fe,as,g,rfl,B,hi,hGG,hg,ht,he,hs,ef⟩:=h
 exact SC.congr (Znc hc B hi hGG hg ht he hs) ef
structure OkE (Γ:Gam) (CL:ClA) (W:XW) (X:Cx) (e:Expr) (c:E):Prop where
 se:SE X CL W e (fun ρ=>evE Γ ρ c)
 st:ST X CL W e (fun ρ=>top ρ c (evE Γ ρ c))
 nw:Zfd Γ c=true->SC X CL W true e (fun ρ=>evE Γ ρ c)
 cp:Zdx e=false->Pcs X CL W e (fun ρ=>evE Γ ρ c)
section
variable {Γ:Gam} {CL:ClA} {W:XW} {X:Cx} {e:Expr} {c:E}
theorem ZaH(h:SE X CL W e (fun ρ=>evE Γ ρ c))(ht:∀ ρ r,top ρ c r=r)(hn:Zfd Γ c=false)(hc:Zdx e=true):OkE Γ CL W X e c :=
 ⟨h,by simp only[ht];exact h.st,fun z=>absurd z (by rw[hn];decide),fun z=>absurd z (by rw[hc];decide)⟩
theorem Zfu(h:SC X CL W true e (fun ρ=>evE Γ ρ c))(ht:∀ ρ r,top ρ c r=r)(hc:Zdx e=true):OkE Γ CL W X e c :=
 ⟨h.se,by simp only[ht];exact h.se.st,fun _=>h,fun z=>absurd z (by rw[hc];decide)⟩
theorem Zrj(hc:X.calm=true)(h:Pcs X CL W e (fun ρ=>evE Γ ρ c))(ht:∀ ρ r,top ρ c r=r):OkE Γ CL W X e c :=
 ⟨(h.sc hc).se,by simp only[ht];exact(h.sc hc).se.st,fun _=>h.sc hc,fun _=>h⟩
end
theorem ZxB{k:Ki}{x:Str}(h:ZnW k=some x):∃ T,tyK k=some T/\bootBuiltins x=some (.type T):=by
 cases k<;>simp only[ZnW] at h<;>cases h
 ·exact⟨_,rfl,PyProof.Rows.boot_int⟩
 ·exact⟨_,rfl,PyProof.Rows.boot_bool⟩
 ·exact⟨_,rfl,PyProof.Rows.boot_str⟩
 ·exact⟨_,rfl,PyProof.Rows.boot_list⟩
 ·exact⟨_,rfl,PyProof.Rows.boot_tuple⟩
structure Snd (Γ:Gam) (CL:ClA) (k:Nat) (n:Nat):Prop where
 e:∀ (W:XW) (T:Tc) (X:Cx) (x:Expr) (c:E),VX Γ CL k W T X->Zaq n T x c=true->OkE Γ CL W X x c
 b:∀ (W:XW) (T:Tc) (X:Cx) (x:Expr) (c:E),VX Γ CL k W T X->Zlq n T x c=true->SB X CL W x (fun ρ=>(top ρ c (evE Γ ρ c)).bind Za6)
 bs:∀ (W:XW) (T:Tc) (X:Cx) (xs:List Expr) (es:Es) (pos:Pos),VX Γ CL k W T X->chkBs n T xs es=true->xs≠[]->SW X CL W (.BoolOp .And xs pos) (fun ρ=>(evN Γ ρ es).bind Za6)/\SW X CL W (.BoolOp .Or xs pos) (fun ρ=>(evO Γ ρ es).bind Za6)
 es:∀ (W:XW) (T:Tc) (X:Cx) (xs:List Expr) (es:Es),VX Γ CL k W T X->chkEs n T xs es=true->SA X CL W xs (fun ρ=>evA Γ ρ es)/\SAT X CL W xs (fun ρ=>evB Γ ρ es)/\xs.length=es.len/\(∀ pos,xs≠[]->SE X CL W (.BoolOp .And xs pos) (fun ρ=>evN Γ ρ es)/\SE X CL W (.BoolOp .Or xs pos) (fun ρ=>evO Γ ρ es))/\(∀ pos,(backTo pos (starEach xs X.env)).any (·.1)=false)
 o:∀ (W:XW) (T:Tc) (X:Cx) (x:Option Expr) (c:E),VX Γ CL k W T X->chkO n T x c=true->SO X CL W x (fun ρ=>(top ρ c (evE Γ ρ c)).bind (slE c))
 t:∀ (T:Tc) (X:Cx) (xs:List Expr) (c:E),VX Γ CL k W0 T X->chkT n T xs c=true->STs X CL xs (fun ρ=>(top ρ c (evE Γ ρ c)).bind Za6)
 i:∀ (W:XW) (T:Tc) (X:Cx) (tu:Bool) (tg x:Expr) (i:I),VX Γ CL k W T X->Zx0 tu tg=true->chkI n T tu x i=true->SI X CL W tg x (fun ρ=>evI Γ ρ i)
section
variable {Γ:Gam} {CL:ClA} {W:XW} {k n:Nat} {T:Tc} {X:Cx}
theorem ZkJ:Snd Γ CL k 0:=⟨fun _ _ _ _ _ _ h=>by simp[Zaq] at h,fun _ _ _ _ _ _ h=>by simp[Zlq] at h,fun _ _ _ _ _ _ _ h=>by simp[chkBs] at h,fun _ _ _ _ _ _ h=>by simp[chkEs] at h,fun _ _ _ _ _ _ h=>by simp[chkO] at h,fun _ _ _ _ _ h=>by simp[chkT] at h,fun _ _ _ _ _ _ _ _ _ h=>by simp[chkI] at h⟩
theorem Zc6{pos:Pos}{x:Expr}{xs:List Expr}{env:Env}(h:ZaM x=true)(hx:(backTo pos (starEach xs env)).any (·.1)=false):(backTo pos (starEach (x::xs) env)).any (·.1)=false:=by
 rw[Zaf h]
 show (false||(backTo pos (starEach xs env)).any (·.1))=false
 rw[hx]
 rfl
theorem ZpO(S:Snd Γ CL k n)(W:XW)(T:Tc)(X:Cx)(xs:List Expr)(es:Es)(v:VX Γ CL k W T X)(h:chkEs (n+1) T xs es=true):SA X CL W xs (fun ρ=>evA Γ ρ es)/\SAT X CL W xs (fun ρ=>evB Γ ρ es)/\xs.length=es.len/\(∀ pos,xs≠[]->SE X CL W (.BoolOp .And xs pos) (fun ρ=>evN Γ ρ es)/\SE X CL W (.BoolOp .Or xs pos) (fun ρ=>evO Γ ρ es))/\(∀ pos,(backTo pos (starEach xs X.env)).any (·.1)=false):=by
 cases xs with
 | nil =>
  cases es with
  | nil=>exact⟨ZlR,ZiJ,rfl,fun _ z=>absurd rfl z,fun _=>rfl⟩
  | cons=>simp[chkEs] at h
 | cons x xs =>
  cases es with
  | nil=>simp[chkEs] at h
  | cons e es =>
   simp only[chkEs,Bool.and_eq_true] at h
   obtain⟨⟨h0,h1⟩,h2⟩:=h
   have he:=S.e W T X x e v h1
   obtain⟨a1,a2,a3,a4,a5⟩:=S.es W T X xs es v h2
   refine⟨ZiM he.se a1 (Zaf h0),Zg1 he.st a2 (Zaf h0),congrArg (· + 1) a3,fun pos _=>?_,fun pos=>Zc6 h0 (a5 pos)⟩
   cases xs with
   | nil =>
    cases es with
    | nil=>exact⟨ZiF he.se,ZiF he.se⟩
    | cons=>cases a3
   | cons y ys =>
    cases es with
    | nil=>cases a3
    | cons e' es' =>
     obtain⟨b1,b2⟩:=a4 pos (by simp)
     exact⟨ZlP he.se b1,Zvc he.se b2⟩
theorem ZuI(S:Snd Γ CL k n)(W:XW)(T:Tc)(X:Cx)(x:Option Expr)(c:E)(v:VX Γ CL k W T X)(h:chkO (n+1) T x c=true):SO X CL W x (fun ρ=>(top ρ c (evE Γ ρ c)).bind (slE c)):=by
 cases x with
 | none =>
  simp only[chkO] at h
  split at h
  ·exact Zm7
  ·cases h
 | some x =>
  simp only[chkO] at h
  split at h
  ·cases h
  ·rename_i hne
   have q:=Zm6 (S.e W T X x c v h).st
   have e:slE c=fun d=>(ZbE d).bind fun i=>.ok (some i):=by
    funext d
    cases c<;>first|rfl|exact absurd rfl hne
   rw[e]
   exact q
theorem ZuG(S:Snd Γ CL k n)(T:Tc)(X:Cx)(xs:List Expr)(c:E)(v:VX Γ CL k W0 T X)(h:chkT (n+1) T xs c=true):STs X CL xs (fun ρ=>(top ρ c (evE Γ ρ c)).bind Za6):=by
 cases xs with
 | nil =>
  simp only[chkT] at h
  split at h
  ·exact ZmX
  ·cases h
 | cons x xs =>
  cases xs with
  | nil =>
   simp only[chkT] at h
   exact ZmW (S.b W0 T X x c v h)
  | cons y ys=>simp[chkT] at h
theorem ZuJ(S:Snd Γ CL k n)(W:XW)(T:Tc)(X:Cx)(tu:Bool)(tg x:Expr)(i:I)(v:VX Γ CL k W T X)(ht':Zx0 tu tg=true)(h:chkI (n+1) T tu x i=true):SI X CL W tg x (fun ρ=>evI Γ ρ i):=by
 have ht:tu=true->ZwA tg=true:=fun z=>by
  subst z
  cases tg<;>first|rfl|cases ht'
 cases i with
 | e a =>
  simp only[chkI] at h
  exact Zzj (S.e W T X x a v h).se
 | rng a =>
  simp only[chkI] at h
  split at h
  ·simp only[Bool.and_eq_true,beq_iff_eq] at h
   obtain⟨⟨⟨rfl,h1⟩,h2⟩,h3⟩:=h
   obtain⟨g1,g2,_,_⟩:=Zbl v h1
   exact Zp4 (S.e W T X _ a v h3).st g1 g2 (Zaf h2)
  ·cases h
 | rng2 a b =>
  simp only[chkI] at h
  split at h
  ·simp only[Bool.and_eq_true,beq_iff_eq] at h
   obtain⟨⟨⟨⟨⟨rfl,h1⟩,h2⟩,h3⟩,h4⟩,h5⟩:=h
   obtain⟨g1,g2,_,_⟩:=Zbl v h1
   exact Zm9 (S.e W T X _ a v h4).st (S.e W T X _ b v h5).st g1 g2 (by rw[Zaf h2,Zaf h3];rfl) (by rw[Zaf h3];rfl)
  ·cases h
 | zip a b =>
  simp only[chkI] at h
  split at h
  ·simp only[Bool.and_eq_true,beq_iff_eq] at h
   obtain⟨⟨⟨⟨⟨⟨h0,rfl⟩,h1⟩,h2⟩,h3⟩,h4⟩,h5⟩:=h
   obtain⟨g1,g2,_,_⟩:=Zbl v h1
   have hg:=ht h0
   cases tg with
   | Tuple es m tpos=>exact Zp3 (S.e W T X _ a v h4).se (S.e W T X _ b v h5).se g1 g2 (by rw[Zaf h2,Zaf h3];rfl) (by rw[Zaf h3];rfl)
   | _=>cases hg
  ·cases h
 | zip3 a b c=>simp[chkI] at h
 | enm a=>simp[chkI] at h
theorem Zca{c:Prop}[Decidable c]{b:Bool}:(if c then R.ok (D.bl b) else .bad)=.bad\/∃ b',(if c then R.ok (D.bl b) else .bad)=.ok (.bl b'):=by
 by_cases h:c
 ·rw[if_pos h];exact .inr ⟨_,rfl⟩
 ·rw[if_neg h];exact .inl rfl
theorem Zlo(op:CmpOp)(d d':D):Za7 op d d'=.bad\/∃ b,Za7 op d d'=.ok (.bl b):=by
 cases op with
 | Eq=>exact Zca
 | NotEq=>exact Zca
 | In =>
  cases d' with
  | lst ys=>exact Zca
  | tup ys=>exact Zca
  | dic kvs =>
   show (match Zma d with|some k=>R.ok (D.bl (kvs.any fun p=>p.1 == k))|none=>.bad)=.bad\/∃ b,(match Zma d with|some k=>R.ok (D.bl (kvs.any fun p=>p.1 == k))|none=>.bad)=.ok (.bl b)
   cases Zma d with
   | some k=>exact .inr ⟨_,rfl⟩
   | none=>exact .inl rfl
  | _=>cases d<;>exact .inl rfl
 | NotIn =>
  cases d' with
  | lst ys=>exact Zca
  | tup ys=>exact Zca
  | _=>cases d<;>exact .inl rfl
 | Is =>
  cases d' with
  | non=>cases d<;>first|exact .inr ⟨_,rfl⟩|exact .inl rfl
  | _=>cases d<;>first|exact .inl rfl|exact .inr ⟨_,rfl⟩
 | IsNot =>
  cases d' with
  | non=>cases d<;>first|exact .inr ⟨_,rfl⟩|exact .inl rfl
  | _=>cases d<;>first|exact .inl rfl|exact .inr ⟨_,rfl⟩
 | _ =>
  cases d with
  | int i=>cases d'<;>first|exact .inr ⟨_,rfl⟩|exact .inl rfl
  | _=>exact .inl rfl
theorem ZjM(op:CmpOp)(d d':D):(Za7 op d d').bind Za6=.bad\/(Za7 op d d').bind Za6=(Za7 op d d').bind Zc5:=by
 rcases Zlo op d d' with h|⟨b,h⟩
 ·rw[h];exact .inl rfl
 ·rw[h];exact .inr rfl
theorem Zsx(e e':E)(es:Es):Rf (fun ρ=>(evN Γ ρ (.cons e (.cons e' es))).bind Za6) (fun ρ=>((top ρ e (evE Γ ρ e)).bind Za6).bind fun c=>if c=true then (evN Γ ρ (.cons e' es)).bind Za6 else .ok false):=fun ρ=>by
 have e0:evN Γ ρ (.cons e (.cons e' es))=(evE Γ ρ e).bind fun x=>(Zc5 x).bind fun c=>if c=true then evN Γ ρ (.cons e' es) else .ok (.bl false):=rfl
 dsimp only
 rw[e0]
 rcases Zio Γ e ρ with z|z<;>dsimp only at z
 ·rw[z];exact .inl rfl
 ·rw[<- z]
  cases evE Γ ρ e with
  | bad=>exact .inl rfl
  | exn x=>exact .inr rfl
  | ok d =>
   cases d with
   | bl b=>cases b<;>exact .inr rfl
   | _=>exact .inl rfl
theorem Zmt(e e':E)(es:Es):Rf (fun ρ=>(evO Γ ρ (.cons e (.cons e' es))).bind Za6) (fun ρ=>((top ρ e (evE Γ ρ e)).bind Za6).bind fun c=>if c=true then .ok true else (evO Γ ρ (.cons e' es)).bind Za6):=fun ρ=>by
 have e0:evO Γ ρ (.cons e (.cons e' es))=(evE Γ ρ e).bind fun x=>(Zc5 x).bind fun c=>if c=true then .ok (.bl true) else evO Γ ρ (.cons e' es):=rfl
 dsimp only
 rw[e0]
 rcases Zio Γ e ρ with z|z<;>dsimp only at z
 ·rw[z];exact .inl rfl
 ·rw[<- z]
  cases evE Γ ρ e with
  | bad=>exact .inl rfl
  | exn x=>exact .inr rfl
  | ok d =>
   cases d with
   | bl b=>cases b<;>exact .inr rfl
   | _=>exact .inl rfl
theorem Rf.tru(e:E):Rf (fun ρ=>(evE Γ ρ e).bind Za6) (fun ρ=>(top ρ e (evE Γ ρ e)).bind Za6):=fun ρ=>by
 rcases Zio Γ e ρ with z|z<;>dsimp only at z ⊢
 ·rw[z];exact .inl rfl
 ·rw[<- z];exact .inr rfl
theorem ZpP(S:Snd Γ CL k n)(W:XW)(T:Tc)(X:Cx)(xs:List Expr)(es:Es)(pos:Pos)(v:VX Γ CL k W T X)(h:chkBs (n+1) T xs es=true)(hne:xs≠[]):SW X CL W (.BoolOp .And xs pos) (fun ρ=>(evN Γ ρ es).bind Za6)/\SW X CL W (.BoolOp .Or xs pos) (fun ρ=>(evO Γ ρ es).bind Za6):=by
 cases xs with
 | nil=>exact absurd rfl hne
 | cons x xs =>
  cases es with
  | nil=>simp[chkBs] at h
  | cons e es =>
   simp only[chkBs,Bool.and_eq_true] at h
   obtain⟨h1,h2⟩:=h
   have he:=S.b W T X x e v h1
   cases xs with
   | nil =>
    cases es with
    | nil=>exact⟨SW.ref (ZmV he) (Rf.tru e),SW.ref (ZlI he) (Rf.tru e)⟩
    | cons =>
     cases n with
     | zero=>simp[chkBs] at h2
     | succ n=>simp[chkBs] at h2
   | cons y ys =>
    cases es with
    | nil =>
     cases n with
     | zero=>simp[chkBs] at h2
     | succ n=>simp[chkBs] at h2
    | cons e' es' =>
     obtain⟨b1,b2⟩:=S.bs W T X (y::ys) (.cons e' es') pos v h2 (by simp)
     exact⟨SW.ref (ZpL he b1) (Zsx e e' es'),SW.ref (ZpK he b2) (Zmt e e' es')⟩
theorem ZuL(S:Snd Γ CL k n)(W:XW)(T:Tc)(X:Cx)(x:Expr)(c:E)(v:VX Γ CL k W T X)(h:Zlq (n+1) T x c=true):SB X CL W x (fun ρ=>(top ρ c (evE Γ ρ c)).bind Za6):=by
 have plain:∀ e,ZbU e=true->Zaq n T e c=true->SB X CL W e (fun ρ=>(top ρ c (evE Γ ρ c)).bind Za6):=fun e h1 h2=>ZiI (S.e W T X e c v h2).st (Zgh h1)
 simp only[Zlq] at h
 split at h
 ·split at h
  ·rename_i a
   refine SB.ref (Zqk (S.b W T X _ a v h)) fun ρ=>?_
   show ((top ρ a (evE Γ ρ a)).bind fun x=>(Zc5 x).bind fun b=>.ok (.bl (!b))).bind Za6=.bad\/((top ρ a (evE Γ ρ a)).bind fun x=>(Zc5 x).bind fun b=>.ok (.bl (!b))).bind Za6=_
   cases top ρ a (evE Γ ρ a) with
   | bad=>exact .inl rfl
   | exn x=>exact .inr rfl
   | ok d=>cases d<;>first|exact .inr rfl|exact .inl rfl
  ·cases h
 ·split at h
  ·simp only[Bool.and_eq_true,Bool.not_eq_true',List.isEmpty_eq_false_iff] at h
   exact(S.bs W T X _ _ _ v h.1 h.2).1.sb
  ·cases h
 ·split at h
  ·simp only[Bool.and_eq_true,Bool.not_eq_true',List.isEmpty_eq_false_iff] at h
   exact(S.bs W T X _ _ _ v h.1 h.2).2.sb
  ·cases h
 ·split at h
  ·split at h
   ·rename_i op a b _ _ op' y
    simp only[Bool.and_eq_true,Bool.not_eq_true',decide_eq_true_eq] at h
    obtain⟨⟨⟨rfl,h1⟩,h2⟩,h3⟩:=h
    refine SB.ref (Zql (ZcO v.room.units _) (S.e W T X _ a v h2).st (S.e W T X _ b v h3).st h1) fun ρ=>?_
    show ((top ρ a (evE Γ ρ a)).bind fun x=>(top ρ b (evE Γ ρ b)).bind fun y=>Za7 op' x y).bind Za6=.bad\/((top ρ a (evE Γ ρ a)).bind fun x=>(top ρ b (evE Γ ρ b)).bind fun y=>Za7 op' x y).bind Za6=_
    cases top ρ a (evE Γ ρ a) with
    | bad=>exact .inl rfl
    | exn x=>exact .inr rfl
    | ok d =>
     cases top ρ b (evE Γ ρ b) with
     | bad=>exact .inl rfl
     | exn x=>exact .inr rfl
     | ok d' =>
      dsimp only[R.bind]
      exact ZjM _ d d'
   ·cases h
  ·split at h
   ·rename_i op1 op2 a b c _ _ o1 o2 y z
    simp only[Bool.and_eq_true,Bool.not_eq_true',decide_eq_true_eq] at h
    obtain⟨⟨⟨⟨⟨rfl,rfl⟩,h1⟩,h2⟩,h3⟩,h4⟩:=h
    refine SB.ref (ZkO v.room.units (S.e W T X _ a v h2).st (S.e W T X _ b v h3).st (S.e W T X _ c v h4).st h1) fun ρ=>?_
    show ((top ρ a (evE Γ ρ a)).bind fun x=>(top ρ b (evE Γ ρ b)).bind fun y=>(Za7 o1 x y).bind fun z=>(Zc5 z).bind fun k=>if k=true then (top ρ c (evE Γ ρ c)).bind fun u=>Za7 o2 y u else .ok (.bl false)).bind Za6=.bad\/((top ρ a (evE Γ ρ a)).bind fun x=>(top ρ b (evE Γ ρ b)).bind fun y=>(Za7 o1 x y).bind fun z=>(Zc5 z).bind fun k=>if k=true then (top ρ c (evE Γ ρ c)).bind fun u=>Za7 o2 y u else .ok (.bl false)).bind Za6=_
    cases top ρ a (evE Γ ρ a) with
    | bad=>exact .inl rfl
    | exn x=>exact .inr rfl
    | ok d =>
     cases top ρ b (evE Γ ρ b) with
     | bad=>exact .inl rfl
     | exn x=>exact .inr rfl
     | ok d' =>
      dsimp only[R.bind]
      cases Za7 o1 d d' with
      | bad=>exact .inl rfl
      | exn x=>exact .inr rfl
      | ok d3 =>
       cases d3 with
       | bl k =>
        cases k with
        | false=>exact .inr rfl
        | true =>
         dsimp only[R.bind,Zc5]
         rw[if_pos rfl,if_pos rfl]
         cases top ρ c (evE Γ ρ c) with
         | bad=>exact .inl rfl
         | exn x=>exact .inr rfl
         | ok d4=>exact ZjM _ d' d4
       | _=>exact .inl rfl
   ·cases h
  ·cases h
 ·simp only[Bool.and_eq_true] at h
  exact plain _ h.1 h.2
end
end Ov
end
section
namespace Ov
open PySem PySem.Spec PyProof.Rows L2
section
variable {Γ:Gam} {CL:ClA} {W:XW} {k n:Nat} {T:Tc} {X:Cx}
theorem ZxF{b:BI}{g:Str}{p pos:Pos}{x:Expr}{xs:List Expr}{as:Es}(v:VX Γ CL k W T X)(hb:ZnX b=some g)(hg:isB T g=true)(hs:SAT X CL W (x::xs) (fun ρ=>evB Γ ρ as))(h0:ZaM x=true)(hpl:∀ pos,(backTo pos (starEach xs X.env)).any (·.1)=false):OkE Γ CL W X (.Call (.Name g p) (x::xs) [] pos) (.bi b as):=by
 obtain⟨g1,g2,g3,g4⟩:=Zbl v hg
 cases b<;>simp only[ZnX] at hb<;>cases hb
 ·exact ZaH (Zeq Zss g1 g2 PySem.boot_len hs g3 g4 (Zaf h0) hpl) (fun _ _=>rfl) rfl rfl
 ·exact ZaH (Zeq (Zsr v.calm) g1 g2 PyProof.Rows.boot_max hs g3 g4 (Zaf h0) hpl) (fun _ _=>rfl) rfl rfl
 ·exact ZaH (Zeq (Zsq v.calm) g1 g2 PyProof.Rows.boot_min hs g3 g4 (Zaf h0) hpl) (fun _ _=>rfl) rfl rfl
 ·exact ZaH (ZlO Zst g1 g2 PyProof.Rows.boot_int hs g3 g4 (Zaf h0) hpl) (fun _ _=>rfl) rfl rfl
 ·exact Zfu (ZpZ ZoA g1 g2 PyProof.Rows.boot_list hs g3 g4 (Zaf h0) hpl) (fun _ _=>rfl) rfl
 ·exact ZaH (ZlO Zlr g1 g2 PyProof.Rows.boot_tuple hs g3 g4 (Zaf h0) hpl) (fun _ _=>rfl) rfl rfl
 ·exact ZaH (Zeq (Zsv v.calm) g1 g2 PyProof.Rows.boot_all hs g3 g4 (Zaf h0) hpl) (fun _ _=>rfl) rfl rfl
 ·exact ZaH (Zeq (Zsu v.calm) g1 g2 PyProof.Rows.boot_any hs g3 g4 (Zaf h0) hpl) (fun _ _=>rfl) rfl rfl
 ·exact ZaH (Zeq (Zsp v.calm) g1 g2 PyProof.Rows.boot_sum hs g3 g4 (Zaf h0) hpl) (fun _ _=>rfl) rfl rfl
 ·exact Zfu (Zp0 ZjL g1 g2 PyProof.Rows.boot_sorted hs g3 g4 (Zaf h0) hpl) (fun _ _=>rfl) rfl
theorem Zex{l:List (Str×Nat)}{g:Str}{c:Nat}(h:inX l g c=true):(g,c)∈l:=by
 unfold inX at h
 simp only[List.any_eq_true,Bool.and_eq_true,beq_iff_eq] at h
 obtain⟨p,hp,rfl,rfl⟩:=h
 exact hp
theorem Za9{x:Expr}{xs:List Expr}{es:Es}(h:chkEs n T (x::xs) es=true):ZaM x=true/\∃ e es',es=.cons e es'/\∃ m,n=m+1/\chkEs m T xs es'=true:=by
 cases n with
 | zero=>simp[chkEs] at h
 | succ m =>
  cases es with
  | nil=>simp[chkEs] at h
  | cons e es =>
   simp only[chkEs,Bool.and_eq_true] at h
   exact⟨h.1.1,e,es,rfl,m,rfl,h.2⟩
theorem Zby{X:Cx}:∀ (m:Nat) (xs:List Expr) (es:Es),chkEs m T xs es=true->∀ pos,(backTo pos (starEach xs X.env)).any (·.1)=false:=by
 intro m
 induction m with
 | zero=>intro xs es h;simp[chkEs] at h
 | succ m ih =>
  intro xs es h pos
  cases xs with
  | nil=>rfl
  | cons x xs =>
   obtain⟨h0,e,es',rfl,m',e1,h1⟩:=Za9 h
   cases e1
   exact Zc6 h0 (ih xs es' h1 pos)
theorem Zr9{x:Expr}{b:BI}{as:Es}(v:VX Γ CL k W T X)(h:ZyU T x b as=true):OkE Γ CL W X x (.bi b as):=by
 exact absurd h Bool.false_ne_true
theorem ZpM(S:Snd Γ CL k n){x:Expr}{b:BI}{as:Es}(v:VX Γ CL k W T X)(h:(match Zlu as with|some (a,k)=>(match Zx3 x with|some (y,j)=>decide (b=.stp)&&decide (j=k)&&decide (0<=k)&&Zaq n T y a|none=>false)|none=>false)=true):OkE Γ CL W X x (.bi b as):=by
 simp[Zlu] at h
theorem Zrt(S:Snd Γ CL k n){x:Expr}{b:BI}{as:Es}(v:VX Γ CL k W T X)(h:(match Zj4 as with|some (a,c)=>(match Zru x with|some (g,h,y,z)=>decide (b=.list)&&g == ("list" : Str)&&h == ("range" : Str)&&isB T g&&isB T h&&ZaM y&&ZaM z&&Zaq n T y a&&Zaq n T z c|none=>false)|none=>false)=true):OkE Γ CL W X x (.bi b as):=by
 cases q1:Zj4 as with
 | none=>rw[q1] at h;cases h
 | some t1 =>
  obtain⟨a,c⟩:=t1
  cases q2:Zru x with
  | none=>rw[q1,q2] at h;cases h
  | some t2 =>
   obtain⟨g,f,y,z⟩:=t2
   rw[q1,q2] at h
   simp only[Bool.and_eq_true,beq_iff_eq,decide_eq_true_eq] at h
   obtain⟨⟨⟨⟨⟨⟨⟨⟨rfl,rfl⟩,rfl⟩,h1⟩,h2⟩,h3⟩,h4⟩,h5⟩,h6⟩:=h
   obtain⟨p,p',pos,pos',rfl⟩:=Zn1 q2
   have e:=Zlw q1
   subst e
   obtain⟨g1,g2,_,_⟩:=Zbl v h1
   obtain⟨g3,g4,_,_⟩:=Zbl v h2
   refine Zfu (SC.congr (ZpY (S.e W T X _ a v h5).st (S.e W T X _ c v h6).st v.calm g1 g2 g3 g4 (by rw[Zaf h3,Zaf h4];rfl) (by rw[Zaf h4];rfl)) fun ρ=>?_) (fun _ _=>rfl) rfl
   simp only[Zmm,evB,Zlk,Zlj,ZkB,R.bind_assoc,R.bind_ok,Zyq,Zrv]
theorem ZuK(S:Snd Γ CL k n)(W:XW)(T:Tc)(X:Cx)(x:Expr)(c:E)(v:VX Γ CL k W T X)(h:Zaq (n+1) T x c=true):OkE Γ CL W X x c:=by
 cases c with
 | non =>
  simp only[Zaq] at h
  split at h
  ·exact ZaH Zqa (fun _ _=>rfl) rfl rfl
  ·cases h
 | bl b =>
  simp only[Zaq] at h
  split at h
  ·have e:=eq_of_beq h
   subst e
   exact ZaH Zqj (fun _ _=>rfl) rfl rfl
  ·cases h
 | int i =>
  simp only[Zaq] at h
  split at h
  ·have e:=of_decide_eq_true h
   subst e
   exact ZaH Zqf (fun _ _=>rfl) rfl rfl
  ·cases h
 | str i =>
  simp only[Zaq] at h
  split at h
  ·have e:=of_decide_eq_true h
   subst e
   exact ZaH Zp9 (fun _ _=>rfl) rfl rfl
  ·cases h
 | var i =>
  simp only[Zaq] at h
  split at h
  ·exact⟨ZlL (Zch v h),Zfl (Zch v h),fun z=>(nomatch z),fun z=>(nomatch z)⟩
  ·cases h
 | glob g =>
  simp only[Zaq] at h
  split at h
  ·simp only[Bool.and_eq_true] at h
   obtain⟨⟨h1,h2⟩,h3⟩:=h
   obtain⟨u,w',m1,m2,m3⟩:=v.gl _ (Zex h1)
   obtain⟨n2,_,_⟩:=ZaY h3
   refine ZaH (fun A=>PE.weak (Zgp (by unfold glB at h2;show X.env.scope.names.lookup _=_;rw[v.sc];exact eq_of_beq h2) m1 m2 n2) fun σ H Q ⟨hA,ρ,gd,p⟩=>?_) (fun _ _=>rfl) rfl rfl
   exact p w' H (Zag.refl H) (m3 H A)
  ·cases h
 | bin op a b =>
  simp only[Zaq] at h
  split at h
  ·simp only[Bool.and_eq_true,decide_eq_true_eq] at h
   obtain⟨⟨rfl,h1⟩,h2⟩:=h
   have ha:=(S.e W T X _ a v h1).st
   have hb:=(S.e W T X _ b v h2).st
   refine⟨ZlN (Zi8 _) ha hb,(ZlN (Zi8 _) ha hb).st,fun z=>?_,fun z=>nomatch z⟩
   rename_i op' _ _
   cases op'<;>first|exact Zp1 ha hb|cases z
  ·cases h
 | un op a=>simp[Zaq] at h
 | no a =>
  simp only[Zaq] at h
  split at h
  ·exact ZaH (ZlM (S.e W T X _ a v h).st) (fun _ _=>rfl) rfl rfl
  ·cases h
 | and es =>
  simp only[Zaq] at h
  split at h
  ·simp only[Bool.and_eq_true,Bool.not_eq_true',List.isEmpty_eq_false_iff] at h
   exact ZaH ((S.es W T X _ es v h.1).2.2.2.1 _ h.2).1 (fun _ _=>rfl) rfl rfl
  ·cases h
 | or es =>
  simp only[Zaq] at h
  split at h
  ·simp only[Bool.and_eq_true,Bool.not_eq_true',List.isEmpty_eq_false_iff] at h
   exact ZaH ((S.es W T X _ es v h.1).2.2.2.1 _ h.2).2 (fun _ _=>rfl) rfl rfl
  ·cases h
 | cmp op a b =>
  simp only[Zaq] at h
  split at h
  ·simp only[Bool.and_eq_true,Bool.not_eq_true',decide_eq_true_eq] at h
   obtain⟨⟨⟨rfl,h1⟩,h2⟩,h3⟩:=h
   exact ZaH (Zqi (ZcO v.room.units _) (S.e W T X _ a v h2).st (S.e W T X _ b v h3).st h1) (fun _ _=>rfl) rfl rfl
  ·cases h
 | cmp2 op1 op2 a b c =>
  simp only[Zaq] at h
  split at h
  ·simp only[Bool.and_eq_true,Bool.not_eq_true',decide_eq_true_eq] at h
   obtain⟨⟨⟨⟨⟨rfl,rfl⟩,h1⟩,h2⟩,h3⟩,h4⟩:=h
   exact ZaH (ZkM v.room.units (S.e W T X _ a v h2).st (S.e W T X _ b v h3).st (S.e W T X _ c v h4).st h1) (fun _ _=>rfl) rfl rfl
  ·cases h
 | ite c a b=>simp[Zaq] at h
 | call f as =>
  simp only[Zaq] at h
  split at h
  ·rename_i g pp y ys qq
   simp only[Bool.and_eq_true,List.any_eq_true,beq_iff_eq,decide_eq_true_eq] at h
   obtain⟨⟨⟨⟨⟨p,hp,⟨rfl,rfl⟩,hl⟩,h900⟩,h1⟩,h2⟩,h3⟩:=h
   obtain⟨fa,fd,ps,m1,m2,m3,m4,m5,_⟩:=v.fn p hp
   have hlt:p.2.2<1000:=by omega
   rw[Nat.mod_eq_of_lt hlt] at m4 m5
   have m5:=m5 hlt
   obtain⟨n2,n3,n4⟩:=ZaY h2
   obtain⟨a1,a2,a3,a4,a5⟩:=S.es W T X _ as v h3
   obtain⟨s0,e,es',rfl,m,rfl,s1⟩:=Za9 h3
   have q:SC X CL W (Γ.fr p.2.1) (.Call (.Name p.1 pp) (y::ys) [] qq) (fun ρ=>evE Γ ρ (.call p.2.1 (.cons e es'))):=Znd (sh:=fun ρ=>ZiD ρ (.cons e es')) m5 v.room (by unfold glB at h1;show X.env.scope.names.lookup p.1=_;rw[v.sc];exact eq_of_beq h1) m1 m2 m3 v.px a1 a2 (fun ρ z=>ZfN Γ ρ _ z) (fun ρ ds z=>by rw[ZdH Γ ρ _ _ z,<- a3,hl];rfl) n2 (Zaf s0) (Zby m ys es' s1)
   exact⟨q.se,q.se.st,fun z=>by
    have z':Γ.fr p.2.1=true:=z
    rw[z'] at q
    exact q,fun z=>nomatch z⟩
  ·cases h
 | bi b as =>
  simp only[Zaq,Bool.or_eq_true] at h
  rcases h with ((h|h)|h)|h
  ·split at h
   ·simp only[Bool.and_eq_true,beq_iff_eq] at h
    obtain⟨⟨h1,h2⟩,h3⟩:=h
    obtain⟨s0,e,es',rfl,m,rfl,s1⟩:=Za9 h3
    exact ZxF v h1 h2 (S.es W T X _ _ v h3).2.1 s0 (Zby m _ es' s1)
   ·cases h
  ·exact Zr9 v h
  ·exact Zrt S v h
  ·exact ZpM S v h
 | isi a ks =>
  cases ks with
  | nil=>simp[Zaq] at h
  | cons k' ks =>
   cases ks with
   | cons=>simp[Zaq] at h
   | nil =>
    simp only[Zaq] at h
    split at h
    ·simp only[Bool.and_eq_true,beq_iff_eq] at h
     obtain⟨⟨⟨⟨⟨rfl,h1⟩,h2⟩,h3⟩,h4⟩,h5⟩:=h
     obtain⟨g1,g2,_,_⟩:=Zbl v h1
     obtain⟨b1,b2,b3,b4⟩:=Zbl v h3
     obtain⟨ty,t1,t2⟩:=ZxB h2
     exact ZaH (Zqd t1 g1 g2 b1 b2 t2 b3 b4 (S.e W T X _ a v h5).st (Zaf h4)) (fun _ _=>rfl) rfl rfl
    ·cases h
 | idx a i =>
  simp only[Zaq] at h
  split at h
  ·simp only[Bool.and_eq_true] at h
   obtain⟨⟨h1,h2⟩,h3⟩:=h
   exact ZaH (Zqg (ZkK h1) (S.e W T X _ a v h2).st (S.e W T X _ i v h3).st) (fun _ _=>rfl) rfl rfl
  ·cases h
 | sl a lo hi =>
  simp only[Zaq] at h
  split at h
  ·simp only[Bool.and_eq_true] at h
   obtain⟨⟨h1,h2⟩,h3⟩:=h
   refine Zfu (SC.congr (ZuO (S.e W T X _ a v h1).st (S.o W T X _ lo v h2) (S.o W T X _ hi v h3)) fun ρ=>?_) (fun _ _=>rfl) rfl
   show ((top ρ a (evE Γ ρ a)).bind fun x=>(top ρ lo (evE Γ ρ lo)).bind fun l=>(slE lo l).bind fun l'=>(top ρ hi (evE Γ ρ hi)).bind fun h=>(slE hi h).bind fun h'=>slD x l' h')=_
   simp only[R.bind_assoc]
  ·cases h
 | tup es =>
  simp only[Zaq] at h
  split at h
  ·simp only[Bool.and_eq_true,decide_eq_true_eq] at h
   have q:=S.es W T X _ es v h.1
   exact ZaH (Zp8 q.1 fun ρ ds z=>by rw[Ze6 Γ ρ _ _ z,<- q.2.2.1];omega) (fun _ _=>rfl) rfl rfl
  ·cases h
 | lst es =>
  simp only[Zaq] at h
  split at h
  ·simp only[Bool.and_eq_true,decide_eq_true_eq] at h
   have q:=S.es W T X _ es v h.1
   exact Zfu (ZpX q.1 fun ρ ds z=>by rw[Ze6 Γ ρ _ _ z,<- q.2.2.1];omega) (fun _ _=>rfl) rfl
  ·cases h
 | comp elt t it c =>
  simp only[Zaq] at h
  split at h
  ·simp only[Bool.and_eq_true] at h
   obtain⟨⟨⟨⟨⟨h1,h2⟩,h3⟩,h4⟩,h5⟩,h6⟩:=h
   refine Zrj v.calm ⟨_,_,_,_,_,_,_,_,_,_,_,_,_,rfl,(ZjX v h3).1,S.i W T X false _ _ it v rfl h1,Zol t,fun cl C s H fp=>ZmO (v.blk h3) (fun z=>beq_iff_eq.mpr z) h4,fun cl C s H fp=>S.t _ _ _ c (v.blk h3) h5,fun cl C s H fp=>(S.e W0 _ _ _ elt (v.blk h3) h6).se,Zg0 h2,fun ρ=>rfl⟩ (fun _ _=>rfl)
  ·cases h
 | compT elt ts it c =>
  simp only[Zaq] at h
  split at h
  ·simp only[Bool.and_eq_true] at h
   obtain⟨⟨⟨⟨⟨⟨h0,h1⟩,h2⟩,h3⟩,h4⟩,h5⟩,h6⟩:=h
   refine Zrj v.calm ⟨_,_,_,_,_,_,_,_,_,_,_,_,_,rfl,(ZjX v h3).1,S.i W T X true _ _ it v rfl h1,ZrM ts,fun cl C s H fp=>ZmR (v.blk h3) h0 h4,fun cl C s H fp=>S.t _ _ _ c (v.blk h3) h5,fun cl C s H fp=>(S.e W0 _ _ _ elt (v.blk h3) h6).se,Zg0 h2,fun ρ=>rfl⟩ (fun _ _=>rfl)
  ·cases h
 | tupI it =>
  cases it with
  | zip3 a b c =>
   simp only[Zaq] at h
   cases q:ZtX x with
   | none=>rw[q] at h;cases h
   | some t =>
    obtain⟨g,f,y1,y2,y3⟩:=t
    rw[q] at h
    simp only[Bool.and_eq_true,beq_iff_eq] at h
    obtain⟨⟨⟨⟨⟨⟨⟨⟨⟨rfl,rfl⟩,h1⟩,h2⟩,h3⟩,h4⟩,h5⟩,h6⟩,h7⟩,h8⟩:=h
    obtain⟨p,p',pos,pos',rfl⟩:=Zoz q
    obtain⟨g1,g2,_,_⟩:=Zbl v h1
    obtain⟨g3,g4,_,_⟩:=Zbl v h2
    exact ZaH (Zqh (S.e W T X _ a v h6).se (S.e W T X _ b v h7).se (S.e W T X _ c v h8).se v.calm g1 g2 g3 g4 (by rw[Zaf h3,Zaf h4,Zaf h5];rfl) (by rw[Zaf h4,Zaf h5];rfl) (by rw[Zaf h5];rfl)) (fun _ _=>rfl) rfl rfl
  | _=>simp[Zaq] at h
 | dnew=>simp[Zaq] at h
 | fld o f=>simp[Zaq] at h
theorem snd:∀ n,Snd Γ CL k n
 | 0=>ZkJ
 | n+1=>⟨ZuK (snd n),ZuL (snd n),ZpP (snd n),ZpO (snd n),ZuI (snd n),ZuG (snd n),ZuJ (snd n)⟩
end
end Ov
end
section
namespace Ov
open PySem PySem.Spec PyProof.Rows L2
section
variable {Γ:Gam} {CL:ClA} {W:XW} {k n:Nat} {T:Tc} {X:Cx}
theorem ZmQ{t:Nat}{x:Str}{pos:Pos}(v:VX Γ CL k W T X)(hf:∀ x,X.fn x=true)(h:tgC T [t] [x]=true):PG X (.Name x pos) (ZbP t):=by
 unfold tgC at h
 simp only[Bool.and_eq_true,beq_iff_eq] at h
 exact Zdv (by rw[v.N];exact v.nd) (by rw[v.N];exact h.1.1) (by rw[v.sc];exact Zdz h.1.2) (.inl (hf x))
theorem Zip(v:VX Γ CL k W T X)(hf:∀ x,X.fn x=true):∀ (ys:List Expr) (ts:List Nat) (zs:List Str),ZaC ys=some zs->tgC T ts zs=true->PGs X ys (ts.foldr (fun t u=>ZdF (ZbP t) u) Zjz)/\ts.length=ys.length:=by
 intro ys
 induction ys with
 | nil =>
  intro ts zs e h
  cases e
  cases ts with
  | nil=>exact⟨Zgo,rfl⟩
  | cons t ts=>cases h
 | cons y r ih =>
  intro ts zs e h
  obtain⟨x,p,ws,rfl,e2,rfl⟩:=ZbT e
  cases ts with
  | nil=>cases h
  | cons t ts =>
   have h':(T.N[t]? == some x&&Zl3 T x&&tgC T ts ws)=true:=h
   simp only[Bool.and_eq_true,beq_iff_eq] at h'
   obtain⟨h1,h2⟩:=ih ts ws e2 h'.2
   exact⟨Zdh (Zdv (by rw[v.N];exact v.nd) (by rw[v.N];exact h'.1.1) (by rw[v.sc];exact Zdz h'.1.2) (.inl (hf x))) h1 (by rw[ZdL];rfl),congrArg (· + 1) h2⟩
theorem ZmP{ts:List Nat}{ys:List Expr}{kk:Nat}{pos:Pos}(v:VX Γ CL k W T X)(hf:∀ x,X.fn x=true)(hn:(ZaC ys).isSome=true)(h:tgC T ts (tgN ys)=true):PG X (.Tuple ys kk pos) (Zpp X.K ts.length (ts.foldr (fun t u=>ZdF (ZbP t) u) Zjz)):=by
 cases e:ZaC ys with
 | none=>rw[e] at hn;cases hn
 | some zs =>
  have e2:tgN ys=zs:=by unfold tgN;rw[e];rfl
  rw[e2] at h
  obtain⟨h1,h2⟩:=Zip v hf ys ts zs e h
  obtain⟨h3,h4,_⟩:=ZbS (env:=X.env) ys zs e
  exact Zg9 v.calm h1 (by rw[h3,h2]) h4
theorem ZpG{ts:List Nat}{ys:List Expr}{kk:Nat}{pos:Pos}(v:VX Γ CL k W T X)(hf:∀ x,X.fn x=true)(hn:(ZaC ys).isSome=true)(h:tgC T ts (tgN ys)=true):PG X (.Tuple ys kk pos) (gSq X.K ts.length (ts.foldr (fun t u=>ZdF (ZbP t) u) Zjz)):=by
 cases e:ZaC ys with
 | none=>rw[e] at hn;cases hn
 | some zs =>
  have e2:tgN ys=zs:=by unfold tgN;rw[e];rfl
  rw[e2] at h
  obtain⟨h1,h2⟩:=Zip v hf ys ts zs e h
  obtain⟨h3,h4,_⟩:=ZbS (env:=X.env) ys zs e
  exact Zv3 v.calm h1 (by rw[h3,h2]) h4
theorem ZpC{ys:List Expr}{kk:Nat}{pos:Pos}{e:Expr}{env:Env}(h:(Zrm e||Nat.ble 4 ys.length)=true):swappedStores [.Tuple ys kk pos] e env=pure none:=by
 cases e with
 | Tuple vs a b =>
  have h4:=Nat.le_of_ble_eq_true (show Nat.ble 4 ys.length=true from h)
  have e2:(ys.length == 2)=false:=by rw[beq_eq_false_iff_ne];omega
  have e3:(ys.length == 3)=false:=by rw[beq_eq_false_iff_ne];omega
  unfold swappedStores
  dsimp only
  rw[e2,e3]
  rfl
 | _=>rfl
theorem ZeB(ts:List Nat):∀ d ρ x,ZbD ts d ρ≠.exn x:=fun d ρ x h=>by
 unfold ZbD at h
 cases d with
 | tup xs =>
  dsimp only at h
  cases e:ZaO ts xs ρ with
  | some r=>rw[e] at h;cases h
  | none=>rw[e] at h;cases h
 | _=>cases h
theorem Zj1(ts:List Nat):∀ d ρ x,Zf5 ts d ρ≠.exn x:=fun d ρ x h=>by
 unfold Zf5 at h
 split at h
 ·split at h<;>cases h
 ·exact ZeB ts _ ρ x h
theorem ZkC{elt:Expr}{gs:List Comprehension}{scope:Scope}{pos pos':Pos}{x:Str}{l:Nat}{env:Env}:∃ b,swapsWith (.ListComp elt gs scope pos) (some (.Name x pos')) l env=pure b/\(b=true->env.scope.names.lookup x=some .local):=by
 refine⟨_,rfl,fun h=>?_⟩
 simp only[Bool.and_eq_true,beq_iff_eq] at h
 exact h.1.1.2
theorem ZiK{x:Str}{p pos:Pos}{v0:Expr}{i:Nat}{e:E}{fr:Bool}(v:VX Γ CL k W T X)(hf:∀ x,X.fn x=true)(hi:T.N[i]?=some x)(hl:Zl3 T x=true)(o:OkE Γ CL W X v0 e)(hfr:fr=true->Zfd Γ e=true):SAs X CL W fr i (.Assign [.Name x p] v0 pos) (fun ρ=>evE Γ ρ e):=by
 have hN:X.N.Nodup:=by rw[v.N];exact v.nd
 have hi':X.N[i]?=some x:=by rw[v.N];exact hi
 have hx:Loc X.env.scope x:=by rw[v.sc];exact Zdz hl
 have sc:SC X CL W fr v0 (fun ρ=>evE Γ ρ e):=by
  cases fr with
  | false=>exact o.se.sc
  | true=>exact o.nw (hfr rfl)
 cases hc:Zdx v0 with
 | true=>exact SC.sas hN hi' hx sc (ZdO hc) (.inl (hf x))
 | false =>
  obtain⟨tg,iter,elt,ifs,scope,pos2,N',ts,fi,fc,fe,as,g,rfl,B,h2,hGG,hg,ht,he,hs,ef⟩:=o.cp hc
  obtain⟨b,hb,hb'⟩:=ZkC (elt:=elt) (gs:=[⟨tg,iter,ifs,0⟩]) (scope:=scope) (pos:=pos2) (pos':=p) (x:=x) (l:=pos.line) (env:=X.env)
  cases b with
  | false=>exact SC.sas hN hi' hx sc hb (.inl (hf x))
  | true =>
   have q:=ZkP (pos2:=pos) v.calm B h2 hGG hg ht he hs hN hi' (hb' rfl) hb
   have q':SAs X CL W true i (.Assign [.Name x p] (.ListComp elt [⟨tg,iter,ifs,0⟩] scope pos2) pos) (fun ρ=>evE Γ ρ e):=by
    have:(fun ρ=>evE Γ ρ e)=_:=funext ef
    rw[this]
    exact q
   cases fr with
   | true=>exact q'
   | false=>exact fun A=>PS.weak (q' A) fun D σ H ⟨hA,ρ,gd,z⟩=>⟨hA,ρ,gd,by
     dsimp only at z ⊢
     cases e0:evE Γ ρ e with
     | ok d =>
      rw[e0] at z
      exact fun v' H' s' r'=>z v' H' s' ⟨r'.1,fun _=>r'.2 rfl⟩
     | exn y=>rw[e0] at z;exact z
     | bad=>rw[e0] at z;exact z⟩
theorem Zgl{e t:Expr}{l:Nat}{env:Env}(h:∀ x p,t≠.Name x p):swapsWithSole [t] e l env=pure false:=by
 show swapsWith e (some t) l env=pure false
 cases e<;>first|rfl|(cases t<;>first|rfl|exact absurd rfl (h _ _))
theorem ZhL{x y x' z:Str}{p1 p2 p3 p4 p5 p6 tp p p' q1:Pos}{kt q0:Nat}{o a o' a':Expr}{env:Env}:swappedStores [.Tuple [.Subscript (.Name x p1) (.Name y p2) p3,.Subscript (.Name x' p4) (.Name z p5) p6] kt tp] (.Tuple [.Subscript o a p,.Subscript o' a' p'] q0 q1) env=pure none:=by
 unfold swappedStores
 cases env.blockKind<;>rfl
theorem ZfM(ρ:Rho)(e:E)(h:∀ i,e≠.var i):evS Γ ρ (.ret e)=O.of ρ (evE Γ ρ e) fun d=>.ret d (Zfd Γ e):=by
 cases e<;>first|exact absurd rfl (h _)|(simp only[evS,top,Bool.or_false])
structure DefX (X:Cx):Prop where
 fn:∀ x,X.fn x=true
 ex:X.ex=[]
 st:X.stack=X.env::X.outer
 fm:X.env.frame=some X.env.locals
structure SndS (Γ:Gam) (CL:ClA) (k:Nat) (n:Nat):Prop where
 s:∀ (W:XW) (T:Tc) (X:Cx) (x:Stmt) (c:S),VX Γ CL k W T X->DefX X->Zcl n T x c=true->SS X CL W x (fun ρ=>evS Γ ρ c)
 ss:∀ (W:XW) (T:Tc) (X:Cx) (x:List Stmt) (c:Ss),VX Γ CL k W T X->DefX X->chkSs n T x c=true->SSs X CL W x (fun ρ=>evSs Γ ρ c)
theorem Zde(Γ:Gam)(ρ:Rho)(e:E)(h:Ztc e=true)(y:Ex):top ρ e (evE Γ ρ e)≠.exn y:=by
 cases e with
 | var i =>
  intro z
  have z':Zff ρ i=.exn y:=z
  unfold Zff at z'
  split at z'<;>cases z'
 | int i=>intro z;cases z
 | bl i=>intro z;cases z
 | str i=>intro z;cases z
 | non=>intro z;cases z
 | _=>cases h
theorem Zdq(Γ:Gam)(ρ:Rho):∀ (es:Es),ZhO es=true->∀ y,evB Γ ρ es≠.exn y
 | .nil,_,y=>fun z=>by cases z
 | .cons e es,h,y=>fun z=>by
  unfold ZhO at h
  rw[Bool.and_eq_true] at h
  rw[Ze5] at z
  cases e1:top ρ e (evE Γ ρ e) with
  | bad=>rw[e1] at z;cases z
  | exn w=>exact Zde Γ ρ e h.1 w e1
  | ok d =>
   rw[e1,R.bind_ok] at z
   cases e2:evB Γ ρ es with
   | bad=>rw[e2] at z;cases z
   | exn w=>exact Zdq Γ ρ es h.2 w e2
   | ok ds=>rw[e2] at z;cases z
theorem VX.pw(v:VX Γ CL k W T X){pins:Pn}{Xw:Vq}(own:PassesOwn (model X.prog X.w) X.A X.env Xw):VX Γ CL k W0 T (Cx.pw X pins Xw):=⟨v.sc,v.kd,v.N,v.nd,v.calm,v.room,v.bl,v.fn,own,Zi6,Zvd,v.xt,v.gl⟩
theorem Zfo(o:O):(o.seq fun ρ'=>O.next ρ')=o:=by cases o<;>rfl
theorem STB.congr{X:Cx}{CL:ClA}{st:List Stmt}{f g:Rho->O}(h:STB X CL st f)(e:∀ ρ,g ρ=f ρ):STB X CL st g:=by
 have:g=f:=funext e
 rw[this]
 exact h
theorem ZlG(Sn:Snd Γ CL k n)(v:VX Γ CL k W T X)(hf:DefX X){st:Stmt}{s:S}(h:Zhu n T st s=true):STB X CL [st] (fun ρ=>evSs Γ ρ (.cons s .nil))/\∀ ρ y ρ',evSs Γ ρ (.cons s .nil)=.exn y ρ'->ρ'=ρ:=by
 have seq:∀ ρ,evSs Γ ρ (.cons s .nil)=evS Γ ρ s:=fun ρ=>Zfo _
 have ofn:∀ {r:R D} {f:D->Rho} {ρ ρ':Rho} {y:Ex},(O.of ρ r fun d=>O.next (f d))=.exn y ρ'->ρ'=ρ:=fun {r f ρ ρ' y} z=>by
  cases r with
  | ok d=>cases z
  | exn w=>cases z;rfl
  | bad=>cases z
 have call:∀ {e:Expr} {f:Nat} {as:Es},Zaq n T e (.call f as)=true->ZhO as=true->∃ g pp y ys qq,e=.Call (.Name g pp) (y::ys) [] qq/\∃ p∈T.fns,g=p.1/\f=p.2.1/\p.2.2=ys.length+1/\ys.length<900/\glB T g=true/\Zh7 g=true/\∃ m,n=m+1/\chkEs m T (y::ys) as=true:=fun {e f as} h _=>by
  cases n with
  | zero=>simp[Zaq] at h
  | succ m =>
   simp only[Zaq] at h
   split at h
   ·rename_i g pp y ys qq
    simp only[Bool.and_eq_true,List.any_eq_true,beq_iff_eq,decide_eq_true_eq] at h
    obtain⟨⟨⟨⟨⟨p,hp,⟨e1,e2⟩,hl⟩,h900⟩,h1⟩,h2⟩,h3⟩:=h
    exact⟨g,pp,y,ys,qq,rfl,p,hp,e1.symm,e2.symm,hl,h900,h1,h2,m,rfl,h3⟩
   ·cases h
 unfold Zhu at h
 split at h
 ·split at h
  ·rename_i f as v0 pos
   rw[Bool.and_eq_true] at h
   obtain⟨g,pp,y,ys,qq,rfl,p,hp,rfl,rfl,hl,h900,h1,h2,m,rfl,h3⟩:=call h.1 h.2
   obtain⟨fa,fd,ps,m1,m2,m3,m4,m5,_⟩:=v.fn p hp
   have hlt:p.2.2<1000:=by omega
   rw[Nat.mod_eq_of_lt hlt] at m4 m5
   have m5:=m5 hlt
   obtain⟨n2,n3,n4⟩:=ZaY h2
   obtain⟨s0,e,es',rfl,m',rfl,s1⟩:=Za9 h3
   have hlen:ys.length+1=(Es.cons e es').len:=(snd (Γ:=Γ) (CL:=CL) (k:=k) (m'+1)).es W T X _ _ v h3 |>.2.2.1
   refine⟨STB.congr (ZkF (X:=X) (fs:=fun ρ=>evA Γ ρ (.cons e es')) (sh:=fun ρ=>ZiD ρ (.cons e es')) hf.ex m5 v.room (by unfold glB at h1;show X.env.scope.names.lookup p.1=_;rw[v.sc];exact eq_of_beq h1) m1 m2 m3 (fun ρ z=>ZfN Γ ρ _ z) (fun ρ ds z=>by rw[ZdH Γ ρ _ _ z,<- hlen,hl]) (fun ρ=>Zdq Γ ρ _ h.2) n2 (Zaf s0) (Zby m' ys es' s1) (fun pins Xw own=>by
    obtain⟨a1,a2,_⟩:=(snd (Γ:=Γ) (CL:=CL) (k:=k) (m'+1)).es W0 T (Cx.pw X pins Xw) _ _ (v.pw own) h3
    exact⟨a1,a2⟩) (ZdO rfl)) fun ρ=>seq ρ,fun ρ y ρ' z=>?_⟩
   rw[seq] at z
   exact ofn (f:=fun _=>ρ) z
  ·cases h
 ·split at h
  ·skip
   rename_i i f as st0 y0 p0 v0 pos
   simp only[Bool.and_eq_true,beq_iff_eq] at h
   obtain⟨⟨⟨i1,i2⟩,hc⟩,hsim⟩:=h
   obtain⟨g,pp,y,ys,qq,rfl,p,hp,rfl,rfl,hl,h900,h1,h2,m,rfl,h3⟩:=call hc hsim
   obtain⟨fa,fd,ps,m1,m2,m3,m4,m5,_⟩:=v.fn p hp
   have hlt:p.2.2<1000:=by omega
   rw[Nat.mod_eq_of_lt hlt] at m4 m5
   have m5:=m5 hlt
   obtain⟨n2,n3,n4⟩:=ZaY h2
   obtain⟨s0,e,es',rfl,m',rfl,s1⟩:=Za9 h3
   have hlen:ys.length+1=(Es.cons e es').len:=(snd (Γ:=Γ) (CL:=CL) (k:=k) (m'+1)).es W T X _ _ v h3 |>.2.2.1
   refine⟨STB.congr (ZmZ (X:=X) (fs:=fun ρ=>evA Γ ρ (.cons e es')) (sh:=fun ρ=>ZiD ρ (.cons e es')) (i:=i) hf.ex m5 v.room (by unfold glB at h1;show X.env.scope.names.lookup p.1=_;rw[v.sc];exact eq_of_beq h1) m1 m2 m3 (fun ρ z=>ZfN Γ ρ _ z) (fun ρ ds z=>by rw[ZdH Γ ρ _ _ z,<- hlen,hl]) (fun ρ=>Zdq Γ ρ _ hsim) n2 (Zaf s0) (Zby m' ys es' s1) (fun pins Xw own=>by
    obtain⟨a1,a2,_⟩:=(snd (Γ:=Γ) (CL:=CL) (k:=k) (m'+1)).es W0 T (Cx.pw X pins Xw) _ _ (v.pw own) h3
    exact⟨a1,a2⟩) (by rw[v.N];exact v.nd) (by rw[v.N];exact i1) (by rw[v.sc];exact Zdz i2) (.inl (hf.fn _)) (ZdO rfl)) fun ρ=>seq ρ,fun ρ y ρ' z=>?_⟩
   rw[seq] at z
   exact ofn (f:=fun d=>ρ.set i (some (d,false))) z
  ·cases h
 ·cases h
theorem ZcQ{c:Prop}[Decidable c]{d:D}{e:Ex}:(if c then R.ok d else .bad)≠.exn e:=by
 by_cases h:c
 ·rw[if_pos h];intro z;cases z
 ·rw[if_neg h];intro z;cases z
theorem ZoB(op:CmpOp)(x y:D)(e:Ex):Za7 op x y≠.exn e:=by
 cases op with
 | Eq=>exact ZcQ
 | NotEq=>exact ZcQ
 | In =>
  cases y with
  | lst ys=>exact ZcQ
  | tup ys=>exact ZcQ
  | dic kvs =>
   intro z
   have z':(match Zma x with|some k=>R.ok (D.bl (kvs.any fun p=>p.1 == k))|none=>.bad)=.exn e:=z
   cases h:Zma x with
   | none=>rw[h] at z';cases z'
   | some k=>rw[h] at z';cases z'
  | _=>intro z;cases z
 | NotIn =>
  cases y with
  | lst ys=>exact ZcQ
  | tup ys=>exact ZcQ
  | _=>intro z;cases z
 | _=>cases x<;>first|(intro z;cases z;done)|(cases y<;>(intro z;cases z))
theorem ZmM(x:D)(e:Ex):Za6 x≠.exn e:=by
 unfold Za6
 split<;>first|(intro z;cases z;done)|(split<;>intro z<;>cases z)
theorem ZgZ(Γ:Gam)(ρ:Rho)(c:E)(h:ZuT c=true)(y:Ex):(top ρ c (evE Γ ρ c)).bind Za6≠.exn y:=by
 have key:∀ e,top ρ c (evE Γ ρ c)≠.exn e:=by
  cases c with
  | var i=>exact Zde Γ ρ (.var i) rfl
  | cmp op a b =>
   unfold ZuT at h
   rw[Bool.and_eq_true] at h
   intro e z
   have z':((top ρ a (evE Γ ρ a)).bind fun x=>(top ρ b (evE Γ ρ b)).bind fun y=>Za7 op x y)=.exn e:=by
    have e0:evE Γ ρ (.cmp op a b)=((top ρ a (evE Γ ρ a)).bind fun x=>(top ρ b (evE Γ ρ b)).bind fun y=>Za7 op x y):=Zou Γ ρ op a b
    rw[<- e0];exact z
   cases e1:top ρ a (evE Γ ρ a) with
   | bad=>rw[e1] at z';cases z'
   | exn w=>exact Zde Γ ρ a h.1 w e1
   | ok d =>
    rw[e1,R.bind_ok] at z'
    cases e2:top ρ b (evE Γ ρ b) with
    | bad=>rw[e2] at z';cases z'
    | exn w=>exact Zde Γ ρ b h.2 w e2
    | ok d2=>rw[e2,R.bind_ok] at z';exact ZoB _ _ _ _ z'
  | _=>cases h
 intro z
 cases e1:top ρ c (evE Γ ρ c) with
 | bad=>rw[e1] at z;cases z
 | exn w=>exact key w e1
 | ok d=>rw[e1,R.bind_ok] at z;exact ZmM _ _ z
theorem Zuu(Sn:Snd Γ CL k n)(v:VX Γ CL k W T X)(hf:DefX X):∀ (m:Nat) {st:Stmt} {s:S},Zh0 m n T st s=true->STB X CL [st] (fun ρ=>evSs Γ ρ (.cons s .nil))/\∀ ρ y ρ',evSs Γ ρ (.cons s .nil)=.exn y ρ'->ρ'=ρ:=by
 intro m
 induction m with
 | zero=>intro st s h;unfold Zh0 at h;exact ZlG Sn v hf h
 | succ m ih =>
  intro st s h
  unfold Zh0 at h
  rw[Bool.or_eq_true] at h
  rcases h with h|h
  ·exact ZlG Sn v hf h
  ·split at h
   ·split at h
    ·rename_i c a b st0 t xs ys pos
     simp only[Bool.and_eq_true] at h
     obtain⟨⟨⟨h1,h2⟩,h3⟩,h4⟩:=h
     obtain⟨a1,a2⟩:=ih h3
     obtain⟨b1,b2⟩:=ih h4
     have ev:∀ ρ,evSs Γ ρ (.cons (.ife c (.cons a .nil) (.cons b .nil)) .nil)=O.of ρ ((top ρ c (evE Γ ρ c)).bind Za6) fun k=>if k=true then evSs Γ ρ (.cons a .nil) else evSs Γ ρ (.cons b .nil):=fun ρ=>Zfo _
     refine⟨STB.congr (ZmY (fun pins Xw own=>(Sn.b W0 T (Cx.pw X pins Xw) _ _ (v.pw own) h1)) (fun ρ y=>ZgZ Γ ρ c h2 y) a1 b1) fun ρ=>ev ρ,fun ρ y ρ' z=>?_⟩
     rw[ev] at z
     cases e1:(top ρ c (evE Γ ρ c)).bind Za6 with
     | bad=>rw[e1] at z;cases z
     | exn w=>exact absurd e1 (ZgZ Γ ρ c h2 w)
     | ok k =>
      rw[e1,O.of_ok] at z
      cases k with
      | true=>exact a2 ρ y ρ' z
      | false=>exact b2 ρ y ρ' z
    ·cases h
   ·cases h
theorem Ze1{x:Str}{i:Nat}{pos:Pos}{e:Addr}(v:VX Γ CL k W T X)(h:isV T x i=true):PE (Cx.hot X e) (.Name x pos) (ZhK i):=by
 unfold isV at h
 simp only[Bool.and_eq_true,beq_iff_eq] at h
 obtain⟨h2,h3,_⟩:=ZaY h.2
 exact ZlV (by show X.N[i]?=_;rw[v.N];exact h.1.1) (by show Vis X.env.scope x;rw[v.sc];exact Zih h.1.2) h2 h3
theorem Zjw{x:Nat}{t:Expr}{c:E}:∀ {n:Nat},Zcy n T x t c=true->∀ ρ r,top ρ c r=r:=fun {n} h=>by
 cases n with
 | zero=>simp[Zcy] at h
 | succ n =>
  cases c with
  | var i=>simp[Zcy] at h
  | _=>exact fun _ _=>rfl
theorem Zlp(v:VX Γ CL k W T X)(e:Addr):∀ (ts:List Expr) (ks:List Ki),ZfS T ts ks=true->∃ cs:List (Nat×Addr),ks=cs.map (fun q=>Ki.cls q.1)/\cs.length=ts.length/\PA (Cx.hot X e) ts (Zx1 (cs.map fun q:Nat×Addr=>q.2))/\∀ q∈cs,Zf9 X.K CL Γ.up q.1 q.2:=by
 intro ts
 induction ts with
 | nil =>
  intro ks h
  cases ks with
  | nil=>exact⟨[],rfl,rfl,Zbj,fun q hq=>nomatch hq⟩
  | cons k ks=>simp[ZfS] at h
 | cons t ts ih =>
  intro ks h
  cases t with
  | Name t p =>
   cases ks with
   | nil=>simp[ZfS] at h
   | cons kk ks =>
    cases kk with
    | cls c =>
     simp only[ZfS,Bool.and_eq_true] at h
     obtain⟨⟨⟨h1,h2⟩,h3⟩,h4⟩:=h
     obtain⟨cs,e1,e2,e3,e4⟩:=ih ks h4
     obtain⟨C,m1,m3,_⟩:=v.xt.ex _ (Zex h1)
     obtain⟨n2,_,_⟩:=ZaY h3
     refine⟨(c,C)::cs,by rw[e1];rfl,by rw[List.length_cons,List.length_cons,e2],?_,fun q hq=>?_⟩
     ·exact Zao (Zgp (X:=Cx.hot X e) (v:=.ref C) (by unfold glB at h2;show X.env.scope.names.lookup t=_;rw[v.sc];exact eq_of_beq h2) m1 rfl n2) e3 rfl
     ·rcases List.mem_cons.mp hq with rfl|hq
      ·exact m3
      ·exact e4 q hq
    | _=>simp[ZfS] at h
  | _=>simp[ZfS] at h
theorem Zlc(v:VX Γ CL k W T X)(e:Addr)(x:Nat):∀ (n:Nat) (t:Expr) (c:E),Zcy n T x t c=true->SE (Cx.hot X e) CL W0 t (fun ρ=>evE Γ ρ c):=by
 intro n
 induction n with
 | zero=>intro t c h;simp[Zcy] at h
 | succ n ih =>
  intro t c h
  unfold Zcy at h
  split at h
  ·split at h
   ·have e0:=eq_of_beq h
    subst e0
    exact Zqj
   ·cases h
  ·split at h
   ·rename_i a _ _ _
    have q:=(ih _ _ h).st
    refine SE.congr (ZlM q) fun ρ=>?_
    show ((top ρ a (evE Γ ρ a)).bind fun x=>(Zc5 x).bind fun b=>R.ok (D.bl (!b)))=_
    rw[Zjw h]
   ·cases h
  ·split at h
   ·have q:=ih _ _ h
    exact SE.congr (ZiF q) fun ρ=>rfl
   ·cases h
  ·split at h
   ·rw[Bool.and_eq_true] at h
    have q1:=ih _ _ h.1
    have q2:=ih _ _ h.2
    exact SE.congr (ZlP q1 q2) fun ρ=>rfl
   ·cases h
  ·split at h
   ·simp only[Bool.and_eq_true,beq_iff_eq] at h
    obtain⟨⟨⟨⟨⟨rfl,rfl⟩,h3⟩,h4⟩,rfl⟩,h6⟩:=h
    obtain⟨g1,g2,_,_⟩:=Zbl v h3
    obtain⟨b1,b2,_,_⟩:=Zbl v h6
    exact Zqb (X:=Cx.hot X e) v.xt.xc g1 g2 b1 b2 (Zfl (Ze1 v h4)) rfl
   ·cases h
  ·split at h
   ·simp only[Bool.and_eq_true,beq_iff_eq] at h
    obtain⟨⟨⟨⟨⟨⟨rfl,rfl⟩,h3⟩,h4⟩,h5⟩,h6⟩,h7⟩:=h
    obtain⟨g1,g2,_,_⟩:=Zbl v h3
    obtain⟨C,m1,m3,_⟩:=v.xt.ex _ (Zex h5)
    obtain⟨n2,_,_⟩:=ZaY h7
    exact Zqe (X:=Cx.hot X e) v.xt.xc g1 g2 (by unfold glB at h6;show X.env.scope.names.lookup _=_;rw[v.sc];exact eq_of_beq h6) m1 m3 n2 (Zfl (Ze1 v h4)) rfl
   ·cases h
  ·split at h
   ·simp only[Bool.and_eq_true,beq_iff_eq,decide_eq_true_eq] at h
    obtain⟨⟨⟨⟨⟨rfl,rfl⟩,h3⟩,h4⟩,h5⟩,h6⟩:=h
    obtain⟨g1,g2,_,_⟩:=Zbl v h3
    obtain⟨cs,e1,e2,e3,e4⟩:=Zlp v e _ _ h5
    have hne:cs≠[]:=by rintro rfl;cases e1
    rw[e1]
    exact Zqc (X:=Cx.hot X e) (W:=W0) (up:=Γ.up) v.xt.xc g1 g2 e3 hne (by rw[e2];exact h6) e4 (Zfl (Ze1 v h4)) rfl
   ·cases h
  ·split at h
   ·rename_i f i t0 g p0 w0 p1 p2
    rw[Bool.and_eq_true] at h
    obtain⟨h1,h4⟩:=h
    unfold Zyz at h1
    simp only[Bool.and_eq_true,List.any_eq_true,beq_iff_eq] at h1
    obtain⟨⟨⟨p,hp,⟨rfl,rfl⟩,hl⟩,g1⟩,g2⟩:=h1
    obtain⟨fa,fd,ps,m1,m2,m3,m4,_,m5⟩:=v.fn p hp
    have m5:=m5 (by omega)
    obtain⟨n2,_,_⟩:=ZaY g2
    have hv:=Ze1 (e:=e) (pos:=p1) v h4
    have a1:SA (Cx.hot X e) CL W0 [.Name w0 p1] (fun ρ=>evA Γ ρ (.cons (.var i) .nil)):=ZiM (ZlL hv) ZlR rfl
    have a2:SAT (Cx.hot X e) CL W0 [.Name w0 p1] (fun ρ=>evB Γ ρ (.cons (.var i) .nil)):=Zg1 (Zfl hv) ZiJ rfl
    exact(ZkN (X:=X) (ev:=e) (sh:=fun ρ=>ZiD ρ (.cons (.var i) .nil)) m5 v.room (by unfold glB at g1;show X.env.scope.names.lookup p.1=_;rw[v.sc];exact eq_of_beq g1) m1 m2 m3 a1 a2 (fun ρ z=>ZfN Γ ρ _ z) (fun ρ ds z=>by rw[ZdH Γ ρ _ _ z,hl];rfl) n2 rfl (fun _=>rfl)).se
   ·cases h
  ·cases h
theorem ZrK(v:VX Γ CL k W T X)(e:Addr)(x n:Nat)(pos:Pos):∀ (ys:List Expr) (es:Es),ZdS n T x ys es=true->ys≠[]->SW (Cx.hot X e) CL W0 (.BoolOp .Or ys pos) (fun ρ=>(evO Γ ρ es).bind Za6):=by
 intro ys
 induction ys with
 | nil=>intro es _ h;exact absurd rfl h
 | cons y ys ih =>
  intro es h _
  cases es with
  | nil=>simp[ZdS] at h
  | cons c es =>
   simp only[ZdS,Bool.and_eq_true] at h
   obtain⟨⟨h1,h2⟩,h3⟩:=h
   have he:SB (Cx.hot X e) CL W0 y (fun ρ=>(top ρ c (evE Γ ρ c)).bind Za6):=by
    have q:=ZiI ((Zlc v e x n y c h2).st) (Zgh h1)
    exact SB.congr q fun ρ=>by rw[Zjw h2]
   cases ys with
   | nil =>
    cases es with
    | nil=>exact SW.ref (ZlI he) (Rf.tru c)
    | cons=>simp[ZdS] at h3
   | cons z zs =>
    cases es with
    | nil=>simp[ZdS] at h3
    | cons c' es'=>exact SW.ref (ZpK he (ih (.cons c' es') h3 (by simp))) (Zmt c c' es')
theorem ZwJ(v:VX Γ CL k W T X)(e:Addr)(x n:Nat)(t:Expr)(c:E)(h:ZoZ n T x t c=true):SB (Cx.hot X e) CL W0 t (fun ρ=>(top ρ c (evE Γ ρ c)).bind Za6):=by
 unfold ZoZ at h
 split at h
 ·split at h
  ·simp only[Bool.and_eq_true,Bool.not_eq_true',List.isEmpty_eq_false_iff] at h
   exact(ZrK v e x n _ _ _ h.1 h.2).sb
  ·cases h
 ·rw[Bool.and_eq_true] at h
  have q:=ZiI ((Zlc v e x n _ c h.2).st) (Zgh h.1)
  exact SB.congr q fun ρ=>by rw[Zjw h.2]
theorem ZrH(v:VX Γ CL k W T X)(hf:DefX X)(e:Addr)(x:Nat):∀ (n:Nat) (sts:List Stmt) (ss:Ss),Ze8 n T x sts ss=true->SSs (Cx.hot X e) CL W0 sts (fun ρ=>evSs Γ ρ ss):=by
 intro n
 induction n with
 | zero=>intro t c h;simp[Ze8] at h
 | succ n ih =>
  intro sts ss h
  unfold Ze8 at h
  split at h
  ·rw[List.isEmpty_iff] at h
   subst h
   exact Zgj
  ·split at h
   ·simp only[Bool.and_eq_true,beq_iff_eq] at h
    obtain⟨⟨⟨⟨h1,h2⟩,h3⟩,h4⟩,h5⟩:=h
    exact Zdd (ZpS (X:=Cx.hot X e) (by show X.N.Nodup;rw[v.N];exact v.nd) (by show X.N[_]?=_;rw[v.N];exact h1) (by show Loc X.env.scope _;rw[v.sc];exact Zdz h2) (Zlc v e x n _ _ h4) (ZdO h3) (.inl (hf.fn _))) (ih _ _ h5)
   ·cases h
  ·split at h
   ·simp only[Bool.and_eq_true] at h
    obtain⟨⟨h1,h2⟩,h3⟩:=h
    exact Zdd (ZpU (X:=Cx.hot X e) (ZwJ v e x n _ _ h1) (ih _ _ h2) Zgj) (ih _ _ h3)
   ·cases h
  ·split at h
   ·rename_i e0 ss0 st0 v0 pos r
    simp only[Bool.and_eq_true] at h
    obtain⟨⟨h0,h1⟩,h2⟩:=h
    have q:=Zdd (Ziw (X:=Cx.hot X e) (pos:=pos) (Zlc v e x n _ _ h1)) (ih _ _ h2)
    have ef:(fun ρ=>evSs Γ ρ (.cons (.ret e0) ss0))=fun ρ=>(O.of ρ (evE Γ ρ e0) fun d=>O.ret d false).seq fun ρ=>evSs Γ ρ ss0:=by
     funext ρ
     cases e0<;>first|rfl|(cases h0;done)
    rw[ef]
    exact q
   ·cases h
  ·cases h
theorem ZuH(Z:SndS Γ CL k n)(W:XW)(T:Tc)(X:Cx)(st:Stmt)(c:S)(v:VX Γ CL k W T X)(hf:DefX X)(h:Zcl (n+1) T st c=true):SS X CL W st (fun ρ=>evS Γ ρ c):=by
  have E:=snd (Γ:=Γ) (CL:=CL) (k:=k) n
  cases c with
  | pass=>simp[Zcl] at h
  | brk=>simp[Zcl] at h
  | cont=>simp[Zcl] at h
  | asg i fresh e =>
    simp only[Zcl] at h
    split at h
    · simp only[Bool.and_eq_true,beq_iff_eq] at h
      obtain⟨⟨h1,h2⟩,h3⟩:=h
      have o:=E.e W T X _ e v h3
      cases fresh with
      | false=>exact ZlK (ZiK (fr:=false) v hf.fn h1 h2 o (fun z=>nomatch z))
      | true =>
        cases hn:Zfd Γ e with
        | true =>
          refine SS.ref (Zm5 (ZiK (fr:=true) v hf.fn h1 h2 o (fun _=>hn))) fun ρ=>.inr ?_
          show O.of ρ (evE Γ ρ e) (fun d=>if true=true then (if Zfd Γ e=true then (match d with
            | .lst xs=>.next (ρ.set i (some (.lst xs,true)))
            | .dic xs=>.next (ρ.set i (some (.dic xs,true)))
            | _=>.bad) else .bad) else .next (ρ.set i (some (d,false))))=_
          rw[hn]
          rfl
        | false =>
          refine SS.ref (ZlK (ZiK (fr:=false) v hf.fn h1 h2 o (fun z=>nomatch z))) fun ρ=>?_
          have e0:evS Γ ρ (.asg i true e)=O.of ρ (evE Γ ρ e) (fun d=>if true=true then (if Zfd Γ e=true then (match d with
            | .lst xs=>.next (ρ.set i (some (.lst xs,true)))
            | .dic xs=>.next (ρ.set i (some (.dic xs,true)))
            | _=>.bad) else .bad) else .next (ρ.set i (some (d,false)))):=rfl
          rw[e0,hn]
          cases evE Γ ρ e with
          | ok d=>exact .inl rfl
          | exn y=>exact .inr rfl
          | bad=>exact .inl rfl
    · cases h
  | asgT ts e =>
    simp only[Zcl] at h
    split at h
    · simp only[Bool.and_eq_true] at h
      obtain⟨⟨⟨h1,h2⟩,h3⟩,h5⟩:=h
      exact Zm4 (ZwK ts) (ZpG v hf.fn h1 h2) (E.e W T X _ e v h5).se (Zgl (fun _ _ z=>by cases z)) (ZpC h3) rfl (Zj1 ts)
    · cases h
  | expr e =>
    simp only[Zcl] at h
    split at h
    · simp only[Bool.and_eq_true] at h
      exact Zm3 (E.e W T X _ e v h.2).se (ZdO h.1)
    · cases h
  | ret e =>
    simp only[Zcl] at h
    split at h
    · have o:=E.e W T X _ e v h
      cases hv:Zfd Γ e with
      | true =>
        refine SS.ref (Zm2 (o.nw hv)) fun ρ=>.inr ?_
        rw[ZfM ρ e (fun i z=>by subst z;cases hv),hv]
      | false =>
        cases e with
        | var i =>
          cases n with
          | zero=>simp[Zaq] at h
          | succ n =>
            simp only[Zaq] at h
            split at h
            · exact Zm1 (Zch v h)
            · cases h
        | _ =>
          refine SS.ref (Ziw o.se) fun ρ=>.inr ?_
          rw[ZfM ρ _ (by intro i z;cases z),hv]
    · cases h
  | retN=>simp[Zcl] at h
  | ife c a b =>
    simp only[Zcl] at h
    split at h
    · simp only[Bool.and_eq_true] at h
      exact ZpU (E.b W T X _ c v h.1.1) (Z.ss W T X _ a v hf h.1.2) (Z.ss W T X _ b v hf h.2)
    · cases h
  | fors t it body =>
    simp only[Zcl] at h
    split at h
    · simp only[Bool.and_eq_true] at h
      obtain⟨⟨⟨h1,h2⟩,h3⟩,h4⟩:=h
      exact ZlJ v.own v.calm (Zoi t) (ZmQ v hf.fn h1) (E.i W T X false _ _ it v rfl h3) (Z.ss W T X _ body v hf h4) (Zg0 h2) (fun _ _ _ z=>nomatch z)
    · cases h
  | forT ts it body =>
    simp only[Zcl] at h
    split at h
    · simp only[Bool.and_eq_true] at h
      obtain⟨⟨⟨⟨h0,h1⟩,h2⟩,h3⟩,h4⟩:=h
      exact ZlJ v.own v.calm (Zmg ts) (ZmP v hf.fn h0 h1) (E.i W T X true _ _ it v rfl h3) (Z.ss W T X _ body v hf h4) (Zg0 h2) (ZeB ts)
    · cases h
  | whl c body=>simp[Zcl] at h
  | rais c as =>
    simp only[Zcl] at h
    cases hc:T.rzs.any (fun p=>p.2 == c) with
    | false =>
      have hb:∀ ds,Γ.xn c ds=.bad:=v.xt.xb c fun p hp z=>by
        have:T.rzs.any (fun p=>p.2 == c)=true:=List.any_eq_true.mpr ⟨p,hp,beq_iff_eq.mpr z⟩
        rw[hc] at this;cases this
      intro Fz B pins s σ H D I ⟨ρ,x,p⟩
      have p':Zah X.K CL Fz B W (O.of ρ (noX (evA Γ ρ as)) fun xs=>O.of ρ (Γ.xn c xs) fun x=>.exn x ρ) D:=p
      cases e1:evA Γ ρ as with
      | bad=>rw[e1] at p';exact p'.elim
      | exn y=>rw[e1] at p';exact p'.elim
      | ok ds =>
        rw[e1] at p'
        have p2:Zah X.K CL Fz B W (O.of ρ (Γ.xn c ds) fun x=>.exn x ρ) D:=p'
        rw[hb ds] at p2
        exact p2.elim
    | true =>
      rw[hc,Bool.not_true,Bool.false_or] at h
      split at h
      · rename_i g np x xs cpos pos
        simp only[Bool.and_eq_true,decide_eq_true_eq] at h
        obtain⟨⟨⟨⟨h1,h2⟩,h3⟩,h4⟩,h5⟩:=h
        obtain⟨C,m1,m2⟩:=v.xt.rz _ (Zex h1)
        obtain⟨n2,_,_⟩:=ZaY h3
        obtain⟨s0,e,es',rfl,m,rfl,s1⟩:=Za9 h5
        have q:=E.es W T X _ _ v h5
        exact ZkG v.calm v.rz (by unfold glB at h2;show X.env.scope.names.lookup g=_;rw[v.sc];exact eq_of_beq h2) m2 n2 (v.xt.xc c C m1) m1 q.1 (v.xt.made c) (Zaf s0) (Zby m xs es' s1) (fun ρ ds z=>by rw[Ze6 Γ ρ _ _ z,<- q.2.2.1,List.length_cons];omega)
      · cases h
  | app i e =>
    simp only[Zcl] at h
    split at h
    · simp only[Bool.and_eq_true,beq_iff_eq] at h
      obtain⟨⟨⟨⟨rfl,h1⟩,h2⟩,h3⟩,h4⟩:=h
      exact ZpW (Zch v h1) (E.e W T X _ e v h4).se rfl (by rw[Zaf h3];rfl) (by rw[h2];exact beq_self_eq_true _) (Zaf h3) rfl
    · cases h
  | ext i e =>
    simp only[Zcl] at h
    split at h
    · simp only[Bool.and_eq_true,beq_iff_eq] at h
      obtain⟨⟨⟨⟨⟨rfl,h1⟩,h2⟩,h3⟩,h5⟩,h4⟩:=h
      exact ZpV (Zch v h1) ((E.e W T X _ e v h4).nw (ZnV Γ h5)) rfl (by rw[Zaf h3];rfl) (by rw[h2];exact beq_self_eq_true _) (Zaf h3) rfl
    · cases h
  | rev i=>simp[Zcl] at h
  | clr i=>simp[Zcl] at h
  | put i k e =>
    simp only[Zcl] at h
    split at h
    · simp only[Bool.and_eq_true] at h
      obtain⟨⟨⟨h1,h2⟩,h4⟩,h5⟩:=h
      rename_i x p y sp v0 pos
      exact ZpT (Zch v h1) (E.e W T X _ k v h4).st (E.e W T X _ e v h5).se (fun w=>by cases y<;>first|rfl|cases h2) (Zgl (fun _ _ z=>by cases z)) rfl rfl
    · cases h
  | tryx body c x hd =>
    cases body with
    | nil=>simp[Zcl] at h
    | cons b bs =>
      cases bs with
      | cons=>simp[Zcl] at h
      | nil =>
        simp only[Zcl] at h
        split at h
        · rename_i bt g p1 m h0 hs hp pos
          simp only[Bool.and_eq_true,beq_iff_eq,decide_eq_true_eq] at h
          obtain⟨⟨⟨⟨⟨⟨⟨i1,i0⟩,i2⟩,i3⟩,i4⟩,i5⟩,i6⟩,i7⟩:=h
          obtain⟨C,m1,m3,m4⟩:=v.xt.ex _ (Zex i1)
          obtain⟨C0,r1,r2⟩:=v.xt.rz _ (Zex i0)
          have m2:XcOk X.K C:=by
            have e0:=m1.symm.trans r2
            cases e0
            exact v.xt.xc _ _ r1
          obtain⟨n2,_,_⟩:=ZaY i3
          obtain⟨t1,t2⟩:=Zuu E v hf 6 i6
          refine SS.ref (ZpQ (up:=Γ.up) (c:=c) (i:=x) hf.ex hf.st hf.fm (by rw[v.N];exact v.nd) (by rw[v.N];exact i4) (by rw[v.sc];exact i5) (by unfold glB at i2;show X.env.scope.names.lookup g=_;rw[v.sc];exact eq_of_beq i2) m1 n2 m2 (fun c' D hc hD=>by rw[m4 c' D hD,hc]) t1 t2 (fun e=>ZrH v hf e x n _ _ i7)) fun ρ=>.inr ?_
          rw[Zlh]
          unfold ZxT
          cases evSs Γ ρ (.cons b .nil)<;>rfl
        · cases h
  | swp i k l =>
    simp only[Zcl] at h
    cases q:ZuE st with
    | none=>rw[q] at h;cases h
    | some t =>
      obtain⟨x1,y1,x2,z1,v0⟩:=t
      rw[q] at h
      simp only[Bool.and_eq_true] at h
      obtain⟨⟨⟨⟨h1,h2⟩,h3⟩,h4⟩,h5⟩:=h
      obtain⟨p1,p2,p3,p4,p5,p6,kt,tp,o,a,p,o',a',p',q0,q1,pos,rfl,rfl⟩:=ZmU q
      exact ZpR v.calm (Zch v h1) (Zch v h2) (Zch v h3) (Zch v h4) (E.e W T X _ _ v h5).se (fun _=>rfl) (fun _=>rfl) (Zgl (fun _ _ z=>by cases z)) ZhL
  | ins=>simp[Zcl] at h
  | dput=>simp[Zcl] at h
  | dsd=>simp[Zcl] at h
  | rel=>simp[Zcl] at h
theorem ZpN(Z:SndS Γ CL k n)(W:XW)(T:Tc)(X:Cx)(xs:List Stmt)(c:Ss)(v:VX Γ CL k W T X)(hf:DefX X)(h:chkSs (n+1) T xs c=true):SSs X CL W xs (fun ρ=>evSs Γ ρ c):=by
 cases c with
 | nil =>
  simp only[chkSs,List.isEmpty_iff] at h
  subst h
  exact Zgj
 | cons s ss =>
  by_cases hr:∃ i,s=.rel i
  ·obtain⟨i,rfl⟩:=hr
   simp only[chkSs] at h
   exact Zm0 i (Z.ss W T X xs ss v hf h)
  ·cases xs with
   | nil=>cases s<;>first|(simp[chkSs] at h;done)|exact absurd ⟨_,rfl⟩ hr
   | cons st r =>
    have h':Zcl n T st s=true/\chkSs n T r ss=true:=by
     cases s<;>first|(simp only[chkSs,Bool.and_eq_true] at h;exact h)|exact absurd ⟨_,rfl⟩ hr
    exact Zdd (Z.s W T X st s v hf h'.1) (Z.ss W T X r ss v hf h'.2)
theorem ZuN:∀ n,SndS Γ CL k n
 | 0=>⟨fun _ _ _ _ _ _ _ h=>by simp[Zcl] at h,fun _ _ _ _ _ _ _ h=>by simp[chkSs] at h⟩
 | n+1=>⟨ZuH (ZuN n),ZpN (ZuN n)⟩
end
end Ov
end
section
namespace Ov
open PySem PySem.Spec PyProof.Rows L2
theorem Zbu{n:Nat}{ds:List D}{i:Nat}{d:D}{o:Bool}(h:(Zac n ds)[i]?=some (some (d,o))):o=false/\ds[i]?=some d:=by
 unfold Zac at h
 by_cases hi:i<ds.length
 ·rw[List.getElem?_append_left (by simpa using hi),List.getElem?_map] at h
  cases e:ds[i]? with
  | none=>rw[e] at h;cases h
  | some x=>rw[e] at h;cases h;exact⟨rfl,rfl⟩
 ·rw[List.getElem?_append_right (by simpa using Nat.le_of_not_lt hi),List.getElem?_replicate] at h
  split at h<;>cases h
theorem Ziv{N:List Str}{vs:List V}{i:Nat}{v:V}(h:vs[i]?=some v):(L2.start N vs)[i]?=some (some v):=by
 unfold L2.start
 have hi:=(List.getElem?_eq_some_iff.mp h).1
 rw[List.getElem?_append_left (by simpa using hi),List.getElem?_map,h]
 rfl
theorem ZgU{K:Fg}{CL:ClA}{A:Addr->Prop}{H:Hp}{N:List Str}{n:Nat}{vs:List V}{ds:List D}(hn:N.length=n)(hA:AOk H A)(r:Reps K CL H A vs ds):Sx K CL (fun b o=>H b=some o) A (Zac n ds) (L2.start N vs) H:=by
 have own:∀ a,Za5 A (Zac n ds) (L2.start N vs) a->A a:=fun a h=>by
  rcases h with h|⟨j,d,h,_⟩
  ·exact h
  ·exact absurd (Zbu h).1 (by decide)
 have hlen:(Zac n ds).length=(L2.start N vs).length:=by
  unfold Zac L2.start
  simp only[List.length_append,List.length_map,List.length_replicate,r.length,hn]
 refine⟨⟨fun i d h=>?_,fun i d h=>absurd (Zbu h).1 (by decide),hlen⟩,fun a h=>hA a (own a h),fun j d a h _=>absurd (Zbu h).1 (by decide),fun i j d e a h _ _ _=>absurd (Zbu h).1 (by decide),fun b o h=>h,hlen⟩
 obtain⟨v,h1,h2⟩:=r.get (Zbu h).2
 exact⟨v,Ziv h1,Rep.sub own _ h2⟩
def Zpa(K:Fg)(mg:Str->Option Value)(fns:List (Str×Nat×Nat))(bl:List Str)(rzs exs gls:List (Str×Nat))(Pg:Prg)(fuel:Nat)(p:Str×Nat×Nat):Prop:=∃ f fd ps qual st N,mg p.1=some (.ref f)/\Fun K p.1 qual st f fd/\ZcH K fd ps []/\ps.length=p.2.2%1000/\Zh8 fuel (Nat.ble 1000 p.2.2) fns bl rzs exs gls ps N st (Pg.defs p.2.1)=true
structure Tab (K:Fg) (mg:Str->Option Value) (CL:ClA) (fns:List (Str×Nat×Nat)) (bl:List Str) (rzs exs gls:List (Str×Nat)) (Pg:Prg) (fuel:Nat):Prop where
 xt:XT Pg.up Pg.xn CL rzs exs K mg
 bln:∀ x,x∈bl->mg x=none
 gl:∀ p∈gls,ZsS K mg CL p.1 (Pg.G p.2)
 fn:∀ p∈fns,Zpa K mg fns bl rzs exs gls Pg fuel p
theorem Zmj(Pg:Prg)(n i:Nat):(gam Pg n).fr i=(Pg.defs i).fr:=by cases n<;>rfl
theorem Zmi(Pg:Prg)(n:Nat):(gam Pg n).up=Pg.up:=by cases n<;>rfl
theorem ZrN(Pg:Prg)(n:Nat):(gam Pg n).G=Pg.G:=by cases n<;>rfl
theorem Zmh(Pg:Prg)(n:Nat):(gam Pg n).xn=Pg.xn:=by cases n<;>rfl
section
variable {P:Program} {w:World} {K:Fg} {mg:Str->Option Value} {base:Heap} {CL:ClA} {fns:List (Str×Nat×Nat)} {bl:List Str} {rzs exs gls:List (Str×Nat)} {Pg:Prg} {fuel:Nat}
def Lvl(P:Program)(w:World)(K:Fg)(mg:Str->Option Value)(base:Heap)(CL:ClA)(Pg:Prg)(n:Nat)(p:Str×Nat×Nat):Prop:=∃ f fd ps,mg p.1=some (.ref f)/\PySem.W.keepIn K (.ref f)=true/\ZcH K fd ps []/\ps.length=p.2.2%1000/\(p.2.2<1000->FnOk P w K mg base (CXR P w) n f fd ps (spD K CL (p.2.2%1000) ((gam Pg n).fr p.2.1) ((gam Pg n).F p.2.1)))/\(1000<=p.2.2->HotOk P w K mg base n f fd ps (spH K CL (p.2.2%1000) ((gam Pg n).fr p.2.1) ((gam Pg n).F p.2.1)))
theorem Zmp(t:Tab K mg CL fns bl rzs exs gls Pg fuel){n:Nat}(hlv:∀ q∈fns,Lvl P w K mg base CL Pg n q){x qual:Str}{st:Stmt}{f:Addr}{fd:FuncData}{ps N:List Str}{m id:Nat}(h2:Fun K x qual st f fd)(h4:ps.length=m)(h5:Zh8 fuel false fns bl rzs exs gls ps N st (Pg.defs id)=true) :
    FnOk P w K mg base (CXR P w) (n+1) f fd ps (spD K CL m ((gam Pg (n+1)).fr id) ((gam Pg (n+1)).F id)):=by
  unfold Zh8 at h5
  simp only[Bool.and_eq_true,beq_iff_eq,Bool.not_eq_true',List.all_eq_true,Bool.or_eq_true,bne_iff_ne,ne_eq] at h5
  obtain⟨⟨⟨⟨⟨⟨⟨⟨c1,c2⟩,c3⟩,c4⟩,c5⟩,c6⟩,c7⟩,c8⟩,c9⟩:=h5
  obtain⟨oc,od,kV,doc,pm,an,cdv,ct,osl,rfl,lk,hcd⟩:=h2.ex
  refine ZrS (N:=N) lk hcd ⟨c1,c2,c3,Zbv c4,c5,c6,c7⟩ (fun vs H Q E ⟨ds,A,z,_⟩=>z.trans h4.symm) fun A outer s H vs Q E hr ⟨ds,B,hl,hA,hreps,hpost⟩=>?_
  have xt:XT (gam Pg n).up (gam Pg n).xn CL rzs exs K mg:=by rw[Zmi,Zmh];exact t.xt
  have gl:∀ p∈gls,ZsS K mg CL p.1 ((gam Pg n).G p.2):=by rw[ZrN];exact t.gl
  have key:∀ W:XW,(∀ x cls H',W x H'->(∃ C,CL x.c=some C/\cls=.ref C)->E cls none H')->Zah K CL (fun b o=>H b=some o) B W (evSs (gam Pg n) (Zac (Pg.defs id).n ds) (Pg.defs id).body) { nx:=fun _ H'=>Q .non H',rt:=Q } ->
      ∃ t,PSs (Zfe (CXR P w) P w K mg base N qual (Zav st) f cdv A outer s H E) (Zbc st) t/\t { nx:=fun _ H'=>Q .non H',rt:=Q } (start N vs) H:=fun W hW hp=>by
    have v:VX (gam Pg n) CL n W ⟨Zav st,N,fns,bl,rzs,exs,gls⟩ (Zfe (CXR P w) P w K mg base N qual (Zav st) f cdv A outer s H E):=⟨rfl,c1,rfl,Zbv c4,rfl,hr,t.bln,hlv,ownR,Zv8 hW,rzR hW,xt,gl⟩
    exact⟨_,(ZuN fuel).ss W _ _ _ (Pg.defs id).body v ⟨fun _=>rfl,rfl,rfl,rfl⟩ c9 (fun b o=>H b=some o) B,_,ZgU c8 hA hreps,hp⟩
  have no:∀ x cls H',W0 x H'->(∃ C,CL x.c=some C/\cls=.ref C)->E cls none H':=fun _ _ _ z=>z.elim
  have e:(gam Pg (n+1)).F id ds=ZcU Pg.xs ((evSs (gam Pg n) (Zac (Pg.defs id).n ds) (Pg.defs id).body).ans (Pg.defs id).fr):=rfl
  rw[e,Zmj] at hpost
  have cutO:∀ r:R D,(∀ x,r≠.exn x)->ZcU Pg.xs r=r:=fun r hr=>by
    cases Pg.xs<;>cases r<;>first|rfl|exact absurd rfl (hr _)
  cases eo:evSs (gam Pg n) (Zac (Pg.defs id).n ds) (Pg.defs id).body with
  | next ρ' =>
    refine key W0 no ?_
    rw[eo] at hpost ⊢
    cases ef:(Pg.defs id).fr with
    | true=>rw[ef] at hpost;rw[cutO _ (by intro x z;cases z)] at hpost;exact hpost.elim
    | false =>
      rw[ef] at hpost
      rw[cutO _ (by intro x z;cases z)] at hpost
      exact fun σ' H' x'=>hpost .non H' (fun b o z=>x'.same b o z) ⟨rfl,fun z=>nomatch z⟩
  | ret d b =>
    refine key W0 no ?_
    rw[eo] at hpost ⊢
    intro v H' sm rp fr
    have hp2:(match ZcU Pg.xs (if ((Pg.defs id).fr&&(!b&&isL d))=true then R.bad else R.ok d) with
      | .ok d=>∀ v H',Zag H H'->Zcp K CL (Pg.defs id).fr H B H' v d->Q v H'
      | .exn x=>∀ cls dx H',Zag H H'->Zpt K CL H' B cls dx x->E cls dx H'
      | .bad=>False):=hpost
    cases ec:((Pg.defs id).fr&&(!b&&isL d)) with
    | true=>rw[ec,if_pos rfl,cutO _ (by intro x z;cases z)] at hp2;exact hp2.elim
    | false =>
      rw[ec,if_neg (by decide),cutO _ (by intro x z;cases z)] at hp2
      refine hp2 v H' sm ⟨rp,fun efr es hd=>?_⟩
      subst hd
      have eb:b=true:=by
        cases b with
        | true=>rfl
        | false=>rw[efr] at ec;cases ec
      obtain⟨a,xs,h1,h2,h3,h4⟩:=fr eb es rfl
      refine⟨a,xs,h1,?_,h3,h4⟩
      cases ha:H a with
      | none=>rfl
      | some o=>exact absurd ha (h2 o)
  | brk ρ'=>rw[eo] at hpost;have hp2:(match ZcU Pg.xs (R.bad:R D) with | .ok _=>_ | .exn _=>_ | .bad=>False):=hpost;rw[cutO _ (by intro x z;cases z)] at hp2;exact hp2.elim
  | cont ρ'=>rw[eo] at hpost;have hp2:(match ZcU Pg.xs (R.bad:R D) with | .ok _=>_ | .exn _=>_ | .bad=>False):=hpost;rw[cutO _ (by intro x z;cases z)] at hp2;exact hp2.elim
  | bad=>rw[eo] at hpost;have hp2:(match ZcU Pg.xs (R.bad:R D) with | .ok _=>_ | .exn _=>_ | .bad=>False):=hpost;rw[cutO _ (by intro x z;cases z)] at hp2;exact hp2.elim
  | exn x ρ' =>
    rw[eo] at hpost
    have hp2:(match ZcU Pg.xs (R.exn x:R D) with
      | .ok d=>∀ v H',Zag H H'->Zcp K CL (Pg.defs id).fr H B H' v d->Q v H'
      | .exn x=>∀ cls dx H',Zag H H'->Zpt K CL H' B cls dx x->E cls dx H'
      | .bad=>False):=hpost
    cases ex:Pg.xs with
    | false=>rw[ex] at hp2;exact hp2.elim
    | true =>
      rw[ex] at hp2
      have hp3:(match (if x.fs.isEmpty=true then (R.exn x:R D) else .bad) with
        | .ok d=>∀ v H',Zag H H'->Zcp K CL (Pg.defs id).fr H B H' v d->Q v H'
        | .exn x=>∀ cls dx H',Zag H H'->Zpt K CL H' B cls dx x->E cls dx H'
        | .bad=>False):=hp2
      by_cases hfs:x.fs.isEmpty=true
      · rw[if_pos hfs] at hp3
        refine key (fun y H'=>y=x/\Zag H H') (fun y cls H' ⟨e1,sm⟩ ⟨C,d1,d2⟩=>?_) ?_
        · subst e1
          exact hp3 cls none H' sm ⟨C,d1,d2,.inl (List.isEmpty_iff.mp hfs)⟩
        · rw[eo]
          exact fun H' sm=>⟨rfl,sm⟩
      · rw[if_neg hfs] at hp3
        exact hp3.elim
theorem ZrI(t:Tab K mg CL fns bl rzs exs gls Pg fuel){n:Nat}(hlv:∀ q∈fns,Lvl P w K mg base CL Pg n q){x qual:Str}{st:Stmt}{f:Addr}{fd:FuncData}{ps N:List Str}{m id:Nat}(h2:Fun K x qual st f fd)(h4:ps.length=m)(h5:Zh8 fuel true fns bl rzs exs gls ps N st (Pg.defs id)=true) :
    HotOk P w K mg base (n+1) f fd ps (spH K CL m ((gam Pg (n+1)).fr id) ((gam Pg (n+1)).F id)):=by
  unfold Zh8 at h5
  simp only[Bool.and_eq_true,beq_iff_eq,Bool.not_eq_true',List.all_eq_true,Bool.or_eq_true,bne_iff_ne,ne_eq] at h5
  obtain⟨⟨⟨⟨⟨⟨⟨⟨c1,c2⟩,c3⟩,c4⟩,c5⟩,c6⟩,c7⟩,c8⟩,c9⟩:=h5
  obtain⟨oc,od,kV,doc,pm,an,cdv,ct,osl,rfl,lk,hcd⟩:=h2.ex
  refine ZrJ (N:=N) lk hcd ⟨c1,c2,c3,Zbv c4,c5,c6,c7⟩ (fun vs H Q E ⟨ds,A,z,_⟩=>z.trans h4.symm) fun A ev outer s H vs Q E hr ⟨ds,B,hl,hA,hreps,hpost⟩=>?_
  have xt:XT (gam Pg n).up (gam Pg n).xn CL rzs exs K mg:=by rw[Zmi,Zmh];exact t.xt
  have gl:∀ p∈gls,ZsS K mg CL p.1 ((gam Pg n).G p.2):=by rw[ZrN];exact t.gl
  have key:Zah K CL (fun b o=>H b=some o) B W0 (evSs (gam Pg n) (Zac (Pg.defs id).n ds) (Pg.defs id).body) { nx:=fun _ H'=>Q .non H',rt:=Q } ->
      ∃ t,PSs (Cx.hot (Zfe Zpu P w K mg base N qual (Zav st) f cdv A outer s H E) ev) (Zbc st) t/\t { nx:=fun _ H'=>Q .non H',rt:=Q } (start N vs) H:=fun hp=>by
    have v:VX (gam Pg n) CL n W0 ⟨Zav st,N,fns,bl,rzs,exs,gls⟩ (Zfe Zpu P w K mg base N qual (Zav st) f cdv A outer s H E):=⟨rfl,c1,rfl,Zbv c4,rfl,hr,t.bln,hlv,PassesOwn.leaving,Zi6,Zvd,xt,gl⟩
    exact⟨_,ZrH v ⟨fun _=>rfl,rfl,rfl,rfl⟩ ev 0 fuel _ (Pg.defs id).body c9 (fun b o=>H b=some o) B,_,ZgU c8 hA hreps,hp⟩
  have e:(gam Pg (n+1)).F id ds=ZcU Pg.xs ((evSs (gam Pg n) (Zac (Pg.defs id).n ds) (Pg.defs id).body).ans (Pg.defs id).fr):=rfl
  rw[e,Zmj] at hpost
  have cutO:∀ r:R D,(∀ x,r≠.exn x)->ZcU Pg.xs r=r:=fun r hr=>by
    cases Pg.xs<;>cases r<;>first|rfl|exact absurd rfl (hr _)
  refine key ?_
  cases eo:evSs (gam Pg n) (Zac (Pg.defs id).n ds) (Pg.defs id).body with
  | next ρ' =>
    rw[eo] at hpost
    cases ef:(Pg.defs id).fr with
    | true=>rw[ef] at hpost;rw[cutO _ (by intro x z;cases z)] at hpost;exact hpost.elim
    | false =>
      rw[ef] at hpost
      rw[cutO _ (by intro x z;cases z)] at hpost
      exact fun σ' H' x'=>hpost .non H' (fun b o z=>x'.same b o z) ⟨rfl,fun z=>nomatch z⟩
  | ret d b =>
    rw[eo] at hpost
    intro v H' sm rp fr
    have hp2:(match ZcU Pg.xs (if ((Pg.defs id).fr&&(!b&&isL d))=true then R.bad else R.ok d) with
      | .ok d=>∀ v H',Zag H H'->Zcp K CL (Pg.defs id).fr H B H' v d->Q v H'
      | .exn x=>False
      | .bad=>False):=hpost
    cases ec:((Pg.defs id).fr&&(!b&&isL d)) with
    | true=>rw[ec,if_pos rfl,cutO _ (by intro x z;cases z)] at hp2;exact hp2.elim
    | false =>
      rw[ec,if_neg (by decide),cutO _ (by intro x z;cases z)] at hp2
      refine hp2 v H' sm ⟨rp,fun efr es hd=>?_⟩
      subst hd
      have eb:b=true:=by
        cases b with
        | true=>rfl
        | false=>rw[efr] at ec;cases ec
      obtain⟨a,xs,h1,h2,h3,h4⟩:=fr eb es rfl
      refine⟨a,xs,h1,?_,h3,h4⟩
      cases ha:H a with
      | none=>rfl
      | some o=>exact absurd ha (h2 o)
  | brk ρ'=>rw[eo] at hpost;have hp2:(match ZcU Pg.xs (R.bad:R D) with | .ok _=>_ | .exn _=>_ | .bad=>False):=hpost;rw[cutO _ (by intro x z;cases z)] at hp2;exact hp2.elim
  | cont ρ'=>rw[eo] at hpost;have hp2:(match ZcU Pg.xs (R.bad:R D) with | .ok _=>_ | .exn _=>_ | .bad=>False):=hpost;rw[cutO _ (by intro x z;cases z)] at hp2;exact hp2.elim
  | bad=>rw[eo] at hpost;have hp2:(match ZcU Pg.xs (R.bad:R D) with | .ok _=>_ | .exn _=>_ | .bad=>False):=hpost;rw[cutO _ (by intro x z;cases z)] at hp2;exact hp2.elim
  | exn x ρ' =>
    rw[eo] at hpost
    have hp2:(match ZcU Pg.xs (R.exn x:R D) with
      | .ok d=>∀ v H',Zag H H'->Zcp K CL (Pg.defs id).fr H B H' v d->Q v H'
      | .exn x=>False
      | .bad=>False):=hpost
    exfalso
    cases ex:Pg.xs with
    | false=>rw[ex] at hp2;exact hp2
    | true =>
      rw[ex] at hp2
      by_cases hfs:x.fs.isEmpty=true
      · have:ZcU true (R.exn x:R D)=.exn x:=if_pos hfs
        rw[this] at hp2
        exact hp2
      · have:ZcU true (R.exn x:R D)=.bad:=if_neg hfs
        rw[this] at hp2
        exact hp2
theorem Zir(t:Tab K mg CL fns bl rzs exs gls Pg fuel):∀ n,∀ p∈fns,Lvl P w K mg base CL Pg n p
 | 0,p,hp=>by
  obtain⟨f,fd,ps,qual,st,N,h1,h2,h3,h4,h5⟩:=t.fn p hp
  exact⟨f,fd,ps,h1,h2.kp,h3,h4,fun _=>⟨fun vs H Q E ⟨ds,A,_,_,_,z⟩=>z.elim,fun A outer s H args us vs Q E _ _ _ _ ⟨ds,A,_,_,_,z⟩=>z.elim⟩,fun _=>⟨fun vs H Q E ⟨ds,A,_,_,_,z⟩=>z.elim,fun A ev outer s H args us vs Q E _ _ _ _ ⟨ds,A,_,_,_,z⟩=>z.elim⟩⟩
 | n+1,p,hp=>by
  obtain⟨f,fd,ps,qual,st,N,h1,h2,h3,h4,h5⟩:=t.fn p hp
  refine⟨f,fd,ps,h1,h2.kp,h3,h4,fun hlt=>?_,fun hge=>?_⟩
  ·have eb:Nat.ble 1000 p.2.2=false:=by
    cases e:Nat.ble 1000 p.2.2 with
    | false=>rfl
    | true=>exact absurd (Nat.le_of_ble_eq_true e) (by omega)
   rw[eb] at h5
   exact Zmp t (fun q hq=>Zir t n q hq) h2 h4 h5
  ·rw[Nat.ble_eq_true_of_le hge] at h5
   exact ZrI t (fun q hq=>Zir t n q hq) h2 h4 h5
theorem Zok{x:Str}{a:Addr}{dd:Option Addr}{its:List Value}{n:Nat}{sl:Array (Option Value)}{is:List Str}(h:mg x=some (.ref a))(l:K.lookup a=some ⟨.type "tuple", dd,.seq its.toArray n,sl⟩)(hv:Zar (is.map V.str) its)(hz:its.length<=1000):ZsS K mg CL x (.tup (is.map D.str)):=by
 have rs:∀ (H:Hp) (A:Addr->Prop) (l:List Str),Reps K CL H A (l.map V.str) (l.map D.str):=fun H A l=>by
  induction l with
  | nil=>trivial
  | cons x l ih=>exact⟨rfl,ih⟩
 have kt:KT K a (is.map V.str):=⟨_,_,_,l,rfl,rfl,by rw[List.size_toArray,sizeLine_eq];omega,hv⟩
 exact⟨_,.ref a,h,rfl,fun H A=>⟨a,is.map V.str,rfl,.inr kt,.inr kt,rs H A is⟩⟩
theorem Zr5{H:Hp}{s s':Shared}{e:Value}(h:CXR P w [] H s (fun _ _ _=>False) e s'):False:=by
 obtain⟨_,_,_,_,_,_,_,_,_,_,_,_,_,_,z⟩:=h
 exact z
def Zjm(K:Fg):Sp:=fun vs H Q _=>∃ (a:Addr) (ns:List Int),vs=[.ref a]/\ns.length<=63/\SqL K H a (ns.map V.int)/\∀ v H',v=V.bl true->Q v H'
theorem law_fn{CX:CXT}{k:Nat}{f:Addr}{fd:FuncData}{ps:List Str}{F:List D->R D}(G:FnOk P w K mg base CX k f fd ps (spD K CL 1 false F))(h:∀ ns:List Int,F [.lst (ns.map .int)]=.ok (.bl true)):FnOk P w K mg base CX k f fd ps (Zjm K):=G.imp fun vs H Q E ⟨a,ns,e,hl,hS,q⟩=>by
 subst e
 have rs:∀ l:List Int,Reps K CL H A0 (l.map V.int) (l.map D.int):=fun l=>by
  induction l with
  | nil=>trivial
  | cons x l ih=>exact⟨rfl,ih⟩
 refine⟨[.lst (ns.map .int)],A0,rfl,fun _ z=>z.elim,⟨⟨a,_,rfl,.inl (fun z=>z),hS,rs ns⟩,trivial⟩,?_⟩
 rw[h ns]
 exact fun v H' _ r=>q v H' r.1
theorem Zn5{CX:CXT}{k:Nat}{f:Addr}{fd:FuncData}{ps:List Str}{F:List D->R D}(G:FnOk P w K mg base CX k f fd ps (spD K CL 1 false F))(h:∀ ns:List Int,ns.length<=63->F [.lst (ns.map .int)]=.ok (.bl true)):FnOk P w K mg base CX k f fd ps (Zjm K):=G.imp fun vs H Q E ⟨a,ns,e,hl,hS,q⟩=>by
 subst e
 have rs:∀ l:List Int,Reps K CL H A0 (l.map V.int) (l.map D.int):=fun l=>by
  induction l with
  | nil=>trivial
  | cons x l ih=>exact⟨rfl,ih⟩
 refine⟨[.lst (ns.map .int)],A0,rfl,fun _ z=>z.elim,⟨⟨a,_,rfl,.inl (fun z=>z),hS,rs ns⟩,trivial⟩,?_⟩
 rw[h ns hl]
 exact fun v H' _ r=>q v H' r.1
theorem Zd6{α:Type}{Q:α->Prop}:∀ x∈([]:List α),Q x:=fun _ h=>nomatch h
theorem all_cons{α:Type}{Q:α->Prop}{a:α}{l:List α}(h1:Q a)(h2:∀ x∈l,Q x):∀ x∈a::l,Q x:=List.forall_mem_cons.2 ⟨h1,h2⟩
def FnI(K:Fg)(f:Addr)(n:Str)(st:Stmt):Prop:=∃ fd,Fun K n n st f fd/\PySem.W.nsIn K mainGlobals n=some (some (.ref f))
theorem fni{n:Str}{st:Stmt}{f:Addr}{oc:Value}{od an:Option Addr}{osl:Array (Option Value)}{kV doc pm cdv ct:Value}(a:PySem.W.nsIn K mainGlobals n=some (some (.ref f)))(l:K.lookup f=some ⟨oc,od,.func (PySem.W.fnOf n n (ZcT st) (Zbc st) (Zav st) .none kV doc pm an cdv ct),osl⟩)(c:PySem.W.codeIn K cdv n=true)(k:PySem.W.keepIn K (.ref f)=true):FnI K f n st:=⟨_,ZrO l c k,a⟩
def Bd(n:Str)(st:Stmt)(ps:List Str)(us:List Value):Prop:=∀ (kV doc pm:Value) (an:Option Addr) (cdv ct:Value),bindArgs (PySem.W.fnOf n n (ZcT st) (Zbc st) (Zav st) .none kV doc pm an cdv ct) ⟨us,[]⟩=pure (ps.zip us)
theorem Zfr{h:Heap}{n:Str}{f:Addr}{st:Stmt}{ps N:List Str}(m id:Nat)(X:K.In h)(G:h.Ns mainGlobals mg)(A:FnI K f n st)(hl:ps.length=m%1000)(hc:Zh8 fuel (Nat.ble 1000 m) fns bl rzs exs gls ps N st (Pg.defs id)=true)(hb:∀ us:List Value,us.length=ps.length->Bd n st ps us):Zpa K mg fns bl rzs exs gls Pg fuel (n,id,m):=by
 obtain⟨fd,F,a⟩:=A
 exact⟨_,_,_,_,_,_,PySem.W.mg_of X G a,F,F.binds fun kV doc pm an cdv ct us hu=>hb us hu kV doc pm an cdv ct,hl,hc⟩
theorem ZzP{h:Heap}{n:Str}{f:Addr}{st:Stmt}{N:List Str}(m id:Nat)(X:K.In h)(G:h.Ns mainGlobals mg)(A:FnI K f n st)(hl:0=m%1000)(hc:Zh8 fuel (Nat.ble 1000 m) fns bl rzs exs gls [] N st (Pg.defs id)=true)(hb:Bd n st [] []):Zpa K mg fns bl rzs exs gls Pg fuel (n,id,m) :=
 Zfr (ps:=[]) m id X G A hl hc fun us hu=>match us,hu with | [],_=>hb
theorem Zph{h:Heap}{n:Str}{f:Addr}{st:Stmt}{N:List Str}{x0:Str}(m id:Nat)(X:K.In h)(G:h.Ns mainGlobals mg)(A:FnI K f n st)(hl:1=m%1000)(hc:Zh8 fuel (Nat.ble 1000 m) fns bl rzs exs gls [x0] N st (Pg.defs id)=true)(hb:∀ u0,Bd n st [x0] [u0]):Zpa K mg fns bl rzs exs gls Pg fuel (n,id,m) :=
 Zfr (ps:=[x0]) m id X G A hl hc fun us hu=>match us,hu with | [u0],_=>hb u0
theorem Zgm{h:Heap}{n:Str}{f:Addr}{st:Stmt}{N:List Str}{x0 x1:Str}(m id:Nat)(X:K.In h)(G:h.Ns mainGlobals mg)(A:FnI K f n st)(hl:2=m%1000)(hc:Zh8 fuel (Nat.ble 1000 m) fns bl rzs exs gls [x0,x1] N st (Pg.defs id)=true)(hb:∀ u0 u1,Bd n st [x0,x1] [u0,u1]):Zpa K mg fns bl rzs exs gls Pg fuel (n,id,m) :=
 Zfr (ps:=[x0,x1]) m id X G A hl hc fun us hu=>match us,hu with | [u0,u1],_=>hb u0 u1
theorem ZiP{h:Heap}{n:Str}{f:Addr}{st:Stmt}{N:List Str}{x0 x1 x2:Str}(m id:Nat)(X:K.In h)(G:h.Ns mainGlobals mg)(A:FnI K f n st)(hl:3=m%1000)(hc:Zh8 fuel (Nat.ble 1000 m) fns bl rzs exs gls [x0,x1,x2] N st (Pg.defs id)=true)(hb:∀ u0 u1 u2,Bd n st [x0,x1,x2] [u0,u1,u2]):Zpa K mg fns bl rzs exs gls Pg fuel (n,id,m) :=
 Zfr (ps:=[x0,x1,x2]) m id X G A hl hc fun us hu=>match us,hu with | [u0,u1,u2],_=>hb u0 u1 u2
theorem Zyf{h:Heap}{n:Str}{f:Addr}{st:Stmt}{N:List Str}{x0 x1 x2 x3:Str}(m id:Nat)(X:K.In h)(G:h.Ns mainGlobals mg)(A:FnI K f n st)(hl:4=m%1000)(hc:Zh8 fuel (Nat.ble 1000 m) fns bl rzs exs gls [x0,x1,x2,x3] N st (Pg.defs id)=true)(hb:∀ u0 u1 u2 u3,Bd n st [x0,x1,x2,x3] [u0,u1,u2,u3]):Zpa K mg fns bl rzs exs gls Pg fuel (n,id,m) :=
 Zfr (ps:=[x0,x1,x2,x3]) m id X G A hl hc fun us hu=>match us,hu with | [u0,u1,u2,u3],_=>hb u0 u1 u2 u3
end
end Ov
end
section
namespace OvC
open PySem Ov
noncomputable def ZdZ:Df:=⟨4,false,(.cons (.ret (.call 1 (.cons (.var 0) (.cons (.bin .Add (.bin .Sub (.bin .Mult (.idx (.var 1) (.int 0)) (.bin .Sub (.bin .Mult (.idx (.var 2) (.int 1)) (.idx (.var 3) (.int 2))) (.bin .Mult (.idx (.var 2) (.int 2)) (.idx (.var 3) (.int 1))))) (.bin .Mult (.idx (.var 1) (.int 1)) (.bin .Sub (.bin .Mult (.idx (.var 2) (.int 0)) (.idx (.var 3) (.int 2))) (.bin .Mult (.idx (.var 2) (.int 2)) (.idx (.var 3) (.int 0)))))) (.bin .Mult (.idx (.var 1) (.int 2)) (.bin .Sub (.bin .Mult (.idx (.var 2) (.int 0)) (.idx (.var 3) (.int 1))) (.bin .Mult (.idx (.var 2) (.int 1)) (.idx (.var 3) (.int 0)))))) .nil)))) .nil)⟩
noncomputable abbrev tr(a b c:Int):D:=.tup [.int a,.int b,.int c]
noncomputable def det(a0 a1 a2 b0 b1 b2 c0 c1 c2:Int):Int:=a0*(b1*c2-b2*c1)-a1*(b0*c2-b2*c0)+a2*(b0*c1-b1*c0)
def Sm(x:Int):Prop:=0<=x/\x<11
theorem Sm.of{p:Int}(h:P4 p)(x:Int):Sm (x%p):=⟨Int.emod_nonneg _ (by have:=h.pos;omega),by have:=Int.emod_lt_of_pos x h.pos;have:=h.hi;omega⟩
end OvC
end
section
namespace OvC
open PySem Ov
theorem Zey{body:D->Rho->O}(I:Rho->Prop)(g:Int->Bool):∀ (L:List Int),(∀ t∈L,∀ ρ,I ρ->(g t=true/\body (.int t) ρ=.ret (.int t) false)\/(g t=false/\∃ ρ',body (.int t) ρ=.next ρ'/\I ρ')) ->
  ∀ ρ,I ρ->(∃ t∈L,g t=true/\Zea body (L.map D.int) ρ=.ret (.int t) false)\/((∀ t∈L,g t=false)/\∃ ρ',Zea body (L.map D.int) ρ=.next ρ'/\I ρ')
 | [],_,ρ,i=>.inr ⟨(fun _ h=>nomatch h),ρ,rfl,i⟩
 | m::L,h,ρ,i=>by
  rcases h m (List.mem_cons_self ..) ρ i with ⟨e1,e2⟩|⟨e1,ρ',e2,i'⟩
  ·refine .inl ⟨m,List.mem_cons_self ..,e1,?_⟩
   show (body (.int m) ρ).turn _=_
   rw[e2]
   rfl
  ·rcases Zey I g L (fun m' h'=>h m' (List.mem_cons_of_mem _ h')) ρ' i' with ⟨t,ht,a,b⟩|⟨a,r,b,c⟩
   ·refine .inl ⟨t,List.mem_cons_of_mem _ ht,a,?_⟩
    show (body (.int m) ρ).turn _=_
    rw[e2]
    exact b
   ·refine .inr ⟨fun t ht=>?_,r,?_,c⟩
    ·rcases List.mem_cons.mp ht with rfl|ht
     ·exact e1
     ·exact a t ht
    ·show (body (.int m) ρ).turn _=_
     rw[e2]
     exact b
noncomputable def Zap:Ss:=(.cons (.ife (.cmp .Eq (.call 1 (.cons (.var 0) (.cons (.bin .Mult (.var 1) (.var 2)) .nil))) (.int 1)) (.cons (.ret (.var 2)) .nil) .nil) .nil)
noncomputable def Za8:Df:=⟨3,false,(.cons (.fors 2 (.rng2 (.int 1) (.var 0)) Zap) (.cons (.rais 2 (.cons (.str (Str.ofString "a number with the rest 0 is not turned over")) .nil)) .nil))⟩
noncomputable def ZgT(p:Int):List Int:=(List.range (p-1).toNat).map fun (k:Nat)=>1+(k:Int)
theorem Zb6{p t:Int}:t∈ZgT p↔1<=t/\t<p:=by
 unfold ZgT
 rw[List.mem_map]
 constructor
 ·rintro⟨k,hk,rfl⟩
  have:=List.mem_range.mp hk
  omega
 ·rintro⟨h1,h2⟩
  exact⟨(t-1).toNat,List.mem_range.mpr (by omega),by omega⟩
theorem Zg5{p:Int}(h:P4 p):Zaz 1 p=.ok ((ZgT p).map D.int):=by
 rcases h with rfl|rfl|rfl|rfl<;>rfl
theorem Zog:∀ p:Fin 12,(p.val=3\/p.val=5\/p.val=7\/p.val=11)->∀ r:Fin 12,r.val<p.val->r.val≠0->∃ t:Fin 12,1<=t.val/\t.val<p.val/\r.val*t.val%p.val=1:=by decide +kernel
theorem ZdA{p n:Int}(h:P4 p)(hn:n%p≠0):∃ t,1<=t/\t<p/\n*t%p=1:=by
 have p0:0<p/\p<12:=by rcases h with rfl|rfl|rfl|rfl<;>decide
 obtain⟨q,rfl⟩:∃ q:Nat,p=q:=⟨p.toNat,by omega⟩
 have h0:=Int.emod_nonneg n (b:=(q:Int)) (by omega)
 have h1:=Int.emod_lt_of_pos n p0.1
 obtain⟨r,hr⟩:∃ r:Nat,n%(q:Int)=r:=⟨(n%(q:Int)).toNat,by omega⟩
 obtain⟨t,t1,t2,t3⟩:=Zog ⟨q,by omega⟩ (by rcases h with e|e|e|e<;>simp<;>omega) ⟨r,by omega⟩ (by show r<q;omega) (by show r≠0;omega)
 refine⟨(t.val:Int),by omega,by show (t.val:Int)<q;exact Int.ofNat_lt.mpr t2,?_⟩
 have e:((r*t.val%q:Nat):Int)=1:=by rw[show r*t.val%q=1 from t3];rfl
 rw[<- e,Int.natCast_emod,Int.natCast_mul,<- hr]
 exact(Int.mul_emod n _ _).trans (by rw[Int.mul_emod (n%(q:Int)) (t.val:Int) (q:Int),Int.emod_emod_of_dvd n (Int.dvd_refl _)])
theorem Zan{r:R D}{d:D}(h:r=.ok d):ZcU true r=.ok d:=by rw[h];rfl
def ZgM(p n t:Int):Prop:=1<=t/\t<p/\n*t%p=1
theorem ZfF{p n t u:Int}(h1:ZgM p n t)(h2:ZgM p n u):t=u:=by
 have hp:1<p:=by have:=h1.1;have:=h1.2.1;omega
 have e:t%p=u%p:=by
  have a:t%p=t*(n*u)%p:=by rw[Int.mul_emod,h2.2.2,Int.mul_one,Int.emod_emod_of_dvd _ (Int.dvd_refl p)]
  have b:u%p=(n*t)*u%p:=by rw[Int.mul_emod (n*t) u p,h1.2.2,Int.one_mul,Int.emod_emod_of_dvd _ (Int.dvd_refl p)]
  rw[a,b]
  congr 1
  rw[<- Int.mul_assoc,Int.mul_comm t n]
 rw[Int.emod_eq_of_lt (by have:=h1.1;omega) h1.2.1,Int.emod_eq_of_lt (by have:=h2.1;omega) h2.2.1] at e
 exact e
theorem ZaL{p c x:Int}(hp:P4 p)(hc:c%p≠0)(hx:x%p≠0):c*x%p≠0:=fun z=>by
 obtain⟨t,_,_,e⟩:=ZdA hp hc
 refine hx ?_
 have e1:x%p=(c*t)*x%p:=by rw[Int.mul_emod (c*t) x p,e,Int.one_mul,Int.emod_emod_of_dvd _ (Int.dvd_refl p)]
 rw[e1,show c*t*x=t*(c*x) by rw[Int.mul_comm c t,Int.mul_assoc],Int.mul_emod,z,Int.mul_zero,Int.zero_emod]
noncomputable def ZaE(p:Int):List Int->Option Int
 | []=>none
 | x::xs=>if x%p=0 then ZaE p xs else some (x%p)
theorem ZbV{p:Int}:∀ {xs:List Int},ZaE p xs=none↔∀ x∈xs,x%p=0
 | []=>by simp[ZaE]
 | x::xs=>by
  unfold ZaE
  by_cases h:x%p=0
  ·rw[if_pos h,ZbV (xs:=xs)]
   simp[h]
  ·rw[if_neg h]
   simp[h]
theorem Zbw{p l:Int}(hp:0<p):∀ {xs:List Int},ZaE p xs=some l->l%p≠0/\0<l/\l<p
 | [],h=>by cases h
 | x::xs,h=>by
  unfold ZaE at h
  by_cases hx:x%p=0
  ·rw[if_pos hx] at h;exact Zbw hp h
  ·rw[if_neg hx] at h
   cases h
   have h0:=Int.emod_nonneg x (b:=p) (by omega)
   have h1:=Int.emod_lt_of_pos x hp
   exact⟨by rw[Int.emod_emod_of_dvd _ (Int.dvd_refl p)];exact hx,by omega,h1⟩
theorem Zb9{p c:Int}(hp:P4 p)(hc:c%p≠0){f:Int->Int}(hf:∀ x,f x%p=c*x%p):∀ xs:List Int,ZaE p (xs.map f)=(ZaE p xs).map fun l=>c*l%p
 | []=>rfl
 | x::xs=>by
  rw[List.map_cons]
  unfold ZaE
  rw[hf x]
  by_cases hx:x%p=0
  ·rw[if_pos hx,if_pos (by rw[Int.mul_emod,hx,Int.mul_zero,Int.zero_emod]),Zb9 hp hc hf xs]
  ·rw[if_neg hx,if_neg (ZaL hp hc hx),Option.map_some]
   congr 1
   rw[Int.mul_emod c (x%p),Int.emod_emod_of_dvd _ (Int.dvd_refl p),<- Int.mul_emod]
noncomputable def ds(xs:List Int):List D:=xs.map D.int
noncomputable def ZcI(b:Bool)(xs:List Int):D:=if b=true then .tup (ds xs) else .lst (ds xs)
theorem ZeC(b xs):ZaF (ZcI b xs)=.ok (ds xs):=by unfold ZcI;cases b<;>rfl
theorem ZbY{g:D->R Bool}{f:D->R D}{φ:Int->Int}:∀ (xs:List Int),(∀ x∈xs,g (.int x)=.ok true/\f (.int x)=.ok (.int (φ x)))->Zam g f (ds xs)=.ok (ds (xs.map φ))
 | [],_=>rfl
 | x::xs,h=>by
  obtain⟨h1,h2⟩:=h x (List.mem_cons_self ..)
  show (g (.int x)).bind _=_
  rw[h1,R.bind_ok,if_pos rfl,h2,R.bind_ok]
  show (Zam g f (ds xs)).bind _=_
  rw[ZbY xs fun y hy=>h y (List.mem_cons_of_mem _ hy)]
  rfl
noncomputable def Zaa:E:=(.bl true)
noncomputable def ZbL:E:=(.call 1 (.cons (.var 0) (.cons (.var 5) .nil)))
noncomputable def ZbK:E:=(.call 1 (.cons (.var 0) (.cons (.bin .Mult (.var 4) (.var 6)) .nil)))
noncomputable def Zak:Ss:=(.cons (.ife (.cmp .NotEq (.var 3) (.int 0)) (.cons (.asg 4 false (.call 9 (.cons (.var 0) (.cons (.var 3) .nil)))) (.cons (.ret (.bi .tuple (.cons (.comp ZbK 6 (.e (.var 2)) Zaa) .nil))) .nil)) .nil) .nil)
noncomputable def Zcc:Df:=⟨7,false,(.cons (.asg 2 false (.comp ZbL 5 (.e (.var 1)) Zaa)) (.cons (.fors 3 (.e (.var 2)) Zak) (.cons (.rais 3 (.cons (.str (Str.ofString "all the numbers have the rest 0")) .nil)) .nil)))⟩
noncomputable def fmI(p t:Int)(xs:List Int):List Int:=xs.map fun x=>t*(x%p)%p
section
variable {Γ:Gam} {p:Int} {xs:List Int} {b:Bool}
end
theorem ZdQ{g:D->R Bool}{f:D->R D}{q:Int->Bool}:∀ (xs:List Int),(∀ x∈xs,g (.int x)=.ok (q x)/\f (.int x)=.ok (.int x))->Zam g f (ds xs)=.ok (ds (xs.filter q))
 | [],_=>rfl
 | x::xs,h=>by
  obtain⟨h1,h2⟩:=h x (List.mem_cons_self ..)
  have ih:=ZdQ xs fun y hy=>h y (List.mem_cons_of_mem _ hy)
  show (g (.int x)).bind _=_
  rw[h1,R.bind_ok]
  cases hq:q x with
  | true =>
   rw[if_pos rfl,h2,R.bind_ok,List.filter_cons,hq,if_pos rfl]
   show (Zam g f (ds xs)).bind _=_
   rw[ih]
   rfl
  | false =>
   rw[if_neg (by decide),List.filter_cons,hq,if_neg (by decide)]
   exact ih
theorem ZhZ{p l t:Int}(it:ZgM p l t):((ZgT p).filter fun k=>decide (k*l%p=1)).head?=some t:=by
 have hm:t∈(ZgT p).filter fun k=>decide (k*l%p=1):=List.mem_filter.mpr ⟨Zb6.mpr ⟨it.1,it.2.1⟩,by simp[Int.mul_comm t l,it.2.2]⟩
 cases e:(ZgT p).filter fun k=>decide (k*l%p=1) with
 | nil=>rw[e] at hm;cases hm
 | cons u us =>
  have hu:u∈(ZgT p).filter fun k=>decide (k*l%p=1):=by rw[e];exact List.mem_cons_self ..
  obtain⟨h1,h2⟩:=List.mem_filter.mp hu
  obtain⟨a,b⟩:=Zb6.mp h1
  have h3:u*l%p=1:=by simpa using h2
  rw[ZfF it ⟨a,b,by rw[Int.mul_comm];exact h3⟩]
  rfl
theorem ZfK{xs:List Int}{l:Int}(h:xs.head?=some l):Zdm (ds xs) 0=.ok (.int l):=by
 cases xs with
 | nil=>cases h
 | cons x xs=>cases h;exact Ze2 (by omega) rfl
noncomputable abbrev own(xs:List Int):Sl:=some (.lst (ds xs),true)
section
variable {Γ:Gam} {ns:List Int} {a1 a2 a4 a6 a7 a8 a9 b0 b1 b2 b3 b4:Sl} {p:Int}
end
section
variable {Γ:Gam} {ns:List Int} {a1 a4 a6 a7 a8 a9 b2 b3 b4:Sl} {p m:Int} {xs:List Int}
end
def Cg(p x y:Int):Prop:=x%p=y%p
section
variable {p a b c d:Int}
theorem Cg.rfl:Cg p a a:=Eq.refl _
theorem Cg.of(h:a=b):Cg p a b:=by unfold Cg;rw[h]
theorem Cg.trans{a b c:Int}(h:Cg p a b)(g:Cg p b c):Cg p a c:=Eq.trans h g
theorem Cg.symm(h:Cg p a b):Cg p b a:=Eq.symm h
theorem Cg.add(h:Cg p a b)(g:Cg p c d):Cg p (a+c) (b+d):=by unfold Cg at *;rw[Int.add_emod,h,g,<- Int.add_emod]
theorem Cg.sub(h:Cg p a b)(g:Cg p c d):Cg p (a-c) (b-d):=by unfold Cg at *;rw[Int.sub_emod,h,g,<- Int.sub_emod]
theorem Cg.mul(h:Cg p a b)(g:Cg p c d):Cg p (a*c) (b*d):=by unfold Cg at *;rw[Int.mul_emod,h,g,<- Int.mul_emod]
theorem Cg.md(h:a=b%p):Cg p a b:=by unfold Cg;rw[h,Int.emod_emod_of_dvd _ (Int.dvd_refl p)]
end
theorem ZbX{p a0 a1 a2 b0 b1 b2 c0 c1 c2 x0 x1 x2 y0 y1 y2 z0 z1 z2:Int}(h0:Cg p a0 x0)(h1:Cg p a1 x1)(h2:Cg p a2 x2)(h3:Cg p b0 y0)(h4:Cg p b1 y1)(h5:Cg p b2 y2)(h6:Cg p c0 z0)(h7:Cg p c1 z1)(h8:Cg p c2 z2) :
  Cg p (a0*(b1*c2-b2*c1)-a1*(b0*c2-b2*c0)+a2*(b0*c1-b1*c0)) (x0*(y1*z2-y2*z1)-x1*(y0*z2-y2*z0)+x2*(y0*z1-y1*z0)) :=
 ((h0.mul ((h4.mul h8).sub (h5.mul h7))).sub (h1.mul ((h3.mul h8).sub (h5.mul h6)))).add (h2.mul ((h3.mul h7).sub (h4.mul h6)))
theorem P4.m1{p:Int}(h:P4 p):(-1:Int)%p≠0:=by rcases h with rfl|rfl|rfl|rfl<;>decide
theorem P4.o1{p:Int}(h:P4 p):(1:Int)%p≠0:=by rcases h with rfl|rfl|rfl|rfl<;>decide
abbrev R3:=Int×Int×Int
noncomputable def ZaN(a:R3):D:=.lst [.int a.1,.int a.2.1,.int a.2.2]
noncomputable def Zae(a b c:R3):Int:=det a.1 a.2.1 a.2.2 b.1 b.2.1 b.2.2 c.1 c.2.1 c.2.2
def In3(p:Int)(a:R3):Prop:=(0<=a.1/\a.1<p)/\(0<=a.2.1/\a.2.1<p)/\(0<=a.2.2/\a.2.2<p)
structure GoodR (p:Int) (a b c:R3):Prop where
 p4:P4 p
 ia:In3 p a
 ib:In3 p b
 ic:In3 p c
 nz:Zae a b c%p≠0
theorem GoodR.of{p k:Int}{a b c a' b' c':R3}(h:GoodR p a b c)(hk:k%p≠0)(e:Cg p (Zae a' b' c') (k*Zae a b c))(hin:In3 p a'/\In3 p b'/\In3 p c'):GoodR p a' b' c':=⟨h.p4,hin.1,hin.2.1,hin.2.2,by rw[show Zae a' b' c'%p=_ from e];exact ZaL h.p4 hk h.nz⟩
noncomputable def ZnY(t:Int)(a:R3):R3:=(a.1*t,a.2.1*t,a.2.2*t)
noncomputable def Zh2(t:Int)(a b:R3):R3:=(a.1+t*b.1,a.2.1+t*b.2.1,a.2.2+t*b.2.2)
noncomputable def mdR(p:Int)(a:R3):R3:=(a.1%p,a.2.1%p,a.2.2%p)
noncomputable def scR(p t:Int)(a:R3):R3:=mdR p (ZnY t a)
noncomputable def adR(p t:Int)(a b:R3):R3:=mdR p (Zh2 t a b)
theorem Zrr{p:Int}(h:0<p)(a:R3):In3 p (mdR p a):=⟨⟨Int.emod_nonneg _ (by omega),Int.emod_lt_of_pos _ h⟩,⟨Int.emod_nonneg _ (by omega),Int.emod_lt_of_pos _ h⟩,⟨Int.emod_nonneg _ (by omega),Int.emod_lt_of_pos _ h⟩⟩
theorem ZhP{p:Int}(h:0<p)(t:Int)(a:R3):In3 p (scR p t a):=Zrr h _
theorem Zh3{p:Int}(h:0<p)(t:Int)(a b:R3):In3 p (adR p t a b):=Zrr h _
theorem ZyT(p t:Int)(a b c:R3):Cg p (Zae (scR p t a) b c) (t*Zae a b c):=by
 refine Cg.trans (b:=Zae (ZnY t a) b c) ?_ (Cg.of (by unfold Zae det ZnY;grind))
 unfold Zae det
 exact ZbX (Cg.md (by rfl)) (Cg.md (by rfl)) (Cg.md (by rfl)) Cg.rfl Cg.rfl Cg.rfl Cg.rfl Cg.rfl Cg.rfl
theorem Zxx(p t:Int)(a b c:R3):Cg p (Zae (adR p t a b) b c) (1*Zae a b c):=by
 refine Cg.trans (b:=Zae (Zh2 t a b) b c) ?_ (Cg.of (by unfold Zae det Zh2;grind))
 unfold Zae det
 exact ZbX (Cg.md (by rfl)) (Cg.md (by rfl)) (Cg.md (by rfl)) Cg.rfl Cg.rfl Cg.rfl Cg.rfl Cg.rfl Cg.rfl
theorem Zxw(p t:Int)(a b c:R3):Cg p (Zae (adR p t a c) b c) (1*Zae a b c):=by
 refine Cg.trans (b:=Zae (Zh2 t a c) b c) ?_ (Cg.of (by unfold Zae det Zh2;grind))
 unfold Zae det
 exact ZbX (Cg.md (by rfl)) (Cg.md (by rfl)) (Cg.md (by rfl)) Cg.rfl Cg.rfl Cg.rfl Cg.rfl Cg.rfl Cg.rfl
theorem ZyS(p t:Int)(a b c:R3):Cg p (Zae a (scR p t b) c) (t*Zae a b c):=by
 refine Cg.trans (b:=Zae a (ZnY t b) c) ?_ (Cg.of (by unfold Zae det ZnY;grind))
 unfold Zae det
 exact ZbX Cg.rfl Cg.rfl Cg.rfl (Cg.md (by rfl)) (Cg.md (by rfl)) (Cg.md (by rfl)) Cg.rfl Cg.rfl Cg.rfl
theorem Zxv(p t:Int)(a b c:R3):Cg p (Zae a (adR p t b a) c) (1*Zae a b c):=by
 refine Cg.trans (b:=Zae a (Zh2 t b a) c) ?_ (Cg.of (by unfold Zae det Zh2;grind))
 unfold Zae det
 exact ZbX Cg.rfl Cg.rfl Cg.rfl (Cg.md (by rfl)) (Cg.md (by rfl)) (Cg.md (by rfl)) Cg.rfl Cg.rfl Cg.rfl
theorem Zxu(p t:Int)(a b c:R3):Cg p (Zae a (adR p t b c) c) (1*Zae a b c):=by
 refine Cg.trans (b:=Zae a (Zh2 t b c) c) ?_ (Cg.of (by unfold Zae det Zh2;grind))
 unfold Zae det
 exact ZbX Cg.rfl Cg.rfl Cg.rfl (Cg.md (by rfl)) (Cg.md (by rfl)) (Cg.md (by rfl)) Cg.rfl Cg.rfl Cg.rfl
theorem ZyR(p t:Int)(a b c:R3):Cg p (Zae a b (scR p t c)) (t*Zae a b c):=by
 refine Cg.trans (b:=Zae a b (ZnY t c)) ?_ (Cg.of (by unfold Zae det ZnY;grind))
 unfold Zae det
 exact ZbX Cg.rfl Cg.rfl Cg.rfl Cg.rfl Cg.rfl Cg.rfl (Cg.md (by rfl)) (Cg.md (by rfl)) (Cg.md (by rfl))
theorem Zxt(p t:Int)(a b c:R3):Cg p (Zae a b (adR p t c a)) (1*Zae a b c):=by
 refine Cg.trans (b:=Zae a b (Zh2 t c a)) ?_ (Cg.of (by unfold Zae det Zh2;grind))
 unfold Zae det
 exact ZbX Cg.rfl Cg.rfl Cg.rfl Cg.rfl Cg.rfl Cg.rfl (Cg.md (by rfl)) (Cg.md (by rfl)) (Cg.md (by rfl))
theorem Zxs(p t:Int)(a b c:R3):Cg p (Zae a b (adR p t c b)) (1*Zae a b c):=by
 refine Cg.trans (b:=Zae a b (Zh2 t c b)) ?_ (Cg.of (by unfold Zae det Zh2;grind))
 unfold Zae det
 exact ZbX Cg.rfl Cg.rfl Cg.rfl Cg.rfl Cg.rfl Cg.rfl (Cg.md (by rfl)) (Cg.md (by rfl)) (Cg.md (by rfl))/-! ### draws -/
theorem Zom{ns:List Int}{k:Int}(h0:0<=k)(h1:k<ns.length):Zdm (ns.map D.int) k=.ok (.int (ns.getD k.toNat 0)):=Ze2 h0 (by
 have:k.toNat<ns.length:=by omega
 simp[this])
noncomputable abbrev ownR(a b c:R3):Sl:=some (.lst [ZaN a,ZaN b,ZaN c],true)
section
variable {Γ:Gam} {ns:List Int} {at_ many s5 s0 s1 s2:Sl} {p t m:Int} {a b c:R3}
end
section
variable {Γ:Gam} {ns:List Int} {many s5 s6 s7 s8 s9 s0 s1 s2:Sl} {p:Int} {a b c:R3}
end
noncomputable def ZeQ(a b c:R3):D:=.lst [ZaN a,ZaN b,ZaN c]
noncomputable def nine(a b c:R3):List Int:=[a.1,a.2.1,a.2.2,b.1,b.2.1,b.2.2,c.1,c.2.1,c.2.2]
noncomputable def trR(a:R3):D:=.tup [.int a.1,.int a.2.1,.int a.2.2]
noncomputable def Zdc(a b c:R3):D:=.tup [trR a,trR b,trR c]
noncomputable def fmR(p t:Int)(a:R3):R3:=(t*(a.1%p)%p,t*(a.2.1%p)%p,t*(a.2.2%p)%p)
theorem Zop(p t:Int)(a b c:R3):fmI p t (nine a b c)=nine (fmR p t a) (fmR p t b) (fmR p t c):=rfl
theorem Zjl{p:Int}{a b c:R3}(h:Zae a b c%p≠0):∃ l,ZaE p (nine a b c)=some l:=by
 cases e:ZaE p (nine a b c) with
 | some l=>exact⟨l,rfl⟩
 | none =>
  refine absurd ?_ h
  have z:=ZbV.mp e
  have q:∀ x∈nine a b c,Cg p x 0:=fun x hx=>by
   have:=z x hx
   show x%p=0%p
   rw[this];simp
  have:=ZbX (p:=p) (q a.1 (by simp[nine])) (q a.2.1 (by simp[nine])) (q a.2.2 (by simp[nine])) (q b.1 (by simp[nine])) (q b.2.1 (by simp[nine])) (q b.2.2 (by simp[nine])) (q c.1 (by simp[nine])) (q c.2.1 (by simp[nine])) (q c.2.2 (by simp[nine]))
  have e2:Zae a b c%p=(0*(0*0-0*0)-0*(0*0-0*0)+0*(0*0-0*0))%p:=this
  rw[e2];simp
theorem ZzD(a b c:R3):slD (.tup (ds (nine a b c))) none (some 3)=.ok (trR a)/\slD (.tup (ds (nine a b c))) (some 3) (some 6)=.ok (trR b)/\slD (.tup (ds (nine a b c))) (some 6) none=.ok (trR c):=⟨rfl,rfl,rfl⟩
theorem Zly(a b c:R3):ZcA .Add (ZaN a) (ZaN b)=.ok (.lst [.int a.1,.int a.2.1,.int a.2.2,.int b.1,.int b.2.1,.int b.2.2])/\ZcA .Add (.lst [.int a.1,.int a.2.1,.int a.2.2,.int b.1,.int b.2.1,.int b.2.2]) (ZaN c)=.ok (.lst (ds (nine a b c))):=⟨rfl,rfl⟩
def Bd(n:Nat)(x:Int):Prop:=x.natAbs<2 ^ n
theorem Bd.mul{m n:Nat}{x y:Int}(h:Bd m x)(g:Bd n y):Bd (m+n) (x*y):=by
 unfold Bd at *
 rw[Int.natAbs_mul,Nat.pow_add]
 exact Nat.mul_lt_mul'' h g
theorem Bd.sub{n:Nat}{x y:Int}(h:Bd n x)(g:Bd n y):Bd (n+1) (x-y):=by
 unfold Bd at *
 rw[Nat.pow_succ]
 omega
theorem Zc4{m n:Nat}{x y:Int}(h:Bd m x)(g:Bd n y)(hm:m<=2000)(hn:n<=2000):ZcB x y=true:=by
 unfold ZcB Bd at *
 rw[Bool.and_eq_true,decide_eq_true_eq,decide_eq_true_eq]
 exact⟨Nat.lt_of_lt_of_le h (Nat.pow_le_pow_right (by decide) hm),Nat.lt_of_lt_of_le g (Nat.pow_le_pow_right (by decide) hn)⟩
def B3(a:R3):Prop:=Bd 300 a.1/\Bd 300 a.2.1/\Bd 300 a.2.2
noncomputable def Zad(q:Bool)(a:R3):D:=ZcI q [a.1,a.2.1,a.2.2]
theorem Zcg(q:Bool)(a:R3):Zcq (Zad q a) (.int 0)=.ok (.int a.1)/\Zcq (Zad q a) (.int 1)=.ok (.int a.2.1)/\Zcq (Zad q a) (.int 2)=.ok (.int a.2.2):=by cases q<;>exact⟨rfl,rfl,rfl⟩
def Zfb(Γ:Gam):Prop:=∀ (p:Int) (q:Bool) (a b c:R3),0<p->B3 a->B3 b->B3 c->Γ.F 61 [.int p,Zad q a,Zad q b,Zad q c]=.ok (.int (Zae a b c%p))
theorem Znq{Γ:Gam}(h:ZcF Γ)(p:Int)(q:Bool)(a b c:R3)(hp:0<p)(ha:B3 a)(hb:B3 b)(hc:B3 c):ZdZ.run Γ [.int p,Zad q a,Zad q b,Zad q c]=.ok (.int (Zae a b c%p)):=by
 obtain⟨a0,a1,a2⟩:=Zcg q a
 obtain⟨b0,b1,b2⟩:=Zcg q b
 obtain⟨c0,c1,c2⟩:=Zcg q c
 have k:∀ {x y},Bd 300 x->Bd 300 y->ZcB x y=true:=fun hx hy=>Zc4 hx hy (by decide) (by decide)
 have k2:∀ {x y z u v},Bd 300 x->Bd 300 y->Bd 300 z->Bd 300 u->Bd 300 v->ZcB x (y*z-u*v)=true:=fun hx hy hz hu hv=>Zc4 hx ((hy.mul hz).sub (hu.mul hv)) (by decide) (by decide)
 simp[ZdZ,Df.run,Zac,a0,a1,a2,b0,b1,b2,c0,c1,c2,k hb.2.1 hc.2.2,k hb.2.2 hc.2.1,k hb.1 hc.2.2,k hb.2.2 hc.1,k hb.1 hc.2.1,k hb.2.1 hc.1,k2 ha.1 hb.2.1 hc.2.2 hb.2.2 hc.2.1,k2 ha.2.1 hb.1 hc.2.2 hb.2.2 hc.1,k2 ha.2.2 hb.1 hc.2.1 hb.2.1 hc.1,h p _ hp]
 rfl
noncomputable def ZcX:Df:=⟨3,false,(.cons (.ife (.cmp .Eq (.call 61 (.cons (.var 0) (.cons (.idx (.var 1) (.int 0)) (.cons (.idx (.var 1) (.int 1)) (.cons (.idx (.var 1) (.int 2)) .nil))))) (.int 0)) (.cons (.rais 4 (.cons (.str (Str.ofString "the measure of the rows is 0")) .nil)) .nil) .nil) (.cons (.asg 2 false (.call 17 (.cons (.var 0) (.cons (.bin .Add (.bin .Add (.bi .list (.cons (.idx (.var 1) (.int 0)) .nil)) (.bi .list (.cons (.idx (.var 1) (.int 1)) .nil))) (.bi .list (.cons (.idx (.var 1) (.int 2)) .nil))) .nil)))) (.cons (.ret (.tup (.cons (.sl (.var 2) .non (.int 3)) (.cons (.sl (.var 2) (.int 3) (.int 6)) (.cons (.sl (.var 2) (.int 6) .non) .nil))))) .nil)))⟩
theorem Zrs(q:Bool)(a:R3):biD .list [Zad q a]=.ok (ZaN a):=by cases q<;>rfl
section
variable {Γ:Gam} {ns:List Int} {p t:Int} {a b c r:R3} {made s6 s7:Sl}
end
theorem Zes{p:Int}:∀ {xs ys:List Int},xs.map (fun x=>x%p)=ys.map (fun x=>x%p)->ZaE p xs=ZaE p ys
 | [],[],_=>rfl
 | x::xs,y::ys,h=>by
  rw[List.map_cons,List.map_cons,List.cons.injEq] at h
  unfold ZaE
  rw[h.1,Zes h.2]
 | [],_::_,h=>by simp at h
 | _::_,[],h=>by simp at h
theorem Zle{p:Int}(hp:0<p)(t:Int)(a:R3):In3 p (fmR p t a):=⟨⟨Int.emod_nonneg _ (by omega),Int.emod_lt_of_pos _ hp⟩,⟨Int.emod_nonneg _ (by omega),Int.emod_lt_of_pos _ hp⟩,⟨Int.emod_nonneg _ (by omega),Int.emod_lt_of_pos _ hp⟩⟩
section
variable {Γ:Gam} {ns:List Int} {p m:Int} {a b c:R3} {fa fb fc:R3} {q:Bool} {s9 s0 s1 s2:Sl}
end
def Zd9(Γ:Gam):Prop:=∀ p n:Int,P4 p->n%p≠0->∃ t,1<=t/\t<p/\n*t%p=1/\Γ.F 9 [.int p,.int n]=.ok (.int t)
def ZgI(Γ:Gam):Prop:=∀ (p:Int) (b:Bool) (xs:List Int) (l t:Int),P4 p->ZaE p xs=some l->ZgM p l t->Γ.F 17 [.int p,ZcI b xs]=.ok (.tup (ds (fmI p t xs)))
theorem ZiV{Γ:Gam}(hr:ZcF Γ)(p n:Int)(hp:P4 p)(z:n%p≠0) :
  ∃ t,1<=t/\t<p/\n*t%p=1/\Za8.run Γ [.int p,.int n]=.ok (.int t):=by
 have p0:=hp.pos
 have ph:=hp.hi
 have body:∀ t∈ZgT p,∀ ρ,(∃ s,ρ=[si p,si n,s])->(decide (n*t%p=1)=true/\Zeg Γ 2 Zap (.int t) ρ=.ret (.int t) false)\/(decide (n*t%p=1)=false/\∃ ρ',Zeg Γ 2 Zap (.int t) ρ=.next ρ'/\∃ s,ρ'=[si p,si n,s]):=by
  rintro t ht ρ ⟨s,rfl⟩
  obtain⟨t1,t2⟩:=Zb6.mp ht
  have m:Zbh n t=true:=Zgs (by omega) (by omega)
  by_cases e:n*t%p=1
  ·exact .inl ⟨by simp[e],by simp[Zeg,Zap,hr p (n*t) p0,m,e,Zfd]⟩
  ·exact .inr ⟨by simp[e],_,by simp[Zeg,Zap,hr p (n*t) p0,m,e];rfl,_,rfl⟩
 have run:∀ o,Zea (Zeg Γ 2 Zap) ((ZgT p).map D.int) [si p,si n,none]=o->Za8.run Γ [.int p,.int n]=(Zgz Γ (.cons (.rais 2 (.cons (.str (Str.ofString "a number with the rest 0 is not turned over")) .nil)) .nil) o).ans false:=by
  rintro o rfl
  simp[Za8,Df.run,Zac,Zg5 hp]
 rcases Zey (fun ρ=>∃ s,ρ=[si p,si n,s]) (fun t=>decide (n*t%p=1)) (ZgT p) body [si p,si n,none] ⟨_,rfl⟩ with ⟨t,ht,a,b⟩|⟨a,r,b,s,rfl⟩
 ·obtain⟨t1,t2⟩:=Zb6.mp ht
  have a':n*t%p=1:=by simpa using a
  exact⟨t,t1,t2,a',by rw[run _ b];rfl⟩
 ·obtain⟨t,t1,t2,e⟩:=ZdA hp z
  have:=a t (Zb6.mpr ⟨t1,t2⟩)
  simp[e] at this
section
variable {Γ:Gam} {p:Int} {xs:List Int} {b:Bool}
theorem Zhc(hr:ZcF Γ)(ht:Zd9 Γ)(hp:P4 p)(rs:List Int):∀ (ys:List Int),(∀ y∈ys,0<=y/\y<p)->∀ s3,(ZaE p ys=none->∃ s3',Zea (Zeg Γ 3 Zak) (ds ys) [si p,sh (ZcI b xs),sh (.lst (ds rs)),s3,none,none,none]=.next [si p,sh (ZcI b xs),sh (.lst (ds rs)),s3',none,none,none]) /\
  (∀ l t,ZaE p ys=some l->ZgM p l t->Zea (Zeg Γ 3 Zak) (ds ys) [si p,sh (ZcI b xs),sh (.lst (ds rs)),s3,none,none,none]=.ret (.tup (ds (rs.map fun r=>t*r%p))) false)
 | [],_,s3=>⟨fun _=>⟨s3,rfl⟩,(fun l t h=>nomatch h)⟩
 | y::ys,hy,s3=>by
  obtain⟨y0,y1⟩:=hy y (List.mem_cons_self ..)
  have ym:y%p=y:=Int.emod_eq_of_lt y0 y1
  have ih:=Zhc hr ht hp rs ys (fun z hz=>hy z (List.mem_cons_of_mem _ hz)) (si y)
  have step:∀ o,Zeg Γ 3 Zak (.int y) [si p,sh (ZcI b xs),sh (.lst (ds rs)),s3,none,none,none]=o->Zea (Zeg Γ 3 Zak) (ds (y::ys)) [si p,sh (ZcI b xs),sh (.lst (ds rs)),s3,none,none,none]=o.turn (Zea (Zeg Γ 3 Zak) (ds ys)):=by
   rintro o rfl;rfl
  unfold ZaE
  rw[ym]
  by_cases hz:y=0
  ·have e:Zeg Γ 3 Zak (.int y) [si p,sh (ZcI b xs),sh (.lst (ds rs)),s3,none,none,none]=.next [si p,sh (ZcI b xs),sh (.lst (ds rs)),si y,none,none,none]:=by
    simp[Zeg,Zak,hz]
   rw[if_pos hz,step _ e]
   exact ih
  ·rw[if_neg hz]
   refine⟨(fun z=>nomatch z),fun l t e it=>?_⟩
   cases e
   obtain⟨u,u1,u2,u3,u4⟩:=ht p y hp (by rw[ym];exact hz)
   have:t=u:=ZfF it ⟨u1,u2,u3⟩
   subst this
   have p0:=hp.pos
   have ph:=hp.hi
   have cp:Zam (cG Γ [si p,sh (ZcI b xs),sh (.lst (ds rs)),si y,si t,none,none] 6 Zaa) (cF Γ [si p,sh (ZcI b xs),sh (.lst (ds rs)),si y,si t,none,none] 6 ZbK) (ds rs)=.ok (ds (rs.map fun r=>t*r%p)):=by
    refine ZbY rs fun r _=>⟨rfl,?_⟩
    have m:Zbh t r=true:=Zcj (by omega) (by omega)
    simp[cF,ZbK,m,hr p (t*r) p0]
   have e:Zeg Γ 3 Zak (.int y) [si p,sh (ZcI b xs),sh (.lst (ds rs)),s3,none,none,none]=.ret (.tup (ds (rs.map fun r=>t*r%p))) false:=by
    simp[Zeg,Zak,hz,u4,cp,Zfd]
   rw[step _ e]
   rfl
theorem Znr(hr:ZcF Γ)(ht:Zd9 Γ)(hp:P4 p){l t:Int}(e:ZaE p xs=some l)(it:ZgM p l t):Zcc.run Γ [.int p,ZcI b xs]=.ok (.tup (ds (fmI p t xs))):=by
 have p0:=hp.pos
 have cp:Zam (cG Γ [si p,sh (ZcI b xs),none,none,none,none,none] 5 Zaa) (cF Γ [si p,sh (ZcI b xs),none,none,none,none,none] 5 ZbL) (ds xs)=.ok (ds (xs.map fun x=>x%p)):=by
  refine ZbY xs fun x _=>⟨rfl,?_⟩
  simp[cF,ZbL,hr p x p0]
 have run:∀ o,Zea (Zeg Γ 3 Zak) (ds (xs.map fun x=>x%p)) [si p,sh (ZcI b xs),sh (.lst (ds (xs.map fun x=>x%p))),none,none,none,none]=o->Zcc.run Γ [.int p,ZcI b xs]=(Zgz Γ (.cons (.rais 3 (.cons (.str (Str.ofString "all the numbers have the rest 0")) .nil)) .nil) o).ans false:=by
  rintro o rfl
  simp[Zcc,Df.run,Zac,ZeC,cp]
 have le:ZaE p (xs.map fun x=>x%p)=ZaE p xs:=by
  have:=Zb9 (c:=1) hp (by rcases hp with rfl|rfl|rfl|rfl<;>decide) (f:=fun x=>x%p) (fun x=>by rw[Int.one_mul,Int.emod_emod_of_dvd _ (Int.dvd_refl p)]) xs
  rw[this]
  cases e:ZaE p xs with
  | none=>rfl
  | some l =>
   obtain⟨_,l0,l1⟩:=Zbw p0 e
   simp[Int.emod_eq_of_lt (Int.le_of_lt l0) l1]
 obtain⟨a,c⟩:=Zhc (b:=b) (xs:=xs) hr ht hp (xs.map fun x=>x%p) (xs.map fun x=>x%p) (fun y hy=>by
  obtain⟨x,_,rfl⟩:=List.mem_map.mp hy
  exact⟨Int.emod_nonneg _ (by omega),Int.emod_lt_of_pos _ p0⟩) none
 rw[le] at a c
 rw[run _ (c l t e it)]
 simp[fmI,List.map_map,Function.comp_def]
end
noncomputable def Zbg(t q:Bool)(a b c:R3):D:=if t=true then .tup [Zad q a,Zad q b,Zad q c] else .lst [Zad q a,Zad q b,Zad q c]
theorem Zwp(t q:Bool)(a b c:R3):Zcq (Zbg t q a b c) (.int 0)=.ok (Zad q a)/\Zcq (Zbg t q a b c) (.int 1)=.ok (Zad q b)/\Zcq (Zbg t q a b c) (.int 2)=.ok (Zad q c):=by cases t<;>exact⟨rfl,rfl,rfl⟩
theorem Zix(q:Bool)(a:R3):ZaF (Zad q a)=.ok [.int a.1,.int a.2.1,.int a.2.2]:=by cases q<;>rfl
theorem Zzh(t q:Bool)(a b c:R3):ZaF (Zbg t q a b c)=.ok [Zad q a,Zad q b,Zad q c]:=by cases t<;>rfl
noncomputable def Zgc(a b c:R3):R3:=(a.1,b.1,c.1)
noncomputable def Zgb(a b c:R3):R3:=(a.2.1,b.2.1,c.2.1)
noncomputable def Zga(a b c:R3):R3:=(a.2.2,b.2.2,c.2.2)
noncomputable def Zd2:Df:=⟨1,false,(.cons (.ret (.tupI (.zip3 (.idx (.var 0) (.int 0)) (.idx (.var 0) (.int 1)) (.idx (.var 0) (.int 2))))) .nil)⟩
def ZmA(Γ:Gam):Prop:=∀ (t q:Bool) (a b c:R3),Γ.F 104 [Zbg t q a b c]=.ok (Zbg true true (Zgc a b c) (Zgb a b c) (Zga a b c))
theorem ZqL(Γ:Gam)(t q:Bool)(a b c:R3):Zd2.run Γ [Zbg t q a b c]=.ok (Zbg true true (Zgc a b c) (Zgb a b c) (Zga a b c)):=by
 obtain⟨r0,r1,r2⟩:=Zwp t q a b c
 have z:ZhB (Zad q a) (Zad q b) (Zad q c)=.ok [Zad true (Zgc a b c),Zad true (Zgb a b c),Zad true (Zga a b c)]:=by
  unfold ZhB
  rw[Zix,Zix,Zix]
  rfl
 simp[Zd2,Df.run,Zac,r0,r1,r2,z]
 rfl
noncomputable def ZaP(a x:R3):Int:=a.1*x.1+a.2.1*x.2.1+a.2.2*x.2.2
noncomputable def Zbm:E:=(.call 1 (.cons (.var 0) (.cons (.bin .Add (.bin .Add (.bin .Mult (.idx (.var 3) (.int 0)) (.idx (.var 2) (.int 0))) (.bin .Mult (.idx (.var 3) (.int 1)) (.idx (.var 2) (.int 1)))) (.bin .Mult (.idx (.var 3) (.int 2)) (.idx (.var 2) (.int 2)))) .nil)))
noncomputable def ZdX:Df:=⟨4,false,(.cons (.ret (.bi .tuple (.cons (.comp Zbm 3 (.e (.var 1)) Zaa) .nil))) .nil)⟩
def Zmw(Γ:Gam):Prop:=∀ (p:Int) (t q q':Bool) (a b c x:R3),0<p->B3 a->B3 b->B3 c->B3 x->Γ.F 91 [.int p,Zbg t q a b c,Zad q' x]=.ok (Zad true (ZaP a x%p,ZaP b x%p,ZaP c x%p))
theorem Zqx{Γ:Gam}(h:ZcF Γ)(p:Int)(t q q':Bool)(a b c x:R3)(hp:0<p)(ha:B3 a)(hb:B3 b)(hc:B3 c)(hx:B3 x):ZdX.run Γ [.int p,Zbg t q a b c,Zad q' x]=.ok (Zad true (ZaP a x%p,ZaP b x%p,ZaP c x%p)):=by
 obtain⟨x0,x1,x2⟩:=Zcg q' x
 have k:∀ {u v},Bd 300 u->Bd 300 v->ZcB u v=true:=fun hu hv=>Zc4 hu hv (by decide) (by decide)
 have key:∀ r:R3,B3 r->cF Γ [si p,sh (Zbg t q a b c),sh (Zad q' x),none] 3 Zbm (Zad q r)=.ok (.int (ZaP r x%p)):=fun r hr=>by
  obtain⟨y0,y1,y2⟩:=Zcg q r
  simp[cF,Zbm,x0,x1,x2,y0,y1,y2,k hr.1 hx.1,k hr.2.1 hx.2.1,k hr.2.2 hx.2.2,h p _ hp]
  rfl
 have g:∀ r,cG Γ [si p,sh (Zbg t q a b c),sh (Zad q' x),none] 3 Zaa r=.ok true:=fun _=>rfl
 have cp:Zam (cG Γ [si p,sh (Zbg t q a b c),sh (Zad q' x),none] 3 Zaa) (cF Γ [si p,sh (Zbg t q a b c),sh (Zad q' x),none] 3 Zbm) [Zad q a,Zad q b,Zad q c]=.ok [.int (ZaP a x%p),.int (ZaP b x%p),.int (ZaP c x%p)]:=by
  simp[Zam,g,key a ha,key b hb,key c hc]
 simp[ZdX,Df.run,Zac,Zzh,cp]
 rfl
noncomputable def crs(a b:R3):R3:=(a.2.1*b.2.2-a.2.2*b.2.1,a.2.2*b.1-a.1*b.2.2,a.1*b.2.1-a.2.1*b.1)
theorem ZjE:∀ xs ys:List Int,eqDs (ds xs) (ds ys)=decide (xs=ys)
 | [],[]=>rfl
 | [],_::_=>rfl
 | _::_,[]=>rfl
 | x::xs,y::ys=>by
  show ((x == y)&&eqDs (ds xs) (ds ys))=_
  rw[ZjE xs ys,Bool.eq_iff_iff]
  simp
theorem Zr0(a b:R3):eqD (Zad true a) (Zad true b)=decide (a=b):=by
 show eqDs (ds [a.1,a.2.1,a.2.2]) (ds [b.1,b.2.1,b.2.2])=_
 rw[ZjE,Bool.eq_iff_iff]
 simp only[List.cons.injEq,and_true,decide_eq_true_eq]
 exact⟨fun ⟨h1,h2,h3⟩=>by obtain⟨a1,a2,a3⟩:=a;obtain⟨b1,b2,b3⟩:=b;simp at h1 h2 h3;rw[h1,h2,h3],fun h=>by rw[h];exact⟨rfl,rfl,rfl⟩⟩
noncomputable def Zd1:Df:=⟨2,false,(.cons (.ife (.cmp .Eq (.var 0) (.var 1)) (.cons (.rais 7 (.cons (.var 0) .nil)) .nil) .nil) (.cons (.ret (.tup (.cons (.bin .Sub (.bin .Mult (.idx (.var 0) (.int 1)) (.idx (.var 1) (.int 2))) (.bin .Mult (.idx (.var 0) (.int 2)) (.idx (.var 1) (.int 1)))) (.cons (.bin .Sub (.bin .Mult (.idx (.var 0) (.int 2)) (.idx (.var 1) (.int 0))) (.bin .Mult (.idx (.var 0) (.int 0)) (.idx (.var 1) (.int 2)))) (.cons (.bin .Sub (.bin .Mult (.idx (.var 0) (.int 0)) (.idx (.var 1) (.int 1))) (.bin .Mult (.idx (.var 0) (.int 1)) (.idx (.var 1) (.int 0)))) .nil))))) .nil))⟩
def Zo9(Γ:Gam):Prop:=∀ a b:R3,B3 a->B3 b->a≠b->Γ.F 23 [Zad true a,Zad true b]=.ok (Zad true (crs a b))
theorem Znu(Γ:Gam)(a b:R3)(ha:B3 a)(hb:B3 b)(ne:a≠b):Zd1.run Γ [Zad true a,Zad true b]=.ok (Zad true (crs a b)):=by
 obtain⟨x0,x1,x2⟩:=Zcg true a
 obtain⟨y0,y1,y2⟩:=Zcg true b
 have k:∀ {u v},Bd 300 u->Bd 300 v->ZcB u v=true:=fun hu hv=>Zc4 hu hv (by decide) (by decide)
 have f:∀ r:R3,flD 5 (Zad true r)=true:=fun _=>rfl
 have e:eqD (Zad true a) (Zad true b)=false:=by rw[Zr0];exact decide_eq_false ne
 simp[Zd1,Df.run,Zac,f,e,x0,x1,x2,y0,y1,y2,k ha.2.1 hb.2.2,k ha.2.2 hb.2.1,k ha.2.2 hb.1,k ha.1 hb.2.2,k ha.1 hb.2.1,k ha.2.1 hb.1]
 rfl
noncomputable def Zbr:Df:=⟨1,false,(.cons (.ret (.tup (.cons (.call 23 (.cons (.idx (.var 0) (.int 1)) (.cons (.idx (.var 0) (.int 2)) .nil))) (.cons (.call 23 (.cons (.idx (.var 0) (.int 2)) (.cons (.idx (.var 0) (.int 0)) .nil))) (.cons (.call 23 (.cons (.idx (.var 0) (.int 0)) (.cons (.idx (.var 0) (.int 1)) .nil))) .nil))))) .nil)⟩
def Zkf(Γ:Gam):Prop:=∀ a b c:R3,B3 a->B3 b->B3 c->a≠b->b≠c->c≠a->Γ.F 98 [Zbg true true a b c]=.ok (Zbg true true (crs b c) (crs c a) (crs a b))
theorem Znt{Γ:Gam}(h:Zo9 Γ)(a b c:R3)(ha:B3 a)(hb:B3 b)(hc:B3 c)(n1:a≠b)(n2:b≠c)(n3:c≠a):Zbr.run Γ [Zbg true true a b c]=.ok (Zbg true true (crs b c) (crs c a) (crs a b)):=by
 obtain⟨r0,r1,r2⟩:=Zwp true true a b c
 simp[Zbr,Df.run,Zac,r0,r1,r2,h b c hb hc n2,h c a hc ha n3,h a b ha hb n1]
 rfl
def Zka(Γ:Gam):Prop:=∀ (p:Int) (t q:Bool) (a b c:R3),P4 p->B3 a->B3 b->B3 c->Zae a b c%p≠0->∀ l u,ZaE p (nine a b c)=some l->ZgM p l u->Γ.F 78 [.int p,Zbg t q a b c]=.ok (Zdc (fmR p u a) (fmR p u b) (fmR p u c))
theorem Zqu{Γ:Gam}(hm:Zfb Γ)(hf:ZgI Γ)(p:Int)(t q:Bool)(a b c:R3)(hp:P4 p)(ha:B3 a)(hb:B3 b)(hc:B3 c)(z:Zae a b c%p≠0)(l u:Int)(e:ZaE p (nine a b c)=some l)(it:ZgM p l u):ZcX.run Γ [.int p,Zbg t q a b c]=.ok (Zdc (fmR p u a) (fmR p u b) (fmR p u c)):=by
 obtain⟨r0,r1,r2⟩:=Zwp t q a b c
 have m:=hm p q a b c hp.pos ha hb hc
 have f:=hf p false (nine a b c) l u hp e it
 rw[Zop] at f
 have f':Γ.F 17 [.int p,.lst (ds (nine a b c))]=.ok (.tup (ds (nine (fmR p u a) (fmR p u b) (fmR p u c)))):=f
 obtain⟨x1,x2⟩:=Zly a b c
 obtain⟨y1,y2,y3⟩:=ZzD (fmR p u a) (fmR p u b) (fmR p u c)
 simp[ZcX,Df.run,Zac,r0,r1,r2,m,z,Zrs,x1,x2,f',y1,y2,y3,slE]
 rfl
noncomputable def Zb0:Df:=⟨2,false,(.cons (.ret (.call 78 (.cons (.var 0) (.cons (.call 104 (.cons (.call 98 (.cons (.var 1) .nil)) .nil)) .nil)))) .nil)⟩
noncomputable def bk0(a b c:R3):R3:=Zgc (crs b c) (crs c a) (crs a b)
noncomputable def bk1(a b c:R3):R3:=Zgb (crs b c) (crs c a) (crs a b)
noncomputable def bk2(a b c:R3):R3:=Zga (crs b c) (crs c a) (crs a b)
def ZmB(Γ:Gam):Prop:=∀ (p:Int) (a b c:R3),P4 p->In3 p a->In3 p b->In3 p c->Zae a b c%p≠0->∀ l u,ZaE p (nine (bk0 a b c) (bk1 a b c) (bk2 a b c))=some l->ZgM p l u->Γ.F 106 [.int p,Zdc a b c]=.ok (Zdc (fmR p u (bk0 a b c)) (fmR p u (bk1 a b c)) (fmR p u (bk2 a b c)))
theorem Zk9{p x:Int}(hp:P4 p)(h0:0<=x)(h1:x<p):Bd 10 x:=by
 unfold Bd
 have:=hp.hi
 omega
theorem Bd.mono{m n:Nat}{x:Int}(h:Bd m x)(hm:m<=n):Bd n x:=Nat.lt_of_lt_of_le h (Nat.pow_le_pow_right (by decide) hm)
def Bn(n:Nat)(a:R3):Prop:=Bd n a.1/\Bd n a.2.1/\Bd n a.2.2
theorem Bn.b3{n:Nat}{a:R3}(h:Bn n a)(hn:n<=300):B3 a:=⟨h.1.mono hn,h.2.1.mono hn,h.2.2.mono hn⟩
theorem Zef{p:Int}{a:R3}(hp:P4 p)(h:In3 p a):Bn 10 a:=⟨Zk9 hp h.1.1 h.1.2,Zk9 hp h.2.1.1 h.2.1.2,Zk9 hp h.2.2.1 h.2.2.2⟩
theorem Zoy{n:Nat}{a b:R3}(ha:Bn n a)(hb:Bn n b):Bn (n+n+1) (crs a b) :=
 ⟨(ha.2.1.mul hb.2.2).sub (ha.2.2.mul hb.2.1),(ha.2.2.mul hb.1).sub (ha.1.mul hb.2.2),(ha.1.mul hb.2.1).sub (ha.2.1.mul hb.1)⟩
theorem ZxA{n:Nat}{a b c:R3}(ha:Bn n a)(hb:Bn n b)(hc:Bn n c):Bn n (Zgc a b c)/\Bn n (Zgb a b c)/\Bn n (Zga a b c):=⟨⟨ha.1,hb.1,hc.1⟩,⟨ha.2.1,hb.2.1,hc.2.1⟩,⟨ha.2.2,hb.2.2,hc.2.2⟩⟩
theorem Zr2{p:Int}{a b c:R3}(z:Zae a b c%p≠0):a≠b/\b≠c/\c≠a:=by
 refine⟨fun e=>z ?_,fun e=>z ?_,fun e=>z ?_⟩
 ·subst e
  rw[show Zae a a c=0 by unfold Zae det;grind,Int.zero_emod]
 ·subst e
  rw[show Zae a b b=0 by unfold Zae det;grind,Int.zero_emod]
 ·subst e
  rw[show Zae c b c=0 by unfold Zae det;grind,Int.zero_emod]
theorem Zhw(a b c:R3):Zae (bk0 a b c) (bk1 a b c) (bk2 a b c)=Zae a b c*Zae a b c:=by
 unfold Zae det bk0 bk1 bk2 Zgc Zgb Zga crs
 grind
theorem ZqM{Γ:Gam}(h1:Zkf Γ)(h2:ZmA Γ)(h3:Zka Γ)(p:Int)(a b c:R3)(hp:P4 p)(ha:In3 p a)(hb:In3 p b)(hc:In3 p c)(z:Zae a b c%p≠0)(l u:Int)(e:ZaE p (nine (bk0 a b c) (bk1 a b c) (bk2 a b c))=some l)(it:ZgM p l u) :
  Zb0.run Γ [.int p,Zdc a b c]=.ok (Zdc (fmR p u (bk0 a b c)) (fmR p u (bk1 a b c)) (fmR p u (bk2 a b c))):=by
 have ba:=Zef hp ha
 have bb:=Zef hp hb
 have bc:=Zef hp hc
 obtain⟨n1,n2,n3⟩:=Zr2 z
 have e1:Γ.F 98 [Zdc a b c]=.ok (Zbg true true (crs b c) (crs c a) (crs a b)):=h1 a b c (ba.b3 (by decide)) (bb.b3 (by decide)) (bc.b3 (by decide)) n1 n2 n3
 have e2:=h2 true true (crs b c) (crs c a) (crs a b)
 obtain⟨c0,c1,c2⟩:=ZxA (Zoy bb bc) (Zoy bc ba) (Zoy ba bb)
 have z2:Zae (bk0 a b c) (bk1 a b c) (bk2 a b c)%p≠0:=by rw[Zhw];exact ZaL hp z z
 have e3:Γ.F 78 [.int p,Zbg true true (Zgc (crs b c) (crs c a) (crs a b)) (Zgb (crs b c) (crs c a) (crs a b)) (Zga (crs b c) (crs c a) (crs a b))]=.ok (Zdc (fmR p u (bk0 a b c)) (fmR p u (bk1 a b c)) (fmR p u (bk2 a b c))):=h3 p true true _ _ _ hp (c0.b3 (by decide)) (c1.b3 (by decide)) (c2.b3 (by decide)) z2 l u e it
 simp[Zb0,Df.run,Zac,e1,e2,e3]
noncomputable def ZaI(k:Int)(a:R3):R3:=(k*a.1,k*a.2.1,k*a.2.2)
noncomputable def fk0(p:Int)(a b c d:R3):Int:=Zae d b c%p
noncomputable def fs0(p:Int)(a b c d:R3):R3:=ZaI (fk0 p a b c d) a
def ZzL(p:Int)(a b c d:R3):Prop:=Zae a b c%p≠0/\Zae a b d%p≠0/\Zae a c d%p≠0/\Zae b c d%p≠0
def CgR(p:Int)(x y:R3):Prop:=Cg p x.1 y.1/\Cg p x.2.1 y.2.1/\Cg p x.2.2 y.2.2
section
variable {p:Int} {a b c a' b' c' x y z x':R3} {k l m k':Int}
theorem CgR.rfl:CgR p a a:=⟨Cg.rfl,Cg.rfl,Cg.rfl⟩
theorem CgR.of(h:a=b):CgR p a b:=by rw[h];exact CgR.rfl
theorem CgR.trans(h:CgR p a b)(g:CgR p b c):CgR p a c:=⟨h.1.trans g.1,h.2.1.trans g.2.1,h.2.2.trans g.2.2⟩
theorem CgR.symm(h:CgR p a b):CgR p b a:=⟨h.1.symm,h.2.1.symm,h.2.2.symm⟩
theorem CgR.sc(hk:Cg p k k')(h:CgR p a b):CgR p (ZaI k a) (ZaI k' b):=⟨hk.mul h.1,hk.mul h.2.1,hk.mul h.2.2⟩
theorem ZcS(ha:CgR p a a')(hb:CgR p b b')(hc:CgR p c c'):Cg p (Zae a b c) (Zae a' b' c'):=by
 unfold Zae det
 exact ZbX ha.1 ha.2.1 ha.2.2 hb.1 hb.2.1 hb.2.2 hc.1 hc.2.1 hc.2.2
theorem ZdM(ha:CgR p a a')(hb:CgR p b b'):Cg p (ZaP a b) (ZaP a' b'):=((ha.1.mul hb.1).add (ha.2.1.mul hb.2.1)).add (ha.2.2.mul hb.2.2)
theorem Zms(ha:CgR p a a')(hb:CgR p b b')(hc:CgR p c c'):CgR p (Zgc a b c) (Zgc a' b' c')/\CgR p (Zgb a b c) (Zgb a' b' c')/\CgR p (Zga a b c) (Zga a' b' c'):=⟨⟨ha.1,hb.1,hc.1⟩,⟨ha.2.1,hb.2.1,hc.2.1⟩,⟨ha.2.2,hb.2.2,hc.2.2⟩⟩
theorem Zhr(ha:CgR p a a')(hb:CgR p b b'):CgR p (crs a b) (crs a' b') :=
 ⟨(ha.2.1.mul hb.2.2).sub (ha.2.2.mul hb.2.1),(ha.2.2.mul hb.1).sub (ha.1.mul hb.2.2),(ha.1.mul hb.2.1).sub (ha.2.1.mul hb.1)⟩
theorem ZxD(ha:CgR p a a')(hb:CgR p b b')(hc:CgR p c c'):CgR p (bk0 a b c) (bk0 a' b' c')/\CgR p (bk1 a b c) (bk1 a' b' c')/\CgR p (bk2 a b c) (bk2 a' b' c'):=Zms (Zhr hb hc) (Zhr hc ha) (Zhr ha hb)
theorem Zeh(p t:Int)(a:R3):CgR p (fmR p t a) (ZaI t a):=by
 have key:∀ x:Int,Cg p (t*(x%p)%p) (t*x):=fun x=>(Cg.md _root_.rfl).trans (Cg.rfl.mul (Cg.md _root_.rfl))
 exact⟨key _,key _,key _⟩
noncomputable def ap(a b c x:R3):R3:=(ZaP a x,ZaP b x,ZaP c x)
theorem Zr3(a b c x y z:R3):Zae (ap a b c x) (ap a b c y) (ap a b c z)=Zae a b c*Zae x y z:=by
 unfold Zae det ap ZaP
 grind
theorem ZjF(k l m:Int)(x y z:R3):Zae (ZaI k x) (ZaI l y) (ZaI m z)=k*l*m*Zae x y z:=by
 unfold Zae det ZaI
 grind
theorem Znb(k l:Int)(x:R3):ZaI k (ZaI l x)=ZaI (k*l) x:=by
 unfold ZaI
 simp only[Int.mul_assoc]
theorem ZxH(a b c x:R3)(k:Int):ap a b c (ZaI k x)=ZaI k (ap a b c x):=by
 unfold ap ZaI ZaP
 refine Prod.ext ?_ (Prod.ext ?_ ?_)<;>(simp only;grind)
theorem ZxC(k:Int)(x y z:R3):bk0 (ZaI k x) (ZaI k y) (ZaI k z)=ZaI (k*k) (bk0 x y z)/\bk1 (ZaI k x) (ZaI k y) (ZaI k z)=ZaI (k*k) (bk1 x y z)/\bk2 (ZaI k x) (ZaI k y) (ZaI k z)=ZaI (k*k) (bk2 x y z):=by
 unfold bk0 bk1 bk2 ZaI Zgc Zgb Zga crs
 refine⟨?_,?_,?_⟩<;>refine Prod.ext ?_ (Prod.ext ?_ ?_)<;>(simp only;grind)
end
theorem Zso{p x y:Int}(h:Cg p x y)(hy:y%p≠0):x%p≠0:=fun z=>hy ((show x%p=y%p from h).symm.trans z)
theorem nz3{p x y z:Int}(hp:P4 p)(hx:x%p≠0)(hy:y%p≠0)(hz:z%p≠0):x*y*z%p≠0:=ZaL hp (ZaL hp hx hy) hz
section
variable {p:Int} {a b c f0 f1 f2 f3 g0 g1 g2 g3:R3} {d0 d1 d2 d3:Int}
theorem Zn3(hx:CgR p g0 (ZaI d0 (ap a b c f0)))(hy:CgR p g1 (ZaI d1 (ap a b c f1)))(hz:CgR p g2 (ZaI d2 (ap a b c f2))):Cg p (Zae g0 g1 g2) (d0*d1*d2*(Zae a b c*Zae f0 f1 f2)) :=
 (ZcS hx hy hz).trans (Cg.of (by rw[ZjF,Zr3]))
end
end OvC
end
section
namespace OvC
open PySem Ov
section
variable {Γ:Gam} {ns:List Int}
end
section
variable {Γ:Gam} {ns:List Int} {many s5 s6 s7 s8 s9 s0 s1 s2:Sl} {p:Int} {a b c:R3}
end
def InL(p:Int)(xs:List Int):Prop:=∀ x∈xs,0<=x/\x<p
theorem InL.set{p:Int}{xs:List Int}(h:InL p xs)(k:Nat){v:Int}(h0:0<=v)(h1:v<p):InL p (xs.set k v):=fun x hx=>by
 rcases List.mem_or_eq_of_mem_set hx with z|rfl
 ·exact h x z
 ·exact⟨h0,h1⟩
section
variable {Γ:Gam} {ns:List Int} {p at_:Int}
end
section
variable {Γ:Gam} {ns:List Int} {p t:Int}
end
structure C6 where
 c0:Int
 c1:Int
 c2:Int
 c3:Int
 c4:Int
 c5:Int
noncomputable def C6.l(C:C6):List Int:=[C.c0,C.c1,C.c2,C.c3,C.c4,C.c5]
noncomputable def ZaD(C:C6):D:=.tup (ds C.l)
noncomputable def vI(C:C6)(x:R3):Int:=C.c0*x.1*x.1+C.c1*x.2.1*x.2.1+C.c2*x.2.2*x.2.2+(C.c3*x.1*x.2.1+C.c4*x.1*x.2.2+C.c5*x.2.1*x.2.2)
noncomputable def tw0(C:C6):R3:=(2*C.c0,C.c3,C.c4)
noncomputable def tw1(C:C6):R3:=(C.c3,2*C.c1,C.c5)
noncomputable def tw2(C:C6):R3:=(C.c4,C.c5,2*C.c2)
noncomputable def bI(C:C6)(x y:R3):Int:=ZaP (ap (tw0 C) (tw1 C) (tw2 C) x) y
noncomputable def scC(k:Int)(C:C6):C6:=⟨k*C.c0,k*C.c1,k*C.c2,k*C.c3,k*C.c4,k*C.c5⟩
def CgC(p:Int)(C D:C6):Prop:=Cg p C.c0 D.c0/\Cg p C.c1 D.c1/\Cg p C.c2 D.c2/\Cg p C.c3 D.c3/\Cg p C.c4 D.c4/\Cg p C.c5 D.c5
noncomputable def pb(C:C6)(a b c:R3):C6:=⟨vI C (Zgc a b c),vI C (Zgb a b c),vI C (Zga a b c),bI C (Zgc a b c) (Zgb a b c),bI C (Zgc a b c) (Zga a b c),bI C (Zgb a b c) (Zga a b c)⟩
section
variable {p:Int} {C D E:C6} {a b c a' b' c' x y x' y':R3} {k k':Int}
theorem C6.ext'(h0:C.c0=D.c0)(h1:C.c1=D.c1)(h2:C.c2=D.c2)(h3:C.c3=D.c3)(h4:C.c4=D.c4)(h5:C.c5=D.c5):C=D:=by
 cases C;cases D;simp_all
theorem CgC.rfl:CgC p C C:=⟨Cg.rfl,Cg.rfl,Cg.rfl,Cg.rfl,Cg.rfl,Cg.rfl⟩
theorem CgC.of(h:C=D):CgC p C D:=by rw[h];exact CgC.rfl
theorem CgC.symm(h:CgC p C D):CgC p D C:=⟨h.1.symm,h.2.1.symm,h.2.2.1.symm,h.2.2.2.1.symm,h.2.2.2.2.1.symm,h.2.2.2.2.2.symm⟩
theorem CgC.trans(h:CgC p C D)(g:CgC p D E):CgC p C E:=⟨h.1.trans g.1,h.2.1.trans g.2.1,h.2.2.1.trans g.2.2.1,h.2.2.2.1.trans g.2.2.2.1,h.2.2.2.2.1.trans g.2.2.2.2.1,h.2.2.2.2.2.trans g.2.2.2.2.2⟩
theorem CgC.sc(hk:Cg p k k')(h:CgC p C D):CgC p (scC k C) (scC k' D):=⟨hk.mul h.1,hk.mul h.2.1,hk.mul h.2.2.1,hk.mul h.2.2.2.1,hk.mul h.2.2.2.2.1,hk.mul h.2.2.2.2.2⟩
theorem Zik(h:CgC p C D)(hx:CgR p x x'):Cg p (vI C x) (vI D x') :=
 (((((h.1.mul hx.1).mul hx.1).add ((h.2.1.mul hx.2.1).mul hx.2.1)).add ((h.2.2.1.mul hx.2.2).mul hx.2.2))).add ((((h.2.2.2.1.mul hx.1).mul hx.2.1).add ((h.2.2.2.2.1.mul hx.1).mul hx.2.2)).add ((h.2.2.2.2.2.mul hx.2.1).mul hx.2.2))
theorem Zpz(h:CgC p C D):CgR p (tw0 C) (tw0 D)/\CgR p (tw1 C) (tw1 D)/\CgR p (tw2 C) (tw2 D) :=
 ⟨⟨Cg.rfl.mul h.1,h.2.2.2.1,h.2.2.2.2.1⟩,⟨h.2.2.2.1,Cg.rfl.mul h.2.1,h.2.2.2.2.2⟩,⟨h.2.2.2.2.1,h.2.2.2.2.2,Cg.rfl.mul h.2.2.1⟩⟩
theorem ZsG(ha:CgR p a a')(hb:CgR p b b')(hc:CgR p c c')(hx:CgR p x x'):CgR p (ap a b c x) (ap a' b' c' x'):=⟨ZdM ha hx,ZdM hb hx,ZdM hc hx⟩
theorem Zo2(h:CgC p C D)(hx:CgR p x x')(hy:CgR p y y'):Cg p (bI C x y) (bI D x' y') :=
 let ⟨t0,t1,t2⟩:=Zpz h
 ZdM (ZsG t0 t1 t2 hx) hy
theorem Zrc(h:CgC p C D)(ha:CgR p a a')(hb:CgR p b b')(hc:CgR p c c'):CgC p (pb C a b c) (pb D a' b' c') :=
 let ⟨s0,s1,s2⟩:=Zms ha hb hc
 ⟨Zik h s0,Zik h s1,Zik h s2,Zo2 h s0 s1,Zo2 h s0 s2,Zo2 h s1 s2⟩
theorem ZlQ(k l:Int)(C:C6):scC k (scC l C)=scC (k*l) C:=by
 unfold scC
 simp only[Int.mul_assoc]
theorem ZiH(C:C6):scC 1 C=C:=by unfold scC;simp only[Int.one_mul]
theorem Zv7(k:Int)(C:C6)(a b c:R3):pb (scC k C) a b c=scC k (pb C a b c):=by
 unfold pb scC vI bI ap tw0 tw1 tw2 ZaP
 refine C6.ext' ?_ ?_ ?_ ?_ ?_ ?_<;>(simp only;grind)
theorem Zrb(k:Int)(C:C6)(a b c:R3):pb C (ZaI k a) (ZaI k b) (ZaI k c)=scC (k*k) (pb C a b c):=by
 unfold pb scC vI bI ap tw0 tw1 tw2 ZaP Zgc Zgb Zga ZaI
 refine C6.ext' ?_ ?_ ?_ ?_ ?_ ?_<;>(simp only;grind)
theorem Zox(k:Int)(C:C6):Zae (tw0 (scC k C)) (tw1 (scC k C)) (tw2 (scC k C))=k*k*k*Zae (tw0 C) (tw1 C) (tw2 C):=by
 rw[<- ZjF]
 unfold tw0 tw1 tw2 scC ZaI
 simp only[<- Int.mul_assoc,Int.mul_comm 2 k]
def PrC(p:Int)(C D:C6):Prop:=∃ d,d%p≠0/\CgC p C (scC d D)
theorem PrC.rfl(hp:P4 p):PrC p C C:=⟨1,hp.o1,CgC.of (ZiH C).symm⟩
theorem PrC.trans(hp:P4 p)(i:PrC p C D)(j:PrC p D E):PrC p C E:=by
 obtain⟨d,dz,e⟩:=i
 obtain⟨d',dz',e'⟩:=j
 exact⟨d*d',ZaL hp dz dz',e.trans ((CgC.sc Cg.rfl e').trans (CgC.of (ZlQ _ _ _)))⟩
theorem Zmd(hp:P4 p)(dz:k%p≠0):∃ u,u%p≠0/\Cg p (u*k) 1:=by
 obtain⟨u,u1,u2,u3⟩:=ZdA hp dz
 refine⟨u,by rw[Int.emod_eq_of_lt (by omega) u2];omega,?_⟩
 show u*k%p=1%p
 rw[Int.mul_comm,u3,Int.emod_eq_of_lt (by decide) (by have:=hp.lo;omega)]
theorem PrC.symm(hp:P4 p)(i:PrC p C D):PrC p D C:=by
 obtain⟨d,dz,e⟩:=i
 obtain⟨u,uz,o⟩:=Zmd hp dz
 refine⟨u,uz,?_⟩
 have q:=CgC.sc (k:=u) (k':=u) Cg.rfl e
 rw[ZlQ] at q
 exact(q.trans ((CgC.sc o CgC.rfl).trans (CgC.of (ZiH D)))).symm
theorem PrC.pb(i:PrC p C D):PrC p (OvC.pb C a b c) (OvC.pb D a b c):=by
 obtain⟨d,dz,e⟩:=i
 exact⟨d,dz,(Zrc e CgR.rfl CgR.rfl CgR.rfl).trans (CgC.of (Zv7 d D a b c))⟩
theorem PrC.tab(hp:P4 p)(kz:k%p≠0)(ha:CgR p a (ZaI k a'))(hb:CgR p b (ZaI k b'))(hc:CgR p c (ZaI k c')):PrC p (OvC.pb C a b c) (OvC.pb C a' b' c') :=
 ⟨k*k,ZaL hp kz kz,(Zrc CgC.rfl ha hb hc).trans (CgC.of (Zrb k C a' b' c'))⟩
def InC(p:Int)(C:C6):Prop:=∀ x∈C.l,0<=x/\x<p
end
noncomputable def ZgC:Df:=⟨5,false,(.cons (.asg 3 false (.bin .Add (.bin .Add (.bin .Mult (.bin .Mult (.idx (.var 1) (.int 0)) (.idx (.var 2) (.int 0))) (.idx (.var 2) (.int 0))) (.bin .Mult (.bin .Mult (.idx (.var 1) (.int 1)) (.idx (.var 2) (.int 1))) (.idx (.var 2) (.int 1)))) (.bin .Mult (.bin .Mult (.idx (.var 1) (.int 2)) (.idx (.var 2) (.int 2))) (.idx (.var 2) (.int 2))))) (.cons (.asg 4 false (.bin .Add (.bin .Add (.bin .Mult (.bin .Mult (.idx (.var 1) (.int 3)) (.idx (.var 2) (.int 0))) (.idx (.var 2) (.int 1))) (.bin .Mult (.bin .Mult (.idx (.var 1) (.int 4)) (.idx (.var 2) (.int 0))) (.idx (.var 2) (.int 2)))) (.bin .Mult (.bin .Mult (.idx (.var 1) (.int 5)) (.idx (.var 2) (.int 1))) (.idx (.var 2) (.int 2))))) (.cons (.ret (.call 1 (.cons (.var 0) (.cons (.bin .Add (.var 3) (.var 4)) .nil)))) .nil)))⟩
noncomputable def ZbH:Df:=⟨2,false,(.cons (.ret (.tup (.cons (.tup (.cons (.call 1 (.cons (.var 0) (.cons (.bin .Mult (.int 2) (.idx (.var 1) (.int 0))) .nil))) (.cons (.idx (.var 1) (.int 3)) (.cons (.idx (.var 1) (.int 4)) .nil)))) (.cons (.tup (.cons (.idx (.var 1) (.int 3)) (.cons (.call 1 (.cons (.var 0) (.cons (.bin .Mult (.int 2) (.idx (.var 1) (.int 1))) .nil))) (.cons (.idx (.var 1) (.int 5)) .nil)))) (.cons (.tup (.cons (.idx (.var 1) (.int 4)) (.cons (.idx (.var 1) (.int 5)) (.cons (.call 1 (.cons (.var 0) (.cons (.bin .Mult (.int 2) (.idx (.var 1) (.int 2))) .nil))) .nil)))) .nil))))) .nil)⟩
noncomputable def ZbC:Df:=⟨3,false,(.cons (.asg 2 false (.call 131 (.cons (.var 0) (.cons (.var 1) .nil)))) (.cons (.ret (.cmp .NotEq (.call 61 (.cons (.var 0) (.cons (.idx (.var 2) (.int 0)) (.cons (.idx (.var 2) (.int 1)) (.cons (.idx (.var 2) (.int 2)) .nil))))) (.int 0))) .nil))⟩
theorem ix6(C:C6):Zcq (ZaD C) (.int 0)=.ok (.int C.c0)/\Zcq (ZaD C) (.int 1)=.ok (.int C.c1)/\Zcq (ZaD C) (.int 2)=.ok (.int C.c2)/\Zcq (ZaD C) (.int 3)=.ok (.int C.c3)/\Zcq (ZaD C) (.int 4)=.ok (.int C.c4)/\Zcq (ZaD C) (.int 5)=.ok (.int C.c5):=⟨rfl,rfl,rfl,rfl,rfl,rfl⟩
structure BC (C:C6):Prop where
 b0:Bd 10 C.c0
 b1:Bd 10 C.c1
 b2:Bd 10 C.c2
 b3:Bd 10 C.c3
 b4:Bd 10 C.c4
 b5:Bd 10 C.c5
theorem InC.b{p:Int}{C:C6}(hp:P4 p)(h:InC p C):BC C:=by
 have k:∀ x∈C.l,Bd 10 x:=fun x hx=>Zk9 hp (h x hx).1 (h x hx).2
 exact⟨k _ (by simp[C6.l]),k _ (by simp[C6.l]),k _ (by simp[C6.l]),k _ (by simp[C6.l]),k _ (by simp[C6.l]),k _ (by simp[C6.l])⟩
def Zj9(Γ:Gam):Prop:=∀ (p:Int) (C:C6) (x:R3),P4 p->InC p C->In3 p x->Γ.F 126 [.int p,ZaD C,Zad true x]=.ok (.int (vI C x%p))
theorem Znj{Γ:Gam}(hr:ZcF Γ)(p:Int)(C:C6)(x:R3)(hp:P4 p)(iC:InC p C)(ix:In3 p x):ZgC.run Γ [.int p,ZaD C,Zad true x]=.ok (.int (vI C x%p)):=by
 obtain⟨i0,i1,i2,i3,i4,i5⟩:=ix6 C
 obtain⟨x0,x1,x2⟩:=Zcg true x
 have bC:=iC.b hp
 have bx:=Zef hp ix
 have k:∀ {u v},Bd 10 u->Bd 10 v->ZcB u v=true:=fun hu hv=>Zc4 hu hv (by decide) (by decide)
 have k2:∀ {u v w},Bd 10 u->Bd 10 v->Bd 10 w->ZcB (u*v) w=true:=fun hu hv hw=>Zc4 (hu.mul hv) hw (by decide) (by decide)
 simp[ZgC,Df.run,Zac,i0,i1,i2,i3,i4,i5,x0,x1,x2,k bC.b0 bx.1,k bC.b1 bx.2.1,k bC.b2 bx.2.2,k bC.b3 bx.1,k bC.b4 bx.1,k bC.b5 bx.2.1,k2 bC.b0 bx.1 bx.1,k2 bC.b1 bx.2.1 bx.2.1,k2 bC.b2 bx.2.2 bx.2.2,k2 bC.b3 bx.1 bx.2.1,k2 bC.b4 bx.1 bx.2.2,k2 bC.b5 bx.2.1 bx.2.2,hr p _ hp.pos]
 rfl
noncomputable def t0(p:Int)(C:C6):R3:=(2*C.c0%p,C.c3,C.c4)
noncomputable def t1(p:Int)(C:C6):R3:=(C.c3,2*C.c1%p,C.c5)
noncomputable def t2(p:Int)(C:C6):R3:=(C.c4,C.c5,2*C.c2%p)
theorem Zuv{p:Int}{C:C6}(hp:P4 p)(h:InC p C):In3 p (t0 p C)/\In3 p (t1 p C)/\In3 p (t2 p C):=by
 have p0:=hp.pos
 have k:∀ x∈C.l,0<=x/\x<p:=h
 have m:∀ x:Int,0<=x%p/\x%p<p:=fun x=>⟨Int.emod_nonneg _ (by omega),Int.emod_lt_of_pos _ p0⟩
 exact⟨⟨m _,k _ (by simp[C6.l,t0]),k _ (by simp[C6.l,t0])⟩,⟨k _ (by simp[C6.l,t1]),m _,k _ (by simp[C6.l,t1])⟩,⟨k _ (by simp[C6.l,t2]),k _ (by simp[C6.l,t2]),m _⟩⟩
theorem Zuw(p:Int)(C:C6):CgR p (t0 p C) (tw0 C)/\CgR p (t1 p C) (tw1 C)/\CgR p (t2 p C) (tw2 C):=⟨⟨Cg.md rfl,Cg.rfl,Cg.rfl⟩,⟨Cg.rfl,Cg.md rfl,Cg.rfl⟩,⟨Cg.rfl,Cg.rfl,Cg.md rfl⟩⟩
def Zfa(Γ:Gam):Prop:=∀ (p:Int) (C:C6),P4 p->Γ.F 131 [.int p,ZaD C]=.ok (Zdc (t0 p C) (t1 p C) (t2 p C))
theorem Znk{Γ:Gam}(hr:ZcF Γ)(p:Int)(C:C6)(hp:P4 p):ZbH.run Γ [.int p,ZaD C]=.ok (Zdc (t0 p C) (t1 p C) (t2 p C)):=by
 obtain⟨i0,i1,i2,i3,i4,i5⟩:=ix6 C
 have m22:∀ y,Zbh 2 y=true:=fun y=>Zcj (by decide) (by decide)
 simp[ZbH,Df.run,Zac,i0,i1,i2,i3,i4,i5,m22,hr p _ hp.pos]
 rfl
theorem ZwN{p:Int}{E:C6}{l:Int}(hp:P4 p)(el:ZaE p E.l=some l):∃ (t:Int) (D:C6),ZgM p l t/\fmI p t E.l=D.l/\InC p D/\ZaE p D.l=some 1/\PrC p D E:=by
 have p0:=hp.pos
 obtain⟨lz,_,_⟩:=Zbw p0 el
 obtain⟨t,t1,t2,t3⟩:=ZdA hp lz
 have tz:t%p≠0:=by rw[Int.emod_eq_of_lt (by omega) t2];omega
 have ff:∀ x,(t*(x%p)%p)%p=t*x%p:=fun x=>by rw[Int.emod_emod_of_dvd _ (Int.dvd_refl p),Int.mul_emod t (x%p) p,Int.emod_emod_of_dvd _ (Int.dvd_refl p),<- Int.mul_emod]
 have lv:=Zb9 hp tz (f:=fun x=>t*(x%p)%p) ff E.l
 rw[el,Option.map_some,Int.mul_comm,t3] at lv
 have key:∀ x:Int,Cg p (t*(x%p)%p) (t*x):=fun x=>(Cg.md rfl).trans (Cg.rfl.mul (Cg.md rfl))
 refine⟨t,⟨t*(E.c0%p)%p,t*(E.c1%p)%p,t*(E.c2%p)%p,t*(E.c3%p)%p,t*(E.c4%p)%p,t*(E.c5%p)%p⟩,⟨t1,t2,t3⟩,rfl,fun x hx=>?_,lv,t,tz,key _,key _,key _,key _,key _,key _⟩
 obtain⟨y,_,rfl⟩:=List.mem_map.mp (show x∈E.l.map fun x=>t*(x%p)%p from hx)
 exact⟨Int.emod_nonneg _ (by omega),Int.emod_lt_of_pos _ p0⟩
section
variable {Γ:Gam} {ns:List Int} {p at_:Int} {φ:Int->Int}
end
noncomputable def e0R:R3:=(1,0,0)
noncomputable def e1R:R3:=(0,1,0)
noncomputable def e2R:R3:=(0,0,1)
noncomputable def e3R:R3:=(1,1,1)
theorem ZzC{p:Int}(hp:P4 p):In3 p e0R/\In3 p e1R/\In3 p e2R/\In3 p e3R:=by
 have z:0<=(0:Int)/\(0:Int)<p:=⟨by decide,hp.pos⟩
 have o:0<=(1:Int)/\(1:Int)<p:=⟨by decide,by have:=hp.lo;omega⟩
 exact⟨⟨o,z,z⟩,⟨z,o,z⟩,⟨z,z,o⟩,⟨o,o,o⟩⟩
theorem Zxr{p:Int}(hp:P4 p):ZzL p e0R e1R e2R e3R:=by
 rcases hp with rfl|rfl|rfl|rfl<;>exact⟨by decide,by decide,by decide,by decide⟩
def Pr(p:Int)(x y:R3):Prop:=∃ d,d%p≠0/\CgR p x (ZaI d y)
section
variable {p:Int} {a b c x y z f g h:R3} {k:Int}
theorem Zfp(x:R3):ZaI 1 x=x:=by unfold ZaI;simp only[Int.one_mul]
theorem Pr.rfl(hp:P4 p):Pr p x x:=⟨1,hp.o1,CgR.of (Zfp x).symm⟩
theorem Pr.trans(hp:P4 p)(i:Pr p x y)(j:Pr p y z):Pr p x z:=by
 obtain⟨d,dz,e⟩:=i
 obtain⟨d',dz',e'⟩:=j
 exact⟨d*d',ZaL hp dz dz',e.trans ((CgR.sc Cg.rfl e').trans (CgR.of (Znb _ _ _)))⟩
theorem Pr.symm(hp:P4 p)(i:Pr p x y):Pr p y x:=by
 obtain⟨d,dz,e⟩:=i
 obtain⟨u,u1,u2,u3⟩:=ZdA hp dz
 have uz:u%p≠0:=by rw[Int.emod_eq_of_lt (by omega) u2];omega
 have o:Cg p (u*d) 1:=by
  show u*d%p=1%p
  rw[Int.mul_comm,u3,Int.emod_eq_of_lt (by decide) (by have:=hp.lo;omega)]
 refine⟨u,uz,?_⟩
 have q:=CgR.sc (k:=u) (k':=u) Cg.rfl e
 rw[Znb] at q
 exact(q.trans ((CgR.sc o CgR.rfl).trans (CgR.of (Zfp y)))).symm
theorem Pr.cg(hp:P4 p)(e:CgR p x y):Pr p x y:=⟨1,hp.o1,e.trans (CgR.of (Zfp y).symm)⟩
theorem Zo4{a' b' c' x':R3}(ha:CgR p a a')(hb:CgR p b b')(hc:CgR p c c')(hx:CgR p x x'):CgR p (ap a b c x) (ap a' b' c' x'):=⟨ZdM ha hx,ZdM hb hx,ZdM hc hx⟩
theorem Pr.ap(i:Pr p x y):Pr p (OvC.ap a b c x) (OvC.ap a b c y):=by
 obtain⟨d,dz,e⟩:=i
 exact⟨d,dz,(Zo4 CgR.rfl CgR.rfl CgR.rfl e).trans (CgR.of (ZxH a b c y d))⟩
theorem ZsF(k:Int)(a b c x:R3):ap (ZaI k a) (ZaI k b) (ZaI k c) x=ZaI k (ap a b c x):=by
 unfold ap ZaI ZaP
 refine Prod.ext ?_ (Prod.ext ?_ ?_)<;>(simp only;grind)
theorem Pr.tab{a' b' c':R3}(kz:k%p≠0)(ha:CgR p a (ZaI k a'))(hb:CgR p b (ZaI k b'))(hc:CgR p c (ZaI k c')):Pr p (OvC.ap a b c x) (OvC.ap a' b' c' x) :=
 ⟨k,kz,(Zo4 ha hb hc CgR.rfl).trans (CgR.of (ZsF k a' b' c' x))⟩
theorem ZsI(a b c v:R3):ap (bk0 a b c) (bk1 a b c) (bk2 a b c) (ap a b c v)=ZaI (Zae a b c) v:=by
 unfold ap ZaI ZaP bk0 bk1 bk2 Zgc Zgb Zga crs Zae det
 refine Prod.ext ?_ (Prod.ext ?_ ?_)<;>(simp only;grind)
end
noncomputable def tri(g:R3):List Int:=[g.1,g.2.1,g.2.2]
theorem ZnT{p:Int}{x y:R3}(hp:P4 p)(ix:In3 p x)(iy:In3 p y)(lx:ZaE p (tri x)=some 1)(ly:ZaE p (tri y)=some 1)(h:Pr p x y):x=y:=by
 obtain⟨d,dz,e⟩:=h
 have p1:1<p:=by have:=hp.lo;omega
 have rs:(tri x).map (fun x=>x%p)=((tri y).map fun x=>d*x).map (fun x=>x%p):=by
  simp only[tri,List.map_cons,List.map_nil]
  rw[show x.1%p=d*y.1%p from e.1,show x.2.1%p=d*y.2.1%p from e.2.1,show x.2.2%p=d*y.2.2%p from e.2.2]
 have el:=Zb9 hp dz (f:=fun x=>d*x) (fun _=>rfl) (tri y)
 rw[ly,<- Zes rs,lx,Option.map_some,Option.some.injEq,Int.mul_one] at el
 have o:Cg p d 1:=by
  show d%p=1%p
  rw[<- el,Int.emod_eq_of_lt (by decide) p1]
 have q:=e.trans ((CgR.sc o CgR.rfl).trans (CgR.of (Zfp y)))
 have same:∀ {u v:Int},(0<=u/\u<p)->(0<=v/\v<p)->Cg p u v->u=v:=fun hu hv huv=>by
  have:=show _%p=_%p from huv
  rwa [Int.emod_eq_of_lt hu.1 hu.2,Int.emod_eq_of_lt hv.1 hv.2] at this
 exact Prod.ext (same ix.1 iy.1 q.1) (Prod.ext (same ix.2.1 iy.2.1 q.2.1) (same ix.2.2 iy.2.2 q.2.2))
theorem Zfj{p:Int}{a b c:R3}(hp:P4 p)(nz:Zae a b c%p≠0):∃ l t,ZaE p (nine a b c)=some l/\ZgM p l t/\t%p≠0/\GoodR p (fmR p t a) (fmR p t b) (fmR p t c)/\ZaE p (nine (fmR p t a) (fmR p t b) (fmR p t c))=some 1:=by
 have p0:=hp.pos
 obtain⟨l,el⟩:=Zjl nz
 obtain⟨lz,_,_⟩:=Zbw p0 el
 obtain⟨t,t1,t2,t3⟩:=ZdA hp lz
 have tz:t%p≠0:=by rw[Int.emod_eq_of_lt (by omega) t2];omega
 have ff:∀ x,(t*(x%p)%p)%p=t*x%p:=fun x=>by rw[Int.emod_emod_of_dvd _ (Int.dvd_refl p),Int.mul_emod t (x%p) p,Int.emod_emod_of_dvd _ (Int.dvd_refl p),<- Int.mul_emod]
 have lv:=Zb9 hp tz (f:=fun x=>t*(x%p)%p) ff (nine a b c)
 rw[el] at lv
 refine⟨l,t,el,⟨t1,t2,t3⟩,tz,⟨hp,Zle p0 t a,Zle p0 t b,Zle p0 t c,Zso ((ZcS (Zeh p t a) (Zeh p t b) (Zeh p t c)).trans (Cg.of (ZjF t t t a b c))) (ZaL hp (nz3 hp tz tz tz) nz)⟩,?_⟩
 have e:ZaE p ((nine a b c).map fun x=>t*(x%p)%p)=some 1:=by rw[lv,Option.map_some,Int.mul_comm,t3]
 exact e
section
variable {p:Int} {a b c a' b' c' f0 f1 f2 f3 g0 g1 g2 g3 h0 h1 h2 h3:R3}
end
section
variable {Γ:Gam} {ns:List Int} {p:Int}
theorem Zoh(hp:P4 p):GoodR p e0R e1R e2R/\ZaE p (nine e0R e1R e2R)=some 1:=by
 obtain⟨i0,i1,i2,i3⟩:=ZzC hp
 refine⟨⟨hp,i0,i1,i2,(Zxr hp).1⟩,?_⟩
 rcases hp with rfl|rfl|rfl|rfl<;>decide
end
noncomputable def L3(a b c:R3):List D:=[ZaN a,ZaN b,ZaN c]
def Ij(i j:Int):Prop:=(i=0/\j=1)\/(i=0/\j=2)\/(i=1/\j=0)\/(i=1/\j=2)\/(i=2/\j=0)\/(i=2/\j=1)
theorem ZwE{m:Int}{i j:Int}(hi:m%3=i)(hj:(i+1+m / 3%2)%3=j):Ij i j:=by
 have i3:i=0\/i=1\/i=2:=by omega
 have e2:m / 3%2=0\/m / 3%2=1:=by omega
 rcases i3 with z|z|z<;>rcases e2 with e|e<;>rw[z,e] at hj
 ·exact .inl ⟨z,hj.symm⟩
 ·exact .inr (.inl ⟨z,hj.symm⟩)
 ·exact .inr (.inr (.inr (.inl ⟨z,hj.symm⟩)))
 ·exact .inr (.inr (.inl ⟨z,hj.symm⟩))
 ·exact .inr (.inr (.inr (.inr (.inl ⟨z,hj.symm⟩))))
 ·exact .inr (.inr (.inr (.inr (.inr ⟨z,hj.symm⟩))))
theorem ZiO{p t:Int}{a b c:R3}{i j:Int}(h:GoodR p a b c)(ht:0<t/\t<p)(ij:Ij i j):∃ (i' j':Nat) (x y:R3),Zdm (L3 a b c) i=.ok (ZaN x)/\Zdm (L3 a b c) j=.ok (ZaN y)/\plD 3 i=some i'/\plD 3 j=some j' /\
  (∃ a' b' c',GoodR p a' b' c'/\((L3 a b c).set i' (ZaN y)).set j' (ZaN x)=L3 a' b' c')/\(∃ a' b' c',GoodR p a' b' c'/\(L3 a b c).set i' (ZaN (scR p t x))=L3 a' b' c')/\(∃ a' b' c',GoodR p a' b' c'/\(L3 a b c).set i' (ZaN (adR p t x y))=L3 a' b' c'):=by
 have p0:=h.p4.pos
 have tz:t%p≠0:=by rw[Int.emod_eq_of_lt (by omega) ht.2];omega
 rcases ij with ⟨rfl,rfl⟩|⟨rfl,rfl⟩|⟨rfl,rfl⟩|⟨rfl,rfl⟩|⟨rfl,rfl⟩|⟨rfl,rfl⟩
 ·exact⟨0,1,a,b,rfl,rfl,rfl,rfl,⟨b,a,c,h.of (k:=-1) h.p4.m1 (Cg.of (by unfold Zae det;grind)) ⟨h.ib,h.ia,h.ic⟩,rfl⟩,⟨_,_,_,h.of (k:=t) tz (ZyT p t a b c) ⟨ZhP p0 _ _,h.ib,h.ic⟩,rfl⟩,⟨_,_,_,h.of (k:=1) h.p4.o1 (Zxx p t a b c) ⟨Zh3 p0 _ _ _,h.ib,h.ic⟩,rfl⟩⟩
 ·exact⟨0,2,a,c,rfl,rfl,rfl,rfl,⟨c,b,a,h.of (k:=-1) h.p4.m1 (Cg.of (by unfold Zae det;grind)) ⟨h.ic,h.ib,h.ia⟩,rfl⟩,⟨_,_,_,h.of (k:=t) tz (ZyT p t a b c) ⟨ZhP p0 _ _,h.ib,h.ic⟩,rfl⟩,⟨_,_,_,h.of (k:=1) h.p4.o1 (Zxw p t a b c) ⟨Zh3 p0 _ _ _,h.ib,h.ic⟩,rfl⟩⟩
 ·exact⟨1,0,b,a,rfl,rfl,rfl,rfl,⟨b,a,c,h.of (k:=-1) h.p4.m1 (Cg.of (by unfold Zae det;grind)) ⟨h.ib,h.ia,h.ic⟩,rfl⟩,⟨_,_,_,h.of (k:=t) tz (ZyS p t a b c) ⟨h.ia,ZhP p0 _ _,h.ic⟩,rfl⟩,⟨_,_,_,h.of (k:=1) h.p4.o1 (Zxv p t a b c) ⟨h.ia,Zh3 p0 _ _ _,h.ic⟩,rfl⟩⟩
 ·exact⟨1,2,b,c,rfl,rfl,rfl,rfl,⟨a,c,b,h.of (k:=-1) h.p4.m1 (Cg.of (by unfold Zae det;grind)) ⟨h.ia,h.ic,h.ib⟩,rfl⟩,⟨_,_,_,h.of (k:=t) tz (ZyS p t a b c) ⟨h.ia,ZhP p0 _ _,h.ic⟩,rfl⟩,⟨_,_,_,h.of (k:=1) h.p4.o1 (Zxu p t a b c) ⟨h.ia,Zh3 p0 _ _ _,h.ic⟩,rfl⟩⟩
 ·exact⟨2,0,c,a,rfl,rfl,rfl,rfl,⟨c,b,a,h.of (k:=-1) h.p4.m1 (Cg.of (by unfold Zae det;grind)) ⟨h.ic,h.ib,h.ia⟩,rfl⟩,⟨_,_,_,h.of (k:=t) tz (ZyR p t a b c) ⟨h.ia,h.ib,ZhP p0 _ _⟩,rfl⟩,⟨_,_,_,h.of (k:=1) h.p4.o1 (Zxt p t a b c) ⟨h.ia,h.ib,Zh3 p0 _ _ _⟩,rfl⟩⟩
 ·exact⟨2,1,c,b,rfl,rfl,rfl,rfl,⟨a,c,b,h.of (k:=-1) h.p4.m1 (Cg.of (by unfold Zae det;grind)) ⟨h.ia,h.ic,h.ib⟩,rfl⟩,⟨_,_,_,h.of (k:=t) tz (ZyR p t a b c) ⟨h.ia,h.ib,ZhP p0 _ _⟩,rfl⟩,⟨_,_,_,h.of (k:=1) h.p4.o1 (Zxs p t a b c) ⟨h.ia,h.ib,Zh3 p0 _ _ _⟩,rfl⟩⟩
def Zf8(Γ:Gam)(mid:Nat)(ns:List Int):Prop:=∀ k:Int,0<=k->∃ m,0<=m/\Γ.F mid [scr ns,.int k]=.ok (.int m)
noncomputable def ZaU:E:=(.bin .Mod (.bin .Mult (.var 8) (.var 9)) (.var 0))
noncomputable def ZaT:E:=(.bin .Mod (.bin .Add (.var 10) (.bin .Mult (.var 8) (.var 11))) (.var 0))
noncomputable def Zgi(mid:Nat):Ss:=(.cons (.asg 5 false (.bin .FloorDiv (.call mid (.cons (.var 1) (.cons (.var 4) .nil))) (.int 3))) (.cons (.asg 6 false (.bin .Mod (.var 5) (.int 3))) (.cons (.asg 7 false (.bin .Mod (.bin .Add (.bin .Add (.var 6) (.int 1)) (.bin .Mod (.bin .FloorDiv (.var 5) (.int 3)) (.int 2))) (.int 3))) (.cons (.asg 8 false (.bin .Add (.int 1) (.bin .Mod (.bin .FloorDiv (.var 5) (.int 24)) (.bin .Sub (.var 0) (.int 1))))) (.cons (.ife (.cmp .Eq (.bin .Mod (.bin .FloorDiv (.var 5) (.int 6)) (.int 4)) (.int 0)) (.cons (.swp 3 6 7) .nil) (.cons (.ife (.cmp .Eq (.bin .Mod (.bin .FloorDiv (.var 5) (.int 6)) (.int 4)) (.int 1)) (.cons (.put 3 (.var 6) (.comp ZaU 9 (.e (.idx (.var 3) (.var 6))) Zaa)) .nil) (.cons (.put 3 (.var 6) (.compT ZaT [10,11] (.zip (.idx (.var 3) (.var 6)) (.idx (.var 3) (.var 7))) Zaa)) .nil)) .nil)) .nil)))))
noncomputable def Zut(mid:Nat):Df:=⟨12,false,(.cons (.asg 3 true (.lst (.cons (.lst (.cons (.int 1) (.cons (.int 0) (.cons (.int 0) .nil)))) (.cons (.lst (.cons (.int 0) (.cons (.int 1) (.cons (.int 0) .nil)))) (.cons (.lst (.cons (.int 0) (.cons (.int 0) (.cons (.int 1) .nil)))) .nil))))) (.cons (.fors 4 (.e (.bin .Add (.bi .list (.cons (.tupI (.rng2 (.var 2) (.bin .Add (.var 2) (.int 9)))) .nil)) (.bi .list (.cons (.tupI (.rng2 (.int 23) (.bi .min (.cons (.bi .len (.cons (.var 1) .nil)) (.cons (.int 63) .nil))))) .nil)))) (Zgi mid)) (.cons (.ret (.var 3)) .nil)))⟩
section
variable {Γ:Gam} {ns:List Int} {mid:Nat} {p:Int} {a b c:R3} {s2 s4 s5 s6 s7 s8:Sl}
theorem Zqn{L:List D}{k cl i j t:Int}{i' j':Nat}{x y:R3}(hi:Zdm L i=.ok (ZaN x))(hj:Zdm L j=.ok (ZaN y))(pi:plD L.length i=some i')(pj:plD L.length j=some j')(k0:cl / 6%4=0) :
  evSs Γ [si p,sh (scr ns),s2,some (.lst L,true),s4,si cl,si i,si j,si t,none,none,none] ((Zgi mid).drop 4)=.next [si p,sh (scr ns),s2,some (.lst ((L.set i' (ZaN y)).set j' (ZaN x)),true),s4,si cl,si i,si j,si t,none,none,none]:=by
 simp[Zgi,Ss.drop,k0,Zot,Zta,ZcJ,ZdC,ZeK,hi,hj,pi,pj]
theorem Zqo{L:List D}{cl i j t:Int}{i':Nat}{x:R3}(hi:Zdm L i=.ok (ZaN x))(pi:plD L.length i=some i')(p0:0<p)(mt:∀ x,Zbh t x=true)(k0:¬ cl / 6%4=0)(k1:cl / 6%4=1) :
  evSs Γ [si p,sh (scr ns),s2,some (.lst L,true),s4,si cl,si i,si j,si t,none,none,none] ((Zgi mid).drop 4)=.next [si p,sh (scr ns),s2,some (.lst (L.set i' (ZaN (scR p t x))),true),s4,si cl,si i,si j,si t,none,none,none]:=by
 have cp:Zam (cG Γ [si p,sh (scr ns),s2,some (.lst L,true),s4,si cl,si i,si j,si t,none,none,none] 9 Zaa) (cF Γ [si p,sh (scr ns),s2,some (.lst L,true),s4,si cl,si i,si j,si t,none,none,none] 9 ZaU) [.int x.1,.int x.2.1,.int x.2.2]=.ok [.int (x.1*t%p),.int (x.2.1*t%p),.int (x.2.2*t%p)]:=by
  refine ZbY (φ:=fun x=>x*t%p) [x.1,x.2.1,x.2.2] fun x _=>⟨rfl,?_⟩
  simp[cF,ZaU,mt,p0,Int.mul_comm]
 rw[ZaN] at hi
 simp[Zgi,Ss.drop,k1,ZjD,ZcJ,hi,pi,cp]
 rfl
theorem Zqp{L:List D}{cl i j t:Int}{i':Nat}{x y:R3}(hi:Zdm L i=.ok (ZaN x))(hj:Zdm L j=.ok (ZaN y))(pi:plD L.length i=some i')(p0:0<p)(mt:∀ x,Zbh t x=true)(k0:¬ cl / 6%4=0)(k1:¬ cl / 6%4=1) :
  evSs Γ [si p,sh (scr ns),s2,some (.lst L,true),s4,si cl,si i,si j,si t,none,none,none] ((Zgi mid).drop 4)=.next [si p,sh (scr ns),s2,some (.lst (L.set i' (ZaN (adR p t x y))),true),s4,si cl,si i,si j,si t,none,none,none]:=by
 have cp:Zam (cGT Γ [si p,sh (scr ns),s2,some (.lst L,true),s4,si cl,si i,si j,si t,none,none,none] [10,11] Zaa) (cFT Γ [si p,sh (scr ns),s2,some (.lst L,true),s4,si cl,si i,si j,si t,none,none,none] [10,11] ZaT) (Zel [.int x.1,.int x.2.1,.int x.2.2] [.int y.1,.int y.2.1,.int y.2.2])=.ok [.int ((x.1+t*y.1)%p),.int ((x.2.1+t*y.2.1)%p),.int ((x.2.2+t*y.2.2)%p)]:=by
  generalize x.1=x0
  generalize x.2.1=x1
  generalize x.2.2=x2
  generalize y.1=y0
  generalize y.2.1=y1
  generalize y.2.2=y2
  simp[Zam,cGT,cFT,Zel,ZaT,Zaa,p0,mt]
 rw[ZaN] at hi hj
 simp[Zgi,Ss.drop,k0,k1,ZjD,ZcJ,hi,hj,pi,cp]
 rfl
theorem ZkA(hm:Zf8 Γ mid ns)(h:GoodR p a b c){k:Int}(hk:0<=k):∃ a' b' c' v5 v6 v7 v8,GoodR p a' b' c'/\Zeg Γ 4 (Zgi mid) (.int k) [si p,sh (scr ns),s2,some (.lst (L3 a b c),true),s4,s5,s6,s7,s8,none,none,none]=.next [si p,sh (scr ns),s2,some (.lst (L3 a' b' c'),true),si k,v5,v6,v7,v8,none,none,none]:=by
 have p0:=h.p4.pos
 have pl:=h.p4.lo
 have ph:=h.p4.hi
 obtain⟨m,m0,e0⟩:=hm k hk
 generalize hcl:m / 3=cl
 have q1:0<p-1:=by omega
 have q2:1<p:=by omega
 have t0:0<1+cl / 24%(p-1):=by have:=Int.emod_nonneg (cl / 24) (b:=p-1) (by omega);omega
 have t1:1+cl / 24%(p-1)<p:=by have:=Int.emod_lt_of_pos (cl / 24) q1;omega
 generalize ht:1+cl / 24%(p-1)=t at t0 t1
 generalize hi:cl%3=i
 generalize hj:(i+1+cl / 3%2)%3=j
 have ij:=ZwE hi hj
 have hd:evSs Γ [si p,sh (scr ns),s2,some (.lst (L3 a b c),true),si k,s5,s6,s7,s8,none,none,none] ((Zgi mid).take 4)=.next [si p,sh (scr ns),s2,some (.lst (L3 a b c),true),si k,si cl,si i,si j,si t,none,none,none]:=by
  simp[Zgi,Ss.take,e0,hcl,hi,hj,q1,q2,ht]
 have mt:∀ x,Zbh t x=true:=fun x=>Zcj (by omega) (by omega)
 obtain⟨i',j',x,y,gi,gj,pi,pj,⟨a1,b1,c1,g1,f1⟩,⟨a2,b2,c2,g2,f2⟩,⟨a3,b3,c3,g3,f3⟩⟩:=ZiO h ⟨t0,t1⟩ ij
 have pi':plD (L3 a b c).length i=some i':=pi
 have pj':plD (L3 a b c).length j=some j':=pj
 have fin:∀ {o},evSs Γ [si p,sh (scr ns),s2,some (.lst (L3 a b c),true),si k,si cl,si i,si j,si t,none,none,none] ((Zgi mid).drop 4)=o->Zeg Γ 4 (Zgi mid) (.int k) [si p,sh (scr ns),s2,some (.lst (L3 a b c),true),s4,s5,s6,s7,s8,none,none,none]=o:=fun {o} h=>by
  show evSs Γ [si p,sh (scr ns),s2,some (.lst (L3 a b c),true),si k,s5,s6,s7,s8,none,none,none] (Zgi mid)=o
  rw[Zhp Γ 4,hd]
  exact h
 by_cases k0:cl / 6%4=0
 ·refine⟨a1,b1,c1,si cl,si i,si j,si t,g1,fin ?_⟩
  rw[Zqn (k:=0) gi gj pi' pj' k0,f1]
 ·by_cases k1:cl / 6%4=1
  ·refine⟨a2,b2,c2,si cl,si i,si j,si t,g2,fin ?_⟩
   rw[Zqo gi pi' p0 mt k0 k1,f2]
  ·refine⟨a3,b3,c3,si cl,si i,si j,si t,g3,fin ?_⟩
   rw[Zqp gi gj pi' p0 mt k0 k1,f3]
end
theorem Zhe{lo:Int}{n:Nat}{x:D}(h:x∈ZcM lo n):∃ j:Nat,j<n/\x=.int (lo+(j:Int)):=by
 obtain⟨j,hj⟩:=List.getElem?_of_mem h
 exact⟨j,Zhl hj⟩
theorem ZiU{lo hi:Int}(h1:-1000<=lo)(h2:lo<=1000)(h3:-1000<=hi)(h4:hi<=1000):Zaz lo hi=.ok (ZcM lo (hi-lo).toNat):=by
 unfold Zaz
 rw[if_pos (by refine⟨⟨by omega,by omega⟩,⟨by omega,by omega⟩,?_⟩;omega)]
def ZxO(Γ:Gam)(id:Nat)(ns:List Int):Prop:=∀ (p:Int),P4 p->∃ a b c,GoodR p a b c/\Γ.F id [.int p,scr ns,.int 1]=.ok (ZeQ a b c)
theorem ZvQ{Γ:Gam}{ns:List Int}{mid:Nat}(hl:ns.length<=63)(hm:Zf8 Γ mid ns)(p:Int)(hp:P4 p):∃ a b c,GoodR p a b c/\(Zut mid).run Γ [.int p,scr ns,.int 1]=.ok (ZeQ a b c):=by
 have g0:GoodR p e0R e1R e2R:=(Zoh hp).1
 have r1:Zaz 1 10=.ok (ZcM 1 9):=rfl
 generalize hn:(if (63:Int)<(ns.length:Int) then (63:Int) else (ns.length:Int))=n
 have n0:0<=n/\n<=63:=by split at hn<;>omega
 have r2:Zaz 23 n=.ok (ZcM 23 (n-23).toNat):=ZiU (by decide) (by decide) (by omega) (by omega)
 have ad:ZcA .Add (.lst (ZcM 1 9)) (.lst (ZcM 23 (n-23).toNat))=.ok (.lst (ZcM 1 9++ZcM 23 (n-23).toNat)):=by
  rw[Zj8,if_pos]
  rw[ZaS,ZaS]
  unfold Zdo
  simp
  omega
 obtain⟨ρ',e,a,b,c,s4,s5,s6,s7,s8,g,rfl⟩:=Zhn (body:=Zeg Γ 4 (Zgi mid)) (fun ρ=>∃ a b c s4 s5 s6 s7 s8,GoodR p a b c/\ρ=[si p,sh (scr ns),si 1,some (.lst (L3 a b c),true),s4,s5,s6,s7,s8,none,none,none]) (ZcM 1 9++ZcM 23 (n-23).toNat) [si p,sh (scr ns),si 1,some (.lst (L3 e0R e1R e2R),true),none,none,none,none,none,none,none,none] ⟨_,_,_,_,_,_,_,_,g0,rfl⟩ (by
  rintro x hx ρ ⟨a,b,c,s4,s5,s6,s7,s8,g,rfl⟩
  have hk:∃ k:Int,0<=k/\x=.int k:=by
   rcases List.mem_append.mp hx with z|z
   ·obtain⟨j,_,rfl⟩:=Zhe z
    exact⟨_,by omega,rfl⟩
   ·obtain⟨j,_,rfl⟩:=Zhe z
    exact⟨_,by omega,rfl⟩
  obtain⟨k,k0,rfl⟩:=hk
  obtain⟨a',b',c',v5,v6,v7,v8,g',e⟩:=ZkA (s2:=si 1) (s4:=s4) (s5:=s5) (s6:=s6) (s7:=s7) (s8:=s8) hm g k0
  exact⟨_,e,a',b',c',_,_,_,_,_,g',rfl⟩)
 refine⟨a,b,c,g,?_⟩
 have ln:biD .len [scr ns]=.ok (.int ns.length):=by simp[scr]
 have mn:biD .min [.int (ns.length:Int),.int 63]=.ok (.int n):=by rw[<- hn];rfl
 have sq:ZaF (.lst (ZcM 1 9++ZcM 23 (n-23).toNat))=.ok (ZcM 1 9++ZcM 23 (n-23).toNat):=rfl
 have e':Zea (Zeg Γ 4 (Zgi mid)) (ZcM 1 9++ZcM 23 (n-23).toNat) [si p,sh (scr ns),si 1,some (.lst [.lst [.int 1,.int 0,.int 0],.lst [.int 0,.int 1,.int 0],.lst [.int 0,.int 0,.int 1]],true),none,none,none,none,none,none,none,none]=_:=e
 generalize ZcM 1 9=A at *
 generalize ZcM 23 (n-23).toNat=B at *
 generalize scr ns=S at *
 simp[Zut,Df.run,Zac,Zfd,ln,mn,r1,r2,ad,sq,e']
 rfl
theorem ZjJ{g:D->R Bool}{f:D->R D}{q:Int->Bool}{φ:Int->Int}:∀ (xs:List Int),(∀ x∈xs,g (.int x)=.ok (q x)/\f (.int x)=.ok (.int (φ x)))->Zam g f (ds xs)=.ok (ds ((xs.filter q).map φ))
 | [],_=>rfl
 | x::xs,h=>by
  obtain⟨h1,h2⟩:=h x (List.mem_cons_self ..)
  have ih:=ZjJ xs fun y hy=>h y (List.mem_cons_of_mem _ hy)
  show (g (.int x)).bind _=_
  rw[h1,R.bind_ok,List.filter_cons]
  cases hq:q x with
  | true =>
   rw[if_pos rfl,if_pos rfl,h2,R.bind_ok,show Zam g f (List.map D.int xs)=_ from ih]
   rfl
  | false =>
   rw[if_neg (by decide),if_neg (by decide)]
   exact ih
theorem ZfA{p:Int}:∀ xs:List Int,((xs.filter fun x=>decide (x%p≠0)).map fun x=>x%p).head?=ZaE p xs
 | []=>rfl
 | x::xs=>by
  unfold ZaE
  rw[List.filter_cons]
  by_cases h:x%p=0
  ·rw[if_neg (by simp[h]),if_pos h]
   exact ZfA xs
  ·rw[if_pos (by simp[h]),if_neg h]
   rfl
noncomputable def Za1:E:=(.cmp .NotEq (.bin .Mod (.var 4) (.var 0)) (.int 0))
noncomputable def Za4:E:=(.bin .Mod (.var 4) (.var 0))
noncomputable def Za0:E:=(.cmp .Eq (.bin .Mod (.bin .Mult (.var 5) (.var 2)) (.var 0)) (.int 1))
noncomputable def Za3:E:=(.var 5)
noncomputable def Za2:E:=(.bin .Mod (.bin .Mult (.var 6) (.var 3)) (.var 0))
noncomputable def ZbM:Df:=⟨7,false,(.cons (.asg 2 false (.idx (.comp Za4 4 (.e (.var 1)) Za1) (.int 0))) (.cons (.asg 3 false (.idx (.comp Za3 5 (.rng2 (.int 1) (.var 0)) Za0) (.int 0))) (.cons (.ret (.bi .tuple (.cons (.comp Za2 6 (.e (.var 1)) Zaa) .nil))) .nil)))⟩
def Zke(Γ:Gam):Prop:=∀ (p:Int) (b:Bool) (xs:List Int) (l t:Int),P4 p->ZaE p xs=some l->ZgM p l t->Γ.F 158 [.int p,ZcI b xs]=.ok (.tup (ds (fmI p t xs)))
theorem Zns(Γ:Gam){p:Int}{b:Bool}{xs:List Int}{l t:Int}(hp:P4 p)(e:ZaE p xs=some l)(it:ZgM p l t):ZbM.run Γ [.int p,ZcI b xs]=.ok (.tup (ds (fmI p t xs))):=by
 have p0:=hp.pos
 have ph:=hp.hi
 have c1:Zam (cG Γ [si p,sh (ZcI b xs),none,none,none,none,none] 4 Za1) (cF Γ [si p,sh (ZcI b xs),none,none,none,none,none] 4 Za4) (ds xs)=.ok (ds ((xs.filter fun x=>decide (x%p≠0)).map fun x=>x%p)):=by
  refine ZjJ xs fun x _=>⟨?_,?_⟩
  ·simp[cG,Za1,p0]
   rw[Bool.eq_iff_iff]
   simp
  ·simp[cF,Za4,p0]
 have hl:=ZfA (p:=p) xs
 rw[e] at hl
 generalize ((xs.filter fun x=>decide (x%p≠0)).map fun x=>x%p)=ls at c1 hl
 have g0:=ZfK hl
 obtain⟨_,l0,l1⟩:=Zbw p0 e
 have c3:Zam (cG Γ [si p,sh (ZcI b xs),si l,none,none,none,none] 5 Za0) (cF Γ [si p,sh (ZcI b xs),si l,none,none,none,none] 5 Za3) (ds (ZgT p))=.ok (ds ((ZgT p).filter fun k=>decide (k*l%p=1))):=by
  refine ZdQ (ZgT p) fun x hx=>⟨?_,?_⟩
  ·obtain⟨x1,x2⟩:=Zb6.mp hx
   have m:Zbh x l=true:=Zcj (by omega) (by omega)
   simp[cG,Za0,m,p0]
   rw[Bool.eq_iff_iff]
   simp
  ·simp[cF,Za3]
 have g1:=ZfK (ZhZ it)
 have c4:Zam (cG Γ [si p,sh (ZcI b xs),si l,si t,none,none,none] 6 Zaa) (cF Γ [si p,sh (ZcI b xs),si l,si t,none,none,none] 6 Za2) (ds xs)=.ok (ds (xs.map fun x=>x*t%p)):=by
  refine ZbY xs fun x _=>⟨rfl,?_⟩
  have m:Zbh x t=true:=Zgs (by have:=it.1;omega) (by have:=it.2.1;omega)
  simp[cF,Za2,m,p0]
 have ru:Zaz 1 p=.ok (ds (ZgT p)):=Zg5 hp
 have fe:fmI p t xs=xs.map fun x=>x*t%p:=by
  unfold fmI
  refine List.map_congr_left fun x _=>?_
  rw[Int.mul_comm x t,Int.mul_emod t (x%p) p,Int.emod_emod_of_dvd _ (Int.dvd_refl p),<- Int.mul_emod]
 simp[ZbM,Df.run,Zac,ZeC,c1,g0,ru,c3,g1,c4,fe]
noncomputable def Zbe:Df:=⟨3,false,(.cons (.asg 2 false (.bin .Mod (.var 1) (.bin .Add (.bin .Add (.bin .Mult (.var 0) (.var 0)) (.var 0)) (.int 1)))) (.cons (.ife (.cmp .Eq (.var 2) (.int 0)) (.cons (.ret (.tup (.cons (.int 0) (.cons (.int 0) (.cons (.int 1) .nil))))) .nil) .nil) (.cons (.ife (.cmp .LtE (.var 2) (.var 0)) (.cons (.ret (.tup (.cons (.int 0) (.cons (.int 1) (.cons (.bin .Sub (.var 2) (.int 1)) .nil))))) .nil) .nil) (.cons (.ret (.tup (.cons (.int 1) (.cons (.bin .FloorDiv (.bin .Sub (.bin .Sub (.var 2) (.var 0)) (.int 1)) (.var 0)) (.cons (.bin .Mod (.bin .Sub (.bin .Sub (.var 2) (.var 0)) (.int 1)) (.var 0)) .nil))))) .nil))))⟩
def Zo8(Γ:Gam):Prop:=∀ (p n:Int),P4 p->∃ x:R3,In3 p x/\ZaE p (tri x)=some 1/\Γ.F 157 [.int p,.int n]=.ok (Zad true x)
theorem Zl7{p:Int}(h:1<p):ZaE p [0,0,1]=some 1:=by
 simp[ZaE,Int.emod_eq_of_lt (by decide:(0:Int)<=1) h]
theorem Zrw{p:Int}(h:1<p)(z:Int):ZaE p [0,1,z]=some 1:=by
 simp[ZaE,Int.emod_eq_of_lt (by decide:(0:Int)<=1) h]
theorem Zys{p:Int}(h:1<p)(y z:Int):ZaE p [1,y,z]=some 1:=by
 simp[ZaE,Int.emod_eq_of_lt (by decide:(0:Int)<=1) h]
theorem Znp(Γ:Gam)(p n:Int)(hp:P4 p):∃ x:R3,In3 p x/\ZaE p (tri x)=some 1/\Zbe.run Γ [.int p,.int n]=.ok (Zad true x):=by
 have p1:1<p:=by have:=hp.lo;omega
 have pp:Zbh p p=true:=Zcj (by have:=hp.lo;omega) (by have:=hp.hi;omega)
 have p0:=hp.pos
 have ph:=hp.hi
 have N0:0<p*p+p+1:=by have:=Int.mul_pos p0 p0;omega
 have r0:=Int.emod_nonneg n (b:=p*p+p+1) (by omega)
 have r1:=Int.emod_lt_of_pos n N0
 have r1':n%(p*p+p+1)-p-1<p*p:=by omega
 generalize hr:n%(p*p+p+1)=r at r0 r1 r1'
 by_cases h0:r=0
 ·refine⟨(0,0,1),⟨⟨by decide,p0⟩,⟨by decide,p0⟩,⟨by decide,p1⟩⟩,Zl7 p1,?_⟩
  simp[Zbe,Df.run,Zac,pp,N0,hr,h0]
  rfl
 ·by_cases h1:r<=p
  ·refine⟨(0,1,r-1),⟨⟨Int.le_refl 0,p0⟩,⟨(by decide:(0:Int)<=1),p1⟩,⟨by show 0<=r-1;omega,by show r-1<p;omega⟩⟩,Zrw p1 _,?_⟩
   simp[Zbe,Df.run,Zac,pp,N0,hr,h0,h1]
   rfl
  ·have d0:0<=(r-p-1) / p:=Int.ediv_nonneg (by omega) (by omega)
   have d1:(r-p-1) / p<p:=by rw[Int.ediv_lt_iff_lt_mul p0];exact r1'
   refine⟨(1,(r-p-1) / p,(r-p-1)%p),⟨⟨(by decide:(0:Int)<=1),p1⟩,⟨d0,d1⟩,⟨Int.emod_nonneg _ (by omega),Int.emod_lt_of_pos _ p0⟩⟩,Zys p1 _ _,?_⟩
   have pb:p<1073741824:=by omega
   simp[Zbe,Df.run,Zac,pp,N0,hr,h0,h1,p0,pb]
   rfl
noncomputable def ZaJ:E:=(.bin .Mult (.idx (.var 0) (.var 5)) (.idx (.var 1) (.var 5)))
noncomputable def Zbd:Ss:=(.cons (.app 2 (.bin .Add (.bin .Mult (.idx (.var 0) (.var 3)) (.idx (.var 1) (.var 4))) (.bin .Mult (.idx (.var 0) (.var 4)) (.idx (.var 1) (.var 3))))) .nil)
noncomputable def ZaZ:Df:=⟨6,false,(.cons (.asg 2 true (.comp ZaJ 5 (.rng (.int 3)) Zaa)) (.cons (.forT [3,4] (.e (.lst (.cons (.tup (.cons (.int 0) (.cons (.int 1) .nil))) (.cons (.tup (.cons (.int 0) (.cons (.int 2) .nil))) (.cons (.tup (.cons (.int 1) (.cons (.int 2) .nil))) .nil))))) Zbd) (.cons (.ret (.var 2)) .nil)))⟩
noncomputable def prd(a b:R3):C6:=⟨a.1*b.1,a.2.1*b.2.1,a.2.2*b.2.2,a.1*b.2.1+a.2.1*b.1,a.1*b.2.2+a.2.2*b.1,a.2.1*b.2.2+a.2.2*b.2.1⟩
def ZsQ(Γ:Gam):Prop:=∀ (p:Int) (a b:R3),P4 p->In3 p a->In3 p b->Γ.F 160 [ZaN a,ZaN b]=.ok (.lst (ds (prd a b).l))
theorem ZqD(Γ:Gam)(p:Int)(a b:R3)(hp:P4 p)(ha:In3 p a)(hb:In3 p b):ZaZ.run Γ [ZaN a,ZaN b]=.ok (.lst (ds (prd a b).l)):=by
 have ba:=Zef hp ha
 have bb:=Zef hp hb
 have k:∀ {u v},Bd 10 u->Bd 10 v->ZcB u v=true:=fun hu hv=>Zc4 hu hv (by decide) (by decide)
 obtain⟨a0,a1,a2⟩:=a
 obtain⟨b0,b1,b2⟩:=b
 have i0:Zcq (ZaN (a0,a1,a2)) (.int 0)=.ok (.int a0):=rfl
 have i1:Zcq (ZaN (a0,a1,a2)) (.int 1)=.ok (.int a1):=rfl
 have i2:Zcq (ZaN (a0,a1,a2)) (.int 2)=.ok (.int a2):=rfl
 have j0:Zcq (ZaN (b0,b1,b2)) (.int 0)=.ok (.int b0):=rfl
 have j1:Zcq (ZaN (b0,b1,b2)) (.int 1)=.ok (.int b1):=rfl
 have j2:Zcq (ZaN (b0,b1,b2)) (.int 2)=.ok (.int b2):=rfl
 have rg:Zaz 0 3=.ok [.int 0,.int 1,.int 2]:=rfl
 have c1:Zam (cG Γ [sh (ZaN (a0,a1,a2)),sh (ZaN (b0,b1,b2)),none,none,none,none] 5 Zaa) (cF Γ [sh (ZaN (a0,a1,a2)),sh (ZaN (b0,b1,b2)),none,none,none,none] 5 ZaJ) [.int 0,.int 1,.int 2]=.ok [.int (a0*b0),.int (a1*b1),.int (a2*b2)]:=by
  simp[Zam,cG,cF,Zaa,ZaJ,i0,i1,i2,j0,j1,j2,k ba.1 bb.1,k ba.2.1 bb.2.1,k ba.2.2 bb.2.2]
 simp[ZaZ,Zbd,Df.run,Zac,Zfd,rg,c1,Zea,Zoo,ZcJ,i0,i1,i2,j0,j1,j2,k ba.1 bb.2.1,k ba.2.1 bb.1,k ba.1 bb.2.2,k ba.2.2 bb.1,k ba.2.1 bb.2.2,k ba.2.2 bb.2.1,Zdo]
 rfl
noncomputable def ZcZ:E:=(.bin .Mod (.bin .Mult (.var 9) (.var 9)) (.var 0))
noncomputable def Zbz:E:=(.cmp .NotIn (.var 8) (.comp ZcZ 9 (.rng (.var 0)) Zaa))
noncomputable def ZbB:E:=(.var 8)
noncomputable def ZaG:E:=(.bin .Sub (.var 10) (.bin .Mult (.var 7) (.var 11)))
noncomputable def ZbA:E:=(.bin .Sub (.var 12) (.var 13))
noncomputable def ZaB:Df:=⟨14,false,(.cons (.asgT [3,4,5] (.var 1)) (.cons (.ife (.cmp .Eq (.var 2) (.int 1)) (.cons (.ret (.call 158 (.cons (.var 0) (.cons (.call 160 (.cons (.var 3) (.cons (.var 3) .nil))) .nil)))) .nil) .nil) (.cons (.ife (.cmp .Eq (.var 2) (.int 2)) (.cons (.ret (.call 158 (.cons (.var 0) (.cons (.call 160 (.cons (.var 3) (.cons (.var 4) .nil))) .nil)))) .nil) .nil) (.cons (.asg 6 false (.call 160 (.cons (.var 4) (.cons (.var 4) .nil)))) (.cons (.ife (.cmp .Eq (.var 2) (.int 3)) (.cons (.asg 7 false (.bi .min (.cons (.comp ZbB 8 (.rng2 (.int 2) (.var 0)) Zbz) .nil))) (.cons (.ret (.call 158 (.cons (.var 0) (.cons (.compT ZaG [10,11] (.zip (.call 160 (.cons (.var 3) (.cons (.var 3) .nil))) (.var 6)) Zaa) .nil)))) .nil)) .nil) (.cons (.ret (.call 158 (.cons (.var 0) (.cons (.compT ZbA [12,13] (.zip (.call 160 (.cons (.var 3) (.cons (.var 5) .nil))) (.var 6)) Zaa) .nil)))) .nil))))))⟩
noncomputable def Ziu(C D:C6):C6:=⟨C.c0-D.c0,C.c1-D.c1,C.c2-D.c2,C.c3-D.c3,C.c4-D.c4,C.c5-D.c5⟩
theorem ZjG(a b c:R3):Zae (tw0 (Ziu (prd a c) (prd b b))) (tw1 (Ziu (prd a c) (prd b b))) (tw2 (Ziu (prd a c) (prd b b)))=2*(Zae a b c*Zae a b c):=by
 unfold tw0 tw1 tw2 Ziu prd Zae det
 simp only
 grind
theorem P4.two{p:Int}(h:P4 p):(2:Int)%p≠0:=by rcases h with rfl|rfl|rfl|rfl<;>decide
noncomputable def Zo0:Df:=⟨3,false,(.cons (.ret (.call 17 (.cons (.var 0) (.cons (.call 91 (.cons (.var 0) (.cons (.var 1) (.cons (.var 2) .nil)))) .nil)))) .nil)⟩
theorem Zg4{p l:Int}{r:R3}(hp:P4 p)(el:ZaE p (tri r)=some l):∃ u,ZgM p l u/\In3 p (fmR p u r)/\ZaE p (tri (fmR p u r))=some 1/\Pr p (fmR p u r) r/\fmI p u (tri r)=tri (fmR p u r):=by
 have p0:=hp.pos
 obtain⟨lz,_,_⟩:=Zbw p0 el
 obtain⟨t,t1,t2,t3⟩:=ZdA hp lz
 have tz:t%p≠0:=by rw[Int.emod_eq_of_lt (by omega) t2];omega
 have ff:∀ x,(t*(x%p)%p)%p=t*x%p:=fun x=>by rw[Int.emod_emod_of_dvd _ (Int.dvd_refl p),Int.mul_emod t (x%p) p,Int.emod_emod_of_dvd _ (Int.dvd_refl p),<- Int.mul_emod]
 have lv:=Zb9 hp tz (f:=fun x=>t*(x%p)%p) ff (tri r)
 rw[el,Option.map_some,Int.mul_comm,t3] at lv
 exact⟨t,⟨t1,t2,t3⟩,Zle p0 t r,lv,⟨t,tz,Zeh p t r⟩,rfl⟩
theorem Zks{p:Int}{g:R3}(h:ZaE p (tri g)=none):CgR p g (0,0,0):=by
 have hz:=ZbV.mp h
 have k:∀ x∈tri g,Cg p x 0:=fun x hx=>by show x%p=0%p;rw[hz x hx,Int.zero_emod]
 exact⟨k _ (by simp[tri]),k _ (by simp[tri]),k _ (by simp[tri])⟩
theorem Zg3{p:Int}{g:R3}(h:CgR p g (0,0,0)):ZaE p (tri g)=none:=by
 refine ZbV.mpr fun x hx=>?_
 have k:∀ {x:Int},Cg p x 0->x%p=0:=fun {x} h=>by rw[show x%p=_ from h,Int.zero_emod]
 simp only[tri,List.mem_cons,List.not_mem_nil,or_false] at hx
 rcases hx with rfl|rfl|rfl
 ·exact k h.1
 ·exact k h.2.1
 ·exact k h.2.2
theorem ZgG{p l:Int}{a b c f g:R3}(hp:P4 p)(z:Zae a b c%p≠0)(lf:ZaE p (tri f)=some l)(h:CgR p g (ap a b c f)):∃ l,ZaE p (tri g)=some l:=by
 cases el:ZaE p (tri g) with
 | some l=>exact⟨l,rfl⟩
 | none =>
  have q0:CgR p (ap a b c f) (0,0,0):=h.symm.trans (Zks el)
  have q1:CgR p (ZaI (Zae a b c) f) (0,0,0):=by
   have:=Zo4 (CgR.rfl (a:=bk0 a b c)) (CgR.rfl (a:=bk1 a b c)) (CgR.rfl (a:=bk2 a b c)) q0
   rw[ZsI] at this
   refine this.trans (CgR.of ?_)
   unfold ap ZaP
   simp
  obtain⟨u,uz,o⟩:=Zmd hp z
  have q2:CgR p f (0,0,0):=by
   have w:=CgR.sc (k:=u) (k':=u) Cg.rfl q1
   rw[Znb] at w
   refine((CgR.of (Zfp f).symm).trans (CgR.sc o.symm CgR.rfl)).trans (w.trans (CgR.of ?_))
   unfold ZaI
   simp
  rw[Zg3 q2] at lf
  cases lf
def Zkd(Γ:Gam):Prop:=∀ (p:Int) (a b c f:R3),GoodR p a b c->In3 p f->ZaE p (tri f)=some 1->∃ g,In3 p g/\ZaE p (tri g)=some 1/\Pr p g (ap a b c f)/\Γ.F 92 [.int p,Zdc a b c,Zad true f]=.ok (Zad true g)
theorem ZqK{Γ:Gam}(hs:Zmw Γ)(hf:ZgI Γ)(p:Int)(a b c f:R3)(g:GoodR p a b c)(i0:In3 p f)(lf:ZaE p (tri f)=some 1):∃ g,In3 p g/\ZaE p (tri g)=some 1/\Pr p g (ap a b c f)/\Zo0.run Γ [.int p,Zdc a b c,Zad true f]=.ok (Zad true g):=by
 have hp:=g.p4
 have e1:Γ.F 91 [.int p,Zdc a b c,Zad true f]=_:=hs p true true true a b c f hp.pos ((Zef hp g.ia).b3 (by decide)) ((Zef hp g.ib).b3 (by decide)) ((Zef hp g.ic).b3 (by decide)) ((Zef hp i0).b3 (by decide))
 have cg:CgR p (ZaP a f%p,ZaP b f%p,ZaP c f%p) (ap a b c f):=⟨Cg.md rfl,Cg.md rfl,Cg.md rfl⟩
 obtain⟨l,el⟩:=ZgG hp g.nz lf cg
 obtain⟨u,iu,j,l1,pr,ef⟩:=Zg4 hp el
 have e2:=hf p true _ l u hp el iu
 rw[ef] at e2
 generalize (ZaP a f%p,ZaP b f%p,ZaP c f%p)=w at *
 have e2':Γ.F 17 [.int p,Zad true w]=.ok (Zad true (fmR p u w)):=e2
 refine⟨fmR p u w,j,l1,pr.trans hp (Pr.cg hp cg),?_⟩
 simp[Zo0,Df.run,Zac,e1,e2']
def Zhy(Γ:Gam):Prop:=∀ (p:Int) (C:C6),P4 p->InC p C->Zae (tw0 C) (tw1 C) (tw2 C)%p≠0->Γ.F 136 [.int p,ZaD C]=.ok (.bl true)
theorem ZkS{Γ:Gam}(ht:Zfa Γ)(hm:Zfb Γ)(p:Int)(C:C6)(hp:P4 p)(iC:InC p C)(z:Zae (tw0 C) (tw1 C) (tw2 C)%p≠0):ZbC.run Γ [.int p,ZaD C]=.ok (.bl true):=by
 obtain⟨h0,h1,h2⟩:=Zuv hp iC
 have e1:=ht p C hp
 have e2:=hm p true (t0 p C) (t1 p C) (t2 p C) hp.pos ((Zef hp h0).b3 (by decide)) ((Zef hp h1).b3 (by decide)) ((Zef hp h2).b3 (by decide))
 have td:Zae (t0 p C) (t1 p C) (t2 p C)%p=Zae (tw0 C) (tw1 C) (tw2 C)%p:=let ⟨h0,h1,h2⟩:=Zuw p C;ZcS h0 h1 h2
 rw[td] at e2
 have k0:Zcq (Zdc (t0 p C) (t1 p C) (t2 p C)) (.int 0)=.ok (Zad true (t0 p C)):=rfl
 have k1:Zcq (Zdc (t0 p C) (t1 p C) (t2 p C)) (.int 1)=.ok (Zad true (t1 p C)):=rfl
 have k2:Zcq (Zdc (t0 p C) (t1 p C) (t2 p C)) (.int 2)=.ok (Zad true (t2 p C)):=rfl
 generalize Zae (tw0 C) (tw1 C) (tw2 C)%p=d at *
 simp[ZbC,Df.run,Zac,e1,e2,k0,k1,k2,z]
noncomputable def Zbf:Df:=⟨2,false,(.cons (.ife (.no (.call 136 (.cons (.var 0) (.cons (.var 1) .nil)))) (.cons (.rais 14 (.cons (.str (Str.ofString "the curve is not whole")) .nil)) .nil) .nil) .nil)⟩
noncomputable def ZaQ:Df:=⟨2,false,(.cons (.expr (.call 147 (.cons (.var 0) (.cons (.var 1) .nil)))) (.cons (.ret (.call 78 (.cons (.var 0) (.cons (.call 131 (.cons (.var 0) (.cons (.var 1) .nil))) .nil)))) .nil))⟩
noncomputable def ZdY:Df:=⟨3,false,(.cons (.ret (.call 92 (.cons (.var 0) (.cons (.call 148 (.cons (.var 0) (.cons (.var 1) .nil))) (.cons (.var 2) .nil))))) .nil)⟩
noncomputable def ZfZ:Df:=⟨3,false,(.cons (.ret (.call 92 (.cons (.var 0) (.cons (.call 106 (.cons (.var 0) (.cons (.call 148 (.cons (.var 0) (.cons (.var 1) .nil))) .nil))) (.cons (.var 2) .nil))))) .nil)⟩
def Zkg(Γ:Gam):Prop:=∀ (p:Int) (C:C6),P4 p->InC p C->Zae (tw0 C) (tw1 C) (tw2 C)%p≠0->Γ.F 147 [.int p,ZaD C]=.ok .non
theorem ZqN{Γ:Gam}(h:Zhy Γ)(p:Int)(C:C6)(hp:P4 p)(iC:InC p C)(z:Zae (tw0 C) (tw1 C) (tw2 C)%p≠0):Zbf.run Γ [.int p,ZaD C]=.ok .non:=by
 have e:=h p C hp iC z
 simp[Zbf,Df.run,Zac,e]
def ZyZ(p:Int)(C:C6)(a b c:R3):Prop:=GoodR p a b c/\∃ k,k%p≠0/\CgR p a (ZaI k (tw0 C))/\CgR p b (ZaI k (tw1 C))/\CgR p c (ZaI k (tw2 C))
def Zkb(Γ:Gam):Prop:=∀ (p:Int) (C:C6),P4 p->InC p C->Zae (tw0 C) (tw1 C) (tw2 C)%p≠0->∃ a b c,ZyZ p C a b c/\Γ.F 148 [.int p,ZaD C]=.ok (Zdc a b c)
theorem ZqB{Γ:Gam}(hw:Zkg Γ)(ht:Zfa Γ)(hf:Zka Γ)(p:Int)(C:C6)(hp:P4 p)(iC:InC p C)(z:Zae (tw0 C) (tw1 C) (tw2 C)%p≠0):∃ a b c,ZyZ p C a b c/\ZaQ.run Γ [.int p,ZaD C]=.ok (Zdc a b c):=by
 obtain⟨i0,i1,i2⟩:=Zuv hp iC
 obtain⟨h0,h1,h2⟩:=Zuw p C
 have zt:Zae (t0 p C) (t1 p C) (t2 p C)%p≠0:=Zso (ZcS h0 h1 h2) z
 obtain⟨l,t,el,it,tz,gd,_⟩:=Zfj hp zt
 have e1:=hw p C hp iC z
 have e2:=ht p C hp
 have e3:Γ.F 78 [.int p,Zdc (t0 p C) (t1 p C) (t2 p C)]=_:=hf p true true _ _ _ hp ((Zef hp i0).b3 (by decide)) ((Zef hp i1).b3 (by decide)) ((Zef hp i2).b3 (by decide)) zt l t el it
 refine⟨_,_,_,⟨gd,t,tz,(Zeh p t _).trans (CgR.sc Cg.rfl h0),(Zeh p t _).trans (CgR.sc Cg.rfl h1),(Zeh p t _).trans (CgR.sc Cg.rfl h2)⟩,?_⟩
 generalize Zdc (fmR p t (t0 p C)) (fmR p t (t1 p C)) (fmR p t (t2 p C))=T at *
 simp[ZaQ,Df.run,Zac,e1,e2,e3]
def Zo7(Γ:Gam):Prop:=∀ (p:Int) (C:C6) (x:R3),P4 p->InC p C->Zae (tw0 C) (tw1 C) (tw2 C)%p≠0->In3 p x->ZaE p (tri x)=some 1->∃ y,In3 p y/\ZaE p (tri y)=some 1/\Pr p y (ap (tw0 C) (tw1 C) (tw2 C) x)/\Γ.F 180 [.int p,ZaD C,Zad true x]=.ok (Zad true y)
theorem Zno{Γ:Gam}(hq:Zkb Γ)(hl:Zkd Γ)(p:Int)(C:C6)(x:R3)(hp:P4 p)(iC:InC p C)(z:Zae (tw0 C) (tw1 C) (tw2 C)%p≠0)(ix:In3 p x)(lx:ZaE p (tri x)=some 1):∃ y,In3 p y/\ZaE p (tri y)=some 1/\Pr p y (ap (tw0 C) (tw1 C) (tw2 C) x)/\ZdY.run Γ [.int p,ZaD C,Zad true x]=.ok (Zad true y):=by
 obtain⟨a,b,c,⟨gd,k,kz,h0,h1,h2⟩,e1⟩:=hq p C hp iC z
 obtain⟨y,j,l1,pr,e2⟩:=hl p a b c x gd ix lx
 refine⟨y,j,l1,pr.trans hp (Pr.tab kz h0 h1 h2),?_⟩
 simp[ZdY,Df.run,Zac,e1,e2]
def ZsR(Γ:Gam):Prop:=∀ (p:Int) (C:C6) (x:R3),P4 p->InC p C->Zae (tw0 C) (tw1 C) (tw2 C)%p≠0->In3 p x->ZaE p (tri x)=some 1->∃ y,In3 p y/\ZaE p (tri y)=some 1/\Pr p y (ap (bk0 (tw0 C) (tw1 C) (tw2 C)) (bk1 (tw0 C) (tw1 C) (tw2 C)) (bk2 (tw0 C) (tw1 C) (tw2 C)) x)/\Γ.F 149 [.int p,ZaD C,Zad true x]=.ok (Zad true y)
theorem ZqE{Γ:Gam}(hq:Zkb Γ)(hb:ZmB Γ)(hl:Zkd Γ)(p:Int)(C:C6)(x:R3)(hp:P4 p)(iC:InC p C)(z:Zae (tw0 C) (tw1 C) (tw2 C)%p≠0)(ix:In3 p x)(lx:ZaE p (tri x)=some 1):∃ y,In3 p y/\ZaE p (tri y)=some 1/\Pr p y (ap (bk0 (tw0 C) (tw1 C) (tw2 C)) (bk1 (tw0 C) (tw1 C) (tw2 C)) (bk2 (tw0 C) (tw1 C) (tw2 C)) x)/\ZfZ.run Γ [.int p,ZaD C,Zad true x]=.ok (Zad true y):=by
 obtain⟨a,b,c,⟨gd,k,kz,h0,h1,h2⟩,e1⟩:=hq p C hp iC z
 have zB:Zae (bk0 a b c) (bk1 a b c) (bk2 a b c)%p≠0:=by rw[Zhw];exact ZaL hp gd.nz gd.nz
 obtain⟨l,t,el,it,tz,gB,_⟩:=Zfj hp zB
 have e2:=hb p a b c hp gd.ia gd.ib gd.ic gd.nz l t el it
 obtain⟨y,j,l1,pr,e3⟩:=hl p _ _ _ x gB ix lx
 obtain⟨b0,b1,b2⟩:=ZxD h0 h1 h2
 obtain⟨s0,s1,s2⟩:=ZxC k (tw0 C) (tw1 C) (tw2 C)
 rw[s0] at b0
 rw[s1] at b1
 rw[s2] at b2
 refine⟨y,j,l1,(pr.trans hp (Pr.tab tz (Zeh p t _) (Zeh p t _) (Zeh p t _))).trans hp (Pr.tab (ZaL hp kz kz) b0 b1 b2),?_⟩
 generalize Zdc (fmR p t (bk0 a b c)) (fmR p t (bk1 a b c)) (fmR p t (bk2 a b c))=TB at *
 simp[ZfZ,Df.run,Zac,e1,e2,e3]
theorem ZsH(a b c v:R3):ap a b c (ap (bk0 a b c) (bk1 a b c) (bk2 a b c) v)=ZaI (Zae a b c) v:=by
 unfold ap ZaI ZaP bk0 bk1 bk2 Zgc Zgb Zga crs Zae det
 refine Prod.ext ?_ (Prod.ext ?_ ?_)<;>(simp only;grind)
noncomputable def ZaW:Df:=⟨3,false,(.cons (.asg 2 false (.int 0)) (.cons (.ife (.cmp .Lt (.var 1) (.bi .len (.cons (.var 0) .nil))) (.cons (.asg 2 false (.idx (.var 0) (.var 1))) .nil) .nil) (.cons (.ret (.bin .Mod (.bin .Mult (.bin .Add (.bin .Add (.bin .Mod (.var 2) (.int 1000003)) (.bin .Mult (.int 7919) (.var 1))) (.int 11)) (.int 48271)) (.int 1000033))) .nil)))⟩
theorem ZqH(Γ:Gam)(ns:List Int)(k:Int)(h0:0<=k):∃ m,0<=m/\ZaW.run Γ [scr ns,.int k]=.ok (.int m):=by
 have m1:Zbh 7919 k=true:=Zcj (by decide) (by decide)
 have m2:∀ x,Zbh x 48271=true:=fun x=>Zgs (by decide) (by decide)
 by_cases h1:k<ns.length
 ·have g:=Zom h0 h1
  generalize ns.getD k.toNat 0=x at g
  refine⟨(x%1000003+7919*k+11)*48271%1000033,Int.emod_nonneg _ (by decide),?_⟩
  simp[ZaW,Df.run,Zac,h1,g,m1,m2]
 ·refine⟨(0%1000003+7919*k+11)*48271%1000033,Int.emod_nonneg _ (by decide),?_⟩
  simp[ZaW,Df.run,Zac,h1,m1,m2]
noncomputable def Zv1(mid:Nat):Df:=⟨1,false,(.cons (.ret (.idx (.lst (.cons (.int 3) (.cons (.int 5) (.cons (.int 7) (.cons (.int 11) .nil))))) (.bin .Mod (.bin .FloorDiv (.call mid (.cons (.var 0) (.cons (.int 0) .nil))) (.int 5)) (.int 4)))) .nil)⟩
def Zlz(Γ:Gam)(id:Nat)(ns:List Int):Prop:=∃ p,P4 p/\Γ.F id [scr ns]=.ok (.int p)
theorem ZkT{Γ:Gam}{ns:List Int}{mid:Nat}(h:Zf8 Γ mid ns):∃ p,P4 p/\(Zv1 mid).run Γ [scr ns]=.ok (.int p):=by
 obtain⟨m,m0,e⟩:=h 0 (by decide)
 refine⟨_,ZqV (m / 5),?_⟩
 simp[Zv1,Df.run,Zac,e,Zld]
noncomputable def ZgD:Df:=⟨8,false,(.cons (.asgT [2,3,4] (.var 0)) (.cons (.asgT [5,6,7] (.var 1)) (.cons (.ret (.lst (.cons (.bin .Sub (.bin .Mult (.var 3) (.var 7)) (.bin .Mult (.var 4) (.var 6))) (.cons (.bin .Sub (.bin .Mult (.var 4) (.var 5)) (.bin .Mult (.var 2) (.var 7))) (.cons (.bin .Sub (.bin .Mult (.var 2) (.var 6)) (.bin .Mult (.var 3) (.var 5))) .nil))))) .nil)))⟩
noncomputable def ZcY:E:=(.bin .Mult (.var 7) (.var 8))
noncomputable def Zei:Df:=⟨9,false,(.cons (.asgT [3,4,5] (.var 2)) (.cons (.asg 6 false (.lst (.cons (.bin .Mult (.var 3) (.var 3)) (.cons (.bin .Mult (.var 4) (.var 4)) (.cons (.bin .Mult (.var 5) (.var 5)) (.cons (.bin .Mult (.var 3) (.var 4)) (.cons (.bin .Mult (.var 3) (.var 5)) (.cons (.bin .Mult (.var 4) (.var 5)) .nil)))))))) (.cons (.ret (.bin .Mod (.bi .sum (.cons (.compT ZcY [7,8] (.zip (.var 1) (.var 6)) Zaa) .nil)) (.var 0))) .nil)))⟩
section
variable {Γ:Gam} {ns:List Int} {p:Int} {C:C6} {s3 s4 s5 s6 s7 s8:Sl}
end
section
variable {Γ:Gam} {ns:List Int}
end
theorem ZlZ{p k x:Int}(hp:P4 p)(kz:k%p≠0):k*x%p=0↔x%p=0:=by
 constructor
 ·intro z
  exact Classical.byContradiction fun n=>ZaL hp kz n z
 ·intro z
  rw[Int.mul_emod,z,Int.mul_zero,Int.zero_emod]
section
variable {Γ:Gam} {ns:List Int} {p:Int} {C:C6} {s3 s4 s5 s6 s7 s8:Sl}
end
def NF(p:Int)(x:R3):Prop:=In3 p x/\ZaE p (tri x)=some 1
noncomputable def ptI(p n:Int):R3:=if n=0 then (0,0,1) else if n<=p then (0,1,n-1) else (1,(n-p-1) / p,(n-p-1)%p)
noncomputable def Zge(p:Int):List R3:=(List.range (p*p+p+1).toNat).map fun (n:Nat)=>ptI p n
theorem ZvZ{p n:Int}(hp:P4 p)(h0:0<=n)(h1:n<p*p+p+1):NF p (ptI p n):=by
 have p1:1<p:=by have:=hp.lo;omega
 have p0:=hp.pos
 unfold ptI
 by_cases z:n=0
 ·rw[if_pos z]
  exact⟨⟨⟨by decide,p0⟩,⟨by decide,p0⟩,⟨by decide,p1⟩⟩,Zl7 p1⟩
 ·rw[if_neg z]
  by_cases z1:n<=p
  ·rw[if_pos z1]
   exact⟨⟨⟨Int.le_refl 0,p0⟩,⟨(by decide:(0:Int)<=1),p1⟩,⟨by show 0<=n-1;omega,by show n-1<p;omega⟩⟩,Zrw p1 _⟩
  ·rw[if_neg z1]
   have d0:0<=(n-p-1) / p:=Int.ediv_nonneg (by omega) (by omega)
   have d1:(n-p-1) / p<p:=by rw[Int.ediv_lt_iff_lt_mul p0];omega
   exact⟨⟨⟨(by decide:(0:Int)<=1),p1⟩,⟨d0,d1⟩,⟨Int.emod_nonneg _ (by omega),Int.emod_lt_of_pos _ p0⟩⟩,Zys p1 _ _⟩
theorem Zwl{p:Int}{x:R3}(hp:P4 p)(h:NF p x):∃ n:Int,0<=n/\n<p*p+p+1/\x=ptI p n:=by
 obtain⟨⟨i0,i1,i2⟩,l⟩:=h
 have p1:1<p:=by have:=hp.lo;omega
 have p0:=hp.pos
 have pp:=Int.mul_pos p0 p0
 obtain⟨x0,x1,x2⟩:=x
 simp only at i0 i1 i2
 unfold tri ZaE at l
 simp only at l
 rw[Int.emod_eq_of_lt i0.1 i0.2] at l
 by_cases z0:x0=0
 ·rw[if_pos z0] at l
  unfold ZaE at l
  rw[Int.emod_eq_of_lt i1.1 i1.2] at l
  by_cases z1:x1=0
  ·rw[if_pos z1] at l
   unfold ZaE at l
   rw[Int.emod_eq_of_lt i2.1 i2.2] at l
   by_cases z2:x2=0
   ·rw[if_pos z2] at l
    cases l
   ·rw[if_neg z2,Option.some.injEq] at l
    exact⟨0,Int.le_refl 0,by omega,by rw[z0,z1,l];rfl⟩
  ·rw[if_neg z1,Option.some.injEq] at l
   refine⟨x2+1,by omega,by omega,?_⟩
   unfold ptI
   rw[if_neg (by omega),if_pos (by omega),z0,l,Int.add_sub_cancel]
 ·rw[if_neg z0,Option.some.injEq] at l
  have m1:p*x1<=p*(p-1):=Int.mul_le_mul_of_nonneg_left (by omega) (by omega)
  have m0:0<=p*x1:=Int.mul_nonneg (by omega) i1.1
  rw[Int.mul_sub,Int.mul_one] at m1
  refine⟨p+1+p*x1+x2,by omega,by omega,?_⟩
  unfold ptI
  have e:p+1+p*x1+x2-p-1=x2+p*x1:=by omega
  rw[if_neg (by omega),if_neg (by omega),e,Int.add_mul_ediv_left _ _ (by omega),Int.ediv_eq_zero_of_lt i2.1 i2.2,Int.add_mul_emod_self_left,Int.emod_eq_of_lt i2.1 i2.2,Int.zero_add,l]
theorem Zck{p:Int}{x:R3}(hp:P4 p):x∈Zge p↔NF p x:=by
 have p0:=hp.pos
 have pp:=Int.mul_pos p0 p0
 constructor
 ·intro h
  obtain⟨n,hn,rfl⟩:=List.mem_map.mp h
  have:=List.mem_range.mp hn
  exact ZvZ hp (by omega) (by omega)
 ·intro h
  obtain⟨n,n0,n1,rfl⟩:=Zwl hp h
  refine List.mem_map.mpr ⟨n.toNat,List.mem_range.mpr (by omega),?_⟩
  rw[Int.toNat_of_nonneg n0]
theorem Zjc{p:Int}(hp:P4 p):(Zge p).Nodup:=by
 rcases hp with rfl|rfl|rfl|rfl<;>decide +kernel
theorem Zdw{α β:Type}{f:α->β}:∀ {l:List α},l.Nodup->(∀ x∈l,∀ y∈l,f x=f y->x=y)->(l.map f).Nodup
 | [],_,_=>List.nodup_nil
 | x::l,nd,h=>by
  obtain⟨n1,n2⟩:=List.nodup_cons.mp nd
  rw[List.map_cons,List.nodup_cons]
  refine⟨fun m=>?_,Zdw n2 fun y hy z hz=>h y (List.mem_cons_of_mem _ hy) z (List.mem_cons_of_mem _ hz)⟩
  obtain⟨y,hy,e⟩:=List.mem_map.mp m
  have:=h y (List.mem_cons_of_mem _ hy) x List.mem_cons_self e
  exact n1 (this ▸ hy)
noncomputable def nrm(p:Int)(r:R3):R3:=open Classical in if h:∃ y,NF p y/\Pr p y r then Classical.choose h else r
theorem Zk1{p l:Int}{r:R3}(hp:P4 p)(el:ZaE p (tri r)=some l):NF p (nrm p r)/\Pr p (nrm p r) r:=by
 have h:∃ y,NF p y/\Pr p y r:=by
  obtain⟨u,iu,j,l1,pr,_⟩:=Zg4 hp el
  exact⟨_,⟨j,l1⟩,pr⟩
 unfold nrm
 rw[dif_pos h]
 exact Classical.choose_spec h
theorem Zb8{p:Int}{a b c x:R3}(hp:P4 p)(z:Zae a b c%p≠0)(hx:NF p x):NF p (nrm p (ap a b c x))/\Pr p (nrm p (ap a b c x)) (ap a b c x):=by
 obtain⟨l,el⟩:=ZgG hp z hx.2 CgR.rfl
 exact Zk1 hp el
theorem Zje{p:Int}{x y:R3}(hp:P4 p)(hx:NF p x)(hy:NF p y)(h:Pr p x y):x=y:=ZnT hp hx.1 hy.1 hx.2 hy.2 h
theorem Zcs{p:Int}{a b c x:R3}(hp:P4 p)(z:Zae a b c%p≠0)(hx:NF p x):nrm p (ap (bk0 a b c) (bk1 a b c) (bk2 a b c) (nrm p (ap a b c x)))=x:=by
 obtain⟨h1,h2⟩:=Zb8 hp z hx
 have zB:Zae (bk0 a b c) (bk1 a b c) (bk2 a b c)%p≠0:=by rw[Zhw];exact ZaL hp z z
 obtain⟨h3,h4⟩:=Zb8 hp zB h1
 refine Zje hp h3 hx (h4.trans hp ((Pr.ap h2).trans hp ?_))
 rw[ZsI]
 exact⟨_,z,CgR.rfl⟩
noncomputable def Zfc(p:Int):Int:=if p=7 then 3 else 2
noncomputable def q4(w:Nat)(k:Int)(y:R3):Int:=match w with
  | 0=>y.1*y.2.2-y.2.1*y.2.1
  | 1=>y.1*y.1
  | 2=>y.1*y.2.1
  | _=>y.1*y.1-k*(y.2.1*y.2.1)
noncomputable def E4(w:Nat)(k:Int)(a b c:R3):C6:=match w with
  | 0=>Ziu (prd a c) (prd b b)
  | 1=>prd a a
  | 2=>prd a b
  | _=>Ziu (prd a a) (scC k (prd b b))
def W4(w:Nat):Prop:=w=0\/w=1\/w=2\/w=3
theorem Zeo(u v x:R3):vI (prd u v) x=ZaP u x*ZaP v x:=by
 unfold vI prd ZaP
 simp only
 grind
theorem ZlD(A B:C6)(x:R3):vI (Ziu A B) x=vI A x-vI B x:=by
 unfold vI Ziu
 simp only
 grind
theorem Zij(k:Int)(A:C6)(x:R3):vI (scC k A) x=k*vI A x:=by
 unfold vI scC
 simp only
 grind
theorem ZxS{w:Nat}(hw:W4 w)(k:Int)(a b c x:R3):vI (E4 w k a b c) x=q4 w k (ap a b c x):=by
 rcases hw with rfl|rfl|rfl|rfl
 ·show vI (Ziu _ _) x=ZaP a x*ZaP c x-ZaP b x*ZaP b x
  rw[ZlD,Zeo,Zeo]
 ·show vI (prd _ _) x=ZaP a x*ZaP a x
  rw[Zeo]
 ·show vI (prd _ _) x=ZaP a x*ZaP b x
  rw[Zeo]
 ·show vI (Ziu _ _) x=ZaP a x*ZaP a x-k*(ZaP b x*ZaP b x)
  rw[ZlD,Zij,Zeo,Zeo]
theorem ZqQ{w:Nat}(hw:W4 w)(k d:Int)(y:R3):q4 w k (ZaI d y)=d*d*q4 w k y:=by
 rcases hw with rfl|rfl|rfl|rfl<;>(unfold q4 ZaI;simp only;grind)
theorem ZvX{w:Nat}(hw:W4 w){p k:Int}{y y':R3}(h:CgR p y y'):Cg p (q4 w k y) (q4 w k y'):=by
 rcases hw with rfl|rfl|rfl|rfl
 ·exact(h.1.mul h.2.2).sub (h.2.1.mul h.2.1)
 ·exact h.1.mul h.1
 ·exact h.1.mul h.2.1
 ·exact(h.1.mul h.1).sub (Cg.rfl.mul (h.2.1.mul h.2.1))
theorem ZvW{w:Nat}(hw:W4 w){p k:Int}{y y':R3}(hp:P4 p)(h:Pr p y y'):(q4 w k y%p=0)↔(q4 w k y'%p=0):=by
 obtain⟨d,dz,e⟩:=h
 have q:=(ZvX (k:=k) hw e).trans (Cg.of (ZqQ hw k d y'))
 rw[show q4 w k y%p=_ from q]
 exact ZlZ hp (ZaL hp dz dz)
theorem Zub{w:Nat}(hw:W4 w){p k:Int}{a b c x:R3}{C:C6}(hp:P4 p)(z:Zae a b c%p≠0)(h:PrC p C (E4 w k a b c))(hx:NF p x):(vI C x%p=0)↔(q4 w k (nrm p (ap a b c x))%p=0):=by
 rw[ZvW hw hp (Zb8 hp z hx).2,<- ZxS hw]
 obtain⟨d,dz,e⟩:=h
 have q:=(Zik e CgR.rfl (x:=x)).trans (Cg.of (Zij d _ x))
 rw[show vI C x%p=_ from q]
 exact ZlZ hp dz
noncomputable def ZnB(p:Int)(C:C6):List R3:=(Zge p).filter fun x=>decide (vI C x%p=0)
noncomputable def no3(p:Int)(l:List R3):Bool:=l.all fun x=>l.all fun y=>l.all fun u=>decide (x=y)||decide (x=u)||decide (y=u)||decide (Zae x y u%p≠0)
theorem Zr8{p:Int}(hp:P4 p):no3 p ((Zge p).filter fun y=>decide (q4 0 (Zfc p) y%p=0))=true:=by
 rcases hp with rfl|rfl|rfl|rfl<;>decide +kernel
theorem Znz{p:Int}{a b c:R3}{C:C6}(hp:P4 p)(z:Zae a b c%p≠0)(h:PrC p C (E4 0 (Zfc p) a b c)){x y u:R3}(hx:x∈ZnB p C)(hy:y∈ZnB p C)(hu:u∈ZnB p C)(n1:x≠y)(n2:x≠u)(n3:y≠u):Zae x y u%p≠0:=by
 have hw:W4 0:=.inl rfl
 have led:∀ {x:R3},x∈ZnB p C->NF p x/\nrm p (ap a b c x)∈((Zge p).filter fun y=>decide (q4 0 (Zfc p) y%p=0))/\Pr p (nrm p (ap a b c x)) (ap a b c x):=fun {x} hx=>by
  obtain⟨h1,h2⟩:=List.mem_filter.mp hx
  have nx:=(Zck hp).mp h1
  obtain⟨s1,s2⟩:=Zb8 hp z nx
  refine⟨nx,List.mem_filter.mpr ⟨(Zck hp).mpr s1,?_⟩,s2⟩
  rw[decide_eq_true_eq] at h2 ⊢
  exact(Zub hw hp z h nx).mp h2
 obtain⟨nx,mx,px⟩:=led hx
 obtain⟨ny,my,py⟩:=led hy
 obtain⟨nu,mu,pu⟩:=led hu
 have inj:∀ {x y:R3},NF p x->NF p y->x≠y->nrm p (ap a b c x)≠nrm p (ap a b c y):=fun {x y} hx hy ne e=>ne (by rw[<- Zcs hp z hx,<- Zcs hp z hy,e])
 have all:=Zr8 hp
 unfold no3 at all
 rw[List.all_eq_true] at all
 have a1:=all _ mx
 rw[List.all_eq_true] at a1
 have a2:=a1 _ my
 rw[List.all_eq_true] at a2
 have a3:=a2 _ mu
 simp only[Bool.or_eq_true,decide_eq_true_eq] at a3
 rcases a3 with ((e|e)|e)|e
 ·exact absurd e (inj nx ny n1)
 ·exact absurd e (inj nx nu n2)
 ·exact absurd e (inj ny nu n3)
 ·intro z0
  obtain⟨d1,_,g1⟩:=px
  obtain⟨d2,_,g2⟩:=py
  obtain⟨d3,_,g3⟩:=pu
  have q:=Zn3 g1 g2 g3
  refine e ?_
  rw[show Zae _ _ _%p=_ from q,Int.mul_emod,Int.mul_emod (Zae a b c),z0,Int.mul_zero,Int.zero_emod,Int.mul_zero,Int.zero_emod]
theorem Zr4{w:Nat}(hw:W4 w)(k:Int)(a b c:R3):Zae (tw0 (E4 w k a b c)) (tw1 (E4 w k a b c)) (tw2 (E4 w k a b c))=if w=0 then 2*(Zae a b c*Zae a b c) else 0:=by
 rcases hw with rfl|rfl|rfl|rfl
 ·exact ZjG a b c
 ·unfold E4 tw0 tw1 tw2 prd Zae det
  simp only
  grind
 ·unfold E4 tw0 tw1 tw2 prd Zae det
  simp only
  grind
 ·unfold E4 tw0 tw1 tw2 prd Ziu scC Zae det
  simp only
  grind
theorem ZlC{w:Nat}(hw:W4 w){p k:Int}{a b c:R3}{C:C6}(hp:P4 p)(z:Zae a b c%p≠0)(h:PrC p C (E4 w k a b c)):(Zae (tw0 C) (tw1 C) (tw2 C)%p≠0)↔w=0:=by
 obtain⟨d,dz,cg⟩:=h
 obtain⟨x0,x1,x2⟩:=Zpz cg
 have e:=(ZcS x0 x1 x2).trans (Cg.of ((Zox d _).trans (by rw[Zr4 hw])))
 rw[show Zae (tw0 C) (tw1 C) (tw2 C)%p=_ from e]
 by_cases h0:w=0
 ·rw[if_pos h0]
  exact⟨fun _=>h0,fun _=>ZaL hp (nz3 hp dz dz dz) (ZaL hp hp.two (ZaL hp z z))⟩
 ·rw[if_neg h0,Int.mul_zero,Int.zero_emod]
  exact⟨fun n=>absurd rfl n,fun e=>absurd e h0⟩
theorem Zn4{w:Nat}(hw:W4 w){p k:Int}{a b c:R3}(hp:P4 p)(z:Zae a b c%p≠0):∃ l,ZaE p (E4 w k a b c).l=some l:=by
 cases el:ZaE p (E4 w k a b c).l with
 | some l=>exact⟨l,rfl⟩
 | none =>
  have hz:=ZbV.mp el
  have kk:∀ x∈(E4 w k a b c).l,Cg p x (0*x):=fun x hx=>by show x%p=0*x%p;rw[hz x hx,Int.zero_mul,Int.zero_emod]
  have e0:CgC p (E4 w k a b c) (scC 0 (E4 w k a b c)):=⟨kk _ (by simp[C6.l]),kk _ (by simp[C6.l]),kk _ (by simp[C6.l]),kk _ (by simp[C6.l]),kk _ (by simp[C6.l]),kk _ (by simp[C6.l])⟩
  have zero:∀ x:R3,vI (E4 w k a b c) x%p=0:=fun x=>by
   rw[show vI (E4 w k a b c) x%p=_ from Zik e0 CgR.rfl,Zij,Int.zero_mul,Int.zero_emod]
  obtain⟨y,hy⟩:∃ y:R3,q4 w k y=1:=by
   rcases hw with rfl|rfl|rfl|rfl
   ·exact⟨(1,0,1),rfl⟩
   ·exact⟨(1,0,0),rfl⟩
   ·exact⟨(1,1,0),rfl⟩
   ·exact⟨(1,0,0),by unfold q4;simp⟩
  have:=zero (ap (bk0 a b c) (bk1 a b c) (bk2 a b c) y)
  rw[ZxS hw,ZsH,ZqQ hw,hy,Int.mul_one] at this
  exact absurd this (ZaL hp z z)
noncomputable def ZbF(pts:List R3):D:=.lst (pts.map (Zad true))
theorem ZdP{g:D->R Bool}{f:D->R D}{q:R3->Bool}:∀ (xs:List R3),(∀ x∈xs,g (Zad true x)=.ok (q x)/\f (Zad true x)=.ok (Zad true x))->Zam g f (xs.map (Zad true))=.ok ((xs.filter q).map (Zad true))
 | [],_=>rfl
 | x::xs,h=>by
  obtain⟨h1,h2⟩:=h x (List.mem_cons_self ..)
  have ih:=ZdP xs fun y hy=>h y (List.mem_cons_of_mem _ hy)
  show (g (Zad true x)).bind _=_
  rw[h1,R.bind_ok,List.filter_cons]
  cases hq:q x with
  | true =>
   rw[if_pos rfl,if_pos rfl,h2,R.bind_ok,show Zam g f (List.map (Zad true) xs)=_ from ih]
   rfl
  | false =>
   rw[if_neg (by decide),if_neg (by decide)]
   exact ih
noncomputable def ZfW:Ss:=(.cons (.app 1 (.tup (.cons (.int 0) (.cons (.int 1) (.cons (.var 2) .nil))))) .nil)
noncomputable def ZfX:E:=(.tup (.cons (.int 1) (.cons (.var 3) (.cons (.var 4) .nil))))
noncomputable def ZfV:Ss:=(.cons (.ext 1 (.comp ZfX 4 (.rng (.var 0)) Zaa)) .nil)
noncomputable def ZdW:Df:=⟨5,true,(.cons (.asg 1 true (.lst (.cons (.tup (.cons (.int 0) (.cons (.int 0) (.cons (.int 1) .nil)))) .nil))) (.cons (.fors 2 (.rng (.var 0)) ZfW) (.cons (.fors 3 (.rng (.var 0)) ZfV) (.cons (.ret (.var 1)) .nil))))⟩
def ZsO(Γ:Gam):Prop:=∀ p:Int,P4 p->Γ.F 69 [.int p]=.ok (ZbF (Zge p))
theorem ZvP(Γ:Gam)(p:Int)(hp:P4 p):ZdW.run Γ [.int p]=.ok (ZbF (Zge p)):=by
 rcases hp with rfl|rfl|rfl|rfl<;>kernel_rfl!
def ZsN(Γ:Gam):Prop:=∀ (p:Int) (C:C6),P4 p->InC p C->Γ.F 136 [.int p,ZaD C]=.ok (.bl (decide (Zae (tw0 C) (tw1 C) (tw2 C)%p≠0)))
theorem ZvO{Γ:Gam}(ht:Zfa Γ)(hm:Zfb Γ)(p:Int)(C:C6)(hp:P4 p)(iC:InC p C):ZbC.run Γ [.int p,ZaD C]=.ok (.bl (decide (Zae (tw0 C) (tw1 C) (tw2 C)%p≠0))):=by
 obtain⟨h0,h1,h2⟩:=Zuv hp iC
 have e1:=ht p C hp
 have e2:=hm p true (t0 p C) (t1 p C) (t2 p C) hp.pos ((Zef hp h0).b3 (by decide)) ((Zef hp h1).b3 (by decide)) ((Zef hp h2).b3 (by decide))
 have td:Zae (t0 p C) (t1 p C) (t2 p C)%p=Zae (tw0 C) (tw1 C) (tw2 C)%p:=let ⟨h0,h1,h2⟩:=Zuw p C;ZcS h0 h1 h2
 rw[td] at e2
 have k0:Zcq (Zdc (t0 p C) (t1 p C) (t2 p C)) (.int 0)=.ok (Zad true (t0 p C)):=rfl
 have k1:Zcq (Zdc (t0 p C) (t1 p C) (t2 p C)) (.int 1)=.ok (Zad true (t1 p C)):=rfl
 have k2:Zcq (Zdc (t0 p C) (t1 p C) (t2 p C)) (.int 2)=.ok (Zad true (t2 p C)):=rfl
 generalize Zae (tw0 C) (tw1 C) (tw2 C)%p=d at *
 simp[ZbC,Df.run,Zac,e1,e2,k0,k1,k2]
 rw[Bool.eq_iff_iff]
 simp
def ZxP(Γ:Gam):Prop:=∀ (p:Int) (a b c:R3) (w:Nat),GoodR p a b c->W4 w->∃ C:C6,InC p C/\ZaE p C.l=some 1/\PrC p C (E4 w (Zfc p) a b c)/\Γ.F 163 [.int p,ZeQ a b c,.int w]=.ok (ZaD C)
theorem od4(Γ:Gam)(RR ra rb rc:D)(s6:Sl){p:Int}(hp:P4 p):evE Γ [si p,sh RR,si 3,sh ra,sh rb,sh rc,s6,none,none,none,none,none,none,none] (.bi .min (.cons (.comp ZbB 8 (.rng2 (.int 2) (.var 0)) Zbz) .nil))=.ok (.int (Zfc p)):=by
 rcases hp with rfl|rfl|rfl|rfl<;>kernel_rfl!
theorem Zmq{Γ:Gam}{s0 s1 s2 s3 s4 s5 s6 s7 s8 s9 s10 s11:Sl}:∀ xs ys:List Int,Zam (cGT Γ [s0,s1,s2,s3,s4,s5,s6,s7,s8,s9,s10,s11,none,none] [12,13] Zaa) (cFT Γ [s0,s1,s2,s3,s4,s5,s6,s7,s8,s9,s10,s11,none,none] [12,13] ZbA) (Zel (ds xs) (ds ys))=.ok (ds (List.zipWith (fun x y=>x-y) xs ys))
 | [],_=>rfl
 | _::_,[]=>rfl
 | x::xs,y::ys=>by
  have ih:=Zmq (Γ:=Γ) (s0:=s0) (s1:=s1) (s2:=s2) (s3:=s3) (s4:=s4) (s5:=s5) (s6:=s6) (s7:=s7) (s8:=s8) (s9:=s9) (s10:=s10) (s11:=s11) xs ys
  show Zam _ _ (.tup [.int x,.int y]::Zel (ds xs) (ds ys))=.ok (.int (x-y)::ds (List.zipWith (fun x y=>x-y) xs ys))
  rw[Zam,ih]
  rfl
theorem ZjH{Γ:Gam}{o:Int}{s0 s1 s2 s3 s4 s5 s6 s8 s9:Sl}(ob:∀ y,Zbh o y=true):∀ xs ys:List Int,Zam (cGT Γ [s0,s1,s2,s3,s4,s5,s6,si o,s8,s9,none,none,none,none] [10,11] Zaa) (cFT Γ [s0,s1,s2,s3,s4,s5,s6,si o,s8,s9,none,none,none,none] [10,11] ZaG) (Zel (ds xs) (ds ys))=.ok (ds (List.zipWith (fun x y=>x-o*y) xs ys))
 | [],_=>rfl
 | _::_,[]=>rfl
 | x::xs,y::ys=>by
  have ih:=ZjH (Γ:=Γ) (s0:=s0) (s1:=s1) (s2:=s2) (s3:=s3) (s4:=s4) (s5:=s5) (s6:=s6) (s8:=s8) (s9:=s9) ob xs ys
  have f:cFT Γ [s0,s1,s2,s3,s4,s5,s6,si o,s8,s9,none,none,none,none] [10,11] ZaG (.tup [.int x,.int y])=.ok (.int (x-o*y)):=by
   simp[cFT,ZaG,ob]
  show Zam _ _ (.tup [.int x,.int y]::Zel (ds xs) (ds ys))=.ok (.int (x-o*y)::ds (List.zipWith (fun x y=>x-o*y) xs ys))
  rw[Zam,ih,f]
  rfl
theorem ZvS{Γ:Gam}(hf:Zke Γ)(hd:ZsQ Γ)(p:Int)(a b c:R3)(w:Nat)(g:GoodR p a b c)(hw:W4 w):∃ C:C6,InC p C/\ZaE p C.l=some 1/\PrC p C (E4 w (Zfc p) a b c)/\ZaB.run Γ [.int p,ZeQ a b c,.int w]=.ok (ZaD C):=by
 have hp:=g.p4
 obtain⟨l,el⟩:=Zn4 hw (k:=Zfc p) hp g.nz
 obtain⟨t,C,it,eD,iC,lC,pC⟩:=ZwN hp el
 have e3:=hf p false _ l t hp el it
 rw[eD] at e3
 refine⟨C,iC,lC,pC,?_⟩
 clear pC lC iC eD it el
 have eaa:=hd p a a hp g.ia g.ia
 have eab:=hd p a b hp g.ia g.ib
 have eac:=hd p a c hp g.ia g.ic
 have ebb:=hd p b b hp g.ib g.ib
 have as:∀ ρ:Rho,Zf5 [3,4,5] (ZeQ a b c) ρ=.ok (((ρ.set 3 (sh (ZaN a))).set 4 (sh (ZaN b))).set 5 (sh (ZaN c))):=fun _=>rfl
 rcases hw with rfl|rfl|rfl|rfl
 ·have e3':Γ.F 158 [.int p,.lst (ds (List.zipWith (fun x y=>x-y) (prd a c).l (prd b b).l))]=.ok (ZaD C):=e3
  have e1':Γ.F 160 [ZaN a,ZaN c]=.ok (.lst (ds (prd a c).l)):=eac
  have e2':Γ.F 160 [ZaN b,ZaN b]=.ok (.lst (ds (prd b b).l)):=ebb
  have cp:=fun (s0 s1 s2 s3 s4 s5 s6 s7 s8 s9 s10 s11:Sl)=>Zmq (Γ:=Γ) (s0:=s0) (s1:=s1) (s2:=s2) (s3:=s3) (s4:=s4) (s5:=s5) (s6:=s6) (s7:=s7) (s8:=s8) (s9:=s9) (s10:=s10) (s11:=s11) (prd a c).l (prd b b).l
  generalize ds (List.zipWith (fun x y=>x-y) (prd a c).l (prd b b).l)=LC at *
  generalize ds (prd a c).l=LA at *
  generalize ds (prd b b).l=LB at *
  generalize ZaN a=ra at *
  generalize ZaN b=rb at *
  generalize ZaN c=rc at *
  generalize ZeQ a b c=RR at *
  simp[ZaB,Df.run,Zac,as,e1',e2',cp,e3']
 ·have e3':Γ.F 158 [.int p,.lst (ds (prd a a).l)]=.ok (ZaD C):=e3
  generalize D.lst (ds (prd a a).l)=A at *
  simp[ZaB,Df.run,Zac,as,eaa,e3']
 ·have e3':Γ.F 158 [.int p,.lst (ds (prd a b).l)]=.ok (ZaD C):=e3
  generalize D.lst (ds (prd a b).l)=A at *
  simp[ZaB,Df.run,Zac,as,eab,e3']
 ·have ob:∀ y,Zbh (Zfc p) y=true:=fun y=>by rcases hp with rfl|rfl|rfl|rfl<;>exact Zcj (by decide) (by decide)
  have e3':Γ.F 158 [.int p,.lst (ds (List.zipWith (fun x y=>x-Zfc p*y) (prd a a).l (prd b b).l))]=.ok (ZaD C):=e3
  have e1':Γ.F 160 [ZaN a,ZaN a]=.ok (.lst (ds (prd a a).l)):=eaa
  have e2':Γ.F 160 [ZaN b,ZaN b]=.ok (.lst (ds (prd b b).l)):=ebb
  have od:=fun (RR ra rb rc:D) (s6:Sl)=>od4 Γ RR ra rb rc s6 hp
  have cp:=fun (s0 s1 s2 s3 s4 s5 s6 s8 s9:Sl)=>ZjH (Γ:=Γ) (s0:=s0) (s1:=s1) (s2:=s2) (s3:=s3) (s4:=s4) (s5:=s5) (s6:=s6) (s8:=s8) (s9:=s9) ob (prd a a).l (prd b b).l
  generalize Zfc p=o at *
  generalize ds (List.zipWith (fun x y=>x-o*y) (prd a a).l (prd b b).l)=LC at *
  generalize ds (prd a a).l=LA at *
  generalize ds (prd b b).l=LB at *
  generalize ZaN a=ra at *
  generalize ZaN b=rb at *
  generalize ZaN c=rc at *
  generalize ZeQ a b c=RR at *
  simp[-Zmm,ZaB,Df.run,Zac,as,e1',e2',od,cp,e3']
section
variable {Γ:Gam} {p i j k d N:Int} {PP x y u:D} {RL:List D} {s t s' t' v:Sl}
end
section
variable {Γ:Gam} {p:Int} {pts:List R3}
end
theorem Zqr(x:R3):Zad true x=tI (tri x):=by
 unfold Zad ZcI
 rw[if_pos rfl]
 rfl
theorem ZiN(m:List R3):m.map (Zad true)=(m.map tri).map tI:=by
 rw[List.map_map]
 exact List.map_congr_left fun x _=>Zqr x
theorem Zn2{p:Int}(hp:P4 p):((Zge p).map tri).Pairwise (fun a b=>Zbk a b=true):=by
 rcases hp with rfl|rfl|rfl|rfl<;>decide +kernel
theorem ZmN{x y:R3}(h:tri x=tri y):x=y:=by
 obtain⟨x0,x1,x2⟩:=x
 obtain⟨y0,y1,y2⟩:=y
 unfold tri at h
 simp at h
 obtain⟨rfl,rfl,rfl⟩:=h
 rfl
theorem ZuM{p:Int}{l:List R3}(hp:P4 p)(hn:∀ x∈l,NF p x)(nd:l.Nodup)(h64:l.length<64):Zbb (l.map (Zad true))=.ok (((Zge p).filter fun x=>decide (x∈l)).map (Zad true)):=by
 rw[ZiN,ZiN]
 refine Ziz (fun r hr=>?_) (Zdw nd fun x _ y _=>ZmN) (by rw[List.length_map];exact h64) (List.Pairwise.sublist ((List.filter_sublist).map tri) (Zn2 hp)) fun r=>?_
 ·obtain⟨x,_,rfl⟩:=List.mem_map.mp hr
  intro z
  cases z
 ·rw[List.mem_map,List.mem_map]
  constructor
  ·rintro⟨x,hx,rfl⟩
   have:=(List.mem_filter.mp hx).2
   exact⟨x,by simpa using this,rfl⟩
  ·rintro⟨x,hx,rfl⟩
   exact⟨x,List.mem_filter.mpr ⟨(Zck hp).mpr (hn x hx),by simpa using hx⟩,rfl⟩
theorem Zr6(k l:Int)(a b:R3):crs (ZaI k a) (ZaI l b)=ZaI (k*l) (crs a b):=by
 unfold crs ZaI
 simp only
 refine Prod.ext ?_ (Prod.ext ?_ ?_)<;>(simp only;grind)
theorem Pr.crs{p:Int}{a b a' b':R3}(hp:P4 p)(h:Pr p a a')(g:Pr p b b'):Pr p (OvC.crs a b) (OvC.crs a' b'):=by
 obtain⟨d,dz,e⟩:=h
 obtain⟨d',dz',e'⟩:=g
 exact⟨d*d',ZaL hp dz dz',(Zhr e e').trans (CgR.of (Zr6 ..))⟩
noncomputable def ZjV:Df:=⟨3,false,(.cons (.ret (.cmp .Eq (.call 1 (.cons (.var 0) (.cons (.bin .Add (.bin .Add (.bin .Mult (.idx (.var 1) (.int 0)) (.idx (.var 2) (.int 0))) (.bin .Mult (.idx (.var 1) (.int 1)) (.idx (.var 2) (.int 1)))) (.bin .Mult (.idx (.var 1) (.int 2)) (.idx (.var 2) (.int 2)))) .nil))) (.int 0))) .nil)⟩
def Zmz(Γ:Gam):Prop:=∀ (p:Int) (x y:R3),P4 p->In3 p x->In3 p y->Γ.F 24 [.int p,Zad true x,Zad true y]=.ok (.bl (decide (ZaP x y%p=0)))
theorem ZqJ{Γ:Gam}(hr:ZcF Γ)(p:Int)(x y:R3)(hp:P4 p)(ix:In3 p x)(iy:In3 p y):ZjV.run Γ [.int p,Zad true x,Zad true y]=.ok (.bl (decide (ZaP x y%p=0))):=by
 have p0:=hp.pos
 have bx:=Zef hp ix
 have by_:=Zef hp iy
 have k:∀ {u v},Bd 10 u->Bd 10 v->ZcB u v=true:=fun hu hv=>Zc4 hu hv (by decide) (by decide)
 have k0:=k bx.1 by_.1
 have k1:=k bx.2.1 by_.2.1
 have k2:=k bx.2.2 by_.2.2
 obtain⟨x0,x1,x2⟩:=Zcg true x
 obtain⟨y0,y1,y2⟩:=Zcg true y
 have e:=hr p (ZaP x y) p0
 unfold ZaP at *
 generalize x.1=a0 at *
 generalize x.2.1=a1 at *
 generalize x.2.2=a2 at *
 generalize y.1=b0 at *
 generalize y.2.1=b1 at *
 generalize y.2.2=b2 at *
 generalize Zad true x=xx at *
 generalize Zad true y=yy at *
 generalize hs:(a0*b0+a1*b1+a2*b2)%p=s at *
 simp[ZjV,Df.run,Zac,x0,x1,x2,y0,y1,y2,k0,k1,k2,e]
 rw[Bool.eq_iff_iff]
 simp
noncomputable def ptL(p:Int)(l:R3):List R3:=(Zge p).filter fun x=>decide (ZaP x l%p=0)
noncomputable def Zbp:E:=(.call 24 (.cons (.var 0) (.cons (.var 2) (.cons (.var 1) .nil))))
noncomputable def Zbq:E:=(.var 2)
noncomputable def ZbJ:Df:=⟨3,true,(.cons (.ret (.comp Zbq 2 (.e (.call 69 (.cons (.var 0) .nil))) Zbp)) .nil)⟩
def Zmx(Γ:Gam):Prop:=∀ (p:Int) (l:R3),P4 p->In3 p l->Γ.F 70 [.int p,Zad true l]=.ok (ZbF (ptL p l))
theorem ZqA{Γ:Gam}(ht:ZsO Γ)(hl:Zmz Γ)(p:Int)(l:R3)(hp:P4 p)(il:In3 p l):ZbJ.run Γ [.int p,Zad true l]=.ok (ZbF (ptL p l)):=by
 have e1:=ht p hp
 have cp:Zam (cG Γ [si p,sh (Zad true l),none] 2 Zbp) (cF Γ [si p,sh (Zad true l),none] 2 Zbq) ((Zge p).map (Zad true))=.ok ((ptL p l).map (Zad true)):=by
  refine ZdP (Zge p) fun x hx=>⟨?_,?_⟩
  ·have e:=hl p x l hp ((Zck hp).mp hx).1 il
   generalize decide (ZaP x l%p=0)=v at *
   simp[cG,Zbp,e]
  ·simp[cF,Zbq]
 have sq:ZaF (ZbF (Zge p))=.ok ((Zge p).map (Zad true)):=rfl
 generalize Zge p=A at *
 generalize ZbF A=AA at *
 generalize Zad true l=ll at *
 simp[ZbJ,Df.run,Zac,e1,sq,cp]
 rfl
noncomputable def pol(p:Int)(C:C6)(x:R3):R3:=nrm p (ap (tw0 C) (tw1 C) (tw2 C) x)
noncomputable abbrev Whl(p:Int)(C:C6):Prop:=Zae (tw0 C) (tw1 C) (tw2 C)%p≠0
theorem Zdg{p:Int}{C:C6}{x:R3}(hp:P4 p)(z:Whl p C)(hx:NF p x):NF p (pol p C x)/\Pr p (pol p C x) (ap (tw0 C) (tw1 C) (tw2 C) x):=Zb8 hp z hx
def ZeG(Γ:Gam):Prop:=∀ (p:Int) (C:C6) (x:R3),P4 p->InC p C->Whl p C->NF p x->Γ.F 180 [.int p,ZaD C,Zad true x]=.ok (Zad true (pol p C x))
theorem Zzk{Γ:Gam}(h:Zo7 Γ):ZeG Γ:=fun p C x hp iC z nx=>by
 obtain⟨y,i,l,pr,e⟩:=h p C x hp iC z nx.1 nx.2
 obtain⟨h1,h2⟩:=Zdg hp z nx
 rw[<- Zje hp ⟨i,l⟩ h1 (pr.trans hp (h2.symm hp))]
 exact e
noncomputable def b4(u v:R3):Int:=u.1*v.2.2+u.2.2*v.1-2*(u.2.1*v.2.1)
noncomputable def Zcm:E:=(.cmp .Eq (.call 126 (.cons (.var 0) (.cons (.var 1) (.cons (.var 3) .nil)))) (.int 0))
noncomputable def Zcn:E:=(.var 3)
noncomputable def Zcd:Df:=⟨4,true,(.cons (.expr (.call 147 (.cons (.var 0) (.cons (.var 1) .nil)))) (.cons (.ret (.comp Zcn 3 (.e (.call 70 (.cons (.var 0) (.cons (.var 2) .nil)))) Zcm)) .nil))⟩
noncomputable def ZcK(p:Int)(C:C6)(l:R3):List R3:=(ptL p l).filter fun x=>decide (vI C x%p=0)
def ZlA(Γ:Gam):Prop:=∀ (p:Int) (C:C6) (l:R3),P4 p->InC p C->Whl p C->In3 p l->Γ.F 184 [.int p,ZaD C,Zad true l]=.ok (ZbF (ZcK p C l))
theorem ZvR{Γ:Gam}(ha:Zkg Γ)(ho:Zmx Γ)(hv:Zj9 Γ)(p:Int)(C:C6)(l:R3)(hp:P4 p)(iC:InC p C)(z:Whl p C)(il:In3 p l):Zcd.run Γ [.int p,ZaD C,Zad true l]=.ok (ZbF (ZcK p C l)):=by
 have e0:=ha p C hp iC z
 have e1:=ho p l hp il
 have cp:Zam (cG Γ [si p,sh (ZaD C),sh (Zad true l),none] 3 Zcm) (cF Γ [si p,sh (ZaD C),sh (Zad true l),none] 3 Zcn) ((ptL p l).map (Zad true))=.ok ((ZcK p C l).map (Zad true)):=by
  refine ZdP (ptL p l) fun x hx=>⟨?_,?_⟩
  ·have e:=hv p C x hp iC ((Zck hp).mp (List.mem_filter.mp hx).1).1
   generalize vI C x%p=v at *
   generalize Zad true x=xx at *
   simp[cG,Zcm,e]
   rw[Bool.eq_iff_iff]
   simp
  ·simp[cF,Zcn]
 have sq:ZaF (ZbF (ptL p l))=.ok ((ptL p l).map (Zad true)):=rfl
 generalize ZbF (ptL p l)=PP at *
 generalize (ptL p l).map (Zad true)=PL at *
 generalize Zad true l=ll at *
 generalize ZaD C=cC at *
 simp[Zcd,Df.run,Zac,e0,e1,sq,cp]
 rfl
section
variable {p:Int} {a b c:R3} {C:C6}
end
noncomputable def ZbI:E:=(.call 180 (.cons (.var 0) (.cons (.var 1) (.cons (.var 3) .nil))))
noncomputable def Zba:Df:=⟨4,true,(.cons (.ret (.bi .sorted (.cons (.comp ZbI 3 (.e (.call 184 (.cons (.var 0) (.cons (.var 1) (.cons (.call 180 (.cons (.var 0) (.cons (.var 1) (.cons (.var 2) .nil)))) .nil))))) Zaa) .nil))) .nil)⟩
noncomputable def ZfY:Df:=⟨3,false,(.cons (.ret (.idx (.glob 0) (.bi .len (.cons (.call 184 (.cons (.var 0) (.cons (.var 1) (.cons (.call 180 (.cons (.var 0) (.cons (.var 1) (.cons (.var 2) .nil)))) .nil)))) .nil)))) .nil)⟩
noncomputable def ZiB:D:=.tup [.str (Str.ofString "inner"),.str (Str.ofString "on"),.str (Str.ofString "outer")]
theorem Zht{g:D->R Bool}{f:D->R D}{q:R3->Bool}{φ:R3->R3}:∀ (xs:List R3),(∀ x∈xs,g (Zad true x)=.ok (q x)/\(q x=true->f (Zad true x)=.ok (Zad true (φ x))))->Zam g f (xs.map (Zad true))=.ok (((xs.filter q).map φ).map (Zad true))
 | [],_=>rfl
 | x::xs,h=>by
  obtain⟨h1,h2⟩:=h x (List.mem_cons_self ..)
  have ih:=Zht xs fun y hy=>h y (List.mem_cons_of_mem _ hy)
  show (g (Zad true x)).bind _=_
  rw[h1,R.bind_ok,List.filter_cons]
  cases hq:q x with
  | true =>
   rw[if_pos rfl,if_pos rfl,h2 hq,R.bind_ok,show Zam g f (List.map (Zad true) xs)=_ from ih]
   rfl
  | false =>
   rw[if_neg (by decide),if_neg (by decide)]
   exact ih
section
variable {p:Int} {a b c:R3} {C:C6}
theorem Zln{x y u l:R3}(hp:P4 p)(nl:NF p l)(h1:ZaP x l%p=0)(h2:ZaP y l%p=0)(h3:ZaP u l%p=0):Zae x y u%p=0:=by
 refine Classical.byContradiction fun z=>?_
 have z0:CgR p (ap x y u l) (0,0,0):=⟨by show ZaP x l%p=0%p;rw[h1,Int.zero_emod],by show ZaP y l%p=0%p;rw[h2,Int.zero_emod],by show ZaP u l%p=0%p;rw[h3,Int.zero_emod]⟩
 obtain⟨l',el⟩:=ZgG hp z nl.2 CgR.rfl
 rw[Zg3 z0] at el
 cases el
theorem Zgu{l x:R3}(hp:P4 p):x∈ZcK p C l↔x∈ZnB p C/\ZaP x l%p=0:=by
 unfold ZcK ptL ZnB
 rw[List.mem_filter,List.mem_filter,List.mem_filter,decide_eq_true_eq,decide_eq_true_eq]
 exact⟨fun h=>⟨⟨h.1.1,h.2⟩,h.1.2⟩,fun h=>⟨⟨h.1.1,h.2⟩,h.1.2⟩⟩
theorem Zl1{l:R3}(hp:P4 p):(ZcK p C l).Nodup:=((Zjc hp).filter _).filter _
theorem Zjj{l:R3}(hp:P4 p)(z:Zae a b c%p≠0)(h:PrC p C (E4 0 (Zfc p) a b c))(nl:NF p l):(ZcK p C l).length<=2:=by
  refine Classical.byContradiction fun n=>?_
  have nd:=Zl1 (C:=C) (l:=l) hp
  have mm:∀ x∈ZcK p C l,x∈ZnB p C/\ZaP x l%p=0:=fun x hx=>(Zgu hp).mp hx
  generalize ZcK p C l=L at *
  match L,nd,mm,n with
  | [],_,_,n=>exact n (by decide)
  | [_],_,_,n=>exact n (by show 1<=2;decide)
  | [_,_],_,_,n=>exact n (by show 2<=2;decide)
  | x::y::u::L,nd,mm,_ =>
    obtain⟨x1,x2⟩:=mm x (by simp)
    obtain⟨y1,y2⟩:=mm y (by simp)
    obtain⟨u1,u2⟩:=mm u (by simp)
    rw[List.nodup_cons,List.nodup_cons] at nd
    obtain⟨d1,d2,_⟩:=nd
    have n1:x≠y:=fun e=>d1 (by rw[e];simp)
    have n2:x≠u:=fun e=>d1 (by rw[e];simp)
    have n3:y≠u:=fun e=>d2 (by rw[e];simp)
    exact Znz hp z h x1 y1 u1 n1 n2 n3 (Zln hp nl x2 y2 u2)
theorem ZnF{x y:R3}(hp:P4 p)(w:Whl p C)(nx:NF p x)(ny:NF p y)(e:pol p C x=pol p C y):x=y:=by
 rw[<- Zcs hp w nx,<- Zcs hp w ny]
 show nrm p (ap _ _ _ (pol p C x))=nrm p (ap _ _ _ (pol p C y))
 rw[e]
noncomputable def ZpI(p:Int)(C:C6)(l:R3):List R3:=(Zge p).filter fun y=>decide (y∈(ZcK p C l).map (pol p C))
theorem ZkH{l:R3}(hp:P4 p)(z:Zae a b c%p≠0)(w:Whl p C)(h:PrC p C (E4 0 (Zfc p) a b c))(nl:NF p l):Zbb (((ZcK p C l).map (pol p C)).map (Zad true))=.ok ((ZpI p C l).map (Zad true)):=by
 have nf:∀ x∈ZcK p C l,NF p x:=fun x hx=>(Zck hp).mp (List.mem_filter.mp ((Zgu hp).mp hx).1).1
 refine ZuM hp (fun y hy=>?_) (Zdw (Zl1 hp) fun x hx y hy=>ZnF hp w (nf x hx) (nf y hy)) (by rw[List.length_map];have:=Zjj hp z h nl;omega)
 obtain⟨x,hx,rfl⟩:=List.mem_map.mp hy
 exact(Zdg hp w (nf x hx)).1
end
theorem Zr7{Γ:Gam}(hl:ZeG Γ){p:Int}{C:C6}(hp:P4 p)(iC:InC p C)(w:Whl p C){g:D->R Bool}{f:D->R D}(hg:∀ r,g r=.ok true)(hf:∀ r y,Γ.F 180 [.int p,ZaD C,Zad true r]=.ok y->f (Zad true r)=.ok y)(l:R3):Zam g f ((ZcK p C l).map (Zad true))=.ok (((ZcK p C l).map (pol p C)).map (Zad true)):=by
 have e:=Zht (q:=fun _=>true) (φ:=pol p C) (g:=g) (f:=f) (ZcK p C l) fun x hx=>⟨hg _,fun _=>hf _ _ (hl p C x hp iC w ((Zck hp).mp (List.mem_filter.mp ((Zgu hp).mp hx).1).1))⟩
 rwa [List.filter_eq_self.mpr fun _ _=>rfl] at e
def ZsP(Γ:Gam):Prop:=∀ (p:Int) (a b c:R3) (C:C6) (x:R3),P4 p->Zae a b c%p≠0->InC p C->Whl p C->PrC p C (E4 0 (Zfc p) a b c)->NF p x->Γ.F 185 [.int p,ZaD C,Zad true x]=.ok (ZbF (ZpI p C (pol p C x)))
theorem Zqw{Γ:Gam}(hl:ZeG Γ)(hm:ZlA Γ)(p:Int)(a b c:R3)(C:C6)(x:R3)(hp:P4 p)(z:Zae a b c%p≠0)(iC:InC p C)(w:Whl p C)(h:PrC p C (E4 0 (Zfc p) a b c))(nx:NF p x):Zba.run Γ [.int p,ZaD C,Zad true x]=.ok (ZbF (ZpI p C (pol p C x))):=by
 obtain⟨nu,_⟩:=Zdg hp w nx
 have e1:=hl p C x hp iC w nx
 have e2:=hm p C _ hp iC w nu.1
 have so:=ZkH hp z w h nu
 have sq:ZaF (ZbF (ZcK p C (pol p C x)))=.ok ((ZcK p C (pol p C x)).map (Zad true)):=rfl
 have cp:=Zr7 (g:=cG Γ [si p,sh (ZaD C),sh (Zad true x),none] 3 Zaa) (f:=cF Γ [si p,sh (ZaD C),sh (Zad true x),none] 3 ZbI) hl hp iC w (fun _=>rfl) (fun r y e=>by
  generalize Zad true r=rr at *
  generalize ZaD C=cC at *
  simp[cF,ZbI,e]) (pol p C x)
 generalize ZbF (ZcK p C (pol p C x))=M1 at *
 generalize (ZcK p C (pol p C x)).map (Zad true)=M2 at *
 generalize ((ZcK p C (pol p C x)).map (pol p C)).map (Zad true)=M3 at *
 unfold ZbF
 generalize (ZpI p C (pol p C x)).map (Zad true)=M4 at *
 generalize Zad true x=xx at *
 generalize Zad true (pol p C x)=U at *
 generalize ZaD C=cC at *
 simp[Zba,Df.run,Zac,e1,e2,sq,cp,so]
 rfl
noncomputable def ZhG(n:Nat):Str:=match n with
  | 0=>Str.ofString "inner"
  | 1=>Str.ofString "on"
  | _=>Str.ofString "outer"
def Zo6(Γ:Gam):Prop:=∀ (p:Int) (a b c:R3) (C:C6) (x:R3),P4 p->Zae a b c%p≠0->InC p C->Whl p C->PrC p C (E4 0 (Zfc p) a b c)->NF p x->Γ.F 186 [.int p,ZaD C,Zad true x]=.ok (.str (ZhG (ZcK p C (pol p C x)).length))
theorem Zod{n:Nat}(h:n<=2):Zcq ZiB (.int (n:Int))=.ok (.str (ZhG n))/\Zdm [.str (Str.ofString "inner"),.str (Str.ofString "on"),.str (Str.ofString "outer")] (n:Int)=.ok (.str (ZhG n)):=by
  match n,h with
  | 0,_=>exact⟨rfl,rfl⟩
  | 1,_=>exact⟨rfl,rfl⟩
  | 2,_=>exact⟨rfl,rfl⟩
theorem Zk4(l:List R3):biD .len [ZbF l]=.ok (.int (l.length:Int)):=by
 show R.ok (D.int ((l.map (Zad true)).length:Nat))=_
 rw[List.length_map]
theorem Znm{Γ:Gam}(hG:Γ.G 0=ZiB)(hl:ZeG Γ)(hm:ZlA Γ)(p:Int)(a b c:R3)(C:C6)(x:R3)(hp:P4 p)(z:Zae a b c%p≠0)(iC:InC p C)(w:Whl p C)(h:PrC p C (E4 0 (Zfc p) a b c))(nx:NF p x):ZfY.run Γ [.int p,ZaD C,Zad true x]=.ok (.str (ZhG (ZcK p C (pol p C x)).length)):=by
 obtain⟨nu,_⟩:=Zdg hp w nx
 have e1:=hl p C x hp iC w nx
 have e2:=hm p C _ hp iC w nu.1
 have ln:=Zk4 (ZcK p C (pol p C x))
 have ix:=(Zod (Zjj hp z h nu)).1
 generalize ((ZcK p C (pol p C x)).length:Int)=N at *
 generalize ZhG (ZcK p C (pol p C x)).length=ON at *
 generalize ZiB=SD at *
 generalize ZbF (ZcK p C (pol p C x))=XX at *
 generalize Zad true x=xx at *
 generalize Zad true (pol p C x)=U at *
 generalize ZaD C=cC at *
 simp[ZfY,Df.run,Zac,hG,e1,e2,ln,ix]
noncomputable def pole(p:Int)(C:C6)(l:R3):R3:=nrm p (ap (bk0 (tw0 C) (tw1 C) (tw2 C)) (bk1 (tw0 C) (tw1 C) (tw2 C)) (bk2 (tw0 C) (tw1 C) (tw2 C)) l)
def ZgH(Γ:Gam):Prop:=∀ (p:Int) (C:C6) (x:R3),P4 p->InC p C->Whl p C->NF p x->Γ.F 149 [.int p,ZaD C,Zad true x]=.ok (Zad true (pole p C x))
theorem Zv2{Γ:Gam}(h:ZsR Γ):ZgH Γ:=fun p C x hp iC z nx=>by
 obtain⟨y,i,l,pr,e⟩:=h p C x hp iC z nx.1 nx.2
 have zB:Zae (bk0 (tw0 C) (tw1 C) (tw2 C)) (bk1 (tw0 C) (tw1 C) (tw2 C)) (bk2 (tw0 C) (tw1 C) (tw2 C))%p≠0:=by rw[Zhw];exact ZaL hp z z
 obtain⟨h1,h2⟩:=Zb8 hp zB nx
 have q:y=pole p C x:=Zje hp ⟨i,l⟩ h1 (pr.trans hp (h2.symm hp))
 rw[<- q]
 exact e
noncomputable def ZbN:Df:=⟨1,false,(.cons (.ife (.isi (.var 0) [.cls 1,.cls 2,.cls 3,.cls 4,.cls 13,.cls 5,.cls 15]) (.cons (.ret (.bl true)) .nil) .nil) (.cons (.ret (.isi (.var 0) [.cls 16,.cls 12,.cls 17,.cls 106,.cls 107,.cls 108,.cls 118])) .nil))⟩
noncomputable def ZpH:Ss:=(.cons (.ife (.cmp .Eq (.var 3) (.int 0)) (.cons (.expr (.call 180 (.cons (.var 0) (.cons (.var 1) (.cons (.var 2) .nil))))) .nil) (.cons (.ife (.cmp .Eq (.var 3) (.int 1)) (.cons (.expr (.call 149 (.cons (.var 0) (.cons (.var 1) (.cons (.var 2) .nil))))) .nil) (.cons (.ife (.cmp .Eq (.var 3) (.int 2)) (.cons (.expr (.call 186 (.cons (.var 0) (.cons (.var 1) (.cons (.var 2) .nil))))) .nil) (.cons (.ife (.cmp .Eq (.var 3) (.int 3)) (.cons (.expr (.call 185 (.cons (.var 0) (.cons (.var 1) (.cons (.var 2) .nil))))) .nil) (.cons (.expr (.call 184 (.cons (.var 0) (.cons (.var 1) (.cons (.var 2) .nil))))) .nil)) .nil)) .nil)) .nil)) .nil)
noncomputable def ZaA:Df:=⟨6,false,(.cons (.asg 4 false (.bl false)) (.cons (.tryx ZpH 14 5 (.cons (.asg 4 false (.and (.cons (.isi (.var 5) [.cls 0]) (.cons (.isi (.var 5) [.verr]) (.cons (.no (.call 191 (.cons (.var 5) .nil))) .nil))))) .nil)) (.cons (.ret (.var 4)) .nil)))⟩
noncomputable def Zbo:E:=(.call 192 (.cons (.var 1) (.cons (.var 3) (.cons (.var 4) (.cons (.var 6) .nil)))))
noncomputable def Zbn:E:=(.call 192 (.cons (.var 1) (.cons (.var 5) (.cons (.var 4) (.cons (.var 7) .nil)))))
noncomputable def Zd0:Df:=⟨8,false,(.cons (.asg 1 false (.call 156 (.cons (.var 0) .nil))) (.cons (.asg 2 false (.call 159 (.cons (.var 1) (.cons (.var 0) (.cons (.int 1) .nil))))) (.cons (.asg 3 false (.call 163 (.cons (.var 1) (.cons (.var 2) (.cons (.bin .Add (.int 1) (.bin .Mod (.bin .FloorDiv (.call 155 (.cons (.var 0) (.cons (.int 10) .nil))) (.int 7)) (.int 3))) .nil))))) (.cons (.asg 4 false (.call 157 (.cons (.var 1) (.cons (.bin .FloorDiv (.call 155 (.cons (.var 0) (.cons (.int 11) .nil))) (.int 5)) .nil)))) (.cons (.ife (.no (.bi .all (.cons (.comp Zbo 6 (.rng (.int 5)) Zaa) .nil))) (.cons (.ret (.bl false)) .nil) .nil) (.cons (.asg 5 false (.call 163 (.cons (.var 1) (.cons (.var 2) (.cons (.int 0) .nil))))) (.cons (.ret (.no (.bi .any (.cons (.comp Zbn 7 (.rng (.int 5)) Zaa) .nil)))) .nil)))))))⟩
def NWh(p:Int)(C:C6):Prop:=Zae (tw0 C) (tw1 C) (tw2 C)%p=0
def Zkh(Γ:Gam):Prop:=∀ (p:Int) (C:C6),P4 p->InC p C->NWh p C->Γ.F 147 [.int p,ZaD C]=.exn ⟨14,[]⟩
theorem ZqO{Γ:Gam}(hx:∀ es,Γ.xn 14 es=.ok ⟨14,[]⟩)(h:ZsN Γ)(p:Int)(C:C6)(hp:P4 p)(iC:InC p C)(z:NWh p C):Zbf.run Γ [.int p,ZaD C]=.exn ⟨14,[]⟩:=by
 have e:=h p C hp iC
 rw[z] at e
 generalize ZaD C=cC at *
 simp[Zbf,Df.run,Zac,e,hx]
def Zkc(Γ:Gam):Prop:=∀ (p:Int) (C:C6),P4 p->InC p C->NWh p C->Γ.F 148 [.int p,ZaD C]=.exn ⟨14,[]⟩
theorem ZqC{Γ:Gam}(h:Zkh Γ)(p:Int)(C:C6)(hp:P4 p)(iC:InC p C)(z:NWh p C):ZaQ.run Γ [.int p,ZaD C]=.exn ⟨14,[]⟩:=by
 have e:=h p C hp iC z
 generalize ZaD C=cC at *
 simp[ZaQ,Df.run,Zac,e]
def Zmy(Γ:Gam)(id:Nat):Prop:=∀ (p:Int) (C:C6) (x:R3),P4 p->InC p C->NWh p C->Γ.F id [.int p,ZaD C,Zad true x]=.exn ⟨14,[]⟩
theorem ZqF{Γ:Gam}(h:Zkc Γ)(p:Int)(C:C6)(x:R3)(hp:P4 p)(iC:InC p C)(z:NWh p C):ZdY.run Γ [.int p,ZaD C,Zad true x]=.exn ⟨14,[]⟩:=by
 have e:=h p C hp iC z
 generalize ZaD C=cC at *
 generalize Zad true x=xx at *
 simp[ZdY,Df.run,Zac,e]
theorem Znn{Γ:Gam}(h:Zkc Γ)(p:Int)(C:C6)(x:R3)(hp:P4 p)(iC:InC p C)(z:NWh p C):ZfZ.run Γ [.int p,ZaD C,Zad true x]=.exn ⟨14,[]⟩:=by
 have e:=h p C hp iC z
 generalize ZaD C=cC at *
 generalize Zad true x=xx at *
 simp[ZfZ,Df.run,Zac,e]
theorem ZqI{Γ:Gam}(h:Zkh Γ)(p:Int)(C:C6)(x:R3)(hp:P4 p)(iC:InC p C)(z:NWh p C):Zcd.run Γ [.int p,ZaD C,Zad true x]=.exn ⟨14,[]⟩:=by
 have e:=h p C hp iC z
 generalize ZaD C=cC at *
 generalize Zad true x=xx at *
 simp[Zcd,Df.run,Zac,e]
theorem Zqv{Γ:Gam}(h:Zmy Γ 180)(p:Int)(C:C6)(x:R3)(hp:P4 p)(iC:InC p C)(z:NWh p C):Zba.run Γ [.int p,ZaD C,Zad true x]=.exn ⟨14,[]⟩:=by
 have e:=h p C x hp iC z
 generalize ZaD C=cC at *
 generalize Zad true x=xx at *
 simp[Zba,Df.run,Zac,e]
theorem Znl{Γ:Gam}(h:Zmy Γ 180)(p:Int)(C:C6)(x:R3)(hp:P4 p)(iC:InC p C)(z:NWh p C):ZfY.run Γ [.int p,ZaD C,Zad true x]=.exn ⟨14,[]⟩:=by
 have e:=h p C x hp iC z
 generalize ZaD C=cC at *
 generalize Zad true x=xx at *
 simp[ZfY,Df.run,Zac,e]
theorem ZqP{Γ:Gam}(hu:Γ.up 14=[14,0]):ZbN.run Γ [.exc 14 []]=.ok (.bl false):=by
 simp[ZbN,Df.run,Zac,hu,kiD,ZdR]
structure X57 (Γ:Gam):Prop where
 po:Zmy Γ 180
 pe:Zmy Γ 149
 si:Zmy Γ 186
 ta:Zmy Γ 185
 me:Zmy Γ 184
 an:Γ.F 191 [.exc 14 []]=.ok (.bl false)
 up:Γ.up 14=[14,0]
theorem Ziq{Γ:Gam}{p w:Int}{cC xx:D}{o:Rho->O}(h0:evS Γ [si p,sh cC,sh xx,si w,sh (.bl false),none] (.expr (.call 180 (.cons (.var 0) (.cons (.var 1) (.cons (.var 2) .nil)))))=o [si p,sh cC,sh xx,si w,sh (.bl false),none])(h1:evS Γ [si p,sh cC,sh xx,si w,sh (.bl false),none] (.expr (.call 149 (.cons (.var 0) (.cons (.var 1) (.cons (.var 2) .nil)))))=o [si p,sh cC,sh xx,si w,sh (.bl false),none])(h2:evS Γ [si p,sh cC,sh xx,si w,sh (.bl false),none] (.expr (.call 186 (.cons (.var 0) (.cons (.var 1) (.cons (.var 2) .nil)))))=o [si p,sh cC,sh xx,si w,sh (.bl false),none])(h3:evS Γ [si p,sh cC,sh xx,si w,sh (.bl false),none] (.expr (.call 185 (.cons (.var 0) (.cons (.var 1) (.cons (.var 2) .nil)))))=o [si p,sh cC,sh xx,si w,sh (.bl false),none])(h4:evS Γ [si p,sh cC,sh xx,si w,sh (.bl false),none] (.expr (.call 184 (.cons (.var 0) (.cons (.var 1) (.cons (.var 2) .nil)))))=o [si p,sh cC,sh xx,si w,sh (.bl false),none])(ho:∀ ρ,(o ρ).seq (fun ρ'=>.next ρ')=o ρ:=by intro ρ;rfl):evSs Γ [si p,sh cC,sh xx,si w,sh (.bl false),none] ZpH=o [si p,sh cC,sh xx,si w,sh (.bl false),none]:=by
 generalize hρ:[si p,sh cC,sh xx,si w,sh (.bl false),none]=ρ at *
 have st:∀ (n:Int) (A B:Ss),evSs Γ ρ (.cons (.ife (.cmp .Eq (.var 3) (.int n)) A B) .nil)=if w=n then evSs Γ ρ A else evSs Γ ρ B:=fun n A B=>by
  by_cases h:w=n
  ·rw[if_pos h,<- hρ];simp[h]
  ·rw[if_neg h,<- hρ];simp[h]
 have ex:∀ c,evSs Γ ρ (.cons (.expr c) .nil)=(evS Γ ρ (.expr c)).seq fun ρ'=>.next ρ':=fun _=>rfl
 unfold ZpH
 rw[st]
 by_cases w0:w=0
 ·rw[if_pos w0,ex,h0,ho]
 ·rw[if_neg w0,st]
  by_cases w1:w=1
  ·rw[if_pos w1,ex,h1,ho]
  ·rw[if_neg w1,st]
   by_cases w2:w=2
   ·rw[if_pos w2,ex,h2,ho]
   ·rw[if_neg w2,st]
    by_cases w3:w=3
    ·rw[if_pos w3,ex,h3,ho]
    ·rw[if_neg w3,ex,h4,ho]
theorem Zqy{Γ:Gam}(h:X57 Γ)(p:Int)(C:C6)(x:R3)(w:Int)(hp:P4 p)(iC:InC p C)(z:NWh p C):ZaA.run Γ [.int p,ZaD C,Zad true x,.int w]=.ok (.bl true):=by
 have e0:=h.po p C x hp iC z
 have e1:=h.pe p C x hp iC z
 have e2:=h.si p C x hp iC z
 have e3:=h.ta p C x hp iC z
 have e4:=h.me p C x hp iC z
 have an:=h.an
 have up:=h.up
 generalize ZaD C=cC at *
 generalize Zad true x=xx at *
 have tb:evSs Γ [si p,sh cC,sh xx,si w,sh (.bl false),none] ZpH=.exn ⟨14,[]⟩ [si p,sh cC,sh xx,si w,sh (.bl false),none]:=Ziq (o:=fun ρ=>.exn ⟨14,[]⟩ ρ) (by simp[e0]) (by simp[e1]) (by simp[e2]) (by simp[e3]) (by simp[e4])
 simp[ZaA,Df.run,Zac,tb,up,kiD,ZdR,an]
structure Y57 (Γ:Gam):Prop where
 po:ZeG Γ
 pe:ZgH Γ
 si:Zo6 Γ
 ta:ZsP Γ
 me:ZlA Γ
theorem ZqG{Γ:Gam}(h:Y57 Γ)(p:Int)(a b c:R3)(C:C6)(x:R3)(w:Int)(hp:P4 p)(g:Zae a b c%p≠0)(iC:InC p C)(z:Whl p C)(pC:PrC p C (E4 0 (Zfc p) a b c))(nx:NF p x):ZaA.run Γ [.int p,ZaD C,Zad true x,.int w]=.ok (.bl false):=by
 have e0:=h.po p C x hp iC z nx
 have e1:=h.pe p C x hp iC z nx
 have e2:=h.si p a b c C x hp g iC z pC nx
 have e3:=h.ta p a b c C x hp g iC z pC nx
 have e4:=h.me p C x hp iC z nx.1
 generalize ZbF (ZcK p C x)=m4 at *
 generalize ZbF (ZpI p C (pol p C x))=m3 at *
 generalize Zad true (pol p C x)=m0 at *
 generalize Zad true (pole p C x)=m1 at *
 generalize ZhG (ZcK p C (pol p C x)).length=m2 at *
 generalize ZaD C=cC at *
 generalize Zad true x=xx at *
 have tb:evSs Γ [si p,sh cC,sh xx,si w,sh (.bl false),none] ZpH=.next [si p,sh cC,sh xx,si w,sh (.bl false),none]:=Ziq (o:=fun ρ=>.next ρ) (by simp[e0]) (by simp[e1]) (by simp[e2]) (by simp[e3]) (by simp[e4])
 simp[ZaA,Df.run,Zac,tb]
structure H57 (Γ:Gam) (ns:List Int):Prop where
 pr:Zlz Γ 156 ns
 mi:Zf8 Γ 155 ns
 tb:ZxO Γ 159 ns
 pt:Zo8 Γ
 cv:ZxP Γ
 rf:∀ (p:Int) (C:C6) (x:R3) (w:Int),P4 p->InC p C->NWh p C->Γ.F 192 [.int p,ZaD C,Zad true x,.int w]=.ok (.bl true)
 no:∀ (p:Int) (a b c:R3) (C:C6) (x:R3) (w:Int),P4 p->Zae a b c%p≠0->InC p C->Whl p C->PrC p C (E4 0 (Zfc p) a b c)->NF p x->Γ.F 192 [.int p,ZaD C,Zad true x,.int w]=.ok (.bl false)
theorem ZrU{Γ:Gam}{ns:List Int}(h:H57 Γ ns):Zd0.run Γ [scr ns]=.ok (.bl true):=by
 obtain⟨p,hp,e1⟩:=h.pr
 obtain⟨a,b,c,g,e2⟩:=h.tb p hp
 obtain⟨m,m0,e3⟩:=h.mi 10 (by decide)
 obtain⟨m',m0',e4⟩:=h.mi 11 (by decide)
 obtain⟨x,ix,lx,e5⟩:=h.pt p (m' / 5) hp
 have q0:=Int.emod_nonneg (m / 7) (b:=3) (by decide)
 have q1:=Int.emod_lt_of_pos (m / 7) (b:=3) (by decide)
 obtain⟨w,hw,hw',ew⟩:∃ w:Nat,W4 w/\w≠0/\1+m / 7%3=(w:Int):=by
  refine⟨(1+m / 7%3).toNat,?_,by omega,by omega⟩
  unfold W4
  omega
 obtain⟨C,iC,lC,pC,e6⟩:=h.cv p a b c w g hw
 rw[<- ew] at e6
 have zC:NWh p C:=by
  have:=(ZlC hw hp g.nz pC)
  by_cases q:Zae (tw0 C) (tw1 C) (tw2 C)%p=0
  ·exact q
  ·exact absurd (this.mp q) hw'
 have w0:W4 0:=.inl rfl
 obtain⟨C',iC',lC',pC',e7⟩:=h.cv p a b c 0 g w0
 have e7':Γ.F 163 [.int p,ZeQ a b c,.int 0]=.ok (ZaD C'):=e7
 have zC':Whl p C':=(ZlC w0 hp g.nz pC').mpr rfl
 have rg:Zaz 0 5=.ok [.int 0,.int 1,.int 2,.int 3,.int 4]:=by rfl
 have r1:∀ k:Int,Γ.F 192 [.int p,ZaD C,Zad true x,.int k]=.ok (.bl true):=fun k=>h.rf p C x k hp iC zC
 have r2:∀ k:Int,Γ.F 192 [.int p,ZaD C',Zad true x,.int k]=.ok (.bl false):=fun k=>h.no p a b c C' x k hp g.nz iC' zC' pC' ⟨ix,lx⟩
 clear e7 zC zC' pC pC' lC lC' iC iC' ew hw hw'
 generalize hW:1+m / 7%3=W at *
 generalize ZeQ a b c=RR at *
 generalize ZaD C=cC at *
 generalize ZaD C'=cC' at *
 generalize Zad true x=xx at *
 generalize scr ns=S at *
 have c1:Zam (cG Γ [sh S,si p,sh RR,sh cC,sh xx,none,none,none] 6 Zaa) (cF Γ [sh S,si p,sh RR,sh cC,sh xx,none,none,none] 6 Zbo) [.int 0,.int 1,.int 2,.int 3,.int 4]=.ok [.bl true,.bl true,.bl true,.bl true,.bl true]:=by
  have k1:∀ k:Int,cF Γ [sh S,si p,sh RR,sh cC,sh xx,none,none,none] 6 Zbo (.int k)=.ok (.bl true):=fun k=>by simp[cF,Zbo,r1]
  have k2:∀ d,cG Γ [sh S,si p,sh RR,sh cC,sh xx,none,none,none] 6 Zaa d=.ok true:=fun _=>rfl
  simp[Zam,k1,k2]
 have c2:Zam (cG Γ [sh S,si p,sh RR,sh cC,sh xx,sh cC',none,none] 7 Zaa) (cF Γ [sh S,si p,sh RR,sh cC,sh xx,sh cC',none,none] 7 Zbn) [.int 0,.int 1,.int 2,.int 3,.int 4]=.ok [.bl false,.bl false,.bl false,.bl false,.bl false]:=by
  have k1:∀ k:Int,cF Γ [sh S,si p,sh RR,sh cC,sh xx,sh cC',none,none] 7 Zbn (.int k)=.ok (.bl false):=fun k=>by simp[cF,Zbn,r2]
  have k2:∀ d,cG Γ [sh S,si p,sh RR,sh cC,sh xx,sh cC',none,none] 7 Zaa d=.ok true:=fun _=>rfl
  simp[Zam,k1,k2]
 have al:biD .all [.lst [.bl true,.bl true,.bl true,.bl true,.bl true]]=.ok (.bl true):=rfl
 have an:biD .any [.lst [.bl false,.bl false,.bl false,.bl false,.bl false]]=.ok (.bl false):=rfl
 simp[Zd0,Df.run,Zac,e1,e2,e3,e4,e5,e6,e7',hW,rg,c1,c2,al,an]
noncomputable def Zy1:Nat->List Nat
 | 14=>[14,0]
 | _=>[]
noncomputable def Zpc:Nat->List D->R Ex
 | 14,_=>.ok ⟨14,[]⟩
 | _,_=>.bad
noncomputable def Q57:Prg:=⟨true,fun
 | 1=>ZjU
 | 9=>Za8
 | 17=>Zcc
 | 23=>Zd1
 | 24=>ZjV
 | 61=>ZdZ
 | 69=>ZdW
 | 70=>ZbJ
 | 104=>Zd2
 | 91=>ZdX
 | 78=>ZcX
 | 98=>Zbr
 | 92=>Zo0
 | 106=>Zb0
 | 126=>ZgC
 | 131=>ZbH
 | 136=>ZbC
 | 147=>Zbf
 | 148=>ZaQ
 | 180=>ZdY
 | 149=>ZfZ
 | 184=>Zcd
 | 185=>Zba
 | 186=>ZfY
 | 155=>ZaW
 | 156=>Zv1 155
 | 157=>Zbe
 | 158=>ZbM
 | 159=>Zut 155
 | 160=>ZaZ
 | 161=>ZgD
 | 162=>Zei
 | 163=>ZaB
 | 191=>ZbN
 | 192=>ZaA
 | 193=>Zd0
 | _=>⟨0,false,.nil⟩,fun
 | 0=>ZiB
 | _=>.non,Zy1,Zpc⟩
theorem Zwo(ns:List Int)(hl:ns.length<=63):(gam Q57 10).F 193 [scr ns]=.ok (.bl true):=by
 have rs:∀ n,ZcF (gam Q57 (n+1)):=fun n p m hp=>Zan (Zqz _ p m hp)
 have mi:∀ n,Zf8 (gam Q57 (n+1)) 155 ns:=fun n k hk=>let ⟨m,m0,e⟩:=ZqH _ ns k hk;⟨m,m0,Zan e⟩
 have tu:∀ n,Zd9 (gam Q57 (n+2)):=fun n p m hp z=>let ⟨t,t1,t2,t3,e⟩:=ZiV (rs n) p m hp z;⟨t,t1,t2,t3,Zan e⟩
 have fo:∀ n,ZgI (gam Q57 (n+3)):=fun n p b xs l t hp e it=>Zan (Znr (rs (n+1)) (tu n) hp e it)
 have me:∀ n,Zfb (gam Q57 (n+2)):=fun n p q a b c hp ha hb hc=>Zan (Znq (rs n) p q a b c hp ha hb hc)
 have tf:∀ n,Zka (gam Q57 (n+4)):=fun n p t q a b c hp ha hb hc z l u e it=>Zan (Zqu (me (n+1)) (fo n) p t q a b c hp ha hb hc z l u e it)
 have co:∀ n,ZmA (gam Q57 (n+1)):=fun n t q a b c=>Zan (ZqL _ t q a b c)
 have su:∀ n,Zmw (gam Q57 (n+2)):=fun n p t q q' a b c x hp ha hb hc hx=>Zan (Zqx (rs n) p t q q' a b c x hp ha hb hc hx)
 have cr:∀ n,Zkf (gam Q57 (n+2)):=fun n a b c ha hb hc n1 n2 n3=>Zan (Znt (fun a b ha hb ne=>Zan (Znu _ a b ha hb ne)) a b c ha hb hc n1 n2 n3)
 have ba:∀ n,ZmB (gam Q57 (n+5)):=fun n p a b c hp ha hb hc z l u e it=>Zan (ZqM (cr (n+2)) (co (n+3)) (tf n) p a b c hp ha hb hc z l u e it)
 have tw:∀ n,Zfa (gam Q57 (n+2)):=fun n p C hp=>Zan (Znk (rs n) p C hp)
 have wh:∀ n,Zhy (gam Q57 (n+3)):=fun n p C hp iC z=>Zan (ZkS (tw n) (me n) p C hp iC z)
 have aw:∀ n,Zkg (gam Q57 (n+4)):=fun n p C hp iC z=>Zan (ZqN (wh n) p C hp iC z)
 have pt:∀ n,Zkb (gam Q57 (n+5)):=fun n p C hp iC z=>let ⟨a,b,c,h,e⟩:=ZqB (aw n) (tw (n+2)) (tf n) p C hp iC z;⟨a,b,c,h,Zan e⟩
 have ld:∀ n,Zkd (gam Q57 (n+4)):=fun n p a b c f g i l=>let ⟨y,h1,h2,h3,e⟩:=ZqK (su (n+1)) (fo n) p a b c f g i l;⟨y,h1,h2,h3,Zan e⟩
 have f3:∀ n,Zke (gam Q57 (n+1)):=fun n p b xs l t hp e it=>Zan (Zns _ hp e it)
 have li:∀ n,Zmz (gam Q57 (n+2)):=fun n p x y hp ix iy=>Zan (ZqJ (rs n) p x y hp ix iy)
 have va:∀ n,Zj9 (gam Q57 (n+2)):=fun n p C x hp iC ix=>Zan (Znj (rs n) p C x hp iC ix)
 have tr:∀ n,ZsO (gam Q57 (n+1)):=fun n p hp=>by
  have e:=ZvP (gam Q57 n) p hp
  show ZcU true (ZdW.run (gam Q57 n) [.int p])=_
  rw[e]
  rfl
 have po:∀ n,Zmx (gam Q57 (n+3)):=fun n p l hp il=>by
  have e:=ZqA (tr (n+1)) (li n) p l hp il
  show ZcU true (ZbJ.run (gam Q57 (n+2)) [.int p,Zad true l])=_
  rw[e]
  rfl
 have pl:∀ n,ZeG (gam Q57 (n+6)):=fun n=>Zzk fun p C x hp iC z ix lx=>let ⟨y,h1,h2,h3,e⟩:=Zno (pt n) (ld (n+1)) p C x hp iC z ix lx;⟨y,h1,h2,h3,Zan e⟩
 have pe:∀ n,ZgH (gam Q57 (n+6)):=fun n=>Zv2 fun p C x hp iC z ix lx=>let ⟨y,h1,h2,h3,e⟩:=ZqE (pt n) (ba n) (ld (n+1)) p C x hp iC z ix lx;⟨y,h1,h2,h3,Zan e⟩
 have mt:∀ n,ZlA (gam Q57 (n+5)):=fun n p C l hp iC z il=>by
  have e:=ZvR (aw n) (po (n+1)) (va (n+2)) p C l hp iC z il
  show ZcU true (Zcd.run (gam Q57 (n+4)) [.int p,ZaD C,Zad true l])=_
  rw[e]
  rfl
 have wd:∀ n,ZsN (gam Q57 (n+3)):=fun n p C hp iC=>Zan (ZvO (tw n) (me n) p C hp iC)
 have cx:∀ {x:R D},x=.exn ⟨14,[]⟩->ZcU true x=.exn ⟨14,[]⟩:=fun h=>by rw[h];rfl
 have ak:∀ n,Zkh (gam Q57 (n+4)):=fun n p C hp iC z=>cx (ZqO (fun _=>rfl) (wd n) p C hp iC z)
 have pn:∀ n,Zkc (gam Q57 (n+5)):=fun n p C hp iC z=>cx (ZqC (ak n) p C hp iC z)
 have px:∀ n,Zmy (gam Q57 (n+6)) 180:=fun n p C x hp iC z=>cx (ZqF (pn n) p C x hp iC z)
 have x57:X57 (gam Q57 8):=⟨px 2,fun p C x hp iC z=>cx (Znn (pn 2) p C x hp iC z),fun p C x hp iC z=>cx (Znl (px 1) p C x hp iC z),fun p C x hp iC z=>cx (Zqv (px 1) p C x hp iC z),fun p C x hp iC z=>cx (ZqI (ak 3) p C x hp iC z),Zan (ZqP (Γ:=gam Q57 7) rfl),rfl⟩
 have y57:Y57 (gam Q57 8):=by
  refine⟨pl 2,pe 2,fun p a b c C x hp z iC w h hx=>Zan (Znm (show (gam Q57 7).G 0=ZiB from rfl) (pl 1) (mt 2) p a b c C x hp z iC w h hx),fun p a b c C x hp z iC w h hx=>?_,mt 3⟩
  have e:=Zqw (pl 1) (mt 2) p a b c C x hp z iC w h hx
  show ZcU true (Zba.run (gam Q57 7) [.int p,ZaD C,Zad true x])=_
  rw[e]
  rfl
 have h:H57 (gam Q57 9) ns:=by
  refine⟨?_,mi 8,fun p hp=>?_,fun p n hp=>?_,fun p a b c w g hw=>?_,fun p C x w hp iC z=>Zan (Zqy x57 p C x w hp iC z),fun p a b c C x w hp g iC z pC nx=>Zan (ZqG y57 p a b c C x w hp g iC z pC nx)⟩
  ·obtain⟨p,hp,e⟩:=ZkT (mi 7)
   exact⟨p,hp,Zan e⟩
  ·obtain⟨a,b,c,g,e⟩:=ZvQ hl (mi 7) p hp
   exact⟨a,b,c,g,Zan e⟩
  ·obtain⟨x,h1,h2,e⟩:=Znp _ p n hp
   exact⟨x,h1,h2,Zan e⟩
  ·obtain⟨C,h1,h2,h3,e⟩:=ZvS (f3 7) (fun p a b hp ha hb=>Zan (ZqD _ p a b hp ha hb)) p a b c w g hw
   exact⟨C,h1,h2,h3,Zan e⟩
 exact Zan (ZrU h)
end OvC
end
namespace OvC
set_option genInjectivity false in
structure Eleven (P:Prop) where
 (α1 α2 α3 α4 α5 α6 α7 α8 α9 α10 α11:Type)
 (l1 r1:PySem.World->α1)
 (l2 r2:PySem.World->α2)
 (l3 r3:PySem.World->α3)
 (l4 r4:PySem.World->α4)
 (l5 r5:PySem.World->α5)
 (l6 r6:PySem.World->α6)
 (l7 r7:PySem.World->α7)
 (l8 r8:PySem.World->α8)
 (l9 r9:PySem.World->α9)
 (l10 r10:PySem.World->α10)
 (l11 r11:PySem.World->α11)
 go:(∀ w,l1 w=r1 w)->(∀ w,l2 w=r2 w)->(∀ w,l3 w=r3 w)->(∀ w,l4 w=r4 w)->(∀ w,l5 w=r5 w)->(∀ w,l6 w=r6 w)->(∀ w,l7 w=r7 w)->(∀ w,l8 w=r8 w)->(∀ w,l9 w=r9 w)->(∀ w,l10 w=r10 w)->(∀ w,l11 w=r11 w)->P
theorem map_pair{σ α β:Type}{A:σ->α}{B:σ->β}{r:Option σ}{a:α}{b:β}(h1:Option.map A r=some a)(h2:Option.map B r=some b):Option.map (fun s=>(A s,B s)) r=some (a,b):=by
 cases r with
 | none=>cases h1
 | some s=>cases h1;cases h2;rfl
theorem map_take{σ α:Type}{B:σ->List α}{r:Option σ}{v:List α}(n:Nat)(h1:Option.map (fun s=>(B s).take n) r=some (v.take n))(h2:Option.map (fun s=>(B s).drop n) r=some (v.drop n)):Option.map B r=some v:=by
 cases r with
 | none=>cases h1
 | some s =>
  have e1:(B s).take n=v.take n:=by injection h1
  have e2:(B s).drop n=v.drop n:=by injection h2
  show some (B s)=some v
  rw[<- List.take_append_drop n (B s),<- List.take_append_drop n v,e1,e2]
end OvC
namespace OvC
open PySem PySem.Spec PyProof.Rows Ov L2
noncomputable def tp57(i:Nat):Stmt:=PySem.Challenge.pw_ovalfield_k57_not_whole.main.body.getD i (.Pass ⟨0,0,0,0⟩)
noncomputable def ZrR:List (Str×Nat×Nat):=([("rest", 1,2),("turned_over", 9,2),("one_form", 17,2),("crossed", 23,2),("lies", 24,3),("measure", 61,4),("triples", 69,1),("points_on", 70,2),("columns", 104,1),("sums_by", 91,3),("table_of", 78,2),("crossed_rows", 98,1),("led", 92,3),("table_back", 106,2),("value", 126,3),("twice_table", 131,2),("is_whole", 136,2),("ask_whole", 147,2),("polar_table", 148,2),("polar", 180,3),("pole", 149,3),("met_by", 184,3),("tangents", 185,3),("side", 186,3),("_law_mixed", 155,2),("_law_prime", 156,1),("_law_point", 157,2),("_law_form", 158,2),("_law_table", 159,3),("_law_product", 160,2)]:List (Str×Nat×Nat))++([("_law_curve", 163,3),("_law_another", 191,1001),("_law_refused", 192,4),("law", 193,1)]:List (Str×Nat×Nat))
noncomputable def ZyV:List Str:=["ValueError", "all", "any", "isinstance", "len", "list", "min", "range", "sorted", "tuple", "zip"]
noncomputable def Zne:List (Str×Nat):=[("NotWhole", 14)]
noncomputable def Zor:List (Str×Nat):=[("NoPrime", 1),("NoOver", 2),("NoTriple", 3),("NoTable", 4),("NoCount", 13),("NoCurve", 5),("TooMany", 15),("NoPicture", 16),("NoRow", 12),("NothingDone", 17),("BadRow", 106),("Alike", 107),("NotOn", 108),("OnLine", 118),("NotWhole", 14),("OvalError", 0)]
noncomputable def ZrL:List (Str×Nat):=[("SIDES", 0)]
noncomputable abbrev C57(h:Bool)(ps N:List Str)(i d:Nat):Bool:=Zh8 80 h ZrR ZyV Zne Zor ZrL ps N (tp57 i) (Q57.defs d)
theorem Zsn:C57 false ["p", "n"] ["p", "n"] 18 1=true:=by decide +kernel
theorem Zsm:C57 false ["p", "n"] ["p", "n", "turned"] 19 9=true:=by decide +kernel
theorem Zsl:C57 false ["p", "numbers"] ["p", "numbers", "rests", "first", "factor", "#5", "#6"] 21 17=true:=by decide +kernel
theorem Zsk:C57 false ["one", "other"] ["one", "other"] 22 23=true:=by decide +kernel
theorem Zsj:C57 false ["p", "point", "line"] ["p", "point", "line"] 23 24=true:=by decide +kernel
theorem Zsi:C57 false ["p", "one", "other", "third"] ["p", "one", "other", "third"] 25 61=true:=by decide +kernel
theorem Zsh:C57 false ["p"] ["p", "told", "z", "y", "#4"] 26 69=true:=by decide +kernel
theorem Zsg:C57 false ["p", "line"] ["p", "line", "#2"] 27 70=true:=by decide +kernel
theorem Zsf:C57 false ["rows"] ["rows"] 29 104=true:=by decide +kernel
theorem Zse:C57 false ["p", "rows", "numbers"] ["p", "rows", "numbers", "#3"] 30 91=true:=by decide +kernel
theorem ZoY:C57 false ["p", "rows"] ["p", "rows", "nine"] 31 78=true:=by decide +kernel
theorem ZoX:C57 false ["table"] ["table"] 32 98=true:=by decide +kernel
theorem ZoW:C57 false ["p", "table", "point"] ["p", "table", "point"] 33 92=true:=by decide +kernel
theorem ZoV:C57 false ["p", "table"] ["p", "table"] 34 106=true:=by decide +kernel
theorem ZoU:C57 false ["p", "curve", "point"] ["p", "curve", "point", "squares", "products"] 36 126=true:=by decide +kernel
theorem ZoT:C57 false ["p", "curve"] ["p", "curve"] 37 131=true:=by decide +kernel
theorem ZoS:C57 false ["p", "curve"] ["p", "curve", "rows"] 38 136=true:=by decide +kernel
theorem ZoR:C57 false ["p", "curve"] ["p", "curve"] 41 147=true:=by decide +kernel
theorem ZoQ:C57 false ["p", "curve"] ["p", "curve"] 42 148=true:=by decide +kernel
theorem ZoP:C57 false ["p", "curve", "point"] ["p", "curve", "point"] 43 180=true:=by decide +kernel
theorem ZoO:C57 false ["p", "curve", "line"] ["p", "curve", "line"] 44 149=true:=by decide +kernel
theorem ZoN:C57 false ["p", "curve", "line"] ["p", "curve", "line", "#3"] 45 184=true:=by decide +kernel
theorem ZoM:C57 false ["p", "curve", "point"] ["p", "curve", "point", "#3"] 46 185=true:=by decide +kernel
theorem ZoL:C57 false ["p", "curve", "point"] ["p", "curve", "point"] 47 186=true:=by decide +kernel
theorem ZoK:C57 false ["_law_script", "_law_k"] ["_law_script", "_law_k", "_law_cell"] 49 155=true:=by decide +kernel
theorem ZoJ:C57 false ["_law_script"] ["_law_script"] 50 156=true:=by decide +kernel
theorem ZoI:C57 false ["_law_p", "_law_number"] ["_law_p", "_law_number", "_law_n"] 51 157=true:=by decide +kernel
theorem ZoH:C57 false ["_law_p", "_law_numbers"] ["_law_p", "_law_numbers", "_law_head", "_law_by", "#4", "#5", "#6"] 52 158=true:=by decide +kernel
theorem ZoG:C57 false ["_law_p", "_law_script", "_law_at"] ["_law_p", "_law_script", "_law_at", "_law_rows", "_law_k", "_law_cell", "_law_i", "_law_j", "_law_times", "#9", "#10", "#11"] 53 159=true:=by decide +kernel
theorem ZoF:C57 false ["_law_one", "_law_other"] ["_law_one", "_law_other", "_law_numbers", "_law_i", "_law_j", "#5"] 54 160=true:=by decide +kernel
theorem ZoE:C57 false ["_law_p", "_law_rows", "_law_way"] ["_law_p", "_law_rows", "_law_way", "_law_one", "_law_other", "_law_third", "_law_square", "_law_odd", "#8", "#9", "#10", "#11", "#12", "#13"] 57 163=true:=by decide +kernel
theorem ZoD:C57 true ["_law_error"] ["_law_error"] 58 191=true:=by decide +kernel
theorem ZoC:C57 false ["_law_p", "_law_curve_here", "_law_triple", "_law_way"] ["_law_p", "_law_curve_here", "_law_triple", "_law_way", "_law_plain", "_law_error"] 59 192=true:=by decide +kernel
theorem ZjQ:C57 false ["_law_script"] ["_law_script", "_law_p", "_law_rows", "_law_curve_here", "_law_triple", "_law_whole", "#6", "#7"] 60 193=true:=by decide +kernel
noncomputable def ZbZ(x0:Addr):ClA
 | 14=>some x0
 | _=>none
set_option maxHeartbeats 0 in
theorem all57{l:PySem.W.OpenLaw}{w:World}{K:Fg}{h:Heap}{mg:Str->Option Value}{fa f0 f1 f2 f3 f4 f5 f6 f7 f8 f9 f10 f11 f12 f13 f14 f15 f16 f17 f18 f19 f20 f21 f22 f23 f24 f25 f26 f27 f28 f29 f30 f31 f32 f33 x0 x1 x2 x3 x4 x5 x6 x7 x8 x9 x10 x11 x12 x13 x14 x15:Addr}(X:K.In h)(G:h.Ns mainGlobals mg)(hfa:mg "law" = some (.ref fa))
  {g0:Addr} {gd0:Option Addr} {gm0:Nat} {gs0:Array (Option Value)} {gu0_0 gu0_1 gu0_2:Tok}
  (a0:FnI K f0 "rest" (tp57 18))
  (a1:FnI K f1 "turned_over" (tp57 19))
  (a2:FnI K f2 "one_form" (tp57 21))
  (a3:FnI K f3 "crossed" (tp57 22))
  (a4:FnI K f4 "lies" (tp57 23))
  (a5:FnI K f5 "measure" (tp57 25))
  (a6:FnI K f6 "triples" (tp57 26))
  (a7:FnI K f7 "points_on" (tp57 27))
  (a8:FnI K f8 "columns" (tp57 29))
  (a9:FnI K f9 "sums_by" (tp57 30))
  (a10:FnI K f10 "table_of" (tp57 31))
  (a11:FnI K f11 "crossed_rows" (tp57 32))
  (a12:FnI K f12 "led" (tp57 33))
  (a13:FnI K f13 "table_back" (tp57 34))
  (a14:FnI K f14 "value" (tp57 36))
  (a15:FnI K f15 "twice_table" (tp57 37))
  (a16:FnI K f16 "is_whole" (tp57 38))
  (a17:FnI K f17 "ask_whole" (tp57 41))
  (a18:FnI K f18 "polar_table" (tp57 42))
  (a19:FnI K f19 "polar" (tp57 43))
  (a20:FnI K f20 "pole" (tp57 44))
  (a21:FnI K f21 "met_by" (tp57 45))
  (a22:FnI K f22 "tangents" (tp57 46))
  (a23:FnI K f23 "side" (tp57 47))
  (a24:FnI K f24 "_law_mixed" (tp57 49))
  (a25:FnI K f25 "_law_prime" (tp57 50))
  (a26:FnI K f26 "_law_point" (tp57 51))
  (a27:FnI K f27 "_law_form" (tp57 52))
  (a28:FnI K f28 "_law_table" (tp57 53))
  (a29:FnI K f29 "_law_product" (tp57 54))
  (a30:FnI K f30 "_law_curve" (tp57 57))
  (a31:FnI K f31 "_law_another" (tp57 58))
  (a32:FnI K f32 "_law_refused" (tp57 59))
  (a33:FnI K f33 "law" (tp57 60))
  (nx0:PySem.W.nsIn K mainGlobals "NotWhole" = some (some (.ref x0)))
  (ex0:PySem.W.excIn K x0 [.type "ValueError", .type "Exception", .type "BaseException", .type "object"] "ValueError.__new__" = true)
  (gax0:PySem.W.findIn K (.ref x0) "__getattribute__" = some (some (.builtin "BaseException.__getattribute__")))
  (gtx0:PySem.W.findIn K (.ref x0) "__getattr__" = some none)
  (clx0:PySem.W.findIn K (.ref x0) "__class__" = some (some (.builtin "object.__class__")))
  (obx0:PySem.W.mroIn K x0 (.type "object")=some true)
  (bex0:PySem.W.subIn K (.ref x0) (.type "BaseException")=some true)
  (svx0:PySem.W.subIn K (.ref x0) (.type "ValueError")=some true)
  (nx1:PySem.W.nsIn K mainGlobals "NoPrime" = some (some (.ref x1)))
  (csx1:PySem.W.mroIn K x1 (.type "object")=some true)
  (tyx1:PySem.W.typeIn K (.ref x1)=some (.type "type"))
  (nx2:PySem.W.nsIn K mainGlobals "NoOver" = some (some (.ref x2)))
  (csx2:PySem.W.mroIn K x2 (.type "object")=some true)
  (tyx2:PySem.W.typeIn K (.ref x2)=some (.type "type"))
  (nx3:PySem.W.nsIn K mainGlobals "NoTriple" = some (some (.ref x3)))
  (csx3:PySem.W.mroIn K x3 (.type "object")=some true)
  (tyx3:PySem.W.typeIn K (.ref x3)=some (.type "type"))
  (nx4:PySem.W.nsIn K mainGlobals "NoTable" = some (some (.ref x4)))
  (csx4:PySem.W.mroIn K x4 (.type "object")=some true)
  (tyx4:PySem.W.typeIn K (.ref x4)=some (.type "type"))
  (nx5:PySem.W.nsIn K mainGlobals "NoCount" = some (some (.ref x5)))
  (csx5:PySem.W.mroIn K x5 (.type "object")=some true)
  (tyx5:PySem.W.typeIn K (.ref x5)=some (.type "type"))
  (nx6:PySem.W.nsIn K mainGlobals "NoCurve" = some (some (.ref x6)))
  (csx6:PySem.W.mroIn K x6 (.type "object")=some true)
  (tyx6:PySem.W.typeIn K (.ref x6)=some (.type "type"))
  (nx7:PySem.W.nsIn K mainGlobals "TooMany" = some (some (.ref x7)))
  (csx7:PySem.W.mroIn K x7 (.type "object")=some true)
  (tyx7:PySem.W.typeIn K (.ref x7)=some (.type "type"))
  (nx8:PySem.W.nsIn K mainGlobals "NoPicture" = some (some (.ref x8)))
  (csx8:PySem.W.mroIn K x8 (.type "object")=some true)
  (tyx8:PySem.W.typeIn K (.ref x8)=some (.type "type"))
  (nx9:PySem.W.nsIn K mainGlobals "NoRow" = some (some (.ref x9)))
  (csx9:PySem.W.mroIn K x9 (.type "object")=some true)
  (tyx9:PySem.W.typeIn K (.ref x9)=some (.type "type"))
  (nx10:PySem.W.nsIn K mainGlobals "NothingDone" = some (some (.ref x10)))
  (csx10:PySem.W.mroIn K x10 (.type "object")=some true)
  (tyx10:PySem.W.typeIn K (.ref x10)=some (.type "type"))
  (nx11:PySem.W.nsIn K mainGlobals "BadRow" = some (some (.ref x11)))
  (csx11:PySem.W.mroIn K x11 (.type "object")=some true)
  (tyx11:PySem.W.typeIn K (.ref x11)=some (.type "type"))
  (nx12:PySem.W.nsIn K mainGlobals "Alike" = some (some (.ref x12)))
  (csx12:PySem.W.mroIn K x12 (.type "object")=some true)
  (tyx12:PySem.W.typeIn K (.ref x12)=some (.type "type"))
  (nx13:PySem.W.nsIn K mainGlobals "NotOn" = some (some (.ref x13)))
  (csx13:PySem.W.mroIn K x13 (.type "object")=some true)
  (tyx13:PySem.W.typeIn K (.ref x13)=some (.type "type"))
  (nx14:PySem.W.nsIn K mainGlobals "OnLine" = some (some (.ref x14)))
  (csx14:PySem.W.mroIn K x14 (.type "object")=some true)
  (tyx14:PySem.W.typeIn K (.ref x14)=some (.type "type"))
  (nx15:PySem.W.nsIn K mainGlobals "OvalError" = some (some (.ref x15)))
  (csx15:PySem.W.mroIn K x15 (.type "object")=some true)
  (tyx15:PySem.W.typeIn K (.ref x15)=some (.type "type"))
  (sux0x1:PySem.W.subIn K (.ref x0) (.ref x1)=some false)
  (sux0x2:PySem.W.subIn K (.ref x0) (.ref x2)=some false)
  (sux0x3:PySem.W.subIn K (.ref x0) (.ref x3)=some false)
  (sux0x4:PySem.W.subIn K (.ref x0) (.ref x4)=some false)
  (sux0x5:PySem.W.subIn K (.ref x0) (.ref x5)=some false)
  (sux0x6:PySem.W.subIn K (.ref x0) (.ref x6)=some false)
  (sux0x7:PySem.W.subIn K (.ref x0) (.ref x7)=some false)
  (sux0x8:PySem.W.subIn K (.ref x0) (.ref x8)=some false)
  (sux0x9:PySem.W.subIn K (.ref x0) (.ref x9)=some false)
  (sux0x10:PySem.W.subIn K (.ref x0) (.ref x10)=some false)
  (sux0x11:PySem.W.subIn K (.ref x0) (.ref x11)=some false)
  (sux0x12:PySem.W.subIn K (.ref x0) (.ref x12)=some false)
  (sux0x13:PySem.W.subIn K (.ref x0) (.ref x13)=some false)
  (sux0x14:PySem.W.subIn K (.ref x0) (.ref x14)=some false)
  (sux0x0:PySem.W.subIn K (.ref x0) (.ref x0)=some true)
  (sux0x15:PySem.W.subIn K (.ref x0) (.ref x15)=some true)
  (gn0:PySem.W.nsIn K mainGlobals "SIDES" = some (some (.ref g0)))
  (gk0:K.lookup g0=some ⟨.type "tuple", gd0,.seq #[.str (Str.ofString "inner") gu0_0,.str (Str.ofString "on") gu0_1,.str (Str.ofString "outer") gu0_2] gm0,gs0⟩)
  (z0:PySem.W.nsIn K mainGlobals "ValueError" = some none) (z1:PySem.W.nsIn K mainGlobals "all" = some none) (z2:PySem.W.nsIn K mainGlobals "any" = some none) (z3:PySem.W.nsIn K mainGlobals "isinstance" = some none) (z4:PySem.W.nsIn K mainGlobals "len" = some none) (z5:PySem.W.nsIn K mainGlobals "list" = some none) (z6:PySem.W.nsIn K mainGlobals "min" = some none) (z7:PySem.W.nsIn K mainGlobals "range" = some none) (z8:PySem.W.nsIn K mainGlobals "sorted" = some none) (z9:PySem.W.nsIn K mainGlobals "tuple" = some none) (z10:PySem.W.nsIn K mainGlobals "zip" = some none) :
  ∃ fd:FuncData,(∀ (s:Shared) (v:Value),BindsTo s fd ⟨[v],[]⟩ [("_law_script", v)])/\∀ base:Heap,K.In base->base.Ns mainGlobals mg->FnOk l.prog w K mg base (CXR l.prog w) 10 fa fd ["_law_script"] (Zjm K):=by
 obtain⟨_,F,e⟩:=a33;obtain⟨_,_,_,_,_,_,_,_,_,rfl,_,_⟩:=F.ex
 cases hfa.symm.trans (PySem.W.mg_of X G e)
 have Xx0:XcOk K x0:=Zt8 ex0 gax0 gtx0 clx0 obx0 bex0 svx0
 have XT57:XT Q57.up Q57.xn (ZbZ x0) Zne Zor K mg:=by
  refine⟨?_,all_cons ⟨_,rfl,PySem.W.mg_of X G nx0⟩ (Zd6),all_cons ⟨_,PySem.W.mg_of X G nx1,?kx1,?sx1⟩ (all_cons ⟨_,PySem.W.mg_of X G nx2,?kx2,?sx2⟩ (all_cons ⟨_,PySem.W.mg_of X G nx3,?kx3,?sx3⟩ (all_cons ⟨_,PySem.W.mg_of X G nx4,?kx4,?sx4⟩ (all_cons ⟨_,PySem.W.mg_of X G nx5,?kx5,?sx5⟩ (all_cons ⟨_,PySem.W.mg_of X G nx6,?kx6,?sx6⟩ (all_cons ⟨_,PySem.W.mg_of X G nx7,?kx7,?sx7⟩ (all_cons ⟨_,PySem.W.mg_of X G nx8,?kx8,?sx8⟩ (all_cons ⟨_,PySem.W.mg_of X G nx9,?kx9,?sx9⟩ (all_cons ⟨_,PySem.W.mg_of X G nx10,?kx10,?sx10⟩ (all_cons ⟨_,PySem.W.mg_of X G nx11,?kx11,?sx11⟩ (all_cons ⟨_,PySem.W.mg_of X G nx12,?kx12,?sx12⟩ (all_cons ⟨_,PySem.W.mg_of X G nx13,?kx13,?sx13⟩ (all_cons ⟨_,PySem.W.mg_of X G nx14,?kx14,?sx14⟩ (all_cons ⟨_,PySem.W.mg_of X G nx0,?kx0,?sx0⟩ (all_cons ⟨_,PySem.W.mg_of X G nx15,?kx15,?sx15⟩ (Zd6)))))))))))))))),?_,?_⟩
  case refine_1 =>
   intro c C q
   unfold ZbZ at q
   split at q
   ·cases q
    exact Xx0
   ·cases q
  case refine_2 =>
   intro c ds
   show Zpc c ds=.bad\/Zpc c ds=.ok ⟨c,[]⟩
   unfold Zpc
   split<;>first|exact .inr rfl|exact .inl rfl
  case refine_3 =>
   intro c q ds
   show Zpc c ds=.bad
   unfold Zpc
   split<;>first|rfl|exact absurd rfl (q ("NotWhole", 14) (by decide))
  case kx1 =>
   intro c C q
   unfold ZbZ at q
   split at q
   ·cases q
    exact Zax ex0 csx1 tyx1 sux0x1
   ·cases q
  case sx1 =>
   intro c C q
   unfold ZbZ at q
   split at q
   ·cases q
    exact sux0x1
   ·cases q
  case kx2 =>
   intro c C q
   unfold ZbZ at q
   split at q
   ·cases q
    exact Zax ex0 csx2 tyx2 sux0x2
   ·cases q
  case sx2 =>
   intro c C q
   unfold ZbZ at q
   split at q
   ·cases q
    exact sux0x2
   ·cases q
  case kx3 =>
   intro c C q
   unfold ZbZ at q
   split at q
   ·cases q
    exact Zax ex0 csx3 tyx3 sux0x3
   ·cases q
  case sx3 =>
   intro c C q
   unfold ZbZ at q
   split at q
   ·cases q
    exact sux0x3
   ·cases q
  case kx4 =>
   intro c C q
   unfold ZbZ at q
   split at q
   ·cases q
    exact Zax ex0 csx4 tyx4 sux0x4
   ·cases q
  case sx4 =>
   intro c C q
   unfold ZbZ at q
   split at q
   ·cases q
    exact sux0x4
   ·cases q
  case kx5 =>
   intro c C q
   unfold ZbZ at q
   split at q
   ·cases q
    exact Zax ex0 csx5 tyx5 sux0x5
   ·cases q
  case sx5 =>
   intro c C q
   unfold ZbZ at q
   split at q
   ·cases q
    exact sux0x5
   ·cases q
  case kx6 =>
   intro c C q
   unfold ZbZ at q
   split at q
   ·cases q
    exact Zax ex0 csx6 tyx6 sux0x6
   ·cases q
  case sx6 =>
   intro c C q
   unfold ZbZ at q
   split at q
   ·cases q
    exact sux0x6
   ·cases q
  case kx7 =>
   intro c C q
   unfold ZbZ at q
   split at q
   ·cases q
    exact Zax ex0 csx7 tyx7 sux0x7
   ·cases q
  case sx7 =>
   intro c C q
   unfold ZbZ at q
   split at q
   ·cases q
    exact sux0x7
   ·cases q
  case kx8 =>
   intro c C q
   unfold ZbZ at q
   split at q
   ·cases q
    exact Zax ex0 csx8 tyx8 sux0x8
   ·cases q
  case sx8 =>
   intro c C q
   unfold ZbZ at q
   split at q
   ·cases q
    exact sux0x8
   ·cases q
  case kx9 =>
   intro c C q
   unfold ZbZ at q
   split at q
   ·cases q
    exact Zax ex0 csx9 tyx9 sux0x9
   ·cases q
  case sx9 =>
   intro c C q
   unfold ZbZ at q
   split at q
   ·cases q
    exact sux0x9
   ·cases q
  case kx10 =>
   intro c C q
   unfold ZbZ at q
   split at q
   ·cases q
    exact Zax ex0 csx10 tyx10 sux0x10
   ·cases q
  case sx10 =>
   intro c C q
   unfold ZbZ at q
   split at q
   ·cases q
    exact sux0x10
   ·cases q
  case kx11 =>
   intro c C q
   unfold ZbZ at q
   split at q
   ·cases q
    exact Zax ex0 csx11 tyx11 sux0x11
   ·cases q
  case sx11 =>
   intro c C q
   unfold ZbZ at q
   split at q
   ·cases q
    exact sux0x11
   ·cases q
  case kx12 =>
   intro c C q
   unfold ZbZ at q
   split at q
   ·cases q
    exact Zax ex0 csx12 tyx12 sux0x12
   ·cases q
  case sx12 =>
   intro c C q
   unfold ZbZ at q
   split at q
   ·cases q
    exact sux0x12
   ·cases q
  case kx13 =>
   intro c C q
   unfold ZbZ at q
   split at q
   ·cases q
    exact Zax ex0 csx13 tyx13 sux0x13
   ·cases q
  case sx13 =>
   intro c C q
   unfold ZbZ at q
   split at q
   ·cases q
    exact sux0x13
   ·cases q
  case kx14 =>
   intro c C q
   unfold ZbZ at q
   split at q
   ·cases q
    exact Zax ex0 csx14 tyx14 sux0x14
   ·cases q
  case sx14 =>
   intro c C q
   unfold ZbZ at q
   split at q
   ·cases q
    exact sux0x14
   ·cases q
  case kx0 =>
   intro c C q
   unfold ZbZ at q
   split at q
   ·cases q
    exact Zn6 ex0 ex0 sux0x0
   ·cases q
  case sx0 =>
   intro c C q
   unfold ZbZ at q
   split at q
   ·cases q
    exact sux0x0
   ·cases q
  case kx15 =>
   intro c C q
   unfold ZbZ at q
   split at q
   ·cases q
    exact Zax ex0 csx15 tyx15 sux0x15
   ·cases q
  case sx15 =>
   intro c C q
   unfold ZbZ at q
   split at q
   ·cases q
    exact sux0x15
   ·cases q
 have T:Tab K mg (ZbZ x0) ZrR ZyV Zne Zor ZrL Q57 80:=⟨XT57,all_cons (PySem.W.mg_none_of X G z0) (all_cons (PySem.W.mg_none_of X G z1) (all_cons (PySem.W.mg_none_of X G z2) (all_cons (PySem.W.mg_none_of X G z3) (all_cons (PySem.W.mg_none_of X G z4) (all_cons (PySem.W.mg_none_of X G z5) (all_cons (PySem.W.mg_none_of X G z6) (all_cons (PySem.W.mg_none_of X G z7) (all_cons (PySem.W.mg_none_of X G z8) (all_cons (PySem.W.mg_none_of X G z9) (all_cons (PySem.W.mg_none_of X G z10) (Zd6))))))))))),all_cons (Zok (is:=[Str.ofString "inner", Str.ofString "on", Str.ofString "outer"]) (PySem.W.mg_of X G gn0) gk0 (.cons ⟨_,rfl⟩ (.cons ⟨_,rfl⟩ (.cons ⟨_,rfl⟩ (.nil)))) (by simp)) (Zd6),all_cons (Zgm 2 1 X G a0 rfl Zsn fun _ _ _ _ _ _ _ _=>rfl) (all_cons (Zgm 2 9 X G a1 rfl Zsm fun _ _ _ _ _ _ _ _=>rfl) (all_cons (Zgm 2 17 X G a2 rfl Zsl fun _ _ _ _ _ _ _ _=>rfl) (all_cons (Zgm 2 23 X G a3 rfl Zsk fun _ _ _ _ _ _ _ _=>rfl) (all_cons (ZiP 3 24 X G a4 rfl Zsj fun _ _ _ _ _ _ _ _ _=>rfl) (all_cons (Zyf 4 61 X G a5 rfl Zsi fun _ _ _ _ _ _ _ _ _ _=>rfl) (all_cons (Zph 1 69 X G a6 rfl Zsh fun _ _ _ _ _ _ _=>rfl) (all_cons (Zgm 2 70 X G a7 rfl Zsg fun _ _ _ _ _ _ _ _=>rfl) (all_cons (Zph 1 104 X G a8 rfl Zsf fun _ _ _ _ _ _ _=>rfl) (all_cons (ZiP 3 91 X G a9 rfl Zse fun _ _ _ _ _ _ _ _ _=>rfl) (all_cons (Zgm 2 78 X G a10 rfl ZoY fun _ _ _ _ _ _ _ _=>rfl) (all_cons (Zph 1 98 X G a11 rfl ZoX fun _ _ _ _ _ _ _=>rfl) (all_cons (ZiP 3 92 X G a12 rfl ZoW fun _ _ _ _ _ _ _ _ _=>rfl) (all_cons (Zgm 2 106 X G a13 rfl ZoV fun _ _ _ _ _ _ _ _=>rfl) (all_cons (ZiP 3 126 X G a14 rfl ZoU fun _ _ _ _ _ _ _ _ _=>rfl) (all_cons (Zgm 2 131 X G a15 rfl ZoT fun _ _ _ _ _ _ _ _=>rfl) (all_cons (Zgm 2 136 X G a16 rfl ZoS fun _ _ _ _ _ _ _ _=>rfl) (all_cons (Zgm 2 147 X G a17 rfl ZoR fun _ _ _ _ _ _ _ _=>rfl) (all_cons (Zgm 2 148 X G a18 rfl ZoQ fun _ _ _ _ _ _ _ _=>rfl) (all_cons (ZiP 3 180 X G a19 rfl ZoP fun _ _ _ _ _ _ _ _ _=>rfl) (all_cons (ZiP 3 149 X G a20 rfl ZoO fun _ _ _ _ _ _ _ _ _=>rfl) (all_cons (ZiP 3 184 X G a21 rfl ZoN fun _ _ _ _ _ _ _ _ _=>rfl) (all_cons (ZiP 3 185 X G a22 rfl ZoM fun _ _ _ _ _ _ _ _ _=>rfl) (all_cons (ZiP 3 186 X G a23 rfl ZoL fun _ _ _ _ _ _ _ _ _=>rfl) (all_cons (Zgm 2 155 X G a24 rfl ZoK fun _ _ _ _ _ _ _ _=>rfl) (all_cons (Zph 1 156 X G a25 rfl ZoJ fun _ _ _ _ _ _ _=>rfl) (all_cons (Zgm 2 157 X G a26 rfl ZoI fun _ _ _ _ _ _ _ _=>rfl) (all_cons (Zgm 2 158 X G a27 rfl ZoH fun _ _ _ _ _ _ _ _=>rfl) (all_cons (ZiP 3 159 X G a28 rfl ZoG fun _ _ _ _ _ _ _ _ _=>rfl) (all_cons (Zgm 2 160 X G a29 rfl ZoF fun _ _ _ _ _ _ _ _=>rfl) (all_cons (ZiP 3 163 X G a30 rfl ZoE fun _ _ _ _ _ _ _ _ _=>rfl) (all_cons (Zph 1001 191 X G a31 rfl ZoD fun _ _ _ _ _ _ _=>rfl) (all_cons (Zyf 4 192 X G a32 rfl ZoC fun _ _ _ _ _ _ _ _ _ _=>rfl) (all_cons (Zph 1 193 X G ⟨_,F,e⟩ rfl ZjQ fun _ _ _ _ _ _ _=>rfl) (Zd6))))))))))))))))))))))))))))))))))⟩
 exact⟨_,fun s v=>.of_eq rfl,fun base _ _=>Zn5 (Zmp T (Zir T 9) F rfl ZjQ) Zwo⟩
theorem walk57{l:PySem.W.OpenLaw}{q:Program}{loose:List Str}{XP:(Str->Option Value)->Heap->Prop}{YP:World->Heap->Prop}{d:DefRec}{K:Params->Fg}(hn:l.most=some 63)(hdf:d.params.defaults=[])
  (hY:∀ (w:World) (h:Heap),YP w h->(K w.params).In h)
  (F:∀ (w:World) (mg:Str->Option Value) (fa:Addr) (h:Heap),(K w.params).In h->h.Ns mainGlobals mg->mg d.name=some (.ref fa) ->
   ∃ fd:FuncData,(∀ (s:Shared) (u:Value),BindsTo s fd ⟨[u],[]⟩ [("_law_script", u)])/\∀ base:Heap,(K w.params).In base->base.Ns mainGlobals mg->FnOk l.prog w (K w.params) mg base (CXR l.prog w) 10 fa fd ["_law_script"] (Zjm (K w.params))) :
  PySem.W.WalkO q loose XP YP l.row.toRowW d [] (fun f vs=>PySem.call f vs) :=
 L2.walk_of (n:=63) (k:=10) (x := "_law_script") (CX:=fun w=>CXR l.prog w) (sp:=fun w=>Zjm (K w.params)) hn (by decide) hdf ⟨rfl,by decide,by decide⟩ hY F (fun _ H a ns hl _ hS=>⟨a,ns,rfl,hl,hS,fun _ _ z=>z⟩) fun _ _ _ _ _ z=>Zr5 z
end OvC
open PySem PySem.W PyProof.Rows
noncomputable def OvC.view57:PySem.Program:={ PySem.Challenge.pw_ovalfield_k57_not_whole with main:={ PySem.Challenge.pw_ovalfield_k57_not_whole.main with body:=[OvC.tp57 1,OvC.tp57 2,OvC.tp57 3,OvC.tp57 4,OvC.tp57 5,OvC.tp57 6,OvC.tp57 7,OvC.tp57 8,OvC.tp57 9,OvC.tp57 10,OvC.tp57 11,OvC.tp57 12,OvC.tp57 13,OvC.tp57 14,OvC.tp57 15,OvC.tp57 16,OvC.tp57 18,OvC.tp57 19,OvC.tp57 21,OvC.tp57 22,OvC.tp57 23,OvC.tp57 25,OvC.tp57 26,OvC.tp57 27,OvC.tp57 29,OvC.tp57 30,OvC.tp57 31,OvC.tp57 32,OvC.tp57 33,OvC.tp57 34,OvC.tp57 36,OvC.tp57 37,OvC.tp57 38,OvC.tp57 40,OvC.tp57 41,OvC.tp57 42,OvC.tp57 43,OvC.tp57 44,OvC.tp57 45,OvC.tp57 46,OvC.tp57 47,OvC.tp57 49,OvC.tp57 50,OvC.tp57 51,OvC.tp57 52,OvC.tp57 53,OvC.tp57 54,OvC.tp57 55,OvC.tp57 56,OvC.tp57 57,OvC.tp57 58,OvC.tp57 59,OvC.tp57 60] } }
set_option hygiene false
local macro_rules | `(tactic| o_head $H)=>`(tactic| refine holds_open (q:=OvC.view57) (loose:=[]) (Xt:=fun s=>xlAt OvC.view57 [] s&&recOk (RowW.records (OpenRow.toRowW (PySem.Challenge.rw_ovalfield_k57_not_whole.row))) s) (XP:=XL OvC.view57 []) (Yf:=Hook.obs $H) (Ya:=Hook.val $H) (YP:=Hook.says $H) (N:=9420) ?hl (Hook.of $H) (Hook.keeps $H) (fun s e=>xl_of s (Bool.and_eq_true_iff.mp e).1) XL.keeps (by rfl) (by rfl) (by rfl) (fun s e=>recFacts_of (Bool.and_eq_true_iff.mp e).2) (by rfl) (by first|assumption|decide +kernel) (by decide +kernel) ⟨rfl,rfl,rfl,rfl,rfl,by decide +kernel⟩ ?hw ?hc)
set_option maxRecDepth 100000 in
set_option maxHeartbeats 0 in
noncomputable def OvC.hold57:OvC.Eleven PySem.Challenge.rw_ovalfield_k57_not_whole.Holds:=by
 refine' ⟨_,_,_,_,_,_,_,_,_,_,_,_,_,_,_,_,_,_,_,_,_,_,_,_,_,_,_,_,_,_,_,_,_,fun g1 g2 g3 g4 g5 g6 g7 g8 g9 g10 g11=>_⟩
 rotate_right
 w_on;refine holds_law (by decide +kernel) fun said=>?_;k_head
 (case hl=>intro w;refine OvC.map_pair ?p1 (OvC.map_take 100 ?p2 ?p3);(case p1=>rw[PySem.W.Fast.te4187177175401517315];unfold PySem.W.Fast.tw4187177175401517315 openGood;refine OvC.map_pair ?q1 (OvC.map_pair ?q2 (OvC.map_pair ?q3 (OvC.map_pair ?q4 (OvC.map_pair ?q5 (OvC.map_pair ?q6 (OvC.map_pair ?q7 (OvC.map_pair ?q8 ?q9)))))));(case q1=>unfold openEnds fencedOpening topFrom;rw[PySem.W.Fast.te10274390034422433532,PySem.W.Fast.te14364793385576792824,PySem.W.Fast.te1435165496053646825,PySem.W.Fast.te14289696077712309145,PySem.W.Fast.te14082659384304107361];exact g1 w);(case q2=>unfold openEnds fencedOpening topFrom;rw[PySem.W.Fast.te10274390034422433532,PySem.W.Fast.te14364793385576792824,PySem.W.Fast.te1435165496053646825,PySem.W.Fast.te14289696077712309145,PySem.W.Fast.te14082659384304107361];exact g2 w);(case q3=>unfold openEnds fencedOpening topFrom;rw[PySem.W.Fast.te10274390034422433532,PySem.W.Fast.te14364793385576792824,PySem.W.Fast.te1435165496053646825,PySem.W.Fast.te14289696077712309145,PySem.W.Fast.te14082659384304107361];exact g3 w);(case q4=>unfold openEnds fencedOpening topFrom;rw[PySem.W.Fast.te10274390034422433532,PySem.W.Fast.te14364793385576792824,PySem.W.Fast.te1435165496053646825,PySem.W.Fast.te14289696077712309145,PySem.W.Fast.te14082659384304107361];exact g4 w);(case q5=>unfold openEnds fencedOpening topFrom;rw[PySem.W.Fast.te10274390034422433532,PySem.W.Fast.te14364793385576792824,PySem.W.Fast.te1435165496053646825,PySem.W.Fast.te14289696077712309145,PySem.W.Fast.te14082659384304107361];exact g5 w);(case q6=>unfold openEnds fencedOpening topFrom;rw[PySem.W.Fast.te10274390034422433532,PySem.W.Fast.te14364793385576792824,PySem.W.Fast.te1435165496053646825,PySem.W.Fast.te14289696077712309145,PySem.W.Fast.te14082659384304107361];exact g6 w);(case q7=>unfold openEnds fencedOpening topFrom;rw[PySem.W.Fast.te10274390034422433532,PySem.W.Fast.te14364793385576792824,PySem.W.Fast.te1435165496053646825,PySem.W.Fast.te14289696077712309145,PySem.W.Fast.te14082659384304107361];exact g7 w);(case q8=>unfold openEnds fencedOpening topFrom;rw[PySem.W.Fast.te10274390034422433532,PySem.W.Fast.te14364793385576792824,PySem.W.Fast.te1435165496053646825,PySem.W.Fast.te14289696077712309145,PySem.W.Fast.te14082659384304107361];exact g8 w);(case q9=>unfold openEnds fencedOpening topFrom;rw[PySem.W.Fast.te10274390034422433532,PySem.W.Fast.te14364793385576792824,PySem.W.Fast.te1435165496053646825,PySem.W.Fast.te14289696077712309145,PySem.W.Fast.te14082659384304107361];exact g9 w);skip);(case p2=>unfold openEnds fencedOpening topFrom;rw[PySem.W.Fast.te10274390034422433532,PySem.W.Fast.te14364793385576792824,PySem.W.Fast.te1435165496053646825,PySem.W.Fast.te14289696077712309145,PySem.W.Fast.te14082659384304107361];exact g10 w);(case p3=>unfold openEnds fencedOpening topFrom;rw[PySem.W.Fast.te10274390034422433532,PySem.W.Fast.te14364793385576792824,PySem.W.Fast.te1435165496053646825,PySem.W.Fast.te14289696077712309145,PySem.W.Fast.te14082659384304107361];exact g11 w))
 (case hw=>w_witness2)
 k_fill
 refine OvC.walk57 (l:=PySem.Challenge.rw_ovalfield_k57_not_whole) rfl rfl (fun w h Y=>PySem.W.kIn_of Y) ?F
 case F =>
  intro w mg fa h KX G hmg
  refine' OvC.all57 KX G hmg ?a0 ?a1 ?a2 ?a3 ?a4 ?a5 ?a6 ?a7 ?a8 ?a9 ?a10 ?a11 ?a12 ?a13 ?a14 ?a15 ?a16 ?a17 ?a18 ?a19 ?a20 ?a21 ?a22 ?a23 ?a24 ?a25 ?a26 ?a27 ?a28 ?a29 ?a30 ?a31 ?a32 ?a33 ?nx0 ?ex0 ?gax0 ?gtx0 ?clx0 ?obx0 ?bex0 ?svx0 ?nx1 ?csx1 ?tyx1 ?nx2 ?csx2 ?tyx2 ?nx3 ?csx3 ?tyx3 ?nx4 ?csx4 ?tyx4 ?nx5 ?csx5 ?tyx5 ?nx6 ?csx6 ?tyx6 ?nx7 ?csx7 ?tyx7 ?nx8 ?csx8 ?tyx8 ?nx9 ?csx9 ?tyx9 ?nx10 ?csx10 ?tyx10 ?nx11 ?csx11 ?tyx11 ?nx12 ?csx12 ?tyx12 ?nx13 ?csx13 ?tyx13 ?nx14 ?csx14 ?tyx14 ?nx15 ?csx15 ?tyx15 ?sux0x1 ?sux0x2 ?sux0x3 ?sux0x4 ?sux0x5 ?sux0x6 ?sux0x7 ?sux0x8 ?sux0x9 ?sux0x10 ?sux0x11 ?sux0x12 ?sux0x13 ?sux0x14 ?sux0x0 ?sux0x15 ?gn0 ?gk0 ?z0 ?z1 ?z2 ?z3 ?z4 ?z5 ?z6 ?z7 ?z8 ?z9 ?z10
  case a0|a1|a2|a3|a4|a5|a6|a7|a8|a9|a10|a11|a12|a13|a14|a15|a16|a17|a18|a19|a20|a21|a22|a23|a24|a25|a26|a27|a28|a29|a30|a31|a32|a33=>(refine' Ov.fni ?a ?l ?c ?k;(case a=>k_is);(case l=>k_is);(case c=>k_is);(case k=>k_is))
  (case nx0=>k_is)
  (case ex0=>k_exc)
  (case gax0=>k_is)
  (case gtx0=>k_is)
  (case clx0=>k_is)
  (case obx0=>k_is)
  (case bex0=>k_is)
  (case svx0=>k_is)
  (case nx1=>k_is)
  (case csx1=>k_is)
  (case tyx1=>k_is)
  (case nx2=>k_is)
  (case csx2=>k_is)
  (case tyx2=>k_is)
  (case nx3=>k_is)
  (case csx3=>k_is)
  (case tyx3=>k_is)
  (case nx4=>k_is)
  (case csx4=>k_is)
  (case tyx4=>k_is)
  (case nx5=>k_is)
  (case csx5=>k_is)
  (case tyx5=>k_is)
  (case nx6=>k_is)
  (case csx6=>k_is)
  (case tyx6=>k_is)
  (case nx7=>k_is)
  (case csx7=>k_is)
  (case tyx7=>k_is)
  (case nx8=>k_is)
  (case csx8=>k_is)
  (case tyx8=>k_is)
  (case nx9=>k_is)
  (case csx9=>k_is)
  (case tyx9=>k_is)
  (case nx10=>k_is)
  (case csx10=>k_is)
  (case tyx10=>k_is)
  (case nx11=>k_is)
  (case csx11=>k_is)
  (case tyx11=>k_is)
  (case nx12=>k_is)
  (case csx12=>k_is)
  (case tyx12=>k_is)
  (case nx13=>k_is)
  (case csx13=>k_is)
  (case tyx13=>k_is)
  (case nx14=>k_is)
  (case csx14=>k_is)
  (case tyx14=>k_is)
  (case nx15=>k_is)
  (case csx15=>k_is)
  (case tyx15=>k_is)
  (case sux0x1=>k_is)
  (case sux0x2=>k_is)
  (case sux0x3=>k_is)
  (case sux0x4=>k_is)
  (case sux0x5=>k_is)
  (case sux0x6=>k_is)
  (case sux0x7=>k_is)
  (case sux0x8=>k_is)
  (case sux0x9=>k_is)
  (case sux0x10=>k_is)
  (case sux0x11=>k_is)
  (case sux0x12=>k_is)
  (case sux0x13=>k_is)
  (case sux0x14=>k_is)
  (case sux0x0=>k_is)
  (case sux0x15=>k_is)
  (case gn0=>k_is)
  (case gk0=>k_is)
  (case z0=>k_is)
  (case z1=>k_is)
  (case z2=>k_is)
  (case z3=>k_is)
  (case z4=>k_is)
  (case z5=>k_is)
  (case z6=>k_is)
  (case z7=>k_is)
  (case z8=>k_is)
  (case z9=>k_is)
  (case z10=>k_is)
theorem OvC.reck57_1(w:PySem.World):OvC.hold57.l1 w=OvC.hold57.r1 w:=by kernel_rfl
theorem OvC.reck57_2(w:PySem.World):OvC.hold57.l2 w=OvC.hold57.r2 w:=by kernel_rfl
theorem OvC.reck57_3(w:PySem.World):OvC.hold57.l3 w=OvC.hold57.r3 w:=by kernel_rfl
theorem OvC.reck57_4(w:PySem.World):OvC.hold57.l4 w=OvC.hold57.r4 w:=by kernel_rfl
theorem OvC.reck57_5(w:PySem.World):OvC.hold57.l5 w=OvC.hold57.r5 w:=by kernel_rfl
theorem OvC.reck57_6(w:PySem.World):OvC.hold57.l6 w=OvC.hold57.r6 w:=by kernel_rfl
theorem OvC.reck57_7(w:PySem.World):OvC.hold57.l7 w=OvC.hold57.r7 w:=by kernel_rfl
theorem OvC.reck57_8(w:PySem.World):OvC.hold57.l8 w=OvC.hold57.r8 w:=by kernel_rfl
theorem OvC.reck57_9(w:PySem.World):OvC.hold57.l9 w=OvC.hold57.r9 w:=by kernel_rfl
theorem OvC.reck57_10(w:PySem.World):OvC.hold57.l10 w=OvC.hold57.r10 w:=by kernel_rfl
theorem OvC.reck57_11(w:PySem.World):OvC.hold57.l11 w=OvC.hold57.r11 w:=by kernel_rfl
theorem PySem.Challenge.cw_ovalfield_k57_not_whole_holds : PySem.Challenge.rw_ovalfield_k57_not_whole.Holds := by
 exact OvC.hold57.go OvC.reck57_1 OvC.reck57_2 OvC.reck57_3 OvC.reck57_4 OvC.reck57_5 OvC.reck57_6 OvC.reck57_7 OvC.reck57_8 OvC.reck57_9 OvC.reck57_10 OvC.reck57_11
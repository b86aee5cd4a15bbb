import PyProof.Rows.All
import Wide.All
import OpenK.AllK
import Wide.FinOn
import PyProof.EqAt
import KE.KSortTup
import PyProof.EqKinds
import PyProof.TupleCall
import Lean
import PySem.Challenge.RW_ovalfield_k82_three_points_led
set_option Elab.async false
set_option linter.all false
set_option maxRecDepth 100000
set_option maxHeartbeats 4000000
-- CHANGE: your row's module here,as the last of these rows
namespace L2
open PySem PySem.Spec PyProof.Rows
noncomputable abbrev Key:=Sum Int Str
noncomputable def ZrJ:Key->Value->Bool
 | .inl k,v=>Value.isInt k v
 | .inr x,v=>Value.isStrOf x v
noncomputable def ZzG(w:World):Key->Int
 | .inl k=>hashInt k
 | .inr x=>hashStr w x
theorem ZaM:∀ {k:Key} {v:Value},ZrJ k v=true->(∃ i t,k=Sum.inl i/\v=Value.int i t)\/(∃ x t,k=Sum.inr x/\v=Value.str x t)
 | .inl i,v,h=>by
  obtain⟨t,e⟩:=Value.isInt_shape (k:=i) (v:=v) h
  exact .inl ⟨i,t,rfl,e⟩
 | .inr x,v,h=>by
  obtain⟨t,e⟩:=Value.isStrOf_shape (x:=x) (v:=v) h
  exact .inr ⟨x,t,rfl,e⟩
theorem ZrI(a b:Int):decide ((Sum.inl a:Key)=Sum.inl b)=(a == b):=by
 by_cases e:a=b
 ·subst e;simp
 ·have h:¬ (Sum.inl a:Key)=Sum.inl b:=fun q=>e (Sum.inl.inj q)
  rw[decide_eq_false h]
  exact(beq_eq_false_iff_ne.mpr e).symm
theorem ZrF(a b:Str):decide ((Sum.inr a:Key)=Sum.inr b)=decide (a=b):=by
 by_cases e:a=b
 ·subst e;simp
 ·have h:¬ (Sum.inr a:Key)=Sum.inr b:=fun q=>e (Sum.inr.inj q)
  rw[decide_eq_false h,decide_eq_false e]
theorem ZrH(a:Int)(b:Str):decide ((Sum.inl a:Key)=Sum.inr b)=false:=decide_eq_false (fun q=>nomatch q)
theorem ZrG(a:Str)(b:Int):decide ((Sum.inr a:Key)=Sum.inl b)=false:=decide_eq_false (fun q=>nomatch q)
noncomputable def ZgP(prog:Program)(w:World):PySem.KeyKind prog w Key where
 is:=ZrJ
 hash:=ZzG w
 inj:=fun v a b ha hb=>by
  rcases ZaM ha with ⟨i,t,rfl,rfl⟩|⟨x,t,rfl,rfl⟩
  ·rcases ZaM hb with ⟨j,u,rfl,e⟩|⟨y,u,rfl,e⟩
   ·injection e with e1 _;rw[e1]
   ·exact nomatch e
  ·rcases ZaM hb with ⟨j,u,rfl,e⟩|⟨y,u,rfl,e⟩
   ·exact nomatch e
   ·injection e with e1 _;rw[e1]
 byValue:=fun k v h=>by
  rcases ZaM h with ⟨i,t,rfl,rfl⟩|⟨x,t,rfl,rfl⟩<;>rfl
 pyHash:=fun hv h=>by
  rcases ZaM hv with ⟨i,t,rfl,rfl⟩|⟨x,t,rfl,rfl⟩
  ·exact wpAny_pyHash_int h
  ·exact wpAny_pyHash_str h
 eqBool:=fun hu hv h=>by
  rcases ZaM hu with ⟨i,t,rfl,rfl⟩|⟨x,t,rfl,rfl⟩
  ·rcases ZaM hv with ⟨j,u,rfl,rfl⟩|⟨y,u,rfl,rfl⟩
   ·rw[ZrI] at h;exact wpAny_eqBool_int h
   ·rw[ZrH] at h;exact SeqAt.EqAt.int_str i t y u _ _ _ _ h
  ·rcases ZaM hv with ⟨j,u,rfl,rfl⟩|⟨y,u,rfl,rfl⟩
   ·rw[ZrG] at h;exact SeqAt.EqAt.str_int x t j u _ _ _ _ h
   ·rw[ZrF] at h;exact wpAny_eqBool_str h
 «strs»:=fun k x t v h=>by
  rcases ZaM h with ⟨i,u,rfl,e⟩|⟨y,u,rfl,e⟩
  ·exact nomatch e
  ·injection e with e1 _
   subst e1
   cases v<;>rfl
end L2
namespace L2
open PySem PySem.Spec PyProof.Rows
inductive V where
 | non|bl (b:Bool)|int (i:Int)|str (x:Str)|byt (b:Array UInt8)|flt (b:UInt64)|ref (a:Addr)|ty (n:String)
 deriving DecidableEq
noncomputable def Zbb:V->Value->Prop
 | .non,u=>u=Value.none
 | .bl b,u=>u=Value.bool b
 | .int i,u=>∃ t,u=Value.int i t
 | .str x,u=>∃ t,u=Value.str x t
 | .byt b,u=>∃ t,u=Value.bytes b t
 | .flt b,u=>∃ t,u=Value.float b t
 | .ref a,u=>u=Value.ref a
 | .ty n,u=>u=Value.type n
noncomputable abbrev ZaP:List V->List Value->Prop:=Paired Zbb
theorem ZaP.length{xs:List V}{us:List Value}(r:ZaP xs us):xs.length=us.length:=Paired.length r
theorem ZaP.get:∀ {xs:List V} {us:List Value} {i:Nat} {x:V},ZaP xs us->xs[i]?=some x->∃ u,us[i]?=some u/\Zbb x u
 | _,_,_,_,.nil,e=>by simp at e
 | _,_,0,_,.cons r _,e=>by simp at e;subst e;exact⟨_,rfl,r⟩
 | _,_,i+1,x,.cons _ t,e=>by
  obtain⟨u,h1,h2⟩:=ZaP.get (i:=i) (x:=x) t (by simpa using e)
  exact⟨u,by simpa using h1,h2⟩
theorem ZaP.set{x:V}{u:Value}(r:Zbb x u):∀ {xs:List V} {us:List Value} (i:Nat),ZaP xs us->ZaP (xs.set i x) (us.set i u)
 | _,_,_,.nil=>.nil
 | _,_,0,.cons _ t=>.cons r t
 | _,_,i+1,.cons q t=>.cons q (ZaP.set r i t)
theorem ZaP.append:∀ {xs ys:List V} {us ws:List Value},ZaP xs us->ZaP ys ws->ZaP (xs++ys) (us++ws)
 | _,_,_,_,.nil,s=>s
 | _,_,_,_,.cons r t,s=>.cons r (ZaP.append t s)
theorem ZaP.take:∀ {xs:List V} {us:List Value} (n:Nat),ZaP xs us->ZaP (xs.take n) (us.take n)
 | _,_,0,_=>.nil
 | _,_,_+1,.nil=>.nil
 | _,_,n+1,.cons r t=>.cons r (ZaP.take n t)
theorem ZaP.drop:∀ {xs:List V} {us:List Value} (n:Nat),ZaP xs us->ZaP (xs.drop n) (us.drop n)
 | _,_,0,r=>r
 | _,_,_+1,.nil=>.nil
 | _,_,n+1,.cons _ t=>ZaP.drop n t
noncomputable def Zzd:Option V->Option Value->Prop
 | some v,some u=>Zbb v u
 | none,none=>True
 | _,_=>False
noncomputable def KV{κ:Type}:List (κ×V)->List (κ×Value)->Prop:=Paired fun (p:κ×V) (q:κ×Value)=>p.1=q.1/\Zbb p.2 q.2
noncomputable def kV:Key->V
 | .inl i=>.int i
 | .inr x=>.str x
inductive HO where
 /-- a list -/
 | lst (xs:List V)
 /-- a tuple (never changes) -/
 | tup (xs:List V)
 /-- a dict whose keys are ints and texts;one whose keys are tuples of ints and texts (the empty one is both) -/
 | dK (kvs:List (Key×V))|dT (kvs:List (List Key×V))
 /-- a set of ints: its members,its size -/
 | set (S:Int->Bool) (n:Nat)
 /-- an instance of the class at C,its dict at dx,its attributes -/
 | ins (C dx:Addr) (fs:List (Str×V))
 /-- the dict of the instance at x -/
 | own (x:Addr)
 /-- the dict of an exception -/
 | xd (fs:List (Str×V))
 /-- a bound method,f of x -/
 | met (f x:Addr)
 /-- a range object lo,lo+1,.. below hi -/
 | rng (lo hi:Int)
 /-- a thing that is known to the object (the script;a dict while a loop walks it): read,never written while it is so -/
 | frz (o:Obj) (u:HO)
 /-- a code object's table -/
 | tbl (ps:Array Value)
 /-- any other thing,by what is true of its one object (a def of one's own: SetO a S n:=HO.ext fun h=>..) -/
 | ext (φ:Heap->Prop)
noncomputable abbrev Hp:=Addr->Option HO
noncomputable def upd(H:Hp)(a:Addr)(o:HO):Hp:=fun b=>if b=a then some o else H b
theorem ZbC{H:Hp}{a:Addr}{o:HO}:upd H a o a=some o:=by unfold upd;rw[if_pos rfl]
theorem Zaz{H:Hp}{a b:Addr}{o:HO}(h:b≠a):upd H a o b=H b:=by unfold upd;rw[if_neg h]
theorem Zav{H:Hp}{a b:Addr}{o:HO}(h:H a=some o)(h':H b=none):a≠b:=by
 intro e;subst e;rw[h] at h';cases h'
section
variable (P:Program) (w:World)
noncomputable def ObjOk(H:Hp)(h:Heap)(a:Addr):HO->Prop
  | .lst xs=>xs.length<=sizeLine/\∃ (its:List Value) (n:Nat),ZaP xs its/\h.get? a=some { cls:=.type "list", data:=.seq its.toArray n }
  | .tup xs=>xs.length<=sizeLine/\∃ its:List Value,ZaP xs its/\IsTup h a its.toArray
  | .dK kvs=>kvs.length<=sizeLine/\(a == sysModules)=false/\∃ vs,KV kvs vs/\h.DictOf (ZgP P w) a vs
  | .dT kvs=>kvs.length<=sizeLine/\(a == sysModules)=false/\∃ xs:List (List Key×Addr×Value),
      Paired (fun (p:List Key×V) (q:List Key×Addr×Value)=>p.1=q.1/\H q.2.1=some (.tup (p.1.map kV))/\Zbb p.2 q.2.2) kvs xs /\
      ∃ o es ep,h.get? a=some o/\o.ExactDict/\o.data=.dict es ep/\es.toList=xs.map (entryOfKey (tupleKind (ZgP P w)))/\(xs.map (·.1)).Nodup
  | .set S n=>h.SetOf (intKind P w) a S n
  | .ins C dx fs=>H dx=some (.own a)/\fs.length<=1000/\dx≠a/\h.get? a=some (PySem.W.instObj C dx) /\
      ∃ mA,h.Ns1 dx mA/\(∀ f,Zzd (fs.lookup f) (mA f))/\PySem.Within mA (fs.map (·.1))
  | .own _=>∃ o,h.get? a=some o
  | .xd fs=>∃ mA,h.Ns1 a mA/\∀ f,Zzd (fs.lookup f) (mA f)
  | .rng lo hi=>∃ t u v,h.get? a=some { cls:=.type "range", data:=.fields #[.int lo t,.int hi u,.int 1 v] }
  | .frz o u=>h.get? a=some o/\ObjOk H h a u
  | .tbl ps=>h.get? a=some { cls:=.none,data:=.fields ps }
  | .met f x=>h.get? a=some (PySem.W.methodObj (.ref f) (.ref x))
  | .ext φ=>φ h/\(∃ o,h.get? a=some o)/\∀ h1 h2:Heap,φ h1->(∀ o,h1.get? a=some o->h2.get? a=some o)->φ h2
def HOk(H:Hp)(h:Heap):Prop:=∀ a o,H a=some o->ObjOk P w H h a o
end
section
variable {P:Program} {w:World} {H H':Hp} {h h':Heap} {a:Addr} {o:HO}
theorem ObjOk.lt(x:ObjOk P w H h a o):a<h.objs.size:=by
 cases o with
 | lst xs=>obtain⟨_,_,_,_,e⟩:=x;exact Heap.lt_size e
 | tup xs=>obtain⟨_,_,_,p⟩:=x;exact p.lt
 | dK kvs=>obtain⟨_,_,_,_,o,_,_,e,_⟩:=x;exact Heap.lt_size e
 | dT kvs=>obtain⟨_,_,_,_,o,_,_,e,_⟩:=x;exact Heap.lt_size e
 | set S n=>obtain⟨o,_,_,_,e,_⟩:=x;exact Heap.lt_size e
 | ins C dx fs=>obtain⟨_,_,_,e,_⟩:=x;exact Heap.lt_size e
 | own y=>obtain⟨_,e⟩:=x;exact Heap.lt_size e
 | xd fs=>obtain⟨_,⟨_,_,_,e,_⟩,_⟩:=x;exact Heap.lt_size e
 | rng lo hi=>obtain⟨_,_,_,e⟩:=x;exact Heap.lt_size e
 | frz ob u=>obtain⟨e,_⟩:=x;exact Heap.lt_size e
 | tbl ps=>exact Heap.lt_size (show h.get? a=some _ from x)
 | met f y=>exact Heap.lt_size (show h.get? a=some _ from x)
 | ext φ=>obtain⟨_,⟨_,e⟩,_⟩:=x;exact Heap.lt_size e
theorem Paired.mapP{α β:Type}{F G:α->β->Prop}:∀ {l₁:List α} {l₂:List β},Paired F l₁ l₂->(∀ a b,F a b->G a b)->Paired G l₁ l₂
 | _,_,.nil,_=>.nil
 | _,_,.cons r t,f=>.cons (f _ _ r) (Paired.mapP t f)
theorem ObjOk.stay(x:ObjOk P w H h a o)(k:∀ b u,(b=a\/H b=some (.own a))->h.get? b=some u->h'.get? b=some u)
  (ho:∀ b,H b=some (.own a)->H' b=some (.own a)) (ht:∀ b xs,H b=some (.tup xs)->H' b=some (.tup xs)):ObjOk P w H' h' a o:=by
 induction o with
 | lst xs=>obtain⟨z,its,n,r,e⟩:=x;exact⟨z,its,n,r,k _ _ (.inl rfl) e⟩
 | tup xs=>obtain⟨z,its,r,ob,e,c⟩:=x;exact⟨z,its,r,ob,k _ _ (.inl rfl) e,c⟩
 | dK kvs=>obtain⟨z,y,vs,r,ob,es,ep,e,c⟩:=x;exact⟨z,y,vs,r,ob,es,ep,k _ _ (.inl rfl) e,c⟩
 | dT kvs =>
  obtain⟨z,y,xs,r,ob,es,ep,e,c⟩:=x
  exact⟨z,y,xs,Paired.mapP r fun p q z=>⟨z.1,ht _ _ z.2.1,z.2.2⟩,ob,es,ep,k _ _ (.inl rfl) e,c⟩
 | set S n=>obtain⟨ob,es,ep,t,e,c⟩:=x;exact⟨ob,es,ep,t,k _ _ (.inl rfl) e,c⟩
 | ins C dx fs =>
  obtain⟨d,z,ne,e,mA,⟨od,es,ep,e2,c⟩,r⟩:=x
  exact⟨ho _ d,z,ne,k _ _ (.inl rfl) e,mA,⟨od,es,ep,k _ _ (.inr d) e2,c⟩,r⟩
 | own y=>obtain⟨ob,e⟩:=x;exact⟨ob,k _ _ (.inl rfl) e⟩
 | xd fs=>obtain⟨mA,⟨od,es,ep,e,c⟩,r⟩:=x;exact⟨mA,⟨od,es,ep,k _ _ (.inl rfl) e,c⟩,r⟩
 | rng lo hi=>obtain⟨t,u,v,e⟩:=x;exact⟨t,u,v,k _ _ (.inl rfl) e⟩
 | frz ob u ih=>obtain⟨e,q⟩:=x;exact⟨k _ _ (.inl rfl) e,ih q⟩
 | tbl ps =>
  have e:h.get? a=some { cls:=.none,data:=.fields ps }:=x
  show h'.get? a=some { cls:=.none,data:=.fields ps }
  exact k a _ (.inl rfl) e
 | met f y =>
  have e:h.get? a=some (PySem.W.methodObj (.ref f) (.ref y)):=x
  show h'.get? a=some (PySem.W.methodObj (.ref f) (.ref y))
  exact k a _ (.inl rfl) e
 | ext φ=>obtain⟨p,⟨o,e⟩,st⟩:=x;exact⟨st _ _ p fun o q=>k _ _ (.inl rfl) q,⟨o,k _ _ (.inl rfl) e⟩,st⟩
theorem HOk.lt(x:HOk P w H h)(e:H a=some o):a<h.objs.size:=(x a o e).lt
theorem HOk.fresh(x:HOk P w H h)(e:h.objs.size<=a):H a=none:=by
 cases q:H a with
 | none=>rfl
 | some u=>exact absurd (Nat.lt_of_lt_of_le (x.lt q) e) (Nat.lt_irrefl _)
theorem HOk.kept(x:HOk P w H h)(k:∀ b u,h.get? b=some u->h'.get? b=some u):HOk P w H h':=fun a o e =>
 (x a o e).stay (fun b u _ q=>k b u q) (fun _ q=>q) fun _ _ q=>q
theorem HOk.laid(x:HOk P w H h)(k:∀ b u,h.get? b=some u->h'.get? b=some u)(hp:h.objs.size<=a)(new:ObjOk P w (upd H a o) h' a o):HOk P w (upd H a o) h':=fun b u e=>by
 have hn:=x.fresh hp
 by_cases hb:b=a
 ·subst hb;rw[ZbC] at e;cases e;exact new
 ·rw[Zaz hb] at e
  exact(x b u e).stay (fun c v _ q=>k c v q) (fun c q=>by rw[Zaz (Zav q hn)];exact q) fun c xs q=>by rw[Zaz (Zav q hn)];exact q
end
def Rd(H:Hp)(a:Addr)(u:HO):Prop:=H a=some u\/∃ o,H a=some (.frz o u)
theorem Rd.ok{P:Program}{w:World}{H:Hp}{h:Heap}{a:Addr}{u:HO}(r:Rd H a u)(x:HOk P w H h):ObjOk P w H h a u:=by
 rcases r with r|⟨o,r⟩
 ·exact x a u r
 ·obtain⟨_,q⟩:=x a _ r
  exact q
noncomputable def Mut:Option HO->Prop
 | some (.lst _)=>True
 | some (.dK _)=>True
 | some (.dT _)=>True
 | some (.set _ _)=>True
 | some (.ins _ _ _)=>True
 | some (.ext _)=>True
 | _=>False
section
variable {P:Program} {w:World} {H:Hp} {h h':Heap} {x e:Addr} {o':HO}
theorem HOk.write(ok:HOk P w H h)(mu:Mut (H x))(he:e=x\/H e=some (.own x))(k:∀ b u,b≠e->h.get? b=some u->h'.get? b=some u)(heo:∃ u,h'.get? e=some u)
  (new:ObjOk P w (upd H x o') h' x o'):HOk P w (upd H x o') h':=fun b u q=>by
 have nown:∀ c y,H c=some (.own y)->c≠x:=fun c y r z=>by subst z;rw[r] at mu;exact mu
 have ntup:∀ c xs,H c=some (.tup xs)->c≠x:=fun c xs r z=>by subst z;rw[r] at mu;exact mu
 by_cases hb:b=x
 ·subst hb;rw[ZbC] at q;cases q;exact new
 ·rw[Zaz hb] at q
  by_cases hbe:b=e
  ·have q':H b=some (.own x):=by
    rcases he with z|z
    ·exact absurd (hbe.trans z) hb
    ·rw[hbe];exact z
   rw[q] at q';cases q'
   obtain⟨v,hv⟩:=heo
   exact⟨v,by rw[hbe];exact hv⟩
  ·refine(ok b u q).stay (fun c v hc r=>k c v ?_ r) (fun c r=>by rw[Zaz (nown c b r)];exact r) fun c xs r=>by rw[Zaz (ntup c xs r)];exact r
   rcases hc with rfl|hc
   ·exact hbe
   ·rintro rfl
    rcases he with z|z
    ·exact nown c b hc z
    ·rw[hc] at z;cases z;exact hb rfl
end
structure Un (fs ex:List Addr) (H H':Hp) (h h':Heap):Prop where
 keep:∀ b o,h.get? b=some o->H b=none->b∉fs->b∉ex->h'.get? b=some o
 slot:∀ b o,h.get? b=some o->H b=none->b∈fs->b∉ex->∃ sl,h'.get? b=some { o with slots:=sl }
 free:∀ b o,h.get? b=some o->H b=none->b∉ex->H' b=none
 there:∀ b o,h.get? b=some o->b∉ex->∃ o',h'.get? b=some o'
 tups:∀ b xs,H b=some (.tup xs)->H' b=some (.tup xs)
 frzs:∀ b o u,H b=some (.frz o u)->H' b=some (.frz o u)
 tbls:∀ b ps,H b=some (.tbl ps)->∃ more,H' b=some (.tbl (ps++more))
section
variable {fs fs' ex ex':List Addr} {H H1 H2:Hp} {h h1 h2 h':Heap} {a x e:Addr} {o:HO}
theorem Un.any(u:Un fs ex H H1 h h1){b:Addr}{ob:Obj}(q:h.get? b=some ob)(n:H b=none)(hx:b∉ex):∃ sl,h1.get? b=some { ob with slots:=sl }:=by
 by_cases hb:b∈fs
 ·exact u.slot b ob q n hb hx
 ·exact⟨ob.slots,u.keep b ob q n hb hx⟩
theorem Un.kept(k:∀ b u,h.get? b=some u->h'.get? b=some u):Un fs ex H H h h' :=
 ⟨fun b ob q _ _ _=>k b ob q,fun b ob q _ _ _=>⟨ob.slots,k b ob q⟩,fun _ _ _ n _=>n,fun b ob q _=>⟨ob,k b ob q⟩,fun _ _ q=>q,fun _ _ _ q=>q,fun _ ps q=>⟨#[],by rw[q];simp⟩⟩
theorem Un.refl:Un fs ex H H h h:=Un.kept fun _ _ q=>q
theorem Un.laid(k:∀ b u,h.get? b=some u->h'.get? b=some u)(hp:h.objs.size<=a)(hn:H a=none):Un fs ex H (upd H a o) h h' where
 keep:=fun b u q _ _ _=>k b u q
 slot:=fun b u q _ _ _=>⟨u.slots,k b u q⟩
 free:=fun b u q n _=>by rw[Zaz (Nat.ne_of_lt (Nat.lt_of_lt_of_le (Heap.lt_size q) hp))];exact n
 there:=fun b u q _=>⟨u,k b u q⟩
 tups:=fun b xs q=>by rw[Zaz (Zav q hn)];exact q
 frzs:=fun b u xs q=>by rw[Zaz (Zav q hn)];exact q
 tbls:=fun b ps q=>⟨#[],by rw[Zaz (Zav q hn),q];simp⟩
theorem Un.write(mu:Mut (H x))(he:e=x\/H e=some (.own x))(k:∀ b u,b≠e->h.get? b=some u->h'.get? b=some u)(heo:∃ u,h'.get? e=some u):Un fs ex H (upd H x o) h h':=by
 have hx:∀ b,H b=none->b≠x:=fun b n z=>by subst z;rw[n] at mu;exact mu
 have hb:∀ b,H b=none->b≠e:=fun b n z=>by
  subst z
  rcases he with r|r
  ·exact hx b n r
  ·rw[n] at r;cases r
 have hm:∀ b u,H b=some u->¬ Mut (some u)->b≠x:=fun b u q nm z=>by subst z;rw[q] at mu;exact nm mu
 refine⟨fun b u q n _ _=>k b u (hb b n) q,fun b u q n _ _=>⟨u.slots,k b u (hb b n) q⟩,fun b u q n _=>by rw[Zaz (hx b n)];exact n,fun b u q _=>?_,
  fun b xs q=>by rw[Zaz (hm b _ q fun z=>z)];exact q,fun b u xs q=>by rw[Zaz (hm b _ q fun z=>z)];exact q,fun b ps q=>⟨#[],by rw[Zaz (hm b _ q fun z=>z),q];simp⟩⟩
 by_cases hbe:b=e
 ·subst hbe;exact heo
 ·exact⟨u,k b u hbe q⟩
end
noncomputable def trk(h:Heap)(H:Hp):List Addr:=(List.range h.objs.size).filter fun a=>(H a).isSome
noncomputable def Zly(h:Heap)(H:Hp):Heap:=PySem.W.hideAll h (trk h H)
theorem ZjX(h:Heap)(H:Hp):(Zly h H).objs.size=h.objs.size:=PySem.W.hideAll_size _ _
theorem Zlx{h:Heap}{H:Hp}{b:Addr}{o:Obj}(e:h.get? b=some o)(n:H b=none):(Zly h H).get? b=some o :=
 PySem.W.hideAll_get _ e fun hm=>by
  have q:(H b).isSome=true:=(List.mem_filter.mp hm).2
  rw[n] at q;simp at q
theorem Zoi{h:Heap}{H:Hp}{b:Addr}{o:Obj}(e:(Zly h H).get? b=some o):h.get? b=some o/\H b=none:=by
 have e':h.get? b=some o:=PySem.W.of_hideAll (trk h H) e
 refine⟨e',?_⟩
 cases q:H b with
 | none=>rfl
 | some x =>
  have hm:b∈trk h H:=List.mem_filter.mpr ⟨List.mem_range.mpr (Heap.lt_size e'),by simp[q]⟩
  have z:(Zly h H).get? b=none:=PySem.W.hideAll_none (trk h H) hm
  rw[z] at e;cases e
noncomputable def Zpz(g h:Heap)(L:Addr):List (Addr×Obj):=(List.range h.objs.size).filterMap fun a=>if a=L\/(g.get? a).isSome=true then none else (h.get? a).map fun o=>(a,o)
noncomputable def rest(g h:Heap)(L d:Addr):List (Addr×Obj):=(Zpz g h L).filter fun p=>decide (p.1≠d)
end L2
namespace L2
open PySem PySem.Spec PyProof.Rows
structure Mod (K:PySem.W.Frag) (mg:Str->Option Value) (base:Heap):Prop where
 kin:K.In base
 glob:base.Ns mainGlobals mg
 blt:∃ mb,base.Ns builtinsNs mb/\∀ x:Str,x≠"__name__"->mb x=bootBuiltins x
 nolimit:base.NoLimit
structure Cx where
 prog:Program
 w:World
 K:PySem.W.Frag
 mg:Str->Option Value
 base:Heap
 A:Around
 N:List Str
 s₀:Shared
 H₀:Hp
 env:Env
 outer:List Env
 stack:List Env
 ex:List Addr
 fn:Str->Bool
 calm:Bool
 pn:List (Addr×Obj)
 xe:Value->Shared->Prop
noncomputable def frs(l:List Env):List Addr:=l.filterMap (·.frame)
noncomputable abbrev Cx.fs(X:Cx):List Addr:=frs X.outer
def Vis(sc:Scope)(x:Str):Prop:=sc.names.lookup x=some .local\/sc.names.lookup x=some .cell\/sc.names.lookup x=some .free
def Loc(sc:Scope)(x:Str):Prop:=sc.names.lookup x=some .local\/sc.names.lookup x=some .cell
noncomputable def Zz2(env:Env)(h:Heap)(m:Str->Option Value)(x:Str)(u:Value):Prop :=
 (env.kindOf x=some .local/\m x=some u)\/((env.kindOf x=some .cell\/env.kindOf x=some .free)/\∃ c,env.cells.lookup x=some c/\h.IsCell c (some u))
structure Cx.Ok (X:Cx):Prop where
 mod:Mod X.K X.mg X.base
 kind:X.env.scope.kind=.function
 glob:X.env.globals=mainGlobals
 blt:X.env.builtins=builtinsNs
 above:X.s₀.heap.objs.size<=X.env.locals
 inj:∀ x y c,X.env.cells.lookup x=some c->X.env.cells.lookup y=some c->x=y
 has:∀ x,(X.env.kindOf x=some .cell\/X.env.kindOf x=some .free)->∃ c,X.env.cells.lookup x=some c
 cab:∀ x c,X.fn x=true->X.env.cells.lookup x=some c->X.s₀.heap.objs.size<=c
 hd:X.calm=true->X.A.handled=none
 frames:X.A.frames=some X.stack
 stk:X.stack=X.outer\/(X.stack=X.env::X.outer/\X.env.frame=some X.env.locals)
 exf:∀ b∈X.ex,b≠X.env.locals/\∀ x c,X.env.cells.lookup x=some c->c≠b
 bs:∀ b o,X.base.get? b=some o->X.s₀.heap.get? b=some o/\X.H₀ b=none
 bsz:X.base.objs.size<=X.s₀.heap.objs.size
 noex:∀ b o,X.base.get? b=some o->b∉X.ex
 exfs:∀ b∈X.ex,b∉X.fs
 funs:X.s₀.heap.FunFrames X.base X.outer
 frf:∀ b∈X.fs,X.H₀ b=none
structure Inv (X:Cx) (pins:List (Addr×Obj)) (σ:List (Option V)) (H:Hp) (s:Shared):Prop where
 ok:X.Ok
 os:s.os=X.s₀.os
 bare:AllBare s.gens
 base:Un X.fs X.ex X.H₀ H X.s₀.heap s.heap
 loc:∃ m,s.heap.Ns X.env.locals m/\∀ (i:Nat) (x:Str) (v:V),X.N[i]?=some x->σ[i]?=some (some v)->Vis X.env.scope x->∃ u,Zbb v u/\Zz2 X.env s.heap m x u
 cell:∀ x c,X.env.cells.lookup x=some c->∃ v,s.heap.IsCell c v
 free:H X.env.locals=none
 freeC:∀ x c,X.env.cells.lookup x=some c->H c=none
 pin:∀ p∈X.pn++pins,s.heap.get? p.1=some p.2/\H p.1=none/\p.1≠X.env.locals/\p.1∉X.fs/\∀ v,p.2.data≠.cell v
 hok:HOk X.prog X.w H s.heap
 len:σ.length=X.N.length
section
variable {X:Cx} {pins:List (Addr×Obj)} {σ:List (Option V)} {H H':Hp} {s:Shared} {h':Heap}
theorem Cx.Ok.nofr(ok:X.Ok){b:Addr}{o:Obj}(e:X.base.get? b=some o):b∉X.fs:=fun hb=>by
 have:=(ok.funs.mem hb).1
 rw[e] at this;cases this
theorem Inv.bs(I:Inv X pins σ H s):∀ b o,X.base.get? b=some o->s.heap.get? b=some o/\H b=none:=fun b o e =>
 ⟨I.base.keep b o (I.ok.bs b o e).1 (I.ok.bs b o e).2 (I.ok.nofr e) (I.ok.noex b o e),I.base.free b o (I.ok.bs b o e).1 (I.ok.bs b o e).2 (I.ok.noex b o e)⟩
theorem Inv.bk(I:Inv X pins σ H s):∀ b o,X.base.get? b=some o->s.heap.get? b=some o:=fun b o e=>(I.bs b o e).1
theorem Inv.mod(I:Inv X pins σ H s):Mod X.K X.mg X.base:=I.ok.mod
theorem Inv.kIn(I:Inv X pins σ H s):X.K.In s.heap:=I.ok.mod.kin.keeps I.bk
theorem Inv.lt(I:Inv X pins σ H s):X.env.locals<s.heap.objs.size:=let ⟨_,hn,_⟩:=I.loc;hn.lt
theorem Inv.sz(I:Inv X pins σ H s):X.s₀.heap.objs.size<=s.heap.objs.size:=Nat.le_trans I.ok.above (Nat.le_of_lt I.lt)
theorem Inv.nofs(I:Inv X pins σ H s){a:Addr}(h:s.heap.objs.size<=a):a∉X.fs:=fun hb=>by
 obtain⟨_,o,ho,_⟩:=I.ok.funs.mem hb
 exact absurd (Nat.lt_of_lt_of_le (Heap.lt_size ho) (Nat.le_trans I.sz h)) (Nat.lt_irrefl _)
theorem Inv.cne(I:Inv X pins σ H s):∀ x c,X.env.cells.lookup x=some c->c≠X.env.locals:=fun x c e z=>by
 obtain⟨v,o,ho,hd⟩:=I.cell x c e
 obtain⟨m,⟨o',es,ep,ho',hd',_⟩,_⟩:=I.loc
 rw[z,ho'] at ho;cases ho;rw[hd'] at hd;cases hd
theorem Inv.funs(I:Inv X pins σ H s):s.heap.FunFrames X.base X.outer:=by
 have all:∀ (l:List Env),(∀ b∈frs l,b∈X.fs)->X.s₀.heap.FunFrames X.base l->s.heap.FunFrames X.base l:=by
  intro l
  induction l with
  | nil=>intro _ _;trivial
  | cons env r ih =>
   intro hs hl
   obtain⟨hk,⟨L,o,hf,hn,ho,hd⟩,hr⟩:=hl
   have hL:L∈X.fs:=hs L (by unfold frs;rw[List.filterMap_cons,hf];exact List.mem_cons_self)
   obtain⟨sl,e⟩:=I.base.slot L o ho (I.ok.frf L hL) hL fun z=>I.ok.exfs L z hL
   exact⟨hk,⟨L,_,hf,hn,e,hd⟩,ih (fun b hb=>hs b (by unfold frs;rw[List.filterMap_cons,hf];exact List.mem_cons_of_mem _ hb)) hr⟩
 exact all X.outer (fun _ hb=>hb) I.ok.funs
theorem Inv.stack(I:Inv X pins σ H s):s.heap.FunFrames X.base X.stack:=by
 rcases I.ok.stk with e|⟨e,hf⟩
 ·rw[e];exact I.funs
 ·rw[e]
  obtain⟨m,hn,_⟩:=I.loc
  refine .cons (by rw[I.ok.kind];decide) hf hn ?_ I.funs
  exact Heap.get?_none_of_le (Nat.le_trans I.ok.bsz I.ok.above)
theorem Inv.stkSub(I:Inv X pins σ H s):∀ b∈frs X.stack,b∈X.env.locals::X.fs:=fun b hb=>by
 rcases I.ok.stk with e|⟨e,hf⟩
 ·rw[e] at hb;exact List.mem_cons_of_mem _ hb
 ·rw[e] at hb
  unfold frs at hb
  rw[List.filterMap_cons,hf] at hb
  exact hb
theorem Inv.stkFree(I:Inv X pins σ H s):∀ b∈frs X.stack,H b=none:=fun b hb=>by
 rcases List.mem_cons.mp (I.stkSub b hb) with e|hb
 ·rw[e];exact I.free
 ·obtain⟨_,o,ho,_⟩:=I.ok.funs.mem hb
  exact I.base.free b o ho (I.ok.frf b hb) fun z=>I.ok.exfs b z hb
theorem Inv.step{g':Array GenState}{t':Nat}{d':Drawn}{ch:List Addr}(I:Inv X pins σ H s)
  (hch:∀ b∈ch,(b∈X.ex\/X.s₀.heap.objs.size<=b)/\b≠X.env.locals/\(∀ x c,X.env.cells.lookup x=some c->c≠b)/\∀ p∈X.pn++pins,p.1≠b)
  (keep:∀ b o,b≠X.env.locals->b∉X.fs->b∉ch->s.heap.get? b=some o->H b=none->h'.get? b=some o)
  (slot:∀ b o,b≠X.env.locals->b∈X.fs->b∉ch->s.heap.get? b=some o->H b=none->∃ sl,h'.get? b=some { o with slots:=sl }) (free:∀ b o,b∉ch->s.heap.get? b=some o->H b=none->H' b=none)
  (there:∀ b o,b∉ch->s.heap.get? b=some o->∃ o',h'.get? b=some o')
  (tups:∀ b xs,H b=some (.tup xs)->H' b=some (.tup xs)) (frzs:∀ b o u,H b=some (.frz o u)->H' b=some (.frz o u)) (tbls:∀ b ps,H b=some (.tbl ps)->∃ more,H' b=some (.tbl (ps++more)))
  (ns:∀ m,s.heap.Ns X.env.locals m->h'.Ns X.env.locals m) (hok:HOk X.prog X.w H' h') (hg:AllBare g') :
  Inv X pins σ H' { s with heap:=h',gens:=g',drawn:=d',toks:=t' }:=by
 have neL:∀ b o,X.s₀.heap.get? b=some o->b≠X.env.locals:=fun b o e=>Nat.ne_of_lt (Nat.lt_of_lt_of_le (Heap.lt_size e) I.ok.above)
 have neC:∀ b o,X.s₀.heap.get? b=some o->b∉X.ex->b∉ch:=fun b o e hx hb=>by
  rcases (hch b hb).1 with z|z
  ·exact hx z
  ·exact absurd (Nat.lt_of_lt_of_le (Heap.lt_size e) z) (Nat.lt_irrefl _)
 have cellK:∀ x c,X.env.cells.lookup x=some c->∀ v,s.heap.IsCell c v->h'.IsCell c v:=fun x c e v ⟨o,ho,hd⟩=>by
  have nch:c∉ch:=fun z=>(hch c z).2.2.1 x c e rfl
  by_cases hc:c∈X.fs
  ·obtain⟨sl,q⟩:=slot c o (I.cne x c e) hc nch ho (I.freeC x c e)
   exact⟨_,q,hd⟩
  ·exact⟨o,keep c o (I.cne x c e) hc nch ho (I.freeC x c e),hd⟩
 refine⟨I.ok,I.os,hg,⟨fun b o e n hb hx=>?_,fun b o e n hb hx=>?_,fun b o e n hx=>?_,fun b o e hx=>?_,fun b xs e=>tups b xs (I.base.tups b xs e),fun b o xs e=>frzs b o xs (I.base.frzs b o xs e),fun b ps e=>?_⟩,?_,fun x c e=>?_,?_,fun x c e=>?_,fun p hp=>?_,hok,I.len⟩
 ·exact keep b o (neL b o e) hb (neC b o e hx) (I.base.keep b o e n hb hx) (I.base.free b o e n hx)
 ·obtain⟨sl,e1⟩:=I.base.slot b o e n hb hx
  obtain⟨sl',e2⟩:=slot b _ (neL b o e) hb (neC b o e hx) e1 (I.base.free b o e n hx)
  exact⟨sl',e2⟩
 ·obtain⟨o',e1⟩:=I.base.there b o e hx
  exact free b o' (neC b o e hx) e1 (I.base.free b o e n hx)
 ·obtain⟨o',e1⟩:=I.base.there b o e hx
  exact there b o' (neC b o e hx) e1
 ·obtain⟨m1,e1⟩:=I.base.tbls b ps e
  obtain⟨m2,e2⟩:=tbls b _ e1
  exact⟨m1++m2,by rw[e2,Array.append_assoc]⟩
 ·obtain⟨m,hn,hl⟩:=I.loc
  refine⟨m,ns m hn,fun i x v e1 e2 e3=>?_⟩
  obtain⟨u,r,l⟩:=hl i x v e1 e2 e3
  refine⟨u,r,?_⟩
  rcases l with l|⟨k,c,e,z⟩
  ·exact .inl l
  ·exact .inr ⟨k,c,e,cellK x c e _ z⟩
 ·obtain⟨v,z⟩:=I.cell x c e
  exact⟨v,cellK x c e v z⟩
 ·obtain⟨m,⟨o,_,_,ho,_⟩,_⟩:=I.loc
  exact free _ o (fun z=>(hch _ z).2.1 rfl) ho I.free
 ·obtain⟨v,o,ho,hd⟩:=I.cell x c e
  exact free c o (fun z=>(hch c z).2.2.1 x c e rfl) ho (I.freeC x c e)
 ·obtain⟨e,n,ne,nf,d⟩:=I.pin p hp
  have nch:p.1∉ch:=fun z=>(hch p.1 z).2.2.2 p hp rfl
  exact⟨keep p.1 p.2 ne nf nch e n,free p.1 p.2 nch e n,ne,nf,d⟩
theorem Inv.un{t':Nat}(I:Inv X pins σ H s)(u:Un X.fs [] H H' s.heap h')(hok:HOk X.prog X.w H' h'):Inv X pins σ H' { s with heap:=h',toks:=t' }:=by
 obtain⟨m,⟨o,es,ep,ho,r⟩,_⟩:=id I.loc
 obtain⟨sl,hL⟩:=u.any ho I.free (by simp)
 exact I.step (g':=s.gens) (d':=s.drawn) (ch:=[]) (fun _ z=>nomatch z) (fun b o _ hb _ e n=>u.keep b o e n hb (by simp)) (fun b o _ hb _ e n=>u.slot b o e n hb (by simp)) (fun b o _ e n=>u.free b o e n (by simp)) (fun b o _ e=>u.there b o e (by simp)) u.tups u.frzs u.tbls (fun m' hm=>by
  obtain⟨o',es',ep',ho',r'⟩:=hm
  rw[ho] at ho';cases ho'
  exact⟨_,es',ep',hL,r'⟩) hok I.bare
theorem Inv.call{g':Array GenState}{t':Nat}{d':Drawn}{ch:List Addr}(I:Inv X pins σ H s)(u:Un (frs X.stack) ch H H' s.heap h')(hok:HOk X.prog X.w H' h')(hg:AllBare g')
  (hch:∀ b∈ch,(b∈X.ex\/X.s₀.heap.objs.size<=b)/\b≠X.env.locals/\(∀ x c,X.env.cells.lookup x=some c->c≠b)/\∀ p∈X.pn++pins,p.1≠b) :
  Inv X pins σ H' { s with heap:=h',gens:=g',drawn:=d',toks:=t' }:=by
 obtain⟨m,⟨o,es,ep,ho,r⟩,_⟩:=id I.loc
 obtain⟨sl,hL⟩:=u.any ho I.free fun z=>(hch _ z).2.1 rfl
 exact I.step (ch:=ch) hch (fun b o hL hb hc e n=>u.keep b o e n (fun z=>(List.mem_cons.mp (I.stkSub b z)).elim hL hb) hc) (fun b o _ _ hc e n=>u.any e n hc) (fun b o hc e n=>u.free b o e n hc) (fun b o hc e=>u.there b o e hc) u.tups u.frzs u.tbls (fun m' hm=>by
  obtain⟨o',es',ep',ho',r'⟩:=hm
  rw[ho] at ho';cases ho'
  exact⟨_,es',ep',hL,r'⟩) hok hg
theorem Inv.turned{t':Nat}{it:Addr}(I:Inv X pins σ H s)(k:∀ b o,b≠it->s.heap.get? b=some o->h'.get? b=some o)(hn:H it=none)(hL:it≠X.env.locals)
  (h1:it∈X.ex\/X.s₀.heap.objs.size<=it) (h2:∀ x c,X.env.cells.lookup x=some c->c≠it) (h3:∀ p∈X.pn++pins,p.1≠it):Inv X pins σ H { s with heap:=h',toks:=t' }:=by
 have nit:∀ b u,H b=some u->b≠it:=fun b u e z=>by rw[z,hn] at e;cases e
 refine I.step (g':=s.gens) (d':=s.drawn) (ch:=[it]) (fun b hb=>?_) (fun b o _ _ hc e _=>k b o (fun z=>hc (by simp[z])) e) (fun b o _ _ hc e _=>⟨o.slots,k b o (fun z=>hc (by simp[z])) e⟩) (fun _ _ _ _ n=>n)
  (fun b o hc e=>⟨o,k b o (fun z=>hc (by simp[z])) e⟩) (fun _ _ e=>e) (fun _ _ _ e=>e) (fun b ps e=>⟨#[],by rw[e];simp⟩) (fun m hm=>?_) (fun b u e=>?_) I.bare
 ·have e:b=it:=by simpa using hb
  subst e
  exact⟨h1,hL,h2,h3⟩
 ·obtain⟨o,es,ep,ho,r⟩:=hm
  exact⟨o,es,ep,k _ o (Ne.symm hL) ho,r⟩
 ·refine(I.hok b u e).stay (fun c v hc q=>k c v ?_ q) (fun _ q=>q) fun _ _ q=>q
  rcases hc with z|z
  ·rw[z];exact nit b u e
  ·exact nit c _ z
theorem Inv.tok(I:Inv X pins σ H s)(t:Nat):Inv X pins σ H { s with toks:=t }:=I.un (h':=s.heap) (t':=t) Un.refl I.hok
theorem Inv.kept{t':Nat}(I:Inv X pins σ H s)(k:∀ b u,s.heap.get? b=some u->h'.get? b=some u):Inv X pins σ H { s with heap:=h',toks:=t' }:=I.un (Un.kept k) (I.hok.kept k)
theorem Inv.laid{a:Addr}{o:HO}{t':Nat}(I:Inv X pins σ H s)(k:∀ b u,s.heap.get? b=some u->h'.get? b=some u)(hp:s.heap.objs.size<=a)(new:ObjOk X.prog X.w (upd H a o) h' a o) :
    Inv X pins σ (upd H a o) { s with heap:=h',toks:=t' }:=I.un (Un.laid k hp (I.hok.fresh hp)) (I.hok.laid k hp new)
theorem Inv.write{x e:Addr}{o:HO}{t':Nat}(I:Inv X pins σ H s)(mu:Mut (H x))(he:e=x\/H e=some (.own x))(k:∀ b u,b≠e->s.heap.get? b=some u->h'.get? b=some u)(heo:∃ u,h'.get? e=some u)
    (new:ObjOk X.prog X.w (upd H x o) h' x o):Inv X pins σ (upd H x o) { s with heap:=h',toks:=t' }:=I.un (Un.write mu he k heo) (I.hok.write mu he k heo new)
theorem Inv.pins_of{pins':List (Addr×Obj)}(I:Inv X pins σ H s)(h:∀ p∈pins',s.heap.get? p.1=some p.2/\H p.1=none/\p.1≠X.env.locals/\p.1∉X.fs/\∀ v,p.2.data≠.cell v):Inv X pins' σ H s :=
 ⟨I.ok,I.os,I.bare,I.base,I.loc,I.cell,I.free,I.freeC,fun p hp=>(List.mem_append.mp hp).elim (fun z=>I.pin p (List.mem_append_left _ z)) (h p),I.hok,I.len⟩
theorem ZhL{N:List Str}(hN:N.Nodup){i j:Nat}{x:Str}(a:N[i]?=some x)(b:N[j]?=some x):i=j:=by
 obtain⟨h1,e1⟩:=List.getElem?_eq_some_iff.mp a
 obtain⟨h2,e2⟩:=List.getElem?_eq_some_iff.mp b
 exact(List.getElem_inj hN).mp (e1.trans e2.symm)
theorem ZfX{M:Model}{A:Around}{E:Value->Shared->Prop}{i:Nat}{x:Str}{v:V}{u:Value}{Q:Unit->Shared->Prop}(I:Inv X pins σ H s)(hN:X.N.Nodup)(hi:X.N[i]?=some x)(hx:Loc X.env.scope x)(r:Zbb v u)
  (h:∀ s',Inv X pins (σ.set i (some v)) H s'->(∃ a,Heap.SameBut a s.heap s'.heap/\(a=X.env.locals\/X.env.cells.lookup x=some a))->Q () s') (hf:X.fn x=true\/X.env.scope.names.lookup x=some .local:=by first|exact .inl rfl|exact .inr rfl|assumption):wpAny M A (storeName X.env x u) Q E s:=by
 obtain⟨m,hn,hl⟩:=id I.loc
 have hcls:(X.env.scope.kind == .class||(X.env.scope.kind == .module&&X.env.locals != X.env.globals))=false:=by rw[I.ok.kind];rfl
 have hiσ:i<σ.length:=by rw[I.len];exact(List.getElem?_eq_some_iff.mp hi).1
 have cne:=I.cne
 have tracked:∀ {a:Addr} {h':Heap},(∃ o,s.heap.get? a=some o/\H a=none)->Heap.SameBut a s.heap h'->HOk X.prog X.w H h':=fun {a h'} ha hs b ob e=>by
  obtain⟨_,_,hfree⟩:=ha
  refine(I.hok b ob e).stay (fun c w' hc q=>(hs.2 c ?_).trans q) (fun _ q=>q) fun _ _ q=>q
  rintro rfl
  rcases hc with rfl|hc
  ·rw[hfree] at e;cases e
  ·rw[hfree] at hc;cases hc
 rcases hx with hk|hk
 ·refine wpAny_storeName_local hk hn (fun h' hn' hs=>?_) hcls
  obtain⟨oL,_,_,hoL,_⟩:=id hn
  refine h _ ⟨I.ok,I.os,I.bare,⟨fun b o e n hb hx=>?_,fun b o e n hb hx=>?_,I.base.free,fun b o e hx=>?_,I.base.tups,I.base.frzs,I.base.tbls⟩,⟨_,hn',fun j y v' e1 e2 e3=>?_⟩,fun y c e=>?_,I.free,I.freeC,fun p hp=>?_,tracked ⟨oL,hoL,I.free⟩ hs,by simpa using I.len⟩ ⟨_,hs,.inl rfl⟩
  ·exact(hs.2 b (Nat.ne_of_lt (Nat.lt_of_lt_of_le (Heap.lt_size e) I.ok.above))).trans (I.base.keep b o e n hb hx)
  ·obtain⟨sl,e1⟩:=I.base.slot b o e n hb hx
   exact⟨sl,(hs.2 b (Nat.ne_of_lt (Nat.lt_of_lt_of_le (Heap.lt_size e) I.ok.above))).trans e1⟩
  ·obtain⟨o',e1⟩:=I.base.there b o e hx
   exact⟨o',(hs.2 b (Nat.ne_of_lt (Nat.lt_of_lt_of_le (Heap.lt_size e) I.ok.above))).trans e1⟩
  ·by_cases hj:j=i
   ·subst hj
    rw[hi] at e1;cases e1
    rw[List.getElem?_set_self hiσ] at e2
    cases e2
    exact⟨u,r,.inl ⟨hk,by simp⟩⟩
   ·rw[List.getElem?_set_ne (Ne.symm hj)] at e2
    obtain⟨u',r',q⟩:=hl j y v' e1 e2 e3
    refine⟨u',r',?_⟩
    rcases q with ⟨k,e⟩|⟨k,c,e,z⟩
    ·refine .inl ⟨k,?_⟩
     have:y≠x:=fun e=>hj (ZhL hN e1 (e ▸ hi))
     simp[this,e]
    ·exact .inr ⟨k,c,e,z.sameBut hs (cne y c e)⟩
  ·obtain⟨w',z⟩:=I.cell y c e
   exact⟨w',z.sameBut hs (cne y c e)⟩
  ·obtain⟨e,n,ne,nf,d⟩:=I.pin p hp
   exact⟨(hs.2 p.1 ne).trans e,n,ne,nf,d⟩
 ·have hfn:X.fn x=true:=by
   rcases hf with z|z
   ·exact z
   ·rw[z] at hk;cases hk
  obtain⟨c,hc⟩:=I.ok.has x (.inl hk)
  obtain⟨w',z⟩:=I.cell x c hc
  refine wpAny_storeName_cell I.ok.kind hk hc z (fun h' hc' hs=>?_)
  obtain⟨oc,hoc,hocd⟩:=id z
  refine h { s with heap:=h' } ⟨I.ok,I.os,I.bare,⟨fun b o e n hb hx=>?_,fun b o e n hb hx=>?_,I.base.free,fun b o e hx=>?_,I.base.tups,I.base.frzs,I.base.tbls⟩,⟨m,hn.sameBut hs (Ne.symm (cne x c hc)),fun j y v' e1 e2 e3=>?_⟩,fun y c' e=>?_,I.free,I.freeC,fun p hp=>?_,tracked ⟨oc,hoc,I.freeC x c hc⟩ hs,by simpa using I.len⟩ ⟨c,hs,.inr hc⟩
  ·exact(hs.2 b (Nat.ne_of_lt (Nat.lt_of_lt_of_le (Heap.lt_size e) (I.ok.cab x c hfn hc)))).trans (I.base.keep b o e n hb hx)
  ·obtain⟨sl,e1⟩:=I.base.slot b o e n hb hx
   exact⟨sl,(hs.2 b (Nat.ne_of_lt (Nat.lt_of_lt_of_le (Heap.lt_size e) (I.ok.cab x c hfn hc)))).trans e1⟩
  ·obtain⟨o',e1⟩:=I.base.there b o e hx
   exact⟨o',(hs.2 b (Nat.ne_of_lt (Nat.lt_of_lt_of_le (Heap.lt_size e) (I.ok.cab x c hfn hc)))).trans e1⟩
  ·by_cases hj:j=i
   ·subst hj
    rw[hi] at e1;cases e1
    rw[List.getElem?_set_self hiσ] at e2
    cases e2
    exact⟨u,r,.inr ⟨.inl hk,c,hc,hc'⟩⟩
   ·rw[List.getElem?_set_ne (Ne.symm hj)] at e2
    obtain⟨u',r',q⟩:=hl j y v' e1 e2 e3
    refine⟨u',r',?_⟩
    rcases q with q|⟨k,c',e,z'⟩
    ·exact .inl q
    ·refine .inr ⟨k,c',e,z'.sameBut hs ?_⟩
     rintro rfl
     exact hj (ZhL hN e1 (I.ok.inj _ _ _ e hc ▸ hi))
  ·by_cases hcc:c'=c
   ·subst hcc;exact⟨_,hc'⟩
   ·obtain⟨w2,z2⟩:=I.cell y c' e
    exact⟨w2,z2.sameBut hs hcc⟩
  ·obtain⟨e,n,ne,nf,d⟩:=I.pin p hp
   refine⟨(hs.2 p.1 ?_).trans e,n,ne,nf,d⟩
   intro q
   rw[q,hoc] at e
   have q':oc=p.2:=Option.some.inj e
   exact d w' (by rw[<- q'];exact hocd)
theorem Zhs{M:Model}{A:Around}{E:Value->Shared->Prop}{i:Nat}{x:Str}{v:V}{u:Value}{Q:Unit->Shared->Prop}(I:Inv X pins σ H s)(hN:X.N.Nodup)(hi:X.N[i]?=some x)(hx:Loc X.env.scope x)(r:Zbb v u)
  (h:∀ s',Inv X pins (σ.set i (some v)) H s'->Q () s') (hf:X.fn x=true\/X.env.scope.names.lookup x=some .local:=by first|exact .inl rfl|exact .inr rfl|assumption):wpAny M A (storeName X.env x u) Q E s :=
 ZfX I hN hi hx r (fun s' I' _=>h s' I') hf
theorem Inv.call'{s':Shared}{ch:List Addr}(I:Inv X pins σ H s)(ho:s'.os=s.os)(u:Un (frs X.stack) ch H H' s.heap s'.heap)(hok:HOk X.prog X.w H' s'.heap)(hg:AllBare s'.gens)
  (hch:∀ b∈ch,(b∈X.ex\/X.s₀.heap.objs.size<=b)/\b≠X.env.locals/\(∀ x c,X.env.cells.lookup x=some c->c≠b)/\∀ p∈X.pn++pins,p.1≠b):Inv X pins σ H' s':=by
 obtain⟨h',g',d',t',o'⟩:=s'
 have e:o'=s.os:=ho
 subst e
 exact I.call (g':=g') (t':=t') (d':=d') u hok hg hch
end
noncomputable abbrev XK:=Value->Option Addr->Hp->Prop
noncomputable abbrev St:=List (Option V)
noncomputable abbrev VK:=V->Hp->Prop
noncomputable abbrev TE:=St->Hp->VK->Prop
noncomputable abbrev TT:=St->Hp->(Bool->Hp->Prop)->Prop
noncomputable abbrev TA:=St->Hp->(List V->Hp->Prop)->Prop
structure Ends where
 nx:St->Hp->Prop
 rt:VK
 bk:St->Hp->Prop:=fun _ _=>False
 ct:St->Hp->Prop:=fun _ _=>False
noncomputable abbrev TS:=Ends->St->Hp->Prop
def EP(X:Cx)(pins:List (Addr×Obj))(σ:St)(Q:VK)(u:Value)(s':Shared):Prop:=∃ v H',Inv X pins σ H' s'/\Zbb v u/\Q v H'
def TP(X:Cx)(pins:List (Addr×Obj))(σ:St)(Q:Bool->Hp->Prop)(b:Bool)(s':Shared):Prop:=∃ H',Inv X pins σ H' s'/\Q b H'
def AP(X:Cx)(pins:List (Addr×Obj))(σ:St)(Q:List V->Hp->Prop)(us:List Value)(s':Shared):Prop:=∃ vs H',Inv X pins σ H' s'/\ZaP vs us/\Q vs H'
noncomputable def SP(X:Cx)(pins:List (Addr×Obj))(D:Ends)(f:Flow)(s':Shared):Prop :=
  match f with
  | .next=>∃ σ' H',Inv X pins σ' H' s'/\D.nx σ' H'
  | .brk=>∃ σ' H',Inv X pins σ' H' s'/\D.bk σ' H'
  | .cont=>∃ σ' H',Inv X pins σ' H' s'/\D.ct σ' H'
  | .ret u=>∃ v σ' H',Inv X pins σ' H' s'/\Zbb v u/\D.rt v H'
noncomputable def PE(X:Cx)(e:Expr)(t:TE):Prop :=
 ∀ (pins:List (Addr×Obj)) (s:Shared) (σ:St) (H:Hp) (Q:VK),Inv X pins σ H s->t σ H Q->wpAny (model X.prog X.w) X.A (eval e X.env) (EP X pins σ Q) X.xe s
noncomputable def PT(X:Cx)(e:Expr)(t:TT):Prop :=
 ∀ (pins:List (Addr×Obj)) (s:Shared) (σ:St) (H:Hp) (Q:Bool->Hp->Prop),Inv X pins σ H s->t σ H Q->wpAny (model X.prog X.w) X.A (isTrue e X.env (eval e X.env)) (TP X pins σ Q) X.xe s
noncomputable def PW(X:Cx)(e:Expr)(t:TT):Prop :=
 ∀ (whole:Sem Value) (pins:List (Addr×Obj)) (s:Shared) (σ:St) (H:Hp) (Q:Bool->Hp->Prop),Inv X pins σ H s->t σ H Q->wpAny (model X.prog X.w) X.A (isTrue e X.env whole) (TP X pins σ Q) X.xe s
theorem PW.pt{X:Cx}{e:Expr}{t:TT}(h:PW X e t):PT X e t:=h _
noncomputable def PA(X:Cx)(es:List Expr)(t:TA):Prop :=
 ∀ (pos:Pos) (pins:List (Addr×Obj)) (s:Shared) (σ:St) (H:Hp) (Q:List V->Hp->Prop),Inv X pins σ H s->t σ H Q->wpAny (model X.prog X.w) X.A (spliced (backTo pos (starEach es X.env))) (AP X pins σ Q) X.xe s
noncomputable def PS(X:Cx)(st:Stmt)(t:TS):Prop :=
 ∀ (pins:List (Addr×Obj)) (s:Shared) (σ:St) (H:Hp) (D:Ends),Inv X pins σ H s->t D σ H->wpAny (model X.prog X.w) X.A (exec st X.env) (SP X pins D) X.xe s
noncomputable def PSs(X:Cx)(st:List Stmt)(t:TS):Prop :=
 ∀ (pins:List (Addr×Obj)) (s:Shared) (σ:St) (H:Hp) (D:Ends),Inv X pins σ H s->t D σ H->wpAny (model X.prog X.w) X.A (execs st X.env) (SP X pins D) X.xe s
theorem thn{α:Type}{t:Sem α}{Q Q':α->Shared->Prop}{M:Model}{A:Around}{E:Value->Shared->Prop}{s:Shared}(h:wpAny M A t Q E s)(hQ:∀ a s,Q a s->Q' a s):wpAny M A t Q' E s:=wpAny_mono h hQ fun _ _ x=>x
end L2
namespace L2
open PySem PySem.Spec PyProof.Rows
section
variable {X:Cx}
noncomputable def ZlV(i:Nat):TE:=fun σ H Q=>∃ v,σ[i]?=some (some v)/\Q v H
noncomputable def tC(v:V):TE:=fun _ H Q=>Q v H
theorem Zmb{i:Nat}{x:Str}{pos:Pos}(hN:X.N[i]?=some x)(hv:Vis X.env.scope x)(hd:(x == ("__debug__" : Str))=false:=by decide)(hcd:(x == ("__classdict__" : Str))=false:=by decide):PE X (.Name x pos) (ZlV i):=by
 intro pins s σ H Q I h
 obtain⟨v,e,h⟩:=h
 obtain⟨m,hn,hl⟩:=I.loc
 obtain⟨u,r,l⟩:=hl i x v hN e hv
 have fin:EP X pins σ Q u s:=⟨v,H,I,r,h⟩
 rcases l with ⟨hk,hm⟩|⟨hk,c,hc,hcell⟩
 ·exact wpAny_Name (wpAny_loadName_local I.ok.kind hk hn hm fin) hd
 ·rcases hk with hk|hk
  ·exact wpAny_Name (wpAny_loadName_cell I.ok.kind hk hc hcell fin) hd
  ·exact wpAny_Name (wpAny_loadName_free I.ok.kind hk hc hcell fin hcd) hd
theorem Zrf{i j pos}:PE X (.Constant (.int i) j pos) (tC (.int i)):=fun _ _ _ H _ I h=>wpAny_Constant_int ⟨.int i,H,I.tok _,⟨_,rfl⟩,h⟩
theorem Zwk{b j pos}:PE X (.Constant (.bool b) j pos) (tC (.bl b)):=fun _ _ _ H _ I h=>Constant_bool ⟨.bl b,H,I,rfl,h⟩
theorem Zrd{j pos}:PE X (.Constant .none j pos) (tC .non):=fun _ _ _ H _ I h=>Constant_none ⟨.non,H,I,rfl,h⟩
theorem Zq9{x j pos}:PE X (.Constant (.str x) j pos) (tC (.str x)):=fun _ _ _ H _ I h=>Calls.Constant_str ⟨.str x,H,I.tok _,⟨_,rfl⟩,h⟩
def Gl(X:Cx)(x:Str):Prop:=X.env.kindOf x=some .globalImplicit
theorem ZgR{E:Value->Shared->Prop}{pins:List (Addr×Obj)}{s:Shared}{σ:St}{H:Hp}{x:Str}{u:Value}{pos:Pos}{Q:Value->Shared->Prop}(I:Inv X pins σ H s)(hg:Gl X x)(hm:X.mg x=some u)(h:Q u s)
  (hd:(x == ("__debug__" : Str))=false:=by decide):wpAny (model X.prog X.w) X.A (eval (.Name x pos) X.env) Q E s :=
 Calls.Name_function_global I.ok.kind hg (Calls.loadGlobal_global (by rw[I.ok.glob];exact I.mod.glob.keeps I.bk) hm h) hd
theorem Zds{E:Value->Shared->Prop}{pins:List (Addr×Obj)}{s:Shared}{σ:St}{H:Hp}{x:Str}{u:Value}{pos:Pos}{Q:Value->Shared->Prop}(I:Inv X pins σ H s)(hg:Gl X x)(hm:X.mg x=none)(hv:bootBuiltins x=some u)(h:Q u s)
  (hn:x≠"__name__" := by decide) (hd:(x == ("__debug__" : Str))=false:=by decide):wpAny (model X.prog X.w) X.A (eval (.Name x pos) X.env) Q E s:=by
 obtain⟨mb,h1,h2⟩:=I.mod.blt
 exact Calls.Name_function_global I.ok.kind hg (Calls.loadGlobal_builtin (by rw[I.ok.glob];exact I.mod.glob.keeps I.bk) hm (by rw[I.ok.blt];exact h1.keeps I.bk) ((h2 x hn).trans hv) h) hd
theorem Zjt{x:Str}{v:V}{u:Value}{pos:Pos}(hg:Gl X x)(hm:X.mg x=some u)(r:Zbb v u)(hd:(x == ("__debug__" : Str))=false:=by decide):PE X (.Name x pos) (tC v) :=
 fun _ _ _ H _ I h=>ZgR I hg hm ⟨v,H,I,r,h⟩ hd
theorem Zjv{x:Str}{v:V}{u:Value}{pos:Pos}(hg:Gl X x)(hm:X.mg x=none)(hv:bootBuiltins x=some u)(r:Zbb v u)(hn:x≠"__name__" := by decide)(hd:(x == ("__debug__" : Str))=false:=by decide):PE X (.Name x pos) (tC v) :=
 fun _ _ _ H _ I h=>Zds I hg hm hv ⟨v,H,I,r,h⟩ hn hd
variable {a b:Expr} {ta tb:TE} {pos:Pos}
noncomputable def tB(t:TE):TT:=fun σ H Q=>t σ H fun x H1=>∃ c,x=.bl c/\Q c H1
variable {tA tB':TT} {rest:List Expr}
noncomputable def Zzt(t u:TT):TT:=fun σ H Q=>t σ H fun c H1=>if c=true then u σ H1 Q else Q false H1
noncomputable def tOr(t u:TT):TT:=fun σ H Q=>t σ H fun c H1=>if c=true then Q true H1 else u σ H1 Q
noncomputable def Zzn(t:TT):TT:=fun σ H Q=>t σ H fun c H1=>Q (!c) H1
theorem ZnP(ha:PT X a tA):PW X (.BoolOp .And [a] pos) tA:=by
 intro wh pins s σ H Q I h
 refine isTrue_and (thn (ha pins s σ H Q I h) fun c s1 e=>?_)
 cases c with
 | true=>exact isTrue_and_nil e
 | false=>exact e
theorem Zq1(ha:PT X a tA):PW X (.BoolOp .Or [a] pos) tA:=by
 intro wh pins s σ H Q I h
 refine isTrue_or (thn (ha pins s σ H Q I h) fun c s1 e=>?_)
 cases c with
 | false=>exact isTrue_or_nil e
 | true=>exact e
theorem Zq2(ha:PT X a tA)(hb:PW X (.BoolOp .And (b::rest) pos) tB'):PW X (.BoolOp .And (a::b::rest) pos) (Zzt tA tB'):=by
 intro wh pins s σ H Q I h
 refine isTrue_and (thn (ha pins s σ H _ I h) fun c s1 ⟨H1,I1,q1⟩=>?_)
 cases c with
 | true=>exact hb wh pins s1 σ H1 Q I1 q1
 | false=>exact⟨H1,I1,q1⟩
theorem Zwb(ha:PT X a tA)(hb:PW X (.BoolOp .Or (b::rest) pos) tB'):PW X (.BoolOp .Or (a::b::rest) pos) (tOr tA tB'):=by
 intro wh pins s σ H Q I h
 refine isTrue_or (thn (ha pins s σ H _ I h) fun c s1 ⟨H1,I1,q1⟩=>?_)
 cases c with
 | true=>exact⟨H1,I1,q1⟩
 | false=>exact hb wh pins s1 σ H1 Q I1 q1
theorem Zq3(ha:PT X a tA):PT X (.UnaryOp .Not a pos) (Zzn tA):=by
 intro pins s σ H Q I h
 exact isTrue_not (ha pins s σ H (fun c H1=>Q (!c) H1) I h)
noncomputable def ZuR(ta tb:TE):TE:=fun σ H Q=>ta σ H fun x H1=>∃ c,x=.bl c/\if c=true then tb σ H1 Q else Q (.bl false) H1
noncomputable def Zzm(ta tb:TE):TE:=fun σ H Q=>ta σ H fun x H1=>∃ c,x=.bl c/\if c=true then Q (.bl true) H1 else tb σ H1 Q
noncomputable def ZuM(ta:TE):TE:=fun σ H Q=>ta σ H fun x H1=>∃ c,x=.bl c/\Q (.bl (!c)) H1
theorem Zrb{op}{t:TE}(h:PE X a t):PE X (.BoolOp op [a] pos) t:=fun pins s σ H Q I hw=>BoolOp_one (h pins s σ H Q I hw)
theorem Zrh(ha:PE X a ta)(hb:PE X (.BoolOp .And (b::rest) pos) tb):PE X (.BoolOp .And (a::b::rest) pos) (ZuR ta tb):=by
 intro pins s σ H Q I h
 refine BoolOp_and (thn (ha pins s σ H _ I h) fun v s1 ⟨x,H1,I1,r1,q1⟩=>?_)
 obtain⟨c,rfl,q1⟩:=q1
 cases r1
 refine wpAny_truthy_bool ?_
 cases c with
 | true=>exact hb pins s1 σ H1 Q I1 q1
 | false=>exact⟨.bl false,H1,I1,rfl,q1⟩
theorem Zwh(ha:PE X a ta)(hb:PE X (.BoolOp .Or (b::rest) pos) tb):PE X (.BoolOp .Or (a::b::rest) pos) (Zzm ta tb):=by
 intro pins s σ H Q I h
 refine BoolOp_or (thn (ha pins s σ H _ I h) fun v s1 ⟨x,H1,I1,r1,q1⟩=>?_)
 obtain⟨c,rfl,q1⟩:=q1
 cases r1
 refine wpAny_truthy_bool ?_
 cases c with
 | false=>exact hb pins s1 σ H1 Q I1 q1
 | true=>exact⟨.bl true,H1,I1,rfl,q1⟩
theorem Zrc(ha:PE X a ta):PE X (.UnaryOp .Not a pos) (ZuM ta):=by
 intro pins s σ H Q I h
 refine UnaryOp_ (thn (ha pins s σ H _ I h) fun v s1 ⟨x,H1,I1,r1,q1⟩=>?_)
 obtain⟨c,rfl,q1⟩:=q1
 cases r1
 exact not_of (wpAny_truthy_bool ⟨.bl (!c),H1,I1,rfl,q1⟩)
end
end L2
namespace L2
open PySem PySem.Spec PyProof.Rows
noncomputable def SqL(K:PySem.W.Frag)(H:Hp)(a:Addr)(xs:List V):Prop :=
 Rd H a (.lst xs) \/
  ∃ (o:Obj) (its:Array Value) (n:Nat),K.lookup a=some o/\o.cls=.type "list"/\o.dict=none/\o.data=.seq its n/\its.size<=sizeLine/\ZaP xs its.toList
noncomputable def SqT(K:PySem.W.Frag)(H:Hp)(a:Addr)(xs:List V):Prop :=
 Rd H a (.tup xs) \/
  ∃ (o:Obj) (its:Array Value) (n:Nat),K.lookup a=some o/\o.cls=.type "tuple"/\o.data=.seq its n/\its.size<=sizeLine/\ZaP xs its.toList
noncomputable def ZzZ:Value->Option V
 | .none=>some .non
 | .bool b=>some (.bl b)
 | .int i _=>some (.int i)
 | .str x _=>some (.str x)
 | .bytes b _=>some (.byt b)
 | .float b _=>some (.flt b)
 | .ref a=>some (.ref a)
 | .type n=>some (.ty n)
 | _=>none
theorem Zbb.abs{x:V}{u:Value}(r:Zbb x u):ZzZ u=some x:=by
 cases x with
 | non=>cases r;rfl
 | bl _=>cases r;rfl
 | int _=>obtain⟨t,rfl⟩:=r;rfl
 | str _=>obtain⟨t,rfl⟩:=r;rfl
 | byt _=>obtain⟨t,rfl⟩:=r;rfl
 | flt _=>obtain⟨t,rfl⟩:=r;rfl
 | ref _=>cases r;rfl
 | ty _=>cases r;rfl
theorem Zbb.inj{x y:V}{u:Value}(r:Zbb x u)(q:Zbb y u):x=y:=Option.some.inj (r.abs.symm.trans q.abs)
theorem ZaP.inj:∀ {xs ys:List V} {us:List Value},ZaP xs us->ZaP ys us->xs=ys
 | _,_,_,.nil,.nil=>rfl
 | _,_,_,.cons r t,.cons r' t'=>by rw[r.inj r',ZaP.inj t t']
section
variable {X:Cx} {pins:List (Addr×Obj)} {σ:St} {H:Hp} {s:Shared} {a:Addr} {xs ys:List V}
theorem SqL.of{K:PySem.W.Frag}(h:H a=some (.lst xs)):SqL K H a xs:=.inl (.inl h)
theorem SqT.of{K:PySem.W.Frag}(h:H a=some (.tup xs)):SqT K H a xs:=.inl (.inl h)
theorem Inv.list(I:Inv X pins σ H s)(h:SqL X.K H a xs):∃ its:List Value,ZaP xs its/\PlainL s.heap a its.toArray/\xs.length<=sizeLine:=by
 rcases h with h|⟨o,its,n,hk,hc,hd,hs,hz,r⟩
 ·obtain⟨z,its,n,r,e⟩:=h.ok I.hok
  exact⟨its,r,⟨_,n,e,rfl,rfl,rfl⟩,z⟩
 ·refine⟨its.toList,r,⟨o,n,I.kIn a o hk,hc,hd,by simpa using hs⟩,?_⟩
  have e:=r.length
  simp only[Array.length_toList] at e
  omega
theorem Inv.tuple(I:Inv X pins σ H s)(h:SqT X.K H a xs):∃ its:List Value,ZaP xs its/\IsTup s.heap a its.toArray/\xs.length<=sizeLine:=by
 rcases h with h|⟨o,its,n,hk,hc,hs,hz,r⟩
 ·obtain⟨z,its,r,p⟩:=h.ok I.hok
  exact⟨its,r,p,z⟩
 ·refine⟨its.toList,r,⟨o,I.kIn a o hk,hc,n,by simpa using hs⟩,?_⟩
  have e:=r.length
  simp only[Array.length_toList] at e
  omega
theorem Inv.list_inj(I:Inv X pins σ H s)(h:SqL X.K H a xs)(h':SqL X.K H a ys):xs=ys:=by
 obtain⟨its,r,⟨o,n,e,_,_,d⟩,_⟩:=I.list h
 obtain⟨its',r',⟨o',n',e',_,_,d'⟩,_⟩:=I.list h'
 rw[e] at e';cases e'
 rw[d] at d'
 injection d' with d1 _
 have:its=its':=by simpa using congrArg Array.toList d1
 subst this
 exact r.inj r'
theorem Inv.tuple_inj(I:Inv X pins σ H s)(h:SqT X.K H a xs)(h':SqT X.K H a ys):xs=ys:=by
 obtain⟨its,r,⟨o,e,_,n,d⟩,_⟩:=I.tuple h
 obtain⟨its',r',⟨o',e',_,n',d'⟩,_⟩:=I.tuple h'
 rw[e] at e';cases e'
 rw[d] at d'
 injection d' with d1 _
 have:its=its':=by simpa using congrArg Array.toList d1
 subst this
 exact r.inj r'
end
noncomputable abbrev Cx.wish(X:Cx)(E:Value->Shared->Prop):Cx:={ X with xe:=E }
noncomputable abbrev Cx.nox(X:Cx):Cx:=X.wish fun _ _=>False
theorem Cx.Ok.wish{X:Cx}(ok:X.Ok)(E:Value->Shared->Prop):(X.wish E).Ok :=
 ⟨ok.mod,ok.kind,ok.glob,ok.blt,ok.above,ok.inj,ok.has,ok.cab,ok.hd,ok.frames,ok.stk,ok.exf,ok.bs,ok.bsz,ok.noex,ok.exfs,ok.funs,ok.frf⟩
theorem Cx.Ok.unwish{X:Cx}{E:Value->Shared->Prop}(ok:(X.wish E).Ok):X.Ok :=
 ⟨ok.mod,ok.kind,ok.glob,ok.blt,ok.above,ok.inj,ok.has,ok.cab,ok.hd,ok.frames,ok.stk,ok.exf,ok.bs,ok.bsz,ok.noex,ok.exfs,ok.funs,ok.frf⟩
section
variable {X:Cx} {pins:List (Addr×Obj)} {σ:St} {H:Hp} {s:Shared} {E:Value->Shared->Prop}
theorem Inv.wish(I:Inv X pins σ H s)(E:Value->Shared->Prop):Inv (X.wish E) pins σ H s:=⟨I.ok.wish E,I.os,I.bare,I.base,I.loc,I.cell,I.free,I.freeC,I.pin,I.hok,I.len⟩
theorem Inv.unwish(I:Inv (X.wish E) pins σ H s):Inv X pins σ H s:=⟨I.ok.unwish,I.os,I.bare,I.base,I.loc,I.cell,I.free,I.freeC,I.pin,I.hok,I.len⟩
theorem SP.unwish{D:Ends}{f:Flow}{s':Shared}(h:SP (X.wish E) pins D f s'):SP X pins D f s':=by
 cases f with
 | next=>obtain⟨σ',H',I,q⟩:=h;exact⟨σ',H',I.unwish,q⟩
 | brk=>obtain⟨σ',H',I,q⟩:=h;exact⟨σ',H',I.unwish,q⟩
 | cont=>obtain⟨σ',H',I,q⟩:=h;exact⟨σ',H',I.unwish,q⟩
 | ret u=>obtain⟨v,σ',H',I,r,q⟩:=h;exact⟨v,σ',H',I.unwish,r,q⟩
theorem PSs.nox{st:List Stmt}{t:TS}(h:PSs X.nox st t):PSs X st t:=fun pins s σ H D I hw =>
 wpAny_mono (h pins s σ H D (I.wish _) hw) (fun _ _ q=>q.unwish) fun _ _ z=>False.elim z
end
section
variable {X:Cx} {st:Stmt} {rest:List Stmt} {t u:TS} {e:Expr} {te:TE} {pos:Pos}
noncomputable def ZuN:TS:=fun D σ H=>D.nx σ H
noncomputable def Zzk(t u:TS):TS:=fun D σ H=>t { D with nx:=u D } σ H
theorem ZnU:PSs X [] ZuN:=fun _ _ σ H _ I h=>wpAny_execs_nil ⟨σ,H,I,h⟩
theorem Zli(h1:PS X st t)(h2:PSs X rest u):PSs X (st::rest) (Zzk t u):=by
 intro pins s σ H D I h
 refine wpAny_execs_cons (thn (h1 pins s σ H { D with nx:=u D } I h) fun f s1 q=>?_)
 cases f with
 | next =>
  obtain⟨σ',H',I',q⟩:=q
  exact h2 pins s1 σ' H' D I' q
 | ret v=>exact q
 | brk=>exact q
 | cont=>exact q
theorem Inv.quiet{pins:List (Addr×Obj)}{σ:St}{H:Hp}{s:Shared}(I:Inv X pins σ H s):interactive X.env=false:=by simp[interactive,I.ok.kind]
noncomputable def ZuO(te:TE):TS:=fun D σ H=>te σ H fun _ H1=>D.nx σ H1
theorem Zjm(he:PE X e te)(hs:swapsWith e none pos.line X.env=pure false:=by rfl):PS X (.Expr e pos) (ZuO te):=by
 intro pins s σ H D I h
 exact wpAny_Expr_any (thn (he pins s σ H _ I h) fun v s1 ⟨x,H1,I1,r1,q1⟩=>⟨σ,H1,I1,q1⟩) I.quiet hs
noncomputable def Zzl(te:TE):TS:=fun D σ H=>te σ H D.rt
theorem Zjl(he:PE X e te):PS X (.Return (some e) pos) (Zzl te):=by
 intro pins s σ H D I h
 exact wpAny_Return_some (thn (he pins s σ H _ I h) fun v s1 ⟨x,H1,I1,r1,q1⟩=>⟨x,σ,H1,I1,r1,q1⟩)
noncomputable def Zzq(c:TT)(t u:TS):TS:=fun D σ H=>c σ H fun b H1=>if b=true then t D σ H1 else u D σ H1
theorem Zwd{c:Expr}{a b:List Stmt}{tc:TT}(hc:PT X c tc)(ha:PSs X a t)(hb:PSs X b u):PS X (.If c a b pos) (Zzq tc t u):=by
 intro pins s σ H D I h
 refine wpAny_If (thn (hc pins s σ H _ I h) fun d s1 ⟨H1,I1,q1⟩=>?_)
 cases d with
 | true=>exact ha pins s1 σ H1 D I1 q1
 | false=>exact hb pins s1 σ H1 D I1 q1
end
noncomputable abbrev TG:=V->St->Hp->(St->Hp->Prop)->Prop
noncomputable abbrev TGs:=List V->St->Hp->(St->Hp->Prop)->Prop
noncomputable def PG(X:Cx)(target:Expr)(t:TG):Prop :=
 ∀ (pins:List (Addr×Obj)) (s:Shared) (σ:St) (H:Hp) (v:V) (u:Value) (Q:St->Hp->Prop),Inv X pins σ H s->Zbb v u->t v σ H Q ->
  wpAny (model X.prog X.w) X.A (assign target X.env u) (fun _ s'=>∃ σ' H',Inv X pins σ' H' s'/\Q σ' H') X.xe s
noncomputable def PGs(X:Cx)(ts:List Expr)(t:TGs):Prop :=
 ∀ (pins:List (Addr×Obj)) (s:Shared) (σ:St) (H:Hp) (vs:List V) (us:List Value) (Q:St->Hp->Prop),Inv X pins σ H s->ZaP vs us->t vs σ H Q ->
  wpAny (model X.prog X.w) X.A (assignInOrder ((assignEach ts X.env).map (·.2)) us) (fun _ s'=>∃ σ' H',Inv X pins σ' H' s'/\Q σ' H') X.xe s
noncomputable abbrev Zx1:=V->V->V->Hp->(Hp->Prop)->Prop
noncomputable def Zzf(X:Cx)(t:Zx1):Prop :=
 ∀ (pins:List (Addr×Obj)) (s:Shared) (σ:St) (H:Hp) (o i v:V) (ov iv u:Value) (Q:Hp->Prop),Inv X pins σ H s->Zbb o ov->Zbb i iv->Zbb v u->t o i v H Q ->
  wpAny (model X.prog X.w) X.A (setItem ov iv u) (fun _ s'=>∃ H',Inv X pins σ H' s'/\Q H') X.xe s
section
variable {X:Cx} {pos:Pos}
noncomputable def ZcH(i:Nat):TG:=fun v σ H Q=>Q (σ.set i (some v)) H
theorem Zes{i:Nat}{x:Str}(hN:X.N.Nodup)(hi:X.N[i]?=some x)(hx:Loc X.env.scope x)(hf:X.fn x=true\/X.env.scope.names.lookup x=some .local:=by first|exact .inl rfl|exact .inr rfl|assumption):PG X (.Name x pos) (ZcH i):=by
 intro pins s σ H v u Q I r h
 exact wpAny_assign_Name (Zhs I hN hi hx r (fun s' I'=>⟨_,H,I',h⟩) hf)
noncomputable def Zj1:TGs:=fun vs σ H Q=>vs=[]/\Q σ H
noncomputable def Zey(t:TG)(u:TGs):TGs:=fun vs σ H Q=>∃ v r,vs=v::r/\t v σ H fun σ' H'=>u r σ' H' Q
theorem Zjr:PGs X [] Zj1:=by
 intro pins s σ H vs us Q I r h
 obtain⟨e,h⟩:=h
 subst e
 cases r
 exact assignInOrder_nil ⟨σ,H,I,h⟩
theorem ZhE{e:Expr}{es:List Expr}{t:TG}{u:TGs}(h1:PG X e t)(h2:PGs X es u)
  (hs:(assignEach (e::es) X.env).map (·.2)=assign e X.env::(assignEach es X.env).map (·.2):=by rfl):PGs X (e::es) (Zey t u):=by
 intro pins s σ H vs us Q I r h
 obtain⟨v,vr,e1,h⟩:=h
 subst e1
 cases r with
 | cons r rr =>
  rw[hs]
  refine assignInOrder_cons (thn (h1 pins s σ H _ _ _ I r h) fun _ s1 ⟨σ1,H1,I1,q1⟩=>?_)
  exact h2 pins s1 σ1 H1 _ _ Q I1 rr q1
noncomputable def ZpP(K:PySem.W.Frag)(n:Nat)(t:TGs):TG:=fun v σ H Q=>∃ a xs,v=.ref a/\SqT K H a xs/\xs.length=n/\t xs σ H Q
theorem Zjs{es:List Expr}{k:Nat}{t:TGs}{n:Nat}(hc:X.calm=true)(h:PGs X es t)
  (hn:(assignEach es X.env).length=n:=by rfl) (hst:(assignEach es X.env).findIdx? (·.1)=none:=by rfl):PG X (.Tuple es k pos) (ZpP X.K n t):=by
 intro pins s σ H v u Q I r hw
 obtain⟨a,xs,e1,hq,hl,hw⟩:=hw
 subst e1
 cases r
 obtain⟨its,rv,ht,hz⟩:=I.tuple hq
 refine assign_Tuple_tuple (I.ok.hd hc) ht (by simp[hn,<- hl,rv.length]) hst fun h' hx=>?_
 have I1:Inv X pins σ H { s with heap:=h' }:=I.kept (t':=s.toks) fun b o e=>hx b o (Nat.ne_of_lt (Heap.lt_size e)) e
 exact h pins _ σ H xs _ Q I1 (by simpa using rv) hw
noncomputable def ZzR(to ti:TE)(t:Zx1):TG:=fun v σ H Q=>to σ H fun o H1=>ti σ H1 fun i H2=>t o i v H2 fun H3=>Q σ H3
theorem Zq8{o i:Expr}{to ti:TE}{t:Zx1}(ho:PE X o to)(hi:PE X i ti)(hs:Zzf X t)
  (ha:∀ v,assign (.Subscript o i pos) X.env v=(do
   let ov <- holding [v] (eval o X.env)
   let iv <- holding [v,ov] (eval i X.env)
   standAt pos
   holding [v,ov,iv] (setItem ov iv v)
   release [v,ov,iv] []):=by intro _;rfl):PG X (.Subscript o i pos) (ZzR to ti t):=by
 intro pins s σ H v u Q I r h
 rw[ha]
 refine wpAny_bind (wpAny_holding (thn (ho pins s σ H _ I h) fun ov s1 ⟨x,H1,I1,r1,q1⟩=>?_))
 refine wpAny_bind (wpAny_holding (thn (hi pins s1 σ H1 _ I1 q1) fun iv s2 ⟨y,H2,I2,r2,q2⟩=>?_))
 refine wpAny_bind (wpAny_standAt (wpAny_bind (wpAny_holding (thn (hs pins s2 σ H2 x y v ov iv u _ I2 r1 r2 r q2) fun _ s3 ⟨H3,I3,q3⟩=>?_))))
 exact wpAny_release ⟨σ,H3,I3,q3⟩
noncomputable def Ztr(te:TE)(g:TG):TS:=fun D σ H=>te σ H fun x H1=>g x σ H1 D.nx
theorem Zma{tg e:Expr}{te:TE}{g:TG}(he:PE X e te)(hg:PG X tg g)(hs:swapsWithSole [tg] e pos.line X.env=pure false:=by rfl)(hw:swappedStores [tg] e X.env=pure none:=by rfl)
  (h1:(assignEach [tg] X.env).map (·.2)=[assign tg X.env]:=by rfl):PS X (.Assign [tg] e pos) (Ztr te g):=by
 intro pins s σ H D I h
 refine wpAny_Assign_stores (thn (he pins s σ H _ I h) fun v s1 ⟨x,H1,I1,r1,q1⟩=>?_) hs hw
 rw[h1]
 exact thn (hg pins s1 σ H1 x v _ I1 r1 q1) fun _ s2 q=>q
theorem Zl9{i:Nat}{x:Str}{e:Expr}{te:TE}{pos':Pos}(hN:X.N.Nodup)(hi:X.N[i]?=some x)(hx:Loc X.env.scope x)(he:PE X e te)(hs:swapsWith e (some (.Name x pos')) pos.line X.env=pure false:=by rfl)(hf:X.fn x=true\/X.env.scope.names.lookup x=some .local:=by first|exact .inl rfl|exact .inr rfl|assumption) :
  PS X (.Assign [.Name x pos'] e pos) (Ztr te (ZcH i)):=by
 intro pins s σ H D I h
 refine wpAny_Assign_Name (thn (he pins s σ H _ I h) fun v s1 ⟨y,H1,I1,r1,q1⟩=>?_) hs
 exact Zhs I1 hN hi hx r1 (fun s2 I2=>⟨_,H1,I2,q1⟩) hf
end
section
variable {X:Cx} {pos:Pos}
end
structure It where
 go:Nat->Hp->Prop
 yld:Nat->Hp->V->Hp->Prop
 stop:Nat->Hp->Prop
noncomputable def ZiF(X:Cx)(pins:List (Addr×Obj))(H:Hp)(b:Addr):Prop :=
 H b=none/\b≠X.env.locals/\b∉X.fs/\(b∈X.ex\/X.s₀.heap.objs.size<=b)/\(∀ x c,X.env.cells.lookup x=some c->c≠b)/\∀ p∈X.pn++pins,p.1≠b
theorem Inv.fpOk{X:Cx}{pins:List (Addr×Obj)}{σ:St}{H H':Hp}{s:Shared}{b:Addr}(I:Inv X pins σ H s)(hb:s.heap.objs.size<=b)(hn:H' b=none):ZiF X pins H' b:=by
 refine⟨hn,Nat.ne_of_gt (Nat.lt_of_lt_of_le I.lt hb),I.nofs hb,.inr (Nat.le_trans I.sz hb),fun x c e z=>?_,fun p hp z=>?_⟩
 ·obtain⟨v,q⟩:=I.cell x c e
  exact absurd (Nat.lt_of_lt_of_le q.lt (by rw[z];exact hb)) (Nat.lt_irrefl _)
 ·exact absurd (Nat.lt_of_lt_of_le (Heap.lt_size (I.pin p hp).1) (by rw[z];exact hb)) (Nat.lt_irrefl _)
structure Turn (P:Program) (w:World) (K:PySem.W.Frag) (tg:Expr) (J:It) (fp:List Addr) (it:Addr) (tn:Nat->Heap->Prop):Prop where
 mem:it∈fp
 obj:∀ i h,tn i h->∀ b∈fp,∃ o,h.get? b=some o/\∀ v,o.data≠.cell v
 keep:∀ i h h',tn i h->(∀ b∈fp,∀ o,h.get? b=some o->h'.get? b=some o)->tn i h'
 item:∀ (X:Cx),X.prog=P->X.w=w->X.K=K->X.calm=true->∀ (i:Nat) (pins:List (Addr×Obj)) (s:Shared) (σ:St) (H:Hp) (E:Value->Shared->Prop),Inv X pins σ H s->(∀ b∈fp,ZiF X pins H b)->tn i s.heap->J.go i H ->
  wpAny (model P w) X.A (pyNext (.ref it)) (fun r s1=>∃ u,r=some u /\
   wpAny (model P w) X.A (letOwnedTupleGo tg (.ref it) u) (fun _ s2=>∃ x H',Inv X pins σ H' s2/\Zbb x u/\J.yld i H x H'/\tn (i+1) s2.heap/\∀ b∈fp,H' b=none) E s1) E s
 done:∀ (X:Cx),X.prog=P->X.w=w->X.K=K->X.calm=true->∀ (i:Nat) (pins:List (Addr×Obj)) (s:Shared) (σ:St) (H:Hp) (E:Value->Shared->Prop),Inv X pins σ H s->(∀ b∈fp,ZiF X pins H b)->tn i s.heap->J.stop i H ->
  wpAny (model P w) X.A (pyNext (.ref it)) (fun r s1=>r=none/\Inv X pins σ H s1) E s
 self:∀ (A:Around) (i:Nat) (s:Shared) (Q:Value->Shared->Prop) (E:Value->Shared->Prop),tn i s.heap->Q (.ref it) s->wpAny (model P w) A (pyIter (.ref it)) Q E s
noncomputable abbrev TI:=St->Hp->(It->Hp->Prop)->Prop
noncomputable def PIE(X:Cx)(pins:List (Addr×Obj))(σ:St)(tg:Expr)(R:It->Hp->Prop)(itv:Value)(s2:Shared):Prop :=
 ∃ (it:Addr) (fp:List Addr) (tn:Nat->Heap->Prop) (J:It) (H':Hp),itv=.ref it/\Inv X pins σ H' s2/\Turn X.prog X.w X.K tg J fp it tn/\tn 0 s2.heap/\(∀ b∈fp,ZiF X pins H' b)/\R J H'
noncomputable def PI(X:Cx)(tg iter:Expr)(wi:TI):Prop :=
 ∀ (pins:List (Addr×Obj)) (s:Shared) (σ:St) (H:Hp) (R:It->Hp->Prop),Inv X pins σ H s->wi σ H R ->
  wpAny (model X.prog X.w) X.A (eval iter X.env) (fun v s1=>wpAny (model X.prog X.w) X.A (pyIter v) (PIE X pins σ tg R) X.xe s1) X.xe s
theorem ZoD{M:Model}{A:Around}{E:Value->Shared->Prop}{s:Shared}{tg:Expr}{it:Addr}{u:Value}{o:Obj}{n:String}{vs:Array Value}{Q:Unit->Shared->Prop}(ho:s.heap.get? it=some o)(hc:o.cls=.type n)(hd:o.data=.fields vs)
    (hn:["enumerate", "zip", "dict_itemiterator", "dict_reverseitemiterator", "odict_iterator", "itertools.zip_longest", "itertools.pairwise"].contains n=false) (hQ:Q () s):wpAny M A (letOwnedTupleGo tg (.ref it) u) Q E s:=by
  unfold letOwnedTupleGo
  cases tg<;>first
    | exact wpAny_pure hQ
    | (cases u<;>first
        | exact wpAny_pure hQ
        | (refine wpAny_bind (wpAny_load ho ?_)
           rw[hc,hd]
           show wpAny M A (if (["enumerate", "zip", "dict_itemiterator", "dict_reverseitemiterator", "odict_iterator", "itertools.zip_longest", "itertools.pairwise"].contains n&&vs[0]? == some (rawInt _))=true then _ else _) Q E s
           rw[if_neg (by intro h;rw[hn,Bool.false_and] at h;cases h)]
           exact wpAny_pure hQ))
noncomputable def Itl(K:PySem.W.Frag)(a:Addr):It :=
 ⟨fun i H=>∃ xs x,SqL K H a xs/\xs[i]?=some x,fun i H x H'=>H'=H/\∀ xs,SqL K H a xs->xs[i]?=some x,fun i H=>∃ xs,SqL K H a xs/\xs.length<=i⟩
noncomputable def Itt(K:PySem.W.Frag)(a:Addr):It :=
 ⟨fun i H=>∃ xs x,SqT K H a xs/\xs[i]?=some x,fun i H x H'=>H'=H/\∀ xs,SqT K H a xs->xs[i]?=some x,fun i H=>∃ xs,SqT K H a xs/\xs.length<=i⟩
noncomputable def Itr(lo:Int)(n:Nat):It:=⟨fun i _=>i<n,fun i H x H'=>H'=H/\x=.int (lo+i),fun i _=>n<=i⟩
theorem ZiW{P:Program}{w:World}{K:PySem.W.Frag}{tg:Expr}(a it:Addr):Turn P w K tg (Itl K a) [it] it (fun i h=>h.IsListIter it a i) where
  mem:=by simp
  obj:=fun i h st b hb=>by
    have e:b=it:=by simpa using hb
    subst e
    obtain⟨o,e,c,d⟩:=st
    exact⟨o,e,fun v z=>by rw[d] at z;cases z⟩
  keep:=fun i h h' st k=>st.at fun o e=>k it (by simp) o e
  item:=by
    intro X hP hw hK hc i pins s σ H E I hf st hg
    subst hP hw hK
    obtain⟨xs,x,hq,hx⟩:=hg
    obtain⟨its,rv,p,hz⟩:=I.list hq
    obtain⟨u,hu,ru⟩:=rv.get hx
    obtain⟨f0,f1,f2,f3,f4,f5⟩:=hf it (by simp)
    refine wpAny_pyNext_list_item st p.isList (x:=u) (by simpa using hu) fun h' st' sb=>?_
    have I1:Inv X pins σ H { s with heap:=h' }:=I.turned (t':=s.toks) (fun b o hb e=>(sb.2 b hb).trans e) f0 f1 f3 f4 f5
    obtain⟨o,e,c,d⟩:=id st'
    exact⟨u,rfl,ZoD (s:={ s with heap:=h' }) e c d (by decide) ⟨x,H,I1,ru,⟨rfl,fun ys hy=>by rw[I.list_inj hy hq];exact hx⟩,st',fun b hb=>(hf b hb).1⟩⟩
  done:=by
    intro X hP hw hK hc i pins s σ H E I hf st hg
    subst hP hw hK
    obtain⟨xs,hq,hx⟩:=hg
    obtain⟨its,rv,p,hz⟩:=I.list hq
    obtain⟨f0,f1,f2,f3,f4,f5⟩:=hf it (by simp)
    have hl:=rv.length
    exact wpAny_pyNext_list_end (I.ok.hd hc) st p.isList (by simp;omega) fun h' eb=>⟨rfl,I.turned (t':=s.toks) (fun b o hb e=>eb b o hb e) f0 f1 f3 f4 f5⟩
  self:=fun _ _ _ _ _ st h=>wpAny_pyIter_listiter st h
theorem Zij{P:Program}{w:World}{K:PySem.W.Frag}{tg:Expr}(a it:Addr):Turn P w K tg (Itt K a) [it] it (fun i h=>h.IsTupleIter it a i) where
  mem:=by simp
  obj:=fun i h st b hb=>by
    have e:b=it:=by simpa using hb
    subst e
    obtain⟨o,e,c,d⟩:=st
    exact⟨o,e,fun v z=>by rw[d] at z;cases z⟩
  keep:=fun i h h' st k=>st.at fun o e=>k it (by simp) o e
  item:=by
    intro X hP hw hK hc i pins s σ H E I hf st hg
    subst hP hw hK
    obtain⟨xs,x,hq,hx⟩:=hg
    obtain⟨its,rv,p,hz⟩:=I.tuple hq
    obtain⟨u,hu,ru⟩:=rv.get hx
    obtain⟨f0,f1,f2,f3,f4,f5⟩:=hf it (by simp)
    refine wpAny_pyNext_tuple_item st (show s.heap.IsTuple a its.toArray from p) (x:=u) (by simpa using hu) fun h' st' sb=>?_
    have I1:Inv X pins σ H { s with heap:=h' }:=I.turned (t':=s.toks) (fun b o hb e=>(sb.2 b hb).trans e) f0 f1 f3 f4 f5
    obtain⟨o,e,c,d⟩:=id st'
    exact⟨u,rfl,ZoD (s:={ s with heap:=h' }) e c d (by decide) ⟨x,H,I1,ru,⟨rfl,fun ys hy=>by rw[I.tuple_inj hy hq];exact hx⟩,st',fun b hb=>(hf b hb).1⟩⟩
  done:=by
    intro X hP hw hK hc i pins s σ H E I hf st hg
    subst hP hw hK
    obtain⟨xs,hq,hx⟩:=hg
    obtain⟨its,rv,p,hz⟩:=I.tuple hq
    obtain⟨f0,f1,f2,f3,f4,f5⟩:=hf it (by simp)
    have hl:=rv.length
    exact wpAny_pyNext_tuple_end (I.ok.hd hc) st (show s.heap.IsTuple a its.toArray from p) (by simp;omega) fun h' eb=>⟨rfl,I.turned (t':=s.toks) (fun b o hb e=>eb b o hb e) f0 f1 f3 f4 f5⟩
  self:=fun _ _ _ _ _ st h=>wpAny_pyIter_tupleiter st h
theorem Zik{P:Program}{w:World}{K:PySem.W.Frag}{tg:Expr}(it:Addr)(lo:Int)(n:Nat):Turn P w K tg (Itr lo n) [it] it (fun i h=>IsRangeIter h it (lo+(i:Nat)*1) ((n:Int)-(i:Nat)) 1) where
  mem:=by simp
  obj:=fun i h st b hb=>by
    have e:b=it:=by simpa using hb
    subst e
    exact⟨_,st,fun v z=>by
      have z':Data.fields _=Data.cell v:=z
      cases z'⟩
  keep:=fun i h h' st k=>k it (by simp) _ st
  item:=by
    intro X hP hw hK hc i pins s σ H E I hf st hg
    subst hP hw hK
    obtain⟨f0,f1,f2,f3,f4,f5⟩:=hf it (by simp)
    have W:=Walks.range (prog:=X.prog) (w:=X.w) (I.ok.hd hc) it lo 1 n
    refine W.item i s _ _ hg st fun v h' tk hv st' kk=>?_
    obtain⟨t,rfl⟩:=hv
    have I1:Inv X pins σ H { s with heap:=h',toks:=tk }:=I.turned (fun b o hb e=>kk b o (by simpa using hb) e) f0 f1 f3 f4 f5
    refine⟨_,rfl,ZoD (s:={ s with heap:=h',toks:=tk }) (n := "range_iterator") st' rfl rfl (by decide) ⟨.int (lo+i),H,I1,⟨t,?_⟩,⟨rfl,rfl⟩,st',fun b hb=>(hf b hb).1⟩⟩
    rw[Int.mul_one]
  done:=by
    intro X hP hw hK hc i pins s σ H E I hf st hg
    subst hP hw hK
    obtain⟨f0,f1,f2,f3,f4,f5⟩:=hf it (by simp)
    exact wpAny_pyNext_range_end (I.ok.hd hc) st (by have:n<=i:=hg;omega) fun h' eb=>⟨rfl,I.turned (t':=s.toks) (fun b o hb e=>eb b o hb e) f0 f1 f3 f4 f5⟩
  self:=fun _ _ _ _ _ st h=>wpAny_pyIter_rangeiter st h
end L2
namespace L2
open PySem PySem.Spec PyProof.Rows
section
variable {X:Cx} {tg:Expr}
theorem ZhD{pins:List (Addr×Obj)}{σ:St}{H:Hp}{s:Shared}{R:It->Hp->Prop}{E:Value->Shared->Prop}{lo hi:Int}{t u v:Tok}{tk:Nat}(I:Inv X pins σ H s)(h1:-(2 ^ 62)<=lo)(h2:lo<2 ^ 62)(h3:-(2 ^ 62)<=hi)(h4:hi<2 ^ 62)
  (q:R (Itr lo (hi-lo).toNat) H):wpAny (model X.prog X.w) X.A (pyIter (.ref s.heap.objs.size)) (PIE X pins σ tg R) E { s with heap:=s.heap.push { cls:=.type "range", data:=.fields #[.int lo t,.int hi u,.int 1 v] },toks:=tk }:=by
 refine wpAny_pyIter_range (IsRange.new ..) (small_one h1 h2 h3 h4) ?_
 have I1:Inv X pins σ H { s with heap:=s.heap.push { cls:=.type "range", data:=.fields #[.int lo t,.int hi u,.int 1 v] },toks:=tk }:=I.kept fun b o e=>Heap.get?_push_of_some _ e
 refine⟨(s.heap.push { cls:=.type "range", data:=.fields #[.int lo t,.int hi u,.int 1 v] }).objs.size,[(s.heap.push { cls:=.type "range", data:=.fields #[.int lo t,.int hi u,.int 1 v] }).objs.size],_,_,H,rfl,
  I1.kept (t':=tk) fun b o e=>Heap.get?_push_of_some _ e,Zik _ lo (hi-lo).toNat,?_,fun b hb=>?_,q⟩
 ·have e1:lo+((0:Nat):Int)*1=lo:=by simp
  have e2:(((hi-lo).toNat:Nat):Int)-((0:Nat):Int)=Builtin.Range.rangeSize lo hi 1:=by rw[rangeSize_one];split<;>omega
  show IsRangeIter _ _ (lo+((0:Nat):Int)*1) ((((hi-lo).toNat:Nat):Int)-((0:Nat):Int)) 1
  rw[e1,e2]
  exact Heap.get?_push_size _ rfl
 ·have e:b=(s.heap.push { cls:=.type "range", data:=.fields #[.int lo t,.int hi u,.int 1 v] }).objs.size:=by simpa using hb
  subst e
  exact I1.fpOk (Nat.le_refl _) (I1.hok.fresh (Nat.le_refl _))
noncomputable def ZwW(ta:TA):TI:=fun σ H R=>ta σ H fun vs H1=>∃ j:Int,vs=[.int j]/\-(2 ^ 62)<=j/\j<2 ^ 62/\R (Itr 0 j.toNat) H1
noncomputable def ZwV(ta:TA):TI:=fun σ H R=>ta σ H fun vs H1=>∃ i j:Int,vs=[.int i,.int j]/\(-(2 ^ 62)<=i/\i<2 ^ 62/\-(2 ^ 62)<=j/\j<2 ^ 62)/\R (Itr i (j-i).toNat) H1
theorem Zjq{a:Expr}{ta:TA}{p pos:Pos}(hg:Gl X "range")(hm:X.mg "range" = none)(ha:PA X [a] ta)(hs:starEach [a] X.env=[(false,eval a X.env)]:=by rfl):PI X tg (.Call (.Name "range" p) [a] [] pos) (ZwW ta):=by
 intro pins s σ H R I h
 refine Call_ (Zds I hg hm boot_range (PyProof.Rows.callWith_type1 (thn (ha pos pins s σ H _ I h) fun us s1 ⟨vs,H1,I1,r1,q1⟩=>?_) hs rfl))
 obtain⟨j,e,q1,q2,q⟩:=q1
 subst e
 cases r1 with
 | cons r rr =>
  cases rr
  obtain⟨t,rfl⟩:=r
  exact call_range_1 (ZhD I1 (by omega) (by omega) q1 q2 (by simpa using q))
theorem Zjp{a b:Expr}{ta:TA}{p pos:Pos}(hg:Gl X "range")(hm:X.mg "range" = none)(ha:PA X [a,b] ta)(hs:starEach [a,b] X.env=[(false,eval a X.env),(false,eval b X.env)]:=by rfl)(hs2:starEach [b] X.env=[(false,eval b X.env)]:=by rfl) :
  PI X tg (.Call (.Name "range" p) [a,b] [] pos) (ZwV ta):=by
 intro pins s σ H R I h
 refine Call_ (Zds I hg hm boot_range (PyProof.Rows.callWith_type1 (thn (ha pos pins s σ H _ I h) fun us s1 ⟨vs,H1,I1,r1,q1⟩=>?_) (by rw[hs,hs2]) (by rw[hs2];rfl)))
 obtain⟨i,j,e,⟨q1,q2,q3,q4⟩,q⟩:=q1
 subst e
 cases r1 with
 | cons r rr =>
  cases rr with
  | cons r' rr =>
   cases rr
   obtain⟨t,rfl⟩:=r
   obtain⟨t',rfl⟩:=r'
   exact call_range_2 (ZhD I1 q1 q2 q3 q4 q)
noncomputable def Zzr(wi:TI)(g:TG)(tb:TS):TS:=fun D σ H=>wi σ H fun J H1=>∃ W:Nat->Nat->St->Hp->Prop,(∃ m,W 0 m σ H1)/\∀ i m σ H,W i m σ H ->
 (J.stop i H/\D.nx σ H)\/(J.go i H/\∃ N:St->Hp->Prop,(∀ σ' H',N σ' H'->∃ m',m'<m/\W (i+1) m' σ' H')/\∀ x H',J.yld i H x H'->g x σ H' fun σ2 H2=>tb { D with nx:=N,ct:=N,bk:=D.nx } σ2 H2)
noncomputable def Zer(fp:List Addr)(h:Heap):List (Addr×Obj):=fp.filterMap fun b=>(h.get? b).map fun o=>(b,o)
theorem Zc2{fp:List Addr}{h:Heap}{b:Addr}{o:Obj}(hb:b∈fp)(e:h.get? b=some o):(b,o)∈Zer fp h:=List.mem_filterMap.mpr ⟨b,hb,by rw[e];rfl⟩
theorem Zf5{fp:List Addr}{h:Heap}{p:Addr×Obj}(hp:p∈Zer fp h):p.1∈fp/\h.get? p.1=some p.2:=by
 obtain⟨b,hb,e⟩:=List.mem_filterMap.mp hp
 cases q:h.get? b with
 | none=>rw[q] at e;cases e
 | some o =>
  rw[q] at e
  have e':(b,o)=p:=Option.some.inj e
  subst e'
  exact⟨hb,q⟩
theorem Inv.pinned{pins:List (Addr×Obj)}{σ:St}{H:Hp}{s:Shared}{fp:List Addr}(I:Inv X pins σ H s)(hf:∀ b∈fp,ZiF X pins H b)(ho:∀ b∈fp,∃ o,s.heap.get? b=some o/\∀ v,o.data≠.cell v):Inv X (pins++Zer fp s.heap) σ H s :=
 I.pins_of fun p hp=>(List.mem_append.mp hp).elim (fun z=>I.pin p (List.mem_append_right _ z)) fun z=>by
  obtain⟨hb,e⟩:=Zf5 z
  obtain⟨f0,f1,f2,_⟩:=hf p.1 hb
  obtain⟨o,e',d⟩:=ho p.1 hb
  rw[e] at e';cases e'
  exact⟨e,f0,f1,f2,d⟩
theorem Inv.unpinned{pins pl:List (Addr×Obj)}{σ:St}{H:Hp}{s:Shared}(I:Inv X (pins++pl) σ H s):Inv X pins σ H s:=I.pins_of fun p hp=>I.pin p (List.mem_append_right _ (List.mem_append_left _ hp))
theorem Zq4{iter:Expr}{body:List Stmt}{wi:TI}{g:TG}{tb:TS}{pos:Pos}(hp:PassesOwn (model X.prog X.w) X.A X.env X.xe)(hc:X.calm=true)(hi:PI X tg iter wi)(hg:PG X tg g)(hb:PSs X body tb)
  (hs:∀ x,foldedSetIterable iter X.env x=pure x:=by intro _;rfl):PS X (.For tg iter body [] pos) (Zzr wi g tb):=by
 intro pins s σ H D I h
 refine wpAny_For (thn (hi pins s σ H _ I h) fun v s1 h1=>thn h1 fun itv s2 h2=>?_) hs
 obtain⟨it,fp,tn,J,H2,e,I2,T,st2,f2,W,⟨m0,w0⟩,turn⟩:=h2
 subst e
 -- what stays true of the iterator's objects through the loop
 have stat:∀ {H':Hp},(∀ b∈fp,H' b=none)->∀ b∈fp,ZiF X pins H' b:=fun hn b hb=>⟨hn b hb,(f2 b hb).2⟩
 refine codeAny_forLoop_any (fun n s'=>∃ i σ' H',Inv X pins σ' H' s'/\tn i s'.heap/\(∀ b∈fp,H' b=none)/\W i n σ' H') ?_ m0 ⟨0,σ,H2,I2,st2,fun b hb=>(f2 b hb).1,w0⟩
 rintro n s3 ⟨i,σ3,H3,I3,st3,fr3,w3⟩
 rcases turn i n σ3 H3 w3 with ⟨stop,qn⟩|⟨go,N,hN,step⟩
 ·refine wpAny_passesOwn hp (thn (T.done X rfl rfl rfl hc i pins s3 σ3 H3 X.xe I3 (stat fr3) st3 stop) fun r s4 ⟨hr,I4⟩=>?_)
  subst hr
  exact wpAny_execs_nil ⟨σ3,H3,I4,qn⟩
 ·refine wpAny_passesOwn hp (thn (T.item X rfl rfl rfl hc i pins s3 σ3 H3 X.xe I3 (stat fr3) st3 go) fun r s4 ⟨u,hr,h4⟩=>?_)
  subst hr
  refine wpAny_passesOwn hp (thn h4 fun _ s5 ⟨x,H5,I5,r5,y5,st5,fr5⟩=>?_)
  have I5':=I5.pinned (stat fr5) (T.obj _ _ st5)
  refine wpAny_passesOwn hp (thn (hg _ s5 σ3 H5 x u _ I5' r5 (step x H5 y5)) fun _ s6 ⟨σ6,H6,I6,q6⟩=>?_)
  refine wpAny_passesOwn hp (thn (hb _ s6 σ6 H6 _ I6 q6) fun f s7 q7=>?_)
  have again:∀ {σ7:St} {H7:Hp},Inv X (pins++Zer fp s5.heap) σ7 H7 s7->N σ7 H7->∃ m,m<n/\∃ i σ' H',Inv X pins σ' H' s7/\tn i s7.heap/\(∀ b∈fp,H' b=none)/\W i m σ' H':=fun {σ7 H7} I7 n7=>by
   obtain⟨m',hm,w7⟩:=hN σ7 H7 n7
   refine⟨m',hm,i+1,σ7,H7,I7.unpinned,T.keep _ _ _ st5 fun b hb o e=>(I7.pin (b,o) (List.mem_append_right _ (List.mem_append_right _ (Zc2 hb e)))).1,fun b hb=>?_,w7⟩
   obtain⟨o,e,d⟩:=T.obj _ _ st5 b hb
   exact(I7.pin (b,o) (List.mem_append_right _ (List.mem_append_right _ (Zc2 hb e)))).2.1
  cases f with
  | next=>obtain⟨σ7,H7,I7,n7⟩:=q7;exact again I7 n7
  | cont=>obtain⟨σ7,H7,I7,n7⟩:=q7;exact again I7 n7
  | brk=>obtain⟨σ7,H7,I7,q7⟩:=q7;exact⟨σ7,H7,I7.unpinned,q7⟩
  | ret v=>obtain⟨x7,σ7,H7,I7,r7,q7⟩:=q7;exact⟨x7,σ7,H7,I7.unpinned,r7,q7⟩
end
end L2
namespace L2
open PySem PySem.Spec PyProof.Rows
noncomputable abbrev R2:=V->V->Hp->VK->Prop
noncomputable def OpR(X:Cx)(f:Value->Value->Sem Value)(r:R2):Prop :=
 ∀ (pins:List (Addr×Obj)) (s:Shared) (σ:St) (H:Hp) (x y:V) (v u:Value) (Q:VK),Inv X pins σ H s->Zbb x v->Zbb y u->r x y H Q ->
  wpAny (model X.prog X.w) X.A (f v u) (EP X pins σ Q) X.xe s
noncomputable def UnR(X:Cx)(f:Value->Sem Value)(r:V->Hp->VK->Prop):Prop :=
 ∀ (pins:List (Addr×Obj)) (s:Shared) (σ:St) (H:Hp) (x:V) (v:Value) (Q:VK),Inv X pins σ H s->Zbb x v->r x H Q ->
  wpAny (model X.prog X.w) X.A (f v) (EP X pins σ Q) X.xe s
noncomputable def Zeh(X:Cx)(f:Value)(r:List V->Hp->VK->Prop):Prop :=
 ∀ (pins:List (Addr×Obj)) (s:Shared) (σ:St) (H:Hp) (xs:List V) (us:List Value) (Q:VK),Inv X pins σ H s->ZaP xs us->r xs H Q ->
  wpAny (model X.prog X.w) X.A (call f us) (EP X pins σ Q) X.xe s
noncomputable def Zz0(X:Cx)(r:V->Hp->(Bool->Hp->Prop)->Prop):Prop :=
 ∀ (pins:List (Addr×Obj)) (s:Shared) (σ:St) (H:Hp) (x:V) (v:Value) (Q:Bool->Hp->Prop),Inv X pins σ H s->Zbb x v->r x H Q ->
  wpAny (model X.prog X.w) X.A (truthy v) (TP X pins σ Q) X.xe s
noncomputable def tOp(r:R2)(ta tb:TE):TE:=fun σ H Q=>ta σ H fun x H1=>tb σ H1 fun y H2=>r x y H2 Q
noncomputable def tUn(r:V->Hp->VK->Prop)(ta:TE):TE:=fun σ H Q=>ta σ H fun x H1=>r x H1 Q
noncomputable def rI(C:Int->Int->Prop)(g:Int->Int->V):R2:=fun x y H Q=>∃ i j,x=.int i/\y=.int j/\C i j/\Q (g i j) H
noncomputable def rI0(g:Int->Int->V):R2:=fun x y H Q=>∃ i j,x=.int i/\y=.int j/\Q (g i j) H
noncomputable def rU(g:Int->V):V->Hp->VK->Prop:=fun x H Q=>∃ i,x=.int i/\Q (g i) H
section
variable {X:Cx} {a b c:Expr} {ta tb tc:TE} {pos:Pos}
theorem ZxQ(ha:PE X a ta)(hb:PE X b tb){pins:List (Addr×Obj)}{s:Shared}{σ:St}{H:Hp}{R:V->V->Hp->Prop}(I:Inv X pins σ H s)
  (h:ta σ H fun x H1=>tb σ H1 fun y H2=>R x y H2) {Q:Value->Shared->Prop} {f:Value->Value->Sem Value}
  (hf:∀ v u s2 x y H2,Inv X pins σ H2 s2->Zbb x v->Zbb y u->R x y H2->wpAny (model X.prog X.w) X.A (f v u) Q X.xe s2) :
  wpAny (model X.prog X.w) X.A (eval a X.env) (fun v s₁=>wpAny (model X.prog X.w) X.A (eval b X.env) (fun u s₂=>wpAny (model X.prog X.w) X.A (f v u) Q X.xe s₂) X.xe s₁) X.xe s:=by
 refine thn (ha pins s σ H _ I h) fun v s1 ⟨x,H1,I1,r1,q1⟩=>?_
 refine thn (hb pins s1 σ H1 _ I1 q1) fun u s2 ⟨y,H2,I2,r2,q2⟩=>?_
 exact hf v u s2 x y H2 I2 r1 r2 q2
theorem Zra{op:Operator}{r:R2}(ho:OpR X (binaryOp op) r)(ha:PE X a ta)(hb:PE X b tb):PE X (.BinOp a op b pos) (tOp r ta tb):=by
 intro pins s σ H Q I h
 exact wpAny_BinOp (ZxQ ha hb I h fun v u s2 x y H2 I2 rx ry q=>ho pins s2 σ H2 x y v u Q I2 rx ry q)
theorem Zwg{op:UnaryOp}{r:V->Hp->VK->Prop}(ho:UnR X (unaryOp op) r)(ha:PE X a ta):PE X (.UnaryOp op a pos) (tUn r ta):=by
 intro pins s σ H Q I h
 exact UnaryOp_ (thn (ha pins s σ H _ I h) fun v s1 ⟨x,H1,I1,r1,q1⟩=>ho pins s1 σ H1 x v Q I1 r1 q1)
theorem opI{f:Value->Value->Sem Value}{C:Int->Int->Prop}{g:Int->Int->Int}
  (rule:∀ (i j:Int) (t u:Tok) (s:Shared) (Q:Value->Shared->Prop) (E:Value->Shared->Prop),C i j->Q (.int (g i j) s.toks) { s with toks:=s.toks+1 }->wpAny (model X.prog X.w) X.A (f (.int i t) (.int j u)) Q E s) :
  OpR X f (rI C fun i j=>.int (g i j)):=by
 intro pins s σ H x y v u Q I rx ry h
 obtain⟨i,j,rfl,rfl,hc,q⟩:=h
 obtain⟨t,rfl⟩:=rx
 obtain⟨t',rfl⟩:=ry
 exact rule i j t t' s _ _ hc ⟨.int (g i j),H,I.tok _,⟨_,rfl⟩,q⟩
theorem Zyv{f:Value->Value->Sem Value}{g:Int->Int->Int}
  (rule:∀ (i j:Int) (t u:Tok) (s:Shared) (Q:Value->Shared->Prop) (E:Value->Shared->Prop),Q (.int (g i j) s.toks) { s with toks:=s.toks+1 }->wpAny (model X.prog X.w) X.A (f (.int i t) (.int j u)) Q E s) :
  OpR X f (rI0 fun i j=>.int (g i j)):=by
 intro pins s σ H x y v u Q I rx ry h
 obtain⟨i,j,rfl,rfl,q⟩:=h
 obtain⟨t,rfl⟩:=rx
 obtain⟨t',rfl⟩:=ry
 exact rule i j t t' s _ _ ⟨.int (g i j),H,I.tok _,⟨_,rfl⟩,q⟩
theorem ZtE{f:Value->Value->Sem Value}{g:Int->Int->Bool}
  (rule:∀ (i j:Int) (t u:Tok) (s:Shared) (Q:Value->Shared->Prop) (E:Value->Shared->Prop),Q (.bool (g i j)) s->wpAny (model X.prog X.w) X.A (f (.int i t) (.int j u)) Q E s) :
  OpR X f (rI0 fun i j=>.bl (g i j)):=by
 intro pins s σ H x y v u Q I rx ry h
 obtain⟨i,j,rfl,rfl,q⟩:=h
 obtain⟨t,rfl⟩:=rx
 obtain⟨t',rfl⟩:=ry
 exact rule i j t t' s _ _ ⟨.bl (g i j),H,I,rfl,q⟩
def Zz4(i j:Int):Prop:=0<j/\j<1073741824
def Zz3(i j:Int):Prop:=0<=j/\j<=1000000/\i.natAbs<2 ^ 64
def Zup(i j:Int):Prop:=(-(2 ^ 64)<i/\i<2 ^ 64)\/(-(2 ^ 64)<j/\j<2 ^ 64)
theorem Zup.ok{i j:Int}(h:Zup i j):IntMulOk i j:=by
 rcases h with ⟨h1,h2⟩|⟨h1,h2⟩
 ·exact .of_left (intBits_le_64 h1 h2)
 ·exact .of_right (intBits_le_64 h1 h2)
theorem Zrp:OpR X (binaryOp .Add) (rI0 fun i j=>.int (i+j)):=Zyv fun _ _ _ _ _ _ _ q=>add_int q
theorem Zrl:OpR X (binaryOp .Sub) (rI0 fun i j=>.int (i-j)):=Zyv fun _ _ _ _ _ _ _ q=>sub_int q
theorem Zog:OpR X (binaryOp .FloorDiv) (rI Zz4 fun i j=>.int (i / j)):=opI fun i j _ _ _ _ _ hc q=>by
 have h1:(0:Int)<j:=hc.1
 have h2:j<1073741824:=hc.2
 exact floordiv_int (by omega) (by rw[Int.fdiv_eq_ediv_of_nonneg i (by omega)];exact q) (.inl (PyProof.noPylong_small (by omega)))
theorem Zrn:OpR X (binaryOp .Mod) (rI (fun _ j=>0<j) fun i j=>.int (i%j)):=opI fun i j _ _ _ _ _ hc q=>by
 have h1:(0:Int)<j:=hc
 exact mod_int' (by omega) (by rw[Int.fmod_eq_emod_of_nonneg i (by omega)];exact q)
theorem Zrm:OpR X (binaryOp .Pow) (rI Zz3 fun i j=>.int (i ^ j.toNat)):=opI fun _ _ _ _ _ _ _ hc q=>pow_int_small hc.1 hc.2.1 hc.2.2 q
theorem unI{f:Value->Sem Value}{g:Int->Int}
  (rule:∀ (i:Int) (t:Tok) (s:Shared) (Q:Value->Shared->Prop) (E:Value->Shared->Prop),Q (.int (g i) s.toks) { s with toks:=s.toks+1 }->wpAny (model X.prog X.w) X.A (f (.int i t)) Q E s) :
  UnR X f (rU fun i=>.int (g i)):=by
 intro pins s σ H x v Q I rx h
 obtain⟨i,rfl,q⟩:=h
 obtain⟨t,rfl⟩:=rx
 exact rule i t s _ _ ⟨.int (g i),H,I.tok _,⟨_,rfl⟩,q⟩
theorem ZpZ:UnR X (unaryOp .USub) (rU fun i=>.int (-i)):=unI fun _ _ _ _ _ q=>neg_int q
end
section
variable {X:Cx} {a b c:Expr} {ta tb tc:TE} {pos:Pos}
theorem Zms{pins:List (Addr×Obj)}{σ:St}{H:Hp}{s:Shared}{Q:VK}{k k':Bool}(I:Inv X pins σ H s)(q:Q (.bl k) H)(e:k=k'):EP X pins σ Q (.bool k') s:=by
 subst e
 exact⟨.bl k,H,I,rfl,q⟩
theorem Zwo:OpR X (compareOp .Lt) (rI0 fun i j=>.bl (decide (i<j))):=ZtE fun _ _ _ _ _ _ _ q=>lt_int q
theorem Zwp:OpR X (compareOp .LtE) (rI0 fun i j=>.bl (decide (i<=j))):=ZtE fun _ _ _ _ _ _ _ q=>le_int q
theorem Zwq:OpR X (compareOp .Gt) (rI0 fun i j=>.bl (decide (j<i))):=ZtE fun _ _ _ _ _ _ _ q=>gt_int q
theorem Zwr:OpR X (compareOp .GtE) (rI0 fun i j=>.bl (decide (j<=i))):=ZtE fun _ _ _ _ _ _ _ q=>ge_int q
theorem Zro:OpR X (compareOp .Is) (fun x y H Q=>y=.non/\Q (.bl (decide (x=.non))) H):=by
 intro pins s σ H x y v u Q I rx ry h
 obtain⟨rfl,q⟩:=h
 cases ry
 refine is_none_gen (Zms I q ?_)
 cases x<;>first
  | (cases rx;rfl)
  | (obtain⟨t,rfl⟩:=rx;rfl)
theorem Zoe:OpR X (compareOp .IsNot) (fun x y H Q=>y=.non/\Q (.bl (!decide (x=.non))) H):=by
 intro pins s σ H x y v u Q I rx ry h
 obtain⟨rfl,q⟩:=h
 cases ry
 refine isnot_none_gen (Zms I q ?_)
 cases x<;>first
  | (cases rx;rfl)
  | (obtain⟨t,rfl⟩:=rx;rfl)
theorem Zn1{op:CmpOp}{r:R2}(ho:OpR X (compareOp op) r)(ha:PE X a ta)(hb:PE X b tb)(hm:behindInMarks op b=false):PE X (.Compare a [op] [b] pos) (tOp r ta tb):=by
 intro pins s σ H Q I h
 exact wpAny_Compare1 (ZxQ ha hb I h fun v u s2 x y H2 I2 rx ry q=>ho pins s2 σ H2 x y v u Q I2 rx ry q) hm
noncomputable def Zp8(t:TE):TT:=fun σ H Q=>t σ H fun x H'=>∃ k,x=.bl k/\Q k H'
theorem ZnT{op:CmpOp}{r:R2}(ho:OpR X (compareOp op) r)(ha:PE X a ta)(hb:PE X b tb)(hm:behindInMarks op b=false):PT X (.Compare a [op] [b] pos) (Zp8 (tOp r ta tb)):=by
 intro pins s σ H Q I h
 refine wpAny_isTrue_Compare1 (thn (ha pins s σ H _ I h) fun v s1 ⟨x,H1,I1,r1,q1⟩=>thn (hb pins s1 σ H1 _ I1 q1) fun u s2 ⟨y,H2,I2,r2,q2⟩ =>
  thn (ho pins s2 σ H2 x y v u _ I2 r1 r2 q2) fun c s3 ⟨z,H3,I3,r3,k,e,q3⟩=>?_) hm
 subst e
 cases r3
 exact wpAny_truthy_bool ⟨H3,I3,q3⟩
noncomputable def ZlW(r r':R2)(ta tb tc:TE):TE:=fun σ H Q=>ta σ H fun x H1=>tb σ H1 fun y H2=>r x y H2 fun z H3=>∃ k,z=.bl k /\
 (if k=true then tc σ H3 fun w' H4=>r' y w' H4 Q else Q (.bl false) H3)
theorem Zln{op op':CmpOp}{r r':R2}(ho:OpR X (compareOp op) r)(ho':OpR X (compareOp op') r')(ha:PE X a ta)(hb:PE X b tb)(hc:PE X c tc)
  (hm:lastMarks [op,op'] [b,c]=false:=by with_unfolding_all rfl):PE X (.Compare a [op,op'] [b,c] pos) (ZlW r r' ta tb tc):=by
 intro pins s σ H Q I h
 refine Compare_chain (thn (ha pins s σ H _ I h) fun v s1 ⟨x,H1,I1,r1,q1⟩=>chain_link (thn (hb pins s1 σ H1 _ I1 q1) fun u s2 ⟨y,H2,I2,r2,q2⟩ =>
  thn (ho pins s2 σ H2 x y v u _ I2 r1 r2 q2) fun d s3 ⟨z,H3,I3,r3,k,e,q3⟩=>?_)) hm
 subst e
 cases r3
 refine wpAny_truthy_bool ?_
 cases k with
 | false=>exact ite_ff ⟨.bl false,H3,I3,rfl,q3⟩
 | true=>exact ite_tt (chain_last (thn (hc pins s3 σ H3 _ I3 q3) fun w' s4 ⟨z',H4,I4,r4,q4⟩=>ho' pins s4 σ H4 y z' u w' Q I4 r2 r4 q4))
theorem Zlh{op op':CmpOp}{r r':R2}(ho:OpR X (compareOp op) r)(ho':OpR X (compareOp op') r')(ha:PE X a ta)(hb:PE X b tb)(hc:PE X c tc)
  (hm:lastMarks [op,op'] [b,c]=false:=by with_unfolding_all rfl):PT X (.Compare a [op,op'] [b,c] pos) (Zp8 (ZlW r r' ta tb tc)):=by
 intro pins s σ H Q I h
 refine isTrue_chain (thn (ha pins s σ H _ I h) fun v s1 ⟨x,H1,I1,r1,q1⟩=>test_link (thn (hb pins s1 σ H1 _ I1 q1) fun u s2 ⟨y,H2,I2,r2,q2⟩ =>
  thn (ho pins s2 σ H2 x y v u _ I2 r1 r2 q2) fun d s3 ⟨z,H3,I3,r3,k,e,q3⟩=>?_)) hm
 subst e
 cases r3
 refine wpAny_truthy_bool ?_
 cases k with
 | false =>
  obtain⟨k',e',q'⟩:=q3
  cases e'
  exact ite_ff ⟨H3,I3,q'⟩
 | true =>
  refine ite_tt (test_last (thn (hc pins s3 σ H3 _ I3 q3) fun w' s4 ⟨z',H4,I4,r4,q4⟩=>thn (ho' pins s4 σ H4 y z' u w' _ I4 r2 r4 q4) fun d' s5 ⟨z2,H5,I5,r5,k2,e2,q5⟩=>?_))
  subst e2
  cases r5
  exact wpAny_truthy_bool ⟨H5,I5,q5⟩
noncomputable def Zzb(K:PySem.W.Frag)(x:V)(H:Hp)(k:Bool):Prop :=
  match x with
  | .non=>k=false
  | .bl b=>k=b
  | .int i=>k=(i != 0)
  | .str y=>y.length<=sizeLine/\k=((y.length:Int) != 0)
  | .byt y=>y.size<=sizeLine/\k=((y.size:Int) != 0)
  | .ref p=>(∃ xs,SqL K H p xs/\k=!xs.isEmpty)\/(∃ xs,SqT K H p xs/\k=!xs.isEmpty)\/∃ kvs,H p=some (.dK kvs)/\k=!kvs.isEmpty
  | _=>False
theorem Ziw{κ:Type}{kvs:List (κ×V)}{vs:List (κ×Value)}(r:KV kvs vs):(!vs.isEmpty)=!kvs.isEmpty:=by
 cases r<;>rfl
theorem Zff{xs:List V}{its:List Value}(r:ZaP xs its):(!its.toArray.isEmpty)=!xs.isEmpty:=by
 cases r<;>simp
theorem Zfd:(sizeLine:Nat)<2 ^ 63:=by rw[sizeLine_eq];decide
theorem Zp4:Zz0 X (fun x H Q=>∃ k,Zzb X.K x H k/\Q k H):=by
 intro pins s σ H x v Q I rx h
 obtain⟨k,e,q⟩:=h
 have hl:=Zfd
 have hs:sizeLine=16777216:=sizeLine_eq
 cases x with
 | non =>
  cases rx
  have e':k=false:=e
  subst e'
  exact truthy_none ⟨H,I,q⟩
 | bl b =>
  cases rx
  have e':k=b:=e
  subst e'
  exact wpAny_truthy_bool ⟨H,I,q⟩
 | int i =>
  obtain⟨t,rfl⟩:=rx
  have e':k=(i != 0):=e
  subst e'
  exact PySem.P.truthy_int ⟨H,I,q⟩
 | str y =>
  obtain⟨t,rfl⟩:=rx
  obtain⟨hy,e'⟩:y.length<=sizeLine/\k=((y.length:Int) != 0):=e
  subst e'
  exact PySem.P.truthy_str (by omega) ⟨H,I.tok _,q⟩
 | byt y =>
  obtain⟨t,rfl⟩:=rx
  obtain⟨hy,e'⟩:y.size<=sizeLine/\k=((y.size:Int) != 0):=e
  subst e'
  exact PySem.W.truthy_bytes (by omega) ⟨H,I.tok _,q⟩
 | ref p =>
  cases rx
  have e':(∃ xs,SqL X.K H p xs/\k=!xs.isEmpty)\/(∃ xs,SqT X.K H p xs/\k=!xs.isEmpty)\/∃ kvs,H p=some (.dK kvs)/\k=!kvs.isEmpty:=e
  rcases e' with ⟨xs,hx,e'⟩|⟨xs,hx,e'⟩|⟨kvs,hx,e'⟩
  ·subst e'
   obtain⟨its,r,pl,hz⟩:=I.list hx
   have hlen:=r.length
   exact wpAny_truthy_list pl.isList (by simp only[List.size_toArray];omega) ⟨H,I.tok _,by rw[Zff r];exact q⟩
  ·subst e'
   obtain⟨its,r,pl,hz⟩:=I.tuple hx
   have hlen:=r.length
   exact truthy_tuple pl (by simp only[List.size_toArray];omega) ⟨H,I.tok _,by rw[Zff r];exact q⟩
  ·subst e'
   obtain⟨hz,hS,vs,r,m⟩:kvs.length<=sizeLine/\(p == sysModules)=false/\∃ vs,KV kvs vs/\s.heap.DictOf (ZgP X.prog X.w) p vs:=I.hok p _ hx
   have hlen:kvs.length=vs.length:=Paired.length r
   exact wpAny_truthy_dict hS m (by omega) ⟨H,I.tok _,by rw[Ziw r];exact q⟩
 | _=>exact(show False from e).elim
theorem Zlg(ha:PE X a ta)(he:∀ whole,isTrue a X.env whole=(do let v <- whole;standAt a.pos;holding [v] (truthy v))) :
  PT X a (fun σ H Q=>ta σ H fun x H'=>∃ k,Zzb X.K x H' k/\Q k H'):=by
 intro pins s σ H Q I h
 exact isTrue_plain (thn (ha pins s σ H _ I h) fun v s1 ⟨x,H1,I1,r1,q1⟩=>Zp4 pins s1 σ H1 x v Q I1 r1 q1) (he _)
theorem Ziq:OpR X (binaryOp .Add) (fun x y H Q=>∃ i j,x=.str i/\y=.str j/\i.length+j.length<=sizeLine/\Q (.str (i++j)) H):=by
 intro pins s σ H x y v u Q I rx ry h
 obtain⟨i,j,rfl,rfl,hz,q⟩:=h
 obtain⟨t,rfl⟩:=rx
 obtain⟨t',rfl⟩:=ry
 exact add_str (fun t' tk=>⟨.str (i++j),H,I.tok _,⟨_,rfl⟩,q⟩) hz
theorem Zea{x:V}{us:List Value}(r:ZaP [x] us):∃ u,us=[u]/\Zbb x u:=by
 cases r with
 | cons r1 r2=>cases r2;exact⟨_,rfl,r1⟩
theorem Zii{x y:V}{us:List Value}(r:ZaP [x,y] us):∃ u w',us=[u,w']/\Zbb x u/\Zbb y w':=by
 cases r with
 | cons r1 r2 =>
  cases r2 with
  | cons r3 r4=>cases r4;exact⟨_,_,rfl,r1,r3⟩
theorem Zkn(hc:X.calm=true):Zeh X (.builtin "max") (fun xs H Q=>∃ i j,xs=[.int i,.int j]/\Q (.int (if j > i then j else i)) H):=by
 intro pins s σ H xs us Q I r h
 obtain⟨i,j,rfl,q⟩:=h
 obtain⟨u,w',rfl,⟨t,rfl⟩,⟨t',rfl⟩⟩:=Zii r
 refine max_two_ints (I.ok.hd hc) fun h' tk k=>⟨_,H,I.kept k,?_,q⟩
 by_cases hj:j > i
 ·rw[if_pos hj,if_pos hj];exact⟨_,rfl⟩
 ·rw[if_neg hj,if_neg hj];exact⟨_,rfl⟩
theorem Zkm(hc:X.calm=true):Zeh X (.builtin "min") (fun xs H Q=>∃ i j,xs=[.int i,.int j]/\Q (.int (if j<i then j else i)) H):=by
 intro pins s σ H xs us Q I r h
 obtain⟨i,j,rfl,q⟩:=h
 obtain⟨u,w',rfl,⟨t,rfl⟩,⟨t',rfl⟩⟩:=Zii r
 refine min_two_ints (I.ok.hd hc) fun h' tk k=>⟨_,H,I.kept k,?_,q⟩
 by_cases hj:j<i
 ·rw[if_pos hj,if_pos hj];exact⟨_,rfl⟩
 ·rw[if_neg hj,if_neg hj];exact⟨_,rfl⟩
theorem Zgq:Zeh X (.type "int") (fun xs H Q=>(∃ i,xs=[.int i]/\Q (.int i) H)\/∃ k,xs=[.bl k]/\Q (.int (if k then 1 else 0)) H):=by
 intro pins s σ H xs us Q I r h
 rcases h with ⟨i,rfl,q⟩|⟨k,rfl,q⟩
 ·obtain⟨u,rfl,t,rfl⟩:=Zea r
  exact call_int_int ⟨.int i,H,I,⟨_,rfl⟩,q⟩
 ·obtain⟨u,rfl,r1⟩:=Zea r
  cases r1
  exact call_int_bool ⟨.int (if k then 1 else 0),H,I.tok _,⟨_,rfl⟩,q⟩
end
end L2
namespace L2
open PySem PySem.Spec PyProof.Rows
section
variable {prog:Program} {w:World} {A:Around} {E:Value->Shared->Prop} {s:Shared} {K:PySem.W.Frag} {x dx C f:Addr} {mA:Str->Option Value} {name:Str} {v:Value}
end
section
variable {P:Program} {w:World} {H H':Hp} {h h':Heap} {a C dx:Addr} {fs fs':List (Str×V)}
end
section
variable {X:Cx} {pins:List (Addr×Obj)} {σ:St} {H:Hp} {s:Shared} {a C dx:Addr} {fs:List (Str×V)} {f:Str} {v:V} {A:Around} {E:Value->Shared->Prop}
end
section
variable {X:Cx} {o e value:Expr} {f:Str} {pos pos' tpos:Pos} {ta tv:TE}
end
section
variable {X:Cx} {pins:List (Addr×Obj)} {σ:St} {H:Hp} {s:Shared} {A:Around} {E:Value->Shared->Prop} {Q:Value->Shared->Prop} {c:Value} {b:Bool}
end
end L2
namespace L2
open PySem PySem.Spec PyProof.Rows
structure Room (k:Nat) (A:Around):Prop where
 hd:A.handled=none
 dp:A.depth+3*k+5<recursionLimit
 un:A.units+16*k+200<cLine
theorem Room.deeper{k:Nat}{A:Around}(r:Room (k+1) A)(env:Env):Room k (A.deeper env) :=
 ⟨r.hd,by have:=r.dp;show A.depth+1+3*k+5<_;omega,by have:=r.un;show A.units+3+16*k+200<_;omega⟩
theorem Room.depth{k:Nat}{A:Around}(r:Room k A):A.depth<recursionLimit:=by have:=r.dp;omega
theorem Room.units{k:Nat}{A:Around}(r:Room k A):A.units+64<cLine:=by have:=r.un;omega
noncomputable def Zzo:TA:=fun _ H Q=>Q [] H
noncomputable def ZuP(ta:TE)(tr:TA):TA:=fun σ H Q=>ta σ H fun x H1=>tr σ H1 fun xs H2=>Q (x::xs) H2
section
variable {X:Cx} {e:Expr} {es:List Expr} {te:TE} {t:TA} {pos:Pos}
theorem Zb6:PA X [] Zzo:=fun _ _ _ _ H Q I h=>Calls.spliced_nil ⟨[],H,I,.nil,h⟩
theorem ZaD(ha:PE X e te)(hr:PA X es t)(hs:starEach (e::es) X.env=(false,eval e X.env)::starEach es X.env:=by rfl):PA X (e::es) (ZuP te t):=by
 intro pos pins s σ H Q I h
 rw[hs]
 show wpAny _ _ (spliced ((false,eval e X.env)::backTo pos (starEach es X.env))) _ _ s
 refine Calls.spliced_cons (thn (ha pins s σ H _ I h) fun u s1 ⟨x,H1,I1,r1,q1⟩=>?_)
 exact thn (hr pos pins s1 σ H1 _ I1 q1) fun us s2 ⟨xs,H2,I2,r2,q2⟩=>⟨x::xs,H2,I2,.cons r1 r2,q2⟩
noncomputable def Zzj(t:TA):TE:=fun σ H Q=>t σ H fun xs H1=>xs.length<=sizeLine/\∀ p,H1 p=none->Q (.ref p) (upd H1 p (.tup xs))
noncomputable def Zzp(t:TA):TE:=fun σ H Q=>t σ H fun xs H1=>xs.length<=sizeLine/\∀ p,H1 p=none->Q (.ref p) (upd H1 p (.lst xs))
theorem Zmc{x1}(h:PA X es t):PE X (.Tuple es x1 pos) (Zzj t):=by
 intro pins s σ H Q I hq
 refine wpAny_Tuple_spliced (thn (h pos pins s σ H _ I hq) fun us s1 ⟨xs,H1,I1,r,z,q⟩=>⟨by rw[<- r.length];exact z,?_⟩)
 have hf:H1 s1.heap.objs.size=none:=I1.hok.fresh (Nat.le_refl _)
 refine⟨.ref s1.heap.objs.size,upd H1 s1.heap.objs.size (.tup xs),I1.laid (t':=s1.toks) (fun b u e=>Heap.get?_push_of_some _ e) (Nat.le_refl _) ?_,rfl,q _ hf⟩
 exact⟨z,us,r,⟨_,Heap.get?_push_size _ rfl,rfl,_,rfl⟩⟩
theorem Zre(h:PA X es t):PE X (.List es pos) (Zzp t):=by
 intro pins s σ H Q I hq
 refine wpAny_List_spliced (thn (h pos pins s σ H _ I hq) fun us s1 ⟨xs,H1,I1,r,z,q⟩=>⟨by rw[<- r.length];exact z,?_⟩)
 have hf:H1 s1.heap.objs.size=none:=I1.hok.fresh (Nat.le_refl _)
 refine⟨.ref s1.heap.objs.size,upd H1 s1.heap.objs.size (.lst xs),I1.laid (t':=s1.toks) (fun b u e=>Heap.get?_push_of_some _ e) (Nat.le_refl _) ?_,rfl,q _ hf⟩
 exact⟨z,us,0,r,Heap.get?_push_size _ rfl⟩
end
noncomputable abbrev Sp:=List V->Hp->VK->XK->Prop
noncomputable abbrev CXT:=List Env->Hp->Shared->XK->Value->Shared->Prop
structure Env0 (P:Program) (w:World) (K:PySem.W.Frag) (mg:Str->Option Value) (base:Heap) (A:Around) (outer:List Env) (s:Shared) (H:Hp):Prop where
 frames:A.frames=some outer
 mod:Mod K mg base
 bs:∀ b o,base.get? b=some o->s.heap.get? b=some o/\H b=none
 bsz:base.objs.size<=s.heap.objs.size
 funs:s.heap.FunFrames base outer
 frf:∀ b∈frs outer,H b=none
 hok:HOk P w H s.heap
 bare:AllBare s.gens
noncomputable def CE(outer:List Env)(P:Program)(w:World)(H:Hp)(s:Shared)(Q:VK)(u:Value)(s':Shared):Prop :=
 ∃ v H',s'.os=s.os/\AllBare s'.gens/\Un (frs outer) [] H H' s.heap s'.heap/\HOk P w H' s'.heap/\Zbb v u/\Q v H'
noncomputable def CR(CX:CXT)(outer:List Env)(P:Program)(w:World)(H:Hp)(s:Shared)(Q:VK)(E:XK)(r:Result)(s':Shared):Prop :=
  match r with
  | .ok (.ret u)=>CE outer P w H s Q u s'
  | .ok _=>False
  | .error e=>CX outer H s E e s'
structure FnOk (P:Program) (w:World) (K:PySem.W.Frag) (mg:Str->Option Value) (base:Heap) (CX:CXT) (k:Nat) (f:Addr) (fd:FuncData) (ps:List Str) (sp:Sp):Prop where
 len:∀ vs H Q E,sp vs H Q E->vs.length=ps.length
 run:∀ (A:Around) (outer:List Env) (s:Shared) (H:Hp) (args:Args) (us:List Value) (vs:List V) (Q:VK) (E:XK),Room k A->Env0 P w K mg base A outer s H->BindsTo s fd args (ps.zip us)->ZaP vs us->sp vs H Q E ->
  codeAny (model P w) A (.call (.ref f) args) (CR CX outer P w H s Q E) s
theorem FnOk.imp{P:Program}{w:World}{K:PySem.W.Frag}{mg:Str->Option Value}{base:Heap}{CX:CXT}{k:Nat}{f:Addr}{fd:FuncData}{ps:List Str}{sp sp':Sp}(F:FnOk P w K mg base CX k f fd ps sp)
  (h:∀ vs H Q E,sp' vs H Q E->sp vs H Q E):FnOk P w K mg base CX k f fd ps sp' :=
 ⟨fun vs H Q E q=>F.len vs H Q E (h _ _ _ _ q),fun A outer s H args us vs Q E hr he hb hv hs=>F.run A outer s H args us vs Q E hr he hb hv (h _ _ _ _ hs)⟩
section
variable {X:Cx} {pins:List (Addr×Obj)} {σ:St} {H:Hp} {s s':Shared}
theorem Inv.env0(I:Inv X pins σ H s):Env0 X.prog X.w X.K X.mg X.base X.A X.stack s H :=
 ⟨I.ok.frames,I.ok.mod,I.bs,Nat.le_trans I.ok.bsz I.sz,I.stack,I.stkFree,I.hok,I.bare⟩
theorem Inv.after{Q:VK}{u:Value}(I:Inv X pins σ H s)(h:CE X.stack X.prog X.w H s Q u s'):EP X pins σ Q u s':=by
 obtain⟨v,H',os,bare,un,hok,r,q⟩:=h
 obtain⟨hh,g,d,t,os'⟩:=s'
 obtain rfl:os'=s.os:=os
 exact⟨v,H',I.call (h':=hh) (g':=g) (d':=d) (t':=t) (ch:=[]) un hok bare (fun b z=>absurd z (by simp)),r,q⟩
end
noncomputable def ZuQ(sp:Sp)(dvs:List V)(E:XK)(t:TA):TE:=fun σ H Q=>t σ H fun vs H1=>sp (vs++dvs) H1 Q E
noncomputable def Zei(K:PySem.W.Frag)(fd:FuncData)(ps:List Str)(ds:List Value):Prop :=
 ∀ (s:Shared) (us:List Value),K.In s.heap->(us++ds).length=ps.length->BindsTo s fd ⟨us,[]⟩ (ps.zip (us++ds))
theorem Zei.all{K:PySem.W.Frag}{fd:FuncData}{ps:List Str}(h:∀ us:List Value,us.length=ps.length->bindArgs fd ⟨us,[]⟩=pure (ps.zip us)):Zei K fd ps []:=fun s us _ hl=>by
 rw[List.append_nil] at hl ⊢
 exact .of_eq (h us hl)
def Zfr(CX:CXT)(X:Cx)(E:XK):Prop:=∀ (pins:List (Addr×Obj)) (σ:St) (H:Hp) (s:Shared) (e:Value) (s':Shared),Inv X pins σ H s->CX X.stack H s E e s'->X.xe e s'
section
variable {X:Cx} {CX:CXT} {k:Nat} {f C:Addr} {fd:FuncData} {ps:List Str} {sp:Sp} {dvs:List V} {ds:List Value} {E:XK} {x m:Str} {p pos apos:Pos} {e o:Expr} {es:List Expr} {ta:TE} {t:TA}
theorem ZqJ{pins:List (Addr×Obj)}{σ:St}{H:Hp}{s:Shared}{Q:VK}{us:List Value}{vs:List V}(F:FnOk X.prog X.w X.K X.mg X.base CX k f fd ps sp)(hr:Room k X.A)(hb:Zei X.K fd ps ds)(hd:ZaP dvs ds)(hx:Zfr CX X E)
  (I:Inv X pins σ H s) (r:ZaP vs us) (h:sp (vs++dvs) H Q E):wpAny (model X.prog X.w) X.A (call (.ref f) us) (EP X pins σ Q) X.xe s:=by
 have r2:ZaP (vs++dvs) (us++ds):=r.append hd
 have hl:(us++ds).length=ps.length:=by rw[<- r2.length];exact F.len _ _ _ _ h
 refine wpAny_call (codeAny_mono (F.run X.A X.stack s H ⟨us,[]⟩ (us++ds) (vs++dvs) Q E hr I.env0 (hb s us I.kIn hl) r2 h) fun r s' hq=>?_)
 cases r with
 | error e=>exact hx pins σ H s e s' I hq
 | ok fl =>
  cases fl with
  | ret u=>exact I.after hq
  | next=>exact False.elim hq
  | brk=>exact False.elim hq
  | cont=>exact False.elim hq
theorem Zju(F:FnOk X.prog X.w X.K X.mg X.base CX k f fd ps sp)(hr:Room k X.A)(hg:Gl X x)(hm:X.mg x=some (.ref f))(hk:PySem.W.keepIn X.K (.ref f)=true)(hb:Zei X.K fd ps ds)(hd:ZaP dvs ds)(hx:Zfr CX X E)
  (ha:PA X (e::es) t) (hdb:(x == ("__debug__" : Str))=false:=by decide) (he:starEach (e::es) X.env=(false,eval e X.env)::starEach es X.env:=by rfl) (hpl:(backTo pos (starEach es X.env)).any (·.1)=false:=by rfl) :
  PE X (.Call (.Name x p) (e::es) [] pos) (ZuQ sp dvs E t):=by
 intro pins s σ H Q I h
 refine wpAny_Call_Name_kw (ZgR I hg hm ?_ hdb)
 refine PySem.W.callWith_K (h₀:=X.base) I.ok.mod.kin hk (thn (ha pos pins s σ H _ I h) fun us s1 ⟨vs,H1,I1,r,q⟩=>⟨I1.kIn,?_⟩) he hpl
 exact ZqJ F hr hb hd hx I1 r q
end
section
variable {X:Cx} {CX:CXT} {k:Nat} {f C:Addr} {fd:FuncData} {ps ks:List Str} {sp:Sp} {E:XK} {x m:Str} {p pos apos kpos:Pos} {e o:Expr} {es:List Expr} {kws:List Keyword} {te ta:TE} {t tk:TA} {nm:Option Str}
variable {g:List Value->List Value->List Value} {gV:List V->List V->List V}
end
structure FnScope (N P:List Str) (sc:Scope):Prop where
 kind:sc.kind=.function
 co:sc.isCoroutine=false
 gen:sc.isGenerator=false
 nd:N.Nodup
 pre:N.take P.length=P
 par:∀ x∈P,sc.names.lookup x=some .local\/sc.names.lookup x=some .cell
 nofree:∀ y∈sc.names,y.2≠.free
theorem Zgs{kindOf:Str->Option NameKind}{x:Str}:∀ {binds:List (Str×Value)} {m:Str->Option Value},(∀ v,(x,v)∉binds)->bindL kindOf binds m x=m x
 | [],_,_=>rfl
 | (n,v)::r,m,h=>by
  unfold bindL
  rw[Zgs fun w hw=>h w (List.mem_cons_of_mem _ hw)]
  split
  ·have:x≠n:=by rintro rfl;exact h v List.mem_cons_self
   simp[this]
  ·rfl
theorem Zgu{kindOf:Str->Option NameKind}{x:Str}:∀ {binds:List (Str×Value)} {m:Str->Option Value},(∀ v,(x,v)∉binds)->bindC kindOf binds m x=m x
 | [],_,_=>rfl
 | (n,v)::r,m,h=>by
  unfold bindC
  rw[Zgu fun w hw=>h w (List.mem_cons_of_mem _ hw)]
  split
  ·rfl
  ·have:x≠n:=by rintro rfl;exact h v List.mem_cons_self
   simp[this]
theorem Zgt{kindOf:Str->Option NameKind}{x:Str}{v:Value}:∀ {P:List Str} {vs:List Value} {i:Nat} {m:Str->Option Value},P.Nodup->P[i]?=some x->vs[i]?=some v->kindOf x=some .local ->
  bindL kindOf (P.zip vs) m x=some v
 | [],_,_,_,_,h,_,_=>by simp at h
 | _::_,[],_,_,_,_,h,_=>by simp at h
 | p::P,w::vs,0,m,nd,h1,h2,hk=>by
  simp at h1 h2;subst h1;subst h2
  show bindL kindOf ((p,w)::P.zip vs) m p=_
  unfold bindL
  rw[Zgs fun v hv=>(List.nodup_cons.mp nd).1 (List.of_mem_zip hv).1,if_pos hk]
  simp
 | p::P,w::vs,i+1,m,nd,h1,h2,hk=>by
  show bindL kindOf ((p,w)::P.zip vs) m x=_
  unfold bindL
  exact Zgt (i:=i) (List.nodup_cons.mp nd).2 (by simpa using h1) (by simpa using h2) hk
theorem Zgv{kindOf:Str->Option NameKind}{x:Str}{v:Value}:∀ {P:List Str} {vs:List Value} {i:Nat} {m:Str->Option Value},P.Nodup->P[i]?=some x->vs[i]?=some v->kindOf x≠some .local ->
  bindC kindOf (P.zip vs) m x=some v
 | [],_,_,_,_,h,_,_=>by simp at h
 | _::_,[],_,_,_,_,h,_=>by simp at h
 | p::P,w::vs,0,m,nd,h1,h2,hk=>by
  simp at h1 h2;subst h1;subst h2
  show bindC kindOf ((p,w)::P.zip vs) m p=_
  unfold bindC
  rw[Zgu fun v hv=>(List.nodup_cons.mp nd).1 (List.of_mem_zip hv).1,if_neg hk]
  simp
 | p::P,w::vs,i+1,m,nd,h1,h2,hk=>by
  show bindC kindOf ((p,w)::P.zip vs) m x=_
  unfold bindC
  exact Zgv (i:=i) (List.nodup_cons.mp nd).2 (by simpa using h1) (by simpa using h2) hk
noncomputable def start(N:List Str)(vs:List V):St:=vs.map some++List.replicate (N.length-vs.length) none
noncomputable def ZfS(CX:CXT)(P:Program)(w:World)(K:PySem.W.Frag)(mg:Str->Option Value)(base:Heap)(N:List Str)(qual:Str)(scope:Scope)(f:Addr)(cd:Value)(A:Around)(outer:List Env)(s:Shared)(H:Hp)(E:XK):Cx where
 prog:=P
 w:=w
 K:=K
 mg:=mg
 base:=base
 A:=A.deeper (envOfC qual scope s.heap.objs.size f cd)
 N:=N
 s₀:=s
 H₀:=H
 env:=envOfC qual scope s.heap.objs.size f cd
 outer:=outer
 stack:=envOfC qual scope s.heap.objs.size f cd::outer
 ex:=[]
 calm:=true
 fn:=fun _=>true
 pn:=[]
 xe:=fun e s'=>wpAny (model P w) (A.deeper (envOfC qual scope s.heap.objs.size f cd)) (leaving (envOfC qual scope s.heap.objs.size f cd) e) (fun _ s''=>CX outer H s E e s'') (fun e' s''=>CX outer H s E e' s'') s'
theorem Zh2{sc:Scope}{n:Nat}{x:Str}(h:sc.names.lookup x=some .cell):∃ c,(cellsFrom n sc.names []).lookup x=some c:=by
 have q:=PySem.W.cellsFrom_some sc.names n [] (.inl h)
 exact Option.isSome_iff_exists.mp q
theorem Zgc{CX:CXT}{P:Program}{w:World}{K:PySem.W.Frag}{mg:Str->Option Value}{base:Heap}{N ps:List Str}{qual:Str}{scope:Scope}{f:Addr}{cd:Value}{A:Around}{outer:List Env}{s s1:Shared}{H:Hp}{E:XK}{us:List Value}{vs:List V}
  (S:FnScope N ps scope) (hd:A.handled=none) (e0:Env0 P w K mg base A outer s H) (hl:vs.length=ps.length) (r:ZaP vs us)
  (x:InCallC s s.heap.objs.size (bindL (envOfC qual scope s.heap.objs.size f cd).kindOf (ps.zip us) fun _=>none) (cellsFrom (s.heap.objs.size+1) scope.names []) (bindC (envOfC qual scope s.heap.objs.size f cd).kindOf (ps.zip us) fun _=>none) s1) :
  Inv (ZfS CX P w K mg base N qual scope f cd A outer s H E) [] (start N vs) H s1:=by
 have hpl:ps.length<=N.length:=by have:=congrArg List.length S.pre;rw[List.length_take] at this;omega
 obtain⟨h1,tk,rfl,hk⟩:=x.done
 have noA:∀ b:Addr,b∉(ZfS CX P w K mg base N qual scope f cd A outer s H E).ex:=fun b z=>absurd (show b∈([]:List Addr) from z) (by simp)
 refine⟨⟨e0.mod,S.kind,rfl,rfl,Nat.le_refl _,fun y z c h1 h2=>?_,fun y hy=>?_,fun y c _ h=>?_,fun _=>hd,Around.frames_deeper e0.frames,.inr ⟨rfl,rfl⟩,fun b z=>absurd z (noA b),e0.bs,e0.bsz,fun b _ _=>noA b,fun b z=>absurd z (noA b),e0.funs,e0.frf⟩,
  rfl,e0.bare,Un.kept hk,⟨_,x.toInCall.ns,fun i y v h1 h2 h3=>?_⟩,fun y c h=>⟨_,x.cell y c h⟩,e0.hok.fresh (Nat.le_refl _),fun y c h=>?_,fun p hp=>absurd (show p∈([]:List (Addr×Obj)) from hp) (by simp),e0.hok.kept hk,?_⟩
 ·exact name_of_addr x.apart (PySem.mem_of_lookup h1) (PySem.mem_of_lookup h2)
 ·have hy:scope.names.lookup y=some .cell\/scope.names.lookup y=some .free:=hy
  rcases hy with hy|hy
  ·exact Zh2 hy
  ·exact absurd rfl (S.nofree _ (PySem.mem_of_lookup hy))
 ·exact Nat.le_of_lt (x.above y c (PySem.mem_of_lookup h))
 ·have hi:i<vs.length:=by
   unfold start at h2
   by_cases hi:i<vs.length
   ·exact hi
   ·rw[List.getElem?_append_right (by simpa using hi)] at h2
    rw[List.getElem?_replicate] at h2
    split at h2<;>cases h2
  have ha:vs[i]?=some v:=by
   unfold start at h2
   rw[List.getElem?_append_left (by simpa using hi),List.getElem?_map] at h2
   cases e:vs[i]? with
   | none=>rw[e] at h2;cases h2
   | some a=>rw[e] at h2;cases h2;rfl
  obtain⟨u,hu,rv⟩:=r.get ha
  have hp:ps[i]?=some y:=by
   rw[<- S.pre,List.getElem?_take_of_lt (by omega)];exact h1
  have ndP:ps.Nodup:=by rw[<- S.pre];exact S.nd.sublist (List.take_sublist _ _)
  refine⟨u,rv,?_⟩
  rcases S.par y (List.mem_of_getElem? hp) with k|k
  ·exact .inl ⟨k,Zgt ndP hp hu k⟩
  ·obtain⟨c,e⟩:=Zh2 (n:=s.heap.objs.size+1) k
   refine .inr ⟨.inl k,c,e,?_⟩
   have q:=x.cell y c e
   rw[Zgv ndP hp hu (by show scope.names.lookup y≠_;rw[k];decide)] at q
   exact q
 ·exact e0.hok.fresh (Nat.le_of_lt (x.above y c (PySem.mem_of_lookup h)))
 ·unfold start
  show _=N.length
  rw[List.length_append,List.length_map,List.length_replicate]
  omega
theorem Zr6{CX:CXT}{P:Program}{w:World}{K:PySem.W.Frag}{mg:Str->Option Value}{base:Heap}{k:Nat}{f:Addr}{name qual:Str}{params:Arguments}{body:List Stmt}{scope:Scope}{dV kV doc pm cdv ct oc:Value}{an od:Option Addr}
  {osl:Array (Option Value)} {N ps:List Str} {sp:Sp} (lk:K.lookup f=some ⟨oc,od,.func (PySem.W.fnOf name qual params body scope dV kV doc pm an cdv ct),osl⟩) (hcd:PySem.W.codeIn K cdv qual=true) (S:FnScope N ps scope)
  (len:∀ vs H Q E,sp vs H Q E->vs.length=ps.length)
  (hbody:∀ (A:Around) (outer:List Env) (s:Shared) (H:Hp) (vs:List V) (Q:VK) (E:XK),Room k (A.deeper (envOfC qual scope s.heap.objs.size f cdv))->sp vs H Q E ->
   ∃ t,PSs (ZfS CX P w K mg base N qual scope f cdv A outer s H E) body t/\t { nx:=fun _ H'=>Q .non H',rt:=Q } (start N vs) H) :
  FnOk P w K mg base CX (k+1) f (PySem.W.fnOf name qual params body scope dV kV doc pm an cdv ct) ps sp:=by
 refine⟨len,fun A outer s H args us vs Q E hr e0 hb r hsp=>?_⟩
 have hl:=len _ _ _ _ hsp
 have KX:K.In s.heap:=e0.mod.kin.keeps fun b o e=>(e0.bs b o e).1
 have lim:s.heap.NoLimit:=e0.mod.nolimit.keeps fun b o e=>(e0.bs b o e).1
 have hkind:∀ y∈ps.zip us,scope.names.lookup y.1=some .local\/(scope.names.lookup y.1=some .cell/\((cellsFrom (s.heap.objs.size+1) scope.names []).lookup y.1).isSome=true):=fun ⟨n,v⟩ hy=>by
  rcases S.par n (List.of_mem_zip hy).1 with q|q
  ·exact .inl q
  ·exact .inr ⟨q,PySem.W.cellsFrom_some _ _ _ (.inl q)⟩
 refine codeAny_call_function hr.depth (KX _ _ lk) rfl S.co S.gen rfl (PySem.W.codeRec_of KX hcd) (hb _ _ _ _ ?_)
 refine wpAny_newFunctionEnv_cells S.kind hkind fun env he s1 x=>?_
 subst he
 refine⟨lim.keeps x.toInCall.keep,codeAny_func ?_⟩
 obtain⟨t,ht,hq⟩:=hbody A outer s H vs Q E (hr.deeper _) hsp
 have I:Inv (ZfS CX P w K mg base N qual scope f cdv A outer s H E) [] (start N vs) H s1:=Zgc S hr.hd e0 hl r x
 refine wpAny_mono (ht [] s1 (start N vs) H _ I hq) (fun fl s' hs=>?_) fun e s' hs=>hs
 have fin:∀ {σ':St} {H':Hp} {v:V} {u:Value},Inv (ZfS CX P w K mg base N qual scope f cdv A outer s H E) [] σ' H' s'->Zbb v u->Q v H'->CE outer P w H s Q u s' :=
  fun {σ' H' v u} J rv q=>⟨v,H',J.os,J.bare,J.base,J.hok,rv,q⟩
 cases fl with
 | ret u =>
  obtain⟨v,σ',H',J,rv,q⟩:=hs
  exact fin J rv q
 | next =>
  obtain⟨σ',H',J,q⟩:=hs
  exact fin (v:=V.non) (u:=Value.none) J rfl q
 | brk =>
  obtain⟨_,_,_,q⟩:=hs
  exact False.elim q
 | cont =>
  obtain⟨_,_,_,q⟩:=hs
  exact False.elim q
end L2
namespace L2
open PySem PySem.Spec PyProof.Rows
section
variable {X:Cx} {x:Str} {p pos:Pos} {e:Expr} {es:List Expr} {t:TA} {id T:String} {r:List V->Hp->VK->Prop}
noncomputable def tCB(r:List V->Hp->VK->Prop)(t:TA):TE:=fun σ H Q=>t σ H fun vs H1=>r vs H1 Q
theorem Zdn(hc:Zeh X (.builtin id) r)(hg:Gl X x)(hm:X.mg x=none)(hv:bootBuiltins x=some (.builtin id))(ha:PA X (e::es) t)(hn:x≠"__name__" := by decide)(hdb:(x == ("__debug__" : Str))=false:=by decide)
  (he:starEach (e::es) X.env=(false,eval e X.env)::starEach es X.env:=by rfl) (hpl:(backTo pos (starEach es X.env)).any (·.1)=false:=by rfl):PE X (.Call (.Name x p) (e::es) [] pos) (tCB r t):=by
 intro pins s σ H Q I h
 refine wpAny_Call_Name_kw (Zds I hg hm hv ?_ hn hdb)
 exact PyProof.Rows.callWith_builtin1 (thn (ha pos pins s σ H _ I h) fun us s1 ⟨vs,H1,I1,r1,q1⟩=>hc pins s1 σ H1 vs us Q I1 r1 q1) he hpl
theorem Zf4(hc:Zeh X (.type T) r)(hg:Gl X x)(hm:X.mg x=none)(hv:bootBuiltins x=some (.type T))(ha:PA X (e::es) t)(hn:x≠"__name__" := by decide)(hdb:(x == ("__debug__" : Str))=false:=by decide)
  (he:starEach (e::es) X.env=(false,eval e X.env)::starEach es X.env:=by rfl) (hpl:(backTo pos (starEach es X.env)).any (·.1)=false:=by rfl):PE X (.Call (.Name x p) (e::es) [] pos) (tCB r t):=by
 intro pins s σ H Q I h
 refine wpAny_Call_Name_kw (Zds I hg hm hv ?_ hn hdb)
 exact PyProof.Rows.callWith_type1 (thn (ha pos pins s σ H _ I h) fun us s1 ⟨vs,H1,I1,r1,q1⟩=>hc pins s1 σ H1 vs us Q I1 r1 q1) he hpl
end
end L2
namespace HT
open PySem PyProof.Rows
section
open PySem.SeqAt
open PySem.AutoSeq1 (wpAny_loadPart')
open PySem.MeetsSeq PySem.MeetsSeq2 PySem.MeetsSeq3
end
section
variable {prog:Program} {w:World} {A:Around} {E:Value->Shared->Prop} {s:Shared}
theorem cat_tup{t b:Addr}{vs ws:List Value}{Q:Value->Shared->Prop}(ht:IsTup s.heap t vs.toArray)(hb:IsTup s.heap b ws.toArray)(hv:vs≠[])
  (h1:ws=[]->Q (.ref t) s) (h2:ws≠[]->Q (.ref s.heap.objs.size) { s with heap:=s.heap.push { cls:=.type "tuple", data:=.seq (vs++ws).toArray } })
  (hsz:vs.length+ws.length<=sizeLine):wpAny (model prog w) A (binaryOp .Add (.ref t) (.ref b)) Q E s:=by
 obtain⟨⟨cls,dd,data,sl⟩,ho,hc,n,hd⟩:=id ht
 obtain⟨⟨cls2,dd2,data2,sl2⟩,ho2,hc2,n2,hd2⟩:=id hb
 simp only at hc hd hc2 hd2
 subst hc hd hc2 hd2
 have e:vs.toArray++ws.toArray=(vs++ws).toArray:=by simp
 by_cases hw:ws=[]
 ·exact concat_meets ⟨_,ho,rfl⟩ ⟨_,ho2,rfl⟩ noFill_tuple_add seq_tuple_add PySem.F.slot_tuple_add PySem.F.entry_tuple_add (PySem.F.args_tuple_add_2 _ _)
   (tuple_addW1 t b vs.toArray ws.toArray n n2 dd dd2 sl sl2 (by simpa using hv) (by simp[hw])) ⟨ho,ho2,h1 hw⟩
 ·refine concat_meets ⟨_,ho,rfl⟩ ⟨_,ho2,rfl⟩ noFill_tuple_add seq_tuple_add PySem.F.slot_tuple_add PySem.F.entry_tuple_add (PySem.F.args_tuple_add_2 _ _)
   (tuple_addW2 t b vs.toArray ws.toArray n n2 dd dd2 sl sl2 (by simpa using hv) (by simpa using hw) (by rw[List.size_toArray,List.size_toArray];exact hsz)) ⟨ho,ho2,?_⟩
  rw[e]
  exact h2 hw
noncomputable def sIx(n d:Nat):Option Int->Nat
 | none=>d
 | some v=>if v<0 then (v+(n:Int)).toNat else min v.toNat n
theorem ZqH(n d:Nat)(hd:d<=n)(o:Option Int):sIx n d o<=n:=by
 cases o with
 | none=>exact hd
 | some v =>
  show (if v<0 then (v+(n:Int)).toNat else min v.toNat n)<=n
  by_cases hv:v<0
  ·rw[if_pos hv];omega
  ·rw[if_neg hv];exact Nat.min_le_right _ _
theorem Zkj(v:Int)(n d:Nat):(if v<0 then max (v+(n:Int)) 0 else min v (n:Int))=((sIx n d (some v):Nat):Int):=by
 show (if v<0 then max (v+(n:Int)) 0 else min v (n:Int))=(((if v<0 then (v+(n:Int)).toNat else min v.toNat n):Nat):Int)
 by_cases hv:v<0
 ·simp only[if_pos hv];omega
 ·simp only[if_neg hv];omega
theorem ZiA(lo hi:Option Int)(n:Nat):Builtin.Slice.sliceAdjust lo hi 1 (n:Int)=(((sIx n 0 lo:Nat):Int),((sIx n n hi:Nat):Int)):=by
 have h1:¬ ((1:Int)<0):=by omega
 unfold Builtin.Slice.sliceAdjust
 simp only[h1,if_false]
 refine Prod.ext ?_ ?_
 ·cases lo with
  | none=>rfl
  | some v=>exact Zkj v n 0
 ·cases hi with
  | none=>rfl
  | some v=>exact Zkj v n n
theorem Zin(i j:Nat):Builtin.Slice.slicePlaces (i:Int) (j:Int) 1=j-i:=by
 unfold Builtin.Slice.slicePlaces
 have h1:(1:Int) > 0:=by omega
 simp only[h1,if_true,Int.ediv_one]
 split<;>omega
theorem Ze8{v:Value}{o:Option Int}{Q:Option Int->Shared->Prop}(p:IsPart v o)(h:Q o s):wpAny (model prog w) A (Builtin.Slice.slicePartIndex v) Q E s:=by
 cases p with
 | none=>exact slicePart_none h
 | int i t=>exact slicePart_int h
theorem Zed{sl:Addr}{vl vu:Value}{lo hi:Option Int}{n:Nat}{Q:Int×Int×Nat->Shared->Prop}(hs:s.heap.IsSliceOf sl vl vu .none)(pl:IsPart vl lo)(pu:IsPart vu hi)
  (h:Q (((sIx n 0 lo:Nat):Int),1,sIx n n hi-sIx n 0 lo) s):wpAny (model prog w) A (Builtin.Slice.sliceApplied (.ref sl) (pure (n:Int))) Q E s:=by
 obtain⟨os,hos,hcs,hds⟩:=id hs
 unfold Builtin.Slice.sliceApplied Builtin.Slice.sliceFields
 refine wpAny_bind (wpAny_bind (wpAny_field hos hds (x:=vl) rfl (wpAny_bind (wpAny_field hos hds (x:=vu) rfl (wpAny_bind (wpAny_field hos hds (x:=.none) rfl (wpAny_pure ?_)))))))
 refine wpAny_bind (slicePart_none ?_)
 show wpAny _ _ (if ((1:Int) == 0)=true then _ else _) _ _ s
 rw[if_neg (by decide)]
 refine wpAny_bind (Ze8 pl (wpAny_bind (Ze8 pu (wpAny_bind (wpAny_pure ?_)))))
 show wpAny _ _ (match Builtin.Slice.sliceAdjust lo hi 1 (n:Int) with|(lo,hi)=>pure (lo,(1:Int),Builtin.Slice.slicePlaces lo hi 1)) _ _ s
 rw[ZiA lo hi n]
 show wpAny _ _ (pure (((sIx n 0 lo:Nat):Int),(1:Int),Builtin.Slice.slicePlaces ((sIx n 0 lo:Nat):Int) ((sIx n n hi:Nat):Int) 1)) _ _ s
 rw[Zin]
 exact wpAny_pure h
theorem Zll(xs:Array Value)(i k:Nat):((List.range k).filterMap fun (m:Nat)=>xs[((i:Int)+(m:Int)*1).toNat]?).toArray=((xs.toList.drop i).take k).toArray:=by
 have e:(fun (m:Nat)=>xs[((i:Int)+(m:Int)*1).toNat]?)=fun m=>xs[i+m]?:=by
  funext m
  have:((i:Int)+(m:Int)*1).toNat=i+m:=by omega
  rw[this]
 rw[e]
 have:=pick_run xs i k
 rw[List.filterMap_map] at this
 have e2:((fun x=>xs[x]?) ∘ fun x=>i+x)=fun m=>xs[i+m]?:=rfl
 rw[e2] at this
 rw[this]
theorem getItem_tuple_cut{t sl:Addr}{items:Array Value}{vl vu:Value}{lo hi:Option Int}{Q:Value->Shared->Prop}(ht:IsTup s.heap t items)(hs:s.heap.IsSliceOf sl vl vu .none)(pl:IsPart vl lo)(pu:IsPart vu hi)
  (hw:¬ (sIx items.size 0 lo=0/\sIx items.size items.size hi=items.size))
  (h:Q (.ref s.heap.objs.size) { s with heap:=s.heap.push { cls:=.type "tuple", data:=.seq ((items.toList.drop (sIx items.size 0 lo)).take (sIx items.size items.size hi-sIx items.size 0 lo)).toArray } })
  (hsz:items.size<=sizeLine):wpAny (model prog w) A (getItem (.ref t) (.ref sl)) Q E s:=by
 have htake:sizeOk (.seq ((items.toList.drop (sIx items.size 0 lo)).take (sIx items.size items.size hi-sIx items.size 0 lo)).toArray):=by
  show ((items.toList.drop (sIx items.size 0 lo)).take (sIx items.size items.size hi-sIx items.size 0 lo)).toArray.size<=sizeLine
  rw[List.size_toArray,List.length_take,List.length_drop,Array.length_toList]
  omega
 have hj:sIx items.size items.size hi<=items.size:=ZqH _ _ (Nat.le_refl _) hi
 obtain⟨os,hos,hcs,hds⟩:=id hs
 have hTs:s.TypeIs (.ref sl) "slice" := ⟨os,hos,hcs⟩
 unfold getItem
 try with_reducible refine wpAny_holding ?_
 first|refine wpAny_bind (wpAny_pure ?_)|skip
 refine wpAny_bind (wpAny_sequenceKey ht.typeIs (by decide) ?_)
 refine wpAny_bind (wpAny_callSpecial?_slot (name:=Str.ofString "__getitem__") ht.typeIs PyProof.Rows.slot_tuple_getitem
  (wpAny_call_entry PyProof.Rows.slot_tuple_getitem ht.typeIs entry_tuple_getitem ?_ (args_tuple_getitem _ _)))
 show wpAny _ _ (Builtin.Tuple.tupleItemsOf (.ref t) >>= _) _ _ s
 refine wpAny_bind (tupleItemsOf_ ht ?_)
 refine wpAny_bind (wpAny_typeOf hTs ?_)
 rw[if_pos (by decide)]
 refine wpAny_bind (Zed hs pl pu ?_)
 have hno:¬ ((((sIx items.size 0 lo:Nat):Int) == 0&&(1:Int) == 1&&(sIx items.size items.size hi-sIx items.size 0 lo) == items.size)=true):=by
  intro q
  rw[Bool.and_eq_true,Bool.and_eq_true] at q
  have q1:((sIx items.size 0 lo:Nat):Int)=0:=eq_of_beq q.1.1
  have q2:sIx items.size items.size hi-sIx items.size 0 lo=items.size:=eq_of_beq q.2
  exact hw ⟨by omega,by omega⟩
 show wpAny _ _ (if (((sIx items.size 0 lo:Nat):Int) == 0&&(1:Int) == 1&&(sIx items.size items.size hi-sIx items.size 0 lo) == items.size)=true then _ else _) _ _ s
 rw[if_neg hno,Zll]
 first
  | exact wpAny_bind (m:=Builtin.Tuple.tupleExact _) (wpAny_newObj_type (wpAny_pure ⟨_,rfl,wpAny_pure h⟩) htake)
  | exact wpAny_bind (m:=Builtin.Tuple.tupleExact _) (wpAny_newObj_type (wpAny_bind (wpAny_pure (wpAny_pure ⟨_,rfl,wpAny_pure h⟩))) htake)
  | exact wpAny_bind (wpAny_bind (m:=Builtin.Tuple.tupleExact _) (wpAny_newObj_type (wpAny_pure (wpAny_pure ⟨_,rfl,wpAny_pure h⟩)) htake))
  | exact wpAny_bind (wpAny_bind (m:=Builtin.Tuple.tupleExact _) (wpAny_newObj_type (wpAny_pure ⟨_,rfl,wpAny_pure h⟩) htake))
end
end HT
namespace L2
open PySem PySem.Spec PyProof.Rows
noncomputable abbrev TO:=St->Hp->(Option Int->Hp->Prop)->Prop
noncomputable def PO(X:Cx)(e:Option Expr)(t:TO):Prop :=
 ∀ (pins:List (Addr×Obj)) (s:Shared) (σ:St) (H:Hp) (Q:Option Int->Hp->Prop),Inv X pins σ H s->t σ H Q ->
  wpAny (model X.prog X.w) X.A (evalPart e X.env) (fun u s'=>∃ o H',Inv X pins σ H' s'/\IsPart u o/\Q o H') X.xe s
noncomputable def Zm3:TO:=fun _ H Q=>Q none H
noncomputable def ZuL(t:TE):TO:=fun σ H Q=>t σ H fun x H1=>∃ i,x=.int i/\Q (some i) H1
section
variable {X:Cx} {e:Expr} {te:TE} {lo hi:Option Expr} {tl th:TO} {pos p2:Pos}
theorem ZnY:PO X none Zm3:=by
 intro pins s σ H Q I h
 rw[evalPart_none]
 exact wpAny_pure ⟨none,H,I,.none,h⟩
theorem ZnX(h:PE X e te):PO X (some e) (ZuL te):=by
 intro pins s σ H Q I hw
 rw[evalPart_some]
 refine thn (h pins s σ H _ I hw) fun u s1 ⟨x,H1,I1,r1,q1⟩=>?_
 obtain⟨i,rfl,q⟩:=q1
 obtain⟨t,rfl⟩:=r1
 exact⟨some i,H1,I1,.int i t,q⟩
noncomputable def SlR(X:Cx)(r:V->Option Int->Option Int->Hp->VK->Prop):Prop :=
 ∀ (pins:List (Addr×Obj)) (s:Shared) (σ:St) (H:Hp) (x:V) (v vl vu:Value) (lo hi:Option Int) (sl:Addr) (Q:VK),Inv X pins σ H s->Zbb x v->s.heap.IsSliceOf sl vl vu .none->IsPart vl lo->IsPart vu hi->r x lo hi H Q ->
  ∃ T id,typeLookup (.type T) "__getitem__" = pure (some (.builtin id))/\s.TypeIs v T/\wpAny (model X.prog X.w) X.A (getItem v (.ref sl)) (EP X pins σ Q) X.xe s
noncomputable def tSl(r:V->Option Int->Option Int->Hp->VK->Prop)(te:TE)(tl th:TO):TE:=fun σ H Q=>te σ H fun x H1=>tl σ H1 fun l H2=>th σ H2 fun u H3=>r x l u H3 Q
theorem Zlm{r:V->Option Int->Option Int->Hp->VK->Prop}(hr:SlR X r)(he:PE X e te)(hl:PO X lo tl)(hu:PO X hi th):PE X (.Subscript e (.Slice lo hi none p2) pos) (tSl r te tl th):=by
 intro pins s σ H Q I h
 refine Subscript_ (thn (he pins s σ H _ I h) fun v s1 ⟨x,H1,I1,r1,q1⟩=>?_)
 refine wpAny_Slice (thn (hl pins s1 σ H1 _ I1 q1) fun vl s2 ⟨l,H2,I2,pl,q2⟩=>thn (hu pins s2 σ H2 _ I2 q2) fun vu s3 ⟨u,H3,I3,pu,q3⟩=>?_)
 rw[evalPart_none]
 refine wpAny_pure ?_
 have I4:Inv X pins σ H3 { s3 with heap:=s3.heap.push { cls:=.type "slice", data:=.fields #[vl,vu,.none] } }:=I3.kept (t':=s3.toks) fun b ob q=>Heap.get?_push_of_some _ q
 obtain⟨T,id,hT,ht,hg⟩:=hr pins { s3 with heap:=s3.heap.push { cls:=.type "slice", data:=.fields #[vl,vu,.none] } } σ H3 x v vl vu l u s3.heap.objs.size Q I4 r1 (Heap.IsSliceOf.new ..) pl pu q3
 show wpAny (model X.prog X.w) X.A (subscriptTail e (.Slice lo hi none p2) v (.ref s3.heap.objs.size)) (EP X pins σ Q) X.xe { s3 with heap:=s3.heap.push { cls:=.type "slice", data:=.fields #[vl,vu,.none] } }
 exact tail_any (ops:=[.ref s3.heap.objs.size,v]) ht hT hg (by with_unfolding_all rfl)
noncomputable def Zmx(xs:List V)(lo hi:Option Int):List V:=(xs.drop (HT.sIx xs.length 0 lo)).take (HT.sIx xs.length xs.length hi-HT.sIx xs.length 0 lo)
theorem ZeC(xs:List V)(lo hi:Option Int):(Zmx xs lo hi).length<=xs.length:=by
 unfold Zmx
 rw[List.length_take,List.length_drop]
 omega
noncomputable def Zyq(K:PySem.W.Frag):V->Option Int->Option Int->Hp->VK->Prop:=fun x lo hi H Q=>∃ a xs,x=.ref a/\SqT K H a xs /\
 ¬ (HT.sIx xs.length 0 lo=0/\HT.sIx xs.length xs.length hi=xs.length)/\∀ p,H p=none->Q (.ref p) (upd H p (.tup (Zmx xs lo hi)))
theorem Zqm:SlR X (Zyq X.K):=by
 intro pins s σ H x v vl vu lo hi sl Q I rx hs pl pu h
 obtain⟨a,xs,rfl,hx,hw,q⟩:=h
 cases rx
 obtain⟨its,r,ht,hz⟩:=I.tuple hx
 have hlen:its.toArray.size=xs.length:=by rw[List.size_toArray];exact r.length.symm
 refine⟨"tuple", _,PyProof.Rows.slot_tuple_getitem.lookup,ht.typeIs,?_⟩
 refine HT.getItem_tuple_cut ht hs pl pu (by rw[hlen];exact hw) ?_ (by rw[hlen];exact hz)
 rw[hlen]
 refine⟨.ref s.heap.objs.size,_,I.laid (t':=s.toks) (o:=.tup (Zmx xs lo hi)) (fun b ob q=>Heap.get?_push_of_some _ q) (Nat.le_refl _) ?_,rfl,q _ (I.hok.fresh (Nat.le_refl _))⟩
 exact⟨Nat.le_trans (ZeC xs lo hi) hz,_,(r.drop (HT.sIx xs.length 0 lo)).take (HT.sIx xs.length xs.length hi-HT.sIx xs.length 0 lo),IsTup.new _ _⟩
noncomputable def Zv6(K:PySem.W.Frag):R2:=fun x y H Q=>∃ a b xs ys,x=.ref a/\y=.ref b/\SqT K H a xs/\SqT K H b ys/\xs≠[]/\xs.length+ys.length<=sizeLine /\
 (ys=[]->Q (.ref a) H)/\(ys≠[]->∀ p,H p=none->Q (.ref p) (upd H p (.tup (xs++ys))))
theorem ZaP.nil_iff{xs:List V}{us:List Value}(r:ZaP xs us):us=[]↔xs=[]:=by
 cases r with
 | nil=>simp
 | cons _ _=>simp
theorem Zoh:OpR X (binaryOp .Add) (Zv6 X.K):=by
 intro pins s σ H x y v u Q I rx ry h
 obtain⟨a,b,xs,ys,rfl,rfl,ha,hb,hx,hz,q1,q2⟩:=h
 cases rx
 cases ry
 obtain⟨its,r1,p1,_⟩:=I.tuple ha
 obtain⟨its2,r2,p2,_⟩:=I.tuple hb
 refine HT.cat_tup p1 p2 (fun z=>hx (r1.nil_iff.mp z)) (fun z=>⟨.ref a,H,I,rfl,q1 (r2.nil_iff.mp z)⟩) (fun z=>?_) (by rw[<- r1.length,<- r2.length];exact hz)
 refine⟨.ref s.heap.objs.size,_,I.laid (t':=s.toks) (o:=.tup (xs++ys)) (fun b ob q=>Heap.get?_push_of_some _ q) (Nat.le_refl _) ?_,rfl,q2 (fun w=>z (r2.nil_iff.mpr w)) _ (I.hok.fresh (Nat.le_refl _))⟩
 exact⟨by rw[List.length_append];exact hz,_,r1.append r2,IsTup.new _ _⟩
end
end L2
namespace L2
open PySem PySem.Spec PyProof.Rows
noncomputable def ixN(n:Nat)(i:Int):Option Nat:=if 0<=i then (if i<n then some i.toNat else none) else if -(n:Int)<=i then some (i+n).toNat else none
noncomputable def atI{α:Type}(xs:List α)(i:Int):Option α:=(ixN xs.length i).bind fun j=>xs[j]?
theorem ZjU{n:Nat}{i:Int}{j:Nat}(h:ixN n i=some j):seqIndex? i n=some j/\j<n/\-(n:Int)<=i/\i<n:=by
 unfold ixN at h
 by_cases h0:0<=i
 ·rw[if_pos h0] at h
  by_cases h1:i<n
  ·rw[if_pos h1] at h
   have e:i.toNat=j:=Option.some.inj h
   exact⟨by rw[seqIndex_of h0 h1,e],by omega,by omega,h1⟩
  ·rw[if_neg h1] at h;cases h
 ·rw[if_neg h0] at h
  by_cases h1:-(n:Int)<=i
  ·rw[if_pos h1] at h
   have e:(i+n).toNat=j:=Option.some.inj h
   exact⟨by rw[seqIndex_neg (by omega) h1,e],by omega,h1,by omega⟩
  ·rw[if_neg h1] at h;cases h
theorem Zku{α:Type}{xs:List α}{i:Int}{v:α}(h:atI xs i=some v):∃ j,seqIndex? i xs.length=some j/\xs[j]?=some v/\j<xs.length/\-(xs.length:Int)<=i/\i<xs.length:=by
 unfold atI at h
 cases e:ixN xs.length i with
 | none=>rw[e] at h;cases h
 | some j =>
  rw[e] at h
  obtain⟨h1,h2,h3,h4⟩:=ZjU e
  exact⟨j,h1,h,h2,h3,h4⟩
def Zhf(b:Expr):Prop:=∀ o i,subscripted b false o i=operate [o,i] (getItem o i)
noncomputable def IxR(X:Cx)(r:R2):Prop :=
 ∀ (value slice:Expr) (pins:List (Addr×Obj)) (s:Shared) (σ:St) (H:Hp) (x y:V) (v u:Value) (Q:VK),Inv X pins σ H s->Zbb x v->Zbb y u->r x y H Q ->
  subscripted slice false v u=operate [v,u] (getItem v u)->wpAny (model X.prog X.w) X.A (subscriptTail value slice v u) (EP X pins σ Q) X.xe s
noncomputable def MtR(X:Cx)(id:String)(r:V->List V->Hp->VK->Prop):Prop :=
 ∀ (pins:List (Addr×Obj)) (s:Shared) (σ:St) (H:Hp) (x:V) (xs:List V) (v:Value) (us:List Value) (Q:VK),Inv X pins σ H s->Zbb x v->ZaP xs us->r x xs H Q ->
  wpAny (model X.prog X.w) X.A (call (.builtin id) (v::us)) (EP X pins σ Q) X.xe s
section
variable {X:Cx} {a b:Expr} {ta tb:TE} {pos:Pos}
theorem IxR.or{r r':R2}(h:IxR X r)(h':IxR X r'):IxR X (fun x y H Q=>r x y H Q\/r' x y H Q):=by
 intro value slice pins s σ H x y v u Q I rx ry q hs
 rcases q with q|q
 ·exact h value slice pins s σ H x y v u Q I rx ry q hs
 ·exact h' value slice pins s σ H x y v u Q I rx ry q hs
theorem Zwi{r:R2}(hr:IxR X r)(ha:PE X a ta)(hb:PE X b tb)(hs:Zhf b):PE X (.Subscript a b pos) (tOp r ta tb):=by
 intro pins s σ H Q I h
 exact Subscript_ (ZxQ ha hb I h fun v u s2 x y H2 I2 rx ry q=>hr a b pins s2 σ H2 x y v u Q I2 rx ry q (hs _ _))
noncomputable def Zyt(K:PySem.W.Frag):R2:=fun x y H Q=>∃ p xs i v,x=.ref p/\y=.int i/\SqL K H p xs/\atI xs i=some v/\Q v H
noncomputable def Zys(K:PySem.W.Frag):R2:=fun x y H Q=>∃ p xs i v,x=.ref p/\y=.int i/\SqT K H p xs/\atI xs i=some v/\Q v H
theorem Zox:IxR X (Zyt X.K):=by
 intro value slice pins s σ H x y v u Q I rx ry h hs
 obtain⟨p,xs,i,z,rfl,rfl,hq,he,q⟩:=h
 cases rx
 obtain⟨t,rfl⟩:=ry
 obtain⟨its,r,pl,hz⟩:=I.list hq
 obtain⟨j,h1,h2,h3,h4,h5⟩:=Zku he
 obtain⟨w,ew,rw'⟩:=r.get h2
 have hl:=r.length
 have hn:=Zfd
 have fin:EP X pins σ Q w s:=⟨z,H,I,rw',q⟩
 by_cases h0:0<=i
 ·have hj:i.toNat=j:=by
   rw[seqIndex_of h0 h5] at h1
   exact Option.some.inj h1
  exact item_listR pl.isList h0 (by omega) (by rw[hj];simpa using ew) fin hs
 ·have hj:(i+(its.toArray.size:Int)).toNat=j:=by
   rw[seqIndex_neg (by omega) h4] at h1
   rw[List.size_toArray,<- hl]
   exact Option.some.inj h1
  exact subscriptTail_builtinR (x:=w) pl.isList.typeIs slot_list_getitem.lookup
   (wpAny_getItem_list_neg (Q:=fun r s'=>r=w/\EP X pins σ Q r s') pl.isList (by omega) (by rw[List.size_toArray]<;>omega) (by omega) (by rw[hj];simpa using ew) ⟨rfl,fin⟩) hs
theorem ZrK:IxR X (Zys X.K):=by
 intro value slice pins s σ H x y v u Q I rx ry h hs
 obtain⟨p,xs,i,z,rfl,rfl,hq,he,q⟩:=h
 cases rx
 obtain⟨t,rfl⟩:=ry
 obtain⟨its,r,pl,hz⟩:=I.tuple hq
 obtain⟨j,h1,h2,h3,h4,h5⟩:=Zku he
 obtain⟨w,ew,rw'⟩:=r.get h2
 have hl:=r.length
 have hn:=Zfd
 have fin:EP X pins σ Q w s:=⟨z,H,I,rw',q⟩
 exact subscriptTail_builtinR (x:=w) pl.typeIs slot_tuple_getitem.lookup
  (getItem_tuple (j:=j) (Q:=fun r s'=>r=w/\EP X pins σ Q r s') pl (by omega) (by omega) (by rw[List.size_toArray,<- hl];exact h1) (by simpa using ew) ⟨rfl,fin⟩) hs
theorem Zit(its:List Value)(n j:Nat)(u:Value):Obj.mapSeq (·.setIfInBounds j u) { cls:=.type "list", data:=.seq its.toArray n }={ cls:=.type "list", data:=.seq (its.set j u).toArray n }:=by
 simp[Obj.mapSeq]
theorem Inv.lst{pins:List (Addr×Obj)}{σ:St}{H:Hp}{s:Shared}{p:Addr}{xs:List V}(I:Inv X pins σ H s)(h:H p=some (.lst xs)) :
  ∃ (its:List Value) (n:Nat),ZaP xs its/\s.heap.get? p=some { cls:=.type "list", data:=.seq its.toArray n }/\xs.length<=sizeLine:=by
 obtain⟨z,its,n,r,e⟩:=I.hok p _ h
 exact⟨its,n,r,e,z⟩
theorem Inv.lstUpd{pins:List (Addr×Obj)}{σ:St}{H:Hp}{s:Shared}{p:Addr}{xs ys:List V}{its its':List Value}{n n':Nat}{f:Obj->Obj}(I:Inv X pins σ H s)(h:H p=some (.lst xs))
  (ho:s.heap.get? p=some { cls:=.type "list", data:=.seq its.toArray n }) (hf:f { cls:=.type "list", data:=.seq its.toArray n }={ cls:=.type "list", data:=.seq its'.toArray n' }) (r:ZaP ys its') (hz:ys.length<=sizeLine) (t:Nat) :
  Inv X pins σ (upd H p (.lst ys)) { s with heap:=s.heap.update p f,toks:=t }:=by
 have e:(s.heap.update p f).get? p=some { cls:=.type "list", data:=.seq its'.toArray n' }:=by
  rw[Heap.get?_update_self f ho (by rw[hf]<;>rfl),hf]
 refine I.write (x:=p) (e:=p) (by rw[h];trivial) (.inl rfl) (fun b u hb q=>(Heap.get?_update_other _ _ (Ne.symm hb)).trans q) ⟨_,e⟩ ?_
 exact⟨hz,its',n',r,e⟩
noncomputable def Zv5:V->V->V->Hp->(Hp->Prop)->Prop:=fun o i v H Q=>∃ p xs k j,o=.ref p/\i=.int k/\H p=some (.lst xs)/\ixN xs.length k=some j/\Q (upd H p (.lst (xs.set j v)))
theorem Zk4:Zzf X Zv5:=by
 intro pins s σ H o i v ov iv u Q I ro ri rv h
 obtain⟨p,xs,k,j,rfl,rfl,hp,hj,q⟩:=h
 cases ro
 obtain⟨t,rfl⟩:=ri
 obtain⟨its,n,r,ho,hz⟩:=I.lst hp
 obtain⟨h1,h2,h3,h4⟩:=ZjU hj
 have hl:=r.length
 have hn:=Zfd
 have I':Inv X pins σ (upd H p (.lst (xs.set j v))) { s with heap:=s.heap.update p (Obj.mapSeq (·.setIfInBounds j u)) } :=
  I.lstUpd hp ho (Zit its n j u) (r.set rv j) (by rw[List.length_set];exact hz) s.toks
 by_cases h0:0<=k
 ·have hk:k.toNat=j:=by
   rw[seqIndex_of h0 h4] at h1
   exact Option.some.inj h1
  exact PySem.W.ki_setAt ho h0 (by omega) (by rw[List.size_toArray,<- hl];exact h4) (by rw[hk];exact⟨_,I',q⟩)
 ·have hk:(k+(its.toArray.size:Int)).toNat=j:=by
   rw[seqIndex_neg (by omega) h3] at h1
   rw[List.size_toArray,<- hl]
   exact Option.some.inj h1
  exact PySem.W.ki_setBack ho (by omega) (by rw[List.size_toArray,<- hl];exact h3) (by omega) (by rw[hk];exact⟨_,I',q⟩)
theorem ZfZ(lo hi:Option Int)(n:Nat):(sliceBounds lo hi none n).1=((HT.sIx n 0 lo:Nat):Int)/\(sliceBounds lo hi none n).2.1=((HT.sIx n n hi:Nat):Int)/\(sliceBounds lo hi none n).2.2=1:=by
 refine⟨?_,?_,rfl⟩
 ·cases lo with
  | none=>simp[sliceBounds,HT.sIx]
  | some i =>
   simp only[sliceBounds,HT.sIx,Option.getD_none,show (1:Int) > 0 by decide,if_true]
   by_cases h:i<0
   ·simp only[h,if_true]<;>omega
   ·simp only[h,if_false]<;>omega
 ·cases hi with
  | none=>simp[sliceBounds,HT.sIx]
  | some i =>
   simp only[sliceBounds,HT.sIx,Option.getD_none,show (1:Int) > 0 by decide,if_true]
   by_cases h:i<0
   ·simp only[h,if_true]<;>omega
   ·simp only[h,if_false]<;>omega
theorem Zfx(its:List Value)(lo hi:Option Int):slicePick its.toArray lo hi none=((its.drop (HT.sIx its.length 0 lo)).take (HT.sIx its.length its.length hi-HT.sIx its.length 0 lo)).toArray:=by
 obtain⟨h1,h2,h3⟩:=ZfZ lo hi its.toArray.size
 unfold slicePick
 rw[h1,h2,h3]
 simp only[sliceRange_one,pick_run,List.size_toArray]<;>rfl
noncomputable def Zyr(K:PySem.W.Frag):V->Option Int->Option Int->Hp->VK->Prop:=fun x lo hi H Q=>∃ a xs,x=.ref a/\SqL K H a xs/\∀ p,H p=none->Q (.ref p) (upd H p (.lst (Zmx xs lo hi)))
theorem Znf:SlR X (Zyr X.K):=by
 intro pins s σ H x v vl vu lo hi sl Q I rx hs pl pu h
 obtain⟨a,xs,rfl,hx,q⟩:=h
 cases rx
 obtain⟨its,r,ht,hz⟩:=I.list hx
 have hlen:=r.length
 refine⟨"list", _,slot_list_getitem.lookup,ht.isList.typeIs,?_⟩
 refine wpAny_getItem_list_slice ht.isList hs pl pu .none (by simp) ?_ (by rw[List.size_toArray]<;>omega)
 rw[Zfx,<- hlen]
 refine⟨.ref s.heap.objs.size,_,I.laid (t':=s.toks) (o:=.lst (Zmx xs lo hi)) (fun b ob q=>Heap.get?_push_of_some _ q) (Nat.le_refl _) ?_,rfl,q _ (I.hok.fresh (Nat.le_refl _))⟩
 exact⟨Nat.le_trans (ZeC xs lo hi) hz,_,0,(r.drop (HT.sIx xs.length 0 lo)).take (HT.sIx xs.length xs.length hi-HT.sIx xs.length 0 lo),Heap.get?_push_size _ rfl⟩
theorem Zd7:Zeh X (.builtin "len") (fun xs H Q=>∃ p ys,xs=[.ref p]/\(SqL X.K H p ys\/SqT X.K H p ys)/\Q (.int ys.length) H):=by
 intro pins s σ H xs us Q I r h
 obtain⟨p,ys,rfl,hq,q⟩:=h
 obtain⟨u,rfl,rx⟩:=Zea r
 cases rx
 have hn:=Zfd
 rcases hq with hq|hq
 ·obtain⟨its,r',pl,hz⟩:=I.list hq
  have hlen:=r'.length
  exact Calls.call_len_list pl.isList (by simp only[List.size_toArray]<;>omega) ⟨.int ys.length,H,I.tok _,⟨s.toks+1,by rw[List.size_toArray,hlen]⟩,q⟩
 ·obtain⟨its,r',pl,hz⟩:=I.tuple hq
  have hlen:=r'.length
  exact len_tuple pl (by simp only[List.size_toArray]<;>omega) ⟨.int ys.length,H,I.tok _,⟨s.toks+1,by rw[List.size_toArray,hlen]⟩,q⟩
theorem Zgp:Zeh X (.builtin "len") (fun xs H Q=>∃ z,xs=[.str z]/\z.length<=sizeLine/\Q (.int z.length) H):=by
 intro pins s σ H xs us Q I r h
 obtain⟨z,rfl,hz,q⟩:=h
 obtain⟨u,rfl,t,rfl⟩:=Zea r
 have hn:=Zfd
 exact len_str (by omega) ⟨.int z.length,H,I.tok _,⟨_,rfl⟩,q⟩
theorem Zd6:Zeh X (.type "list") (fun xs H Q=>∃ p ys,xs=[.ref p]/\(SqL X.K H p ys\/SqT X.K H p ys)/\∀ l,H l=none->Q (.ref l) (upd H l (.lst ys))):=by
 intro pins s σ H xs us Q I r h
 obtain⟨p,ys,rfl,hq,q⟩:=h
 obtain⟨u,rfl,rx⟩:=Zea r
 cases rx
 have fin:∀ (its:List Value),ZaP ys its->ys.length<=sizeLine->∀ (h':Heap) (c':Nat),(∀ b o',s.heap.get? b=some o'->h'.get? b=some o') ->
   h'.get? s.heap.objs.size=some { cls:=.type "list", dict:=none,data:=.seq its.toArray c',slots:=#[] }->EP X pins σ Q (.ref s.heap.objs.size) { s with heap:=h' }:=fun its r' hz h' c' kp e =>
  ⟨.ref s.heap.objs.size,_,I.laid (t':=s.toks) kp (Nat.le_refl _) (show ObjOk X.prog X.w _ h' _ (.lst ys) from ⟨hz,its,c',r',e⟩),rfl,q _ (I.hok.fresh (Nat.le_refl _))⟩
 rcases hq with hq|hq
 ·obtain⟨its,r',pl,hz⟩:=I.list hq
  have hlen:=r'.length
  obtain⟨o,ho,hc,n,hd⟩:=pl.isList
  exact call_list_seq p (.inl rfl) ho hc hd (fun h' c' kp e=>fin its r' hz h' c' kp e) (by simp only[List.size_toArray]<;>omega)
 ·obtain⟨its,r',pl,hz⟩:=I.tuple hq
  have hlen:=r'.length
  obtain⟨o,ho,hc,n,hd⟩:=pl
  exact call_list_seq p (.inr rfl) ho hc hd (fun h' c' kp e=>fin its r' hz h' c' kp e) (by simp only[List.size_toArray]<;>omega)
theorem Zdz:Zeh X (.type "tuple") (fun xs H Q=>∃ p ys,xs=[.ref p]/\((SqL X.K H p ys/\∀ l,H l=none->Q (.ref l) (upd H l (.tup ys)))\/(SqT X.K H p ys/\Q (.ref p) H))):=by
 intro pins s σ H xs us Q I r h
 obtain⟨p,ys,rfl,h⟩:=h
 obtain⟨u,rfl,rx⟩:=Zea r
 cases rx
 rcases h with ⟨hq,q⟩|⟨hq,q⟩
 ·obtain⟨its,r',pl,hz⟩:=I.list hq
  have hlen:=r'.length
  refine call_tuple_list pl.isList (fun h' kp=>?_) (by simp only[List.size_toArray]<;>omega)
  have I1:Inv X pins σ H { s with heap:=h' }:=I.kept (t':=s.toks) kp
  have I2:Inv X pins σ (upd H h'.objs.size (.tup ys)) { s with heap:=h'.push { cls:=.type "tuple", data:=.seq its.toArray } } :=
   I1.laid (t':=s.toks) (fun b o e=>Heap.get?_push_of_some _ e) (Nat.le_refl _) (show ObjOk X.prog X.w _ _ _ (.tup ys) from ⟨hz,its,r',IsTup.new _ _⟩)
  exact⟨.ref h'.objs.size,_,I2,rfl,q _ (I1.hok.fresh (Nat.le_refl _))⟩
 ·obtain⟨its,r',pl,hz⟩:=I.tuple hq
  exact call_tuple_same pl ⟨.ref p,H,I,rfl,q⟩
def tyV(K:PySem.W.Frag)(T:String)(x:V)(H:Hp):Prop:=match x with
  | .str _=>T = "str"
  | .int _=>T = "int"
  | .ref p=>(T = "list"/\∃ xs,SqL K H p xs)\/(T = "tuple"/\∃ o,K.lookup p=some o/\o.cls=.type "tuple"/\o.dict=none) \/
      (T = "dict"/\((∃ kvs,H p=some (.dK kvs))\/∃ kvs,H p=some (.dT kvs)))\/(T = "set"/\∃ S n,H p=some (.set S n))
  | _=>False
theorem Zp0{pins:List (Addr×Obj)}{σ:St}{H:Hp}{s:Shared}{T:String}{x:V}{v:Value}(I:Inv X pins σ H s)(r:Zbb x v)(ty:tyV X.K T x H) :
  s.TypeIs v T/\∀ a,v=.ref a->∃ ob,s.heap.get? a=some ob/\ob.dict=none:=by
 cases x with
 | str z =>
  obtain⟨t,rfl⟩:=r
  cases (show T = "str" from ty)
  exact⟨typeIs_str s z t,fun _ e=>nomatch e⟩
 | int i =>
  obtain⟨t,rfl⟩:=r
  cases (show T = "int" from ty)
  exact⟨typeIs_int s i t,fun _ e=>nomatch e⟩
 | ref p =>
  cases r
  rcases ty with ⟨rfl,xs,hq⟩|⟨rfl,o,hk,hc,hd⟩|⟨rfl,hk⟩|⟨rfl,S,n,hk⟩
  ·obtain⟨its,_,pl,_⟩:=I.list hq
   refine⟨pl.isList.typeIs,fun a e=>?_⟩
   cases e
   obtain⟨o,n,e,c,hd,_⟩:=pl
   exact⟨o,e,hd⟩
  ·refine⟨⟨o,I.kIn p o hk,hc⟩,fun a e=>?_⟩
   cases e
   exact⟨o,I.kIn _ o hk,hd⟩
  ·have z:∃ o,s.heap.get? p=some o/\o.ExactDict:=by
    rcases hk with ⟨kvs,hk⟩|⟨kvs,hk⟩
    ·obtain⟨_,_,_,_,o,_,_,e,ex,_⟩:=I.hok p _ hk
     exact⟨o,e,ex⟩
    ·obtain⟨_,_,_,_,o,_,_,e,ex,_⟩:=I.hok p _ hk
     exact⟨o,e,ex⟩
   obtain⟨o,e,ex⟩:=z
   refine⟨⟨o,e,ex.1⟩,fun a e2=>?_⟩
   cases e2
   exact⟨o,e,ex.2.1⟩
  ·obtain⟨o,_,_,_,e,ex,_⟩:=I.hok p _ hk
   refine⟨⟨o,e,ex.1⟩,fun a e2=>?_⟩
   cases e2
   exact⟨o,e,ex.2.1⟩
 | _=>exact False.elim ty
noncomputable def tBM(K:PySem.W.Frag)(T:String)(r:V->List V->Hp->VK->Prop)(to:TE)(t:TA):TE:=fun σ H Q=>to σ H fun x H1=>tyV K T x H1/\t σ H1 fun xs H2=>r x xs H2 Q
variable {o e:Expr} {es:List Expr} {to:TE} {t:TA} {name:Str} {apos cpos:Pos} {T id:String} {r:V->List V->Hp->VK->Prop}
theorem Zwj(pa:PlainAttrs T)(slot:Slot T name id)(hty:typeOf (.builtin id)=pure (.type "method_descriptor"))(hm:MtR X id r)(ho:PE X o to)(ha:PA X (e::es) t)
  (hbase:attributeBase o name X.env (eval o X.env)=eval o X.env:=by rfl)
  (hfew:((backTo cpos (starEach (e::es) X.env)).all (fun x=>!x.1)&&(backToKw cpos (keywordEach [] X.env)).all (fun x=>x.1.isSome)
   && decide ((e::es).length+([]:List Keyword).length+(if ([]:List Keyword).isEmpty then 0 else 1)<30))=true:=by rfl)
  (hline:(apos.endLine == cpos.line)=true:=by rfl) (hs:starEach (e::es) X.env=(false,eval e X.env)::starEach es X.env:=by rfl) (hplain:(backTo cpos (starEach es X.env)).any (·.1)=false:=by rfl) :
  PE X (.Call (.Attribute o name apos) (e::es) [] cpos) (tBM X.K T r to t):=by
 intro pins s σ H Q I h
 refine wpAny_Call_method_late hbase hfew hline rfl (thn (ho pins s σ H _ I h) fun v s1 ⟨x,H1,I1,r1,ty,q1⟩=>?_)
 obtain⟨h1,h2⟩:=Zp0 I1 r1 ty
 refine⟨T,id,pa,slot,hty,h1,h2,?_⟩
 have hA:=ha cpos pins s1 σ H1 _ I1 q1
 rw[hs] at hA ⊢
 refine Calls.callWith_builtin (by show (false||(backTo cpos (starEach es X.env)).any (·.1))=false;rw[hplain]<;>rfl) (Calls.evalArgs_plain ?_)
 exact thn hA fun us s2 ⟨vs,H2,I2,r2,q2⟩=>hm pins s2 σ H2 x vs v us Q I2 r1 r2 q2
/- xs.append(e),list.index on a module's tuple .. are MtR facts of 06m -/
end
end L2
namespace L2
open PySem PySem.Spec PyProof.Rows
noncomputable def MtM(X:Cx)(id:String)(r:V->List V->Hp->VK->Prop):Prop :=
 ∀ (pins:List (Addr×Obj)) (s:Shared) (σ:St) (H:Hp) (x:V) (xs:List V) (v:Value) (us:List Value) (Q:VK),Inv X pins σ H s->Zbb x v->ZaP xs us->r x xs H Q ->
  wpAny (model X.prog X.w) X.A (call (.builtin id) (v::us)) (EP X pins σ Q) X.xe s
theorem ZaP.one:∀ {x:V} {us:List Value},ZaP [x] us->∃ u,us=[u]/\Zbb x u
 | _,_,.cons r .nil=>⟨_,rfl,r⟩
theorem ZaP.zero:∀ {us:List Value},ZaP [] us->us=[]
 | _,.nil=>rfl
theorem ZaP.reverse{xs:List V}{us:List Value}(h:ZaP xs us):ZaP xs.reverse us.reverse:=by
 induction h with
 | nil=>exact .nil
 | cons r t ih=>rw[List.reverse_cons,List.reverse_cons];exact ZaP.append ih (.cons r .nil)
section
variable {X:Cx} {pins:List (Addr×Obj)} {σ:St} {H:Hp} {s:Shared} {l b:Addr} {xs ys zs:List V}
theorem Inv.lset{its its':List Value}{n:Nat}{f:Array Value->Array Value}{t':Nat}(I:Inv X pins σ H s)(hH:H l=some (.lst xs))
  (e:s.heap.get? l=some { cls:=.type "list", data:=.seq its.toArray n }) (hf:f its.toArray=its'.toArray) (hv:ZaP ys its') (hz:ys.length<=sizeLine) :
  Inv X pins σ (upd H l (.lst ys)) { s with heap:=s.heap.update l (Obj.mapSeq f),toks:=t' }:=by
 have q:=PySem.IsL.update e f
 rw[hf] at q
 refine I.write (x:=l) (e:=l) (by rw[hH];exact trivial) (.inl rfl) (fun b' u hb hu=>(Heap.get?_update_other s.heap (Obj.mapSeq f) (Ne.symm hb)).trans hu) ⟨_,q⟩ ?_
 exact⟨hz,its',_,hv,q⟩
theorem Inv.lnew{its:List Value}{t':Nat}(I:Inv X pins σ H s)(hv:ZaP ys its)(hz:ys.length<=sizeLine) :
  Inv X pins σ (upd H s.heap.objs.size (.lst ys)) { s with heap:=s.heap.push { cls:=.type "list", data:=.seq its.toArray },toks:=t' } :=
 I.laid (fun _ _ q=>Heap.get?_push_of_some _ q) (Nat.le_refl _) ⟨hz,its,0,hv,Heap.get?_push_size _ rfl⟩
theorem Inv.fresh(I:Inv X pins σ H s):H s.heap.objs.size=none:=I.hok.fresh (Nat.le_refl _)
theorem Inv.lstM(I:Inv X pins σ H s)(hH:H l=some (.lst xs)):xs.length<=sizeLine/\∃ (its:List Value) (n:Nat),ZaP xs its/\xs.length=its.length/\s.heap.get? l=some { cls:=.type "list", data:=.seq its.toArray n }:=by
 obtain⟨z,its,n,r,e⟩:=I.hok l _ hH
 exact⟨z,its,n,r,r.length,e⟩
end
section
variable {X:Cx}
noncomputable def ZnO:V->List V->Hp->VK->Prop:=fun x vs H Q=>∃ l xs y,x=.ref l/\vs=[y]/\H l=some (.lst xs)/\xs.length<sizeLine/\Q .non (upd H l (.lst (xs++[y])))
theorem ZjK:MtM X "list.append" ZnO:=by
 intro pins s σ H x vs v us Q I rx rv h
 obtain⟨l,xs,y,rfl,rfl,hH,hz,q⟩:=h
 cases rx
 obtain⟨u,rfl,ru⟩:=rv.one
 obtain⟨z,its,n,r,hl,e⟩:=I.lstM hH
 refine call_meets F.slot_list_append ⟨_,e,rfl⟩ F.entry_list_append (F.args_list_append_2 _ _) (PySem.list_append l its.toArray n u (by rw[List.size_toArray];omega)) ⟨e,?_⟩
 refine⟨.non,_,I.lset (its':=its++[u]) hH e (by simp) (r.append (.cons ru .nil)) ?_,rfl,q⟩
 rw[List.length_append,List.length_singleton]
 omega
end
section
variable {prog:Program} {w:World} {A:Around} {E:Value->Shared->Prop} {s:Shared}
set_option maxRecDepth 100000 in
end
section
variable {X:Cx}
end
end L2
namespace Att
open PySem PySem.W PySem.Calls PyProof.Rows
theorem Zev{P:Params}{h:Heap}:∀ (ns:List Int) (vs:List Value),WellAll P h vs (ns.map WData.int)->IntsAre vs ns:=by
 intro ns
 induction ns with
 | nil =>
  intro vs w
  rw[List.map_nil] at w
  cases w
  exact .nil
 | cons n ns ih =>
  intro vs w
  rw[List.map_cons] at w
  cases w with
  | cons a b =>
   cases a
   exact .cons _ _ (ih _ b)
theorem Zja{l:OpenLaw}{n:Nat}(hn:l.most=some n){P:Params}{h:Heap}{args:List WData}{vals:List Value}
  (hpre:l.row.toRowW.claim.pre args=true) (hwl:WellAll P h vals args) :
  ∃ a vs ns,vals=[Value.ref a]/\args=[WData.list (ns.map WData.int)]/\h.get? a=some { cls:=.type "list", data:=.seq vs.toArray }/\IntsAre vs ns/\ns.length<=n:=by
 have hsh:WShape.hasAll [] args [.list .int]=true:=(pre_splitW hpre).1
 have hc:l.pre.holds [] { args:=args }=true:=(pre_splitW hpre).2
 obtain⟨d,r,rfl,h1,h2⟩:=hasAllW_cons hsh
 obtain rfl:=hasAllW_nil h2
 obtain⟨xs,rfl,h3⟩:=hasW_list h1
 obtain⟨ns,rfl⟩:=items_int h3
 have hlen:ns.length<=n:=by
  unfold OpenLaw.pre at hc
  have h4:(WTm.not (.lt (.lit (.int (n:Int))) (.len (.arg 0)))).holds [] { args:=[.list (ns.map .int)] }=true:=by
   have h4:=(holds_andW hc).1
   rw[hn] at h4
   exact h4
  have h5:=condW_of h4 (w_not (w_lt w_lit (w_len_list (w_arg rfl))))
  rw[List.length_map] at h5
  refine Nat.le_of_not_lt fun q=>?_
  have q':(n:Int)<((ns.length:Nat):Int):=by omega
  first
   | (rw[decide_eq_true q'] at h5;exact absurd h5 (by decide))
   | (simp at h5;omega)
 cases hwl with
 | cons w1 w2 =>
  cases w2
  cases w1 with
  | list ho hall=>exact⟨_,_,ns,rfl,rfl,ho,Zev ns _ hall,hlen⟩
theorem Zjn(l:OpenLaw)(args:List WData):l.row.toRowW.claim.post args (.bool true) args=true :=
 postW_of (r:=l.row.toRowW) (X:=(true == true))
  (show WShape.has [] (.bool true) .bool=true by first|rfl|decide|simp[WShape.has,WShape.arms,WShape.armsAll])
  (show (WTm.eq .res (.lit (.bool true))).value [] { args:=args,res:=some (.bool true),after:=args }=some (.bool (true == true)) from w_eq_bool (w_res rfl) w_lit) rfl
theorem attach_call{l:OpenLaw}{n:Nat}{q:Program}{loose:List Str}{XP:(Str->Option Value)->Heap->Prop}{YP:World->Heap->Prop}{d:DefRec}
  (hn:l.most=some n) (hdf:d.params.defaults=[])
  (call:∀ (w:World) (s₀ s₁:Shared) (mg mb:Str->Option Value) (fa:Addr) (o:Obj) (pm cd doc:Value) (a:Addr) (vs:List Value) (ns:List Int),
   Ground q loose [] XP w s₀ mg mb s₁.heap->YP w s₁.heap ->
   s₁.heap.get? fa=some o->o.data=.func (docDef d.name d.params d.body d.scope pm cd doc)->s₁.heap.CodeRec cd d.name->mg d.name=some (.ref fa) ->
   s₁.heap.get? a=some { cls:=.type "list", data:=.seq vs.toArray }->IntsAre vs ns->ns.length<=n->s₁.gens=#[] ->
   codeAny (model l.prog w) callerA (.call (.ref fa) ⟨[.ref a],[]⟩) (fun r s'=>r=.ok (.ret (.bool true))/\OldK s₁.heap s'.heap/\s'.os=s₁.os/\AllBare s'.gens) s₁) :
  WalkO q loose XP YP l.row.toRowW d [] (fun f vs=>PySem.call f vs):=by
 intro w s₀ s₁ mg mb G Y fa o pm cd doc dV kV ho hd hcd hD hmg hg args vals as hpre hlay hrd hwl hlo
 obtain rfl:dV=.none:=Dflts.none hD hdf
 obtain rfl:kV=.none:=Dflts.noKw hD
 obtain⟨a,vs,ns,rfl,rfl,hobj,hints,hlen⟩:=Zja hn hpre hwl
 refine enter_call (codeAny_mono (call w s₀ s₁ mg mb fa o pm cd doc a vs ns G Y ho (fd_plain hd) hcd hmg hobj hints hlen hg) fun r s' hq=>?_)
 obtain⟨rfl,h2,h3,h4⟩:=hq
 exact⟨.inl ⟨.bool true,.bool true,[],rfl,fun _=>rfl,.bool true,Zjn l _,fun _=>⟨List.Pairwise.nil,fun _ hm=>(nomatch hm)⟩⟩,h2,h3,h4⟩
section
variable {prog:Program} {w:World} {A:Around} {E:Value->Shared->Prop} {s:Shared} {K:Frag}
end
end Att
namespace L2
open PySem PySem.Spec PyProof.Rows
theorem ZfW:∀ {vs:List Value} {ns:List Int},IntsAre vs ns->ZaP (ns.map V.int) vs
 | _,_,.nil=>.nil
 | _,_,.cons n t h=>.cons ⟨t,rfl⟩ (ZfW h)
def Zx4(H:Hp):Prop:=∀ b,H b=none\/∃ o xs,H b=some (.frz o (.lst xs))
theorem Zlu{P:Program}{w:World}{K:PySem.W.Frag}{mg mb:Str->Option Value}{CX:CXT}{k:Nat}{fa a:Addr}{fd:FuncData}{x:Str}{sp:Sp}{s₁:Shared}{vs:List Value}{ns:List Int}
  (KX:K.In s₁.heap) (hns:s₁.heap.Ns mainGlobals mg) (hb:s₁.heap.Ns builtinsNs mb) (hbb:∀ x:Str,x≠"__name__"->mb x=bootBuiltins x) (hlim:s₁.heap.NoLimit) (hg:s₁.gens=#[])
  (ha:s₁.heap.get? a=some { cls:=.type "list", data:=.seq vs.toArray }) (hi:IntsAre vs ns) (hl:ns.length<=sizeLine) (hr:Room k callerA)
  (F:∀ base:Heap,K.In base->base.Ns mainGlobals mg->FnOk P w K mg base CX k fa fd [x] sp) (hbind:∀ (s:Shared) (u:Value),BindsTo s fd ⟨[u],[]⟩ [(x,u)])
  (hsp:∀ H:Hp,Zx4 H->SqL K H a (ns.map V.int)->sp [.ref a] H (fun v _=>v=.bl true) fun _ _ _=>False)
  (hCX:∀ H e s',CX [] H s₁ (fun _ _ _=>False) e s'->False) :
  codeAny (model P w) callerA (.call (.ref fa) ⟨[.ref a],[]⟩) (fun r s'=>r=.ok (.ret (.bool true))/\OldK s₁.heap s'.heap/\s'.os=s₁.os/\AllBare s'.gens) s₁:=by
 have rv:=ZfW hi
 have lenV:=hi.length
 -- from an abstract heap in which nothing but the script may be tracked
 have core:∀ H:Hp,Zx4 H->SqL K H a (ns.map V.int)->HOk P w H s₁.heap->(∀ b,H b≠none->b=a)->(H a≠none->K.lookup a=none) ->
   codeAny (model P w) callerA (.call (.ref fa) ⟨[.ref a],[]⟩) (fun r s'=>r=.ok (.ret (.bool true))/\OldK s₁.heap s'.heap/\s'.os=s₁.os/\AllBare s'.gens) s₁:=by
  intro H hO hS hok hA hK
  have base_of:∀ {b:Addr} {o:Obj},s₁.heap.get? b=some o->H b=none->(Zly s₁.heap H).get? b=some o:=fun e n=>Zlx e n
  have noA:∀ {b:Addr} {o:Obj} {es:Array DictEntry} {ep:Nat},s₁.heap.get? b=some o->o.data=.dict es ep->H b=none:=fun {b o es ep} e d=>by
   cases q:H b with
   | none=>rfl
   | some u =>
    have e':b=a:=hA b (by rw[q];simp)
    subst e'
    rw[ha] at e;cases e
    have d':Data.seq vs.toArray _=Data.dict es ep:=d
    cases d'
  have nsK:∀ {b:Addr} {m:Str->Option Value},s₁.heap.Ns b m->(Zly s₁.heap H).Ns b m:=fun {b m} ⟨o,es,ep,e,d,r⟩=>⟨o,es,ep,base_of e (noA e d),d,r⟩
  have hKb:K.In (Zly s₁.heap H):=fun b o e=>base_of (KX b o e) (by
   cases q:H b with
   | none=>rfl
   | some u =>
    have e':b=a:=hA b (by rw[q];simp)
    subst e'
    rw[hK (by rw[q];simp)] at e;cases e)
  have hM:Mod K mg (Zly s₁.heap H):=⟨hKb,nsK hns,⟨mb,nsK hb,hbb⟩,let ⟨mc,h1,h2⟩:=hlim;⟨mc,nsK h1,h2⟩⟩
  have e0:Env0 P w K mg (Zly s₁.heap H) callerA [] s₁ H:=⟨rfl,hM,fun b o e=>Zoi e,Nat.le_of_eq (ZjX _ _),trivial,fun b hb=>absurd (show b∈([]:List Addr) from hb) (by simp),hok,.of_eq hg⟩
  refine codeAny_mono ((F _ hKb (nsK hns)).run callerA [] s₁ H ⟨[.ref a],[]⟩ [.ref a] [.ref a] _ _ hr e0 (hbind s₁ (.ref a)) (.cons rfl .nil) (hsp H hO hS)) fun r s' h=>?_
  cases r with
  | error e=>exact(hCX H e s' h).elim
  | ok fl =>
   cases fl with
   | next=>exact False.elim h
   | brk=>exact False.elim h
   | cont=>exact False.elim h
   | ret u =>
    obtain⟨v,H',os,bare,un,hok',r',q⟩:=h
    have q':v=.bl true:=q
    subst q'
    obtain rfl:u=Value.bool true:=r'
    refine⟨rfl,OldK.of_keep fun b o e=>?_,os,bare⟩
    cases q:H b with
    | none=>exact un.keep b o e q (by intro z;exact absurd (show b∈([]:List Addr) from z) (by simp)) (by simp)
    | some u =>
     rcases hO b with z|⟨ob,xs,z⟩
     ·rw[q] at z;cases z
     ·have z2:=un.frzs b ob _ z
      obtain⟨e1,_⟩:=hok b _ z
      obtain⟨e2,_⟩:=hok' b _ z2
      rw[e] at e1;cases e1
      exact e2
 cases hk:K.lookup a with
 | some o =>
  -- the script is one of the module's own objects
  have e:=KX a o hk
  rw[ha] at e
  cases e
  refine core (fun _=>none) (fun _=>.inl rfl) (.inr ⟨_,vs.toArray,_,hk,rfl,rfl,rfl,by rw[List.size_toArray,lenV];exact hl,by simpa using rv⟩) (fun b u z=>by have z':(none:Option HO)=some u:=z;cases z') (fun b z=>absurd rfl z) fun z=>absurd rfl z
 | none =>
  refine core (fun b=>if b=a then some (.frz { cls:=.type "list", data:=.seq vs.toArray } (.lst (ns.map V.int))) else none) (fun b=>?_) (.inl (.inr ⟨{ cls:=.type "list", data:=.seq vs.toArray },if_pos rfl⟩)) (fun b u z=>?_) (fun b z=>?_) fun _=>hk
  ·by_cases hb:b=a
   ·exact .inr ⟨_,_,if_pos hb⟩
   ·exact .inl (if_neg hb)
  ·by_cases hb:b=a
   ·have z':=(if_pos hb).symm.trans z
    cases z'
    subst hb
    exact⟨ha,by rw[List.length_map];exact hl,vs,_,rv,ha⟩
   ·have z':=(if_neg hb).symm.trans z
    cases z'
  ·by_cases hb:b=a
   ·exact hb
   ·exact absurd (if_neg hb) z
end L2
namespace L2
open PySem PySem.Spec PyProof.Rows
noncomputable abbrev KOf{K:PySem.W.Frag}{h:Heap}(_:K.In h):PySem.W.Frag:=K
theorem walk_of{l:PySem.W.OpenLaw}{n k:Nat}{q:Program}{loose:List Str}{XP:(Str->Option Value)->Heap->Prop}{YP:World->Heap->Prop}{d:DefRec}{K:Params->PySem.W.Frag}{CX:World->CXT}{sp:World->Sp}{x:Str}
  (hn:l.most=some n) (hn2:n<=sizeLine) (hdf:d.params.defaults=[]) (hr:Room k callerA)
  (hY:∀ (w:World) (h:Heap),YP w h->(K w.params).In h)
  (F:∀ (w:World) (mg:Str->Option Value) (fa:Addr) (h:Heap),(K w.params).In h->h.Ns mainGlobals mg->mg d.name=some (.ref fa) ->
   ∃ fd:FuncData,(∀ (s:Shared) (u:Value),BindsTo s fd ⟨[u],[]⟩ [(x,u)]) /\
    ∀ base:Heap,(K w.params).In base->base.Ns mainGlobals mg->FnOk l.prog w (K w.params) mg base (CX w) k fa fd [x] (sp w))
  (hsp:∀ (w:World) (H:Hp) (a:Addr) (ns:List Int),ns.length<=n->Zx4 H->SqL (K w.params) H a (ns.map V.int)->sp w [.ref a] H (fun v _=>v=.bl true) fun _ _ _=>False)
  (hCX:∀ (w:World) (H:Hp) (s:Shared) (e:Value) (s':Shared),CX w [] H s (fun _ _ _=>False) e s'->False) :
  PySem.W.WalkO q loose XP YP l.row.toRowW d [] (fun f vs=>PySem.call f vs):=by
 refine Att.attach_call hn hdf fun w s₀ s₁ mg mb fa o pm cd doc a vs ns G Y ho hd hcd hmg hobj hints hlen hg=>?_
 have KX:=hY w _ Y
 obtain⟨fd,hb,hF⟩:=F w mg fa _ KX G.T.g hmg
 exact Zlu KX G.T.g G.T.b G.T.builtins G.T.nolimit hg hobj hints (Nat.le_trans hlen hn2) hr hF hb (fun H hO hS=>hsp w H a ns hlen hO hS) fun H e s'=>hCX w H s₁ e s'
end L2
/- THE LAST THEOREM (shape;LID,My.* are yours):
   My.Adr: a structure of the addresses that your layer names (classes,functions);My.Txt K t: a structure (Prop) of the equations over K;
   My.txt_mk:{K} {implicit addresses ..} (e1:nsIn K mainGlobals "law" = some (some (.ref f))) (e2:K.lookup f=some ⟨oc,od,.func (fnOf "law" "law" params body scope dV kV doc pm an cdv ct),sl⟩) (e3:codeIn K cdv "law" = true) ..:∃ t,My.Txt K t
set_option maxRecDepth 100000 in
set_option maxHeartbeats 0 in
theorem PySem.Challenge.cw_LID_holds:PySem.Challenge.rw_LID.Holds:=by
 w_on;o_law;k_head;(case hw=>w_witness2)
 k_fill
 refine L2.walk_of (l:=PySem.Challenge.rw_LID) (n:=63) (k:=40) (x := "script") (CX:=fun w=>..) (sp:=fun _=>My.sp_law) rfl (by decide) rfl ⟨rfl,by decide,by decide⟩ (fun w h Y=>PySem.W.kIn_of Y) ?F ?S ?C
 case F =>
  intro w mg fa h KX G hmg
  have T:∃ t,My.Txt (L2.KOf KX) t:=by
   dsimp only[L2.KOf]                          -- K must stand as «<heap const> w.params» for k_is
   refine' My.txt_mk ?e1 ?e2 ?e3 ..
   (case e1=>PySem.W.k_is)                    -- in the order: a name -> its address -> its object -> its parts
   (case e2=>PySem.W.k_is)
   ..
  obtain⟨t,T⟩:=T
  have e0:=hmg.symm.trans (PySem.W.mg_of KX G T.law)
  cases e0                                       -- fa is the law's own address
  exact⟨_,fun s u=>.of_eq rfl,fun base kb nb=>My.law_fn T kb nb⟩     -- if «.of_eq rfl» comes too early: refine' ⟨_,?b,fun base kb nb=>My.law_fn T kb nb⟩;exact fun s u=>.of_eq rfl
 case S=>exact fun w H a ns hl hO hS=>..
 case C=>exact ..
(the tactic k_is has no namespace: write k_is) -/
namespace L2
open PySem PySem.Spec PyProof.Rows
noncomputable def ZdO(s:Stmt):Arguments:=match s with
  | .FunctionDef _ a _ _ _ _ _ _ _ _=>a
  | _=>{ posonlyargs:=[],args:=[],vararg:=none,kwonlyargs:=[],kw_defaults:=[],kwarg:=none,defaults:=[] }
noncomputable def ZbL(s:Stmt):List Stmt:=match s with
  | .FunctionDef _ _ b _ _ _ _ _ _ _=>b
  | _=>[]
noncomputable def ZaH(s:Stmt):Scope:=match s with
  | .FunctionDef _ _ _ _ _ _ sc _ _ _=>sc
  | _=>{ kind:=.function,names:=[],isGenerator:=false,isCoroutine:=false }
noncomputable abbrev CX0:CXT:=fun _ _ _ _ _ _=>False
structure Fun (K:PySem.W.Frag) (x qual:Str) (st:Stmt) (f:Addr) (fd:FuncData):Prop where
 ex:∃ (oc:Value) (od:Option Addr) (kV doc pm:Value) (an:Option Addr) (cdv ct:Value) (osl:Array (Option Value)),
  fd=PySem.W.fnOf x qual (ZdO st) (ZbL st) (ZaH st) .none kV doc pm an cdv ct/\K.lookup f=some ⟨oc,od,.func fd,osl⟩/\PySem.W.codeIn K cdv qual=true
 kp:PySem.W.keepIn K (.ref f)=true
section
variable {P:Program} {w:World} {K:PySem.W.Frag} {mg:Str->Option Value} {base:Heap}
theorem Fun.ok{x qual:Str}{st:Stmt}{f:Addr}{fd:FuncData}{N ps:List Str}{k:Nat}{sp:Sp}(F:Fun K x qual st f fd)(S:FnScope N ps (ZaH st))(len:∀ vs H Q E,sp vs H Q E->vs.length=ps.length)
  (hbody:∀ (cdv:Value) (A:Around) (outer:List Env) (s:Shared) (H:Hp) (vs:List V) (Q:VK) (E:XK),Room k (A.deeper (envOfC qual (ZaH st) s.heap.objs.size f cdv))->sp vs H Q E ->
   ∃ t,PSs (ZfS CX0 P w K mg base N qual (ZaH st) f cdv A outer s H E).nox (ZbL st) t/\t { nx:=fun _ H'=>Q .non H',rt:=Q } (start N vs) H):FnOk P w K mg base CX0 (k+1) f fd ps sp:=by
 obtain⟨oc,od,kV,doc,pm,an,cdv,ct,osl,rfl,lk,hcd⟩:=F.ex
 refine Zr6 lk hcd S len fun A outer s H vs Q E hr hsp=>?_
 obtain⟨t,h,q⟩:=hbody cdv A outer s H vs Q E hr hsp
 exact⟨t,h.nox,q⟩
theorem Fun.binds{x qual:Str}{st:Stmt}{f:Addr}{fd:FuncData}{ps:List Str}(F:Fun K x qual st f fd)
  (h:∀ (kV doc pm:Value) (an:Option Addr) (cdv ct:Value) (us:List Value),us.length=ps.length->bindArgs (PySem.W.fnOf x qual (ZdO st) (ZbL st) (ZaH st) .none kV doc pm an cdv ct) ⟨us,[]⟩=pure (ps.zip us)):Zei K fd ps []:=by
 obtain⟨oc,od,kV,doc,pm,an,cdv,ct,osl,rfl,lk,hcd⟩:=F.ex
 exact .all (h kV doc pm an cdv ct)
theorem ZrX{x qual:Str}{st:Stmt}{f:Addr}{oc:Value}{od an:Option Addr}{osl:Array (Option Value)}{kV doc pm cdv ct:Value}(l:K.lookup f=some ⟨oc,od,.func (PySem.W.fnOf x qual (ZdO st) (ZbL st) (ZaH st) .none kV doc pm an cdv ct),osl⟩)
    (c:PySem.W.codeIn K cdv qual=true) (k:PySem.W.keepIn K (.ref f)=true):Fun K x qual st f (PySem.W.fnOf x qual (ZdO st) (ZbL st) (ZaH st) .none kV doc pm an cdv ct):=⟨⟨oc,od,kV,doc,pm,an,cdv,ct,osl,rfl,l,c⟩,k⟩
end
section
variable {X:Cx}
end
def Zaj(H H':Hp):Prop:=∀ b o,H b=some o->H' b=some o
theorem Zaj.refl(H:Hp):Zaj H H:=fun _ _ h=>h
theorem Zaj.trans{H H1 H2:Hp}(a:Zaj H H1)(b:Zaj H1 H2):Zaj H H2:=fun c o h=>b c o (a c o h)
theorem Zaj.free{H H':Hp}(e:Zaj H H'){l:Addr}(h:H' l=Option.none):H l=Option.none:=by
 cases q:H l with
 | none=>rfl
 | some o =>
  rw[e l o q] at h
  cases h
end L2
section
namespace Ov
open PySem
inductive D where
 | non|bl (b:Bool)|int (i:Int)|str (x:Str)|tup (ds:List D)|lst (ds:List D)
 | obj (c:Nat) (fs:List (Str×D))|exc (c:Nat) (fs:List (Str×D))|dic (kvs:List (List Int×D))
 deriving Inhabited
structure Ex where
 c:Nat
 fs:List (Str×D)
 deriving Inhabited
inductive R (α:Type) where
 | ok (a:α)|exn (x:Ex)|bad
 deriving Inhabited
noncomputable def R.bind{α β:Type}(r:R α)(f:α->R β):R β:=match r with
  | .ok a=>f a
  | .exn x=>.exn x
  | .bad=>.bad
@[simp] theorem R.bind_ok{α β:Type}(a:α)(f:α->R β):(R.ok a).bind f=f a:=rfl
@[simp] theorem R.bind_exn{α β:Type}(x:Ex)(f:α->R β):(R.exn x:R α).bind f=.exn x:=rfl
@[simp] theorem R.bind_bad{α β:Type}(f:α->R β):(R.bad:R α).bind f=.bad:=rfl
theorem R.bind_assoc{α β γ:Type}(r:R α)(f:α->R β)(g:β->R γ):(r.bind f).bind g=r.bind fun a=>(f a).bind g:=by cases r<;>rfl
noncomputable def Zec(n:Nat):Bool:=Nat.ble n 1000000
noncomputable def Zba(i j:Int):Bool:=(decide (-(18446744073709551616:Int)<i)&&decide (i<18446744073709551616))||(decide (-(18446744073709551616:Int)<j)&&decide (j<18446744073709551616))
noncomputable def Zct(i j:Int):Bool:=decide (i.natAbs<2 ^ 2000)&&decide (j.natAbs<2 ^ 2000)
noncomputable def Zdg:Operator->D->D->R D
 | .Add,.int i,.int j=>.ok (.int (i+j))
 | .Sub,.int i,.int j=>.ok (.int (i-j))
 | .Mult,.int i,.int j=>if (Zba i j||Zct i j)=true then .ok (.int (i*j)) else .bad
 | .FloorDiv,.int i,.int j=>if 0<j/\j<1073741824 then .ok (.int (i / j)) else .bad
 | .Mod,.int i,.int j=>if 0<j then .ok (.int (i%j)) else .bad
 | .Pow,.int i,.int j=>if (0<=j/\j<=1000000)/\(-(18446744073709551616:Int)<i/\i<18446744073709551616) then .ok (.int (i ^ j.toNat)) else .bad
 | .Add,.str x,.str y=>if Zec (x.length+y.length)=true then .ok (.str (x++y)) else .bad
 | .Add,.lst x,.lst y=>if Zec (x.length+y.length)=true then .ok (.lst (x++y)) else .bad
 | .Add,.tup x,.tup y=>if (!x.isEmpty&&Zec (x.length+y.length))=true then .ok (.tup (x++y)) else .bad
 | _,_,_=>.bad
noncomputable def unD:UnaryOp->D->R D
 | .USub,.int i=>.ok (.int (-i))
 | _,_=>.bad
noncomputable def b2i(b:Bool):Int:=if b=true then 1 else 0
mutual
noncomputable def eqD:D->D->Bool
 | .non,.non=>true
 | .bl a,.bl b=>a == b
 | .bl a,.int j=>b2i a == j
 | .int i,.bl b=>i == b2i b
 | .int i,.int j=>i == j
 | .str x,.str y=>x == y
 | .tup xs,.tup ys=>eqDs xs ys
 | .lst xs,.lst ys=>eqDs xs ys
 | _,_=>false
noncomputable def eqDs:List D->List D->Bool
 | [],[]=>true
 | x::xs,y::ys=>eqD x y&&eqDs xs ys
 | _,_=>false
end
noncomputable def flD:Nat->D->Bool
 | _,.non=>true
 | _,.bl _=>true
 | _,.int _=>true
 | _,.str _=>true
 | n+1,.tup xs=>xs.all (flD n)
 | n+1,.lst xs=>xs.all (flD n)
 | _,_=>false
noncomputable def ZpO:D->Option (List Int)
 | .tup ds=>keyDs ds
 | _=>none
where keyDs:List D->Option (List Int)
 | []=>some []
 | .int i::r=>(keyDs r).map (i :: ·)
 | _=>none
noncomputable def ltD:Nat->D->D->Bool
 | 0,.int i,.int j=>decide (i<j)
 | n+1,.tup xs,.tup ys=>ltDs (ltD n) xs ys
 | _,_,_=>false
where ltDs (lt:D->D->Bool):List D->List D->Bool
 | [],[]=>false
 | [],_::_=>true
 | _::_,[]=>false
 | x::xs,y::ys=>if eqD x y=true then ltDs lt xs ys else lt x y
noncomputable def rkD:Nat->D->Bool
 | 0,.int _=>true
 | n+1,.tup xs=>xs.all (rkD n)
 | _,_=>false
noncomputable def ZyL(lt:D->D->Bool)(x:D):List D->List D
 | []=>[x]
 | y::ys=>if lt y x=true then y::ZyL lt x ys else x::y::ys
noncomputable def Zqi(lt:D->D->Bool):List D->List D
 | []=>[]
 | x::xs=>ZyL lt x (Zqi lt xs)
noncomputable def Zyx:List D->Bool
 | []=>true
 | x::xs=>xs.all (fun y=>!eqD x y)&&Zyx xs
noncomputable def Zy9:List D->Bool
 | []=>true
 | [_]=>true
 | x::y::r=>ltD 1 x y&&Zy9 (y::r)
noncomputable def Zi5(xs:List D):R (List D):=if (xs.all (fun d=>rkD 1 d && !eqD d (.tup []))&&Zyx xs&&(decide (xs.length<64)||(Zy9 xs&&decide (xs.length<=1000))))=true then .ok (Zqi (ltD 1) xs) else .bad
noncomputable def Zbt:CmpOp->D->D->R D
  | .Eq,x,y=>if (flD 5 x&&flD 5 y)=true then .ok (.bl (eqD x y)) else .bad
  | .NotEq,x,y=>if (flD 5 x&&flD 5 y)=true then .ok (.bl (!eqD x y)) else .bad
  | .Lt,.int i,.int j=>.ok (.bl (decide (i<j)))
  | .LtE,.int i,.int j=>.ok (.bl (decide (i<=j)))
  | .Gt,.int i,.int j=>.ok (.bl (decide (j<i)))
  | .GtE,.int i,.int j=>.ok (.bl (decide (j<=i)))
  | .In,x,.lst ys=>if (flD 5 x&&ys.all (flD 5))=true then .ok (.bl (ys.any fun y=>eqD y x)) else .bad
  | .In,x,.dic kvs=>match ZpO x with
    | some k=>.ok (.bl (kvs.any fun p=>p.1 == k))
    | none=>.bad
  | .In,x,.tup ys=>if (flD 5 x&&ys.all (flD 5))=true then .ok (.bl (ys.any fun y=>eqD y x)) else .bad
  | .NotIn,x,.lst ys=>if (flD 5 x&&ys.all (flD 5))=true then .ok (.bl (!ys.any fun y=>eqD y x)) else .bad
  | .NotIn,x,.tup ys=>if (flD 5 x&&ys.all (flD 5))=true then .ok (.bl (!ys.any fun y=>eqD y x)) else .bad
  | .Is,.non,.non=>.ok (.bl true)
  | .Is,.bl _,.non=>.ok (.bl false)
  | .Is,.int _,.non=>.ok (.bl false)
  | .Is,.str _,.non=>.ok (.bl false)
  | .Is,.tup _,.non=>.ok (.bl false)
  | .Is,.lst _,.non=>.ok (.bl false)
  | .Is,.obj _ _,.non=>.ok (.bl false)
  | .Is,.bl a,.bl b=>.ok (.bl (a == b))
  | .IsNot,.bl a,.bl b=>.ok (.bl (!(a == b)))
  | .IsNot,.non,.non=>.ok (.bl false)
  | .IsNot,.bl _,.non=>.ok (.bl true)
  | .IsNot,.int _,.non=>.ok (.bl true)
  | .IsNot,.str _,.non=>.ok (.bl true)
  | .IsNot,.tup _,.non=>.ok (.bl true)
  | .IsNot,.lst _,.non=>.ok (.bl true)
  | .IsNot,.obj _ _,.non=>.ok (.bl true)
  | _,_,_=>.bad
noncomputable def ZbS:D->R Bool
 | .non=>.ok false
 | .bl b=>.ok b
 | .int i=>.ok (i != 0)
 | .str x=>if Zec x.length=true then .ok (x.length != 0) else .bad
 | .tup xs=>.ok (!xs.isEmpty)
 | .lst xs=>.ok (!xs.isEmpty)
 | _=>.bad
noncomputable def plD(n:Nat)(i:Int):Option Nat:=if 0<=i then (if i<n then some i.toNat else none) else if -(n:Int)<=i then some (i+n).toNat else none
noncomputable def Zdf(xs:List D)(i:Int):R D:=match plD xs.length i with
  | some k=>match xs[k]? with
    | some d=>.ok d
    | none=>.bad
  | none=>.bad
noncomputable def Zsf(kvs:List (List Int×D))(k:List Int):Option D:=(kvs.find? fun p=>p.1 == k).map (·.2)
noncomputable def Zmu(kvs:List (List Int×D))(k:List Int)(v:D):List (List Int×D):=if (kvs.any fun p=>p.1 == k)=true then kvs.map (fun p=>if (p.1 == k)=true then (k,v) else p) else kvs++[(k,v)]
noncomputable def Zbc:D->D->R D
  | .lst xs,.int i=>Zdf xs i
  | .tup xs,.int i=>Zdf xs i
  | .dic kvs,k=>match (ZpO k).bind (Zsf kvs) with
    | some d=>.ok d
    | none=>.bad
  | _,_=>.bad
noncomputable def ZcJ:D->R Int
 | .int i=>.ok i
 | _=>.bad
noncomputable def Zd8:D->R Bool
 | .bl b=>.ok b
 | _=>.bad
noncomputable def ZaF:D->R (List D)
 | .lst xs=>.ok xs
 | .tup xs=>.ok xs
 | _=>.bad
noncomputable def Zpx:D->R (List D)
 | .lst xs=>.ok xs
 | _=>.bad
inductive BI where
 | len|abs|max|min|int|list|tuple|all|any|sum|sorted|str|count
 deriving DecidableEq,Inhabited
inductive Ki where
 | int|bool|str|list|tuple|verr|cls (c:Nat)
 deriving DecidableEq,Inhabited
mutual
inductive E where
 | non|bl (b:Bool)|int (i:Int)|str (x:Str)
 | var (i:Nat)|glob (g:Nat)
 | bin (op:Operator) (a b:E)|un (op:UnaryOp) (a:E)|no (a:E)
 | and (es:Es)|or (es:Es)
 | cmp (op:CmpOp) (a b:E)|cmp2 (op op':CmpOp) (a b c:E)
 | ite (c a b:E)
 | call (f:Nat) (as:Es)|bi (b:BI) (as:Es)
 | isi (a:E) (ks:List Ki)
 | idx (a i:E)|sl (a lo hi:E)
 | tup (es:Es)|lst (es:Es)
 | comp (elt:E) (t:Nat) (it:I) (c:E)|compT (elt:E) (ts:List Nat) (it:I) (c:E)|tupI (it:I)|dnew
 | fld (o:E) (f:Str)
inductive Es where
 | nil|cons (e:E) (es:Es)
inductive I where
 | e (a:E)|rng (a:E)|rng2 (a b:E)|zip (a b:E)|zip3 (a b c:E)|enm (a:E)
end
noncomputable abbrev Sl:=Option (D×Bool)
noncomputable abbrev Rho:=List Sl
structure Gam where
 F:Nat->List D->R D
 G:Nat->D
 up:Nat->List Nat
 /-- the defs whose answer is a new list -/
 fr:Nat->Bool
 /-- what is raised: the class,what it is made of -/
 xn:Nat->List D->R Ex
noncomputable def Zfb(lo:Int)(n:Nat):List D:=(List.range n).map fun (k:Nat)=>D.int (lo+(k:Int))
noncomputable def ZaB(lo hi:Int):R (List D):=if (-(4611686018427387904:Int)<=lo/\lo<4611686018427387904)/\(-(4611686018427387904:Int)<=hi/\hi<4611686018427387904)/\hi-lo<1000000 then .ok (Zfb lo (hi-lo).toNat) else .bad
noncomputable def kiD(up:Nat->List Nat):Ki->D->Bool
 | .int,.int _=>true
 | .int,.bl _=>true
 | .bool,.bl _=>true
 | .str,.str _=>true
 | .list,.lst _=>true
 | .tuple,.tup _=>true
 | .cls c,.obj k _=>(up k).contains c
 | .cls c,.exc k _=>(up k).contains c
 | .verr,.exc _ _=>true
 | _,_=>false
noncomputable def ZeD:Ki->Bool
 | .cls _=>true
 | .verr=>true
 | _=>false
noncomputable def Ze1(up:Nat->List Nat)(ks:List Ki)(x:D):R D:=match x with
  | .obj _ _=>.bad
  | .exc _ _=>if ks.all ZeD=true then .ok (.bl (ks.any fun k=>kiD up k x)) else .bad
  | .dic _=>.bad
  | _=>if ks.any ZeD=true then .bad else .ok (.bl (ks.any fun k=>kiD up k x))
noncomputable def Zej:D->R Bool
 | .non=>.ok false
 | .bl b=>.ok b
 | .int i=>.ok (i != 0)
 | _=>.bad
noncomputable def Zd1:List D->R Bool
 | []=>.ok true
 | x::r=>(Zej x).bind fun b=>(Zd1 r).bind fun c=>.ok (b&&c)
noncomputable def Zdc:List D->R Bool
 | []=>.ok false
 | x::r=>(Zej x).bind fun b=>(Zdc r).bind fun c=>.ok (b||c)
noncomputable def Zhr:Int->List D->R Int
 | a,[]=>.ok a
 | a,.int i::r=>Zhr (a+i) r
 | _,_=>.bad
noncomputable def ZfT:List D->List D->List D
 | x::xs,y::ys=>.tup [x,y]::ZfT xs ys
 | _,_=>[]
noncomputable def ZmO:List D->List D->List D->List D
 | x::xs,y::ys,z::zs=>.tup [x,y,z]::ZmO xs ys zs
 | _,_,_=>[]
noncomputable def Zid(x y z:D):R (List D):=(ZaF x).bind fun xs=>(ZaF y).bind fun ys=>(ZaF z).bind fun zs=>if 0<xs.length/\xs.length<=1000/\ys.length=xs.length/\zs.length=xs.length then .ok (ZmO xs ys zs) else .bad
noncomputable def Ziy:Int->List D->List D
 | _,[]=>[]
 | i,x::xs=>.tup [.int i,x]::Ziy (i+1) xs
noncomputable def nlD:Nat->D->Bool
 | _,.non=>true
 | _,.bl _=>true
 | _,.int _=>true
 | _,.str _=>true
 | n+1,.tup xs=>xs.all (nlD n)
 | _,_=>false
noncomputable def ZlJ(fr:Bool):D->Bool
 | .lst ds=>fr&&ds.all (nlD 5)
 | d=>nlD 5 d
noncomputable def ZgS:List D->Option (List Int)
 | []=>some []
 | .int i::r=>(ZgS r).map (i :: ·)
 | _=>none
noncomputable def ZkN(i:Int):List Int->Int
 | []=>i
 | j::r=>ZkN (if j<i then j else i) r
noncomputable def biD:BI->List D->R D
  | .len,[.lst xs]=>.ok (.int xs.length)
  | .len,[.tup xs]=>.ok (.int xs.length)
  | .len,[.str x]=>if Zec x.length=true then .ok (.int x.length) else .bad
  | .abs,[.int i]=>.ok (.int (if i<0 then -i else i))
  | .max,[.int i,.int j]=>.ok (.int (if i<j then j else i))
  | .min,[.int i,.int j]=>.ok (.int (if j<i then j else i))
  | .min,[.lst xs]=>match ZgS xs with
    | some (i::is)=>.ok (.int (ZkN i is))
    | _=>.bad
  | .int,[.int i]=>.ok (.int i)
  | .int,[.bl b]=>.ok (.int (b2i b))
  | .list,[.lst xs]=>.ok (.lst xs)
  | .list,[.tup xs]=>.ok (.lst xs)
  | .tuple,[.lst xs]=>.ok (.tup xs)
  | .tuple,[.tup xs]=>.ok (.tup xs)
  | .all,[.lst xs]=>(Zd1 xs).bind fun b=>.ok (.bl b)
  | .any,[.lst xs]=>(Zdc xs).bind fun b=>.ok (.bl b)
  | .any,[.tup xs]=>(Zdc xs).bind fun b=>.ok (.bl b)
  | .sum,[.lst xs]=>(Zhr 0 xs).bind fun i=>.ok (.int i)
  | .sum,[.tup xs]=>(Zhr 0 xs).bind fun i=>.ok (.int i)
  | .sorted,[.lst xs]=>(Zi5 xs).bind fun ys=>.ok (.lst ys)
  | .count,[.lst xs,x]=>if (flD 5 x&&xs.all (flD 5))=true then .ok (.int ((xs.filter fun y=>eqD y x).length:Nat)) else .bad
  | .len,[.dic kvs]=>.ok (.int kvs.length)
  | _,_=>.bad
noncomputable def slE(c:E)(d:D):R (Option Int):=match c with
  | .non=>.ok none
  | _=>(ZcJ d).bind fun i=>.ok (some i)
noncomputable def Zhz(n d:Nat):Option Int->Nat
 | none=>d
 | some i=>if i<0 then (i+n).toNat else min i.toNat n
noncomputable def Zmy(xs:List D)(lo hi:Option Int):List D:=(xs.drop (Zhz xs.length 0 lo)).take (Zhz xs.length xs.length hi-Zhz xs.length 0 lo)
noncomputable def slD:D->Option Int->Option Int->R D
 | .lst xs,l,h=>.ok (.lst (Zmy xs l h))
 | .tup xs,l,h=>if (Zhz xs.length 0 l == 0&&Zhz xs.length xs.length h == xs.length)=true then .bad else .ok (.tup (Zmy xs l h))
 | _,_,_=>.bad
noncomputable def ZyU:D->Str->R D
  | .obj _ fs,f=>match fs.lookup f with
    | some d=>.ok d
    | none=>.bad
  | .exc _ fs,f=>match fs.lookup f with
    | some d=>.ok d
    | none=>.bad
  | _,_=>.bad
noncomputable def ZgC(ρ:Rho)(i:Nat):R D:=match ρ[i]? with
  | some (some (d,false))=>.ok d
  | _=>.bad
noncomputable def ZgF(ρ:Rho)(i:Nat):R D:=match ρ[i]? with
  | some (some (d,_))=>.ok d
  | _=>.bad
noncomputable def shE(ρ:Rho):E->Bool
  | .var i=>(match ρ[i]? with
    | some (some (_,true))=>false
    | _=>true)
  | _=>true
noncomputable def Zk3(ρ:Rho):Es->Bool
 | .nil=>true
 | .cons e es=>shE ρ e&&Zk3 ρ es
noncomputable def Za5:List Nat->List D->Rho->Option Rho
 | [],[],ρ=>some ρ
 | t::ts,d::ds,ρ=>Za5 ts ds (ρ.set t (some (d,false)))
 | _,_,_=>none
noncomputable def ZbB(ts:List Nat)(d:D)(ρ:Rho):R Rho:=match d with
  | .tup xs=>(match Za5 ts xs ρ with
    | some ρ'=>.ok ρ'
    | none=>.bad)
  | _=>.bad
noncomputable def Zgw(ts:List Nat)(d:D)(ρ:Rho):R Rho:=match d with
  | .lst xs=>(match Za5 ts xs ρ with
    | some ρ'=>.ok ρ'
    | none=>.bad)
  | d=>ZbB ts d ρ
noncomputable def Zal(g:D->R Bool)(f:D->R D):List D->R (List D)
 | []=>.ok []
 | x::xs=>(g x).bind fun b=>if b=true then (f x).bind fun y=>(Zal g f xs).bind fun ys=>.ok (y::ys) else Zal g f xs
noncomputable def noX{α:Type}:R α->R α
 | .ok a=>.ok a
 | _=>.bad
noncomputable def top(ρ:Rho)(e:E)(r:R D):R D:=match e with
  | .var i=>ZgF ρ i
  | _=>r
mutual
noncomputable def evE(Γ:Gam)(ρ:Rho):E->R D
 | .non=>.ok .non
 | .bl b=>.ok (.bl b)
 | .int i=>.ok (.int i)
 | .str x=>.ok (.str x)
 | .var i=>ZgC ρ i
 | .glob g=>.ok (Γ.G g)
 | .bin op a b=>(top ρ a (evE Γ ρ a)).bind fun x=>(top ρ b (evE Γ ρ b)).bind fun y=>Zdg op x y
 | .un op a=>(top ρ a (evE Γ ρ a)).bind fun x=>unD op x
 | .no a=>(top ρ a (evE Γ ρ a)).bind fun x=>(Zd8 x).bind fun b=>.ok (.bl (!b))
 | .and es=>evN Γ ρ es
 | .or es=>evO Γ ρ es
 | .cmp op a b=>(top ρ a (evE Γ ρ a)).bind fun x=>(top ρ b (evE Γ ρ b)).bind fun y=>Zbt op x y
 | .cmp2 op op' a b c=>(top ρ a (evE Γ ρ a)).bind fun x=>(top ρ b (evE Γ ρ b)).bind fun y=>(Zbt op x y).bind fun z=>(Zd8 z).bind fun k=>if k=true then (top ρ c (evE Γ ρ c)).bind fun u=>Zbt op' y u else .ok (.bl false)
 | .ite c a b=>(top ρ c (evE Γ ρ c)).bind fun x=>(ZbS x).bind fun k=>if k=true then evE Γ ρ a else evE Γ ρ b
 | .call f as=>(evB Γ ρ as).bind fun xs=>(Γ.F f xs).bind fun d=>if Zk3 ρ as=true then .ok d else if ZlJ (Γ.fr f) d=true then .ok d else .bad
 | .bi b as=>(evB Γ ρ as).bind fun xs=>biD b xs
 | .isi a ks=>(top ρ a (evE Γ ρ a)).bind fun x=>Ze1 Γ.up ks x
 | .idx a i=>(top ρ a (evE Γ ρ a)).bind fun x=>(top ρ i (evE Γ ρ i)).bind fun y=>Zbc x y
 | .sl a lo hi=>(top ρ a (evE Γ ρ a)).bind fun x=>(top ρ lo (evE Γ ρ lo)).bind fun l=>(slE lo l).bind fun l'=>(top ρ hi (evE Γ ρ hi)).bind fun h=>(slE hi h).bind fun h'=>slD x l' h'
 | .tup es=>(evA Γ ρ es).bind fun xs=>.ok (.tup xs)
 | .lst es=>(evA Γ ρ es).bind fun xs=>.ok (.lst xs)
 | .comp elt t it c=>(evI Γ ρ it).bind fun xs=>(noX (Zal (fun x=>(top (ρ.set t (some (x,false))) c (evE Γ (ρ.set t (some (x,false))) c)).bind ZbS) (fun x=>evE Γ (ρ.set t (some (x,false))) elt) xs)).bind fun ys=>.ok (.lst ys)
 | .compT elt ts it c=>(evI Γ ρ it).bind fun xs=>(noX (Zal (fun x=>(ZbB ts x ρ).bind fun ρ'=>(top ρ' c (evE Γ ρ' c)).bind ZbS) (fun x=>(ZbB ts x ρ).bind fun ρ'=>evE Γ ρ' elt) xs)).bind fun ys=>.ok (.lst ys)
 | .tupI it=>(evI Γ ρ it).bind fun xs=>.ok (.tup xs)
 | .dnew=>.ok (.dic [])
 | .fld o f=>(top ρ o (evE Γ ρ o)).bind fun x=>ZyU x f
noncomputable def evN(Γ:Gam)(ρ:Rho):Es->R D
 | .nil=>.bad
 | .cons e .nil=>evE Γ ρ e
 | .cons e (.cons e' es)=>(evE Γ ρ e).bind fun x=>(Zd8 x).bind fun c=>if c=true then evN Γ ρ (.cons e' es) else .ok (.bl false)
noncomputable def evO(Γ:Gam)(ρ:Rho):Es->R D
 | .nil=>.bad
 | .cons e .nil=>evE Γ ρ e
 | .cons e (.cons e' es)=>(evE Γ ρ e).bind fun x=>(Zd8 x).bind fun c=>if c=true then .ok (.bl true) else evO Γ ρ (.cons e' es)
noncomputable def evA(Γ:Gam)(ρ:Rho):Es->R (List D)
 | .nil=>.ok []
 | .cons e es=>(evE Γ ρ e).bind fun x=>(evA Γ ρ es).bind fun xs=>.ok (x::xs)
noncomputable def evB(Γ:Gam)(ρ:Rho):Es->R (List D)
 | .nil=>.ok []
 | .cons e es=>(top ρ e (evE Γ ρ e)).bind fun x=>(evB Γ ρ es).bind fun xs=>.ok (x::xs)
noncomputable def evI(Γ:Gam)(ρ:Rho):I->R (List D)
 | .e a=>(evE Γ ρ a).bind ZaF
 | .rng a=>(top ρ a (evE Γ ρ a)).bind fun x=>(ZcJ x).bind fun j=>ZaB 0 j
 | .rng2 a b=>(top ρ a (evE Γ ρ a)).bind fun x=>(top ρ b (evE Γ ρ b)).bind fun y=>(ZcJ x).bind fun i=>(ZcJ y).bind fun j=>ZaB i j
 | .zip a b=>(evE Γ ρ a).bind fun x=>(evE Γ ρ b).bind fun y=>(ZaF x).bind fun xs=>(ZaF y).bind fun ys=>.ok (ZfT xs ys)
 | .zip3 a b c=>(evE Γ ρ a).bind fun x=>(evE Γ ρ b).bind fun y=>(evE Γ ρ c).bind fun z=>Zid x y z
 | .enm a=>(evE Γ ρ a).bind fun x=>(ZaF x).bind fun xs=>.ok (Ziy 0 xs)
end
noncomputable def ZfB(Γ:Gam):E->Bool
 | .lst _=>true
 | .comp _ _ _ _=>true
 | .compT _ _ _ _=>true
 | .dnew=>true
 | .bin .Add _ _=>true
 | .bi .list _=>true
 | .bi .sorted _=>true
 | .sl _ _ _=>true
 | .call f _=>Γ.fr f
 | _=>false
mutual
inductive S where
 | pass
 /-- x=e;fresh: x alone holds the new list -/
 | asg (i:Nat) (fresh:Bool) (e:E)
 /-- a,b,..=e -/
 | asgT (ts:List Nat) (e:E)
 | expr (e:E)
 | ret (e:E)|retN
 | ife (c:E) (a b:Ss)
 | fors (t:Nat) (it:I) (body:Ss)
 | forT (ts:List Nat) (it:I) (body:Ss)
 | whl (c:E) (body:Ss)
 /-- raise C(e,..) -/
 | rais (c:Nat) (as:Es)
 /-- try: body except C as x: h -/
 | tryx (body:Ss) (c:Nat) (x:Nat) (h:Ss)
 /-- x.append(e),x.extend(e),x.insert(k,e),x.reverse(),x.clear() -/
 | app (i:Nat) (e:E)|ext (i:Nat) (e:E)|ins (i:Nat) (k e:E)|rev (i:Nat)|clr (i:Nat)
 /-- d[k]=e,d.setdefault(k,e) -/
 | dput (i:Nat) (k e:E)|dsd (i:Nat) (k e:E)
 /-- x[k]=e -/
 | put (i:Nat) (k e:E)
 /-- x[k],x[l]=x[l],x[k] -/
 | swp (i k l:Nat)
 | brk|cont
 /-- nothing: from here on x is no longer changed -/
 | rel (i:Nat)
inductive Ss where
 | nil|cons (s:S) (ss:Ss)
end
inductive O where
 | next (ρ:Rho)|ret (d:D) (fr:Bool)|brk (ρ:Rho)|cont (ρ:Rho)|exn (x:Ex) (ρ:Rho)|bad
 deriving Inhabited
noncomputable def O.of{α:Type}(ρ:Rho)(r:R α)(f:α->O):O:=match r with
  | .ok a=>f a
  | .exn x=>.exn x ρ
  | .bad=>.bad
@[simp] theorem O.of_ok{α:Type}(ρ:Rho)(a:α)(f:α->O):O.of ρ (.ok a) f=f a:=rfl
@[simp] theorem O.of_exn{α:Type}(ρ:Rho)(x:Ex)(f:α->O):O.of ρ (.exn x:R α) f=.exn x ρ:=rfl
@[simp] theorem O.of_bad{α:Type}(ρ:Rho)(f:α->O):O.of ρ (.bad:R α) f=.bad:=rfl
noncomputable def ZkO(Γ:Gam)(ρ:Rho)(i:I):R (List D):=evI Γ ρ i
noncomputable def Zef(ρ:Rho)(i:Nat):R (List D):=match ρ[i]? with
  | some (some (.lst xs,true))=>.ok xs
  | _=>.bad
noncomputable def Zyu(ρ:Rho)(i:Nat):R (List (List Int×D)):=match ρ[i]? with
  | some (some (.dic xs,true))=>.ok xs
  | _=>.bad
noncomputable def ZsU(d:D):R (List Int):=match ZpO d with
  | some k=>.ok k
  | none=>.bad
noncomputable def ZrY:Nat:=4096
noncomputable def O.seq(o:O)(f:Rho->O):O:=match o with
  | .next ρ=>f ρ
  | .ret d b=>.ret d b
  | .brk ρ=>.brk ρ
  | .cont ρ=>.cont ρ
  | .exn x ρ=>.exn x ρ
  | .bad=>.bad
noncomputable def O.turn(o:O)(f:Rho->O):O:=match o with
  | .next ρ=>f ρ
  | .cont ρ=>f ρ
  | .brk ρ=>.next ρ
  | .ret d b=>.ret d b
  | .exn x ρ=>.exn x ρ
  | .bad=>.bad
noncomputable def ZdH(body:D->Rho->O):List D->Rho->O
 | [],ρ=>.next ρ
 | x::xs,ρ=>(body x ρ).turn (ZdH body xs)
noncomputable def Zuq(c:Rho->R Bool)(body:Rho->O):Nat->Rho->O
 | 0,_=>.bad
 | n+1,ρ=>O.of ρ (c ρ) fun b=>if b=true then (body ρ).turn (Zuq c body n) else .next ρ
noncomputable def ZrO(ρ:Rho)(k:Nat):R Int:=(ZgC ρ k).bind ZcJ
noncomputable def Zzu(ρ:Rho)(d:D)(i k l:Nat):O:=match d with
  | .tup [x,y]=>O.of ρ (Zef ρ i) fun xs=>O.of ρ (ZrO ρ k) fun a=>O.of ρ (ZrO ρ l) fun b=>match plD xs.length a,plD xs.length b with
    | some m,some n=>.next (ρ.set i (some (.lst ((xs.set m x).set n y),true)))
    | _,_=>.bad
  | _=>.bad
mutual
noncomputable def evS(Γ:Gam)(ρ:Rho):S->O
  | .pass=>.next ρ
  | .asg i fresh e=>O.of ρ (evE Γ ρ e) fun d=>if fresh=true then (if ZfB Γ e=true then (match d with
      | .lst xs=>.next (ρ.set i (some (.lst xs,true)))
      | .dic xs=>.next (ρ.set i (some (.dic xs,true)))
      | _=>.bad) else .bad) else .next (ρ.set i (some (d,false)))
  | .asgT ts e=>O.of ρ (evE Γ ρ e) fun d=>O.of ρ (Zgw ts d ρ) fun ρ'=>.next ρ'
  | .expr e=>O.of ρ (evE Γ ρ e) fun _=>.next ρ
  | .ret e=>O.of ρ (top ρ e (evE Γ ρ e)) fun d=>.ret d (ZfB Γ e||(match e with | .var i=>(match ρ[i]? with|some (some (_,o))=>o|_=>false)|_=>false))
  | .retN=>.ret .non false
  | .ife c a b=>O.of ρ ((top ρ c (evE Γ ρ c)).bind ZbS) fun k=>if k=true then evSs Γ ρ a else evSs Γ ρ b
  | .fors t it body=>O.of ρ (ZkO Γ ρ it) fun xs=>ZdH (fun x ρ'=>evSs Γ (ρ'.set t (some (x,false))) body) xs ρ
  | .forT ts it body=>O.of ρ (ZkO Γ ρ it) fun xs=>ZdH (fun x ρ'=>O.of ρ' (ZbB ts x ρ') fun ρ''=>evSs Γ ρ'' body) xs ρ
  | .whl c body=>Zuq (fun ρ'=>(top ρ' c (evE Γ ρ' c)).bind ZbS) (fun ρ'=>evSs Γ ρ' body) ZrY ρ
  | .rais c as=>O.of ρ (noX (evA Γ ρ as)) fun xs=>O.of ρ (Γ.xn c xs) fun x=>.exn x ρ
  | .tryx body c x h=>match evSs Γ ρ body with
      | .exn y ρ'=>if (Γ.up y.c).contains c=true then (match evSs Γ (ρ'.set x (some (.exc y.c y.fs,false))) h with
          | .next ρ''=>.next (ρ''.set x none)
          | .ret d f=>.ret d f
          | _=>.bad) else .bad
      | o=>o
  | .app i e=>O.of ρ (Zef ρ i) fun xs=>O.of ρ (evE Γ ρ e) fun d=>if Zec (xs.length+1)=true then .next (ρ.set i (some (.lst (xs++[d]),true))) else .bad
  | .ext i e=>O.of ρ (Zef ρ i) fun xs=>O.of ρ (evE Γ ρ e) fun d=>O.of ρ (Zpx d) fun ys=>if Zec (xs.length+ys.length)=true then .next (ρ.set i (some (.lst (xs++ys),true))) else .bad
  | .ins i k e=>O.of ρ (Zef ρ i) fun xs=>O.of ρ ((top ρ k (evE Γ ρ k)).bind ZcJ) fun j=>O.of ρ (evE Γ ρ e) fun d=>if (Zec (xs.length+1)&&decide (0<=j)&&decide (j<=xs.length))=true then .next (ρ.set i (some (.lst (xs.take j.toNat++d::xs.drop j.toNat),true))) else .bad
  | .rev i=>O.of ρ (Zef ρ i) fun xs=>.next (ρ.set i (some (.lst xs.reverse,true)))
  | .clr i=>O.of ρ (Zef ρ i) fun _=>.next (ρ.set i (some (.lst [],true)))
  | .dput i k e=>O.of ρ (evE Γ ρ e) fun d=>O.of ρ (Zyu ρ i) fun xs=>O.of ρ ((evE Γ ρ k).bind ZsU) fun j=>if Zec (xs.length+1)=true then .next (ρ.set i (some (.dic (Zmu xs j d),true))) else .bad
  | .dsd i k e=>O.of ρ (Zyu ρ i) fun xs=>O.of ρ ((evE Γ ρ k).bind ZsU) fun j=>O.of ρ (evE Γ ρ e) fun d=>if Zec (xs.length+1)=true then .next (ρ.set i (some (.dic (if (xs.any fun p=>p.1 == j)=true then xs else Zmu xs j d),true))) else .bad
  | .put i k e=>O.of ρ (evE Γ ρ e) fun d=>O.of ρ (Zef ρ i) fun xs=>O.of ρ ((top ρ k (evE Γ ρ k)).bind ZcJ) fun j=>match plD xs.length j with
      | some n=>.next (ρ.set i (some (.lst (xs.set n d),true)))
      | none=>.bad
  | .swp i k l=>O.of ρ (evE Γ ρ (.tup (.cons (.idx (.var i) (.var l)) (.cons (.idx (.var i) (.var k)) .nil)))) fun d=>Zzu ρ d i k l
  | .brk=>.brk ρ
  | .cont=>.cont ρ
  | .rel i=>match ρ[i]? with
      | some (some (d,true))=>.next (ρ.set i (some (d,false)))
      | _=>.next ρ
noncomputable def evSs(Γ:Gam)(ρ:Rho):Ss->O
 | .nil=>.next ρ
 | .cons s ss=>(evS Γ ρ s).seq fun ρ'=>evSs Γ ρ' ss
end
structure Df where
 n:Nat
 fr:Bool
 body:Ss
noncomputable def Zaf(n:Nat)(ds:List D):Rho:=ds.map (fun d=>some (d,false))++List.replicate (n-ds.length) none
noncomputable def isL:D->Bool
 | .lst _=>true
 | .dic _=>true
 | _=>false
noncomputable def O.ans(fr:Bool)(o:O):R D:=match o with
  | .ret d b=>if (fr&&(!b&&isL d))=true then .bad else .ok d
  | .next _=>if fr=true then .bad else .ok .non
  | .exn x _=>.exn x
  | _=>.bad
noncomputable def Df.run(Γ:Gam)(f:Df)(ds:List D):R D:=(evSs Γ (Zaf f.n ds) f.body).ans f.fr
structure Prg where
 xs:Bool
 defs:Nat->Df
 G:Nat->D
 up:Nat->List Nat
 xn:Nat->List D->R Ex
noncomputable def Zdj(xs:Bool)(r:R D):R D:=match xs with
  | true=>(match r with
    | .exn x=>if x.fs.isEmpty=true then .exn x else .bad
    | r=>r)
  | false=>noX r
noncomputable def gam(P:Prg):Nat->Gam
 | 0=>⟨fun _ _=>.bad,P.G,P.up,fun i=>(P.defs i).fr,P.xn⟩
 | n+1=>⟨fun i ds=>Zdj P.xs ((P.defs i).run (gam P n) ds),P.G,P.up,fun i=>(P.defs i).fr,P.xn⟩
end Ov
end
section
namespace Ov
open PySem
section
variable (Γ:Gam) (ρ:Rho)
@[simp] theorem Zxn:evE Γ ρ .non=.ok .non:=rfl
@[simp] theorem Zy1(b):evE Γ ρ (.bl b)=.ok (.bl b):=rfl
@[simp] theorem Zxr(b):evE Γ ρ (.int b)=.ok (.int b):=rfl
@[simp] theorem Zxm(b):evE Γ ρ (.str b)=.ok (.str b):=rfl
@[simp] theorem Zxk(i):evE Γ ρ (.var i)=ZgC ρ i:=rfl
@[simp] theorem Zt9(i):evE Γ ρ (.glob i)=.ok (Γ.G i):=rfl
@[simp] theorem Zxv(op a b):evE Γ ρ (.bin op a b)=(top ρ a (evE Γ ρ a)).bind fun x=>(top ρ b (evE Γ ρ b)).bind fun y=>Zdg op x y:=rfl
@[simp] theorem ZyX(op a):evE Γ ρ (.un op a)=(top ρ a (evE Γ ρ a)).bind fun x=>unD op x:=rfl
@[simp] theorem Zy0(a):evE Γ ρ (.no a)=(top ρ a (evE Γ ρ a)).bind fun x=>(Zd8 x).bind fun b=>.ok (.bl (!b)):=rfl
@[simp] theorem Zxw(es):evE Γ ρ (.and es)=evN Γ ρ es:=rfl
@[simp] theorem ZyZ(es):evE Γ ρ (.or es)=evO Γ ρ es:=rfl
@[simp] theorem Zxg(e):evN Γ ρ (.cons e .nil)=evE Γ ρ e:=rfl
@[simp] theorem Zt2(e e' es):evN Γ ρ (.cons e (.cons e' es))=(evE Γ ρ e).bind fun x=>(Zd8 x).bind fun c=>if c=true then evN Γ ρ (.cons e' es) else .ok (.bl false):=rfl
@[simp] theorem Zxf(e):evO Γ ρ (.cons e .nil)=evE Γ ρ e:=rfl
@[simp] theorem Zt1(e e' es):evO Γ ρ (.cons e (.cons e' es))=(evE Γ ρ e).bind fun x=>(Zd8 x).bind fun c=>if c=true then .ok (.bl true) else evO Γ ρ (.cons e' es):=rfl
@[simp] theorem Zxu(op a b):evE Γ ρ (.cmp op a b)=(top ρ a (evE Γ ρ a)).bind fun x=>(top ρ b (evE Γ ρ b)).bind fun y=>Zbt op x y:=rfl
@[simp] theorem Zuc(op op' a b c):evE Γ ρ (.cmp2 op op' a b c)=(top ρ a (evE Γ ρ a)).bind fun x=>(top ρ b (evE Γ ρ b)).bind fun y=>(Zbt op x y).bind fun z=>(Zd8 z).bind fun k=>if k=true then (top ρ c (evE Γ ρ c)).bind fun u=>Zbt op' y u else .ok (.bl false):=rfl
@[simp] theorem Zxp(c a b):evE Γ ρ (.ite c a b)=(top ρ c (evE Γ ρ c)).bind fun x=>(ZbS x).bind fun k=>if k=true then evE Γ ρ a else evE Γ ρ b:=rfl
@[simp] theorem Zud(f as):evE Γ ρ (.call f as)=(evB Γ ρ as).bind fun xs=>(Γ.F f xs).bind fun d=>if Zk3 ρ as=true then .ok d else if ZlJ (Γ.fr f) d=true then .ok d else .bad:=rfl
@[simp] theorem Zy2(f as):evE Γ ρ (.bi f as)=(evB Γ ρ as).bind fun xs=>biD f xs:=rfl
@[simp] theorem Zxq(a ks):evE Γ ρ (.isi a ks)=(top ρ a (evE Γ ρ a)).bind fun x=>Ze1 Γ.up ks x:=rfl
@[simp] theorem Zxs(a i):evE Γ ρ (.idx a i)=(top ρ a (evE Γ ρ a)).bind fun x=>(top ρ i (evE Γ ρ i)).bind fun y=>Zbc x y:=rfl
@[simp] theorem ZyY(a lo hi):evE Γ ρ (.sl a lo hi)=(top ρ a (evE Γ ρ a)).bind fun x=>(top ρ lo (evE Γ ρ lo)).bind fun l=>(slE lo l).bind fun l'=>(top ρ hi (evE Γ ρ hi)).bind fun h=>(slE hi h).bind fun h'=>slD x l' h':=rfl
@[simp] theorem Zxl(es):evE Γ ρ (.tup es)=(evA Γ ρ es).bind fun xs=>.ok (.tup xs):=rfl
@[simp] theorem Zxo(es):evE Γ ρ (.lst es)=(evA Γ ρ es).bind fun xs=>.ok (.lst xs):=rfl
noncomputable def cG(Γ:Gam)(ρ:Rho)(t:Nat)(c:E):D->R Bool:=fun x=>(top (ρ.set t (some (x,false))) c (evE Γ (ρ.set t (some (x,false))) c)).bind ZbS
noncomputable def cF(Γ:Gam)(ρ:Rho)(t:Nat)(elt:E):D->R D:=fun x=>evE Γ (ρ.set t (some (x,false))) elt
noncomputable def mkL(r:R (List D)):R D:=(noX r).bind fun ys=>.ok (.lst ys)
@[simp] theorem Zyy(ys):mkL (.ok ys)=.ok (.lst ys):=rfl
@[simp] theorem Zub(elt t it c):evE Γ ρ (.comp elt t it c)=(evI Γ ρ it).bind fun xs=>mkL (Zal (cG Γ ρ t c) (cF Γ ρ t elt) xs):=rfl
noncomputable def cGT(Γ:Gam)(ρ:Rho)(ts:List Nat)(c:E):D->R Bool:=fun x=>(ZbB ts x ρ).bind fun ρ'=>(top ρ' c (evE Γ ρ' c)).bind ZbS
noncomputable def cFT(Γ:Gam)(ρ:Rho)(ts:List Nat)(elt:E):D->R D:=fun x=>(ZbB ts x ρ).bind fun ρ'=>evE Γ ρ' elt
@[simp] theorem Zsd(elt ts it c):evE Γ ρ (.compT elt ts it c)=(evI Γ ρ it).bind fun xs=>mkL (Zal (cGT Γ ρ ts c) (cFT Γ ρ ts elt) xs):=rfl
@[simp] theorem Zt8(it):evE Γ ρ (.tupI it)=(evI Γ ρ it).bind fun xs=>.ok (.tup xs):=rfl
@[simp] theorem Zua:evE Γ ρ .dnew=.ok (.dic []):=rfl
@[simp] theorem Zxt(o f):evE Γ ρ (.fld o f)=(top ρ o (evE Γ ρ o)).bind fun x=>ZyU x f:=rfl
@[simp] theorem Zxy:evA Γ ρ .nil=.ok []:=rfl
@[simp] theorem ZhX(e es):evA Γ ρ (.cons e es)=(evE Γ ρ e).bind fun x=>(evA Γ ρ es).bind fun xs=>.ok (x::xs):=rfl
@[simp] theorem Zxx:evB Γ ρ .nil=.ok []:=rfl
@[simp] theorem ZhW(e es):evB Γ ρ (.cons e es)=(top ρ e (evE Γ ρ e)).bind fun x=>(evB Γ ρ es).bind fun xs=>.ok (x::xs):=rfl
@[simp] theorem ZzS(a):evI Γ ρ (.e a)=(evE Γ ρ a).bind ZaF:=rfl
@[simp] theorem Zxi(a):evI Γ ρ (.rng a)=(top ρ a (evE Γ ρ a)).bind fun x=>(ZcJ x).bind fun j=>ZaB 0 j:=rfl
@[simp] theorem Zt7(a b):evI Γ ρ (.rng2 a b)=(top ρ a (evE Γ ρ a)).bind fun x=>(top ρ b (evE Γ ρ b)).bind fun y=>(ZcJ x).bind fun i=>(ZcJ y).bind fun j=>ZaB i j:=rfl
@[simp] theorem Zxh(a b):evI Γ ρ (.zip a b)=(evE Γ ρ a).bind fun x=>(evE Γ ρ b).bind fun y=>(ZaF x).bind fun xs=>(ZaF y).bind fun ys=>.ok (ZfT xs ys):=rfl
@[simp] theorem Zt6(a b c):evI Γ ρ (.zip3 a b c)=(evE Γ ρ a).bind fun x=>(evE Γ ρ b).bind fun y=>(evE Γ ρ c).bind fun z=>Zid x y z:=rfl
@[simp] theorem Zxj(a):evI Γ ρ (.enm a)=(evE Γ ρ a).bind fun x=>(ZaF x).bind fun xs=>.ok (Ziy 0 xs):=rfl
@[simp] theorem Zt3(a b):ZkO Γ ρ (.zip a b)=evI Γ ρ (.zip a b):=rfl
@[simp] theorem Zsb(a b c):ZkO Γ ρ (.zip3 a b c)=evI Γ ρ (.zip3 a b c):=rfl
@[simp] theorem Zt5(a):ZkO Γ ρ (.enm a)=evI Γ ρ (.enm a):=rfl
@[simp] theorem ZyW(a):ZkO Γ ρ (.e a)=(evE Γ ρ a).bind ZaF:=rfl
@[simp] theorem Zt4(a):ZkO Γ ρ (.rng a)=evI Γ ρ (.rng a):=rfl
@[simp] theorem Zsc(a b):ZkO Γ ρ (.rng2 a b)=evI Γ ρ (.rng2 a b):=rfl
variable (r:R D)
@[simp] theorem Zuw(i):top ρ (.var i) r=ZgF ρ i:=rfl
@[simp] theorem Zuz:top ρ .non r=r:=rfl
@[simp] theorem Zyc(b):top ρ (.bl b) r=r:=rfl
@[simp] theorem ZuD(b):top ρ (.int b) r=r:=rfl
@[simp] theorem Zuy(b):top ρ (.str b) r=r:=rfl
@[simp] theorem Ztm(b):top ρ (.glob b) r=r:=rfl
@[simp] theorem ZuH(op a b):top ρ (.bin op a b) r=r:=rfl
@[simp] theorem Zx8(op a):top ρ (.un op a) r=r:=rfl
@[simp] theorem Zyb(a):top ρ (.no a) r=r:=rfl
@[simp] theorem ZuI(a):top ρ (.and a) r=r:=rfl
@[simp] theorem Zya(a):top ρ (.or a) r=r:=rfl
@[simp] theorem ZuG(op a b):top ρ (.cmp op a b) r=r:=rfl
@[simp] theorem Ztp(op op' a b c):top ρ (.cmp2 op op' a b c) r=r:=rfl
@[simp] theorem ZuB(a b c):top ρ (.ite a b c) r=r:=rfl
@[simp] theorem Ztq(a b):top ρ (.call a b) r=r:=rfl
@[simp] theorem Zyd(a b):top ρ (.bi a b) r=r:=rfl
@[simp] theorem ZuC(a b):top ρ (.isi a b) r=r:=rfl
@[simp] theorem ZuE(a b):top ρ (.idx a b) r=r:=rfl
@[simp] theorem Zx9(a b c):top ρ (.sl a b c) r=r:=rfl
@[simp] theorem Zux(a):top ρ (.tup a) r=r:=rfl
@[simp] theorem ZuA(a):top ρ (.lst a) r=r:=rfl
@[simp] theorem Zto(a b c d):top ρ (.comp a b c d) r=r:=rfl
@[simp] theorem ZuF(a b):top ρ (.fld a b) r=r:=rfl
@[simp] theorem Zp6(a b c d):top ρ (.compT a b c d) r=r:=rfl
@[simp] theorem Ztl(a):top ρ (.tupI a) r=r:=rfl
@[simp] theorem Ztn:top ρ .dnew r=r:=rfl
end
@[simp] theorem ZpV(x:D×Bool)(ρ:Rho):ZgF (some x::ρ) 0=.ok x.1:=rfl
@[simp] theorem ZpW(x:D)(ρ:Rho):ZgC (some (x,false)::ρ) 0=.ok x:=rfl
@[simp] theorem ZpF(x:Sl)(ρ:Rho)(i:Nat)[NeZero i]:ZgF (x::ρ) i=ZgF ρ (i-1):=by
 obtain⟨j,rfl⟩:∃ j,i=j+1:=⟨i-1,by have:=NeZero.ne i;omega⟩
 rfl
@[simp] theorem ZpG(x:Sl)(ρ:Rho)(i:Nat)[NeZero i]:ZgC (x::ρ) i=ZgC ρ (i-1):=by
 obtain⟨j,rfl⟩:∃ j,i=j+1:=⟨i-1,by have:=NeZero.ne i;omega⟩
 rfl
noncomputable def shV(ρ:Rho)(i:Nat):Bool:=match ρ[i]? with
    | some (some (_,true))=>false
    | _=>true
@[simp] theorem Ztt(x:D)(b:Bool)(ρ:Rho):shV (some (x,b)::ρ) 0=!b:=by cases b<;>rfl
@[simp] theorem Zqp(ρ:Rho):shV (none::ρ) 0=true:=rfl
@[simp] theorem Zqq(x:Sl)(ρ:Rho)(i:Nat)[NeZero i]:shV (x::ρ) i=shV ρ (i-1):=by
 obtain⟨j,rfl⟩:∃ j,i=j+1:=⟨i-1,by have:=NeZero.ne i;omega⟩
 rfl
section
variable (ρ:Rho)
@[simp] theorem Zu6(i):shE ρ (.var i)=shV ρ i:=rfl
@[simp] theorem Zu9:shE ρ .non=true:=rfl
@[simp] theorem Zym(b):shE ρ (.bl b)=true:=rfl
@[simp] theorem Zvd(b):shE ρ (.int b)=true:=rfl
@[simp] theorem Zu8(b):shE ρ (.str b)=true:=rfl
@[simp] theorem Ztw(b):shE ρ (.glob b)=true:=rfl
@[simp] theorem Zvh(op a b):shE ρ (.bin op a b)=true:=rfl
@[simp] theorem Zyi(op a):shE ρ (.un op a)=true:=rfl
@[simp] theorem Zyl(a):shE ρ (.no a)=true:=rfl
@[simp] theorem Zvi(a):shE ρ (.and a)=true:=rfl
@[simp] theorem Zyk(a):shE ρ (.or a)=true:=rfl
@[simp] theorem Zvg(op a b):shE ρ (.cmp op a b)=true:=rfl
@[simp] theorem Ztz(op op' a b c):shE ρ (.cmp2 op op' a b c)=true:=rfl
@[simp] theorem Zvb(a b c):shE ρ (.ite a b c)=true:=rfl
@[simp] theorem ZtA(a b):shE ρ (.call a b)=true:=rfl
@[simp] theorem Zyn(a b):shE ρ (.bi a b)=true:=rfl
@[simp] theorem Zvc(a b):shE ρ (.isi a b)=true:=rfl
@[simp] theorem Zve(a b):shE ρ (.idx a b)=true:=rfl
@[simp] theorem Zyj(a b c):shE ρ (.sl a b c)=true:=rfl
@[simp] theorem Zu7(a):shE ρ (.tup a)=true:=rfl
@[simp] theorem Zva(a):shE ρ (.lst a)=true:=rfl
@[simp] theorem Zty(a b c d):shE ρ (.comp a b c d)=true:=rfl
@[simp] theorem Zqr(a b c d):shE ρ (.compT a b c d)=true:=rfl
@[simp] theorem Ztv(a):shE ρ (.tupI a)=true:=rfl
@[simp] theorem Ztx:shE ρ .dnew=true:=rfl
@[simp] theorem Zvf(a b):shE ρ (.fld a b)=true:=rfl
@[simp] theorem Ztu:Zk3 ρ .nil=true:=rfl
@[simp] theorem Zi7(e es):Zk3 ρ (.cons e es)=(shE ρ e&&Zk3 ρ es):=rfl
end
@[simp] theorem ZpI(ρ:Rho):Za5 [] [] ρ=some ρ:=rfl
@[simp] theorem Znj(t ts d ds)(ρ:Rho):Za5 (t::ts) (d::ds) ρ=Za5 ts ds (ρ.set t (some (d,false))):=rfl
@[simp] theorem Zkw(ts ds)(ρ:Rho):Zgw ts (.lst ds) ρ=match Za5 ts ds ρ with
  | some ρ'=>.ok ρ'
  | none=>.bad:=rfl
@[simp] theorem ZsQ(ts ds)(ρ:Rho):Zgw ts (.tup ds) ρ=ZbB ts (.tup ds) ρ:=rfl
@[simp] theorem Zfl(ts ds)(ρ:Rho):ZbB ts (.tup ds) ρ=match Za5 ts ds ρ with
  | some ρ'=>.ok ρ'
  | none=>.bad:=rfl
@[simp] theorem Zul{α β:Type}(c:Prop)[Decidable c](a b:R α)(f:α->R β):(if c then a else b).bind f=if c then a.bind f else b.bind f:=by split<;>rfl
@[simp] theorem Zyw{α:Type}(ρ:Rho)(c:Prop)[Decidable c](a b:R α)(f:α->O):O.of ρ (if c then a else b) f=if c then O.of ρ a f else O.of ρ b f:=by split<;>rfl
@[simp] theorem Zws{α β:Type}(ρ:Rho)(a:R α)(g:α->R β)(f:β->O):O.of ρ (a.bind g) f=O.of ρ a fun x=>O.of ρ (g x) f:=by cases a<;>rfl
@[simp] theorem Zvk(c:Prop)[Decidable c](a b:O)(f:Rho->O):O.seq (if c then a else b) f=if c then a.seq f else b.seq f:=by split<;>rfl
@[simp] theorem Ztb(c:Prop)[Decidable c](a b:O)(f:Rho->O):O.turn (if c then a else b) f=if c then a.turn f else b.turn f:=by split<;>rfl
@[simp] theorem ZxW(fr:Bool)(c:Prop)[Decidable c](a b:O):O.ans fr (if c then a else b)=if c then a.ans fr else b.ans fr:=by split<;>rfl
@[simp] theorem ZtB(ρ f):O.seq (.next ρ) f=f ρ:=rfl
@[simp] theorem Zvj(d b f):O.seq (.ret d b) f=.ret d b:=rfl
@[simp] theorem Zvm(ρ f):O.seq (.brk ρ) f=.brk ρ:=rfl
@[simp] theorem ZtC(ρ f):O.seq (.cont ρ) f=.cont ρ:=rfl
@[simp] theorem Zvl(x ρ f):O.seq (.exn x ρ) f=.exn x ρ:=rfl
@[simp] theorem Zvn(f):O.seq .bad f=.bad:=rfl
@[simp] theorem Zp1(ρ f):O.turn (.next ρ) f=f ρ:=rfl
@[simp] theorem Zta(d b f):O.turn (.ret d b) f=.ret d b:=rfl
@[simp] theorem Ztd(ρ f):O.turn (.brk ρ) f=.next ρ:=rfl
@[simp] theorem Zp2(ρ f):O.turn (.cont ρ) f=f ρ:=rfl
@[simp] theorem Ztc(x ρ f):O.turn (.exn x ρ) f=.exn x ρ:=rfl
@[simp] theorem Zte(f):O.turn .bad f=.bad:=rfl
@[simp] theorem Zun(ρ):O.ans false (.next ρ)=.ok .non:=rfl
@[simp] theorem ZxV(d b):O.ans false (.ret d b)=.ok d:=rfl
@[simp] theorem Zum(d b):O.ans true (.ret d b)=if (!b&&isL d)=true then .bad else .ok d:=rfl
@[simp] theorem ZwQ(d):isL (.lst d)=true:=rfl
@[simp] theorem ZwP(d):isL (.tup d)=false:=rfl
@[simp] theorem ZwR(d):isL (.int d)=false:=rfl
@[simp] theorem ZxX(fr x ρ):O.ans fr (.exn x ρ)=.exn x:=rfl
@[simp] theorem ZxY(fr):O.ans fr .bad=.bad:=rfl
@[simp] theorem Zza(i j:Int):Zdg .Add (.int i) (.int j)=.ok (.int (i+j)):=rfl
@[simp] theorem Zyf(i j:Int):Zdg .Sub (.int i) (.int j)=.ok (.int (i-j)):=rfl
@[simp] theorem Zry(i j:Int):Zdg .Mult (.int i) (.int j)=if (Zba i j||Zct i j)=true then .ok (.int (i*j)) else .bad:=rfl
@[simp] theorem ZoJ(i j:Int):Zdg .FloorDiv (.int i) (.int j)=if 0<j/\j<1073741824 then .ok (.int (i / j)) else .bad:=rfl
@[simp] theorem Zrz(i j:Int):Zdg .Mod (.int i) (.int j)=if 0<j then .ok (.int (i%j)) else .bad:=rfl
@[simp] theorem Zq5(i j:Int):Zdg .Pow (.int i) (.int j)=if (0<=j/\j<=1000000)/\(-(18446744073709551616:Int)<i/\i<18446744073709551616) then .ok (.int (i ^ j.toNat)) else .bad:=rfl
@[simp] theorem Zs3(x y:Str):Zdg .Add (.str x) (.str y)=if Zec (x.length+y.length)=true then .ok (.str (x++y)) else .bad:=rfl
@[simp] theorem ZmG(x y:List D):Zdg .Add (.lst x) (.lst y)=if Zec (x.length+y.length)=true then .ok (.lst (x++y)) else .bad:=rfl
@[simp] theorem Zs2(x y:List D):Zdg .Add (.tup x) (.tup y)=if (!x.isEmpty&&Zec (x.length+y.length))=true then .ok (.tup (x++y)) else .bad:=rfl
@[simp] theorem ZzB(i:Int):unD .USub (.int i)=.ok (.int (-i)):=rfl
@[simp] theorem Zxz(x y:D):Zbt .Eq x y=if (flD 5 x&&flD 5 y)=true then .ok (.bl (eqD x y)) else .bad:=rfl
@[simp] theorem Zwz(x y:D):Zbt .NotEq x y=if (flD 5 x&&flD 5 y)=true then .ok (.bl (!eqD x y)) else .bad:=rfl
@[simp] theorem ZzC(i j:Int):Zbt .Lt (.int i) (.int j)=.ok (.bl (decide (i<j))):=rfl
@[simp] theorem ZzF(i j:Int):Zbt .LtE (.int i) (.int j)=.ok (.bl (decide (i<=j))):=rfl
@[simp] theorem ZzP(i j:Int):Zbt .Gt (.int i) (.int j)=.ok (.bl (decide (j<i))):=rfl
@[simp] theorem ZzQ(i j:Int):Zbt .GtE (.int i) (.int j)=.ok (.bl (decide (j<=i))):=rfl
@[simp] theorem ZzM(x:D)(ys:List D):Zbt .In x (.lst ys)=if (flD 5 x&&ys.all (flD 5))=true then .ok (.bl (ys.any fun y=>eqD y x)) else .bad:=rfl
@[simp] theorem ZzL(x:D)(ys:List D):Zbt .In x (.tup ys)=if (flD 5 x&&ys.all (flD 5))=true then .ok (.bl (ys.any fun y=>eqD y x)) else .bad:=rfl
@[simp] theorem Zwx(x:D)(ys:List D):Zbt .NotIn x (.lst ys)=if (flD 5 x&&ys.all (flD 5))=true then .ok (.bl (!ys.any fun y=>eqD y x)) else .bad:=rfl
@[simp] theorem Zww(x:D)(ys:List D):Zbt .NotIn x (.tup ys)=if (flD 5 x&&ys.all (flD 5))=true then .ok (.bl (!ys.any fun y=>eqD y x)) else .bad:=rfl
@[simp] theorem ZyI:Zbt .Is .non .non=.ok (.bl true):=rfl
@[simp] theorem ZyK(i):Zbt .Is (.int i) .non=.ok (.bl false):=rfl
@[simp] theorem ZyH(i):Zbt .Is (.tup i) .non=.ok (.bl false):=rfl
@[simp] theorem ZyJ(i):Zbt .Is (.lst i) .non=.ok (.bl false):=rfl
@[simp] theorem ZzI(a b):Zbt .Is (.bl a) (.bl b)=.ok (.bl (a == b)):=rfl
@[simp] theorem ZyF(a b):Zbt .IsNot (.bl a) (.bl b)=.ok (.bl (!(a == b))):=rfl
@[simp] theorem ZwG:Zbt .IsNot .non .non=.ok (.bl false):=rfl
@[simp] theorem ZwI(i):Zbt .IsNot (.int i) .non=.ok (.bl true):=rfl
@[simp] theorem ZwF(i):Zbt .IsNot (.tup i) .non=.ok (.bl true):=rfl
@[simp] theorem ZwH(i):Zbt .IsNot (.lst i) .non=.ok (.bl true):=rfl
@[simp] theorem ZxE(i j:Int):eqD (.int i) (.int j)=(i == j):=rfl
@[simp] theorem Zy3(i j:Bool):eqD (.bl i) (.bl j)=(i == j):=rfl
@[simp] theorem ZxB(i j:Str):eqD (.str i) (.str j)=(i == j):=rfl
@[simp] theorem ZxA(i j:List D):eqD (.tup i) (.tup j)=eqDs i j:=rfl
@[simp] theorem ZxD(i j:List D):eqD (.lst i) (.lst j)=eqDs i j:=rfl
@[simp] theorem ZxC:eqD .non .non=true:=rfl
@[simp] theorem ZoL(i):eqD .non (.int i)=false:=rfl
@[simp] theorem ZoM(i):eqD (.int i) .non=false:=rfl
@[simp] theorem Zue:eqDs [] []=true:=rfl
@[simp] theorem ZeA(x y:D)(xs ys:List D):eqDs (x::xs) (y::ys)=(eqD x y&&eqDs xs ys):=rfl
@[simp] theorem Zw5(n)(i:Int):flD n (.int i)=true:=by cases n<;>rfl
@[simp] theorem ZyV(n)(i:Bool):flD n (.bl i)=true:=by cases n<;>rfl
@[simp] theorem Zw3(n)(i:Str):flD n (.str i)=true:=by cases n<;>rfl
@[simp] theorem Zw4(n):flD n .non=true:=by cases n<;>rfl
@[simp] theorem ZtH(i):flD 5 (.tup i)=i.all (flD 4):=rfl
@[simp] theorem ZtM(i):flD 5 (.lst i)=i.all (flD 4):=rfl
@[simp] theorem ZtI(i):flD 4 (.tup i)=i.all (flD 3):=rfl
@[simp] theorem ZtN(i):flD 4 (.lst i)=i.all (flD 3):=rfl
@[simp] theorem ZtJ(i):flD 3 (.tup i)=i.all (flD 2):=rfl
@[simp] theorem ZtO(i):flD 3 (.lst i)=i.all (flD 2):=rfl
@[simp] theorem ZtK(i):flD 2 (.tup i)=i.all (flD 1):=rfl
@[simp] theorem ZtP(i):flD 2 (.lst i)=i.all (flD 1):=rfl
@[simp] theorem ZtL(i):flD 1 (.tup i)=i.all (flD 0):=rfl
@[simp] theorem ZtQ(i):flD 1 (.lst i)=i.all (flD 0):=rfl
@[simp] theorem Zuu(b):ZbS (.bl b)=.ok b:=rfl
@[simp] theorem Zti(i):ZbS (.int i)=.ok (i != 0):=rfl
@[simp] theorem Zth(i):ZbS (.lst i)=.ok (!i.isEmpty):=rfl
@[simp] theorem Ztf(i):ZbS (.tup i)=.ok (!i.isEmpty):=rfl
@[simp] theorem Ztg:ZbS .non=.ok false:=rfl
@[simp] theorem Zuv(b):Zej (.bl b)=.ok b:=rfl
@[simp] theorem Ztk(i):Zej (.int i)=.ok (i != 0):=rfl
@[simp] theorem Ztj:Zej .non=.ok false:=rfl
@[simp] theorem Zs1:Zd1 []=.ok true:=rfl
@[simp] theorem Zd0(x r):Zd1 (x::r)=(Zej x).bind fun b=>(Zd1 r).bind fun c=>.ok (b&&c):=rfl
@[simp] theorem Zs0:Zdc []=.ok false:=rfl
@[simp] theorem Zfn(x r):Zdc (x::r)=(Zej x).bind fun b=>(Zdc r).bind fun c=>.ok (b||c):=rfl
@[simp] theorem ZxN(b)(d):Zdj b (.ok d)=.ok d:=by cases b<;>rfl
@[simp] theorem Zug(b):Zdj b .bad=.bad:=by cases b<;>rfl
@[simp] theorem Zuf(c):Zdj true (.exn ⟨c,[]⟩)=.exn ⟨c,[]⟩:=rfl
@[simp] theorem ZpQ(r):Zdj false r=noX r:=rfl
@[simp] theorem Zwt{α:Type}(a:α):noX (.ok a)=.ok a:=rfl
@[simp] theorem Zwv{α:Type}:noX (.bad:R α)=.bad:=rfl
@[simp] theorem Zwu{α:Type}(x):noX (.exn x:R α)=.bad:=rfl
@[simp] theorem ZxU(b):Zd8 (.bl b)=.ok b:=rfl
@[simp] theorem Zkx(b):ZcJ (.int b)=.ok b:=rfl
@[simp] theorem ZsT(b):Zpx (.lst b)=.ok b:=rfl
@[simp] theorem ZsS(b):ZaF (.lst b)=.ok b:=rfl
@[simp] theorem ZsR(b):ZaF (.tup b)=.ok b:=rfl
@[simp] theorem ZwU(xs i):Zbc (.lst xs) (.int i)=Zdf xs i:=rfl
@[simp] theorem ZwT(xs i):Zbc (.tup xs) (.int i)=Zdf xs i:=rfl
@[simp] theorem ZzE(xs):biD .len [.lst xs]=.ok (.int xs.length):=rfl
@[simp] theorem ZzD(xs):biD .len [.tup xs]=.ok (.int xs.length):=rfl
@[simp] theorem ZzY(i):biD .abs [.int i]=.ok (.int (if i<0 then -i else i)):=rfl
@[simp] theorem ZyA(i j):biD .max [.int i,.int j]=.ok (.int (if i<j then j else i)):=rfl
@[simp] theorem Zyz(i j):biD .min [.int i,.int j]=.ok (.int (if j<i then j else i)):=rfl
@[simp] theorem ZzJ(i):biD .int [.int i]=.ok (.int i):=rfl
@[simp] theorem ZzK(i):biD .int [.bl i]=.ok (.int (b2i i)):=rfl
@[simp] theorem ZyD(i):biD .list [.lst i]=.ok (.lst i):=rfl
@[simp] theorem ZyC(i):biD .list [.tup i]=.ok (.lst i):=rfl
@[simp] theorem Zut(i):biD .tuple [.lst i]=.ok (.tup i):=rfl
@[simp] theorem Zus(i):biD .tuple [.tup i]=.ok (.tup i):=rfl
@[simp] theorem ZxZ(i):biD .all [.lst i]=(Zd1 i).bind fun b=>.ok (.bl b):=rfl
@[simp] theorem ZzX(i):biD .any [.lst i]=(Zdc i).bind fun b=>.ok (.bl b):=rfl
@[simp] theorem ZzW(i):biD .any [.tup i]=(Zdc i).bind fun b=>.ok (.bl b):=rfl
@[simp] theorem Zzw(i):biD .sum [.lst i]=(Zhr 0 i).bind fun b=>.ok (.int b):=rfl
@[simp] theorem Zzv(i):biD .sum [.tup i]=(Zhr 0 i).bind fun b=>.ok (.int b):=rfl
@[simp] theorem Zts(i):biD .sorted [.lst i]=(Zi5 i).bind fun b=>.ok (.lst b):=rfl
@[simp] theorem ZxO(xs x):biD .count [.lst xs,x]=if (flD 5 x&&xs.all (flD 5))=true then .ok (.int ((xs.filter fun y=>eqD y x).length:Nat)) else .bad:=rfl
@[simp] theorem Zzx(xs lo hi):slD (.tup xs) lo hi=if (Zhz xs.length 0 lo == 0&&Zhz xs.length xs.length hi == xs.length)=true then .bad else .ok (.tup (Zmy xs lo hi)):=rfl
@[simp] theorem Zz5(xs lo hi):slD (.lst xs) lo hi=.ok (.lst (Zmy xs lo hi)):=rfl
@[simp] theorem Zu3(d):slE .non d=.ok none:=rfl
@[simp] theorem Zu4(k i):slE (.int k) (.int i)=.ok (some i):=rfl
@[simp] theorem Zu2(k i):slE (.var k) (.int i)=.ok (some i):=rfl
@[simp] theorem Zu5(op a b i):slE (.bin op a b) (.int i)=.ok (some i):=rfl
@[simp] theorem Zyg(op a i):slE (.un op a) (.int i)=.ok (some i):=rfl
@[simp] theorem Zyh(b as i):slE (.bi b as) (.int i)=.ok (some i):=rfl
@[simp] theorem ZwL(up ks):Ze1 up ks .non=if ks.any ZeD=true then .bad else .ok (.bl (ks.any fun k=>kiD up k .non)):=rfl
@[simp] theorem ZyG(up ks b):Ze1 up ks (.bl b)=if ks.any ZeD=true then .bad else .ok (.bl (ks.any fun k=>kiD up k (.bl b))):=rfl
@[simp] theorem ZwN(up ks b):Ze1 up ks (.int b)=if ks.any ZeD=true then .bad else .ok (.bl (ks.any fun k=>kiD up k (.int b))):=rfl
@[simp] theorem ZwK(up ks b):Ze1 up ks (.str b)=if ks.any ZeD=true then .bad else .ok (.bl (ks.any fun k=>kiD up k (.str b))):=rfl
@[simp] theorem ZwJ(up ks b):Ze1 up ks (.tup b)=if ks.any ZeD=true then .bad else .ok (.bl (ks.any fun k=>kiD up k (.tup b))):=rfl
@[simp] theorem ZwM(up ks b):Ze1 up ks (.lst b)=if ks.any ZeD=true then .bad else .ok (.bl (ks.any fun k=>kiD up k (.lst b))):=rfl
@[simp] theorem ZwO(up ks c f):Ze1 up ks (.exc c f)=if ks.all ZeD=true then .ok (.bl (ks.any fun k=>kiD up k (.exc c f))) else .bad:=rfl
@[simp] theorem Zuk(c):ZeD (.cls c)=true:=rfl
@[simp] theorem Zsn:ZeD .verr=true:=rfl
@[simp] theorem Zuj:ZeD .int=false:=rfl
@[simp] theorem Zsp:ZeD .bool=false:=rfl
@[simp] theorem Zui:ZeD .str=false:=rfl
@[simp] theorem Zso:ZeD .list=false:=rfl
@[simp] theorem ZpR:ZeD .tuple=false:=rfl
@[simp] theorem ZpL(up i):kiD up .int (.int i)=true:=rfl
@[simp] theorem ZpK(up):kiD up .int .non=false:=rfl
@[simp] theorem Zow(up i):kiD up .bool (.int i)=false:=rfl
@[simp] theorem ZpJ(up i):kiD up .int (.tup i)=false:=rfl
@[simp] theorem ZpN(up i):kiD up .bool (.bl i)=true:=rfl
@[simp] theorem Zov(up):kiD up .bool .non=false:=rfl
@[simp] theorem Zou(up i):kiD up .list (.lst i)=true:=rfl
@[simp] theorem Zmi(up i):kiD up .tuple (.tup i)=true:=rfl
@[simp] theorem Zmj(up):kiD up .tuple .non=false:=rfl
@[simp] theorem ZpM(up c k f):kiD up (.cls c) (.exc k f)=(up k).contains c:=rfl
@[simp] theorem Zot(up k f):kiD up .verr (.exc k f)=true:=rfl
theorem ZfI{xs:List D}{i:Int}{d:D}(h0:0<=i)(h:xs[i.toNat]?=some d):Zdf xs i=.ok d:=by
 unfold Zdf plD
 obtain⟨h1,_⟩:=List.getElem?_eq_some_iff.mp h
 rw[if_pos h0,if_pos (by omega)]
 dsimp only
 rw[h]
section
variable (Γ:Gam) (ρ:Rho)
@[simp] theorem ZtR:evSs Γ ρ .nil=.next ρ:=rfl
noncomputable def ZgD(Γ:Gam)(ss:Ss)(o:O):O:=o.seq fun ρ'=>evSs Γ ρ' ss
@[simp] theorem Zr9(s ss):evSs Γ ρ (.cons s ss)=ZgD Γ ss (evS Γ ρ s):=rfl
@[simp] theorem Zw0(ss):ZgD Γ ss (.next ρ)=evSs Γ ρ ss:=rfl
@[simp] theorem ZyN(ss d b):ZgD Γ ss (.ret d b)=.ret d b:=rfl
@[simp] theorem ZyR(ss):ZgD Γ ss (.brk ρ)=.brk ρ:=rfl
@[simp] theorem Zw1(ss):ZgD Γ ss (.cont ρ)=.cont ρ:=rfl
@[simp] theorem ZyQ(ss x):ZgD Γ ss (.exn x ρ)=.exn x ρ:=rfl
@[simp] theorem ZyS(ss):ZgD Γ ss .bad=.bad:=rfl
@[simp] theorem ZyP(ss)(c:Prop)[Decidable c](a b:O):ZgD Γ ss (if c then a else b)=if c then ZgD Γ ss a else ZgD Γ ss b:=by split<;>rfl
@[simp] theorem ZyO(o:O):ZgD Γ .nil o=o:=by cases o<;>rfl
noncomputable def ZcI(Γ:Gam)(t:Nat)(body:Ss):D->Rho->O:=fun x ρ'=>evSs Γ (ρ'.set t (some (x,false))) body
noncomputable def whC(Γ:Gam)(c:E):Rho->R Bool:=fun ρ'=>(top ρ' c (evE Γ ρ' c)).bind ZbS
noncomputable def whB(Γ:Gam)(body:Ss):Rho->O:=fun ρ'=>evSs Γ ρ' body
noncomputable def ZyT(Γ:Gam)(t:Nat)(body:Ss)(ρ:Rho)(r:R (List D)):O:=O.of ρ r fun xs=>ZdH (ZcI Γ t body) xs ρ
@[simp] theorem Zw2(t body xs):ZyT Γ t body ρ (.ok xs)=ZdH (ZcI Γ t body) xs ρ:=rfl
@[simp] theorem ZtV:evS Γ ρ .pass=.next ρ:=rfl
@[simp] theorem Zxe(i e):evS Γ ρ (.asg i false e)=O.of ρ (evE Γ ρ e) fun d=>.next (ρ.set i (some (d,false))):=rfl
@[simp] theorem ZtY(e):evS Γ ρ (.expr e)=O.of ρ (evE Γ ρ e) fun _=>.next ρ:=rfl
@[simp] theorem Zw9(e):evS Γ ρ (.ret e)=O.of ρ (top ρ e (evE Γ ρ e)) fun d=>.ret d (ZfB Γ e||(match e with | .var i=>(match ρ[i]? with|some (some (_,o))=>o|_=>false)|_=>false)):=rfl
@[simp] theorem ZtT:evS Γ ρ .retN=.ret .non false:=rfl
@[simp] theorem Zxa(c a b):evS Γ ρ (.ife c a b)=O.of ρ ((top ρ c (evE Γ ρ c)).bind ZbS) fun k=>if k=true then evSs Γ ρ a else evSs Γ ρ b:=rfl
@[simp] theorem ZtW(t it body):evS Γ ρ (.fors t it body)=ZyT Γ t body ρ (ZkO Γ ρ it):=rfl
noncomputable def Zj5(Γ:Gam)(ts:List Nat)(body:Ss):D->Rho->O:=fun x ρ'=>O.of ρ' (ZbB ts x ρ') fun ρ''=>evSs Γ ρ'' body
noncomputable def Zr3(Γ:Gam)(ts:List Nat)(body:Ss)(ρ:Rho)(r:R (List D)):O:=O.of ρ r fun xs=>ZdH (Zj5 Γ ts body) xs ρ
@[simp] theorem ZtG(t body xs):Zr3 Γ t body ρ (.ok xs)=ZdH (Zj5 Γ t body) xs ρ:=rfl
@[simp] theorem ZtX(t it body):evS Γ ρ (.forT t it body)=Zr3 Γ t body ρ (ZkO Γ ρ it):=rfl
@[simp] theorem Zt0(ts e):evS Γ ρ (.asgT ts e)=O.of ρ (evE Γ ρ e) fun d=>O.of ρ (Zgw ts d ρ) fun ρ'=>.next ρ':=rfl
theorem ZlD(i e):evS Γ ρ (.asg i true e)=O.of ρ (evE Γ ρ e) fun d=>if ZfB Γ e=true then (match d with
      | .lst xs=>.next (ρ.set i (some (.lst xs,true)))
      | .dic xs=>.next (ρ.set i (some (.dic xs,true)))
      | _=>.bad) else .bad:=rfl
noncomputable def setF(ρ:Rho)(i:Nat):D->O
 | .lst xs=>.next (ρ.set i (some (.lst xs,true)))
 | .dic xs=>.next (ρ.set i (some (.dic xs,true)))
 | _=>.bad
@[simp] theorem Zyo(i xs):setF ρ i (.lst xs)=.next (ρ.set i (some (.lst xs,true))):=rfl
@[simp] theorem Zyp(i xs):setF ρ i (.dic xs)=.next (ρ.set i (some (.dic xs,true))):=rfl
@[simp] theorem Zsa(i e):evS Γ ρ (.asg i true e)=O.of ρ (evE Γ ρ e) fun d=>if ZfB Γ e=true then setF ρ i d else .bad:=by
 rw[ZlD]
 congr 1
@[simp] theorem ZoK(i e):evS Γ ρ (.app i e)=O.of ρ (Zef ρ i) fun xs=>O.of ρ (evE Γ ρ e) fun d=>if Zec (xs.length+1)=true then .next (ρ.set i (some (.lst (xs++[d]),true))) else .bad:=rfl
@[simp] theorem Zxb(i e):evS Γ ρ (.ext i e)=O.of ρ (Zef ρ i) fun xs=>O.of ρ (evE Γ ρ e) fun d=>O.of ρ (Zpx d) fun ys=>if Zec (xs.length+ys.length)=true then .next (ρ.set i (some (.lst (xs++ys),true))) else .bad:=rfl
@[simp] theorem Zw8(i):evS Γ ρ (.rev i)=O.of ρ (Zef ρ i) fun xs=>.next (ρ.set i (some (.lst xs.reverse,true))):=rfl
@[simp] theorem Zxc(i):evS Γ ρ (.clr i)=O.of ρ (Zef ρ i) fun _=>.next (ρ.set i (some (.lst [],true))):=rfl
theorem ZgW(i k e):evS Γ ρ (.put i k e)=O.of ρ (evE Γ ρ e) fun d=>O.of ρ (Zef ρ i) fun xs=>O.of ρ ((top ρ k (evE Γ ρ k)).bind ZcJ) fun j=>match plD xs.length j with
      | some n=>.next (ρ.set i (some (.lst (xs.set n d),true)))
      | none=>.bad:=rfl
@[simp] theorem ZtS(body c x h):evS Γ ρ (.tryx body c x h)=match evSs Γ ρ body with
      | .exn y ρ'=>if (Γ.up y.c).contains c=true then (match evSs Γ (ρ'.set x (some (.exc y.c y.fs,false))) h with
          | .next ρ''=>.next (ρ''.set x none)
          | .ret d f=>.ret d f
          | _=>.bad) else .bad
      | o=>o:=rfl
@[simp] theorem Zw7(c body):evS Γ ρ (.whl c body)=Zuq (whC Γ c) (whB Γ body) ZrY ρ:=rfl
@[simp] theorem ZtU(c as):evS Γ ρ (.rais c as)=O.of ρ (noX (evA Γ ρ as)) fun xs=>O.of ρ (Γ.xn c xs) fun x=>.exn x ρ:=rfl
@[simp] theorem Zxd:evS Γ ρ .brk=.brk ρ:=rfl
@[simp] theorem ZtZ:evS Γ ρ .cont=.cont ρ:=rfl
end
end Ov
namespace Ov
open PySem
theorem ZhU{body:D->Rho->O}(P:Rho->Prop):∀ (xs:List D) (ρ:Rho),P ρ->(∀ x∈xs,∀ ρ,P ρ->∃ ρ',body x ρ=.next ρ'/\P ρ')->∃ ρ',ZdH body xs ρ=.next ρ'/\P ρ'
 | [],ρ,h,_=>⟨ρ,rfl,h⟩
 | x::xs,ρ,h,k=>by
  obtain⟨ρ1,e1,h1⟩:=k x List.mem_cons_self ρ h
  obtain⟨ρ2,e2,h2⟩:=ZhU P xs ρ1 h1 fun y hy=>k y (List.mem_cons_of_mem _ hy)
  exact⟨ρ2,by show (body x ρ).turn _=_;rw[e1];exact e2,h2⟩
theorem ZdN{body:D->Rho->O}(P:Nat->Rho->Prop):∀ (xs:List D) (n:Nat) (ρ:Rho),P n ρ->(∀ i x,xs[i]?=some x->∀ ρ,P (n+i) ρ->∃ ρ',body x ρ=.next ρ'/\P (n+i+1) ρ')->∃ ρ',ZdH body xs ρ=.next ρ'/\P (n+xs.length) ρ'
 | [],n,ρ,h,_=>⟨ρ,rfl,h⟩
 | x::xs,n,ρ,h,k=>by
  obtain⟨ρ1,e1,h1⟩:=k 0 x rfl ρ h
  obtain⟨ρ2,e2,h2⟩:=ZdN P xs (n+1) ρ1 h1 fun i y hy ρ hρ=>by
   have:=k (i+1) y (by simpa using hy) ρ (by rw[show n+(i+1)=n+1+i by omega];exact hρ)
   rw[show n+(i+1)=n+1+i by omega] at this
   exact this
  exact⟨ρ2,by show (body x ρ).turn _=_;rw[e1];exact e2,by rw[show n+(x::xs).length=n+1+xs.length by simp;omega];exact h2⟩
theorem Zlt{lo:Int}{n:Nat}{x:D}(h:x∈Zfb lo n):∃ k:Nat,k<n/\x=.int (lo+(k:Int)):=by
 obtain⟨k,hk,e⟩:=List.mem_map.mp h
 exact⟨k,List.mem_range.mp hk,e.symm⟩
theorem ZbI(lo:Int)(n:Nat):(Zfb lo n).length=n:=by simp[Zfb]
theorem ZfH{lo:Int}{n i:Nat}{x:D}(h:(Zfb lo n)[i]?=some x):i<n/\x=.int (lo+(i:Int)):=by
 have hl:=(List.getElem?_eq_some_iff.mp h).1
 rw[ZbI] at hl
 unfold Zfb at h
 rw[List.getElem?_map,List.getElem?_range hl] at h
 cases h
 exact⟨hl,rfl⟩
noncomputable def Ss.take:Nat->Ss->Ss
 | 0,_=>.nil
 | _,.nil=>.nil
 | n+1,.cons s ss=>.cons s (ss.take n)
noncomputable def Ss.drop:Nat->Ss->Ss
 | 0,ss=>ss
 | _,.nil=>.nil
 | n+1,.cons _ ss=>ss.drop n
theorem ZhV(Γ:Gam):∀ (n:Nat) (ss:Ss) (ρ:Rho),evSs Γ ρ ss=ZgD Γ (ss.drop n) (evSs Γ ρ (ss.take n))
 | 0,_,_=>rfl
 | _+1,.nil,_=>rfl
 | n+1,.cons s ss,ρ=>by
  show (evS Γ ρ s).seq (fun ρ'=>evSs Γ ρ' ss)=ZgD Γ (ss.drop n) ((evS Γ ρ s).seq fun ρ'=>evSs Γ ρ' (ss.take n))
  cases evS Γ ρ s with
  | next ρ'=>exact ZhV Γ n ss ρ'
  | _=>rfl
end Ov
end
section
namespace OvC
open PySem Ov PyProof.Rows
noncomputable abbrev scr(ns:List Int):D:=.lst (ns.map .int)
noncomputable abbrev sh(d:D):Sl:=some (d,false)
noncomputable abbrev si(i:Int):Sl:=some (.int i,false)
theorem four{P:Nat->Prop}{j:Int}(h0:P 0)(h1:P 1)(h2:P 2)(h3:P 3):P (j%4).toNat:=by
 have:(j%4).toNat=0\/(j%4).toNat=1\/(j%4).toNat=2\/(j%4).toNat=3:=by omega
 rcases this with e|e|e|e<;>rw[e]<;>assumption
def P4(p:Int):Prop:=p=3\/p=5\/p=7\/p=11
theorem P4.pos{p}(h:P4 p):0<p:=by rcases h with rfl|rfl|rfl|rfl<;>decide
theorem P4.lo{p}(h:P4 p):3<=p:=by rcases h with rfl|rfl|rfl|rfl<;>decide
theorem P4.hi{p}(h:P4 p):p<=11:=by rcases h with rfl|rfl|rfl|rfl<;>decide
theorem Zbs{i j:Int}(h0:-18446744073709551616<i)(h1:i<18446744073709551616):Zba i j=true:=by simp[Zba];left;exact⟨h0,h1⟩
theorem ZgO{i j:Int}(h0:-18446744073709551616<j)(h1:j<18446744073709551616):Zba i j=true:=by simp[Zba];right;exact⟨h0,h1⟩
noncomputable def Zko:Df:=⟨2,false,(.cons (.ret (.bin .Mod (.var 1) (.var 0))) .nil)⟩
def ZdF(Γ:Gam):Prop:=∀ p n:Int,0<p->Γ.F 1 [.int p,.int n]=.ok (.int (n%p))
theorem ZqO(Γ:Gam)(p n:Int)(h:0<p):Zko.run Γ [.int p,.int n]=.ok (.int (n%p)):=by simp[Zko,Df.run,Zaf,h]
end OvC
end
section
namespace Ov
open PySem PySem.Spec PyProof.Rows L2
noncomputable abbrev ClA:=Nat->Option Addr
def KL(K:PySem.W.Frag)(a:Addr)(xs:List V):Prop:=∃ (o:Obj) (its:Array Value) (n:Nat),K.lookup a=some o/\o.cls=.type "list"/\o.dict=none/\o.data=.seq its n/\its.size<=sizeLine/\ZaP xs its.toList
def KT(K:PySem.W.Frag)(a:Addr)(xs:List V):Prop:=∃ (o:Obj) (its:Array Value) (n:Nat),K.lookup a=some o/\o.cls=.type "tuple"/\o.data=.seq its n/\its.size<=sizeLine/\ZaP xs its.toList
section
variable (K:PySem.W.Frag) (CL:ClA) (H:Hp) (A:Addr->Prop)
mutual
noncomputable def Rep:V->D->Prop
 | v,.non=>v=.non
 | v,.bl b=>v=.bl b
 | v,.int i=>v=.int i
 | v,.str x=>v=.str x
 | v,.tup ds=>∃ a xs,v=.ref a/\(¬ A a\/KT K a xs)/\SqT K H a xs/\Reps xs ds
 | v,.lst ds=>∃ a xs,v=.ref a/\(¬ A a\/KL K a xs)/\SqL K H a xs/\Reps xs ds
 | v,.obj c fs=>∃ a C dx vs,v=.ref a/\¬ A a/\CL c=some C/\H a=some (.ins C dx vs)/\Repf vs fs
 | _,.dic _=>False
 | v,.exc c fs=>∃ a C φ,v=.ref a/\¬ A a/\CL c=some C/\H a=some (.ext φ)/\(∀ h,φ h->∃ o,h.get? a=some o/\o.cls=.ref C)/\(fs=[]\/∃ dx vs,¬ A dx/\H dx=some (.xd vs)/\Repf vs fs/\∀ h,φ h->∃ o,h.get? a=some o/\o.dict=some dx)
noncomputable def Reps:List V->List D->Prop
 | [],[]=>True
 | v::vs,d::ds=>Rep v d/\Reps vs ds
 | _,_=>False
noncomputable def Repf:List (Str×V)->List (Str×D)->Prop
 | [],[]=>True
 | v::vs,d::ds=>Repp v d/\Repf vs ds
 | _,_=>False
noncomputable def Repp:Str×V->Str×D->Prop
 | v,(n,d)=>v.1=n/\Rep v.2 d
end
def Zc9(v:V)(d:D):Prop:=Rep K CL H A v d\/∃ a xs ds,v=.ref a/\d=.lst ds/\H a=some (.lst xs)/\Reps K CL H A xs ds
end
def Kp(A:Addr->Prop)(H H':Hp):Prop:=∀ b o,H b=some o->¬ A b->H' b=some o
def AOk(H:Hp)(A:Addr->Prop):Prop:=∀ a,A a->∃ xs,H a=some (.lst xs)
theorem Kp.of{A:Addr->Prop}{H H':Hp}(h:Zaj H H'):Kp A H H':=fun b o e _=>h b o e
theorem AOk.same{A:Addr->Prop}{H H':Hp}(h:AOk H A)(s:Zaj H H'):AOk H' A:=fun a ha=>let ⟨xs,e⟩:=h a ha;⟨xs,s _ _ e⟩
theorem AOk.new{A:Addr->Prop}{H:Hp}{p:Addr}(h:AOk H A)(e:H p=none):¬ A p:=fun ha=>by
 obtain⟨xs,q⟩:=h p ha;rw[e] at q;cases q
section
variable {K:PySem.W.Frag} {CL:ClA} {H H':Hp} {A B:Addr->Prop}
theorem ZqL{a:Addr}{u:HO}(k:Kp A H H')(na:¬ A a)(h:Rd H a u):Rd H' a u:=by
 rcases h with h|⟨o,h⟩
 ·exact .inl (k _ _ h na)
 ·exact .inr ⟨o,k _ _ h na⟩
theorem Zhu{a:Addr}{xs:List V}(k:Kp A H H')(na:¬ A a\/KL K a xs)(h:SqL K H a xs):SqL K H' a xs:=na.elim (fun na=>h.imp (ZqL k na) id) .inr
theorem Zht{a:Addr}{xs:List V}(k:Kp A H H')(na:¬ A a\/KT K a xs)(h:SqT K H a xs):SqT K H' a xs:=na.elim (fun na=>h.imp (ZqL k na) id) .inr
mutual
theorem Rep.kp(k:Kp A H H'):∀ {v:V} (d:D),Rep K CL H A v d->Rep K CL H' A v d
 | _,.non,h=>h
 | _,.bl _,h=>h
 | _,.int _,h=>h
 | _,.str _,h=>h
 | _,.dic _,h=>h.elim
 | _,.tup ds,h=>by
  obtain⟨a,xs,e,na,s,r⟩:=h
  exact⟨a,xs,e,na,by first|exact Zht k na s|exact Zhu k na s,Reps.kp k ds r⟩
 | _,.lst ds,h=>by
  obtain⟨a,xs,e,na,s,r⟩:=h
  exact⟨a,xs,e,na,by first|exact Zht k na s|exact Zhu k na s,Reps.kp k ds r⟩
 | _,.obj c fs,h=>by
  obtain⟨a,C,dx,vs,e,na,c,s,r⟩:=h
  exact⟨a,C,dx,vs,e,na,c,k _ _ s na,Repf.kp k fs r⟩
 | _,.exc c fs,h=>by
  obtain⟨a,C,φ,e,na,c,s,p,q⟩:=h
  refine⟨a,C,φ,e,na,c,k _ _ s na,p,q.imp id ?_⟩
  rintro⟨dx,vs,nx,s2,r,z⟩
  exact⟨dx,vs,nx,k _ _ s2 nx,Repf.kp k fs r,z⟩
theorem Reps.kp(k:Kp A H H'):∀ {vs:List V} (ds:List D),Reps K CL H A vs ds->Reps K CL H' A vs ds
 | [],[],h=>h
 | _::_,d::ds,h=>⟨Rep.kp k d h.1,Reps.kp k ds h.2⟩
 | [],_::_,h=>h.elim
 | _::_,[],h=>h.elim
theorem Repf.kp(k:Kp A H H'):∀ {vs:List (Str×V)} (ds:List (Str×D)),Repf K CL H A vs ds->Repf K CL H' A vs ds
 | [],[],h=>h
 | _::_,d::ds,h=>⟨Repp.kp k d h.1,Repf.kp k ds h.2⟩
 | [],_::_,h=>h.elim
 | _::_,[],h=>h.elim
theorem Repp.kp(k:Kp A H H'):∀ {v:Str×V} (d:Str×D),Repp K CL H A v d->Repp K CL H' A v d
 | _,(_,d),h=>⟨h.1,Rep.kp k d h.2⟩
end
mutual
theorem Rep.sub(k:∀ a,B a->A a):∀ {v:V} (d:D),Rep K CL H A v d->Rep K CL H B v d
 | _,.non,h=>h
 | _,.bl _,h=>h
 | _,.int _,h=>h
 | _,.str _,h=>h
 | _,.dic _,h=>h.elim
 | _,.tup ds,h=>by
  obtain⟨a,xs,e,na,s,r⟩:=h
  exact⟨a,xs,e,na.imp (fun na z=>na (k _ z)) id,s,Reps.sub k ds r⟩
 | _,.lst ds,h=>by
  obtain⟨a,xs,e,na,s,r⟩:=h
  exact⟨a,xs,e,na.imp (fun na z=>na (k _ z)) id,s,Reps.sub k ds r⟩
 | _,.obj c fs,h=>by
  obtain⟨a,C,dx,vs,e,na,c,s,r⟩:=h
  exact⟨a,C,dx,vs,e,fun z=>na (k _ z),c,s,Repf.sub k fs r⟩
 | _,.exc c fs,h=>by
  obtain⟨a,C,φ,e,na,c,s,p,q⟩:=h
  refine⟨a,C,φ,e,fun z=>na (k _ z),c,s,p,q.imp id ?_⟩
  rintro⟨dx,vs,nx,s2,r,z⟩
  exact⟨dx,vs,fun z=>nx (k _ z),s2,Repf.sub k fs r,z⟩
theorem Reps.sub(k:∀ a,B a->A a):∀ {vs:List V} (ds:List D),Reps K CL H A vs ds->Reps K CL H B vs ds
 | [],[],h=>h
 | _::_,d::ds,h=>⟨Rep.sub k d h.1,Reps.sub k ds h.2⟩
 | [],_::_,h=>h.elim
 | _::_,[],h=>h.elim
theorem Repf.sub(k:∀ a,B a->A a):∀ {vs:List (Str×V)} (ds:List (Str×D)),Repf K CL H A vs ds->Repf K CL H B vs ds
 | [],[],h=>h
 | _::_,d::ds,h=>⟨Repp.sub k d h.1,Repf.sub k ds h.2⟩
 | [],_::_,h=>h.elim
 | _::_,[],h=>h.elim
theorem Repp.sub(k:∀ a,B a->A a):∀ {v:Str×V} (d:Str×D),Repp K CL H A v d->Repp K CL H B v d
 | _,(_,d),h=>⟨h.1,Rep.sub k d h.2⟩
end
mutual
theorem Rep.wide(hp:∀ a,B a->A a\/H a=none):∀ {v:V} (d:D),Rep K CL H A v d->Rep K CL H B v d
 | _,.non,h=>h
 | _,.bl _,h=>h
 | _,.int _,h=>h
 | _,.str _,h=>h
 | _,.dic _,h=>h.elim
 | _,.tup ds,h=>by
  obtain⟨a,xs,e,na,s,r⟩:=h
  refine⟨a,xs,e,?_,s,Reps.wide hp ds r⟩
  rcases s with s|s
  ·refine na.imp (fun na z=>(hp _ z).elim na fun e=>?_) id
   rcases s with s|⟨o,s⟩<;>rw[e] at s<;>cases s
  ·exact .inr s
 | _,.lst ds,h=>by
  obtain⟨a,xs,e,na,s,r⟩:=h
  refine⟨a,xs,e,?_,s,Reps.wide hp ds r⟩
  rcases s with s|s
  ·refine na.imp (fun na z=>(hp _ z).elim na fun e=>?_) id
   rcases s with s|⟨o,s⟩<;>rw[e] at s<;>cases s
  ·exact .inr s
 | _,.obj c fs,h=>by
  obtain⟨a,C,dx,vs,e,na,c,s,r⟩:=h
  exact⟨a,C,dx,vs,e,(fun z=>(hp _ z).elim na fun e=>by rw[e] at s;cases s),c,s,Repf.wide hp fs r⟩
 | _,.exc c fs,h=>by
  obtain⟨a,C,φ,e,na,c,s,p,q⟩:=h
  refine⟨a,C,φ,e,(fun z=>(hp _ z).elim na fun e=>by rw[e] at s;cases s),c,s,p,q.imp id ?_⟩
  rintro⟨dx,vs,nx,s2,r,z⟩
  exact⟨dx,vs,(fun z=>(hp _ z).elim nx fun e=>by rw[e] at s2;cases s2),s2,Repf.wide hp fs r,z⟩
theorem Reps.wide(hp:∀ a,B a->A a\/H a=none):∀ {vs:List V} (ds:List D),Reps K CL H A vs ds->Reps K CL H B vs ds
 | [],[],h=>h
 | _::_,d::ds,h=>⟨Rep.wide hp d h.1,Reps.wide hp ds h.2⟩
 | [],_::_,h=>h.elim
 | _::_,[],h=>h.elim
theorem Repf.wide(hp:∀ a,B a->A a\/H a=none):∀ {vs:List (Str×V)} (ds:List (Str×D)),Repf K CL H A vs ds->Repf K CL H B vs ds
 | [],[],h=>h
 | _::_,d::ds,h=>⟨Repp.wide hp d h.1,Repf.wide hp ds h.2⟩
 | [],_::_,h=>h.elim
 | _::_,[],h=>h.elim
theorem Repp.wide(hp:∀ a,B a->A a\/H a=none):∀ {v:Str×V} (d:Str×D),Repp K CL H A v d->Repp K CL H B v d
 | _,(_,d),h=>⟨h.1,Rep.wide hp d h.2⟩
end
theorem Rep.same{v:V}{d:D}(s:Zaj H H')(h:Rep K CL H A v d):Rep K CL H' A v d:=Rep.kp (Kp.of s) d h
theorem Reps.same{v:List V}{d:List D}(s:Zaj H H')(h:Reps K CL H A v d):Reps K CL H' A v d:=Reps.kp (Kp.of s) d h
theorem Zc9.same{v:V}{d:D}(s:Zaj H H')(h:Zc9 K CL H A v d):Zc9 K CL H' A v d:=by
 rcases h with h|⟨a,xs,ds,e,e2,q,r⟩
 ·exact .inl (h.same s)
 ·exact .inr ⟨a,xs,ds,e,e2,s _ _ q,r.same s⟩
theorem Reps.length:∀ {vs:List V} {ds:List D},Reps K CL H A vs ds->vs.length=ds.length
 | [],[],_=>rfl
 | _::_,_::_,h=>congrArg (· + 1) (Reps.length h.2)
 | [],_::_,h=>h.elim
 | _::_,[],h=>h.elim
theorem Reps.append:∀ {vs ws:List V} {ds es:List D},Reps K CL H A vs ds->Reps K CL H A ws es->Reps K CL H A (vs++ws) (ds++es)
 | [],_,[],_,_,h=>h
 | _::_,_,_::_,_,h,g=>⟨h.1,Reps.append h.2 g⟩
 | [],_,_::_,_,h,_=>h.elim
 | _::_,_,[],_,h,_=>h.elim
theorem Reps.get:∀ {vs:List V} {ds:List D} {i:Nat} {d:D},Reps K CL H A vs ds->ds[i]?=some d->∃ v,vs[i]?=some v/\Rep K CL H A v d
 | [],[],_,_,_,e=>by simp at e
 | v::_,_::_,0,_,h,e=>by simp at e;subst e;exact⟨v,rfl,h.1⟩
 | _::_,_::_,i+1,_,h,e=>by
  obtain⟨v,q,r⟩:=Reps.get (i:=i) h.2 (by simpa using e)
  exact⟨v,by simpa using q,r⟩
 | [],_::_,_,_,h,_=>h.elim
 | _::_,[],_,_,h,_=>h.elim
theorem Reps.take:∀ {vs:List V} {ds:List D} (n:Nat),Reps K CL H A vs ds->Reps K CL H A (vs.take n) (ds.take n)
 | _,_,0,_=>trivial
 | [],[],_+1,_=>trivial
 | _::_,_::_,n+1,h=>⟨h.1,Reps.take n h.2⟩
 | [],_::_,_+1,h=>h.elim
 | _::_,[],_+1,h=>h.elim
theorem Reps.drop:∀ {vs:List V} {ds:List D} (n:Nat),Reps K CL H A vs ds->Reps K CL H A (vs.drop n) (ds.drop n)
 | _,_,0,h=>h
 | [],[],_+1,_=>trivial
 | _::_,_::_,n+1,h=>Reps.drop n h.2
 | [],_::_,_+1,h=>h.elim
 | _::_,[],_+1,h=>h.elim
theorem Reps.set{x:V}{e:D}(r:Rep K CL H A x e):∀ {vs:List V} {ds:List D} (n:Nat),Reps K CL H A vs ds->Reps K CL H A (vs.set n x) (ds.set n e)
 | [],[],_,_=>trivial
 | _::_,_::_,0,h=>⟨r,h.2⟩
 | _::_,_::_,n+1,h=>⟨h.1,Reps.set r n h.2⟩
 | [],_::_,_,h=>h.elim
 | _::_,[],_,h=>h.elim
end
structure Good (K:PySem.W.Frag) (CL:ClA) (A:Addr->Prop) (ρ:Rho) (σ:L2.St) (H:Hp):Prop where
 sh:∀ (i:Nat) (d:D),ρ[i]?=some (some (d,false))->∃ v,σ[i]?=some (some v)/\Rep K CL H A v d
 ow:∀ (i:Nat) (d:D),ρ[i]?=some (some (d,true))->∃ a xs ds,σ[i]?=some (some (.ref a))/\d=.lst ds/\A a/\H a=some (.lst xs)/\Reps K CL H A xs ds
 len:ρ.length=σ.length
theorem Good.same{K:PySem.W.Frag}{CL:ClA}{A:Addr->Prop}{ρ:Rho}{σ:L2.St}{H H':Hp}(g:Good K CL A ρ σ H)(s:Zaj H H'):Good K CL A ρ σ H' :=
 ⟨fun i d e=>let ⟨v,q,r⟩:=g.sh i d e;⟨v,q,r.same s⟩,fun i d e=>let ⟨a,xs,ds,q,z,na,h,r⟩:=g.ow i d e;⟨a,xs,ds,q,z,na,s _ _ h,r.same s⟩,g.len⟩
noncomputable abbrev XW:=Ex->Hp->Prop
def ZaJ(Rp:Hp->V->D->Prop)(W:XW)(H:Hp)(r:R D)(Q:VK):Prop:=match r with
  | .ok d=>∀ v H',Zaj H H'->Rp H' v d->Q v H'
  | .exn x=>∀ H',Zaj H H'->W x H'
  | .bad=>False
def ZeZ(Rp:Hp->List V->List D->Prop)(W:XW)(H:Hp)(r:R (List D))(Q:List V->Hp->Prop):Prop:=match r with
  | .ok d=>∀ v H',Zaj H H'->Rp H' v d->Q v H'
  | .exn x=>∀ H',Zaj H H'->W x H'
  | .bad=>False
def Za2(W:XW)(H:Hp)(r:R Bool)(Q:Bool->Hp->Prop):Prop:=match r with
  | .ok b=>∀ H',Zaj H H'->Q b H'
  | .exn x=>∀ H',Zaj H H'->W x H'
  | .bad=>False
theorem ZaJ.same{Rp:Hp->V->D->Prop}{W:XW}{H H':Hp}{r:R D}{Q:VK}(s:Zaj H H')(h:ZaJ Rp W H r Q):ZaJ Rp W H' r Q:=by
 cases r with
 | ok d=>exact fun v H2 s2 q=>h v H2 (s.trans s2) q
 | exn x=>exact fun H2 s2=>h H2 (s.trans s2)
 | bad=>exact h
theorem Za2.same{W:XW}{H H':Hp}{r:R Bool}{Q:Bool->Hp->Prop}(s:Zaj H H')(h:Za2 W H r Q):Za2 W H' r Q:=by
 cases r with
 | ok d=>exact fun H2 s2=>h H2 (s.trans s2)
 | exn x=>exact fun H2 s2=>h H2 (s.trans s2)
 | bad=>exact h
theorem ZaJ.bind{Rp Rq:Hp->V->D->Prop}{W:XW}{H:Hp}{r:R D}{f:D->R D}{Q Q':VK}(h:ZaJ Rq W H (r.bind f) Q)(k:∀ d v H',r=.ok d->Zaj H H'->Rp H' v d->ZaJ Rq W H' (f d) Q->Q' v H'):ZaJ Rp W H r Q':=by
 cases r with
 | ok d=>exact fun v H2 s2 q=>k d v H2 rfl s2 q (ZaJ.same s2 h)
 | exn x=>exact h
 | bad=>exact h
section
variable (X:Cx) (CL:ClA) (W:XW)
def SE(e:Expr)(f:Rho->R D):Prop:=∀ A,PE X e (fun σ H Q=>AOk H A/\∃ ρ,Good X.K CL A ρ σ H/\ZaJ (fun H=>Rep X.K CL H A) W H (f ρ) Q)
def ST(e:Expr)(f:Rho->R D):Prop:=∀ A,PE X e (fun σ H Q=>AOk H A/\∃ ρ,Good X.K CL A ρ σ H/\ZaJ (fun H=>Zc9 X.K CL H A) W H (f ρ) Q)
def SB(e:Expr)(f:Rho->R Bool):Prop:=∀ A,PT X e (fun σ H Q=>AOk H A/\∃ ρ,Good X.K CL A ρ σ H/\Za2 W H (f ρ) Q)
def SA(es:List Expr)(f:Rho->R (List D)):Prop:=∀ A,PA X es (fun σ H Q=>AOk H A/\∃ ρ,Good X.K CL A ρ σ H/\ZeZ (fun H=>Reps X.K CL H A) W H (f ρ) Q)
end
theorem PE.weak{X:Cx}{e:Expr}{t t':TE}(h:PE X e t)(k:∀ σ H Q,t' σ H Q->t σ H Q):PE X e t':=fun pins s σ H Q I q=>h pins s σ H Q I (k _ _ _ q)
theorem PT.weak{X:Cx}{e:Expr}{t t':TT}(h:PT X e t)(k:∀ σ H Q,t' σ H Q->t σ H Q):PT X e t':=fun pins s σ H Q I q=>h pins s σ H Q I (k _ _ _ q)
theorem PA.weak{X:Cx}{e:List Expr}{t t':TA}(h:PA X e t)(k:∀ σ H Q,t' σ H Q->t σ H Q):PA X e t':=fun pos pins s σ H Q I q=>h pos pins s σ H Q I (k _ _ _ q)
noncomputable def OpD(X:Cx)(CL:ClA)(W:XW)(f:Value->Value->Sem Value)(g:D->D->R D):Prop :=
 ∀ A,OpR X f (fun x y H Q=>AOk H A/\∃ dx dy,Zc9 X.K CL H A x dx/\Zc9 X.K CL H A y dy/\ZaJ (fun H=>Rep X.K CL H A) W H (g dx dy) Q)
end Ov
end
section
namespace Ov
open PySem PySem.Spec PyProof.Rows L2
section
variable {X:Cx} {CL:ClA} {W:XW} {a b c:Expr} {fa fb fc:Rho->R D} {pos:Pos}
theorem SE.st(h:SE X CL W a fa):ST X CL W a fa:=fun A=>PE.weak (h A) fun σ H Q ⟨hA,ρ,g,p⟩=>⟨hA,ρ,g,by
 cases e:fa ρ with
 | ok d=>rw[e] at p;exact fun v H' s r=>p v H' s (.inl r)
 | exn x=>rw[e] at p;exact p
 | bad=>rw[e] at p;exact p⟩
theorem SE.congr{f g:Rho->R D}(h:SE X CL W a f)(e:∀ ρ,g ρ=f ρ):SE X CL W a g:=fun A=>PE.weak (h A) fun σ H Q ⟨hA,ρ,q,p⟩=>⟨hA,ρ,q,by rw[<- e];exact p⟩
theorem Zk5{d:D}{v:V}(h:PE X a (tC v))(r:∀ H A,AOk H A->Rep X.K CL H A v d):SE X CL W a (fun _=>.ok d):=fun A=>PE.weak h fun σ H Q ⟨hA,ρ,g,p⟩=>p v H (Zaj.refl H) (r H A hA)
theorem ZqA{i j}:SE X CL W (.Constant (.int i) j pos) (fun _=>.ok (.int i)):=Zk5 Zrf fun _ _ _=>rfl
theorem ZqE{b j}:SE X CL W (.Constant (.bool b) j pos) (fun _=>.ok (.bl b)):=Zk5 Zwk fun _ _ _=>rfl
theorem Zqu{j}:SE X CL W (.Constant .none j pos) (fun _=>.ok .non):=Zk5 Zrd fun _ _ _=>rfl
theorem Zqt{x j}:SE X CL W (.Constant (.str x) j pos) (fun _=>.ok (.str x)):=Zk5 Zq9 fun _ _ _=>rfl
theorem ZmV{ρ:Rho}{i:Nat}{d:D}(h:ZgC ρ i=.ok d):ρ[i]?=some (some (d,false)):=by
 unfold ZgC at h
 split at h
 ·rename_i e;cases h;exact e
 ·cases h
theorem ZiN{ρ:Rho}{i:Nat}{d:D}(h:ZgF ρ i=.ok d):∃ o,ρ[i]?=some (some (d,o)):=by
 unfold ZgF at h
 split at h
 ·rename_i e;cases h;exact⟨_,e⟩
 ·cases h
theorem ZkY{ρ:Rho}{i:Nat}{x:Ex}(h:ZgC ρ i=.exn x):False:=by
 unfold ZgC at h
 split at h<;>cases h
theorem Zhl{ρ:Rho}{i:Nat}{x:Ex}(h:ZgF ρ i=.exn x):False:=by
 unfold ZgF at h
 split at h<;>cases h
theorem Zl2{i:Nat}(h:PE X a (ZlV i)):SE X CL W a (fun ρ=>ZgC ρ i):=fun A=>PE.weak h fun σ H Q ⟨hA,ρ,g,p⟩=>by
 dsimp only at p
 cases e:ZgC ρ i with
 | ok d =>
  rw[e] at p
  obtain⟨v,q,r⟩:=g.sh i d (ZmV e)
  exact⟨v,q,p v H (Zaj.refl H) r⟩
 | exn x=>exact(ZkY e).elim
 | bad=>rw[e] at p;exact p.elim
theorem ZfY{i:Nat}(h:PE X a (ZlV i)):ST X CL W a (fun ρ=>ZgF ρ i):=fun A=>PE.weak h fun σ H Q ⟨hA,ρ,g,p⟩=>by
 dsimp only at p
 cases e:ZgF ρ i with
 | ok d =>
  rw[e] at p
  obtain⟨o,e⟩:=ZiN e
  cases o with
  | false =>
   obtain⟨v,q,r⟩:=g.sh i d e
   exact⟨v,q,p v H (Zaj.refl H) (.inl r)⟩
  | true =>
   obtain⟨x,xs,ds,q,rfl,ha,hh,r⟩:=g.ow i d e
   exact⟨_,q,p _ H (Zaj.refl H) (.inr ⟨x,xs,ds,rfl,rfl,hh,r⟩)⟩
 | exn x=>exact(Zhl e).elim
 | bad=>rw[e] at p;exact p.elim
theorem op2{A:Addr->Prop}{σ:L2.St}{H:Hp}{Q:VK}{g:D->D->R D}{Rq:Hp->V->D->Prop}(h:AOk H A/\∃ ρ,Good X.K CL A ρ σ H/\ZaJ Rq W H ((fa ρ).bind fun x=>(fb ρ).bind fun y=>g x y) Q) :
  AOk H A/\∃ ρ,Good X.K CL A ρ σ H/\ZaJ (fun H=>Zc9 X.K CL H A) W H (fa ρ) (fun x H1=>AOk H1 A/\∃ ρ,Good X.K CL A ρ σ H1/\ZaJ (fun H=>Zc9 X.K CL H A) W H1 (fb ρ) (fun y H2 =>
   AOk H2 A/\∃ dx dy,Zc9 X.K CL H2 A x dx/\Zc9 X.K CL H2 A y dy/\ZaJ Rq W H2 (g dx dy) Q)):=by
 obtain⟨hA,ρ,gd,p⟩:=h
 refine⟨hA,ρ,gd,ZaJ.bind p fun dx x H1 _ s1 r1 p1=>⟨hA.same s1,ρ,gd.same s1,ZaJ.bind p1 fun dy y H2 _ s2 r2 p2=>⟨(hA.same s1).same s2,dx,dy,r1.same s2,r2,p2⟩⟩⟩
theorem Zl4{op:Operator}{g:D->D->R D}(ho:OpD X CL W (binaryOp op) g)(ha:ST X CL W a fa)(hb:ST X CL W b fb):SE X CL W (.BinOp a op b pos) (fun ρ=>(fa ρ).bind fun x=>(fb ρ).bind fun y=>g x y) :=
 fun A=>PE.weak (Zra (ho A) (ha A) (hb A)) fun σ H Q h=>op2 h
theorem ZqD{op:CmpOp}{g:D->D->R D}(ho:OpD X CL W (compareOp op) g)(ha:ST X CL W a fa)(hb:ST X CL W b fb)(hm:behindInMarks op b=false):SE X CL W (.Compare a [op] [b] pos) (fun ρ=>(fa ρ).bind fun x=>(fb ρ).bind fun y=>g x y) :=
 fun A=>PE.weak (Zn1 (ho A) (ha A) (hb A) hm) fun σ H Q h=>op2 h
theorem Zc9.int_of{K:PySem.W.Frag}{H:Hp}{A:Addr->Prop}{v:V}{i:Int}(h:Zc9 K CL H A v (.int i)):v=.int i:=by
 rcases h with h|⟨_,_,_,_,e,_⟩
 ·exact h
 ·cases e
theorem Zc9.str_of{K:PySem.W.Frag}{H:Hp}{A:Addr->Prop}{v:V}{i:Str}(h:Zc9 K CL H A v (.str i)):v=.str i:=by
 rcases h with h|⟨_,_,_,_,e,_⟩
 ·exact h
 ·cases e
theorem Zc9.bl_of{K:PySem.W.Frag}{H:Hp}{A:Addr->Prop}{v:V}{i:Bool}(h:Zc9 K CL H A v (.bl i)):v=.bl i:=by
 rcases h with h|⟨_,_,_,_,e,_⟩
 ·exact h
 ·cases e
theorem Zc9.non_of{K:PySem.W.Frag}{H:Hp}{A:Addr->Prop}{v:V}(h:Zc9 K CL H A v .non):v=.non:=by
 rcases h with h|⟨_,_,_,_,e,_⟩
 ·exact h
 ·cases e
theorem Zc9.lst_of{K:PySem.W.Frag}{H:Hp}{A:Addr->Prop}{v:V}{ds:List D}(h:Zc9 K CL H A v (.lst ds)):∃ a xs,v=.ref a/\SqL K H a xs/\Reps K CL H A xs ds:=by
 rcases h with ⟨a,xs,e,_,s,r⟩|⟨a,xs,es,rfl,e,s,r⟩
 ·exact⟨a,xs,e,s,r⟩
 ·cases e;exact⟨a,xs,rfl,SqL.of s,r⟩
theorem Zc9.tup_of{K:PySem.W.Frag}{H:Hp}{A:Addr->Prop}{v:V}{ds:List D}(h:Zc9 K CL H A v (.tup ds)):∃ a xs,v=.ref a/\(¬ A a\/KT K a xs)/\SqT K H a xs/\Reps K CL H A xs ds:=by
 rcases h with ⟨a,xs,e,n,s,r⟩|⟨_,_,_,_,e,_⟩
 ·exact⟨a,xs,e,n,s,r⟩
 ·cases e
theorem Zop{i j:Int}(h:Zba i j=true):Zup i j:=by
 unfold Zba at h
 simp only[Bool.or_eq_true,Bool.and_eq_true,decide_eq_true_eq] at h
 unfold Zup
 omega
theorem Zks{a:Int}(h:a.natAbs<2 ^ 2000):Builtin.Int.intBits a<=2 ^ 20:=by
 unfold Builtin.Int.intBits
 split
 ·omega
 ·rename_i hz
  have h0:a.natAbs≠0:=by intro z;exact hz (by rw[Int.natAbs_eq_zero.mp z];rfl)
  have:=(Nat.log2_lt h0).mpr h
  omega
theorem Zoo{i j:Int}(h:(Zba i j||Zct i j)=true):IntMulOk i j:=by
 rcases Bool.or_eq_true_iff.mp h with h|h
 ·exact(Zop h).ok
 ·unfold Zct at h
  rw[Bool.and_eq_true,decide_eq_true_eq,decide_eq_true_eq] at h
  exact .of_bits (Zks h.1) (Zks h.2)
theorem Zof{X:Cx}:OpR X (binaryOp .Mult) (rI IntMulOk fun i j=>.int (i*j)):=opI fun _ _ _ _ _ _ _ hc q=>mul_int q hc
theorem ZbH{n:Nat}(h:Zec n=true):n<=sizeLine:=by
 unfold Zec at h
 rw[sizeLine_eq]
 have:=Nat.le_of_ble_eq_true h
 omega
theorem ZjJ{K:PySem.W.Frag}{H:Hp}{A:Addr->Prop}{p:Addr}{xs:List V}{ds:List D}(hA:AOk H A)(hp:H p=none)(r:Reps K CL H A xs ds):Rep K CL (upd H p (.lst xs)) A (.ref p) (.lst ds) :=
 ⟨p,xs,rfl,.inl (hA.new hp),SqL.of ZbC,r.same fun b o e=>by rw[Zaz (Zav e hp)];exact e⟩
theorem ZdJ{K:PySem.W.Frag}{H:Hp}{A:Addr->Prop}{p:Addr}{xs:List V}{ds:List D}(hA:AOk H A)(hp:H p=none)(r:Reps K CL H A xs ds):Rep K CL (upd H p (.tup xs)) A (.ref p) (.tup ds) :=
 ⟨p,xs,rfl,.inl (hA.new hp),SqT.of ZbC,r.same fun b o e=>by rw[Zaz (Zav e hp)];exact e⟩
theorem ZaL{H:Hp}{p:Addr}(h:H p=none)(o:HO):Zaj H (upd H p o):=fun b u q=>by rw[Zaz (Zav q h)];exact q
noncomputable def Zv7(K:PySem.W.Frag):R2:=fun x y H Q=>∃ l b xs zs,x=.ref l/\y=.ref b/\SqL K H l xs/\SqL K H b zs/\xs.length+zs.length<=sizeLine/\∀ p,H p=none->Q (.ref p) (upd H p (.lst (xs++zs)))
end
end Ov
end
section
namespace Ov
open PySem PySem.Spec PyProof.Rows L2
section
variable {X:Cx} {CL:ClA} {W:XW}
theorem ZjB:OpR X (binaryOp .Add) (Zv7 X.K):=by
 intro pins s σ H x y v u Q I rx ry h
 obtain⟨l,b,xs,zs,rfl,rfl,hH,hB,hz,q⟩:=h
 cases rx
 cases ry
 obtain⟨its,r,⟨o,n,e,c,dd,dt⟩,z⟩:=I.list hH
 obtain⟨its2,r2,⟨o2,n2,e2,c2,dd2,dt2⟩,z2⟩:=I.list hB
 have hl:=r.length
 have hl2:=r2.length
 obtain⟨cls,dd0,data,sl⟩:=o
 obtain⟨cls2,dd02,data2,sl2⟩:=o2
 simp only at c dd dt c2 dd2 dt2
 subst c dd dt c2 dd2 dt2
 have ea:its.toArray++its2.toArray=(its++its2).toArray:=by simp
 refine concat_meets ⟨_,e,rfl⟩ ⟨_,e2,rfl⟩ noFill_list_add seq_list_add PySem.F.slot_list_add PySem.F.entry_list_add (PySem.F.args_list_add_2 _ _) (list_addW l b its.toArray its2.toArray n n2 none none sl sl2 (by simp;omega)) ⟨e,e2,?_⟩
 rw[ea]
 exact⟨.ref _,_,I.lnew (t':=s.toks) (r.append r2) (by rw[List.length_append];omega),rfl,q _ I.fresh⟩
theorem ZjA:OpD X CL W (binaryOp .Add) (Zdg .Add):=by
 intro A pins s σ H x y v u Q I rx ry ⟨hA,dx,dy,hx,hy,p⟩
 cases dx with
 | int i =>
  cases dy with
  | int j =>
   have ex:=hx.int_of;have ey:=hy.int_of
   subst ex ey
   exact Zrp pins s σ H _ _ v u Q I rx ry ⟨i,j,rfl,rfl,p _ H (Zaj.refl H) rfl⟩
  | _=>exact p.elim
 | str i =>
  cases dy with
  | str j =>
   have ex:=hx.str_of;have ey:=hy.str_of
   subst ex ey
   simp only[Zs3] at p
   split at p
   ·rename_i h
    exact Ziq pins s σ H _ _ v u Q I rx ry ⟨i,j,rfl,rfl,ZbH h,p _ H (Zaj.refl H) rfl⟩
   ·exact p.elim
  | _=>exact p.elim
 | lst ds =>
  cases dy with
  | lst es =>
   obtain⟨a,xs,rfl,s1,r1⟩:=hx.lst_of
   obtain⟨b,ys,rfl,s2,r2⟩:=hy.lst_of
   simp only[ZmG] at p
   split at p
   ·rename_i h
    refine ZjB pins s σ H _ _ v u Q I rx ry ⟨a,b,xs,ys,rfl,rfl,s1,s2,by rw[r1.length,r2.length];exact ZbH h,fun q hq=>?_⟩
    exact p _ _ (ZaL hq _) (ZjJ hA hq (r1.append r2))
   ·exact p.elim
  | _=>exact p.elim
 | tup ds =>
  cases dy with
  | tup es =>
   obtain⟨a,xs,rfl,na1,s1,r1⟩:=hx.tup_of
   obtain⟨b,ys,rfl,_,s2,r2⟩:=hy.tup_of
   simp only[Zs2] at p
   split at p
   ·rename_i h
    simp only[Bool.and_eq_true] at h
    refine Zoh pins s σ H _ _ v u Q I rx ry ⟨a,b,xs,ys,rfl,rfl,s1,s2,?_,by rw[r1.length,r2.length];exact ZbH h.2,fun hy0=>?_,fun _ q hq=>?_⟩
    ·rintro rfl
     cases ds with
     | nil=>cases h.1
     | cons _ _=>exact r1.elim
    ·subst hy0
     cases es with
     | nil=>rw[List.append_nil] at p;exact p _ H (Zaj.refl H) ⟨a,xs,rfl,na1,s1,r1⟩
     | cons _ _=>exact r2.elim
    ·exact p _ _ (ZaL hq _) (ZdJ hA hq (r1.append r2))
   ·exact p.elim
  | _=>exact p.elim
 | _=>exact p.elim
theorem ZfA{op:Operator}{C:Int->Int->Prop}{g:Int->Int->Int}(ho:OpR X (binaryOp op) (rI C fun i j=>.int (g i j)))
  (hg:∀ dx dy,(∃ i j,dx=.int i/\dy=.int j/\((C i j/\Zdg op dx dy=.ok (.int (g i j)))\/Zdg op dx dy=.bad))\/Zdg op dx dy=.bad):OpD X CL W (binaryOp op) (Zdg op):=by
 intro A pins s σ H x y v u Q I rx ry ⟨hA,dx,dy,hx,hy,p⟩
 rcases hg dx dy with ⟨i,j,rfl,rfl,⟨c,e⟩|e⟩|e
 ·have ex:=hx.int_of;have ey:=hy.int_of
  subst ex ey
  rw[e] at p
  exact ho pins s σ H _ _ v u Q I rx ry ⟨i,j,rfl,rfl,c,p _ H (Zaj.refl H) rfl⟩
 ·rw[e] at p;exact p.elim
 ·rw[e] at p;exact p.elim
theorem Zoa:OpD X CL W (binaryOp .Sub) (Zdg .Sub):=by
 intro A pins s σ H x y v u Q I rx ry ⟨hA,dx,dy,hx,hy,p⟩
 cases dx with
 | int i =>
  cases dy with
  | int j =>
   have ex:=hx.int_of;have ey:=hy.int_of
   subst ex ey
   exact Zrl pins s σ H _ _ v u Q I rx ry ⟨i,j,rfl,rfl,p _ H (Zaj.refl H) rfl⟩
  | _=>exact p.elim
 | _=>exact p.elim
theorem Zoc:OpD X CL W (binaryOp .Mult) (Zdg .Mult):=ZfA Zof fun dx dy=>by
 cases dx with
 | int i =>
  cases dy with
  | int j =>
   refine .inl ⟨i,j,rfl,rfl,?_⟩
   rw[Zry]
   split
   ·rename_i h;exact .inl ⟨Zoo h,rfl⟩
   ·exact .inr rfl
  | _=>exact .inr rfl
 | _=>exact .inr rfl
theorem Zlp:OpD X CL W (binaryOp .FloorDiv) (Zdg .FloorDiv):=ZfA Zog fun dx dy=>by
 cases dx with
 | int i =>
  cases dy with
  | int j =>
   refine .inl ⟨i,j,rfl,rfl,?_⟩
   rw[ZoJ]
   split
   ·rename_i h;exact .inl ⟨h,rfl⟩
   ·exact .inr rfl
  | _=>exact .inr rfl
 | _=>exact .inr rfl
theorem Zod:OpD X CL W (binaryOp .Mod) (Zdg .Mod):=ZfA Zrn fun dx dy=>by
 cases dx with
 | int i =>
  cases dy with
  | int j =>
   refine .inl ⟨i,j,rfl,rfl,?_⟩
   rw[Zrz]
   split
   ·rename_i h;exact .inl ⟨h,rfl⟩
   ·exact .inr rfl
  | _=>exact .inr rfl
 | _=>exact .inr rfl
theorem Zob:OpD X CL W (binaryOp .Pow) (Zdg .Pow):=ZfA Zrm fun dx dy=>by
 cases dx with
 | int i =>
  cases dy with
  | int j =>
   refine .inl ⟨i,j,rfl,rfl,?_⟩
   rw[Zq5]
   split
   ·rename_i h;exact .inl ⟨⟨h.1.1,h.1.2,by omega⟩,rfl⟩
   ·exact .inr rfl
  | _=>exact .inr rfl
 | _=>exact .inr rfl
theorem Zjz(op:Operator):OpD X CL W (binaryOp op) (Zdg op):=by
 cases op with
 | Add=>exact ZjA
 | Sub=>exact Zoa
 | Mult=>exact Zoc
 | FloorDiv=>exact Zlp
 | Mod=>exact Zod
 | Pow=>exact Zob
 | _ =>
  intro A pins s σ H x y v u Q I rx ry ⟨hA,dx,dy,hx,hy,p⟩
  cases dx<;>cases dy<;>exact p.elim
noncomputable abbrev A0:Addr->Prop:=fun _=>False
theorem Zc9.plain{K:PySem.W.Frag}{H:Hp}{A:Addr->Prop}{v:V}{d:D}(h:Zc9 K CL H A v d):Rep K CL H A0 v d:=by
 rcases h with h|⟨a,xs,ds,rfl,rfl,e,r⟩
 ·exact Rep.sub (fun _ z=>z.elim) d h
 ·exact⟨a,xs,rfl,.inl fun z=>z.elim,SqL.of e,Reps.sub (fun _ z=>z.elim) ds r⟩
mutual
theorem ZfK:∀ (n:Nat) (d:D),flD n d=true->eqD d d=true
 | _,.non,_=>rfl
 | _,.bl b,_=>by simp
 | _,.int i,_=>by simp
 | _,.str x,_=>by simp
 | n+1,.tup ds,h=>by
  show eqDs ds ds=true
  exact eqDs_refl n ds h
 | n+1,.lst ds,h=>by
  show eqDs ds ds=true
  exact eqDs_refl n ds h
 | 0,.tup ds,h=>by cases h
 | 0,.lst ds,h=>by cases h
 | n,.obj _ _,h=>by cases n<;>cases h
 | n,.exc _ _,h=>by cases n<;>cases h
 | n,.dic _,h=>by cases n<;>cases h
theorem eqDs_refl:∀ (n:Nat) (ds:List D),ds.all (flD n)=true->eqDs ds ds=true
 | _,[],_=>rfl
 | n,d::ds,h=>by
  simp only[List.all_cons,Bool.and_eq_true] at h
  simp only[ZeA,Bool.and_eq_true]
  exact⟨ZfK n d h.1,eqDs_refl n ds h.2⟩
end
theorem Zfo{pins:List (Addr×Obj)}{σ:L2.St}{H:Hp}{s:Shared}{a:Addr}{xs ys:List V}(I:Inv X pins σ H s)(h:SqL X.K H a xs)(h':SqT X.K H a ys):False:=by
 obtain⟨its,r,⟨o,n,e,c,_,_⟩,_⟩:=I.list h
 obtain⟨its',r',⟨o',e',c',_⟩,_⟩:=I.tuple h'
 rw[e] at e';cases e'
 rw[c] at c'
 injection c' with z
 exact absurd z (by decide)
mutual
theorem Zfz{pins:List (Addr×Obj)}{σ:L2.St}{H:Hp}{s:Shared}(I:Inv X pins σ H s):∀ (n:Nat) (d e:D) {v:V},flD n d=true->flD n e=true->Rep X.K CL H A0 v d->Rep X.K CL H A0 v e->d=e
 | n,.tup ds,e,v,hd,he,r,q=>by
  obtain⟨a,xs,rfl,_,s1,r1⟩:=r
  cases e with
  | tup es =>
   obtain⟨b,ys,e,_,s2,r2⟩:=q
   cases e
   have z:=I.tuple_inj s1 s2
   subst z
   cases n with
   | zero=>cases hd
   | succ n=>rw[reps_inj I n ds es hd he r1 r2]
  | lst es =>
   obtain⟨b,ys,e,_,s2,r2⟩:=q
   cases e
   exact(Zfo I s2 s1).elim
  | obj=>cases n<;>cases he
  | exc=>cases n<;>cases he
  | dic=>cases n<;>cases he
  | _=>cases q
 | n,.lst ds,e,v,hd,he,r,q=>by
  obtain⟨a,xs,rfl,_,s1,r1⟩:=r
  cases e with
  | lst es =>
   obtain⟨b,ys,e,_,s2,r2⟩:=q
   cases e
   have z:=I.list_inj s1 s2
   subst z
   cases n with
   | zero=>cases hd
   | succ n=>rw[reps_inj I n ds es hd he r1 r2]
  | tup es =>
   obtain⟨b,ys,e,_,s2,r2⟩:=q
   cases e
   exact(Zfo I s1 s2).elim
  | obj=>cases n<;>cases he
  | exc=>cases n<;>cases he
  | dic=>cases n<;>cases he
  | _=>cases q
 | n,.obj _ _,e,v,hd,he,r,q=>by cases n<;>cases hd
 | n,.exc _ _,e,v,hd,he,r,q=>by cases n<;>cases hd
 | n,.dic _,e,v,hd,he,r,q=>by cases n<;>cases hd
 | n,.non,e,v,hd,he,r,q=>by
  cases r
  cases e with
  | tup=>obtain⟨_,_,z,_⟩:=q;cases z
  | lst=>obtain⟨_,_,z,_⟩:=q;cases z
  | obj=>cases n<;>cases he
  | exc=>cases n<;>cases he
  | dic=>cases n<;>cases he
  | _=>cases q<;>rfl
 | n,.bl b,e,v,hd,he,r,q=>by
  cases r
  cases e with
  | tup=>obtain⟨_,_,z,_⟩:=q;cases z
  | lst=>obtain⟨_,_,z,_⟩:=q;cases z
  | obj=>cases n<;>cases he
  | exc=>cases n<;>cases he
  | dic=>cases n<;>cases he
  | _=>cases q<;>rfl
 | n,.int b,e,v,hd,he,r,q=>by
  cases r
  cases e with
  | tup=>obtain⟨_,_,z,_⟩:=q;cases z
  | lst=>obtain⟨_,_,z,_⟩:=q;cases z
  | obj=>cases n<;>cases he
  | exc=>cases n<;>cases he
  | dic=>cases n<;>cases he
  | _=>cases q<;>rfl
 | n,.str b,e,v,hd,he,r,q=>by
  cases r
  cases e with
  | tup=>obtain⟨_,_,z,_⟩:=q;cases z
  | lst=>obtain⟨_,_,z,_⟩:=q;cases z
  | obj=>cases n<;>cases he
  | exc=>cases n<;>cases he
  | dic=>cases n<;>cases he
  | _=>cases q<;>rfl
theorem reps_inj{pins:List (Addr×Obj)}{σ:L2.St}{H:Hp}{s:Shared}(I:Inv X pins σ H s):∀ (n:Nat) (ds es:List D) {xs:List V},ds.all (flD n)=true->es.all (flD n)=true->Reps X.K CL H A0 xs ds->Reps X.K CL H A0 xs es->ds=es
 | _,[],[],_,_,_,_,_=>rfl
 | n,d::ds,e::es,x::xs,hd,he,r,q=>by
  simp only[List.all_cons,Bool.and_eq_true] at hd he
  rw[Zfz I n d e hd.1 he.1 r.1 q.1,reps_inj I n ds es hd.2 he.2 r.2 q.2]
 | _,[],_::_,[],_,_,_,q=>q.elim
 | _,[],_::_,_::_,_,_,r,_=>r.elim
 | _,_::_,[],[],_,_,r,_=>r.elim
 | _,_::_,[],_::_,_,_,_,q=>q.elim
 | _,_::_,_::_,[],_,_,r,_=>r.elim
end
theorem Zdu:∀ {ds es:List D},ds.length≠es.length->eqDs ds es=false
 | [],[],h=>absurd rfl h
 | [],_::_,_=>rfl
 | _::_,[],_=>rfl
 | d::ds,e::es,h=>by
  simp only[ZeA,Zdu (ds:=ds) (es:=es) (by simpa using h),Bool.and_false]
theorem Zdd(n:Nat)(f:Nat->Bool):(List.range (n+1)).all f=(f 0&&(List.range n).all fun j=>f (j+1)):=by
 rw[List.range_succ_eq_map,List.all_cons,List.all_map]
 rfl
theorem Zdv:∀ {ds es:List D},ds.length=es.length->eqDs ds es=(List.range ds.length).all fun j=>eqD (ds.getD j .non) (es.getD j .non)
 | [],[],_=>rfl
 | d::ds,e::es,h=>by
  rw[ZeA,Zdv (ds:=ds) (es:=es) (by simpa using h),List.length_cons,Zdd]
  rfl
 | [],_::_,h=>by cases h
 | _::_,[],h=>by cases h
theorem ZeQ{K:PySem.W.Frag}{H:Hp}{xs:List V}{ds:List D}{its:List Value}(r:Reps K CL H A0 xs ds)(rv:ZaP xs its){j:Nat}(h:j<its.length) :
  ∃ x,Rep K CL H A0 x (ds.getD j .non)/\Zbb x its[j]:=by
 have e1:=rv.length
 have e2:=r.length
 have hd:ds[j]?=some (ds.getD j .non):=by
  rw[List.getD_eq_getElem?_getD,List.getElem?_eq_getElem (by omega)];rfl
 obtain⟨x,hx,q⟩:=r.get hd
 obtain⟨u,hu,ru⟩:=rv.get hx
 refine⟨x,q,?_⟩
 rw[List.getElem?_eq_getElem h] at hu
 cases hu
 exact ru
theorem Zcv{n:Nat}{ds:List D}(h:ds.all (flD n)=true)(j:Nat):flD n (ds.getD j .non)=true:=by
 rw[List.getD_eq_getElem?_getD]
 cases e:ds[j]? with
 | none=>cases n<;>rfl
 | some d=>exact List.all_eq_true.mp h d (List.mem_of_getElem? e)
def ZcK(B:Around)(s:Shared)(u t:Value)(k:Bool):Prop:=SeqAt.RcAt B s u t k/\SeqAt.EqAt B s u t k/\SeqAt.RcNeAt B s u t (!k)
section
variable {B:Around} {s:Shared}
open SeqAt
theorem ZvF:ZcK B s .none .none true:=⟨RcAt.none_none,EqAt.same _,RcNeAt.none_none⟩
theorem ZvZ(a b:Bool):ZcK B s (.bool a) (.bool b) (a == b):=⟨RcAt.bool_bool _ _,EqAt.bool_bool _ _,RcNeAt.bool_bool _ _⟩
theorem ZvI(b:Bool):ZcK B s .none (.bool b) false:=⟨RcAt.none_bool _,EqAt.none_bool _,RcNeAt.none_bool _⟩
theorem ZvW(b:Bool):ZcK B s (.bool b) .none false:=⟨RcAt.bool_none _,EqAt.bool_none _,RcNeAt.bool_none _⟩
theorem ZvS(a:Int)(t:Tok)(b:Int)(u:Tok):ZcK B s (.int a t) (.int b u) (a == b):=⟨RcAt.int_int _ _ _ _,EqAt.int_int _ _ _ _,RcNeAt.int_int _ _ _ _⟩
theorem Zvy(a:Str)(t:Tok)(b:Str)(u:Tok):ZcK B s (.str a t) (.str b u) (a == b):=⟨RcAt.str_str _ _ _ _,EqAt.str_str _ _ _ _,RcNeAt.str_str _ _ _ _⟩
theorem ZvP(a:Int)(t:Tok)(b:Str)(u:Tok):ZcK B s (.int a t) (.str b u) false:=⟨RcAt.int_str _ _ _ _,EqAt.int_str _ _ _ _,RcNeAt.int_str _ _ _ _⟩
theorem ZvB(a:Str)(t:Tok)(b:Int)(u:Tok):ZcK B s (.str a t) (.int b u) false:=⟨RcAt.str_int _ _ _ _,EqAt.str_int _ _ _ _,RcNeAt.str_int _ _ _ _⟩
theorem ZvH(b:Int)(u:Tok):ZcK B s .none (.int b u) false:=⟨RcAt.none_int _ _,EqAt.none_int _ _,RcNeAt.none_int _ _⟩
theorem ZvQ(b:Int)(u:Tok):ZcK B s (.int b u) .none false:=⟨RcAt.int_none _ _,EqAt.int_none _ _,RcNeAt.int_none _ _⟩
theorem ZvE(b:Str)(u:Tok):ZcK B s .none (.str b u) false:=⟨RcAt.none_str _ _,EqAt.none_str _ _,RcNeAt.none_str _ _⟩
theorem Zvz(b:Str)(u:Tok):ZcK B s (.str b u) .none false:=⟨RcAt.str_none _ _,EqAt.str_none _ _,RcNeAt.str_none _ _⟩
theorem ZvY(a:Bool)(b:Int)(u:Tok):ZcK B s (.bool a) (.int b u) (b2i a == b):=⟨RcAt.bool_int _ _ _,EqAt.bool_int _ _ _,RcNeAt.bool_int _ _ _⟩
theorem ZvT(a:Bool)(b:Int)(u:Tok):ZcK B s (.int b u) (.bool a) (b == b2i a):=⟨RcAt.int_bool _ _ _,EqAt.int_bool _ _ _,RcNeAt.int_bool _ _ _⟩
theorem ZvV(a:Bool)(b:Str)(u:Tok):ZcK B s (.bool a) (.str b u) false:=⟨RcAt.bool_str _ _ _,EqAt.bool_str _ _ _,RcNeAt.bool_str _ _ _⟩
theorem ZvC(a:Bool)(b:Str)(u:Tok):ZcK B s (.str b u) (.bool a) false:=⟨RcAt.str_bool _ _ _,EqAt.str_bool _ _ _,RcNeAt.str_bool _ _ _⟩
variable {l:Addr} {items:Array Value}
theorem ZvL(h:s.heap.IsList l items)(hu:B.units<cLine):ZcK B s (.ref l) .none false:=⟨RcAt.list_none h hu,EqAt.list_none h hu,RcNeAt.list_none h hu⟩
theorem ZvG(h:s.heap.IsList l items)(hu:B.units<cLine):ZcK B s .none (.ref l) false:=⟨RcAt.none_list h hu,EqAt.none_list h hu,RcNeAt.none_list h hu⟩
theorem ZvN(b:Bool)(h:s.heap.IsList l items)(hu:B.units<cLine):ZcK B s (.ref l) (.bool b) false:=⟨RcAt.list_bool b h hu,EqAt.list_bool b h hu,RcNeAt.list_bool b h hu⟩
theorem ZvX(b:Bool)(h:s.heap.IsList l items)(hu:B.units<cLine):ZcK B s (.bool b) (.ref l) false:=⟨RcAt.bool_list b h hu,EqAt.bool_list b h hu,RcNeAt.bool_list b h hu⟩
theorem ZvM(b:Int)(u:Tok)(h:s.heap.IsList l items)(hu:B.units<cLine):ZcK B s (.ref l) (.int b u) false:=⟨RcAt.list_int b u h hu,EqAt.list_int b u h hu,RcNeAt.list_int b u h hu⟩
theorem ZvR(b:Int)(u:Tok)(h:s.heap.IsList l items)(hu:B.units<cLine):ZcK B s (.int b u) (.ref l) false:=⟨RcAt.int_list b u h hu,EqAt.int_list b u h hu,RcNeAt.int_list b u h hu⟩
theorem ZvK(b:Str)(u:Tok)(h:s.heap.IsList l items)(hu:B.units<cLine):ZcK B s (.ref l) (.str b u) false:=⟨RcAt.list_str b u h hu,EqAt.list_str b u h hu,RcNeAt.list_str b u h hu⟩
theorem ZvA(b:Str)(u:Tok)(h:s.heap.IsList l items)(hu:B.units<cLine):ZcK B s (.str b u) (.ref l) false:=⟨RcAt.str_list b u h hu,EqAt.str_list b u h hu,RcNeAt.str_list b u h hu⟩
theorem Zvt(h:s.heap.IsTuple l items)(hu:B.units<cLine):ZcK B s (.ref l) .none false:=⟨RcAt.tuple_none h hu,EqAt.tuple_none h hu,RcNeAt.tuple_none h hu⟩
theorem ZvD(h:s.heap.IsTuple l items)(hu:B.units<cLine):ZcK B s .none (.ref l) false:=⟨RcAt.none_tuple h hu,EqAt.none_tuple h hu,RcNeAt.none_tuple h hu⟩
theorem Zvw(b:Bool)(h:s.heap.IsTuple l items)(hu:B.units<cLine):ZcK B s (.ref l) (.bool b) false:=⟨RcAt.tuple_bool b h hu,EqAt.tuple_bool b h hu,RcNeAt.tuple_bool b h hu⟩
theorem ZvU(b:Bool)(h:s.heap.IsTuple l items)(hu:B.units<cLine):ZcK B s (.bool b) (.ref l) false:=⟨RcAt.bool_tuple b h hu,EqAt.bool_tuple b h hu,RcNeAt.bool_tuple b h hu⟩
theorem Zvv(b:Int)(u:Tok)(h:s.heap.IsTuple l items)(hu:B.units<cLine):ZcK B s (.ref l) (.int b u) false:=⟨RcAt.tuple_int b u h hu,EqAt.tuple_int b u h hu,RcNeAt.tuple_int b u h hu⟩
theorem ZvO(b:Int)(u:Tok)(h:s.heap.IsTuple l items)(hu:B.units<cLine):ZcK B s (.int b u) (.ref l) false:=⟨RcAt.int_tuple b u h hu,EqAt.int_tuple b u h hu,RcNeAt.int_tuple b u h hu⟩
theorem Zvs(b:Str)(u:Tok)(h:s.heap.IsTuple l items)(hu:B.units<cLine):ZcK B s (.ref l) (.str b u) false:=⟨RcAt.tuple_str b u h hu,EqAt.tuple_str b u h hu,RcNeAt.tuple_str b u h hu⟩
theorem Zvx(b:Str)(u:Tok)(h:s.heap.IsTuple l items)(hu:B.units<cLine):ZcK B s (.str b u) (.ref l) false:=⟨RcAt.str_tuple b u h hu,EqAt.str_tuple b u h hu,RcNeAt.str_tuple b u h hu⟩
theorem ZvJ{b:Addr}{items2:Array Value}(h:s.heap.IsList l items)(h2:s.heap.IsTuple b items2)(hu:B.units<cLine):ZcK B s (.ref l) (.ref b) false:=⟨RcAt.list_tuple h h2 hu,EqAt.list_tuple h h2 hu,RcNeAt.list_tuple h h2 hu⟩
theorem Zvu{b:Addr}{items2:Array Value}(h:s.heap.IsTuple l items)(h2:s.heap.IsList b items2)(hu:B.units<cLine):ZcK B s (.ref l) (.ref b) false:=⟨RcAt.tuple_list h h2 hu,EqAt.tuple_list h h2 hu,RcNeAt.tuple_list h h2 hu⟩
end
end
end Ov
end
section
namespace Ov
open PySem PySem.Spec PyProof.Rows L2
section
variable {X:Cx} {CL:ClA} {W:XW}
theorem Zde{h:Heap}{a:Addr}{its:Array Value}(x:PlainL h a its):h.IsList a its:=let ⟨o,n,e,c,_,d⟩:=x;⟨o,e,c,n,d⟩
def Zz1(X:Cx)(CL:ClA)(H:Hp)(s:Shared)(d:D)(u:Value):Prop:=match d with
  | .non=>u=.none
  | .bl b=>u=.bool b
  | .int i=>∃ t,u=.int i t
  | .str x=>∃ t,u=.str x t
  | .tup ds=>∃ a xs its,u=.ref a/\Reps X.K CL H A0 xs ds/\ZaP xs its/\s.heap.IsTuple a its.toArray
  | .lst ds=>∃ a xs its,u=.ref a/\Reps X.K CL H A0 xs ds/\ZaP xs its/\s.heap.IsList a its.toArray
  | _=>False
theorem Zi8{pins:List (Addr×Obj)}{σ:L2.St}{H:Hp}{s:Shared}(I:Inv X pins σ H s){n:Nat}{d:D}{v:V}{u:Value}(hd:flD n d=true)(r:Rep X.K CL H A0 v d)(q:Zbb v u):Zz1 X CL H s d u:=by
 cases d with
 | non=>cases r;exact q
 | bl b=>cases r;exact q
 | int b=>cases r;exact q
 | str b=>cases r;exact q
 | tup ds =>
  obtain⟨a,xs,rfl,_,sq,r⟩:=r
  obtain⟨its,rv,p,_⟩:=I.tuple sq
  cases q
  exact⟨a,xs,its,rfl,r,rv,p⟩
 | lst ds =>
  obtain⟨a,xs,rfl,_,sq,r⟩:=r
  obtain⟨its,rv,p,_⟩:=I.list sq
  cases q
  exact⟨a,xs,its,rfl,r,rv,Zde p⟩
 | obj=>cases n<;>cases hd
 | exc=>cases n<;>cases hd
 | dic=>cases n<;>cases hd
theorem Znn{B:Around}{s:Shared}{l b:Addr}{its its2:List Value}{ds es:List D}(hl:s.heap.IsList l its.toArray)(hb:s.heap.IsList b its2.toArray)(e1:its.length=ds.length)(e2:its2.length=es.length)(hu:B.units<cLine)
  (hs:l=b->eqDs ds es=true)
  (he:∀ j (h1:j<its.length) (h2:j<its2.length),SeqAt.EqAt B.in1 s its[j] its2[j] (eqD (ds.getD j .non) (es.getD j .non))):ZcK B s (.ref l) (.ref b) (eqDs ds es):=by
 have rc:SeqAt.RcAt B s (.ref l) (.ref b) (eqDs ds es):=by
  by_cases hz:its.length=its2.length
  ·have q:=SeqAt.RcAt.lists (e:=fun j=>eqD (ds.getD j .non) (es.getD j .non)) hl hb (by simpa using hz) hu (fun j h1 h2=>by simpa using he j (by simpa using h1) (by simpa using h2))
   rw[Zdv (by omega)]
   have e:its.toArray.size=ds.length:=by simpa using e1
   rw[e] at q
   exact q
  ·rw[Zdu (by omega)]
   exact SeqAt.RcAt.lists_lengths hl hb (by simpa using hz) hu
 have ne:SeqAt.RcNeAt B s (.ref l) (.ref b) (!eqDs ds es):=by
  by_cases hz:its.length=its2.length
  ·have q:=SeqAt.RcNeAt.lists (e:=fun j=>eqD (ds.getD j .non) (es.getD j .non)) hl hb (by simpa using hz) hu (fun j h1 h2=>by simpa using he j (by simpa using h1) (by simpa using h2))
   rw[Zdv (by omega)]
   have e:its.toArray.size=ds.length:=by simpa using e1
   rw[e] at q
   exact q
  ·rw[Zdu (by omega)]
   exact SeqAt.RcNeAt.lists_lengths hl hb (by simpa using hz) hu
 refine⟨rc,?_,ne⟩
 by_cases hlb:l=b
 ·rw[hs hlb,hlb]
  exact SeqAt.EqAt.same _
 ·exact SeqAt.EqAt.of_refs hlb rc
theorem Znm{B:Around}{s:Shared}{l b:Addr}{its its2:List Value}{ds es:List D}(hl:s.heap.IsTuple l its.toArray)(hb:s.heap.IsTuple b its2.toArray)(e1:its.length=ds.length)(e2:its2.length=es.length)(hu:B.units<cLine)
  (hs:l=b->eqDs ds es=true)
  (he:∀ j (h1:j<its.length) (h2:j<its2.length),SeqAt.EqAt B.in1 s its[j] its2[j] (eqD (ds.getD j .non) (es.getD j .non))):ZcK B s (.ref l) (.ref b) (eqDs ds es):=by
 have rc:SeqAt.RcAt B s (.ref l) (.ref b) (eqDs ds es):=by
  have q:=SeqAt.RcAt.tuples (e:=fun j=>eqD (ds.getD j .non) (es.getD j .non)) hl hb hu (fun j h1 h2=>by simpa using he j (by simpa using h1) (by simpa using h2))
  have e:its.toArray.size=ds.length:=by simpa using e1
  have e':its2.toArray.size=es.length:=by simpa using e2
  rw[e,e'] at q
  by_cases hz:ds.length=es.length
  ·rw[Zdv hz]
   rw[hz,Nat.min_self,beq_self_eq_true,Bool.and_true] at q
   rw[hz]
   exact q
  ·rw[Zdu hz]
   rw[beq_eq_false_iff_ne.mpr hz,Bool.and_false] at q
   exact q
 have ne:SeqAt.RcNeAt B s (.ref l) (.ref b) (!eqDs ds es):=by
  have q:=SeqAt.RcNeAt.tuples (e:=fun j=>eqD (ds.getD j .non) (es.getD j .non)) hl hb hu (fun j h1 h2=>by simpa using he j (by simpa using h1) (by simpa using h2))
  have e:its.toArray.size=ds.length:=by simpa using e1
  have e':its2.toArray.size=es.length:=by simpa using e2
  rw[e,e'] at q
  by_cases hz:ds.length=es.length
  ·rw[Zdv hz]
   rw[hz,Nat.min_self,beq_self_eq_true,Bool.and_true] at q
   rw[hz]
   exact q
  ·rw[Zdu hz]
   rw[beq_eq_false_iff_ne.mpr hz,Bool.and_false] at q
   exact q
 refine⟨rc,?_,ne⟩
 by_cases hlb:l=b
 ·rw[hs hlb,hlb]
  exact SeqAt.EqAt.same _
 ·exact SeqAt.EqAt.of_refs hlb rc
theorem Zgi{pins:List (Addr×Obj)}{σ:L2.St}{H:Hp}{s:Shared}(I:Inv X pins σ H s):∀ (n:Nat) (d e:D) (v w':V) (u t:Value) (B:Around),flD n d=true->flD n e=true->Rep X.K CL H A0 v d->Rep X.K CL H A0 w' e->Zbb v u->Zbb w' t->B.units+n<cLine ->
    ZcK B s u t (eqD d e)
  | n,d,e,v,w',u,t,B,hd,he,r,q,rv,rw',hu=>by
    have hu0:B.units<cLine:=by omega
    have sd:=Zi8 I hd r rv
    have se:=Zi8 I he q rw'
    match d,e,sd,se with
    | .non,.non,s1,s2=>cases s1;cases s2;exact ZvF
    | .non,.bl b,s1,s2=>cases s1;cases s2;exact ZvI b
    | .non,.int b,s1,s2=>cases s1;obtain⟨_,rfl⟩:=s2;exact ZvH b _
    | .non,.str b,s1,s2=>cases s1;obtain⟨_,rfl⟩:=s2;exact ZvE b _
    | .non,.tup es,s1,s2=>cases s1;obtain⟨_,_,_,rfl,_,_,p⟩:=s2;exact ZvD p hu0
    | .non,.lst es,s1,s2=>cases s1;obtain⟨_,_,_,rfl,_,_,p⟩:=s2;exact ZvG p hu0
    | .bl a,.non,s1,s2=>cases s1;cases s2;exact ZvW a
    | .bl a,.bl b,s1,s2=>cases s1;cases s2;exact ZvZ a b
    | .bl a,.int b,s1,s2=>cases s1;obtain⟨_,rfl⟩:=s2;exact ZvY a b _
    | .bl a,.str b,s1,s2=>cases s1;obtain⟨_,rfl⟩:=s2;exact ZvV a b _
    | .bl a,.tup es,s1,s2=>cases s1;obtain⟨_,_,_,rfl,_,_,p⟩:=s2;exact ZvU a p hu0
    | .bl a,.lst es,s1,s2=>cases s1;obtain⟨_,_,_,rfl,_,_,p⟩:=s2;exact ZvX a p hu0
    | .int a,.non,s1,s2=>obtain⟨_,rfl⟩:=s1;cases s2;exact ZvQ a _
    | .int a,.bl b,s1,s2=>obtain⟨_,rfl⟩:=s1;cases s2;exact ZvT b a _
    | .int a,.int b,s1,s2=>obtain⟨_,rfl⟩:=s1;obtain⟨_,rfl⟩:=s2;exact ZvS a _ b _
    | .int a,.str b,s1,s2=>obtain⟨_,rfl⟩:=s1;obtain⟨_,rfl⟩:=s2;exact ZvP a _ b _
    | .int a,.tup es,s1,s2=>obtain⟨_,rfl⟩:=s1;obtain⟨_,_,_,rfl,_,_,p⟩:=s2;exact ZvO a _ p hu0
    | .int a,.lst es,s1,s2=>obtain⟨_,rfl⟩:=s1;obtain⟨_,_,_,rfl,_,_,p⟩:=s2;exact ZvR a _ p hu0
    | .str a,.non,s1,s2=>obtain⟨_,rfl⟩:=s1;cases s2;exact Zvz a _
    | .str a,.bl b,s1,s2=>obtain⟨_,rfl⟩:=s1;cases s2;exact ZvC b a _
    | .str a,.int b,s1,s2=>obtain⟨_,rfl⟩:=s1;obtain⟨_,rfl⟩:=s2;exact ZvB a _ b _
    | .str a,.str b,s1,s2=>obtain⟨_,rfl⟩:=s1;obtain⟨_,rfl⟩:=s2;exact Zvy a _ b _
    | .str a,.tup es,s1,s2=>obtain⟨_,rfl⟩:=s1;obtain⟨_,_,_,rfl,_,_,p⟩:=s2;exact Zvx a _ p hu0
    | .str a,.lst es,s1,s2=>obtain⟨_,rfl⟩:=s1;obtain⟨_,_,_,rfl,_,_,p⟩:=s2;exact ZvA a _ p hu0
    | .tup ds,.non,s1,s2=>cases s2;obtain⟨_,_,_,rfl,_,_,p⟩:=s1;exact Zvt p hu0
    | .tup ds,.bl b,s1,s2=>cases s2;obtain⟨_,_,_,rfl,_,_,p⟩:=s1;exact Zvw b p hu0
    | .tup ds,.int b,s1,s2=>obtain⟨_,rfl⟩:=s2;obtain⟨_,_,_,rfl,_,_,p⟩:=s1;exact Zvv b _ p hu0
    | .tup ds,.str b,s1,s2=>obtain⟨_,rfl⟩:=s2;obtain⟨_,_,_,rfl,_,_,p⟩:=s1;exact Zvs b _ p hu0
    | .tup ds,.lst es,s1,s2=>obtain⟨_,_,_,rfl,_,_,p⟩:=s1;obtain⟨_,_,_,rfl,_,_,p2⟩:=s2;exact Zvu p p2 hu0
    | .lst ds,.non,s1,s2=>cases s2;obtain⟨_,_,_,rfl,_,_,p⟩:=s1;exact ZvL p hu0
    | .lst ds,.bl b,s1,s2=>cases s2;obtain⟨_,_,_,rfl,_,_,p⟩:=s1;exact ZvN b p hu0
    | .lst ds,.int b,s1,s2=>obtain⟨_,rfl⟩:=s2;obtain⟨_,_,_,rfl,_,_,p⟩:=s1;exact ZvM b _ p hu0
    | .lst ds,.str b,s1,s2=>obtain⟨_,rfl⟩:=s2;obtain⟨_,_,_,rfl,_,_,p⟩:=s1;exact ZvK b _ p hu0
    | .lst ds,.tup es,s1,s2=>obtain⟨_,_,_,rfl,_,_,p⟩:=s1;obtain⟨_,_,_,rfl,_,_,p2⟩:=s2;exact ZvJ p p2 hu0
    | .tup ds,.tup es,s1,s2 =>
      match n,hd,he,hu with
      | n+1,hd,he,hu =>
        obtain⟨a,xs,its,rfl,r1,v1,p1⟩:=s1
        obtain⟨b,ys,its2,rfl,r2,v2,p2⟩:=s2
        have l1:=v1.length;have l2:=r1.length;have l3:=v2.length;have l4:=r2.length
        refine Znm p1 p2 (by omega) (by omega) hu0 (fun hab=>?_) fun j h1 h2=>?_
        · have e1:v=.ref a:=Zbb.inj rv rfl
          have e2:w'=.ref b:=Zbb.inj rw' rfl
          subst e1 e2 hab
          have z:=Zfz I (n+1) _ _ hd he r q
          injection z with z
          rw[z]
          exact eqDs_refl n es he
        · obtain⟨x,rx,qx⟩:=ZeQ r1 v1 h1
          obtain⟨y,ry,qy⟩:=ZeQ r2 v2 h2
          exact(Zgi I n _ _ x y _ _ B.in1 (Zcv hd j) (Zcv he j) rx ry qx qy (by show B.units+1+n<cLine;omega)).2.1
    | .lst ds,.lst es,s1,s2 =>
      match n,hd,he,hu with
      | n+1,hd,he,hu =>
        obtain⟨a,xs,its,rfl,r1,v1,p1⟩:=s1
        obtain⟨b,ys,its2,rfl,r2,v2,p2⟩:=s2
        have l1:=v1.length;have l2:=r1.length;have l3:=v2.length;have l4:=r2.length
        refine Znn p1 p2 (by omega) (by omega) hu0 (fun hab=>?_) fun j h1 h2=>?_
        · have e1:v=.ref a:=Zbb.inj rv rfl
          have e2:w'=.ref b:=Zbb.inj rw' rfl
          subst e1 e2 hab
          have z:=Zfz I (n+1) _ _ hd he r q
          injection z with z
          rw[z]
          exact eqDs_refl n es he
        · obtain⟨x,rx,qx⟩:=ZeQ r1 v1 h1
          obtain⟨y,ry,qy⟩:=ZeQ r2 v2 h2
          exact(Zgi I n _ _ x y _ _ B.in1 (Zcv hd j) (Zcv he j) rx ry qx qy (by show B.units+1+n<cLine;omega)).2.1
    | .obj _ _,_,s1,_=>exact s1.elim
    | .exc _ _,_,s1,_=>exact s1.elim
    | .dic _,_,s1,_=>exact s1.elim
    | _,.obj _ _,_,s2=>exact s2.elim
    | _,.exc _ _,_,s2=>exact s2.elim
    | _,.dic _,_,s2=>exact s2.elim
end
end Ov
end
section
namespace Ov
open PySem PySem.Spec PyProof.Rows L2
section
variable {X:Cx} {CL:ClA} {W:XW}
theorem ZhS{pins:List (Addr×Obj)}{σ:L2.St}{H:Hp}{s:Shared}(I:Inv X pins σ H s){n:Nat}{xs:List V}{ds:List D}{its:List Value}{d:D}{v:V}{u:Value}(B:Around)(hd:flD n d=true)(hs:ds.all (flD n)=true)
  (r:Reps X.K CL H A0 xs ds) (rv:ZaP xs its) (q:Rep X.K CL H A0 v d) (qv:Zbb v u) (hu:B.units+n<cLine) :
  ∃ e:Value->Bool,(∀ y,y∈its.toArray->SeqAt.EqAt B s y u (e y))/\its.toArray.any e=ds.any fun y=>eqD y d:=by
 have l1:=rv.length;have l2:=r.length
 have key:∀ y,y∈its->∃ k:Bool,SeqAt.EqAt B s y u k/\∀ j (h:j<its.length),its[j]=y->eqD (ds.getD j .non) d=k:=fun y hy=>by
  obtain⟨j,hj,rfl⟩:=List.getElem_of_mem hy
  obtain⟨x,rx,qx⟩:=ZeQ r rv hj
  refine⟨eqD (ds.getD j .non) d,(Zgi I n _ _ x v _ _ B (Zcv hs j) hd rx q qx qv hu).2.1,fun j' hj' e=>?_⟩
  obtain⟨x',rx',qx'⟩:=ZeQ r rv hj'
  rw[e] at qx'
  have z:=Zbb.inj qx qx'
  subst z
  rw[Zfz I n _ _ (Zcv hs j') (Zcv hs j) rx' rx]
 have key2:∀ y,∃ k:Bool,y∈its->SeqAt.EqAt B s y u k/\∀ j (h:j<its.length),its[j]=y->eqD (ds.getD j .non) d=k:=fun y=>by
  by_cases hy:y∈its
  ·obtain⟨k,hk⟩:=key y hy;exact⟨k,fun _=>hk⟩
  ·exact⟨true,fun h=>absurd h hy⟩
 refine⟨fun y=>Classical.choose (key2 y),fun y hy=>(Classical.choose_spec (key2 y) (by simpa using hy)).1,?_⟩
 rw[Bool.eq_iff_iff]
 simp only[List.any_toArray,List.any_eq_true]
 constructor
 ·rintro⟨y,hy,hk⟩
  obtain⟨j,hj,rfl⟩:=List.getElem_of_mem hy
  have z:=(Classical.choose_spec (key2 its[j]) hy).2 j hj rfl
  rw[hk] at z
  refine⟨ds.getD j .non,?_,z⟩
  rw[List.getD_eq_getElem?_getD,List.getElem?_eq_getElem (by omega)]
  exact List.getElem_mem _
 ·rintro⟨y,hy,hk⟩
  obtain⟨j,hj,rfl⟩:=List.getElem_of_mem hy
  have hj':j<its.length:=by omega
  refine⟨its[j],List.getElem_mem _,?_⟩
  have z:=(Classical.choose_spec (key2 its[j]) (List.getElem_mem _)).2 j hj' rfl
  rw[<- z,List.getD_eq_getElem?_getD,List.getElem?_eq_getElem hj]
  exact hk
theorem Zem{op:CmpOp}{g:Int->Int->Bool}(ho:OpR X (compareOp op) (rI0 fun i j=>.bl (g i j)))(hg:∀ dx dy,(∃ i j,dx=.int i/\dy=.int j/\Zbt op dx dy=.ok (.bl (g i j)))\/Zbt op dx dy=.bad):OpD X CL W (compareOp op) (Zbt op):=by
 intro A pins s σ H x y v u Q I rx ry ⟨hA,dx,dy,hx,hy,p⟩
 rcases hg dx dy with ⟨i,j,rfl,rfl,e⟩|e
 ·have ex:=hx.int_of;have ey:=hy.int_of
  subst ex ey
  rw[e] at p
  exact ho pins s σ H _ _ v u Q I rx ry ⟨i,j,rfl,rfl,p _ H (Zaj.refl H) rfl⟩
 ·rw[e] at p;exact p.elim
theorem Zmk{A:Addr->Prop}{H:Hp}{x:V}{d:D}(h:Zc9 X.K CL H A x d)(hd:d≠.non):x≠.non:=by
 rintro rfl
 have h:=h.plain
 cases d with
 | non=>exact hd rfl
 | tup=>obtain⟨_,_,e,_⟩:=h;cases e
 | lst=>obtain⟨_,_,e,_⟩:=h;cases e
 | obj=>obtain⟨_,_,_,_,e,_⟩:=h;cases e
 | exc=>obtain⟨_,_,_,e,_⟩:=h;cases e
 | dic=>exact h.elim
 | _=>cases h
theorem ZdI(hu:X.A.units+64<cLine)(op:CmpOp):OpD X CL W (compareOp op) (Zbt op):=by
 cases op with
 | Eq =>
  intro A pins s σ H x y v u Q I rx ry ⟨hA,dx,dy,hx,hy,p⟩
  rw[Zxz] at p
  split at p
  ·rename_i h
   simp only[Bool.and_eq_true] at h
   exact(Zgi I 5 dx dy x y v u X.A h.1 h.2 hx.plain hy.plain rx ry (by omega)).1 X.prog X.w X.xe _ ⟨.bl _,H,I,rfl,p _ H (Zaj.refl H) rfl⟩
  ·exact p.elim
 | NotEq =>
  intro A pins s σ H x y v u Q I rx ry ⟨hA,dx,dy,hx,hy,p⟩
  rw[Zwz] at p
  split at p
  ·rename_i h
   simp only[Bool.and_eq_true] at h
   exact(Zgi I 5 dx dy x y v u X.A h.1 h.2 hx.plain hy.plain rx ry (by omega)).2.2 X.prog X.w X.xe _ ⟨.bl _,H,I,rfl,p _ H (Zaj.refl H) rfl⟩
  ·exact p.elim
 | Lt=>exact Zem Zwo fun dx dy=>by cases dx<;>cases dy<;>first|exact .inl ⟨_,_,rfl,rfl,rfl⟩|exact .inr rfl
 | LtE=>exact Zem Zwp fun dx dy=>by cases dx<;>cases dy<;>first|exact .inl ⟨_,_,rfl,rfl,rfl⟩|exact .inr rfl
 | Gt=>exact Zem Zwq fun dx dy=>by cases dx<;>cases dy<;>first|exact .inl ⟨_,_,rfl,rfl,rfl⟩|exact .inr rfl
 | GtE=>exact Zem Zwr fun dx dy=>by cases dx<;>cases dy<;>first|exact .inl ⟨_,_,rfl,rfl,rfl⟩|exact .inr rfl
 | In =>
  intro A pins s σ H x y v u Q I rx ry ⟨hA,dx,dy,hx,hy,p⟩
  cases dy with
  | lst es =>
   rw[ZzM] at p
   split at p
   ·rename_i h
    simp only[Bool.and_eq_true] at h
    obtain⟨a,xs,e,_,sq,r⟩:=hy.plain
    subst e
    cases ry
    obtain⟨its,rv,pl,_⟩:=I.list sq
    obtain⟨e,he,ha⟩:=ZhS I (n:=5) X.A.in1 h.1 h.2 r rv hx.plain rx (by show X.A.units+1+5<cLine;omega)
    refine SeqAt.in_listAt e (Zde pl) he ?_
    rw[ha]
    exact⟨.bl _,H,I,rfl,p _ H (Zaj.refl H) rfl⟩
   ·exact p.elim
  | tup es =>
   rw[ZzL] at p
   split at p
   ·rename_i h
    simp only[Bool.and_eq_true] at h
    obtain⟨a,xs,e,_,sq,r⟩:=hy.plain
    subst e
    cases ry
    obtain⟨its,rv,pl,_⟩:=I.tuple sq
    obtain⟨e,he,ha⟩:=ZhS I (n:=5) X.A.in1 h.1 h.2 r rv hx.plain rx (by show X.A.units+1+5<cLine;omega)
    refine SeqAt.in_tupleAt e pl he ?_
    rw[ha]
    exact⟨.bl _,H,I,rfl,p _ H (Zaj.refl H) rfl⟩
   ·exact p.elim
  | dic kvs=>exact hy.plain.elim
  | _=>cases dx<;>exact p.elim
 | NotIn =>
  intro A pins s σ H x y v u Q I rx ry ⟨hA,dx,dy,hx,hy,p⟩
  cases dy with
  | lst es =>
   rw[Zwx] at p
   split at p
   ·rename_i h
    simp only[Bool.and_eq_true] at h
    obtain⟨a,xs,e,_,sq,r⟩:=hy.plain
    subst e
    cases ry
    obtain⟨its,rv,pl,_⟩:=I.list sq
    obtain⟨e,he,ha⟩:=ZhS I (n:=5) X.A.in1 h.1 h.2 r rv hx.plain rx (by show X.A.units+1+5<cLine;omega)
    refine SeqAt.notIn_listAt e (Zde pl) he ?_
    rw[ha]
    exact⟨.bl _,H,I,rfl,p _ H (Zaj.refl H) rfl⟩
   ·exact p.elim
  | tup es =>
   rw[Zww] at p
   split at p
   ·rename_i h
    simp only[Bool.and_eq_true] at h
    obtain⟨a,xs,e,_,sq,r⟩:=hy.plain
    subst e
    cases ry
    obtain⟨its,rv,pl,_⟩:=I.tuple sq
    obtain⟨e,he,ha⟩:=ZhS I (n:=5) X.A.in1 h.1 h.2 r rv hx.plain rx (by show X.A.units+1+5<cLine;omega)
    refine SeqAt.notIn_tupleAt e pl he ?_
    rw[ha]
    exact⟨.bl _,H,I,rfl,p _ H (Zaj.refl H) rfl⟩
   ·exact p.elim
  | _=>cases dx<;>exact p.elim
 | Is =>
  intro A pins s σ H x y v u Q I rx ry ⟨hA,dx,dy,hx,hy,p⟩
  cases dy with
  | non =>
   have ey:=hy.non_of
   subst ey
   refine Zro pins s σ H _ _ v u Q I rx ry ⟨rfl,?_⟩
   cases dx with
   | non =>
    have ex:=hx.non_of
    subst ex
    exact p _ H (Zaj.refl H) rfl
   | exc=>exact p.elim
   | dic=>exact p.elim
   | _=>rw[decide_eq_false (Zmk hx (by simp))];exact p _ H (Zaj.refl H) rfl
  | bl b =>
   cases dx with
   | bl a =>
    have ey:=hy.bl_of
    have ex:=hx.bl_of
    subst ex ey
    cases rx
    cases ry
    refine wpAny_is_plain rfl ⟨.bl (a == b),H,I,?_,p _ H (Zaj.refl H) rfl⟩
    cases a<;>cases b<;>rfl
   | _=>exact p.elim
  | _=>cases dx<;>exact p.elim
 | IsNot =>
  intro A pins s σ H x y v u Q I rx ry ⟨hA,dx,dy,hx,hy,p⟩
  cases dy with
  | non =>
   have ey:=hy.non_of
   subst ey
   refine Zoe pins s σ H _ _ v u Q I rx ry ⟨rfl,?_⟩
   cases dx with
   | non =>
    have ex:=hx.non_of
    subst ex
    exact p _ H (Zaj.refl H) rfl
   | exc=>exact p.elim
   | dic=>exact p.elim
   | _=>rw[decide_eq_false (Zmk hx (by simp))];exact p _ H (Zaj.refl H) rfl
  | bl b =>
   cases dx with
   | bl a =>
    have ey:=hy.bl_of
    have ex:=hx.bl_of
    subst ex ey
    cases rx
    cases ry
    refine wpAny_isNot_plain rfl ⟨.bl (!(a == b)),H,I,?_,p _ H (Zaj.refl H) rfl⟩
    cases a<;>cases b<;>rfl
   | _=>exact p.elim
  | _=>cases dx<;>exact p.elim
end
end Ov
end
section
namespace Ov
open PySem PySem.Spec PyProof.Rows L2
section
variable {X:Cx} {CL:ClA} {W:XW} {a b c:Expr} {fa fb fc:Rho->R D} {pos:Pos}
theorem Za2.bind{Rp:Hp->V->D->Prop}{W:XW}{H:Hp}{r:R D}{f:D->R Bool}{Q:Bool->Hp->Prop}{Q':VK}(h:Za2 W H (r.bind f) Q)(k:∀ d v H',r=.ok d->Zaj H H'->Rp H' v d->Za2 W H' (f d) Q->Q' v H'):ZaJ Rp W H r Q':=by
 cases r with
 | ok d=>exact fun v H2 s2 q=>k d v H2 rfl s2 q (Za2.same s2 h)
 | exn x=>exact h
 | bad=>exact h
theorem Za2.bindB{W:XW}{H:Hp}{r:R Bool}{f:Bool->R Bool}{Q:Bool->Hp->Prop}{Q':Bool->Hp->Prop}(h:Za2 W H (r.bind f) Q)(k:∀ b H',r=.ok b->Zaj H H'->Za2 W H' (f b) Q->Q' b H'):Za2 W H r Q':=by
 cases r with
 | ok d=>exact fun H2 s2=>k d H2 rfl s2 (Za2.same s2 h)
 | exn x=>exact h
 | bad=>exact h
theorem ZeZ.bind{Rp:Hp->List V->List D->Prop}{Rq:Hp->V->D->Prop}{W:XW}{H:Hp}{r:R (List D)}{f:List D->R D}{Q:VK}{Q':List V->Hp->Prop}(h:ZaJ Rq W H (r.bind f) Q)(k:∀ d v H',r=.ok d->Zaj H H'->Rp H' v d->ZaJ Rq W H' (f d) Q->Q' v H'):ZeZ Rp W H r Q':=by
 cases r with
 | ok d=>exact fun v H2 s2 q=>k d v H2 rfl s2 q (ZaJ.same s2 h)
 | exn x=>exact h
 | bad=>exact h
theorem Zqv(ha:ST X CL W a fa):SE X CL W (.UnaryOp .USub a pos) (fun ρ=>(fa ρ).bind fun x=>unD .USub x):=fun A=>PE.weak (Zwg ZpZ (ha A)) fun σ H Q ⟨hA,ρ,g,p⟩=>⟨hA,ρ,g,ZaJ.bind p fun d v H1 _ s1 r1 p1=>by
 cases d with
 | int i =>
  have e:=r1.int_of
  subst e
  exact⟨i,rfl,p1 _ H1 (Zaj.refl H1) rfl⟩
 | _=>exact p1.elim⟩
theorem ZdE{Rq:Hp->V->D->Prop}{H:Hp}{d:D}{f:Bool->R D}{Q:VK}(h:ZaJ Rq W H ((Zd8 d).bind f) Q):∃ c,d=.bl c/\ZaJ Rq W H (f c) Q:=by
 cases d with
 | bl c=>exact⟨c,rfl,h⟩
 | _=>exact h.elim
theorem Zl3(ha:ST X CL W a fa):SE X CL W (.UnaryOp .Not a pos) (fun ρ=>(fa ρ).bind fun x=>(Zd8 x).bind fun b=>.ok (.bl (!b))):=fun A=>PE.weak (Zrc (ha A)) fun σ H Q ⟨hA,ρ,g,p⟩=>⟨hA,ρ,g,ZaJ.bind p fun d v H1 _ s1 r1 p1=>by
 obtain⟨c,rfl,p2⟩:=ZdE p1
 exact⟨c,r1.bl_of,p2 _ H1 (Zaj.refl H1) rfl⟩⟩
theorem Zi9{op}(ha:SE X CL W a fa):SE X CL W (.BoolOp op [a] pos) fa:=fun A=>Zrb (ha A)
theorem Zl6{rest:List Expr}(ha:SE X CL W a fa)(hb:SE X CL W (.BoolOp .And (b::rest) pos) fb):SE X CL W (.BoolOp .And (a::b::rest) pos) (fun ρ=>(fa ρ).bind fun x=>(Zd8 x).bind fun c=>if c=true then fb ρ else .ok (.bl false)) :=
 fun A=>PE.weak (Zrh (ha A) (hb A)) fun σ H Q ⟨hA,ρ,g,p⟩=>⟨hA,ρ,g,ZaJ.bind p fun d v H1 _ s1 r1 p1=>by
  obtain⟨c,rfl,p2⟩:=ZdE p1
  refine⟨c,r1,?_⟩
  cases c with
  | true=>exact⟨hA.same s1,ρ,g.same s1,p2⟩
  | false=>exact p2 _ H1 (Zaj.refl H1) rfl⟩
theorem Zvo{rest:List Expr}(ha:SE X CL W a fa)(hb:SE X CL W (.BoolOp .Or (b::rest) pos) fb):SE X CL W (.BoolOp .Or (a::b::rest) pos) (fun ρ=>(fa ρ).bind fun x=>(Zd8 x).bind fun c=>if c=true then .ok (.bl true) else fb ρ) :=
 fun A=>PE.weak (Zwh (ha A) (hb A)) fun σ H Q ⟨hA,ρ,g,p⟩=>⟨hA,ρ,g,ZaJ.bind p fun d v H1 _ s1 r1 p1=>by
  obtain⟨c,rfl,p2⟩:=ZdE p1
  refine⟨c,r1,?_⟩
  cases c with
  | false=>exact⟨hA.same s1,ρ,g.same s1,p2⟩
  | true=>exact p2 _ H1 (Zaj.refl H1) rfl⟩
theorem Zk6{op op':CmpOp}(hu:X.A.units+64<cLine)(ha:ST X CL W a fa)(hb:ST X CL W b fb)(hc:ST X CL W c fc)(hm:lastMarks [op,op'] [b,c]=false) :
  SE X CL W (.Compare a [op,op'] [b,c] pos) (fun ρ=>(fa ρ).bind fun x=>(fb ρ).bind fun y=>(Zbt op x y).bind fun z=>(Zd8 z).bind fun k=>if k=true then (fc ρ).bind fun u=>Zbt op' y u else .ok (.bl false)) :=
 fun A=>PE.weak (Zln (ZdI hu op A) (ZdI hu op' A) (ha A) (hb A) (hc A) hm) fun σ H Q ⟨hA,ρ,g,p⟩=>⟨hA,ρ,g,ZaJ.bind p fun dx x H1 _ s1 r1 p1=>⟨hA.same s1,ρ,g.same s1,ZaJ.bind p1 fun dy y H2 _ s2 r2 p2 =>
  ⟨(hA.same s1).same s2,dx,dy,r1.same s2,r2,ZaJ.bind p2 fun dz z H3 _ s3 r3 p3=>by
   obtain⟨k,rfl,p4⟩:=ZdE p3
   refine⟨k,r3,?_⟩
   cases k with
   | false=>exact p4 _ H3 (Zaj.refl H3) rfl
   | true=>exact⟨((hA.same s1).same s2).same s3,ρ,((g.same s1).same s2).same s3,ZaJ.bind p4 fun du u H4 _ s4 r4 p5=>⟨(((hA.same s1).same s2).same s3).same s4,dy,du,(r2.same s3).same s4,r4,p5⟩⟩⟩⟩⟩
theorem ZoG{xs:List D}{i:Int}{d:D}(h:Zdf xs i=.ok d):∃ k,plD xs.length i=some k/\xs[k]?=some d:=by
 unfold Zdf at h
 split at h
 ·rename_i k e
  split at h
  ·rename_i d' e';cases h;exact⟨k,e,e'⟩
  ·cases h
 ·cases h
theorem ZhT{xs:List D}{i:Int}{x:Ex}(h:Zdf xs i=.exn x):False:=by
 unfold Zdf at h
 split at h
 ·split at h<;>cases h
 ·cases h
theorem Zkt{K:PySem.W.Frag}{H:Hp}{A:Addr->Prop}{xs:List V}{ds:List D}{i:Int}{d:D}(r:Reps K CL H A xs ds)(h:Zdf ds i=.ok d):∃ v,atI xs i=some v/\Rep K CL H A v d:=by
 obtain⟨k,e,q⟩:=ZoG h
 obtain⟨v,hv,rv⟩:=r.get q
 refine⟨v,?_,rv⟩
 unfold atI
 have:ixN xs.length i=some k:=by rw[r.length];exact e
 rw[this]
 exact hv
theorem ZqB(hs:Zhf b)(ha:ST X CL W a fa)(hb:ST X CL W b fb):SE X CL W (.Subscript a b pos) (fun ρ=>(fa ρ).bind fun x=>(fb ρ).bind fun y=>Zbc x y) :=
 fun A=>PE.weak (Zwi (r:=fun x y H Q=>Zyt X.K x y H Q\/Zys X.K x y H Q) (Zox.or ZrK) (ha A) (hb A) hs) fun σ H Q h=>by
  obtain⟨hA,ρ,g,h⟩:=op2 h
  refine⟨hA,ρ,g,?_⟩
  cases e:fa ρ with
  | bad=>rw[e] at h;exact h
  | exn x=>rw[e] at h;exact h
  | ok dx0 =>
   rw[e] at h
   intro x H1 s1 r1
   obtain⟨hA1,ρ1,g1,h1⟩:=h x H1 s1 r1
   refine⟨hA1,ρ1,g1,?_⟩
   cases e1:fb ρ1 with
   | bad=>rw[e1] at h1;exact h1
   | exn x=>rw[e1] at h1;exact h1
   | ok dy0 =>
    rw[e1] at h1
    intro y H2 s2 r2
    obtain⟨hA2,dx,dy,rx,ry,p⟩:=h1 y H2 s2 r2
    cases dy with
    | int i =>
     have ey:=ry.int_of
     subst ey
     cases dx with
     | lst ds =>
      obtain⟨q,xs,rfl,sq,r⟩:=rx.lst_of
      rw[ZwU] at p
      cases e2:Zdf ds i with
      | ok d =>
       rw[e2] at p
       obtain⟨v,hv,rv⟩:=Zkt r e2
       exact .inl ⟨q,xs,i,v,rfl,rfl,sq,hv,p v H2 (Zaj.refl H2) rv⟩
      | exn x=>exact(ZhT e2).elim
      | bad=>rw[e2] at p;exact p.elim
     | tup ds =>
      obtain⟨q,xs,rfl,_,sq,r⟩:=rx.tup_of
      rw[ZwT] at p
      cases e2:Zdf ds i with
      | ok d =>
       rw[e2] at p
       obtain⟨v,hv,rv⟩:=Zkt r e2
       exact .inr ⟨q,xs,i,v,rfl,rfl,sq,hv,p v H2 (Zaj.refl H2) rv⟩
      | exn x=>exact(ZhT e2).elim
      | bad=>rw[e2] at p;exact p.elim
     | dic=>exact rx.plain.elim
     | _=>exact p.elim
    | _=>cases dx<;>first|exact p.elim|exact rx.plain.elim
theorem Zl7:SA X CL W [] (fun _=>.ok []):=fun A=>PA.weak Zb6 fun σ H Q ⟨hA,ρ,g,p⟩=>p [] H (Zaj.refl H) trivial
theorem Zjf{es:List Expr}{fs:Rho->R (List D)}(ha:SE X CL W a fa)(hs:SA X CL W es fs)(hst:starEach (a::es) X.env=(false,eval a X.env)::starEach es X.env):SA X CL W (a::es) (fun ρ=>(fa ρ).bind fun x=>(fs ρ).bind fun xs=>.ok (x::xs)) :=
 fun A=>PA.weak (ZaD (ha A) (hs A) hst) fun σ H Q ⟨hA,ρ,g,p⟩=>by
  dsimp only at p
  refine⟨hA,ρ,g,?_⟩
  cases e:fa ρ with
  | bad=>rw[e] at p;exact p
  | exn x=>rw[e] at p;exact p
  | ok d =>
   rw[e] at p
   intro v H1 s1 r1
   refine⟨hA.same s1,ρ,g.same s1,?_⟩
   cases e1:fs ρ with
   | bad=>rw[R.bind_ok,e1] at p;exact p
   | exn x=>rw[R.bind_ok,e1] at p;exact fun H2 s2=>p H2 (s1.trans s2)
   | ok ds =>
    rw[R.bind_ok,e1] at p
    exact fun vs H2 s2 r2=>p (v::vs) H2 (s1.trans s2) ⟨r1.same s2,r2⟩
theorem Zqs{es:List Expr}{fs:Rho->R (List D)}{k:Nat}(hs:SA X CL W es fs)(hz:∀ ρ ds,fs ρ=.ok ds->ds.length<=100000):SE X CL W (.Tuple es k pos) (fun ρ=>(fs ρ).bind fun xs=>.ok (.tup xs)) :=
 fun A=>PE.weak (Zmc (hs A)) fun σ H Q ⟨hA,ρ,g,p⟩=>⟨hA,ρ,g,ZeZ.bind p fun ds vs H1 e s1 r1 p1=>⟨by
  rw[r1.length,sizeLine_eq];have:=hz ρ ds e;omega,fun q hq=>p1 _ _ (ZaL hq _) (ZdJ (hA.same s1) hq r1)⟩⟩
def Zhe(W:XW)(H:Hp)(r:R (Option Int))(Q:Option Int->Hp->Prop):Prop:=match r with
  | .ok o=>∀ H',Zaj H H'->Q o H'
  | .exn x=>∀ H',Zaj H H'->W x H'
  | .bad=>False
theorem Zhe.bind{Rq:Hp->V->D->Prop}{W:XW}{H:Hp}{r:R (Option Int)}{f:Option Int->R D}{Q:VK}{Q':Option Int->Hp->Prop}(h:ZaJ Rq W H (r.bind f) Q)(k:∀ o H',r=.ok o->Zaj H H'->ZaJ Rq W H' (f o) Q->Q' o H'):Zhe W H r Q':=by
 cases r with
 | ok d=>exact fun H2 s2=>k d H2 rfl s2 (ZaJ.same s2 h)
 | exn x=>exact h
 | bad=>exact h
def SO(X:Cx)(CL:ClA)(W:XW)(e:Option Expr)(f:Rho->R (Option Int)):Prop:=∀ A,PO X e (fun σ H Q=>AOk H A/\∃ ρ,Good X.K CL A ρ σ H/\Zhe W H (f ρ) Q)
theorem PO.weak{X:Cx}{e:Option Expr}{t t':TO}(h:PO X e t)(k:∀ σ H Q,t' σ H Q->t σ H Q):PO X e t':=fun pins s σ H Q I q=>h pins s σ H Q I (k _ _ _ q)
theorem Zne:SO X CL W none (fun _=>.ok none):=fun A=>PO.weak ZnY fun σ H Q ⟨hA,ρ,g,p⟩=>p H (Zaj.refl H)
theorem Znd(ha:ST X CL W a fa):SO X CL W (some a) (fun ρ=>(fa ρ).bind fun d=>(ZcJ d).bind fun i=>.ok (some i)):=fun A=>PO.weak (ZnX (ha A)) fun σ H Q ⟨hA,ρ,g,p⟩=>by
 dsimp only at p
 refine⟨hA,ρ,g,?_⟩
 cases e:fa ρ with
 | bad=>rw[e] at p;exact p
 | exn x=>rw[e] at p;exact p
 | ok d =>
  rw[e] at p
  intro v H1 s1 r1
  cases d with
  | int i=>exact⟨i,r1.int_of,p H1 s1⟩
  | _=>exact p.elim
theorem Zkf{K:PySem.W.Frag}{H:Hp}{A:Addr->Prop}{xs:List V}{ds:List D}(lo hi:Option Int)(r:Reps K CL H A xs ds):Reps K CL H A (Zmx xs lo hi) (Zmy ds lo hi):=by
 unfold Zmx Zmy
 have e:∀ d o,HT.sIx xs.length d o=Zhz ds.length d o:=fun d o=>by rw[r.length];cases o<;>rfl
 rw[e,e,r.length]
 exact(r.drop _).take _
end
end Ov
end
section
namespace Ov
open PySem PySem.Spec PyProof.Rows L2
section
variable {X:Cx} {CL:ClA} {W:XW} {a b c:Expr} {fa fb fc:Rho->R D} {pos:Pos}
noncomputable def Zdm(K:PySem.W.Frag)(CL:ClA)(H:Hp)(A:Addr->Prop):List V->List D->Prop
 | [],[]=>True
 | v::vs,d::ds=>Zc9 K CL H A v d/\Zdm K CL H A vs ds
 | _,_=>False
theorem Zdm.same{K:PySem.W.Frag}{H H':Hp}{A:Addr->Prop}(s:Zaj H H'):∀ {vs:List V} {ds:List D},Zdm K CL H A vs ds->Zdm K CL H' A vs ds
 | [],[],h=>h
 | _::_,_::_,h=>⟨h.1.same s,Zdm.same s h.2⟩
 | [],_::_,h=>h.elim
 | _::_,[],h=>h.elim
theorem Zdm.one{K:PySem.W.Frag}{H:Hp}{A:Addr->Prop}{vs:List V}{d:D}(h:Zdm K CL H A vs [d]):∃ v,vs=[v]/\Zc9 K CL H A v d:=by
 cases vs with
 | nil=>exact h.elim
 | cons v vs =>
  cases vs with
  | nil=>exact⟨v,rfl,h.1⟩
  | cons=>exact h.2.elim
theorem Zdm.two{K:PySem.W.Frag}{H:Hp}{A:Addr->Prop}{vs:List V}{d e:D}(h:Zdm K CL H A vs [d,e]):∃ v w',vs=[v,w']/\Zc9 K CL H A v d/\Zc9 K CL H A w' e:=by
 cases vs with
 | nil=>exact h.elim
 | cons v vs =>
  cases vs with
  | nil=>exact h.2.elim
  | cons w' vs =>
   cases vs with
   | nil=>exact⟨v,w',rfl,h.1,h.2.1⟩
   | cons=>exact h.2.2.elim
def SAT(X:Cx)(CL:ClA)(W:XW)(es:List Expr)(f:Rho->R (List D)):Prop:=∀ A,PA X es (fun σ H Q=>AOk H A/\∃ ρ,Good X.K CL A ρ σ H/\ZeZ (fun H=>Zdm X.K CL H A) W H (f ρ) Q)
theorem Zjc:SAT X CL W [] (fun _=>.ok []):=fun A=>PA.weak Zb6 fun σ H Q ⟨hA,ρ,g,p⟩=>p [] H (Zaj.refl H) trivial
theorem Zhx{es:List Expr}{fs:Rho->R (List D)}(ha:ST X CL W a fa)(hs:SAT X CL W es fs)(hst:starEach (a::es) X.env=(false,eval a X.env)::starEach es X.env):SAT X CL W (a::es) (fun ρ=>(fa ρ).bind fun x=>(fs ρ).bind fun xs=>.ok (x::xs)) :=
 fun A=>PA.weak (ZaD (ha A) (hs A) hst) fun σ H Q ⟨hA,ρ,g,p⟩=>by
  dsimp only at p
  refine⟨hA,ρ,g,?_⟩
  cases e:fa ρ with
  | bad=>rw[e] at p;exact p
  | exn x=>rw[e] at p;exact p
  | ok d =>
   rw[e] at p
   intro v H1 s1 r1
   refine⟨hA.same s1,ρ,g.same s1,?_⟩
   cases e1:fs ρ with
   | bad=>rw[R.bind_ok,e1] at p;exact p
   | exn x=>rw[R.bind_ok,e1] at p;exact fun H2 s2=>p H2 (s1.trans s2)
   | ok ds =>
    rw[R.bind_ok,e1] at p
    exact fun vs H2 s2 r2=>p (v::vs) H2 (s1.trans s2) ⟨r1.same s2,r2⟩
def Ze5(X:Cx)(CL:ClA)(W:XW)(f:Value)(g:List D->R D):Prop:=∀ A,Zeh X f (fun xs H Q=>AOk H A/\∃ ds,Zdm X.K CL H A xs ds/\ZaJ (fun H=>Rep X.K CL H A) W H (g ds) Q)
theorem Ze9{x:Str}{id:String}{p:Pos}{e:Expr}{es:List Expr}{fs:Rho->R (List D)}{g:List D->R D}(hc:Ze5 X CL W (.builtin id) g)(hg:Gl X x)(hm:X.mg x=none)(hv:bootBuiltins x=some (.builtin id))(ha:SAT X CL W (e::es) fs)
    (hn:x≠"__name__") (hdb:(x == ("__debug__" : Str))=false) (he:starEach (e::es) X.env=(false,eval e X.env)::starEach es X.env) (hpl:∀ pos,(backTo pos (starEach es X.env)).any (·.1)=false) :
    SE X CL W (.Call (.Name x p) (e::es) [] pos) (fun ρ=>(fs ρ).bind g):=fun A=>PE.weak (Zdn (hc A) hg hm hv (ha A) hn hdb he (hpl _)) fun σ H Q ⟨hA,ρ,gd,q⟩=>⟨hA,ρ,gd,ZeZ.bind q fun ds vs H1 _ s1 r1 p1=>⟨hA.same s1,ds,r1,p1⟩⟩
theorem Zl5{x:Str}{T:String}{p:Pos}{e:Expr}{es:List Expr}{fs:Rho->R (List D)}{g:List D->R D}(hc:Ze5 X CL W (.type T) g)(hg:Gl X x)(hm:X.mg x=none)(hv:bootBuiltins x=some (.type T))(ha:SAT X CL W (e::es) fs)
    (hn:x≠"__name__") (hdb:(x == ("__debug__" : Str))=false) (he:starEach (e::es) X.env=(false,eval e X.env)::starEach es X.env) (hpl:∀ pos,(backTo pos (starEach es X.env)).any (·.1)=false) :
    SE X CL W (.Call (.Name x p) (e::es) [] pos) (fun ρ=>(fs ρ).bind g):=fun A=>PE.weak (Zf4 (hc A) hg hm hv (ha A) hn hdb he (hpl _)) fun σ H Q ⟨hA,ρ,gd,q⟩=>⟨hA,ρ,gd,ZeZ.bind q fun ds vs H1 _ s1 r1 p1=>⟨hA.same s1,ds,r1,p1⟩⟩
theorem ZsD:Ze5 X CL W (.builtin "len") (biD .len):=by
  intro A pins s σ H xs us Q I r ⟨hA,ds,rs,p⟩
  match ds,rs,p with
  | [.lst es],rs,p =>
    obtain⟨v,rfl,rv⟩:=rs.one
    obtain⟨q,ys,rfl,sq,ry⟩:=rv.lst_of
    exact Zd7 pins s σ H _ us Q I r ⟨q,ys,rfl,.inl sq,p _ H (Zaj.refl H) (by rw[ry.length];rfl)⟩
  | [.tup es],rs,p =>
    obtain⟨v,rfl,rv⟩:=rs.one
    obtain⟨q,ys,rfl,_,sq,ry⟩:=rv.tup_of
    exact Zd7 pins s σ H _ us Q I r ⟨q,ys,rfl,.inr sq,p _ H (Zaj.refl H) (by rw[ry.length];rfl)⟩
  | [.str x],rs,p =>
    obtain⟨v,rfl,rv⟩:=rs.one
    have e:=rv.str_of
    subst e
    have p':ZaJ (fun H=>Rep X.K CL H A) W H (if Zec x.length=true then .ok (.int x.length) else .bad) Q:=p
    split at p'
    · rename_i h
      exact Zgp pins s σ H _ us Q I r ⟨x,rfl,ZbH h,p' _ H (Zaj.refl H) rfl⟩
    · exact p'.elim
  | [],_,p=>exact p.elim
  | [.non],_,p=>exact p.elim
  | [.bl _],_,p=>exact p.elim
  | [.int _],_,p=>exact p.elim
  | [.obj _ _],_,p=>exact p.elim
  | [.exc _ _],_,p=>exact p.elim
  | [.dic _],rs,p=>first|exact p.elim|(obtain⟨v,rfl,rv⟩:=rs.one;exact rv.plain.elim)
  | x::_::_,_,p=>cases x<;>exact p.elim
theorem ZjN(ds:List D):(∃ i j,ds=[.int i,.int j])\/biD .max ds=.bad:=by
  match ds with
  | [.int i,.int j]=>exact .inl ⟨i,j,rfl⟩
  | []=>exact .inr rfl
  | [x]=>cases x<;>exact .inr rfl
  | x::y::z::r=>cases x<;>cases y<;>exact .inr rfl
  | [x,.non]=>cases x<;>exact .inr rfl
  | [x,.bl _]=>cases x<;>exact .inr rfl
  | [x,.str _]=>cases x<;>exact .inr rfl
  | [x,.tup _]=>cases x<;>exact .inr rfl
  | [x,.lst _]=>cases x<;>exact .inr rfl
  | [x,.obj _ _]=>cases x<;>exact .inr rfl
  | [x,.exc _ _]=>cases x<;>exact .inr rfl
  | [x,.dic _]=>cases x<;>exact .inr rfl
  | [.non,.int _]=>exact .inr rfl
  | [.bl _,.int _]=>exact .inr rfl
  | [.str _,.int _]=>exact .inr rfl
  | [.tup _,.int _]=>exact .inr rfl
  | [.lst _,.int _]=>exact .inr rfl
  | [.obj _ _,.int _]=>exact .inr rfl
  | [.exc _ _,.int _]=>exact .inr rfl
  | [.dic _,.int _]=>exact .inr rfl
theorem Zf8:∀ (is:List Int) (i:Int),ZkN i is∈i::is/\∀ a∈i::is,ZkN i is<=a
 | [],i=>⟨List.mem_cons_self,fun a h=>by rw[List.mem_singleton] at h;rw[h];exact Int.le_refl _⟩
 | j::r,i=>by
  obtain⟨h1,h2⟩:=Zf8 r (if j<i then j else i)
  refine⟨?_,fun a h=>?_⟩
  ·show ZkN (if j<i then j else i) r∈_
   rcases List.mem_cons.mp h1 with e|e
   ·rw[e]
    split
    ·exact List.mem_cons_of_mem _ List.mem_cons_self
    ·exact List.mem_cons_self
   ·exact List.mem_cons_of_mem _ (List.mem_cons_of_mem _ e)
  ·show ZkN (if j<i then j else i) r<=a
   have h0:=h2 _ List.mem_cons_self
   rcases List.mem_cons.mp h with e|e
   ·subst e
    refine Int.le_trans h0 ?_
    split<;>omega
   ·rcases List.mem_cons.mp e with e|e
    ·subst e
     refine Int.le_trans h0 ?_
     split<;>omega
    ·exact h2 a (List.mem_cons_of_mem _ e)
theorem Zfg:∀ {is:List Int} {its:List Value},ZaP (is.map V.int) its->∃ xs:Array (Int×Tok),its.toArray=intItems xs/\xs.toList.map (·.1)=is
 | [],_,h=>by cases h;exact⟨#[],by simp[intItems],rfl⟩
 | i::is,_,h=>by
  cases h with
  | cons h1 h2 =>
   obtain⟨t,rfl⟩:=h1
   obtain⟨xs,e1,e2⟩:=Zfg h2
   refine⟨((i,t)::xs.toList).toArray,?_,?_⟩
   ·apply Array.toList_inj.mp
    have e1':=congrArg Array.toList e1
    simp[intItems] at e1' ⊢
    exact e1'
   ·simp[e2]
theorem Zkl{X:Cx}(hc:X.calm=true):Zeh X (.builtin "min") (fun xs H Q=>∃ a i is,xs=[.ref a]/\SqL X.K H a ((i::is).map V.int)/\Q (.int (ZkN i is)) H):=by
 intro pins s σ H xs us Q I r h
 obtain⟨a,i,is,rfl,sq,q⟩:=h
 obtain⟨u,rfl,ru⟩:=Zea r
 cases ru
 obtain⟨its,rv,pl,hz⟩:=I.list sq
 obtain⟨ys,e1,e2⟩:=Zfg rv
 have hsz:0<ys.size:=by
  have:=congrArg List.length e2
  simp at this
  omega
 have hl:=pl.isList
 rw[e1] at hl
 refine min_intList (I.ok.hd hc) hl hsz fun v h' tk hv hk=>?_
 obtain⟨t,rfl⟩:=intItems_at hv
 obtain⟨h1,h2⟩:=argBest_lt (numAt ys) (ys.size-1)
 have nm:∀ j,j<ys.size->numAt ys j∈i::is:=fun j hj=>by
  rw[<- e2]
  unfold numAt
  rw[Array.getElem?_eq_getElem hj]
  simp only[Option.map_some,Option.getD_some]
  exact List.mem_map.mpr ⟨ys[j],by simp,rfl⟩
 have nx:∀ x∈i::is,∃ j,j<ys.size/\numAt ys j=x:=fun x hx=>by
  rw[<- e2] at hx
  obtain⟨y,hy,rfl⟩:=List.mem_map.mp hx
  obtain⟨j,hj,ej⟩:=Array.mem_iff_getElem.mp (Array.mem_toList_iff.mp hy)
  refine⟨j,hj,?_⟩
  unfold numAt
  rw[Array.getElem?_eq_getElem hj,ej]
  rfl
 obtain⟨m1,m2⟩:=Zf8 is i
 have em:numAt ys (argBest (fun i j=>decide (numAt ys i<numAt ys j)) (ys.size-1))=ZkN i is:=by
  refine Int.le_antisymm ?_ (m2 _ (nm _ (by omega)))
  obtain⟨j,hj,ej⟩:=nx _ m1
  rw[<- ej]
  exact h2 j (by omega)
 rw[em]
 exact⟨.int (ZkN i is),H,I.kept hk,⟨_,rfl⟩,q⟩
theorem Zfh{K:PySem.W.Frag}{CL:ClA}{H:Hp}{A:Addr->Prop}:∀ {es:List D} {is:List Int} {ys:List V},ZgS es=some is->Reps K CL H A ys es->ys=is.map V.int
 | [],_,[],h,_=>by cases h;rfl
 | [],_,_::_,_,r=>r.elim
 | _::_,_,[],_,r=>r.elim
 | e::es,is,y::ys,h,r=>by
  cases e with
  | int i =>
   have h':(ZgS es).map (i :: ·)=some is:=h
   cases e2:ZgS es with
   | none=>rw[e2] at h';cases h'
   | some js =>
    rw[e2] at h'
    cases h'
    have ih:=Zfh e2 r.2
    have e1:y=.int i:=r.1
    rw[ih,e1]
    rfl
  | _=>cases h
theorem ZjL(ds:List D)(hl:∀ es,ds≠[.lst es]):(∃ i j,ds=[.int i,.int j])\/biD .min ds=.bad:=by
  match ds with
  | [.int i,.int j]=>exact .inl ⟨i,j,rfl⟩
  | []=>exact .inr rfl
  | [x]=>cases x<;>first|exact .inr rfl|exact absurd rfl (hl _)
  | x::y::z::r=>cases x<;>cases y<;>exact .inr rfl
  | [x,.non]=>cases x<;>exact .inr rfl
  | [x,.bl _]=>cases x<;>exact .inr rfl
  | [x,.str _]=>cases x<;>exact .inr rfl
  | [x,.tup _]=>cases x<;>exact .inr rfl
  | [x,.lst _]=>cases x<;>exact .inr rfl
  | [x,.obj _ _]=>cases x<;>exact .inr rfl
  | [x,.exc _ _]=>cases x<;>exact .inr rfl
  | [x,.dic _]=>cases x<;>exact .inr rfl
  | [.non,.int _]=>exact .inr rfl
  | [.bl _,.int _]=>exact .inr rfl
  | [.str _,.int _]=>exact .inr rfl
  | [.tup _,.int _]=>exact .inr rfl
  | [.lst _,.int _]=>exact .inr rfl
  | [.obj _ _,.int _]=>exact .inr rfl
  | [.exc _ _,.int _]=>exact .inr rfl
  | [.dic _,.int _]=>exact .inr rfl
theorem ZsC(hc:X.calm=true):Ze5 X CL W (.builtin "max") (biD .max):=by
 intro A pins s σ H xs us Q I r ⟨hA,ds,rs,p⟩
 rcases ZjN ds with ⟨i,j,rfl⟩|e
 ·obtain⟨v,w',rfl,rv,rw'⟩:=rs.two
  have e1:=rv.int_of;have e2:=rw'.int_of
  subst e1 e2
  exact Zkn hc pins s σ H _ us Q I r ⟨i,j,rfl,p _ H (Zaj.refl H) rfl⟩
 ·rw[e] at p;exact p.elim
theorem ZsB(hc:X.calm=true):Ze5 X CL W (.builtin "min") (biD .min):=by
  intro A pins s σ H xs us Q I r ⟨hA,ds,rs,p⟩
  by_cases hls:∃ es,ds=[.lst es]
  · obtain⟨es,rfl⟩:=hls
    obtain⟨v,rfl,rv⟩:=rs.one
    obtain⟨a,ys,rfl,sq,ry⟩:=rv.lst_of
    have p':ZaJ (Rep X.K CL · A) W H (match ZgS es with
      | some (i::is)=>R.ok (.int (ZkN i is))
      | _=>.bad) Q:=p
    cases e1:ZgS es with
    | none=>rw[e1] at p';exact p'.elim
    | some is =>
      cases is with
      | nil=>rw[e1] at p';exact p'.elim
      | cons i is =>
        rw[e1] at p'
        have ey:=Zfh e1 ry
        subst ey
        exact Zkl hc pins s σ H _ us Q I r ⟨a,i,is,rfl,sq,p' _ H (Zaj.refl H) rfl⟩
  rcases ZjL ds (fun es z=>hls ⟨es,z⟩) with ⟨i,j,rfl⟩|e
  · obtain⟨v,w',rfl,rv,rw'⟩:=rs.two
    have e1:=rv.int_of;have e2:=rw'.int_of
    subst e1 e2
    exact Zkm hc pins s σ H _ us Q I r ⟨i,j,rfl,p _ H (Zaj.refl H) rfl⟩
  · rw[e] at p;exact p.elim
theorem ZsE:Ze5 X CL W (.type "int") (biD .int):=by
  intro A pins s σ H xs us Q I r ⟨hA,ds,rs,p⟩
  match ds,rs,p with
  | [.int i],rs,p =>
    obtain⟨v,rfl,rv⟩:=rs.one
    have e:=rv.int_of
    subst e
    exact Zgq pins s σ H _ us Q I r (.inl ⟨i,rfl,p _ H (Zaj.refl H) rfl⟩)
  | [.bl i],rs,p =>
    obtain⟨v,rfl,rv⟩:=rs.one
    have e:=rv.bl_of
    subst e
    exact Zgq pins s σ H _ us Q I r (.inr ⟨i,rfl,p _ H (Zaj.refl H) rfl⟩)
  | [],_,p=>exact p.elim
  | [.non],_,p=>exact p.elim
  | [.str _],_,p=>exact p.elim
  | [.tup _],_,p=>exact p.elim
  | [.lst _],_,p=>exact p.elim
  | [.obj _ _],_,p=>exact p.elim
  | [.exc _ _],_,p=>exact p.elim
  | [.dic _],rs,p=>first|exact p.elim|(obtain⟨v,rfl,rv⟩:=rs.one;exact rv.plain.elim)
  | x::_::_,_,p=>cases x<;>exact p.elim
theorem ZlK:Ze5 X CL W (.type "tuple") (biD .tuple):=by
  intro A pins s σ H xs us Q I r ⟨hA,ds,rs,p⟩
  match ds,rs,p with
  | [.lst es],rs,p =>
    obtain⟨v,rfl,rv⟩:=rs.one
    obtain⟨q,ys,rfl,sq,ry⟩:=rv.lst_of
    exact Zdz pins s σ H _ us Q I r ⟨q,ys,rfl,.inl ⟨sq,fun l hl=>p _ _ (ZaL hl _) (ZdJ hA hl ry)⟩⟩
  | [.tup es],rs,p =>
    obtain⟨v,rfl,rv⟩:=rs.one
    obtain⟨q,ys,rfl,na,sq,ry⟩:=rv.tup_of
    exact Zdz pins s σ H _ us Q I r ⟨q,ys,rfl,.inr ⟨sq,p _ H (Zaj.refl H) ⟨q,ys,rfl,na,sq,ry⟩⟩⟩
  | [],_,p=>exact p.elim
  | [.non],_,p=>exact p.elim
  | [.bl _],_,p=>exact p.elim
  | [.int _],_,p=>exact p.elim
  | [.str _],_,p=>exact p.elim
  | [.obj _ _],_,p=>exact p.elim
  | [.exc _ _],_,p=>exact p.elim
  | [.dic _],rs,p=>first|exact p.elim|(obtain⟨v,rfl,rv⟩:=rs.one;exact rv.plain.elim)
  | x::_::_,_,p=>cases x<;>exact p.elim
end
end Ov
end
section
namespace Ov
open PySem PySem.Spec PyProof.Rows L2
section
variable {X:Cx} {CL:ClA} {W:XW} {a b c:Expr} {fa fb fc:Rho->R D} {pos:Pos}
theorem SB.congr{f g:Rho->R Bool}(h:SB X CL W a f)(e:∀ ρ,g ρ=f ρ):SB X CL W a g:=fun A=>PT.weak (h A) fun σ H Q ⟨hA,ρ,q,p⟩=>⟨hA,ρ,q,by rw[<- e];exact p⟩
theorem ZqF{f:Rho->R Bool}(ha:SB X CL W a f):SB X CL W (.UnaryOp .Not a pos) (fun ρ=>(f ρ).bind fun b=>.ok (!b)):=fun A=>PT.weak (Zq3 (ha A)) fun σ H Q ⟨hA,ρ,g,p⟩=>⟨hA,ρ,g,Za2.bindB p fun b H1 _ s1 p1=>p1 H1 (Zaj.refl H1)⟩
def SW(X:Cx)(CL:ClA)(W:XW)(e:Expr)(f:Rho->R Bool):Prop:=∀ A,PW X e (fun σ H Q=>AOk H A/\∃ ρ,Good X.K CL A ρ σ H/\Za2 W H (f ρ) Q)
theorem PW.weak{X:Cx}{e:Expr}{t t':TT}(h:PW X e t)(k:∀ σ H Q,t' σ H Q->t σ H Q):PW X e t':=fun wh pins s σ H Q I q=>h wh pins s σ H Q I (k _ _ _ q)
theorem SW.sb{f:Rho->R Bool}(h:SW X CL W a f):SB X CL W a f:=fun A=>PW.pt (h A)
theorem SW.congr{f g:Rho->R Bool}(h:SW X CL W a f)(e:∀ ρ,g ρ=f ρ):SW X CL W a g:=fun A=>PW.weak (h A) fun σ H Q ⟨hA,ρ,q,p⟩=>⟨hA,ρ,q,by rw[<- e];exact p⟩
theorem Zm4{f:Rho->R Bool}(ha:SB X CL W a f):SW X CL W (.BoolOp .And [a] pos) f:=fun A=>ZnP (ha A)
theorem ZlX{f:Rho->R Bool}(ha:SB X CL W a f):SW X CL W (.BoolOp .Or [a] pos) f:=fun A=>Zq1 (ha A)
theorem Zqa{f g:Rho->R Bool}{rest:List Expr}(ha:SB X CL W a f)(hb:SW X CL W (.BoolOp .And (b::rest) pos) g):SW X CL W (.BoolOp .And (a::b::rest) pos) (fun ρ=>(f ρ).bind fun c=>if c=true then g ρ else .ok false) :=
 fun A=>PW.weak (Zq2 (ha A) (hb A)) fun σ H Q ⟨hA,ρ,gd,p⟩=>⟨hA,ρ,gd,Za2.bindB p fun c H1 _ s1 p1=>by
  cases c with
  | true=>exact⟨hA.same s1,ρ,gd.same s1,p1⟩
  | false=>exact p1 H1 (Zaj.refl H1)⟩
theorem Zp9{f g:Rho->R Bool}{rest:List Expr}(ha:SB X CL W a f)(hb:SW X CL W (.BoolOp .Or (b::rest) pos) g):SW X CL W (.BoolOp .Or (a::b::rest) pos) (fun ρ=>(f ρ).bind fun c=>if c=true then .ok true else g ρ) :=
 fun A=>PW.weak (Zwb (ha A) (hb A)) fun σ H Q ⟨hA,ρ,gd,p⟩=>⟨hA,ρ,gd,Za2.bindB p fun c H1 _ s1 p1=>by
  cases c with
  | false=>exact⟨hA.same s1,ρ,gd.same s1,p1⟩
  | true=>exact p1 H1 (Zaj.refl H1)⟩
theorem ZqG{op:CmpOp}{g:D->D->R D}(ho:OpD X CL W (compareOp op) g)(ha:ST X CL W a fa)(hb:ST X CL W b fb)(hm:behindInMarks op b=false):SB X CL W (.Compare a [op] [b] pos) (fun ρ=>(fa ρ).bind fun x=>(fb ρ).bind fun y=>(g x y).bind Zd8) :=
 fun A=>PT.weak (ZnT (ho A) (ha A) (hb A) hm) fun σ H Q ⟨hA,ρ,gd,p⟩=>⟨hA,ρ,gd,Za2.bind p fun dx x H1 _ s1 r1 p1=>⟨hA.same s1,ρ,gd.same s1,Za2.bind p1 fun dy y H2 _ s2 r2 p2 =>
  ⟨(hA.same s1).same s2,dx,dy,r1.same s2,r2,Za2.bind p2 fun dz z H3 _ s3 r3 p3=>by
   cases dz with
   | bl k=>exact⟨k,r3,p3 H3 (Zaj.refl H3)⟩
   | _=>exact p3.elim⟩⟩⟩
theorem Zk8{op op':CmpOp}(hu:X.A.units+64<cLine)(ha:ST X CL W a fa)(hb:ST X CL W b fb)(hc:ST X CL W c fc)(hm:lastMarks [op,op'] [b,c]=false) :
    SB X CL W (.Compare a [op,op'] [b,c] pos) (fun ρ=>(fa ρ).bind fun x=>(fb ρ).bind fun y=>(Zbt op x y).bind fun z=>(Zd8 z).bind fun k=>if k=true then (fc ρ).bind fun u=>(Zbt op' y u).bind Zd8 else .ok false) :=
  fun A=>PT.weak (Zlh (ZdI hu op A) (ZdI hu op' A) (ha A) (hb A) (hc A) hm) fun σ H Q ⟨hA,ρ,g,p⟩=>⟨hA,ρ,g,Za2.bind p fun dx x H1 _ s1 r1 p1=>⟨hA.same s1,ρ,g.same s1,Za2.bind p1 fun dy y H2 _ s2 r2 p2 =>
    ⟨(hA.same s1).same s2,dx,dy,r1.same s2,r2,Za2.bind p2 fun dz z H3 _ s3 r3 p3=>by
      cases dz with
      | bl k =>
        refine⟨k,r3,?_⟩
        cases k with
        | false=>exact⟨false,rfl,p3 H3 (Zaj.refl H3)⟩
        | true=>exact⟨((hA.same s1).same s2).same s3,ρ,((g.same s1).same s2).same s3,Za2.bind p3 fun du u H4 _ s4 r4 p5=>⟨(((hA.same s1).same s2).same s3).same s4,dy,du,(r2.same s3).same s4,r4,Za2.bind p5 fun dv v H5 _ s5 r5 p6=>by
            cases dv with
            | bl k'=>exact⟨k',r5,p6 H5 (Zaj.refl H5)⟩
            | _=>exact p6.elim⟩⟩
      | _=>exact p3.elim⟩⟩⟩
theorem Zjb(ha:ST X CL W a fa)(he:∀ whole,isTrue a X.env whole=(do let v <- whole;standAt a.pos;holding [v] (truthy v))):SB X CL W a (fun ρ=>(fa ρ).bind ZbS) :=
 fun A=>PT.weak (Zlg (ha A) he) fun σ H Q ⟨hA,ρ,g,p⟩=>⟨hA,ρ,g,Za2.bind p fun d v H1 _ s1 r1 p1=>by
  cases d with
  | non =>
   have e:=r1.non_of
   subst e
   exact⟨false,rfl,p1 H1 (Zaj.refl H1)⟩
  | bl b =>
   have e:=r1.bl_of
   subst e
   exact⟨b,rfl,p1 H1 (Zaj.refl H1)⟩
  | int i =>
   have e:=r1.int_of
   subst e
   exact⟨_,rfl,p1 H1 (Zaj.refl H1)⟩
  | str x =>
   have e:=r1.str_of
   subst e
   have p2:Za2 W H1 (if Zec x.length=true then .ok (x.length != 0) else .bad) Q:=p1
   split at p2
   ·rename_i h
    refine⟨_,⟨ZbH h,rfl⟩,?_⟩
    have e:((x.length:Int) != 0)=(x.length != 0):=by
     rw[Bool.eq_iff_iff];simp
    rw[e]
    exact p2 H1 (Zaj.refl H1)
   ·exact p2.elim
  | tup ds =>
   obtain⟨q,xs,rfl,_,sq,r⟩:=r1.tup_of
   refine⟨_,.inr (.inl ⟨xs,sq,rfl⟩),?_⟩
   have e:xs.isEmpty=ds.isEmpty:=by
    have:=r.length
    cases xs<;>cases ds<;>first|rfl|cases this
   rw[e]
   exact p1 H1 (Zaj.refl H1)
  | lst ds =>
   obtain⟨q,xs,rfl,sq,r⟩:=r1.lst_of
   refine⟨_,.inl ⟨xs,sq,rfl⟩,?_⟩
   have e:xs.isEmpty=ds.isEmpty:=by
    have:=r.length
    cases xs<;>cases ds<;>first|rfl|cases this
   rw[e]
   exact p1 H1 (Zaj.refl H1)
  | _=>exact p1.elim⟩
noncomputable def Zs4(K:PySem.W.Frag)(CL:ClA)(H:Hp)(A:Addr->Prop)(cls:Value)(dx:Option Addr)(x:Ex):Prop :=
 ∃ C,CL x.c=some C/\cls=.ref C/\(x.fs=[]\/∃ d vs,dx=some d/\¬ A d/\H d=some (.xd vs)/\Repf K CL H A vs x.fs)
end
end Ov
end
section
namespace Ov
open PySem PySem.Spec PyProof.Rows L2
noncomputable def ZcG(B:Addr->Prop)(ρ:Rho)(σ:L2.St):Addr->Prop:=fun a=>B a\/∃ (j:Nat) (d:D),ρ[j]?=some (some (d,true))/\σ[j]?=some (some (.ref a))
structure Sx (K:PySem.W.Frag) (CL:ClA) (Fz:Addr->HO->Prop) (B:Addr->Prop) (ρ:Rho) (σ:L2.St) (H:Hp):Prop where
 good:Good K CL (ZcG B ρ σ) ρ σ H
 aok:AOk H (ZcG B ρ σ)
 new:∀ (j:Nat) (d:D) (a:Addr),ρ[j]?=some (some (d,true))->σ[j]?=some (some (.ref a))->(∀ o,¬ Fz a o)/\¬ B a
 dis:∀ (i j:Nat) (d e:D) (a:Addr),ρ[i]?=some (some (d,true))->ρ[j]?=some (some (e,true))->σ[i]?=some (some (.ref a))->σ[j]?=some (some (.ref a))->i=j
 same:∀ b o,Fz b o->H b=some o
 len:ρ.length=σ.length
def Zau(K:PySem.W.Frag)(CL:ClA)(Fz:Addr->HO->Prop)(B:Addr->Prop)(W:XW)(o:O)(D:Ends):Prop:=match o with
  | .next ρ=>∀ σ H,Sx K CL Fz B ρ σ H->D.nx σ H
  | .brk ρ=>∀ σ H,Sx K CL Fz B ρ σ H->D.bk σ H
  | .cont ρ=>∀ σ H,Sx K CL Fz B ρ σ H->D.ct σ H
  | .ret d fr=>∀ v H,(∀ b o,Fz b o->H b=some o)->Rep K CL H B v d->(fr=true->∀ ds,d=.lst ds->∃ a xs,v=.ref a/\(∀ o,¬ Fz a o)/\H a=some (.lst xs)/\Reps K CL H (fun b=>B b\/b=a) xs ds)->D.rt v H
  | .exn x _=>∀ H,(∀ b o,Fz b o->H b=some o)->W x H
  | .bad=>False
section
variable {K:PySem.W.Frag} {CL:ClA} {Fz Fy:Addr->HO->Prop} {B:Addr->Prop} {ρ:Rho} {σ:L2.St} {H H':Hp}
theorem Sx.mono(k:∀ b o,Fz b o->Fy b o)(x:Sx K CL Fy B ρ σ H):Sx K CL Fz B ρ σ H:=⟨x.good,x.aok,fun j d a h1 h2=>⟨fun o z=>(x.new j d a h1 h2).1 o (k _ _ z),(x.new j d a h1 h2).2⟩,x.dis,fun b o z=>x.same b o (k _ _ z),x.len⟩
theorem Sx.grow(x:Sx K CL Fz B ρ σ H)(s:Zaj H H'):Sx K CL Fz B ρ σ H':=⟨x.good.same s,x.aok.same s,x.new,x.dis,fun b o z=>s _ _ (x.same b o z),x.len⟩
theorem Zad{α:Type}{l:List α}{i j:Nat}{v:α}(h:i≠j):(l.set i v)[j]?=l[j]?:=by rw[List.getElem?_set_ne h]
theorem Zay{α:Type}{l:List α}{i:Nat}{v w':α}(h:(l.set i v)[i]?=some w'):w'=v:=by
 rw[List.getElem?_set_self'] at h
 cases e:l[i]? with
 | none=>rw[e] at h;cases h
 | some x=>rw[e] at h;cases h;rfl
theorem Sx.set(x:Sx K CL Fz B ρ σ H){v:V}{d:D}(i:Nat)(r:Rep K CL H (ZcG B ρ σ) v d):Sx K CL Fz B (ρ.set i (some (d,false))) (σ.set i (some v)) H:=by
 have own:∀ (j:Nat) (e:D),(ρ.set i (some (d,false)))[j]?=some (some (e,true))->i≠j/\ρ[j]?=some (some (e,true)):=fun j e h=>by
  by_cases hj:i=j
  ·subst hj
   have:=Zay h
   cases this
  ·exact⟨hj,by rw[Zad hj] at h;exact h⟩
 have sub:∀ a,ZcG B (ρ.set i (some (d,false))) (σ.set i (some v)) a->ZcG B ρ σ a:=fun a h=>by
  rcases h with h|⟨j,e,h1,h2⟩
  ·exact .inl h
  ·obtain⟨hj,h1⟩:=own j e h1
   rw[Zad hj] at h2
   exact .inr ⟨j,e,h1,h2⟩
 refine⟨⟨fun j e h=>?_,fun j e h=>?_,by rw[List.length_set,List.length_set];exact x.len⟩,fun a h=>x.aok a (sub a h),fun j e a h1 h2=>?_,fun j k e f a h1 h2 h3 h4=>?_,x.same,by rw[List.length_set,List.length_set];exact x.len⟩
 ·by_cases hj:i=j
  ·subst hj
   have e1:=Zay h
   cases e1
   refine⟨v,?_,Rep.sub sub _ r⟩
   have hl:i<σ.length:=by
    rw[<- x.len]
    have:=(List.getElem?_eq_some_iff.mp h).1
    simpa using this
   rw[List.getElem?_set_self hl]
  ·rw[Zad hj] at h
   obtain⟨w',q,rw'⟩:=x.good.sh j e h
   exact⟨w',by rw[Zad hj];exact q,Rep.sub sub _ rw'⟩
 ·obtain⟨hj,h1⟩:=own j e h
  obtain⟨a,xs,ds,q,z,ha,hh,rr⟩:=x.good.ow j e h1
  exact⟨a,xs,ds,by rw[Zad hj];exact q,z,.inr ⟨j,e,h,by rw[Zad hj];exact q⟩,hh,Reps.sub sub _ rr⟩
 ·obtain⟨hj,h1⟩:=own j e h1
  rw[Zad hj] at h2
  exact x.new j e a h1 h2
 ·obtain⟨hj,h1⟩:=own j e h1
  obtain⟨hk,h2⟩:=own k f h2
  rw[Zad hj] at h3
  rw[Zad hk] at h4
  exact x.dis j k e f a h1 h2 h3 h4
end
section
variable {X:Cx} {CL:ClA} {W:XW} {pos:Pos} {e:Expr} {fe:Rho->R D}
def SS(X:Cx)(CL:ClA)(W:XW)(st:Stmt)(f:Rho->O):Prop:=∀ Fz B,PS X st (fun D σ H=>∃ ρ,Sx X.K CL Fz B ρ σ H/\Zau X.K CL Fz B W (f ρ) D)
def SSs(X:Cx)(CL:ClA)(W:XW)(st:List Stmt)(f:Rho->O):Prop:=∀ Fz B,PSs X st (fun D σ H=>∃ ρ,Sx X.K CL Fz B ρ σ H/\Zau X.K CL Fz B W (f ρ) D)
theorem PS.weak{X:Cx}{e:Stmt}{t t':TS}(h:PS X e t)(k:∀ D σ H,t' D σ H->t D σ H):PS X e t':=fun pins s σ H D I q=>h pins s σ H D I (k _ _ _ q)
theorem PSs.weak{X:Cx}{e:List Stmt}{t t':TS}(h:PSs X e t)(k:∀ D σ H,t' D σ H->t D σ H):PSs X e t':=fun pins s σ H D I q=>h pins s σ H D I (k _ _ _ q)
theorem Zau.ex{Fz:Addr->HO->Prop}{B:Addr->Prop}{ρ:Rho}{σ:L2.St}{H:Hp}{r:R D}{f:D->O}{D':Ends}{Q:VK}{Rp:Hp->V->D->Prop}(x:Sx X.K CL Fz B ρ σ H)(h:Zau X.K CL Fz B W (O.of ρ r f) D')
  (k:∀ d v H',r=.ok d->Zaj H H'->Rp H' v d->Sx X.K CL Fz B ρ σ H'->Zau X.K CL Fz B W (f d) D'->Q v H'):ZaJ Rp W H r Q:=by
 cases r with
 | ok d=>exact fun v H' s r=>k d v H' rfl s r (x.grow s) h
 | exn y=>exact fun H' s=>h H' fun b o z=>s _ _ (x.same b o z)
 | bad=>exact h
theorem Zau.exB{Fz:Addr->HO->Prop}{B:Addr->Prop}{ρ:Rho}{σ:L2.St}{H:Hp}{r:R Bool}{f:Bool->O}{D':Ends}{Q:Bool->Hp->Prop}(x:Sx X.K CL Fz B ρ σ H)(h:Zau X.K CL Fz B W (O.of ρ r f) D')
  (k:∀ b H',r=.ok b->Zaj H H'->Sx X.K CL Fz B ρ σ H'->Zau X.K CL Fz B W (f b) D'->Q b H'):Za2 W H r Q:=by
 cases r with
 | ok d=>exact fun H' s=>k d H' rfl s (x.grow s) h
 | exn y=>exact fun H' s=>h H' fun b o z=>s _ _ (x.same b o z)
 | bad=>exact h
theorem Zna(he:SE X CL W e fe)(hs:swapsWith e none pos.line X.env=pure false):SS X CL W (.Expr e pos) (fun ρ=>O.of ρ (fe ρ) fun _=>.next ρ):=fun Fz B pins s σ H D I ⟨ρ,x,p⟩ =>
 Zjm (he (ZcG B ρ σ)) hs pins s σ H D I ⟨x.aok,ρ,x.good,Zau.ex x p fun d v H' _ s r x' q=>q σ H' x'⟩
theorem Zqe{i:Nat}{n:Str}{pos':Pos}(hN:X.N.Nodup)(hi:X.N[i]?=some n)(hx:Loc X.env.scope n)(he:SE X CL W e fe)(hs:swapsWith e (some (.Name n pos')) pos.line X.env=pure false)(hf:X.fn n=true\/X.env.scope.names.lookup n=some .local) :
  SS X CL W (.Assign [.Name n pos'] e pos) (fun ρ=>O.of ρ (fe ρ) fun d=>.next (ρ.set i (some (d,false)))):=fun Fz B pins s σ H D I ⟨ρ,x,p⟩ =>
 Zl9 hN hi hx (he (ZcG B ρ σ)) hs hf pins s σ H D I ⟨x.aok,ρ,x.good,Zau.ex x p fun d v H' _ s r x' q=>q _ H' (x'.set i r)⟩
theorem Zi4(he:SE X CL W e fe):SS X CL W (.Return (some e) pos) (fun ρ=>O.of ρ (fe ρ) fun d=>.ret d false):=fun Fz B pins s σ H D I ⟨ρ,x,p⟩ =>
 Zjl (he (ZcG B ρ σ)) pins s σ H D I ⟨x.aok,ρ,x.good,Zau.ex x p fun d v H' _ s r x' q=>q v H' x'.same (Rep.sub (fun a h=>.inl h) _ r) fun z=>nomatch z⟩
theorem Zqg{c:Expr}{fc:Rho->R Bool}{a b:List Stmt}{fa fb:Rho->O}(hc:SB X CL W c fc)(ha:SSs X CL W a fa)(hb:SSs X CL W b fb):SS X CL W (.If c a b pos) (fun ρ=>O.of ρ (fc ρ) fun k=>if k=true then fa ρ else fb ρ):=fun Fz B pins s σ H D I ⟨ρ,x,p⟩ =>
 Zwd (hc (ZcG B ρ σ)) (ha Fz B) (hb Fz B) pins s σ H D I ⟨x.aok,ρ,x.good,Zau.exB x p fun k H' _ s x' q=>by
  cases k with
  | true=>exact⟨ρ,x',q⟩
  | false=>exact⟨ρ,x',q⟩⟩
theorem ZgJ:SSs X CL W [] (fun ρ=>.next ρ):=fun Fz B=>PSs.weak ZnU fun D σ H ⟨ρ,x,p⟩=>p σ H x
theorem Zek{st:Stmt}{rest:List Stmt}{f g:Rho->O}(h1:SS X CL W st f)(h2:SSs X CL W rest g):SSs X CL W (st::rest) (fun ρ=>(f ρ).seq g):=fun Fz B=>PSs.weak (Zli (h1 Fz B) (h2 Fz B)) fun D σ H ⟨ρ,x,p⟩=>⟨ρ,x,by
 dsimp only at p
 cases e:f ρ with
 | next ρ'=>rw[e] at p;exact fun σ' H' x'=>⟨ρ',x',p⟩
 | ret d b=>rw[e] at p;exact p
 | brk ρ'=>rw[e] at p;exact p
 | cont ρ'=>rw[e] at p;exact p
 | exn y ρ'=>rw[e] at p;exact p
 | bad=>rw[e] at p;exact p⟩
end
end Ov
end
section
namespace Ov
open PySem PySem.Spec PyProof.Rows L2
def ZlP(K:PySem.W.Frag)(CL:ClA)(A:Addr->Prop)(ds:List D)(J:It)(H1:Hp):Prop:=∀ H,Kp A H1 H->∀ i:Nat,(ds.length<=i->J.stop i H)/\∀ d,ds[i]?=some d->J.go i H/\∀ x H',J.yld i H x H'->Zaj H H'/\∀ B,(∀ a,B a->A a\/H1 a=none)->AOk H B->Rep K CL H' B x d
def Zcw(K:PySem.W.Frag)(CL:ClA)(A:Addr->Prop)(W:XW)(H:Hp)(r:R (List D))(Q:It->Hp->Prop):Prop:=match r with
  | .ok ds=>∀ J H',Zaj H H'->ZlP K CL A ds J H'->ds.length<=sizeLine->Q J H'
  | .exn x=>∀ H',Zaj H H'->W x H'
  | .bad=>False
def SI(X:Cx)(CL:ClA)(W:XW)(tg iter:Expr)(f:Rho->R (List D)):Prop:=∀ A,PI X tg iter (fun σ H R=>AOk H A/\∃ ρ,Good X.K CL A ρ σ H/\Zcw X.K CL A W H (f ρ) R)
theorem PI.weak{X:Cx}{tg e:Expr}{t t':TI}(h:PI X tg e t)(k:∀ σ H Q,t' σ H Q->t σ H Q):PI X tg e t':=fun pins s σ H Q I q=>h pins s σ H Q I (k _ _ _ q)
section
variable {X:Cx} {CL:ClA} {W:XW} {pos p:Pos} {tg e a b:Expr} {fe fa fb:Rho->R D}
theorem Zcw.ex{A:Addr->Prop}{H:Hp}{r:R D}{f:D->R (List D)}{Q:It->Hp->Prop}{Q':VK}{Rp:Hp->V->D->Prop}(h:Zcw X.K CL A W H (r.bind f) Q)(k:∀ d v H',r=.ok d->Zaj H H'->Rp H' v d->Zcw X.K CL A W H' (f d) Q->Q' v H'):ZaJ Rp W H r Q':=by
  cases r with
  | ok d=>exact fun v H' s q=>k d v H' rfl s q (by
      have h':Zcw X.K CL A W H (f d) Q:=h
      cases e:f d with
      | ok ds=>rw[e] at h';exact fun J H2 s2 y z=>h' J H2 (s.trans s2) y z
      | exn y=>rw[e] at h';exact fun H2 s2=>h' H2 (s.trans s2)
      | bad=>rw[e] at h';exact h')
  | exn y=>exact h
  | bad=>exact h
theorem ZcO{K:PySem.W.Frag}{A B:Addr->Prop}{H1 H:Hp}{x:V}{d:D}(r:Rep K CL H1 A x d)(k:Kp A H1 H)(hB:∀ a,B a->A a\/H1 a=none):Rep K CL H B x d:=by
 have r1:Rep K CL H1 (fun a=>A a\/B a) x d:=Rep.wide (fun a ha=>ha.elim .inl (hB a)) _ r
 have r2:Rep K CL H (fun a=>A a\/B a) x d:=Rep.kp (fun b o e na=>k b o e fun z=>na (.inl z)) _ r1
 exact Rep.sub (fun a ha=>.inr ha) _ r2
theorem Zif{K:PySem.W.Frag}{A:Addr->Prop}{H:Hp}{q:Addr}{xs:List V}{ds:List D}(na:¬ A q\/KL K q xs)(s:SqL K H q xs)(r:Reps K CL H A xs ds):ZlP K CL A ds (Itl K q) H:=fun H' k i=>by
 have s':=Zhu k na s
 refine⟨fun h=>⟨xs,s',by rw[r.length];exact h⟩,fun d hd=>?_⟩
 obtain⟨v,hv,rv⟩:=r.get hd
 exact⟨⟨xs,v,s',hv⟩,fun x H2 ⟨e,y⟩=>by
  subst e
  have:=y xs s'
  rw[hv] at this
  cases this
  exact⟨Zaj.refl _,fun B hB _=>ZcO rv k hB⟩⟩
theorem ZkW{K:PySem.W.Frag}{A:Addr->Prop}{H:Hp}{q:Addr}{xs:List V}{ds:List D}(na:¬ A q\/KT K q xs)(s:SqT K H q xs)(r:Reps K CL H A xs ds):ZlP K CL A ds (Itt K q) H:=fun H' k i=>by
 have s':=Zht k na s
 refine⟨fun h=>⟨xs,s',by rw[r.length];exact h⟩,fun d hd=>?_⟩
 obtain⟨v,hv,rv⟩:=r.get hd
 exact⟨⟨xs,v,s',hv⟩,fun x H2 ⟨e,y⟩=>by
  subst e
  have:=y xs s'
  rw[hv] at this
  cases this
  exact⟨Zaj.refl _,fun B hB _=>ZcO rv k hB⟩⟩
theorem Zhj{K:PySem.W.Frag}{A:Addr->Prop}{H:Hp}(lo:Int)(n:Nat):ZlP K CL A (Zfb lo n) (Itr lo n) H:=fun H' k i=>by
 refine⟨fun h=>by rw[ZbI] at h;exact h,fun d hd=>?_⟩
 obtain⟨h1,rfl⟩:=ZfH hd
 exact⟨h1,fun x H2 ⟨e,y⟩=>by
  subst e y
  exact⟨Zaj.refl _,fun _ _ _=>rfl⟩⟩
theorem Zq7{l:Expr}{tl:TE}(hl:PE X l tl):PI X tg l (fun σ H R=>tl σ H fun x H1=>(∃ a,x=.ref a/\(∃ xs,SqL X.K H1 a xs/\(xs.length<=sizeLine->R (Itl X.K a) H1)))\/∃ a,x=.ref a/\(∃ xs,SqT X.K H1 a xs/\(xs.length<=sizeLine->R (Itt X.K a) H1))):=by
 intro pins s σ H R I h
 refine thn (hl pins s σ H _ I h) fun v s1 ⟨x,H1,I1,r1,q1⟩=>?_
 rcases q1 with ⟨a,e,xs,hq,q⟩|⟨a,e,xs,hq,q⟩
 ·subst e
  cases r1
  obtain⟨its,rv,p,hz⟩:=I1.list hq
  refine wpAny_pyIter_list p.isList ?_
  refine⟨s1.heap.objs.size,[s1.heap.objs.size],_,_,H1,rfl,I1.kept (t':=s1.toks) fun b o e=>Heap.get?_push_of_some _ e,ZiW a _,⟨_,Heap.get?_push_size _ rfl,rfl,rfl⟩,fun b hb=>?_,q hz⟩
  have e:b=s1.heap.objs.size:=by simpa using hb
  subst e
  exact I1.fpOk (Nat.le_refl _) (I1.hok.fresh (Nat.le_refl _))
 ·subst e
  cases r1
  obtain⟨its,rv,p,hz⟩:=I1.tuple hq
  refine wpAny_pyIter_tuple (show s1.heap.IsTuple a its.toArray from p) ?_
  refine⟨s1.heap.objs.size,[s1.heap.objs.size],_,_,H1,rfl,I1.kept (t':=s1.toks) fun b o e=>Heap.get?_push_of_some _ e,Zij a _,⟨_,Heap.get?_push_size _ rfl,rfl,rfl⟩,fun b hb=>?_,q hz⟩
  have e:b=s1.heap.objs.size:=by simpa using hb
  subst e
  exact I1.fpOk (Nat.le_refl _) (I1.hok.fresh (Nat.le_refl _))
theorem Zzy(he:SE X CL W e fe):SI X CL W tg e (fun ρ=>(fe ρ).bind ZaF):=fun A=>PI.weak (Zq7 (he A)) fun σ H R ⟨hA,ρ,g,p⟩=>⟨hA,ρ,g,Zcw.ex p fun d v H1 _ s1 r1 p1=>by
 cases d with
 | lst ds =>
  obtain⟨q,xs,rfl,na,sq,r⟩:=r1
  exact .inl ⟨q,rfl,xs,sq,fun hz=>p1 _ H1 (Zaj.refl H1) (Zif na sq r) (by rw[<- r.length];exact hz)⟩
 | tup ds =>
  obtain⟨q,xs,rfl,na,sq,r⟩:=r1
  exact .inr ⟨q,rfl,xs,sq,fun hz=>p1 _ H1 (Zaj.refl H1) (ZkW na sq r) (by rw[<- r.length];exact hz)⟩
 | _=>exact p1.elim⟩
theorem Zf3{lo hi:Int}{ds:List D}(h:ZaB lo hi=.ok ds):(-(2 ^ 62)<=lo/\lo<2 ^ 62)/\(-(2 ^ 62)<=hi/\hi<2 ^ 62)/\ds=Zfb lo (hi-lo).toNat/\(Zfb lo (hi-lo).toNat).length<=sizeLine:=by
 unfold ZaB at h
 split at h
 ·rename_i q;cases h;exact⟨by omega,by omega,rfl,by rw[ZbI,sizeLine_eq];omega⟩
 ·cases h
theorem Zfc{lo hi:Int}{x:Ex}(h:ZaB lo hi=.exn x):False:=by
 unfold ZaB at h
 split at h<;>cases h
theorem Zqo(ha:ST X CL W a fa)(hg:Gl X "range")(hm:X.mg "range" = none)(hs:starEach [a] X.env=[(false,eval a X.env)]):SI X CL W tg (.Call (.Name "range" p) [a] [] pos) (fun ρ=>(fa ρ).bind fun x=>(ZcJ x).bind fun j=>ZaB 0 j) :=
 fun A=>PI.weak (Zjq hg hm (ZaD (ha A) Zb6 hs) hs) fun σ H R ⟨hA,ρ,g,q⟩=>⟨hA,ρ,g,Zcw.ex q fun d v H1 _ s1 r1 p1=>by
  cases d with
  | int j =>
   have e:=r1.int_of
   subst e
   have p2:Zcw X.K CL A W H1 (ZaB 0 j) R:=p1
   cases e2:ZaB 0 j with
   | ok ds =>
    rw[e2] at p2
    obtain⟨_,h2,rfl,hz⟩:=Zf3 e2
    exact⟨j,rfl,h2.1,h2.2,p2 _ H1 (Zaj.refl H1) (by rw[Int.sub_zero];exact Zhj 0 j.toNat) hz⟩
   | exn y=>exact(Zfc e2).elim
   | bad=>rw[e2] at p2;exact p2.elim
  | _=>exact p1.elim⟩
theorem Znh(ha:ST X CL W a fa)(hb:ST X CL W b fb)(hg:Gl X "range")(hm:X.mg "range" = none)(hs:starEach [a,b] X.env=[(false,eval a X.env),(false,eval b X.env)])(hs2:starEach [b] X.env=[(false,eval b X.env)]) :
  SI X CL W tg (.Call (.Name "range" p) [a,b] [] pos) (fun ρ=>(fa ρ).bind fun x=>(fb ρ).bind fun y=>(ZcJ x).bind fun i=>(ZcJ y).bind fun j=>ZaB i j) :=
 fun A=>PI.weak (Zjp hg hm (ZaD (ha A) (ZaD (hb A) Zb6 hs2) (by rw[hs,hs2])) hs hs2) fun σ H R ⟨hA,ρ,g,q⟩=>⟨hA,ρ,g,Zcw.ex q fun d v H1 _ s1 r1 p1=>⟨hA.same s1,ρ,g.same s1,Zcw.ex p1 fun d2 v2 H2 _ s2 r2 p2=>by
  cases d with
  | int i =>
   cases d2 with
   | int j =>
    have e:=r1.int_of;have e':=r2.int_of
    subst e e'
    have p3:Zcw X.K CL A W H2 (ZaB i j) R:=p2
    cases e2:ZaB i j with
    | ok ds =>
     rw[e2] at p3
     obtain⟨h1,h2,rfl,hz⟩:=Zf3 e2
     exact⟨i,j,rfl,⟨h1.1,h1.2,h2.1,h2.2⟩,p3 _ H2 (Zaj.refl H2) (Zhj _ _) hz⟩
    | exn y=>exact(Zfc e2).elim
    | bad=>rw[e2] at p3;exact p3.elim
   | _=>exact p2.elim
  | _=>exact p2.elim⟩⟩
theorem Zau.exI{Fz:Addr->HO->Prop}{B A:Addr->Prop}{ρ:Rho}{σ:L2.St}{H:Hp}{r:R (List D)}{f:List D->O}{D':Ends}{Q:It->Hp->Prop}(x:Sx X.K CL Fz B ρ σ H)(h:Zau X.K CL Fz B W (O.of ρ r f) D')
  (k:∀ ds J H',r=.ok ds->Zaj H H'->ZlP X.K CL A ds J H'->ds.length<=sizeLine->Sx X.K CL Fz B ρ σ H'->Zau X.K CL Fz B W (f ds) D'->Q J H'):Zcw X.K CL A W H r Q:=by
 cases r with
 | ok d=>exact fun J H' s y z=>k d J H' rfl s y z (x.grow s) h
 | exn y=>exact fun H' s=>h H' fun b o z=>s _ _ (x.same b o z)
 | bad=>exact h
theorem Zau.turn{K:PySem.W.Frag}{Fz Fy:Addr->HO->Prop}{B:Addr->Prop}{o:O}{g:Rho->O}{D':Ends}{N:L2.St->Hp->Prop}(hf:∀ b q,Fz b q->Fy b q)(h:Zau K CL Fz B W (o.turn g) D')(k:∀ ρ' σ' H',Sx K CL Fy B ρ' σ' H'->Zau K CL Fz B W (g ρ') D'->N σ' H') :
  Zau K CL Fy B W o { D' with nx:=N,ct:=N,bk:=D'.nx }:=by
 cases o with
 | next ρ'=>exact fun σ' H' x=>k ρ' σ' H' x h
 | cont ρ'=>exact fun σ' H' x=>k ρ' σ' H' x h
 | brk ρ'=>exact fun σ' H' x=>h σ' H' (x.mono hf)
 | ret d b=>exact fun v H' s r n=>h v H' (fun b o z=>s b o (hf b o z)) r fun z ds e=>let ⟨a,xs,h1,h2,h3⟩:=n z ds e;⟨a,xs,h1,fun o q=>h2 o (hf a o q),h3⟩
 | exn y ρ'=>exact fun H' s=>h H' (fun b o z=>s b o (hf b o z))
 | bad=>exact h
noncomputable def ZcS(ts:List Nat)(ρ:Rho):Rho:=ts.foldl (fun ρ t=>ρ.set t none) ρ
def GT(K:PySem.W.Frag)(CL:ClA)(as:D->Rho->R Rho)(g:TG):Prop:=∀ Fz B ρ σ H v d ρ' Q,Sx K CL Fz B ρ σ H->Rep K CL H (ZcG B ρ σ) v d->as d ρ=.ok ρ'->(∀ σ',Sx K CL Fz B ρ' σ' H->Q σ' H)->g v σ H Q
theorem ZoC{K:PySem.W.Frag}(i:Nat):GT K CL (fun d ρ=>.ok (ρ.set i (some (d,false)))) (ZcH i):=fun Fz B ρ σ H v d ρ' Q x r e k=>by
 cases e
 exact k _ (x.set i r)
theorem ZjZ{K:PySem.W.Frag}{Fz:Addr->HO->Prop}{B:Addr->Prop}{H:Hp}:∀ (ts:List Nat) (ds:List D) (vs:List V) (ρ ρ':Rho) (σ:L2.St) (Q:L2.St->Hp->Prop),Sx K CL Fz B ρ σ H->Reps K CL H (ZcG B ρ σ) vs ds->Za5 ts ds ρ=some ρ'->(∀ σ',Sx K CL Fz B ρ' σ' H->Q σ' H)->(ts.foldr (fun t u=>Zey (ZcH t) u) Zj1) vs σ H Q
 | [],[],[],ρ,ρ',σ,Q,x,_,e,k=>by
  cases e
  exact⟨rfl,k σ x⟩
 | t::ts,d::ds,v::vs,ρ,ρ',σ,Q,x,r,e,k=>by
  refine⟨v,vs,rfl,ZjZ ts ds vs _ ρ' _ Q (x.set t r.1) (Reps.sub (fun a ha=>?_) ds r.2) e k⟩
  rcases ha with ha|⟨j,c,h1,h2⟩
  ·exact .inl ha
  ·by_cases hj:t=j
   ·subst hj
    have:=Zay h1
    cases this
   ·rw[Zad hj] at h1 h2
    exact .inr ⟨j,c,h1,h2⟩
 | [],_::_,_,_,_,_,_,_,_,e,_=>by cases e
 | _::_,[],_,_,_,_,_,_,_,e,_=>by cases e
 | [],[],_::_,_,_,_,_,_,r,_,_=>r.elim
 | _::_,_::_,[],_,_,_,_,_,r,_,_=>r.elim
theorem ZcZ:∀ (ts:List Nat) (ds:List D) (ρ ρ':Rho),Za5 ts ds ρ=some ρ'->ds.length=ts.length
 | [],[],_,_,_=>rfl
 | _::ts,_::ds,_,_,e=>congrArg (· + 1) (ZcZ ts ds _ _ e)
 | [],_::_,_,_,e=>by cases e
 | _::_,[],_,_,e=>by cases e
theorem Zmm{K:PySem.W.Frag}(ts:List Nat):GT K CL (ZbB ts) (ZpP K ts.length (ts.foldr (fun t u=>Zey (ZcH t) u) Zj1)):=fun Fz B ρ σ H v d ρ' Q x r e k=>by
 cases d with
 | tup ds =>
  obtain⟨a,xs,rfl,na,sq,rs⟩:=r
  rw[Zfl] at e
  cases e2:Za5 ts ds ρ with
  | none=>rw[e2] at e;cases e
  | some ρ2 =>
   rw[e2] at e
   cases e
   exact⟨a,xs,rfl,sq,by rw[rs.length];exact ZcZ _ _ _ _ e2,ZjZ ts ds xs ρ _ σ Q x rs e2 k⟩
 | _=>cases e
theorem Zl0{tg iter:Expr}{body:List Stmt}{fi:Rho->R (List D)}{fbd:Rho->O}{as:D->Rho->R Rho}{g:TG}(hp:PassesOwn (model X.prog X.w) X.A X.env X.xe)(hc:X.calm=true)(hGT:GT X.K CL as g)(hg:PG X tg g)
  (hit:SI X CL W tg iter fi) (hb:SSs X CL W body fbd) (hs:∀ x,foldedSetIterable iter X.env x=pure x) (hax:∀ d ρ x,as d ρ≠.exn x) :
  SS X CL W (.For tg iter body [] pos) (fun ρ=>O.of ρ (fi ρ) fun xs=>ZdH (fun x ρ'=>O.of ρ' (as x ρ') fbd) xs ρ):=fun Fz B pins s σ H D I ⟨ρ,x,p⟩=>by
 refine Zq4 hp hc (hit (ZcG B ρ σ)) hg (tb:=fun D σ H=>∃ Fy,(fun D σ H=>∃ ρ,Sx X.K CL Fy B ρ σ H/\Zau X.K CL Fy B W (fbd ρ) D) D σ H) (fun pins s σ H D I ⟨Fy,q⟩=>hb Fy B pins s σ H D I q) hs pins s σ H D I ⟨x.aok,ρ,x.good,Zau.exI x p fun ds J H1 _ s1 y _ x1 q=>?_⟩
 let Fy:Addr->HO->Prop:=fun b o=>H1 b=some o/\¬ ∃ (j:Nat) (d:Ov.D),ρ[j]?=some (some (d,true))/\σ[j]?=some (some (.ref b))
 have hfy:∀ b o,Fz b o->Fy b o:=fun b o z=>⟨x1.same b o z,fun ⟨j,d,h1,h2⟩=>(x1.new j d b h1 h2).1 o z⟩
 have xy:Sx X.K CL Fy B ρ σ H1:=⟨x1.good,x1.aok,fun j d a h1 h2=>⟨fun o z=>z.2 ⟨j,d,h1,h2⟩,(x1.new j d a h1 h2).2⟩,x1.dis,fun b o z=>z.1,x1.len⟩
 refine⟨fun k m σ' H'=>m=ds.length-k/\k<=ds.length/\∃ ρ',Sx X.K CL Fy B ρ' σ' H'/\Zau X.K CL Fz B W (ZdH (fun x ρ'=>O.of ρ' (as x ρ') fbd) (ds.drop k) ρ') D,⟨ds.length,by simp,Nat.zero_le _,ρ,xy,q⟩,?_⟩
 rintro k m σ' H' ⟨rfl,hk,ρ',x',q'⟩
 have kp:Kp (ZcG B ρ σ) H1 H':=fun b o e na=>x'.same b o ⟨e,fun z=>na (.inr z)⟩
 obtain⟨yst,ygo⟩:=y H' kp k
 by_cases hlt:k<ds.length
 ·have hd:ds[k]?=some ds[k]:=List.getElem?_eq_getElem hlt
  obtain⟨hgo,hyl⟩:=ygo _ hd
  refine .inr ⟨hgo,fun σ'' H''=>∃ ρ'',Sx X.K CL Fy B ρ'' σ'' H''/\Zau X.K CL Fz B W (ZdH (fun x ρ'=>O.of ρ' (as x ρ') fbd) (ds.drop (k+1)) ρ'') D,fun σ'' H'' z=>⟨ds.length-(k+1),by omega,rfl,hlt,z⟩,fun v H2 hv=>?_⟩
  obtain⟨e2,rv⟩:=hyl v H2 hv
  rw[List.drop_eq_getElem_cons hlt] at q'
  have q2:Zau X.K CL Fz B W ((O.of ρ' (as ds[k] ρ') fbd).turn (ZdH (fun x ρ'=>O.of ρ' (as x ρ') fbd) (ds.drop (k+1)))) D:=q'
  have rv':Rep X.K CL H2 (ZcG B ρ' σ') v ds[k]:=rv _ (fun a ha=>by
    rcases ha with ha|⟨j,d,h1,h2⟩
    ·exact .inl (.inl ha)
    ·cases e:H1 a with
     | none=>exact .inr rfl
     | some o =>
      by_cases ho:∃ (j:Nat) (d:Ov.D),ρ[j]?=some (some (d,true))/\σ[j]?=some (some (.ref a))
      ·exact .inl (.inr ho)
      ·exact absurd ⟨e,ho⟩ ((x'.new j d a h1 h2).1 o)) x'.aok
  cases ea:as ds[k] ρ' with
  | bad=>rw[ea] at q2;exact q2.elim
  | exn z=>exact absurd ea (hax _ _ z)
  | ok ρ2 =>
   rw[ea,O.of_ok] at q2
   exact hGT Fy B ρ' σ' H2 v ds[k] ρ2 _ (x'.grow e2) rv' ea fun σ3 x3=>⟨Fy,ρ2,x3,Zau.turn hfy q2 fun ρ3 σ3 H3 x3 q3=>⟨ρ3,x3,q3⟩⟩
 ·have hk':ds.length<=k:=by omega
  rw[List.drop_eq_nil_of_le hk'] at q'
  exact .inl ⟨yst hk',q' σ' H' (x'.mono hfy)⟩
end
end Ov
end
section
namespace Ov
open PySem PySem.Spec PyProof.Rows L2
section
variable {X:Cx} {CL:ClA} {W:XW} {a b c:Expr} {fa fb fc:Rho->R D} {pos:Pos}
noncomputable def tyK:Ki->Option String
 | .int=>some "int"
 | .bool=>some "bool"
 | .str=>some "str"
 | .list=>some "list"
 | .tuple=>some "tuple"
 | _=>none
noncomputable def Zjo:D->Bool
 | .obj _ _=>false
 | .exc _ _=>false
 | .dic _=>false
 | _=>true
theorem ZrM{pins:List (Addr×Obj)}{σ:L2.St}{H:Hp}{s:Shared}{A:Addr->Prop}{v:V}{u:Value}{d:D}{k:Ki}{T:String}{up:Nat->List Nat}{Q:Value->Shared->Prop}{E:Value->Shared->Prop}
  (I:Inv X pins σ H s) (r:Zc9 X.K CL H A v d) (q:Zbb v u) (hT:tyK k=some T) (hd:Zjo d=true) (h:∀ s',Inv X pins σ H s'->Q (.bool (kiD up k d)) s') :
  wpAny (model X.prog X.w) X.A (call (.builtin "isinstance") [u,.type T]) Q E s:=by
 have r':=r.plain
 have it:=fun t=>h _ (I.tok t)
 cases d with
 | obj=>cases hd
 | exc=>cases hd
 | dic=>cases hd
 | non =>
  cases r'
  cases q
  cases k<;>simp only[tyK] at hT<;>cases hT
  ·exact IsiPair.NoneType_int (it _)
  ·exact IsiPair.NoneType_bool (it _)
  ·exact IsiPair.NoneType_str (it _)
  ·exact IsiPair.NoneType_list (it _)
  ·exact IsiPair.NoneType_tuple (it _)
 | bl b =>
  cases r'
  cases q
  cases k<;>simp only[tyK] at hT<;>cases hT
  ·exact IsiPair.bool_int (h _ I)
  ·exact IsiPair.bool_bool (h _ I)
  ·exact IsiPair.bool_str (it _)
  ·exact IsiPair.bool_list (it _)
  ·exact IsiPair.bool_tuple (it _)
 | int i =>
  cases r'
  obtain⟨t,rfl⟩:=q
  cases k<;>simp only[tyK] at hT<;>cases hT
  ·exact IsiPair.int_int (h _ I)
  ·exact IsiPair.int_bool (it _)
  ·exact IsiPair.int_str (it _)
  ·exact IsiPair.int_list (it _)
  ·exact IsiPair.int_tuple (it _)
 | str x =>
  cases r'
  obtain⟨t,rfl⟩:=q
  cases k<;>simp only[tyK] at hT<;>cases hT
  ·exact IsiPair.str_int (it _)
  ·exact IsiPair.str_bool (it _)
  ·exact IsiPair.str_str (h _ I)
  ·exact IsiPair.str_list (it _)
  ·exact IsiPair.str_tuple (it _)
 | tup ds =>
  obtain⟨p,xs,rfl,_,sq,rr⟩:=r'
  obtain⟨its,rv,pt,_⟩:=I.tuple sq
  cases q
  have pt':s.heap.IsTuple p its.toArray:=pt
  cases k<;>simp only[tyK] at hT<;>cases hT
  ·exact IsiPair.isTuple_int pt' (fun _ _ e=>e) (it _)
  ·exact IsiPair.isTuple_bool pt' (fun _ _ e=>e) (it _)
  ·exact IsiPair.isTuple_str pt' (fun _ _ e=>e) (it _)
  ·exact IsiPair.isTuple_list pt' (fun _ _ e=>e) (it _)
  ·exact IsiPair.isTuple_tuple pt' (fun _ _ e=>e) (h _ I)
 | lst ds =>
  obtain⟨p,xs,rfl,_,sq,rr⟩:=r'
  obtain⟨its,rv,pl,_⟩:=I.list sq
  cases q
  have pt':s.heap.IsList p its.toArray:=Zde pl
  cases k<;>simp only[tyK] at hT<;>cases hT
  ·exact IsiPair.isList_int pt' (fun _ _ e=>e) (it _)
  ·exact IsiPair.isList_bool pt' (fun _ _ e=>e) (it _)
  ·exact IsiPair.isList_str pt' (fun _ _ e=>e) (it _)
  ·exact IsiPair.isList_list pt' (fun _ _ e=>e) (h _ I)
  ·exact IsiPair.isList_tuple pt' (fun _ _ e=>e) (it _)
theorem ZjV{up:Nat->List Nat}{k:Ki}{T:String}{d:D}{Rp:Hp->V->D->Prop}{H:Hp}{Q:VK}(hT:tyK k=some T)(p:ZaJ Rp W H (Ze1 up [k] d) Q):Zjo d=true/\ZaJ Rp W H (.ok (.bl (kiD up k d))) Q:=by
 cases k<;>simp only[tyK] at hT<;>cases hT<;>cases d<;>first|exact p.elim|exact⟨rfl,by simpa using p⟩
theorem Zqy{k:Ki}{T:String}{x:Str}{up:Nat->List Nat}{p p2:Pos}(hT:tyK k=some T)(hg:Gl X "isinstance")(hm:X.mg "isinstance" = none)(hg2:Gl X x)(hm2:X.mg x=none)(hv:bootBuiltins x=some (.type T))(hn:x≠"__name__")(hdb:(x == ("__debug__" : Str))=false)
  (ha:ST X CL W a fa) (he:starEach [a,.Name x p2] X.env=(false,eval a X.env)::starEach [.Name x p2] X.env):SE X CL W (.Call (.Name "isinstance" p) [a,.Name x p2] [] pos) (fun ρ=>(fa ρ).bind fun x=>Ze1 up [k] x):=fun A =>
 PE.weak (Zdn (r:=fun xs H Q=>∃ y d,xs=[y,.ty T]/\Zc9 X.K CL H A y d/\Zjo d=true/\Q (.bl (kiD up k d)) H) (fun pins s σ H xs us Q I r ⟨y,d,e,ry,hd,q⟩=>by
   subst e
   obtain⟨u,w',rfl,r1,r2⟩:=Zii r
   cases r2
   exact ZrM I ry r1 hT hd fun s' I'=>⟨.bl _,H,I',rfl,q⟩)
  hg hm boot_isinstance (ZaD (ha A) (ZaD (Zjv (v:=.ty T) hg2 hm2 hv rfl hn hdb) Zb6 rfl) he) (by decide) (by decide) he rfl) fun σ H Q ⟨hA,ρ,g,q⟩=>⟨hA,ρ,g,ZaJ.bind q fun d v H1 _ s1 r1 p1=>by
   obtain⟨hd,p2⟩:=ZjV hT p1
   exact⟨v,d,rfl,r1,hd,p2 _ H1 (Zaj.refl H1) rfl⟩⟩
theorem ZgH{H:Hp}{A:Addr->Prop}{v:V}{u:Value}{d:D}{b:Bool}{A':Around}{E:Value->Shared->Prop}{Q:Bool->Shared->Prop}{s:Shared}{prog:Program}{w:World}(r:Rep X.K CL H A v d)(q:Zbb v u)(h:Zej d=.ok b)(hq:Q b s):wpAny (model prog w) A' (truthy u) Q E s:=by
 cases d with
 | non =>
  cases r;cases q;cases h
  exact truthy_none hq
 | bl k =>
  cases r;cases q;cases h
  exact wpAny_truthy_bool hq
 | int i =>
  cases r
  obtain⟨t,rfl⟩:=q
  cases h
  exact truthy_int hq
 | _=>cases h
theorem ZeU:∀ {ds:List D} {b:Bool},Zd1 ds=.ok b->(∀ j,j<ds.length->∃ c,Zej (ds.getD j .non)=.ok c)/\b=(List.range ds.length).all fun j=>match Zej (ds.getD j .non) with
  | .ok c=>c
  | _=>false
 | [],b,h=>by cases h;exact⟨fun j hj=>absurd hj (Nat.not_lt_zero _),rfl⟩
 | d::ds,b,h=>by
  rw[Zd0] at h
  cases e:Zej d with
  | bad=>rw[e] at h;cases h
  | exn x=>rw[e] at h;cases h
  | ok c =>
   rw[e,R.bind_ok] at h
   cases e2:Zd1 ds with
   | bad=>rw[e2] at h;cases h
   | exn x=>rw[e2] at h;cases h
   | ok c2 =>
    rw[e2,R.bind_ok] at h
    cases h
    obtain⟨h1,h2⟩:=ZeU e2
    refine⟨fun j hj=>?_,?_⟩
    ·cases j with
     | zero=>exact⟨c,e⟩
     | succ j=>exact h1 j (by simpa using hj)
    ·rw[List.length_cons,Zdd,h2]
     show (c&&_)=((match Zej d with | .ok c=>c|_=>false)&&_)
     rw[e]
     rfl
theorem ZeT:∀ {ds:List D} {b:Bool},Zdc ds=.ok b->(∀ j,j<ds.length->∃ c,Zej (ds.getD j .non)=.ok c)/\b=(List.range ds.length).any fun j=>match Zej (ds.getD j .non) with
  | .ok c=>c
  | _=>false
 | [],b,h=>by cases h;exact⟨fun j hj=>absurd hj (Nat.not_lt_zero _),rfl⟩
 | d::ds,b,h=>by
  rw[Zfn] at h
  cases e:Zej d with
  | bad=>rw[e] at h;cases h
  | exn x=>rw[e] at h;cases h
  | ok c =>
   rw[e,R.bind_ok] at h
   cases e2:Zdc ds with
   | bad=>rw[e2] at h;cases h
   | exn x=>rw[e2] at h;cases h
   | ok c2 =>
    rw[e2,R.bind_ok] at h
    cases h
    obtain⟨h1,h2⟩:=ZeT e2
    refine⟨fun j hj=>?_,?_⟩
    ·cases j with
     | zero=>exact⟨c,e⟩
     | succ j=>exact h1 j (by simpa using hj)
    ·rw[List.length_cons,List.range_succ_eq_map,List.any_cons,List.any_map,h2]
     show (c||_)=((match Zej d with | .ok c=>c|_=>false)||_)
     rw[e]
     rfl
theorem Zhq:∀ (ds:List D) (a z:Int),Zhr a ds=.ok z->(∀ j,j<ds.length->∃ i,ds.getD j .non=.int i)/\z=a+preSum (fun j=>match ds.getD j .non with
  | .int i=>i
  | _=>0) ds.length
 | [],a,z,h=>by cases h;exact⟨fun j hj=>absurd hj (Nat.not_lt_zero _),by simp[preSum]⟩
 | .int i::ds,a,z,h=>by
  obtain⟨h1,h2⟩:=Zhq ds (a+i) z h
  refine⟨fun j hj=>?_,?_⟩
  ·cases j with
   | zero=>exact⟨i,rfl⟩
   | succ j=>exact h1 j (by simpa using hj)
  ·have key:∀ n,preSum (fun j=>match (D.int i::ds).getD j .non with | .int i=>i|_=>0) (n+1)=i+preSum (fun j=>match ds.getD j .non with | .int i=>i|_=>0) n:=by
    intro n
    induction n with
    | zero=>show (0:Int)+i=i+0;omega
    | succ n ih =>
     show preSum _ (n+1)+(match ds.getD n .non with | .int i=>i|_=>0)=i+(preSum _ n+(match ds.getD n .non with | .int i=>i|_=>0))
     rw[ih]
     omega
   rw[h2,List.length_cons,key]
   omega
 | .non::_,_,_,h=>by cases h
 | .bl _::_,_,_,h=>by cases h
 | .str _::_,_,_,h=>by cases h
 | .tup _::_,_,_,h=>by cases h
 | .lst _::_,_,_,h=>by cases h
 | .obj _ _::_,_,_,h=>by cases h
 | .exc _ _::_,_,_,h=>by cases h
 | .dic _::_,_,_,h=>by cases h
theorem ZeR{H:Hp}{xs:List V}{ds:List D}{its:List Value}(r:Reps X.K CL H A0 xs ds)(rv:ZaP xs its){j:Nat}{v:Value}(h:its.toArray[j]?=some v):j<ds.length/\∃ x,Rep X.K CL H A0 x (ds.getD j .non)/\Zbb x v:=by
 have h':its[j]?=some v:=by simpa using h
 obtain⟨hj,e⟩:=List.getElem?_eq_some_iff.mp h'
 obtain⟨x,rx,q⟩:=ZeQ r rv hj
 have l1:=rv.length;have l2:=r.length
 exact⟨by omega,x,rx,by rw[<- e];exact q⟩
theorem ZjS{h h':Heap}{o:Obj}(k:∀ b q,b∉[h.objs.size]->(h.push o).get? b=some q->h'.get? b=some q):∀ b q,h.get? b=some q->h'.get? b=some q:=fun b q e=>k b q (by
 intro z
 have:=List.mem_singleton.mp z
 rw[this] at e
 exact absurd (Heap.lt_size e) (Nat.lt_irrefl _)) (Heap.get?_push_of_some _ e)
theorem ZsG(hc:X.calm=true):Ze5 X CL W (.builtin "all") (biD .all):=by
  intro A pins s σ H xs us Q I r ⟨hA,ds,rs,p⟩
  match ds,rs,p with
  | [.lst es],rs,p =>
    obtain⟨v,rfl,rv⟩:=rs.one
    obtain⟨q,ys,e,_,sq,ry⟩:=rv.plain
    subst e
    obtain⟨u,rfl,ru⟩:=Zea r
    cases ru
    rw[ZxZ] at p
    cases e1:Zd1 es with
    | bad=>rw[e1] at p;exact p.elim
    | exn x =>
      exfalso
      have:∀ (es:List D) x,Zd1 es≠.exn x:=by
        intro es
        induction es with
        | nil=>intro x h;cases h
        | cons d ds ih =>
          intro x h
          rw[Zd0] at h
          cases e:Zej d with
          | bad=>rw[e] at h;cases h
          | exn y=>cases d<;>cases e
          | ok c =>
            rw[e,R.bind_ok] at h
            cases e2:Zd1 ds with
            | bad=>rw[e2] at h;cases h
            | exn y=>exact ih y e2
            | ok c2=>rw[e2] at h;cases h
      exact this es x e1
    | ok b =>
      rw[e1,R.bind_ok] at p
      obtain⟨h1,h2⟩:=ZeU e1
      obtain⟨its,rvv,pl,_⟩:=I.list sq
      have hlt:q<s.heap.objs.size:=by obtain⟨o,n,e,_⟩:=pl;exact Heap.lt_size e
      have hl:its.toArray.size=es.length:=by rw[List.size_toArray,<- rvv.length,ry.length]
      refine call_all_walk (wpAny_pyIter_list (Zde pl) ⟨s.heap.objs.size,_,_,_,_,_,(fun j=>match Zej (es.getD j .non) with | .ok c=>c|_=>false),rfl,Walks.list (A:=X.A.in1) (I.ok.hd hc) s.heap.objs.size q (Nat.ne_of_lt hlt) its.toArray,⟨⟨_,Heap.get?_push_size _ rfl,rfl,rfl⟩,(Zde pl).push _⟩,fun j v s' Q' E' hv hQ=>?_,fun h' tk k=>?_⟩)
      · obtain⟨hj,x,rx,qx⟩:=ZeR ry rvv hv
        obtain⟨c,ec⟩:=h1 j hj
        exact ZgH rx qx ec (by dsimp only at hQ;rw[ec] at hQ;exact hQ)
      · rw[hl,<- h2]
        exact⟨.bl b,H,I.kept (ZjS k),rfl,p _ H (Zaj.refl H) rfl⟩
  | [],_,p=>exact p.elim
  | [.non],_,p=>exact p.elim
  | [.bl _],_,p=>exact p.elim
  | [.int _],_,p=>exact p.elim
  | [.str _],_,p=>exact p.elim
  | [.tup _],_,p=>exact p.elim
  | [.obj _ _],_,p=>exact p.elim
  | [.exc _ _],_,p=>exact p.elim
  | [.dic _],_,p=>exact p.elim
  | x::_::_,_,p=>cases x<;>exact p.elim
theorem Zky(hc:X.calm=true){A:Addr->Prop}{pins:List (Addr×Obj)}{s:Shared}{σ:L2.St}{H:Hp}{Q:VK}{q:Addr}{ys:List V}{es:List D}(I:Inv X pins σ H s)(sq:SqL X.K H q ys\/SqT X.K H q ys)(ry:Reps X.K CL H A0 ys es)
  (p:ZaJ (fun H=>Rep X.K CL H A) W H ((Zdc es).bind fun b=>.ok (.bl b)) Q):wpAny (model X.prog X.w) X.A (call (.builtin "any") [.ref q]) (EP X pins σ Q) X.xe s:=by
 cases e1:Zdc es with
 | bad=>rw[e1] at p;exact p.elim
 | exn x =>
  exfalso
  clear p
  have:∀ (es:List D) x,Zdc es≠.exn x:=by
   intro es
   induction es with
   | nil=>intro x h;cases h
   | cons d ds ih =>
    intro x h
    rw[Zfn] at h
    cases e:Zej d with
    | bad=>rw[e] at h;cases h
    | exn y=>cases d<;>cases e
    | ok c =>
     rw[e,R.bind_ok] at h
     cases e2:Zdc ds with
     | bad=>rw[e2] at h;cases h
     | exn y=>exact ih y e2
     | ok c2=>rw[e2] at h;cases h
  exact this es x e1
 | ok b =>
  rw[e1,R.bind_ok] at p
  obtain⟨h1,h2⟩:=ZeT e1
  rcases sq with sq|sq
  ·obtain⟨its,rvv,pl,_⟩:=I.list sq
   have hlt:q<s.heap.objs.size:=by obtain⟨o,n,e,_⟩:=pl;exact Heap.lt_size e
   have hl:its.toArray.size=es.length:=by rw[List.size_toArray,<- rvv.length,ry.length]
   refine call_any_walk (wpAny_pyIter_list (Zde pl) ⟨s.heap.objs.size,_,_,_,_,_,(fun j=>match Zej (es.getD j .non) with | .ok c=>c|_=>false),rfl,Walks.list (A:=X.A.in1) (I.ok.hd hc) s.heap.objs.size q (Nat.ne_of_lt hlt) its.toArray,⟨⟨_,Heap.get?_push_size _ rfl,rfl,rfl⟩,(Zde pl).push _⟩,fun j v s' Q' E' hv hQ=>?_,fun h' tk k=>?_⟩)
   ·obtain⟨hj,x,rx,qx⟩:=ZeR ry rvv hv
    obtain⟨c,ec⟩:=h1 j hj
    exact ZgH rx qx ec (by dsimp only at hQ;rw[ec] at hQ;exact hQ)
   ·rw[hl,<- h2]
    exact⟨.bl b,H,I.kept (ZjS k),rfl,p _ H (Zaj.refl H) rfl⟩
  ·obtain⟨its,rvv,pl,_⟩:=I.tuple sq
   have pl':s.heap.IsTuple q its.toArray:=pl
   have hlt:q<s.heap.objs.size:=by obtain⟨o,e,_⟩:=pl';exact Heap.lt_size e
   have hl:its.toArray.size=es.length:=by rw[List.size_toArray,<- rvv.length,ry.length]
   refine call_any_walk (wpAny_pyIter_tuple pl' ⟨s.heap.objs.size,_,_,_,_,_,(fun j=>match Zej (es.getD j .non) with | .ok c=>c|_=>false),rfl,Walks.tuple (A:=X.A.in1) (I.ok.hd hc) s.heap.objs.size q (Nat.ne_of_lt hlt) its.toArray,⟨⟨_,Heap.get?_push_size _ rfl,rfl,rfl⟩,pl'.push _⟩,fun j v s' Q' E' hv hQ=>?_,fun h' tk k=>?_⟩)
   ·obtain⟨hj,x,rx,qx⟩:=ZeR ry rvv hv
    obtain⟨c,ec⟩:=h1 j hj
    exact ZgH rx qx ec (by dsimp only at hQ;rw[ec] at hQ;exact hQ)
   ·rw[hl,<- h2]
    exact⟨.bl b,H,I.kept (ZjS k),rfl,p _ H (Zaj.refl H) rfl⟩
theorem ZsF(hc:X.calm=true):Ze5 X CL W (.builtin "any") (biD .any):=by
  intro A pins s σ H xs us Q I r ⟨hA,ds,rs,p⟩
  match ds,rs,p with
  | [.lst es],rs,p =>
    obtain⟨v,rfl,rv⟩:=rs.one
    obtain⟨q,ys,e,_,sq,ry⟩:=rv.plain
    subst e
    obtain⟨u,rfl,ru⟩:=Zea r
    cases ru
    exact Zky hc I (.inl sq) ry p
  | [.tup es],rs,p =>
    obtain⟨v,rfl,rv⟩:=rs.one
    obtain⟨q,ys,e,_,sq,ry⟩:=rv.plain
    subst e
    obtain⟨u,rfl,ru⟩:=Zea r
    cases ru
    exact Zky hc I (.inr sq) ry p
  | [],_,p=>exact p.elim
  | [.non],_,p=>exact p.elim
  | [.bl _],_,p=>exact p.elim
  | [.int _],_,p=>exact p.elim
  | [.str _],_,p=>exact p.elim
  | [.obj _ _],_,p=>exact p.elim
  | [.exc _ _],_,p=>exact p.elim
  | [.dic _],_,p=>exact p.elim
  | x::_::_,_,p=>cases x<;>exact p.elim
theorem Zi1(hc:X.calm=true){A:Addr->Prop}{pins:List (Addr×Obj)}{s:Shared}{σ:L2.St}{H:Hp}{Q:VK}{q:Addr}{ys:List V}{es:List D}(I:Inv X pins σ H s)(sq:SqL X.K H q ys\/SqT X.K H q ys)(ry:Reps X.K CL H A0 ys es)
  (p:ZaJ (fun H=>Rep X.K CL H A) W H ((Zhr 0 es).bind fun b=>.ok (.int b)) Q):wpAny (model X.prog X.w) X.A (call (.builtin "sum") [.ref q]) (EP X pins σ Q) X.xe s:=by
 cases e1:Zhr 0 es with
 | bad=>rw[e1] at p;exact p.elim
 | exn x =>
  exfalso
  have:∀ (es:List D) (a:Int) x,Zhr a es≠.exn x:=by
   intro es
   induction es with
   | nil=>intro a x h;cases h
   | cons d ds ih =>
    intro a x h
    cases d<;>first|exact ih _ _ h|cases h
  exact this es 0 x e1
 | ok z =>
  rw[e1,R.bind_ok] at p
  obtain⟨h1,h2⟩:=Zhq es 0 z e1
  rw[Int.zero_add] at h2
  rcases sq with sq|sq
  ·obtain⟨its,rvv,pl,_⟩:=I.list sq
   have hlt:q<s.heap.objs.size:=by obtain⟨o,n,e,_⟩:=pl;exact Heap.lt_size e
   have hl:its.toArray.size=es.length:=by rw[List.size_toArray,<- rvv.length,ry.length]
   refine call_sum_walkG (wpAny_pyIter_list (Zde pl) ⟨s.heap.objs.size,_,_,_,_,_,(fun j=>match es.getD j .non with | .int i=>i|_=>0),rfl,Walks.list (A:=X.A.in1) (I.ok.hd hc) s.heap.objs.size q (Nat.ne_of_lt hlt) its.toArray,⟨⟨_,Heap.get?_push_size _ rfl,rfl,rfl⟩,(Zde pl).push _⟩,fun b hb=>?_,fun j v hv=>?_,fun h' tk t' k=>?_⟩)
   ·show b<(s.heap.push _).objs.size
    rw[Heap.size_push]
    rcases List.mem_cons.mp hb with rfl|hb
    ·exact Nat.lt_succ_self _
    ·rw[List.mem_singleton.mp hb];exact Nat.lt_succ_of_lt hlt
   ·obtain⟨hj,x,rx,qx⟩:=ZeR ry rvv hv
    obtain⟨i,ei⟩:=h1 j hj
    rw[ei] at rx
    dsimp only
    rw[ei]
    cases rx
    exact qx
   ·rw[hl,<- h2]
    exact⟨.int z,H,I.kept (ZjS k),⟨_,rfl⟩,p _ H (Zaj.refl H) rfl⟩
  ·obtain⟨its,rvv,pl,_⟩:=I.tuple sq
   have pl':s.heap.IsTuple q its.toArray:=pl
   have hlt:q<s.heap.objs.size:=by obtain⟨o,e,_⟩:=pl';exact Heap.lt_size e
   have hl:its.toArray.size=es.length:=by rw[List.size_toArray,<- rvv.length,ry.length]
   refine call_sum_walkG (wpAny_pyIter_tuple pl' ⟨s.heap.objs.size,_,_,_,_,_,(fun j=>match es.getD j .non with | .int i=>i|_=>0),rfl,Walks.tuple (A:=X.A.in1) (I.ok.hd hc) s.heap.objs.size q (Nat.ne_of_lt hlt) its.toArray,⟨⟨_,Heap.get?_push_size _ rfl,rfl,rfl⟩,pl'.push _⟩,fun b hb=>?_,fun j v hv=>?_,fun h' tk t' k=>?_⟩)
   ·show b<(s.heap.push _).objs.size
    rw[Heap.size_push]
    rcases List.mem_cons.mp hb with rfl|hb
    ·exact Nat.lt_succ_self _
    ·rw[List.mem_singleton.mp hb];exact Nat.lt_succ_of_lt hlt
   ·obtain⟨hj,x,rx,qx⟩:=ZeR ry rvv hv
    obtain⟨i,ei⟩:=h1 j hj
    rw[ei] at rx
    dsimp only
    rw[ei]
    cases rx
    exact qx
   ·rw[hl,<- h2]
    exact⟨.int z,H,I.kept (ZjS k),⟨_,rfl⟩,p _ H (Zaj.refl H) rfl⟩
theorem ZsA(hc:X.calm=true):Ze5 X CL W (.builtin "sum") (biD .sum):=by
  intro A pins s σ H xs us Q I r ⟨hA,ds,rs,p⟩
  match ds,rs,p with
  | [.lst es],rs,p =>
    obtain⟨v,rfl,rv⟩:=rs.one
    obtain⟨q,ys,e,_,sq,ry⟩:=rv.plain
    subst e
    obtain⟨u,rfl,ru⟩:=Zea r
    cases ru
    exact Zi1 hc I (.inl sq) ry p
  | [.tup es],rs,p =>
    obtain⟨v,rfl,rv⟩:=rs.one
    obtain⟨q,ys,e,_,sq,ry⟩:=rv.plain
    subst e
    obtain⟨u,rfl,ru⟩:=Zea r
    cases ru
    exact Zi1 hc I (.inr sq) ry p
  | [],_,p=>exact p.elim
  | [.non],_,p=>exact p.elim
  | [.bl _],_,p=>exact p.elim
  | [.int _],_,p=>exact p.elim
  | [.str _],_,p=>exact p.elim
  | [.obj _ _],_,p=>exact p.elim
  | [.exc _ _],_,p=>exact p.elim
  | [.dic _],_,p=>exact p.elim
  | x::_::_,_,p=>cases x<;>exact p.elim
end
end Ov
end
section
namespace Ov
open PySem PySem.Spec PyProof.Rows L2
section
variable (K:PySem.W.Frag) (CL:ClA)
def Zx5(H0:Hp)(A:Addr->Prop)(H:Hp)(v:V)(d:D):Prop:=∀ ds,d=.lst ds->∃ a xs,v=.ref a/\H0 a=none/\H a=some (.lst xs)/\Reps K CL H (fun b=>A b\/b=a) xs ds
def Zeg(fr:Bool)(H0:Hp)(A:Addr->Prop)(H:Hp)(v:V)(d:D):Prop:=Rep K CL H A v d/\(fr=true->Zx5 K CL H0 A H v d)
end
section
variable {X:Cx} {CL:ClA} {W:XW} {a b c:Expr} {fa fb fc:Rho->R D} {pos:Pos}
def SC(X:Cx)(CL:ClA)(W:XW)(fr:Bool)(e:Expr)(f:Rho->R D):Prop:=∀ A,PE X e (fun σ H Q=>AOk H A/\∃ ρ,Good X.K CL A ρ σ H/\ZaJ (Zeg X.K CL fr H A) W H (f ρ) Q)
theorem SC.se{fr:Bool}(h:SC X CL W fr a fa):SE X CL W a fa:=fun A=>PE.weak (h A) fun σ H Q ⟨hA,ρ,g,p⟩=>⟨hA,ρ,g,by
 cases e:fa ρ with
 | ok d=>rw[e] at p;exact fun v H' s r=>p v H' s r.1
 | exn x=>rw[e] at p;exact p
 | bad=>rw[e] at p;exact p⟩
theorem SE.sc(h:SE X CL W a fa):SC X CL W false a fa:=fun A=>PE.weak (h A) fun σ H Q ⟨hA,ρ,g,p⟩=>⟨hA,ρ,g,by
 cases e:fa ρ with
 | ok d=>rw[e] at p;exact fun v H' s r=>p v H' s ⟨r,fun z=>nomatch z⟩
 | exn x=>rw[e] at p;exact p
 | bad=>rw[e] at p;exact p⟩
theorem SC.congr{fr:Bool}{f g:Rho->R D}(h:SC X CL W fr a f)(e:∀ ρ,g ρ=f ρ):SC X CL W fr a g:=fun A=>PE.weak (h A) fun σ H Q ⟨hA,ρ,q,p⟩=>⟨hA,ρ,q,by rw[<- e];exact p⟩
theorem Zc0{K:PySem.W.Frag}{H0 H:Hp}{A:Addr->Prop}{p:Addr}{xs:List V}{ds:List D}(s:Zaj H0 H)(hA:AOk H A)(hp:H p=none)(r:Reps K CL H A xs ds):Zeg K CL true H0 A (upd H p (.lst xs)) (.ref p) (.lst ds) :=
 ⟨ZjJ hA hp r,fun _ ds' e=>by
  cases e
  exact⟨p,xs,rfl,s.free hp,ZbC,(Reps.wide (fun a ha=>ha.imp id fun e=>by rw[e];exact hp) _ r).same (ZaL hp _)⟩⟩
theorem Zjg{K:PySem.W.Frag}{H0 H:Hp}{A:Addr->Prop}{v:V}{d:D}{fr:Bool}(r:Rep K CL H A v d)(h:∀ ds,d≠.lst ds):Zeg K CL fr H0 A H v d:=⟨r,fun _ ds e=>absurd e (h ds)⟩
theorem Zqj{es:List Expr}{fs:Rho->R (List D)}(hs:SA X CL W es fs)(hz:∀ ρ ds,fs ρ=.ok ds->ds.length<=100000):SC X CL W true (.List es pos) (fun ρ=>(fs ρ).bind fun xs=>.ok (.lst xs)) :=
 fun A=>PE.weak (Zre (hs A)) fun σ H Q ⟨hA,ρ,g,p⟩=>⟨hA,ρ,g,ZeZ.bind p fun ds vs H1 e s1 r1 p1=>⟨by
  rw[r1.length,sizeLine_eq];have:=hz ρ ds e;omega,fun q hq=>p1 _ _ (ZaL hq _) (Zc0 s1 (hA.same s1) hq r1)⟩⟩
theorem ZaJ.bindF{Rp:Hp->V->D->Prop}{fr:Bool}{K:PySem.W.Frag}{A:Addr->Prop}{W:XW}{H:Hp}{r:R D}{f:D->R D}{Q Q':VK}(h:ZaJ (Zeg K CL fr H A) W H (r.bind f) Q)(k:∀ d v H',r=.ok d->Zaj H H'->Rp H' v d->ZaJ (Zeg K CL fr H A) W H' (f d) Q->Q' v H'):ZaJ Rp W H r Q':=by
 cases r with
 | ok d=>exact fun v H2 s2 q=>k d v H2 rfl s2 q (ZaJ.same s2 h)
 | exn x=>exact h
 | bad=>exact h
theorem ZeZ.bindF{Rp:Hp->List V->List D->Prop}{Rq:Hp->V->D->Prop}{W:XW}{H:Hp}{r:R (List D)}{f:List D->R D}{Q:VK}{Q':List V->Hp->Prop}(h:ZaJ Rq W H (r.bind f) Q)(k:∀ d v H',r=.ok d->Zaj H H'->Rp H' v d->ZaJ Rq W H' (f d) Q->Q' v H'):ZeZ Rp W H r Q':=by
 cases r with
 | ok d=>exact fun v H2 s2 q=>k d v H2 rfl s2 q (ZaJ.same s2 h)
 | exn x=>exact h
 | bad=>exact h
theorem Zhe.bindF{Rq:Hp->V->D->Prop}{W:XW}{H:Hp}{r:R (Option Int)}{f:Option Int->R D}{Q:VK}{Q':Option Int->Hp->Prop}(h:ZaJ Rq W H (r.bind f) Q)(k:∀ o H',r=.ok o->Zaj H H'->ZaJ Rq W H' (f o) Q->Q' o H'):Zhe W H r Q':=by
 cases r with
 | ok d=>exact fun H2 s2=>k d H2 rfl s2 (ZaJ.same s2 h)
 | exn x=>exact h
 | bad=>exact h
theorem Zu0{lo hi:Option Expr}{fl fh:Rho->R (Option Int)}{p2:Pos}(ha:ST X CL W a fa)(hl:SO X CL W lo fl)(hh:SO X CL W hi fh):SC X CL W true (.Subscript a (.Slice lo hi none p2) pos) (fun ρ=>(fa ρ).bind fun x=>(fl ρ).bind fun l=>(fh ρ).bind fun h=>slD x l h) :=
 fun A=>PE.weak (Zlm (r:=fun x l h H Q=>Zyr X.K x l h H Q\/Zyq X.K x l h H Q) (fun pins s σ H x v vl vu lo hi sl Q I rx hs pl pu h=>h.elim (Znf pins s σ H x v vl vu lo hi sl Q I rx hs pl pu) (Zqm pins s σ H x v vl vu lo hi sl Q I rx hs pl pu)) (ha A) (hl A) (hh A)) fun σ H Q ⟨hA,ρ,g,p⟩=>⟨hA,ρ,g,ZaJ.bindF p fun dx x H1 _ s1 r1 p1=>⟨hA.same s1,ρ,g.same s1,Zhe.bindF p1 fun l H2 _ s2 p2=>⟨(hA.same s1).same s2,ρ,(g.same s1).same s2,Zhe.bindF p2 fun h H3 _ s3 p3=>by
  cases dx with
  | lst ds =>
   obtain⟨q,xs,rfl,sq,r⟩:=((r1.same s2).same s3).lst_of
   exact .inl ⟨q,xs,rfl,sq,fun t ht=>p3 _ _ (ZaL ht _) (Zc0 ((s1.trans s2).trans s3) (((hA.same s1).same s2).same s3) ht (Zkf l h r))⟩
  | tup ds =>
   obtain⟨q,xs,rfl,_,sq,r⟩:=((r1.same s2).same s3).tup_of
   rw[Zzx] at p3
   split at p3
   ·exact p3.elim
   ·rename_i hw
    refine .inr ⟨q,xs,rfl,sq,?_,fun t ht=>p3 _ _ (ZaL ht _) (Zjg (ZdJ (((hA.same s1).same s2).same s3) ht (Zkf l h r)) (by intro _ z;cases z))⟩
    rintro⟨h1,h2⟩
    refine hw ?_
    have e:∀ d o,HT.sIx xs.length d o=Zhz ds.length d o:=fun d o=>by rw[r.length];cases o<;>rfl
    rw[e] at h1 h2
    rw[r.length] at h2
    simp[h1,h2]
  | _=>exact p3.elim⟩⟩⟩
noncomputable def OpN(X:Cx)(CL:ClA)(W:XW)(f:Value->Value->Sem Value)(g:D->D->R D):Prop :=
 ∀ A H0,OpR X f (fun x y H Q=>Zaj H0 H/\AOk H A/\∃ dx dy,Zc9 X.K CL H A x dx/\Zc9 X.K CL H A y dy/\ZaJ (Zeg X.K CL true H0 A) W H (g dx dy) Q)
theorem Zn9:OpN X CL W (binaryOp .Add) (Zdg .Add):=by
 intro A H0 pins s σ H x y v u Q I rx ry ⟨s0,hA,dx,dy,hx,hy,p⟩
 have key:(∀ ds,dx≠.lst ds)->EP X pins σ Q=EP X pins σ Q->wpAny (model X.prog X.w) X.A (binaryOp .Add v u) (EP X pins σ Q) X.xe s:=fun hd _=>by
  refine ZjA (W:=W) A pins s σ H x y v u Q I rx ry ⟨hA,dx,dy,hx,hy,?_⟩
  cases e:Zdg .Add dx dy with
  | bad=>rw[e] at p;exact p
  | exn x=>rw[e] at p;exact p
  | ok d =>
   rw[e] at p
   refine fun v' H' s' r'=>p v' H' s' (Zjg r' fun ds z=>?_)
   subst z
   cases dx with
   | lst ds=>exact hd _ rfl
   | _=>cases dy<;>first|(cases e;done)|(simp only[Zdg] at e;split at e<;>cases e)
 cases dx with
 | lst ds =>
  cases dy with
  | lst es =>
   obtain⟨a,xs,rfl,s1,r1⟩:=hx.lst_of
   obtain⟨b,ys,rfl,s2,r2⟩:=hy.lst_of
   simp only[ZmG] at p
   split at p
   ·rename_i h
    refine ZjB pins s σ H _ _ v u Q I rx ry ⟨a,b,xs,ys,rfl,rfl,s1,s2,by rw[r1.length,r2.length];exact ZbH h,fun q hq=>?_⟩
    exact p _ _ (ZaL hq _) (Zc0 s0 hA hq (r1.append r2))
   ·exact p.elim
  | _=>exact p.elim
 | _=>exact key (by intro _ z;cases z) rfl
theorem Zql(ha:ST X CL W a fa)(hb:ST X CL W b fb):SC X CL W true (.BinOp a .Add b pos) (fun ρ=>(fa ρ).bind fun x=>(fb ρ).bind fun y=>Zdg .Add x y) :=
 fun A pins s σ H Q I h=>by
  obtain⟨hA,ρ,g,p⟩:=h
  exact Zra (Zn9 (W:=W) A H) (ha A) (hb A) pins s σ H Q I ⟨hA,ρ,g,ZaJ.bindF p fun dx x H1 _ s1 r1 p1=>⟨hA.same s1,ρ,g.same s1,ZaJ.bind (Rq:=Zeg X.K CL true H A) p1 fun dy y H2 _ s2 r2 p2=>⟨s1.trans s2,(hA.same s1).same s2,dx,dy,r1.same s2,r2,p2⟩⟩⟩
def Zs8(X:Cx)(CL:ClA)(W:XW)(f:Value)(g:List D->R D):Prop:=∀ A H0,Zeh X f (fun xs H Q=>Zaj H0 H/\AOk H A/\∃ ds,Zdm X.K CL H A xs ds/\ZaJ (Zeg X.K CL true H0 A) W H (g ds) Q)
theorem ZoS:Zs8 X CL W (.type "list") (biD .list):=by
  intro A H0 pins s σ H xs us Q I r ⟨s0,hA,ds,rs,p⟩
  match ds,rs,p with
  | [.lst es],rs,p =>
    obtain⟨v,rfl,rv⟩:=rs.one
    obtain⟨q,ys,rfl,sq,ry⟩:=rv.lst_of
    exact Zd6 pins s σ H _ us Q I r ⟨q,ys,rfl,.inl sq,fun l hl=>p _ _ (ZaL hl _) (Zc0 s0 hA hl ry)⟩
  | [.tup es],rs,p =>
    obtain⟨v,rfl,rv⟩:=rs.one
    obtain⟨q,ys,rfl,_,sq,ry⟩:=rv.tup_of
    exact Zd6 pins s σ H _ us Q I r ⟨q,ys,rfl,.inr sq,fun l hl=>p _ _ (ZaL hl _) (Zc0 s0 hA hl ry)⟩
  | [],_,p=>exact p.elim
  | [.non],_,p=>exact p.elim
  | [.bl _],_,p=>exact p.elim
  | [.int _],_,p=>exact p.elim
  | [.str _],_,p=>exact p.elim
  | [.obj _ _],_,p=>exact p.elim
  | [.exc _ _],_,p=>exact p.elim
  | [.dic _],_,p=>exact p.elim
  | x::_::_,_,p=>cases x<;>exact p.elim
theorem Zqk{x:Str}{T:String}{p:Pos}{e:Expr}{es:List Expr}{fs:Rho->R (List D)}{g:List D->R D}(hc:Zs8 X CL W (.type T) g)(hg:Gl X x)(hm:X.mg x=none)(hv:bootBuiltins x=some (.type T))(ha:SAT X CL W (e::es) fs)
  (hn:x≠"__name__") (hdb:(x == ("__debug__" : Str))=false) (he:starEach (e::es) X.env=(false,eval e X.env)::starEach es X.env) (hpl:∀ pos,(backTo pos (starEach es X.env)).any (·.1)=false) :
  SC X CL W true (.Call (.Name x p) (e::es) [] pos) (fun ρ=>(fs ρ).bind g):=fun A pins s σ H Q I ⟨hA,ρ,gd,q⟩ =>
 Zf4 (hc A H) hg hm hv (ha A) hn hdb he (hpl _) pins s σ H Q I ⟨hA,ρ,gd,ZeZ.bindF q fun ds vs H1 _ s1 r1 p1=>⟨s1,hA.same s1,ds,r1,p1⟩⟩
mutual
theorem Zrw{K:PySem.W.Frag}{H:Hp}{A:Addr->Prop}(hA:AOk H A):∀ (n:Nat) (d:D) {v:V},nlD n d=true->Rep K CL H A0 v d->Rep K CL H A v d
 | _,.non,_,_,h=>h
 | _,.bl _,_,_,h=>h
 | _,.int _,_,_,h=>h
 | _,.str _,_,_,h=>h
 | 0,.tup _,_,hn,_=>by cases hn
 | n+1,.tup ds,_,hn,h=>by
  obtain⟨a,xs,e,_,s,r⟩:=h
  refine⟨a,xs,e,?_,s,nls_up hA n ds hn r⟩
  rcases s with s|s
  ·refine .inl fun z=>?_
   obtain⟨ys,q⟩:=hA a z
   rcases s with s|⟨o,s⟩<;>rw[q] at s<;>cases s
  ·exact .inr s
 | n,.lst _,_,hn,_=>by cases n<;>cases hn
 | n,.obj _ _,_,hn,_=>by cases n<;>cases hn
 | n,.exc _ _,_,hn,_=>by cases n<;>cases hn
 | n,.dic _,_,hn,_=>by cases n<;>cases hn
theorem nls_up{K:PySem.W.Frag}{H:Hp}{A:Addr->Prop}(hA:AOk H A):∀ (n:Nat) (ds:List D) {vs:List V},ds.all (nlD n)=true->Reps K CL H A0 vs ds->Reps K CL H A vs ds
 | _,[],[],_,h=>h
 | n,d::ds,_::_,hn,h=>by
  simp only[List.all_cons,Bool.and_eq_true] at hn
  exact⟨Zrw hA n d hn.1 h.1,nls_up hA n ds hn.2 h.2⟩
 | _,[],_::_,_,h=>h.elim
 | _,_::_,[],_,h=>h.elim
end
theorem ZmA{K:PySem.W.Frag}{H0 H:Hp}{A:Addr->Prop}{fr:Bool}{v:V}{d:D}(hA0:AOk H0 A)(s:Zaj H0 H)(hc:ZlJ fr d=true)(r:Zeg K CL fr H0 A0 H v d):Zeg K CL fr H0 A H v d:=by
 have hA:=hA0.same s
 cases d with
 | lst ds =>
  have hc':(fr&&ds.all (nlD 5))=true:=hc
  rw[Bool.and_eq_true] at hc'
  obtain⟨a,xs,e,h0,h1,rs⟩:=r.2 hc'.1 ds rfl
  have hA2:AOk H (fun b=>A b\/b=a):=fun b hb=>hb.elim (hA b) fun e=>by rw[e];exact⟨xs,h1⟩
  have rs':=nls_up hA2 5 ds hc'.2 (Reps.sub (fun _ z=>z.elim) _ rs)
  refine⟨⟨a,xs,e,.inl (hA0.new h0),SqL.of h1,Reps.sub (fun _ z=>.inl z) _ rs'⟩,fun _ ds' e'=>?_⟩
  cases e'
  exact⟨a,xs,e,h0,h1,rs'⟩
 | _=>exact⟨Zrw hA 5 _ hc r.1,fun _ _ z=>nomatch z⟩
noncomputable def spD(K:PySem.W.Frag)(CL:ClA)(n:Nat)(fr:Bool)(F:List D->R D):Sp:=fun vs H Q E=>∃ (ds:List D) (A:Addr->Prop),vs.length=n/\AOk H A/\Reps K CL H A vs ds/\(match F ds with
  | .ok d=>∀ v H',Zaj H H'->Zeg K CL fr H A H' v d->Q v H'
  | .exn x=>∀ cls dx H',Zaj H H'->Zs4 K CL H' A cls dx x->E cls dx H'
  | .bad=>False)
noncomputable def EKW(K:PySem.W.Frag)(CL:ClA)(A:Addr->Prop)(W:XW):XK:=fun cls dx H'=>∃ x,Zs4 K CL H' A cls dx x/\W x H'
theorem Zdm.plain{K:PySem.W.Frag}{H:Hp}{A:Addr->Prop}:∀ {vs:List V} {ds:List D},Zdm K CL H A vs ds->Reps K CL H A0 vs ds
 | [],[],h=>trivial
 | _::_,_::_,h=>⟨h.1.plain,Zdm.plain h.2⟩
 | [],_::_,h=>h.elim
 | _::_,[],h=>h.elim
theorem Znl{CX:CXT}{k n:Nat}{fr:Bool}{f:Addr}{fd:FuncData}{ps:List Str}{F:List D->R D}{x:Str}{p:Pos}{e:Expr}{es:List Expr}{fs ft:Rho->R (List D)}{sh:Rho->Bool}(G:FnOk X.prog X.w X.K X.mg X.base CX k f fd ps (spD X.K CL n fr F))(hr:Room k X.A)(hg:Gl X x)(hm:X.mg x=some (.ref f))
  (hk:PySem.W.keepIn X.K (.ref f)=true) (hb:Zei X.K fd ps []) (hx:∀ A,Zfr CX X (EKW X.K CL A W)) (ha:SA X CL W (e::es) fs) (hat:SAT X CL W (e::es) ft) (hst:∀ ρ,sh ρ=true->ft ρ=fs ρ) (hn:∀ ρ ds,ft ρ=.ok ds->ds.length=n)
  (hdb:(x == ("__debug__" : Str))=false) (he:starEach (e::es) X.env=(false,eval e X.env)::starEach es X.env) (hpl:∀ pos,(backTo pos (starEach es X.env)).any (·.1)=false) :
  SC X CL W fr (.Call (.Name x p) (e::es) [] pos) (fun ρ=>(ft ρ).bind fun ds=>(F ds).bind fun d=>if sh ρ=true then .ok d else if ZlJ fr d=true then .ok d else .bad):=fun A pins s σ H Q I ⟨hA,ρ,gd,q⟩=>by
 dsimp only at q
 by_cases hs:sh ρ=true
 ·rw[hst ρ hs] at q
  refine Zju G hr hg hm hk hb .nil (hx A) (ha A) hdb he (hpl _) pins s σ H Q I ⟨hA,ρ,gd,?_⟩
  cases e1:fs ρ with
  | bad=>rw[e1] at q;exact q
  | exn y=>rw[e1] at q;exact q
  | ok ds =>
   rw[e1] at q
   intro vs H1 s1 r1
   refine⟨ds,A,by rw[List.append_nil,r1.length];exact hn ρ ds (by rw[hst ρ hs];exact e1),hA.same s1,by rw[List.append_nil];exact r1,?_⟩
   have q':ZaJ (Zeg X.K CL fr H A) W H ((F ds).bind fun d=>if sh ρ=true then .ok d else if ZlJ fr d=true then .ok d else .bad) Q:=q
   cases e2:F ds with
   | ok d =>
    rw[e2,R.bind_ok,if_pos hs] at q'
    exact fun v H2 s2 r2=>q' v H2 (s1.trans s2) ⟨r2.1,fun z ds' e'=>let ⟨a,xs,z1,z2,z3⟩:=r2.2 z ds' e';⟨a,xs,z1,s1.free z2,z3⟩⟩
   | exn y=>rw[e2] at q';exact fun cls dx H2 s2 xr=>⟨y,xr,q' H2 (s1.trans s2)⟩
   | bad=>rw[e2] at q';exact q'.elim
 ·refine Zju G hr hg hm hk hb .nil (hx A0) (hat A) hdb he (hpl _) pins s σ H Q I ⟨hA,ρ,gd,?_⟩
  cases e1:ft ρ with
  | bad=>rw[e1] at q;exact q
  | exn y=>rw[e1] at q;exact q
  | ok ds =>
   rw[e1] at q
   intro vs H1 s1 r1
   refine⟨ds,A0,by rw[List.append_nil,r1.plain.length];exact hn ρ ds e1,fun _ z=>z.elim,by rw[List.append_nil];exact r1.plain,?_⟩
   have q':ZaJ (Zeg X.K CL fr H A) W H ((F ds).bind fun d=>if sh ρ=true then .ok d else if ZlJ fr d=true then .ok d else .bad) Q:=q
   cases e2:F ds with
   | ok d =>
    rw[e2,R.bind_ok,if_neg hs] at q'
    split at q'
    ·rename_i hc
     exact fun v H2 s2 r2=>q' v H2 (s1.trans s2) (ZmA hA (s1.trans s2) hc ⟨r2.1,fun z ds' e'=>let ⟨a,xs,z1,z2,z3⟩:=r2.2 z ds' e';⟨a,xs,z1,s1.free z2,z3⟩⟩)
    ·exact q'.elim
   | exn y=>rw[e2] at q';exact fun cls dx H2 s2 xr=>⟨y,xr,q' H2 (s1.trans s2)⟩
   | bad=>rw[e2] at q';exact q'.elim
end
end Ov
end
section
namespace Ov
open PySem PySem.Spec PyProof.Rows L2
theorem ZdP(env:Env):∀ (ns:List (Str×NameKind)) (acc:List (Str×Addr)),(∀ x∈ns,x.2=.free->∃ c,env.cells.lookup x.1=some c)->(∀ x c,acc.lookup x=some c->env.cells.lookup x=some c) ->
  ∃ cl,(forIn ns acc fun (x:Str×NameKind) (cs:List (Str×Addr))=>(if (x.2 == .free)=true then do let c <- cellOf env x.1;pure (ForInStep.yield ((x.1,c)::cs)) else pure (ForInStep.yield cs):Sem (ForInStep (List (Str×Addr)))))=pure cl /\
   (∀ x c,cl.lookup x=some c->env.cells.lookup x=some c)/\(∀ x,((x,NameKind.free)∈ns\/∃ c,acc.lookup x=some c)->∃ c,cl.lookup x=some c)
 | [],acc,_,h2=>⟨acc,by rw[List.forIn_nil],h2,fun x hx=>hx.elim (fun z=>nomatch z) id⟩
 | (n,k)::r,acc,h1,h2=>by
  rw[List.forIn_cons]
  by_cases hk:k=.free
  ·subst hk
   obtain⟨c,hc⟩:=h1 (n,.free) List.mem_cons_self rfl
   obtain⟨cl,e,p,q⟩:=ZdP env r ((n,c)::acc) (fun x hx=>h1 x (List.mem_cons_of_mem _ hx)) (fun x d hd=>by
    rw[List.lookup_cons] at hd
    split at hd
    ·rename_i hx
     cases hd
     rw[eq_of_beq hx];exact hc
    ·exact h2 x d hd)
   refine⟨cl,?_,p,fun x hx=>q x ?_⟩
   ·have e1:cellOf env n=pure c:=by unfold cellOf;dsimp only at hc;rw[hc]
    rw[if_pos (by rfl),e1]
    exact e
   ·rcases hx with hx|⟨d,hd⟩
    ·rcases List.mem_cons.mp hx with z|z
     ·cases z
      exact .inr ⟨c,by simp[List.lookup_cons]⟩
     ·exact .inl z
    ·by_cases hxn:x=n
     ·exact .inr ⟨c,by subst hxn;simp[List.lookup_cons]⟩
     ·exact .inr ⟨d,by rw[List.lookup_cons];rw[beq_eq_false_iff_ne.mpr hxn];exact hd⟩
  ·obtain⟨cl,e,p,q⟩:=ZdP env r acc (fun x hx=>h1 x (List.mem_cons_of_mem _ hx)) h2
   refine⟨cl,?_,p,fun x hx=>q x ?_⟩
   ·rw[if_neg (by simpa using hk)]
    exact e
   ·rcases hx with hx|hx
    ·rcases List.mem_cons.mp hx with z|z
     ·cases z;exact absurd rfl hk
     ·exact .inl z
    ·exact .inr hx
theorem Zfj{scope:Scope}{env:Env}(h:∀ x∈scope.names,x.2=.free->∃ c,env.cells.lookup x.1=some c) :
  ∃ cl,closureFor scope env=pure cl/\(∀ x c,cl.lookup x=some c->env.cells.lookup x=some c)/\∀ x,(x,NameKind.free)∈scope.names->∃ c,cl.lookup x=some c:=by
 obtain⟨cl,e,p,q⟩:=ZdP env scope.names [] h (fun x c z=>by simp at z)
 refine⟨cl,?_,p,fun x hx=>q x (.inl hx)⟩
 unfold closureFor
 first
  | exact e
  | (simp only[bind_pure];exact e)
  | (rw[show (forIn scope.names ([]:List (Str×Addr)) _:Sem _)=pure cl from e];rfl)
theorem ZeG:∀ (names:List (Str×NameKind)) (h:Heap) (acc:List (Str×Addr)) (x:Str) (c:Addr),(cellsFrom h.objs.size names acc).lookup x=some c ->
  acc.lookup x=some c\/((x,NameKind.cell)∈names/\h.objs.size<=c/\(pushCells h names).IsCell c none)
 | [],_,_,_,_,e=>.inl e
 | (n,k)::r,h,acc,x,c,e=>by
  unfold cellsFrom at e
  unfold pushCells
  by_cases hk:(k == NameKind.cell)=true
  ·rw[if_pos hk] at e ⊢
   have hs:h.objs.size+1=(h.push { cls:=.type "cell", data:=.cell none }).objs.size:=(Heap.size_push ..).symm
   rw[hs] at e
   rcases ZeG r _ _ x c e with q|⟨q1,q2,q3⟩
   ·rw[List.lookup_cons] at q
    cases hx:x == n with
    | true =>
     rw[hx] at q
     cases q
     refine .inr ⟨?_,Nat.le_refl _,?_⟩
     ·rw[eq_of_beq hx,eq_of_beq hk];exact List.mem_cons_self
     ·exact⟨_,pushCells_keeps r _ _ _ (Heap.get?_push_size _ rfl),rfl⟩
    | false=>rw[hx] at q;exact .inl q
   ·exact .inr ⟨List.mem_cons_of_mem _ q1,by omega,q3⟩
  ·rw[if_neg hk] at e ⊢
   rcases ZeG r h acc x c e with q|⟨q1,q2,q3⟩
   ·exact .inl q
   ·exact .inr ⟨List.mem_cons_of_mem _ q1,q2,q3⟩
theorem ZeH:∀ (names:List (Str×NameKind)) (h:Heap) (acc:List (Str×Addr)),(∀ x y c,acc.lookup x=some c->acc.lookup y=some c->x=y)->(∀ x c,acc.lookup x=some c->c<h.objs.size) ->
  ∀ x y c,(cellsFrom h.objs.size names acc).lookup x=some c->(cellsFrom h.objs.size names acc).lookup y=some c->x=y
 | [],_,_,i,_,x,y,c,e1,e2=>i x y c e1 e2
 | (n,k)::r,h,acc,i,b,x,y,c,e1,e2=>by
  unfold cellsFrom at e1 e2
  by_cases hk:(k == NameKind.cell)=true
  ·rw[if_pos hk] at e1 e2
   have hs:h.objs.size+1=(h.push { cls:=.type "cell", data:=.cell none }).objs.size:=(Heap.size_push ..).symm
   rw[hs] at e1 e2
   have look:∀ z d,List.lookup z ((n,h.objs.size)::acc)=some d->(z=n/\d=h.objs.size)\/(z≠n/\acc.lookup z=some d):=fun z d q=>by
    rw[List.lookup_cons] at q
    cases hx:z == n with
    | true=>rw[hx] at q;cases q;exact .inl ⟨eq_of_beq hx,rfl⟩
    | false=>rw[hx] at q;exact .inr ⟨fun e=>by rw[e] at hx;simp at hx,q⟩
   refine ZeH r _ _ (fun z z' d q q'=>?_) (fun z d q=>?_) x y c e1 e2
   ·rcases look z d q with ⟨rfl,q1⟩|⟨_,q1⟩<;>rcases look z' d q' with ⟨rfl,q2⟩|⟨_,q2⟩
    ·rfl
    ·exact absurd (b _ _ q2) (by rw[q1];exact Nat.lt_irrefl _)
    ·exact absurd (b _ _ q1) (by rw[q2];exact Nat.lt_irrefl _)
    ·exact i _ _ _ q1 q2
   ·rw[<- hs]
    rcases look z d q with ⟨_,q1⟩|⟨_,q1⟩
    ·rw[q1];exact Nat.lt_succ_self _
    ·exact Nat.lt_succ_of_lt (b _ _ q1)
  ·rw[if_neg hk] at e1 e2
   exact ZeH r h acc i b x y c e1 e2
theorem ZdR:∀ (names:List (Str×NameKind)) (n:Nat) (acc:List (Str×Addr)) (x:Str),(x,NameKind.cell)∉names->(cellsFrom n names acc).lookup x=acc.lookup x
 | [],_,_,_,_=>rfl
 | (m,k)::r,n,acc,x,hx=>by
  unfold cellsFrom
  have hr:(x,NameKind.cell)∉r:=fun z=>hx (List.mem_cons_of_mem _ z)
  by_cases hk:(k == NameKind.cell)=true
  ·rw[if_pos hk,ZdR r _ _ x hr,List.lookup_cons]
   cases q:x == m with
   | true=>exact absurd (by rw[eq_of_beq q,eq_of_beq hk];exact List.mem_cons_self) hx
   | false=>rfl
  ·rw[if_neg hk]
   exact ZdR r n acc x hr
theorem ZeI(n0:Nat):∀ (names:List (Str×NameKind)) (n:Nat) (acc:List (Str×Addr)) (x:Str),n0<=n->((x,NameKind.cell)∈names\/∃ c,acc.lookup x=some c/\n0<=c)->∃ c,(cellsFrom n names acc).lookup x=some c/\n0<=c
 | [],_,_,_,_,h=>h.elim (fun z=>nomatch z) id
 | (m,k)::r,n,acc,x,hn,h=>by
  unfold cellsFrom
  by_cases hk:(k == NameKind.cell)=true
  ·rw[if_pos hk]
   refine ZeI n0 r _ _ x (by omega) ?_
   by_cases hx:(x == m)=true
   ·exact .inr ⟨n,by rw[List.lookup_cons,hx],hn⟩
   ·rcases h with h|⟨c,h,hc⟩
    ·rcases List.mem_cons.mp h with z|z
     ·cases z;simp at hx
     ·exact .inl z
    ·exact .inr ⟨c,by rw[List.lookup_cons];simp only[hx];exact h,hc⟩
  ·rw[if_neg hk]
   refine ZeI n0 r _ _ x hn (h.imp (fun h=>?_) id)
   rcases List.mem_cons.mp h with z|z
   ·cases z;simp at hk
   ·exact z
theorem Ze2{M:Model}{A:Around}{E:Value->Shared->Prop}{s:Shared}{scope:Scope}{globals:Addr}{cl:List (Str×Addr)}{qual:Str}{env:Env}{Q:Env->Shared->Prop}
  (hQ:Q (newEnv scope s.heap.objs.size globals (cellsFrom (s.heap.objs.size+1) scope.names cl) qual none .none (some env) builtinsNs) { s with heap:=pushCells (s.heap.push { cls:=.type "dict", data:=.dict #[] }) scope.names }) :
  wpAny M A (newFunctionEnv scope globals cl [] qual none .none (some env)) Q E s:=by
 simp only[newFunctionEnv,Option.isSome_some,if_true]
 refine wpAny_bind (wpAny_alloc ?_)
 refine wpAny_bind (wpAny_layCells _ (fun name kind cells=>by cases hkc:kind == NameKind.cell<;>simp[hkc]) _ _ _ _ ?_)
 rw[show ({ s with heap:=s.heap.push { cls:=.type "dict", data:=.dict #[] } }:Shared).heap.objs.size=s.heap.objs.size+1 from Heap.size_push ..]
 rw[List.forIn_nil]
 exact wpAny_bind (wpAny_pure (wpAny_pure hQ))
noncomputable def cxC(X:Cx)(scope:Scope)(cl:List (Str×Addr))(C:Addr)(N':List Str)(s₀:Shared)(H₀:Hp)(fp:List Addr):Cx where
 prog:=X.prog
 w:=X.w
 K:=X.K
 mg:=X.mg
 base:=X.base
 A:=X.A
 N:=N'
 s₀:=s₀
 H₀:=H₀
 env:=compEnvC scope cl C X.env
 outer:=X.stack
 stack:=X.stack
 ex:=fp
 fn:=fun x=>scope.names.lookup x == some NameKind.cell
 calm:=X.calm
 pn:=[]
 xe:=fun _ _=>False
theorem ZaG{env:Env}:∀ {names:List (Str×NameKind)} {x:Str} {k:NameKind},(names.map fun (n,k)=>if (k == NameKind.free&&env.scope.kind == .function&&env.kindOf n == some .cell) then (n,NameKind.cell) else (n,k)).lookup x=some k ->
  names.lookup x=some k\/(k=.cell/\names.lookup x=some .free)
 | [],_,_,h=>by simp at h
 | (n,j)::r,x,k,h=>by
  have ih:=@ZaG env r x k
  have h':List.lookup x ((if (j == NameKind.free&&env.scope.kind == .function&&env.kindOf n == some .cell)=true then (n,NameKind.cell) else (n,j))::(r.map fun (n,k)=>if (k == NameKind.free&&env.scope.kind == .function&&env.kindOf n == some .cell) then (n,NameKind.cell) else (n,k)))=some k:=h
  by_cases hc:(j == NameKind.free&&env.scope.kind == .function&&env.kindOf n == some .cell)=true
  ·rw[if_pos hc] at h'
   rw[List.lookup_cons] at h' ⊢
   cases hx:x == n with
   | true =>
    rw[hx] at h'
    cases h'
    simp only[Bool.and_eq_true] at hc
    exact .inr ⟨rfl,by rw[eq_of_beq hc.1.1]⟩
   | false=>rw[hx] at h';exact ih h'
  ·rw[if_neg hc] at h'
   rw[List.lookup_cons] at h' ⊢
   cases hx:x == n with
   | true=>rw[hx] at h';exact .inl h'
   | false=>rw[hx] at h';exact ih h'
structure BlockOk (X:Cx) (scope:Scope) (N':List Str) (ts:List Nat):Prop where
 kind:scope.kind=.function
 uniq:∀ y∈scope.names,scope.names.lookup y.1=some y.2
 names:∀ y∈scope.names,y.2=.local->scope.names.lookup y.1=some .local
 free:∀ y∈scope.names,y.2=.free->X.env.scope.names.lookup y.1=some .cell\/X.env.scope.names.lookup y.1=some .free
 len:N'.length=X.N.length
 same:∀ i x,N'[i]?=some x->scope.names.lookup x=some .free->i∉ts->X.N[i]?=some x
 loc:∀ i x,N'[i]?=some x->(scope.names.lookup x=some .local\/scope.names.lookup x=some .cell)->i∈ts
structure BCells (X:Cx) (scope:Scope) (cl:List (Str×Addr)) (C:Addr) (h:Heap):Prop where
 own:∀ x c,cl.lookup x=some c->X.env.cells.lookup x=some c\/(scope.names.lookup x=some .cell/\C<c/\h.IsCell c none)
 inj:∀ x y c,cl.lookup x=some c->cl.lookup y=some c->x=y
 has:∀ x,scope.names.lookup x=some .cell->∃ c,cl.lookup x=some c/\C<c
 fr:∀ x,(x,NameKind.free)∈scope.names->∃ c,cl.lookup x=some c/\X.env.cells.lookup x=some c
section
variable {X:Cx} {pins:List (Addr×Obj)} {σ:L2.St} {H:Hp} {s:Shared}
noncomputable def hideT(ts:List Nat)(σ:L2.St):L2.St:=ts.foldl (fun σ t=>σ.set t none) σ
theorem Zew:∀ (ts:List Nat) (σ:L2.St),(hideT ts σ).length=σ.length
 | [],_=>rfl
 | t::ts,σ=>by show (hideT ts (σ.set t none)).length=_;rw[Zew ts,List.length_set]
theorem Zgf:∀ (ts:List Nat) (σ:L2.St) {i:Nat} {v:V},(hideT ts σ)[i]?=some (some v)->σ[i]?=some (some v)/\i∉ts
 | [],_,_,_,h=>⟨h,by simp⟩
 | t::ts,σ,i,v,h=>by
  obtain⟨h1,h2⟩:=Zgf ts (σ.set t none) (i:=i) (v:=v) h
  by_cases e:t=i
  ·subst e
   have:=Zay h1
   cases this
  ·rw[Zad e] at h1
   exact⟨h1,by simp only[List.mem_cons,not_or];exact⟨fun z=>e z.symm,h2⟩⟩
theorem Zg8{scope:Scope}{cl:List (Str×Addr)}{N':List Str}{ts:List Nat}{fp:List Addr}{h':Heap}{tk:Nat}{C:Addr}{m:Str->Option Value}(I:Inv X pins σ H s)(B:BlockOk X scope N' ts)(hf:∀ b∈fp,ZiF X pins H b)(hfo:∀ b∈fp,b<s.heap.objs.size)
  (hb:BCells X scope cl C h')
  (hk:∀ b o,s.heap.get? b=some o->h'.get? b=some o) (hC:s.heap.objs.size<=C) (hn:h'.Ns C m):Inv (cxC X scope cl C N' s H fp) [] (hideT ts σ) H { s with heap:=h',toks:=tk }:=by
 have stf:∀ b∈fp,b∉frs X.stack:=fun b hb z=>by
  rcases List.mem_cons.mp (I.stkSub b z) with e|e
  ·exact(hf b hb).2.1 e
  ·exact(hf b hb).2.2.1 e
 have frOf:∀ x,((relabel scope X.env).names.lookup x=some .cell\/(relabel scope X.env).names.lookup x=some .free)->scope.names.lookup x=some .free\/scope.names.lookup x=some .cell:=fun x hx=>by
  rcases hx with z|z
  ·rcases ZaG z with z|⟨_,z⟩
   ·exact .inr z
   ·exact .inl z
  ·rcases ZaG z with z|⟨z,_⟩
   ·exact .inl z
   ·cases z
 have gtC:∀ c:Addr,C<c->s.heap.objs.size<=c:=fun c z=>Nat.le_trans hC (Nat.le_of_lt z)
 have cellK:∀ c v,s.heap.IsCell c v->h'.IsCell c v:=fun c v ⟨o,ho,hd⟩=>⟨o,hk _ _ ho,hd⟩
 refine⟨⟨I.ok.mod,B.kind,I.ok.glob,I.ok.blt,hC,hb.inj,fun x hx=>?_,fun x c h e=>?_,I.ok.hd,I.ok.frames,.inl rfl,fun b hbb=>⟨?_,fun x c e=>?_⟩,I.bs,Nat.le_trans I.ok.bsz I.sz,fun b o e hbb=>?_,stf,I.stack,I.stkFree⟩,rfl,I.bare,Un.kept hk,⟨m,hn,fun i x v h1 h2 h3=>?_⟩,fun x c e=>?_,I.hok.fresh hC,fun x c e=>(hb.own x c e).elim (I.freeC x c) (fun z=>I.hok.fresh (gtC c z.2.1)),fun p hp=>absurd (show p∈([]:List (Addr×Obj)) from hp) (by simp),I.hok.kept hk,?_⟩
 ·rcases frOf x hx with z|z
  ·obtain⟨c,q,_⟩:=hb.fr x (PySem.mem_of_lookup z)
   exact⟨c,q⟩
  ·obtain⟨c,q,_⟩:=hb.has x z
   exact⟨c,q⟩
 ·obtain⟨c',q,z⟩:=hb.has x (eq_of_beq h)
  have e':cl.lookup x=some c:=e
  rw[q] at e'
  cases e'
  exact gtC _ z
 ·intro z
  have z':b=C:=z
  have:=hfo b hbb
  rw[z'] at this
  exact absurd (Nat.lt_of_lt_of_le this hC) (Nat.lt_irrefl _)
 ·rcases hb.own x c e with z|z
  ·exact(hf b hbb).2.2.2.2.1 x c z
  ·intro q
   have:=hfo b hbb
   have:=gtC c z.2.1
   rw[q] at this
   exact absurd ‹b<_› (Nat.not_lt.mpr this)
 ·rcases (hf b hbb).2.2.2.1 with z|z
  ·exact I.ok.noex b o e z
  ·exact absurd (Nat.lt_of_lt_of_le (Heap.lt_size e) (Nat.le_trans I.ok.bsz z)) (Nat.lt_irrefl _)
 ·obtain⟨h2,hts⟩:=Zgf ts σ h2
  have h3':(relabel scope X.env).names.lookup x=some .local\/(relabel scope X.env).names.lookup x=some .cell\/(relabel scope X.env).names.lookup x=some .free:=h3
  have h1':N'[i]?=some x:=h1
  rcases h3' with z|z
  ·rcases ZaG z with z|⟨z,_⟩
   ·exact absurd (B.loc i x h1' (.inl z)) hts
   ·cases z
  ·have fr:=(frOf x z).resolve_right fun q=>hts (B.loc i x h1' (.inr q))
   have hm:=PySem.mem_of_lookup fr
   have hX:=B.same i x h1' fr hts
   obtain⟨m0,hn0,hl0⟩:=I.loc
   obtain⟨u,ru,lk⟩:=hl0 i x v hX h2 (by
    rcases B.free _ hm rfl with q|q
    ·exact .inr (.inl q)
    ·exact .inr (.inr q))
   refine⟨u,ru,?_⟩
   obtain⟨c,hc,hcX⟩:=hb.fr x hm
   rcases lk with ⟨q,_⟩|⟨_,c',hc',hcell⟩
   ·have q':X.env.scope.names.lookup x=some .local:=q
    rcases B.free _ hm rfl with p|p
    ·rw[show X.env.scope.names.lookup x=_ from p] at q';cases q'
    ·rw[show X.env.scope.names.lookup x=_ from p] at q';cases q'
   ·have e:=hcX
    rw[hc'] at e
    cases e
    exact .inr ⟨z,c,hc,cellK _ _ hcell⟩
 ·rcases hb.own x c e with z|z
  ·obtain⟨v,q⟩:=I.cell x c z
   exact⟨v,cellK _ _ q⟩
  ·exact⟨_,z.2.2⟩
 ·show (hideT ts σ).length=N'.length
  rw[Zew,I.len,B.len]
theorem Zgr{scope:Scope}{cl:List (Str×Addr)}{N':List Str}{fp:List Addr}{C D:Addr}{s':Shared}{H':Hp}{σ':L2.St}{pins':List (Addr×Obj)}{h'':Heap}{xs:List V}{ys:List Value}{n:Nat}
    (I:Inv X pins σ H s) (hf:∀ b∈fp,ZiF X pins H b) (I':Inv (cxC X scope cl C N' s H fp) pins' σ' H' s') (hD:s.heap.objs.size<=D) (hDC:D≠C) (hC:s.heap.objs.size<=C) (hd:s'.heap.get? D=some { cls:=.type "list", data:=.seq ys.toArray n }) (hDn:H' D=none) (rv:ZaP xs ys) (hz:xs.length<=sizeLine)
    (hs:Heap.SameBut C s'.heap h''):Inv X pins σ (upd H' D (.lst xs)) { s' with heap:=h'' }:=by
  have u:Un (frs X.stack) fp H H' s.heap s'.heap:=I'.base
  have lt:∀ b o,s.heap.get? b=some o->b≠C/\b≠D:=fun b o e=>⟨fun z=>absurd (Nat.lt_of_lt_of_le (Heap.lt_size e) (z ▸ hC)) (Nat.lt_irrefl _),fun z=>absurd (Nat.lt_of_lt_of_le (Heap.lt_size e) (z ▸ hD)) (Nat.lt_irrefl _)⟩
  have HD:H D=none:=I.hok.fresh hD
  have hCn:H' C=none:=I'.free
  have kb:∀ b o,b≠C->s'.heap.get? b=some o->h''.get? b=some o:=fun b o hb e=>(hs.2 b hb).trans e
  have u2:Un (frs X.stack) fp H (upd H' D (.lst xs)) s.heap h'':=⟨fun b o e q hb hx=>kb b o (lt b o e).1 (u.keep b o e q hb hx),fun b o e q hb hx=>by
      obtain⟨sl,e1⟩:=u.slot b o e q hb hx
      exact⟨sl,kb b _ (lt b o e).1 e1⟩,fun b o e q hx=>by rw[Zaz (lt b o e).2];exact u.free b o e q hx,fun b o e hx=>by
      obtain⟨o',e1⟩:=u.there b o e hx
      exact⟨o',kb b _ (lt b o e).1 e1⟩,fun b zs q=>by rw[Zaz (Zav q HD)];exact u.tups b zs q,fun b o zs q=>by rw[Zaz (Zav q HD)];exact u.frzs b o zs q,fun b ps q=>by rw[Zaz (Zav q HD)];exact u.tbls b ps q⟩
  have hok:HOk X.prog X.w (upd H' D (.lst xs)) h'':=fun b o e=>by
    by_cases hb:b=D
    · subst hb
      rw[ZbC] at e
      cases e
      exact⟨hz,ys,n,rv,kb _ _ hDC hd⟩
    · rw[Zaz hb] at e
      refine(I'.hok b o e).stay (fun c v hc q=>kb c v ?_ q) (fun c q=>by rw[Zaz (Zav q hDn)];exact q) fun c zs q=>by rw[Zaz (Zav q hDn)];exact q
      rcases hc with rfl|hc
      · exact Zav e hCn
      · exact Zav hc hCn
  exact I.call' (s':={ s' with heap:=h'' }) (ch:=fp) I'.os u2 hok I'.bare fun b hb=>⟨(hf b hb).2.2.2.1,(hf b hb).2.1,(hf b hb).2.2.2.2.1,(hf b hb).2.2.2.2.2⟩
end
def PTs(X:Cx)(ifs:List Expr)(tt:TT):Prop:=∀ (pins:List (Addr×Obj)) (s:Shared) (σ:L2.St) (H:Hp) (Q:Bool->Hp->Prop),Inv X pins σ H s->tt σ H Q ->
 wpAny (model X.prog X.w) X.A (forIn ifs true fun c r=>if r=true then do let ok <- isTrue c X.env (eval c X.env);pure (ForInStep.yield ok) else pure (ForInStep.yield r)) (TP X pins σ Q) X.xe s
theorem ZnS{X:Cx}:PTs X [] (fun σ H Q=>Q true H):=fun pins s σ H Q I h=>wpAny_tests_nil ⟨H,I,h⟩
theorem ZnQ{X:Cx}{c:Expr}{t:TT}(h:PT X c t):PTs X [c] t:=fun pins s σ H Q I q=>wpAny_tests_one (h pins s σ H Q I q)
theorem ZiD{X:Cx}{pins:List (Addr×Obj)}{σ:L2.St}{H:Hp}{s:Shared}{D:Addr}{ys:List Value}{n:Nat}{y:Value}{E:Value->Shared->Prop}{Q:Value->Shared->Prop}(I:Inv X ((D,{ cls:=.type "list", data:=.seq ys.toArray n })::pins) σ H s)(hD:X.s₀.heap.objs.size<=D)(hp:∀ p∈X.pn++pins,p.1≠D)(hc:∀ x c,X.env.cells.lookup x=some c->c≠D)(hz:ys.length<=sizeLine)
  (h:∀ s',Inv X ((D,{ cls:=.type "list", data:=.seq (ys++[y]).toArray (n+1) })::pins) σ H s'->(∀ b o,b≠D->s.heap.get? b=some o->s'.heap.get? b=some o)->Q .none s'):wpAny (model X.prog X.w) X.A (call (.builtin "list.append") [.ref D,y]) Q E s:=by
 obtain⟨e,hn,hL,hfs,_⟩:=I.pin (D,{ cls:=.type "list", data:=.seq ys.toArray n }) (List.mem_append_right _ List.mem_cons_self)
 refine append_at (hsz:=by rw[List.size_toArray];exact hz) e fun h' hs hd=>?_
 have hd':h'.get? D=some { cls:=.type "list", data:=.seq (ys++[y]).toArray (n+1) }:=by rw[hd];simp
 have kb:∀ b o,b≠D->s.heap.get? b=some o->h'.get? b=some o:=fun b o hb q=>(hs.2 b hb).trans q
 have I0:Inv X pins σ H s:=I.pins_of fun p hp=>I.pin p (List.mem_append_right _ (List.mem_cons_of_mem _ hp))
 have I1:Inv X pins σ H { s with heap:=h' }:=I0.turned (t':=s.toks) kb hn hL (.inr hD) hc hp
 refine h _ (I1.pins_of fun p hp=>?_) kb
 rcases List.mem_cons.mp hp with rfl|hp
 ·exact⟨hd',hn,hL,hfs,fun v z=>by
   have z':Data.seq _ _=Data.cell v:=z
   cases z'⟩
 ·exact I1.pin p (List.mem_append_right _ hp)
section
variable {prog:Program} {w:World} {A:Around} {R:Result->Shared->Prop} {s:Shared}
theorem Zg2{elt target iter:Expr}{ifs:List Expr}{scope:Scope}{pos:Pos}{it acc:Value}{env:Env}(I:Nat->Shared->Prop)
    (turn:∀ n s,I n s->wpAny (model prog w) A (pyNext it) (fun r s₁=>match r with
      | none=>R (.ok .next) s₁
      | some v=>wpAny (model prog w) A (letOwnedTupleGo target it v) (fun _ s₁'=>wpAny (model prog w) A (assign target env v) (fun _ s₂ =>
          wpAny (model prog w) A (forIn ifs true fun c r=>if r=true then do let ok <- isTrue c env (eval c env);pure (ForInStep.yield ok) else pure (ForInStep.yield r)) (fun ok s₃ =>
            if ok=true then wpAny (model prog w) A (eval elt env) (fun x s₄ =>
              wpAny (model prog w) A (call (.builtin "list.append") [acc,x]) (fun _ s₅=>∃ m,m<n/\I m s₅) (notedBy (model prog w) A env fun e s'=>R (.error e) s') s₄) (notedBy (model prog w) A env fun e s'=>R (.error e) s') s₃
            else ∃ m,m<n/\I m s₃) (notedBy (model prog w) A env fun e s'=>R (.error e) s') s₂) (notedBy (model prog w) A env fun e s'=>R (.error e) s') s₁') (notedBy (model prog w) A env fun e s'=>R (.error e) s') s₁) (notedBy (model prog w) A env fun e s'=>R (.error e) s') s)
    (n:Nat) (h:I n s) :
    codeAny (model prog w) A (.compLoop (.ListComp elt [⟨target,iter,ifs,0⟩] scope pos) 0 it acc env) R s:=by
  refine codeAny_loop rfl I (fun n s hI=>?_) n h
  show wpAny _ A ((compTurn (.ListComp elt [⟨target,iter,ifs,0⟩] scope pos) 0 it acc env).onRaise (fun x=>do noteFrame x env;theTreesLotGoes x)) _ _ s
  refine wpAny_noted ?_
  rw[compTurn_list]
  refine wpAny_bind (wpAny_standAt (wpAny_bind (wpAny_mono (turn n s hI) (fun r s₁ h₁=>?_) fun _ _ h'=>h')))
  cases r with
  | none=>exact wpAny_pure h₁
  | some v =>
    refine wpAny_bind (wpAny_mono h₁ (fun _ s₁' h₁'=>?_) fun _ _ h'=>h')
    refine wpAny_bind (wpAny_mono h₁' (fun _ s₂ h₂=>wpAny_bind (wpAny_mono h₂ (fun ok s₃ h₃=>?_) fun _ _ h'=>h')) fun _ _ h'=>h')
    cases ok with
    | false=>exact wpAny_pure ⟨rfl,h₃⟩
    | true =>
      exact wpAny_bind (wpAny_bind (wpAny_mono h₃ (fun x s₄ h₄=>wpAny_bind (wpAny_mono h₄ (fun _ s₅ h₅=>wpAny_pure (wpAny_pure ⟨rfl,h₅⟩)) fun _ _ h'=>h')) fun _ _ h'=>h'))
end
def ZdG(J:It)(ts:List Nat)(g:TG)(tt:TT)(te:TE)(σ:L2.St)(H:Hp)(Q:VK):Prop:=∃ W:Nat->Nat->List V->L2.St->Hp->Prop,(∃ m,W 0 m [] (hideT ts σ) H)/\∀ i m xs σ H,W i m xs σ H ->
 (J.stop i H/\∀ p,H p=none->Q (.ref p) (upd H p (.lst xs))) \/
 (J.go i H/\xs.length<sizeLine/\∀ x H',J.yld i H x H'->g x σ H' fun σ2 H2=>tt σ2 H2 fun b H3=>if b=true then te σ2 H3 fun y H4=>∃ m',m'<m/\W (i+1) m' (xs++[y]) σ2 H4 else ∃ m',m'<m/\W (i+1) m' xs σ2 H3)
theorem Zh0{X:Cx}{pins:List (Addr×Obj)}{σ:L2.St}{H:Hp}{s:Shared}{tg iter elt:Expr}{ifs:List Expr}{scope:Scope}{cl:List (Str×Addr)}{pos:Pos}{N':List Str}{ts:List Nat}{g:TG}{tt:TT}{te:TE}{it:Addr}{fp:List Addr}{tn:Nat->Heap->Prop}{J:It}{Q:VK}{E:Value->Shared->Prop}{RR:Value->Addr->Result->Shared->Prop}
  (hc:X.calm=true) (B:BlockOk X scope N' ts) (I:Inv X pins σ H s) (T:Turn X.prog X.w X.K tg J fp it tn) (st:tn 0 s.heap) (hf:∀ b∈fp,ZiF X pins H b)
  (hcl:∀ x c,cl.lookup x=some c->X.env.cells.lookup x=some c) (hcl2:∀ x,(x,NameKind.free)∈scope.names->∃ c,cl.lookup x=some c)
  (hg:∀ cl C s H,PG (cxC X scope cl C N' s H fp) tg g) (ht:∀ cl C s H,PTs (cxC X scope cl C N' s H fp) ifs tt) (he:∀ cl C s H,PE (cxC X scope cl C N' s H fp) elt te) (h:ZdG J ts g tt te σ H Q)
  (hRR:∀ cl D C s' H' σ' pins' xs ys n m,Inv (cxC X scope cl C N' s H fp) pins' σ' H' s'->s'.heap.get? D=some { cls:=.type "list", data:=.seq (List.toArray ys) n }->H' D=none->ZaP xs ys->xs.length<=sizeLine->s.heap.objs.size<=D->D≠C->s.heap.objs.size<=C->s'.heap.Ns C m->Q (.ref D) (upd H' D (.lst xs))->RR (.ref D) C (.ok .next) s') :
  wpAny (model X.prog X.w) X.A (newList []) (fun acc s₃=>wpAny (model X.prog X.w) X.A (newFunctionEnv scope X.env.globals cl [] X.env.qual none .none (some X.env)) (fun cenv s₄ =>
   codeAny (model X.prog X.w) X.A (.compStart (.ListComp elt [⟨tg,iter,ifs,0⟩] scope pos) 0 (.ref it) acc { cenv with scope:=relabel scope X.env }) (RR acc cenv.locals) s₄) E s₃) E s:=by
 refine wpAny_newObj_type (Ze2 ?_)
 dsimp only
 generalize hH2:s.heap.push { cls:=.type "list", dict:=none,data:=.seq ([]:List Value).toArray }=H2
 have hns₁:(pushCells (H2.push { cls:=.type "dict", data:=.dict #[] }) scope.names).Ns H2.objs.size (fun _=>none):=(Heap.Ns.new H2 (.type "dict")).keeps (pushCells_keeps _ _)
 have hkp₁:∀ b o,H2.get? b=some o->(pushCells (H2.push { cls:=.type "dict", data:=.dict #[] }) scope.names).get? b=some o:=fun b o e=>pushCells_keeps _ _ b o (Heap.get?_push_of_some _ e)
 have hown:=ZeG scope.names (H2.push { cls:=.type "dict", data:=.dict #[] }) cl
 have hinj:=ZeH scope.names (H2.push { cls:=.type "dict", data:=.dict #[] }) cl
 rw[Heap.size_push] at hown hinj
 generalize hcl':cellsFrom (H2.objs.size+1) scope.names cl=cl' at hown hinj
 have hcf:∀ x,(x,NameKind.cell)∉scope.names->cl'.lookup x=cl.lookup x:=fun x hx=>by rw[<- hcl'];exact ZdR _ _ _ x hx
 have hch:∀ x,(x,NameKind.cell)∈scope.names->∃ c,cl'.lookup x=some c/\H2.objs.size+1<=c:=fun x hx=>by rw[<- hcl'];exact ZeI _ _ _ _ x (Nat.le_refl _) (.inl hx)
 generalize hh₁:pushCells (H2.push { cls:=.type "dict", data:=.dict #[] }) scope.names=h₁ at hns₁ hkp₁ hown
 have hC:H2.objs.size=s.heap.objs.size+1:=by rw[<- hH2,Heap.size_push]
 have hCle:s.heap.objs.size<=H2.objs.size:=by rw[hC];exact Nat.le_succ _
 have hDC:s.heap.objs.size≠H2.objs.size:=by rw[hC];exact Nat.ne_of_lt (Nat.lt_succ_self _)
 have below:∀ b,b<s.heap.objs.size->b≠H2.objs.size:=fun b hb=>by rw[hC];exact Nat.ne_of_lt (Nat.lt_succ_of_lt hb)
 have old:∀ b o,s.heap.get? b=some o->h₁.get? b=some o:=fun b o e=>hkp₁ b o (hH2 ▸ Heap.get?_push_of_some _ e)
 have hacc:h₁.get? s.heap.objs.size=some { cls:=.type "list", data:=.seq ([]:List Value).toArray 0 }:=hkp₁ _ _ (hH2 ▸ Heap.get?_push_size _ rfl)
 have clt:∀ x c,cl.lookup x=some c->c<s.heap.objs.size:=fun x c e=>by
  obtain⟨v,q⟩:=I.cell x c (hcl x c e)
  exact q.lt
 have bc:BCells X scope cl' H2.objs.size h₁:=by
  refine⟨fun x c e=>?_,hinj (fun x y c e1 e2=>I.ok.inj x y c (hcl x c e1) (hcl y c e2)) (fun x c e=>Nat.lt_succ_of_lt (Nat.lt_of_lt_of_le (clt x c e) hCle)),fun x hx=>?_,fun x hx=>?_⟩
  ·rcases hown x c e with q|⟨q1,q2,q3⟩
   ·exact .inl (hcl x c q)
   ·exact .inr ⟨B.uniq _ q1,q2,q3⟩
  ·have hm:=PySem.mem_of_lookup hx
   obtain⟨c,e,hc⟩:=hch x hm
   exact⟨c,e,hc⟩
  ·have hno:(x,NameKind.cell)∉scope.names:=fun z=>by
    have e1:=B.uniq _ hx
    have e2:=B.uniq _ z
    rw[show scope.names.lookup x=_ from e1] at e2
    cases e2
   obtain⟨c,e⟩:=hcl2 x hx
   exact⟨c,by rw[hcf x hno];exact e,hcl x c e⟩
 have hfo:∀ b∈fp,b<s.heap.objs.size:=fun b hb=>by
  obtain⟨o,e,_⟩:=T.obj 0 _ st b hb
  exact Heap.lt_size e
 generalize hD:s.heap.objs.size=D at *
 generalize hC':H2.objs.size=C at *
 have I0:Inv (cxC X scope cl' C N' s H fp) [] (hideT ts σ) H { s with heap:=h₁,toks:=s.toks+([]:List (Str×Value)).length }:=Zg8 (tk:=s.toks+([]:List (Str×Value)).length) I B hf (fun b hb=>by rw[hD];exact hfo b hb) bc old (by rw[hD];exact hCle) hns₁
 have nD:H D=none:=I.hok.fresh (by rw[hD];exact Nat.le_refl _)
 have noD:∀ b∈fp,b≠D:=fun b hb=>Nat.ne_of_lt (hfo b hb)
 have noC:∀ b∈fp,b≠C:=fun b hb=>below b (hfo b hb)
 have stfs:D∉frs X.stack:=fun z=>by
  obtain⟨_,o,ho,_⟩:=I.stack.mem z
  exact absurd (Heap.lt_size ho) (by rw[hD];exact Nat.lt_irrefl _)
 have cD:∀ x c,cl'.lookup x=some c->c≠D:=fun x c e z=>by
  rcases bc.own x c e with q|⟨_,q,_⟩
  ·obtain⟨v,q⟩:=I.cell x c q
   exact absurd q.lt (by rw[z,hD];exact Nat.lt_irrefl _)
  ·rw[z] at q
   exact absurd (Nat.lt_of_lt_of_le q hCle) (Nat.lt_irrefl _)
 have I1:Inv (cxC X scope cl' C N' s H fp) [(D,{ cls:=.type "list", data:=.seq ([]:List Value).toArray 0 })] (hideT ts σ) H { s with heap:=h₁,toks:=s.toks+([]:List (Str×Value)).length }:=I0.pins_of fun p hp=>by
  have e:=List.mem_singleton.mp hp
  subst e
  exact⟨hacc,nD,hDC,stfs,fun v z=>by
   have z':Data.seq _ _=Data.cell v:=z
   cases z'⟩
 have st1:tn 0 h₁:=T.keep _ _ _ st fun b _ o e=>old b o e
 obtain⟨W,⟨m0,w0⟩,turn⟩:=h
 have fpk:∀ {pl:List (Addr×Obj)} {H':Hp},(∀ p∈pl,p.1=D)->(∀ b∈fp,H' b=none)->∀ b∈fp,ZiF (cxC X scope cl' C N' s H fp) pl H' b:=fun {pl H'} hp hn b hb =>
  ⟨hn b hb,noC b hb,fun z=>by
   rcases List.mem_cons.mp (I.stkSub b z) with e|e
   ·exact(hf b hb).2.1 e
   ·exact(hf b hb).2.2.1 e,.inl hb,fun x c e=>(bc.own x c e).elim ((hf b hb).2.2.2.2.1 x c) (fun z q=>absurd (Nat.lt_of_le_of_lt hCle z.2.1) (Nat.not_lt.mpr (by rw[q];exact Nat.le_of_lt (hfo b hb)))),fun p hp'=>by
   have hp2:p∈pl:=hp'
   rw[hp p hp2]
   exact(noD b hb).symm⟩
 have loop:∀ s₃:Shared,s₃={ s with heap:=h₁,toks:=s.toks+([]:List (Str×Value)).length } ->
   codeAny (model X.prog X.w) X.A (.compLoop (.ListComp elt [⟨tg,iter,ifs,0⟩] scope pos) 0 (.ref it) (.ref D) (compEnvC scope cl' C X.env)) (RR (.ref D) C) s₃:=by
  rintro s₃ rfl
  refine Zg2 (fun k s'=>∃ i σ' H' xs ys n,Inv (cxC X scope cl' C N' s H fp) [(D,{ cls:=.type "list", data:=.seq (List.toArray ys) n })] σ' H' s'/\tn i s'.heap/\(∀ b∈fp,H' b=none)/\ZaP xs ys/\xs.length<=sizeLine/\W i k xs σ' H') ?_ m0
   ⟨0,_,H,[],[],0,I1,st1,fun b hb=>(hf b hb).1,.nil,Nat.zero_le _,w0⟩
  rintro k s' ⟨i,σ',H',xs,ys,n,I',st',fr',rv,hz,w'⟩
  have one:∀ p∈[((D,{ cls:=.type "list", data:=.seq (List.toArray ys) n }):Addr×Obj)],p.1=D:=fun p hp=>by rw[List.mem_singleton.mp hp]
  rcases turn i k xs σ' H' w' with ⟨stop,q⟩|⟨go,hlt,step⟩
  ·refine wpAny_mono (T.done (cxC X scope cl' C N' s H fp) rfl rfl rfl hc i _ s' σ' H' (fun _ _=>False) I' (fpk one fr') st' stop) (fun r s1 ⟨hr,J1⟩=>?_) fun _ _ f=>f.elim
   subst hr
   obtain⟨e,hn,_⟩:=J1.pin _ (List.mem_append_right _ List.mem_cons_self)
   obtain⟨m,hm,_⟩:=J1.loc
   exact hRR cl' D C s1 H' σ' _ xs ys n m J1 e hn rv hz (Nat.le_refl _) hDC hCle hm (q D hn)
  ·refine wpAny_mono (T.item (cxC X scope cl' C N' s H fp) rfl rfl rfl hc i _ s' σ' H' (fun _ _=>False) I' (fpk one fr') st' go) (fun r s1 ⟨u,hr,h4⟩=>?_) fun _ _ f=>f.elim
   subst hr
   refine wpAny_mono h4 (fun _ s5 ⟨x,H5,I5,r5,y5,st5,fr5⟩=>?_) fun _ _ f=>f.elim
   have I5':=I5.pinned (fpk one fr5) (T.obj _ _ st5)
   refine wpAny_mono (hg cl' C s H _ s5 σ' H5 x u _ I5' r5 (step x H5 y5)) (fun _ s6 ⟨σ6,H6,I6,q6⟩=>?_) fun _ _ f=>f.elim
   refine wpAny_mono (ht cl' C s H _ s6 σ6 H6 _ I6 q6) (fun ok s7 ⟨H7,I7,q7⟩=>?_) fun _ _ f=>f.elim
   have again:∀ {s8:Shared} {H8:Hp} {ys':List Value} {n':Nat},Inv (cxC X scope cl' C N' s H fp) ((D,{ cls:=.type "list", data:=.seq (List.toArray ys') n' })::Zer fp s5.heap) σ6 H8 s8->Inv (cxC X scope cl' C N' s H fp) [(D,{ cls:=.type "list", data:=.seq (List.toArray ys') n' })] σ6 H8 s8/\tn (i+1) s8.heap/\∀ b∈fp,H8 b=none:=fun {s8 H8 ys' n'} I8 =>
    ⟨I8.pins_of fun p hp=>I8.pin p (List.mem_append_right _ (by rw[List.mem_singleton.mp hp];exact List.mem_cons_self)),T.keep _ _ _ st5 fun b hb o e=>(I8.pin (b,o) (List.mem_append_right _ (List.mem_cons_of_mem _ (Zc2 hb e)))).1,fun b hb=>by
     obtain⟨o,e,d⟩:=T.obj _ _ st5 b hb
     exact(I8.pin (b,o) (List.mem_append_right _ (List.mem_cons_of_mem _ (Zc2 hb e)))).2.1⟩
   cases ok with
   | false =>
    rw[if_neg (by decide)] at q7
    obtain⟨m',hm,w7⟩:=q7
    obtain⟨a1,a2,a3⟩:=again I7
    rw[if_neg (by decide)]
    exact⟨m',hm,i+1,σ6,H7,xs,ys,n,a1,a2,a3,rv,hz,w7⟩
   | true =>
    rw[if_pos rfl] at q7
    rw[if_pos rfl]
    refine wpAny_mono (he cl' C s H _ s7 σ6 H7 _ I7 q7) (fun val s8 ⟨y,H8,I8,r8,m',hm,w8⟩=>?_) fun _ _ f=>f.elim
    have hl:=rv.length
    refine ZiD (X:=cxC X scope cl' C N' s H fp) (ys:=ys) (n:=n) (pins:=Zer fp s5.heap) I8 (by show s.heap.objs.size<=D;rw[hD];exact Nat.le_refl _) (fun p hp=>?_) cD (by omega) fun s9 I9 kb=>?_
    ·have hp2:p∈Zer fp s5.heap:=hp
     exact noD _ (Zf5 hp2).1
    ·obtain⟨a1,a2,a3⟩:=again I9
     exact⟨m',hm,i+1,σ6,H8,xs++[y],ys++[val],n+1,a1,a2,a3,rv.append (.cons r8 .nil),by rw[List.length_append];exact hlt,w8⟩
 exact codeAny_compStart_list (loop _ rfl) (T.self _ 0 _ _ _ st1 (loop _ rfl))
theorem Zn0{X:Cx}{tg iter elt:Expr}{ifs:List Expr}{scope:Scope}{pos:Pos}{N':List Str}{ts:List Nat}{wi:TI}{g:TG}{tt:TT}{te:TE}(hc:X.calm=true)(B:BlockOk X scope N' ts)(hi:PI X tg iter wi)
  (hg:∀ cl C s H fp,PG (cxC X scope cl C N' s H fp) tg g) (ht:∀ cl C s H fp,PTs (cxC X scope cl C N' s H fp) ifs tt) (he:∀ cl C s H fp,PE (cxC X scope cl C N' s H fp) elt te) (hs:∀ x,foldedSetIterable iter X.env x=pure x) :
  PE X (.ListComp elt [⟨tg,iter,ifs,0⟩] scope pos) (fun σ H Q=>wi σ H fun J H1=>ZdG J ts g tt te σ H1 Q):=by
 intro pins s σ H Q I h
 obtain⟨cl,hclos,hcl,hcl2⟩:=Zfj (scope:=scope) (env:=X.env) fun x hx hk=>I.ok.has x.1 ((B.free x hx hk).imp id id)
 rw[eval_ListComp]
 refine wpAny_comprehension_free (use:=none) rfl hs hclos B.kind B.names (thn (hi pins s σ H _ I h) fun v s1 h1=>thn h1 fun itv s2 h2=>?_)
 obtain⟨it,fp,tn,J,H2,e,I2,T,st2,f2,h3⟩:=h2
 subst e
 refine Zh0 (RR:=fun acc C=>compPost (model X.prog X.w) X.A X.xe none (EP X pins σ Q) acc C) hc B I2 T st2 f2 hcl hcl2 (fun cl C s H=>hg cl C s H fp) (fun cl C s H=>ht cl C s H fp) (fun cl C s H=>he cl C s H fp) h3 fun cl' D C s' H' σ' pins' xs ys n m I' hd hDn rv hz hD hDC hC hm q=>?_
 exact⟨m,hm,fun h'' hs''=>⟨.ref D,_,Zgr I2 f2 I' hD hDC hC hd hDn rv hz hs'',rfl,q⟩⟩
theorem ZnV{X:Cx}{i:Nat}{n:Str}{pos' pos2:Pos}{tg iter elt:Expr}{ifs:List Expr}{scope:Scope}{pos:Pos}{N':List Str}{ts:List Nat}{wi:TI}{g:TG}{tt:TT}{te:TE}(hc:X.calm=true)(B:BlockOk X scope N' ts)(hi:PI X tg iter wi)
  (hg:∀ cl C s H fp,PG (cxC X scope cl C N' s H fp) tg g) (ht:∀ cl C s H fp,PTs (cxC X scope cl C N' s H fp) ifs tt) (he:∀ cl C s H fp,PE (cxC X scope cl C N' s H fp) elt te) (hs:∀ x,foldedSetIterable iter X.env x=pure x)
  (hN:X.N.Nodup) (hni:X.N[i]?=some n) (hx:X.env.scope.names.lookup n=some .local) (hsw:swapsWith (.ListComp elt [⟨tg,iter,ifs,0⟩] scope pos) (some (.Name n pos')) pos2.line X.env=pure true) :
  PS X (.Assign [.Name n pos'] (.ListComp elt [⟨tg,iter,ifs,0⟩] scope pos) pos2) (Ztr (fun σ H Q=>wi σ H fun J H1=>ZdG J ts g tt te σ H1 Q) (ZcH i)):=by
 intro pins s σ H Dn I h
 obtain⟨cl,hclos,hcl,hcl2⟩:=Zfj (scope:=scope) (env:=X.env) fun x hx hk=>I.ok.has x.1 ((B.free x hx hk).imp id id)
 rw[exec_Assign_Name_used _ _ _ _ hsw]
 refine wpAny_bind (wpAny_standAt (wpAny_bind ?_))
 show wpAny _ X.A (do let _ <- comprehension (.ListComp elt [⟨tg,iter,ifs,0⟩] scope pos) scope X.env _ (newList []) false (eval iter X.env) (some (assign (.Name n pos') X.env))) _ _ s
 refine wpAny_bind (wpAny_mono (wpAny_comprehension_free (use:=some (assign (.Name n pos') X.env)) (Q:=fun _ s'=>SP X pins Dn .next s') rfl hs hclos B.kind B.names
  (thn (hi pins s σ H _ I h) fun v s1 h1=>thn h1 fun itv s2 h2=>?_)) (fun _ s' hq=>wpAny_pure (wpAny_pure hq)) fun _ _ e=>e)
 obtain⟨it,fp,tn,J,H2,e,I2,T,st2,f2,h3⟩:=h2
 subst e
 refine Zh0 (RR:=fun acc C=>compPost (model X.prog X.w) X.A X.xe (some (assign (.Name n pos') X.env)) (fun _ s'=>SP X pins Dn .next s') acc C) hc B I2 T st2 f2 hcl hcl2 (fun cl C s H=>hg cl C s H fp) (fun cl C s H=>ht cl C s H fp) (fun cl C s H=>he cl C s H fp) h3 fun cl' D C s' H' σ' pins' xs ys n' m I' hd hDn rv hz hD hDC hC hm q=>?_
 have J0:Inv X pins σ (upd H' D (.lst xs)) s':=Zgr I2 f2 I' hD hDC hC hd hDn rv hz (Heap.SameBut.refl ..)
 refine wpAny_assign_Name (ZfX J0 hN hni (.inl hx) (show Zbb (.ref D) (.ref D) from rfl) (fun s'' J1 ⟨a,sb,ha⟩=>?_) (.inr hx))
 have hC0:X.s₀.heap.objs.size<=C:=Nat.le_trans I2.sz hC
 have hL:C≠X.env.locals:=fun z=>absurd (Nat.lt_of_lt_of_le I2.lt (z ▸ hC)) (Nat.lt_irrefl _)
 have hcC:∀ x c,X.env.cells.lookup x=some c->c≠C:=fun x c e z=>by
  obtain⟨v,q'⟩:=I2.cell x c e
  exact absurd (Nat.lt_of_lt_of_le q'.lt (by rw[z];exact hC)) (Nat.lt_irrefl _)
 have hp:∀ p∈X.pn++pins,p.1≠C:=fun p hp z=>absurd (Nat.lt_of_lt_of_le (Heap.lt_size (I2.pin p hp).1) (by rw[z];exact hC)) (Nat.lt_irrefl _)
 have hCn:upd H' D (.lst xs) C=none:=by rw[Zaz hDC.symm];exact I'.free
 have hCa:C≠a:=by
  rcases ha with rfl|ha
  ·exact hL
  ·exact fun z=>hcC n a ha z.symm
 refine⟨m,hm.sameBut sb hCa,fun h'' hs''=>⟨_,_,J1.turned (t':=s''.toks) (fun b o hb e=>(hs''.2 b hb).trans e) hCn hL (.inr hC0) hcC hp,q⟩⟩
end Ov
end
section
namespace Ov
open PySem PySem.Spec PyProof.Rows L2
theorem Zca:∀ (ts:List Nat) (ρ:Rho) (j:Nat),(ZcS ts ρ)[j]?=if j∈ts then (ρ[j]?).map (fun _=>none) else ρ[j]?
 | [],ρ,j=>by simp[ZcS]
 | t::ts,ρ,j=>by
  show (ZcS ts (ρ.set t none))[j]?=_
  rw[Zca ts]
  by_cases h1:j∈ts
  ·rw[if_pos h1,if_pos (List.mem_cons_of_mem _ h1)]
   by_cases h2:t=j
   ·subst h2
    rw[List.getElem?_set_self']
    cases ρ[t]?<;>rfl
   ·rw[Zad h2]
  ·rw[if_neg h1]
   by_cases h2:t=j
   ·subst h2
    rw[if_pos List.mem_cons_self,List.getElem?_set_self']
    cases ρ[t]?<;>rfl
   ·rw[Zad h2,if_neg (by simp only[List.mem_cons,not_or];exact⟨fun z=>h2 z.symm,h1⟩)]
theorem Zdt:∀ (ts:List Nat) (ρ:Rho),(ZcS ts ρ).length=ρ.length
 | [],_=>rfl
 | t::ts,ρ=>by show (ZcS ts (ρ.set t none)).length=_;rw[Zdt ts,List.length_set]
theorem ZdM:∀ (ts:List Nat) (σ:L2.St) {i:Nat},i∉ts->(hideT ts σ)[i]?=σ[i]?
 | [],_,_,_=>rfl
 | t::ts,σ,i,h=>by
  simp only[List.mem_cons,not_or] at h
  show (hideT ts (σ.set t none))[i]?=_
  rw[ZdM ts _ h.2,Zad (fun z=>h.1 z.symm)]
theorem Zd3:∀ (ts:List Nat) (ds:List D) (ρ1 ρ2:Rho),ρ1.length=ρ2.length->(∀ j,j∉ts->ρ1[j]?=ρ2[j]?)->Za5 ts ds ρ1=Za5 ts ds ρ2
 | [],[],ρ1,ρ2,hl,h=>congrArg some (List.ext_getElem? fun j=>h j (by simp))
 | [],_::_,_,_,_,_=>rfl
 | _::_,[],_,_,_,_=>rfl
 | t::ts,d::ds,ρ1,ρ2,hl,h=>by
  refine Zd3 ts ds _ _ (by rw[List.length_set,List.length_set];exact hl) fun j hj=>?_
  by_cases e:t=j
  ·subst e
   rw[List.getElem?_set,List.getElem?_set,if_pos rfl,if_pos rfl,hl]
  ·rw[Zad e,Zad e]
   exact h j (by simp only[List.mem_cons,not_or];exact⟨fun z=>e z.symm,hj⟩)
theorem Zep:∀ (ts us:List Nat) (ds:List D) (ρ ρ':Rho),(∀ t∈ts,t∈us)->Za5 ts ds ρ=some ρ'->ZcS us ρ'=ZcS us ρ
 | [],us,[],ρ,ρ',_,e=>by cases e;rfl
 | t::ts,us,d::ds,ρ,ρ',hs,e=>by
  rw[Zep ts us ds _ ρ' (fun u hu=>hs u (List.mem_cons_of_mem _ hu)) e]
  refine List.ext_getElem? fun j=>?_
  rw[Zca,Zca]
  by_cases h:j∈us
  ·rw[if_pos h,if_pos h,List.getElem?_set]
   split
   ·rename_i e2
    subst e2
    split
    ·rename_i h3
     rw[List.getElem?_eq_getElem h3];rfl
    ·rename_i h3
     rw[List.getElem?_eq_none (by omega)]
   ·rfl
  ·rw[if_neg h,if_neg h,Zad]
   rintro rfl
   exact h (hs _ List.mem_cons_self)
 | [],_,_::_,_,_,_,e=>by cases e
 | _::_,_,[],_,_,_,e=>by cases e
section
variable {K:PySem.W.Frag} {CL:ClA} {A:Addr->Prop} {ρ ρ':Rho} {σ:L2.St} {H:Hp}
theorem Good.less(g:Good K CL A ρ σ H)(hl:ρ'.length=ρ.length)(h:∀ (i:Nat) (d:D) (o:Bool),ρ'[i]?=some (some (d,o))->ρ[i]?=some (some (d,o))):Good K CL A ρ' σ H:=⟨fun i d e=>g.sh i d (h i d false e),fun i d e=>g.ow i d (h i d true e),hl.trans g.len⟩
theorem Good.put(g:Good K CL A ρ σ H){v:V}{d:D}(t:Nat)(r:Rep K CL H A v d):Good K CL A (ρ.set t (some (d,false))) (σ.set t (some v)) H:=by
 refine⟨fun j e h=>?_,fun j e h=>?_,by rw[List.length_set,List.length_set];exact g.len⟩
 ·by_cases hj:t=j
  ·subst hj
   have e1:=Zay h
   cases e1
   have hl:t<σ.length:=by
    rw[<- g.len]
    have:=(List.getElem?_eq_some_iff.mp h).1
    simpa using this
   exact⟨v,by rw[List.getElem?_set_self hl],r⟩
  ·rw[Zad hj] at h
   obtain⟨w',q,rw'⟩:=g.sh j e h
   exact⟨w',by rw[Zad hj];exact q,rw'⟩
 ·have hj:t≠j:=by
   rintro rfl
   have:=Zay h
   cases this
  rw[Zad hj] at h
  obtain⟨a,xs,ds,q,z⟩:=g.ow j e h
  exact⟨a,xs,ds,by rw[Zad hj];exact q,z⟩
theorem Good.hide(g:Good K CL A ρ σ H)(ts:List Nat):Good K CL A (ZcS ts ρ) σ H:=g.less (Zdt _ _) fun i d o e=>by
 rw[Zca] at e
 split at e
 ·cases q:ρ[i]? with
  | none=>rw[q] at e;cases e
  | some x=>rw[q] at e;cases e
 ·exact e
theorem Good.hideT(g:Good K CL A ρ σ H)(ts:List Nat):Good K CL A (ZcS ts ρ) (hideT ts σ) H:=by
 have key:∀ i x,(ZcS ts ρ)[i]?=some (some x)->ρ[i]?=some (some x)/\i∉ts:=fun i x e=>by
  rw[Zca] at e
  split at e
  ·cases q:ρ[i]? with
   | none=>rw[q] at e;cases e
   | some x=>rw[q] at e;cases e
  ·exact⟨e,by assumption⟩
 refine⟨fun i d e=>?_,fun i d e=>?_,by rw[Zdt,Zew];exact g.len⟩
 ·obtain⟨e1,e2⟩:=key i _ e
  obtain⟨v,q,r⟩:=g.sh i d e1
  exact⟨v,by rw[ZdM _ _ e2];exact q,r⟩
 ·obtain⟨e1,e2⟩:=key i _ e
  obtain⟨a,xs,ds,q,r⟩:=g.ow i d e1
  exact⟨a,xs,ds,by rw[ZdM _ _ e2];exact q,r⟩
end
def GG(K:PySem.W.Frag)(CL:ClA)(ts:List Nat)(as:D->Rho->R Rho)(g:TG):Prop:=∀ A ρ σ H v d ρ' Q,Good K CL A (ZcS ts ρ) σ H->Rep K CL H A v d->as d ρ=.ok ρ'->(∀ σ',Good K CL A ρ' σ' H->Good K CL A (ZcS ts ρ) σ' H->Q σ' H)->g v σ H Q
theorem ZoE{K:PySem.W.Frag}{CL:ClA}(i:Nat):GG K CL [i] (fun d ρ=>.ok (ρ.set i (some (d,false)))) (ZcH i):=fun A ρ σ H v d ρ' Q g r e k=>by
 cases e
 have g2:=g.put i r
 have e1:(ZcS [i] ρ).set i (some (d,false))=ρ.set i (some (d,false)):=by
  show (ρ.set i none).set i (some (d,false))=_
  rw[List.set_set]
 rw[e1] at g2
 refine k _ g2 ?_
 have:=g2.hide [i]
 have e2:ZcS [i] (ρ.set i (some (d,false)))=ZcS [i] ρ:=by
  show (ρ.set i _).set i none=ρ.set i none
  rw[List.set_set]
 rw[e2] at this
 exact this
theorem Zj0{K:PySem.W.Frag}{CL:ClA}{A:Addr->Prop}{H:Hp}:∀ (ts:List Nat) (ds:List D) (vs:List V) (ρ ρ':Rho) (σ:L2.St) (Q:L2.St->Hp->Prop),Good K CL A ρ σ H->Reps K CL H A vs ds->Za5 ts ds ρ=some ρ'->(∀ σ',Good K CL A ρ' σ' H->Q σ' H)->(ts.foldr (fun t u=>Zey (ZcH t) u) Zj1) vs σ H Q
 | [],[],[],ρ,ρ',σ,Q,x,_,e,k=>by
  cases e
  exact⟨rfl,k σ x⟩
 | t::ts,d::ds,v::vs,ρ,ρ',σ,Q,x,r,e,k=>⟨v,vs,rfl,Zj0 ts ds vs _ ρ' _ Q (x.put t r.1) r.2 e k⟩
 | [],_::_,_,_,_,_,_,_,_,e,_=>by cases e
 | _::_,[],_,_,_,_,_,_,_,e,_=>by cases e
 | [],[],_::_,_,_,_,_,_,r,_,_=>r.elim
 | _::_,_::_,[],_,_,_,_,_,r,_,_=>r.elim
theorem ZrV{K:PySem.W.Frag}{CL:ClA}(ts:List Nat):GG K CL ts (ZbB ts) (ZpP K ts.length (ts.foldr (fun t u=>Zey (ZcH t) u) Zj1)):=fun A ρ σ H v d ρ' Q g r e k=>by
 cases d with
 | tup ds =>
  obtain⟨a,xs,rfl,na,sq,rs⟩:=r
  rw[Zfl] at e
  cases e2:Za5 ts ds ρ with
  | none=>rw[e2] at e;cases e
  | some ρ2 =>
   rw[e2] at e
   cases e
   have e3:Za5 ts ds (ZcS ts ρ)=some ρ':=by
    rw[<- e2]
    exact Zd3 ts ds _ _ (Zdt _ _) fun j hj=>by rw[Zca,if_neg hj]
   refine⟨a,xs,rfl,sq,by rw[rs.length];exact ZcZ _ _ _ _ e2,Zj0 ts ds xs _ ρ' σ Q g rs e3 fun σ' g'=>k σ' g' ?_⟩
   have:=g'.hide ts
   rw[Zep ts ts ds ρ ρ' (fun _ h=>h) e2] at this
   exact this
 | _=>cases e
noncomputable abbrev W0:XW:=fun _ _=>False
def STs(X:Cx)(CL:ClA)(ifs:List Expr)(f:Rho->R Bool):Prop:=∀ A,PTs X ifs (fun σ H Q=>AOk H A/\∃ ρ,Good X.K CL A ρ σ H/\Za2 W0 H (f ρ) Q)
theorem Zm6{X:Cx}{CL:ClA}:STs X CL [] (fun _=>.ok true):=fun A pins s σ H Q I ⟨hA,ρ,g,p⟩=>ZnS pins s σ H Q I (p H (Zaj.refl H))
theorem Zm5{X:Cx}{CL:ClA}{c:Expr}{f:Rho->R Bool}(h:SB X CL W0 c f):STs X CL [c] f:=fun A pins s σ H Q I q=>ZnQ (h A) pins s σ H Q I q
section
variable {X:Cx} {CL:ClA} {W:XW} {tg iter elt:Expr} {ifs:List Expr} {scope:Scope} {pos:Pos} {N':List Str} {ts:List Nat} {fi:Rho->R (List D)} {fc:Rho->R Bool} {fe:Rho->R D} {as:D->Rho->R Rho} {g:TG}
theorem ZfM{g:D->R Bool}{f:D->R D}{x:D}{xs ys:List D}(h:Zal g f (x::xs)=.ok ys):(g x=.ok false/\Zal g f xs=.ok ys)\/∃ y r,g x=.ok true/\f x=.ok y/\Zal g f xs=.ok r/\ys=y::r:=by
 unfold Zal at h
 cases e:g x with
 | bad=>rw[e] at h;cases h
 | exn z=>rw[e] at h;cases h
 | ok b =>
  rw[e,R.bind_ok] at h
  cases b with
  | false=>exact .inl ⟨rfl,h⟩
  | true =>
   rw[if_pos rfl] at h
   cases e2:f x with
   | bad=>rw[e2] at h;cases h
   | exn z=>rw[e2] at h;cases h
   | ok y =>
    rw[e2,R.bind_ok] at h
    cases e3:Zal g f xs with
    | bad=>rw[e3] at h;cases h
    | exn z=>rw[e3] at h;cases h
    | ok r =>
     rw[e3,R.bind_ok] at h
     cases h
     exact .inr ⟨y,r,rfl,rfl,rfl,rfl⟩
theorem Zbn{α β:Type}{r:R α}{f:α->R β}{b:β}(h:r.bind f=.ok b):∃ a,r=.ok a/\f a=.ok b:=by
 cases r with
 | ok a=>exact⟨a,rfl,h⟩
 | exn x=>cases h
 | bad=>cases h
theorem Zkg{A:Addr->Prop}{ρ:Rho}{σ:L2.St}{H1:Hp}{J:It}{ds ys:List D}{Q:VK}{K:PySem.W.Frag}(hGG:GG K CL ts as g)(hA:AOk H1 A)(gd:Good K CL A ρ σ H1)(yl:ZlP K CL A ds J H1)(hz:ds.length<=sizeLine)
  (hcp:Zal (fun x=>(as x ρ).bind fc) (fun x=>(as x ρ).bind fe) ds=.ok ys) (q:∀ xs H2,Zaj H1 H2->Reps K CL H2 A xs ys->∀ p,H2 p=none->Q (.ref p) (upd H2 p (.lst xs))) :
  ZdG J ts g (fun σ H Q=>AOk H A/\∃ ρ,Good K CL A ρ σ H/\Za2 W0 H (fc ρ) Q) (fun σ H Q=>AOk H A/\∃ ρ,Good K CL A ρ σ H/\ZaJ (fun H=>Rep K CL H A) W0 H (fe ρ) Q) σ H1 Q:=by
 refine⟨fun i m xs σ' H'=>m=ds.length-i/\i<=ds.length/\xs.length<=i/\Zaj H1 H'/\Good K CL A (ZcS ts ρ) σ' H'/\∃ outs rest,Reps K CL H' A xs outs/\Zal (fun x=>(as x ρ).bind fc) (fun x=>(as x ρ).bind fe) (ds.drop i)=.ok rest/\ys=outs++rest,
  ⟨ds.length,by simp,Nat.zero_le _,Nat.le_refl _,Zaj.refl _,gd.hideT ts,[],ys,trivial,hcp,rfl⟩,?_⟩
 rintro i m xs σ' H' ⟨rfl,hi,hxl,sm,g',outs,rest,rs,hc,e⟩
 obtain⟨yst,ygo⟩:=yl H' (Kp.of sm) i
 by_cases hlt:i<ds.length
 ·have hd:ds[i]?=some ds[i]:=List.getElem?_eq_getElem hlt
  obtain⟨hgo,hyl⟩:=ygo _ hd
  refine .inr ⟨hgo,by omega,fun x H2 hx=>?_⟩
  obtain⟨s2,rx⟩:=hyl x H2 hx
  have rx':=rx A (fun a ha=>.inl ha) (hA.same sm)
  rw[List.drop_eq_getElem_cons hlt] at hc
  have sm2:=sm.trans s2
  rcases ZfM hc with ⟨h1,h2⟩|⟨y,r,h1,h2,h3,h4⟩
  ·obtain⟨ρ',ea,ec⟩:=Zbn h1
   refine hGG A ρ σ' H2 x ds[i] ρ' _ (g'.same s2) rx' ea fun σ3 g3 g4=>⟨hA.same sm2,ρ',g3,?_⟩
   rw[ec]
   exact fun H3 s3=>by
    dsimp only
    rw[if_neg (by decide)]
    exact⟨ds.length-(i+1),by omega,rfl,hlt,by omega,sm2.trans s3,g4.same s3,outs,rest,(rs.same s2).same s3,h2,e⟩
  ·obtain⟨ρ',ea,ec⟩:=Zbn h1
   obtain⟨ρ2,ea2,ee⟩:=Zbn h2
   rw[ea] at ea2
   cases ea2
   refine hGG A ρ σ' H2 x ds[i] ρ' _ (g'.same s2) rx' ea fun σ3 g3 g4=>⟨hA.same sm2,ρ',g3,?_⟩
   rw[ec]
   exact fun H3 s3=>by
    dsimp only
    rw[if_pos rfl]
    refine⟨(hA.same sm2).same s3,ρ',g3.same s3,?_⟩
    rw[ee]
    exact fun v H4 s4 r4=>⟨ds.length-(i+1),by omega,rfl,hlt,by rw[List.length_append,List.length_singleton];omega,(sm2.trans s3).trans s4,(g4.same s3).same s4,outs++[y],r,(((rs.same s2).same s3).same s4).append ⟨r4,trivial⟩,h3,by rw[e,h4];simp⟩
 ·have hk':ds.length<=i:=by omega
  rw[List.drop_eq_nil_of_le hk'] at hc
  have hr:rest=[]:=by cases hc;rfl
  subst hr
  rw[List.append_nil] at e
  subst e
  exact .inl ⟨yst hk',fun p hp=>q xs H' sm rs p hp⟩
theorem Zcw.ok_of{K:PySem.W.Frag}{A:Addr->Prop}{H:Hp}{r:R (List D)}{f:List D->R D}{Q:VK}{Q':It->Hp->Prop}{Rq:Hp->V->D->Prop}(h:ZaJ Rq W H (r.bind f) Q)(k:∀ ds J H',r=.ok ds->Zaj H H'->ZlP K CL A ds J H'->ds.length<=sizeLine->ZaJ Rq W H' (f ds) Q->Q' J H'):Zcw K CL A W H r Q':=by
 cases r with
 | ok d=>exact fun J H2 s2 y z=>k d J H2 rfl s2 y z (ZaJ.same s2 h)
 | exn x=>exact h
 | bad=>exact h
theorem Zru{α:Type}{r:R α}{a:α}(h:noX r=.ok a):r=.ok a:=by
 cases r with
 | ok b=>exact h
 | exn x=>cases h
 | bad=>cases h
theorem Zgm{A:Addr->Prop}{ρ:Rho}{σ:L2.St}{H:Hp}{Q:VK}(hGG:GG X.K CL ts as g)(hA:AOk H A)(gd:Good X.K CL A ρ σ H)
  (p:ZaJ (Zeg X.K CL true H A) W H ((fi ρ).bind fun xs=>(noX (Zal (fun x=>(as x ρ).bind fc) (fun x=>(as x ρ).bind fe) xs)).bind fun ys=>.ok (.lst ys)) Q) :
  Zcw X.K CL A W H (fi ρ) (fun J H1=>ZdG J ts g (fun σ H Q=>AOk H A/\∃ ρ,Good X.K CL A ρ σ H/\Za2 W0 H (fc ρ) Q) (fun σ H Q=>AOk H A/\∃ ρ,Good X.K CL A ρ σ H/\ZaJ (fun H=>Rep X.K CL H A) W0 H (fe ρ) Q) σ H1 Q) :=
 Zcw.ok_of p fun ds J H1 e1 s1 yl hz p1=>by
  cases e2:noX (Zal (fun x=>(as x ρ).bind fc) (fun x=>(as x ρ).bind fe) ds) with
  | ok ys =>
   rw[e2] at p1
   exact Zkg hGG (hA.same s1) (gd.same s1) yl hz (Zru e2) fun xs H2 s2 rs q hq=>p1 _ _ (s2.trans (ZaL hq _)) (Zc0 (s1.trans s2) ((hA.same s1).same s2) hq rs)
  | exn x=>rw[e2] at p1;cases hq:Zal (fun x=>(as x ρ).bind fc) (fun x=>(as x ρ).bind fe) ds<;>rw[hq] at e2<;>cases e2
  | bad=>rw[e2] at p1;exact p1.elim
theorem Znk(hc:X.calm=true)(B:BlockOk X scope N' ts)(hi:SI X CL W tg iter fi)(hGG:GG X.K CL ts as g)(hg:∀ cl C s H fp,PG (cxC X scope cl C N' s H fp) tg g)(ht:∀ cl C s H fp,STs (cxC X scope cl C N' s H fp) CL ifs fc)(he:∀ cl C s H fp,SE (cxC X scope cl C N' s H fp) CL W0 elt fe)
  (hs:∀ x,foldedSetIterable iter X.env x=pure x):SC X CL W true (.ListComp elt [⟨tg,iter,ifs,0⟩] scope pos) (fun ρ=>(fi ρ).bind fun xs=>(noX (Zal (fun x=>(as x ρ).bind fc) (fun x=>(as x ρ).bind fe) xs)).bind fun ys=>.ok (.lst ys)):=fun A pins s σ H Q I ⟨hA,ρ,gd,p⟩ =>
 Zn0 hc B (hi A) hg (fun cl C s H fp=>ht cl C s H fp A) (fun cl C s H fp=>he cl C s H fp A) hs pins s σ H Q I ⟨hA,ρ,gd,Zgm hGG hA gd p⟩
end
end Ov
end
section
namespace Ov
open PySem PySem.Spec PyProof.Rows L2
section
variable {K:PySem.W.Frag} {CL:ClA} {Fz:Addr->HO->Prop} {B:Addr->Prop} {ρ:Rho} {σ:L2.St} {H H':Hp}
theorem Sx.setF(x:Sx K CL Fz B ρ σ H)(s:Zaj H H'){i:Nat}{a:Addr}{xs:List V}{ds:List D}(h0:H a=none)(h1:H' a=some (.lst xs))(r:Reps K CL H' (fun b=>ZcG B ρ σ b\/b=a) xs ds):Sx K CL Fz B (ρ.set i (some (.lst ds,true))) (σ.set i (some (.ref a))) H':=by
 have nA:¬ ZcG B ρ σ a:=x.aok.new h0
 have own:∀ (j:Nat) (e:D),(ρ.set i (some (.lst ds,true)))[j]?=some (some (e,true))->(i=j/\e=.lst ds)\/(i≠j/\ρ[j]?=some (some (e,true))):=fun j e h=>by
  by_cases hj:i=j
  ·subst hj
   have:=Zay h
   cases this
   exact .inl ⟨rfl,rfl⟩
  ·exact .inr ⟨hj,by rw[Zad hj] at h;exact h⟩
 have atI:∀ {j:Nat} {y:Sl},(ρ.set i (some (.lst ds,true)))[j]?=some y->i=j->(σ.set i (some (.ref a)))[j]?=some (some (.ref a)):=fun {j y} h e=>by
  subst e
  have hl:i<σ.length:=by
   rw[<- x.len]
   have:=(List.getElem?_eq_some_iff.mp h).1
   simpa using this
  rw[List.getElem?_set_self hl]
 have sub:∀ b,ZcG B (ρ.set i (some (.lst ds,true))) (σ.set i (some (.ref a))) b->ZcG B ρ σ b\/b=a:=fun b h=>by
  rcases h with h|⟨j,e,h1,h2⟩
  ·exact .inl (.inl h)
  ·rcases own j e h1 with ⟨hj,_⟩|⟨hj,h1'⟩
   ·rw[atI h1 hj] at h2
    cases h2
    exact .inr rfl
   ·rw[Zad hj] at h2
    exact .inl (.inr ⟨j,e,h1',h2⟩)
 have wide:∀ {v:V} {d:D},Rep K CL H (ZcG B ρ σ) v d->Rep K CL H' (ZcG B (ρ.set i (some (.lst ds,true))) (σ.set i (some (.ref a)))) v d:=fun r=>(Rep.wide (fun b hb=>(sub b hb).imp id fun e=>by rw[e];exact h0) _ r).same s
 have wides:∀ {v:List V} {d:List D},Reps K CL H (ZcG B ρ σ) v d->Reps K CL H' (ZcG B (ρ.set i (some (.lst ds,true))) (σ.set i (some (.ref a)))) v d:=fun r=>(Reps.wide (fun b hb=>(sub b hb).imp id fun e=>by rw[e];exact h0) _ r).same s
 refine⟨⟨fun j e h=>?_,fun j e h=>?_,by rw[List.length_set,List.length_set];exact x.len⟩,fun b h=>?_,fun j e b g1 g2=>?_,fun j k e f b g1 g2 g3 g4=>?_,fun b o z=>s _ _ (x.same b o z),by rw[List.length_set,List.length_set];exact x.len⟩
 ·have hj:i≠j:=by
   rintro rfl
   have:=Zay h
   cases this
  rw[Zad hj] at h
  obtain⟨w',q,rw'⟩:=x.good.sh j e h
  exact⟨w',by rw[Zad hj];exact q,wide rw'⟩
 ·rcases own j e h with ⟨hj,rfl⟩|⟨hj,h'⟩
  ·have q:=atI h hj
   exact⟨a,xs,ds,q,rfl,.inr ⟨j,_,h,q⟩,h1,Reps.sub sub _ r⟩
  ·obtain⟨b,ys,es,q,z,ha,hh,rr⟩:=x.good.ow j e h'
   have q':(σ.set i (some (.ref a)))[j]?=some (some (.ref b)):=by rw[Zad hj];exact q
   exact⟨b,ys,es,q',z,.inr ⟨j,e,h,q'⟩,s _ _ hh,wides rr⟩
 ·rcases sub b h with z|z
  ·obtain⟨ys,q⟩:=x.aok b z
   exact⟨ys,s _ _ q⟩
  ·rw[z];exact⟨xs,h1⟩
 ·rcases own j e g1 with ⟨hj,_⟩|⟨hj,h'⟩
  ·rw[atI g1 hj] at g2
   cases g2
   refine⟨fun o z=>?_,fun z=>nA (.inl z)⟩
   have:=x.same a o z
   rw[h0] at this;cases this
  ·rw[Zad hj] at g2
   exact x.new j e b h' g2
 ·rcases own j e g1 with ⟨hj,_⟩|⟨hj,h'⟩
  ·rw[atI g1 hj] at g3
   cases g3
   rcases own k f g2 with ⟨hk,_⟩|⟨hk,h''⟩
   ·exact hj.symm.trans hk
   ·rw[Zad hk] at g4
    exact absurd (.inr ⟨k,f,h'',g4⟩) nA
  ·rw[Zad hj] at g3
   rcases own k f g2 with ⟨hk,_⟩|⟨hk,h''⟩
   ·rw[atI g2 hk] at g4
    cases g4
    exact absurd (.inr ⟨j,e,h',g3⟩) nA
   ·rw[Zad hk] at g4
    exact x.dis j k e f b h' h'' g3 g4
theorem Sx.upd(x:Sx K CL Fz B ρ σ H){i:Nat}{d:D}{a:Addr}{xs:List V}{ds:List D}(hi:ρ[i]?=some (some (d,true)))(ha:σ[i]?=some (some (.ref a)))(r:Reps K CL H (ZcG B ρ σ) xs ds):Sx K CL Fz B (ρ.set i (some (.lst ds,true))) σ (L2.upd H a (.lst xs)):=by
 have oa:ZcG B ρ σ a:=.inr ⟨i,d,hi,ha⟩
 have hil:i<ρ.length:=(List.getElem?_eq_some_iff.mp hi).1
 have get:∀ (j:Nat) (e:D),(ρ.set i (some (.lst ds,true)))[j]?=some (some (e,true))↔(i=j/\e=.lst ds)\/(i≠j/\ρ[j]?=some (some (e,true))):=fun j e=>by
  by_cases hj:i=j
  ·subst hj
   rw[List.getElem?_set_self hil]
   simp
   exact⟨fun z=>z.symm,fun z=>z.symm⟩
  ·rw[Zad hj];simp[hj]
 have same:∀ b,ZcG B (ρ.set i (some (.lst ds,true))) σ b↔ZcG B ρ σ b:=fun b=>by
  constructor
  ·rintro (h|⟨j,e,h1,h2⟩)
   ·exact .inl h
   ·rcases (get j e).mp h1 with ⟨rfl,_⟩|⟨_,h1⟩
    ·exact .inr ⟨i,d,hi,h2⟩
    ·exact .inr ⟨j,e,h1,h2⟩
  ·rintro (h|⟨j,e,h1,h2⟩)
   ·exact .inl h
   ·by_cases hj:i=j
    ·subst hj
     exact .inr ⟨i,.lst ds,(get i _).mpr (.inl ⟨rfl,rfl⟩),h2⟩
    ·exact .inr ⟨j,e,(get j e).mpr (.inr ⟨hj,h1⟩),h2⟩
 have kp:Kp (ZcG B ρ σ) H (L2.upd H a (.lst xs)):=fun b o e na=>by
  have hne:b≠a:=by
   rintro rfl
   exact na oa
  rw[Zaz hne];exact e
 refine⟨⟨fun j e h=>?_,fun j e h=>?_,by rw[List.length_set];exact x.len⟩,fun b h=>?_,fun j e b g1 g2=>?_,fun j k e f b g1 g2 g3 g4=>?_,fun b o z=>?_,by rw[List.length_set];exact x.len⟩
 ·have hj:i≠j:=by
   rintro rfl
   have:=Zay h
   cases this
  rw[Zad hj] at h
  obtain⟨w',q,rw'⟩:=x.good.sh j e h
  exact⟨w',q,Rep.sub (fun b hb=>(same b).mp hb) _ (Rep.kp kp _ rw')⟩
 ·rcases (get j e).mp h with ⟨rfl,rfl⟩|⟨hj,h'⟩
  ·exact⟨a,xs,ds,ha,rfl,(same a).mpr oa,ZbC,Reps.sub (fun b hb=>(same b).mp hb) _ (Reps.kp kp _ r)⟩
  ·obtain⟨b,ys,es,q,z,hb,hh,rr⟩:=x.good.ow j e h'
   have hne:b≠a:=fun z=>hj (x.dis i j d e a hi h' ha (z ▸ q))
   exact⟨b,ys,es,q,z,(same b).mpr hb,by rw[Zaz hne];exact hh,Reps.sub (fun b hb=>(same b).mp hb) _ (Reps.kp kp _ rr)⟩
 ·obtain⟨ys,q⟩:=x.aok b ((same b).mp h)
  by_cases e:b=a
  ·rw[e];exact⟨xs,ZbC⟩
  ·exact⟨ys,by rw[Zaz e];exact q⟩
 ·rcases (get j e).mp g1 with ⟨rfl,_⟩|⟨_,h'⟩
  ·exact x.new i d b hi g2
  ·exact x.new j e b h' g2
 ·rcases (get j e).mp g1 with ⟨rfl,_⟩|⟨hj,h'⟩
  ·rcases (get k f).mp g2 with ⟨rfl,_⟩|⟨hk,h''⟩
   ·rfl
   ·exact x.dis i k d f b hi h'' g3 g4
  ·rcases (get k f).mp g2 with ⟨rfl,_⟩|⟨hk,h''⟩
   ·exact x.dis j i e d b h' hi g3 g4
   ·exact x.dis j k e f b h' h'' g3 g4
 ·have hne:b≠a:=fun e=>(x.new i d a hi ha).1 o (e ▸ z)
  rw[Zaz hne]
  exact x.same b o z
theorem Sx.rel(x:Sx K CL Fz B ρ σ H){i:Nat}{d:D}(hi:ρ[i]?=some (some (d,true))):Sx K CL Fz B (ρ.set i (some (d,false))) σ H:=by
 obtain⟨a,xs,ds,q,rfl,oa,hh,rr⟩:=x.good.ow i d hi
 have own:∀ (j:Nat) (e:D),(ρ.set i (some (.lst ds,false)))[j]?=some (some (e,true))->i≠j/\ρ[j]?=some (some (e,true)):=fun j e h=>by
  by_cases hj:i=j
  ·subst hj
   have:=Zay h
   cases this
  ·exact⟨hj,by rw[Zad hj] at h;exact h⟩
 have sub:∀ b,ZcG B (ρ.set i (some (.lst ds,false))) σ b->ZcG B ρ σ b:=fun b h=>by
  rcases h with h|⟨j,e,h1,h2⟩
  ·exact .inl h
  ·exact .inr ⟨j,e,(own j e h1).2,h2⟩
 have na:¬ ZcG B (ρ.set i (some (.lst ds,false))) σ a:=fun h=>by
  rcases h with h|⟨j,e,h1,h2⟩
  ·exact(x.new i _ a hi q).2 h
  ·obtain⟨hj,h1⟩:=own j e h1
   exact hj (x.dis i j _ e a hi h1 q h2)
 refine⟨⟨fun j e h=>?_,fun j e h=>?_,by rw[List.length_set];exact x.len⟩,fun b h=>x.aok b (sub b h),fun j e b g1 g2=>x.new j e b (own j e g1).2 g2,fun j k e f b g1 g2 g3 g4=>x.dis j k e f b (own j e g1).2 (own k f g2).2 g3 g4,x.same,by rw[List.length_set];exact x.len⟩
 ·by_cases hj:i=j
  ·subst hj
   have e1:=Zay h
   cases e1
   exact⟨_,q,a,xs,rfl,.inl na,SqL.of hh,Reps.sub sub _ rr⟩
  ·rw[Zad hj] at h
   obtain⟨w',q',rw'⟩:=x.good.sh j e h
   exact⟨w',q',Rep.sub sub _ rw'⟩
 ·obtain⟨hj,h'⟩:=own j e h
  obtain⟨b,ys,es,q',z,hb,hh',rr'⟩:=x.good.ow j e h'
  exact⟨b,ys,es,q',z,.inr ⟨j,e,h,q'⟩,hh',Reps.sub sub _ rr'⟩
end
section
variable {X:Cx} {CL:ClA} {W:XW} {pos:Pos} {e:Expr} {fe:Rho->R D} {fr:Bool}
theorem Zau.exC{Fz:Addr->HO->Prop}{B:Addr->Prop}{ρ:Rho}{σ:L2.St}{H:Hp}{r:R D}{f:D->O}{D':Ends}{Q:VK}{A:Addr->Prop}(x:Sx X.K CL Fz B ρ σ H)(h:Zau X.K CL Fz B W (O.of ρ r f) D')
  (k:∀ d v H',r=.ok d->Zaj H H'->Zeg X.K CL fr H A H' v d->Sx X.K CL Fz B ρ σ H'->Zau X.K CL Fz B W (f d) D'->Q v H'):ZaJ (Zeg X.K CL fr H A) W H r Q:=by
 cases r with
 | ok d=>exact fun v H' s r=>k d v H' rfl s r (x.grow s) h
 | exn y=>exact fun H' s=>h H' fun b o z=>s _ _ (x.same b o z)
 | bad=>exact h
def SAs(X:Cx)(CL:ClA)(W:XW)(fr:Bool)(i:Nat)(st:Stmt)(f:Rho->R D):Prop:=∀ A,PS X st (Ztr (fun σ H Q=>AOk H A/\∃ ρ,Good X.K CL A ρ σ H/\ZaJ (Zeg X.K CL fr H A) W H (f ρ) Q) (ZcH i))
theorem SC.sas{i:Nat}{n:Str}{pos':Pos}(hN:X.N.Nodup)(hi:X.N[i]?=some n)(hx:Loc X.env.scope n)(he:SC X CL W fr e fe)(hs:swapsWith e (some (.Name n pos')) pos.line X.env=pure false)(hf:X.fn n=true\/X.env.scope.names.lookup n=some .local):SAs X CL W fr i (.Assign [.Name n pos'] e pos) fe :=
 fun A=>Zl9 hN hi hx (he A) hs hf
theorem Zk9{i:Nat}{n:Str}{pos' pos2:Pos}{tg iter elt:Expr}{ifs:List Expr}{scope:Scope}{N':List Str}{ts:List Nat}{fi:Rho->R (List D)}{fc:Rho->R Bool}{fe:Rho->R D}{as:D->Rho->R Rho}{g:TG}(hc:X.calm=true)(B:BlockOk X scope N' ts)(hi:SI X CL W tg iter fi)(hGG:GG X.K CL ts as g)(hg:∀ cl C s H fp,PG (cxC X scope cl C N' s H fp) tg g)(ht:∀ cl C s H fp,STs (cxC X scope cl C N' s H fp) CL ifs fc)(he:∀ cl C s H fp,SE (cxC X scope cl C N' s H fp) CL W0 elt fe)
  (hs:∀ x,foldedSetIterable iter X.env x=pure x) (hN:X.N.Nodup) (hni:X.N[i]?=some n) (hx:X.env.scope.names.lookup n=some .local) (hsw:swapsWith (.ListComp elt [⟨tg,iter,ifs,0⟩] scope pos) (some (.Name n pos')) pos2.line X.env=pure true) :
  SAs X CL W true i (.Assign [.Name n pos'] (.ListComp elt [⟨tg,iter,ifs,0⟩] scope pos) pos2) (fun ρ=>(fi ρ).bind fun xs=>(noX (Zal (fun x=>(as x ρ).bind fc) (fun x=>(as x ρ).bind fe) xs)).bind fun ys=>.ok (.lst ys)):=fun A pins s σ H Dn I ⟨hA,ρ,gd,p⟩ =>
 ZnV hc B (hi A) hg (fun cl C s H fp=>ht cl C s H fp A) (fun cl C s H fp=>he cl C s H fp A) hs hN hni hx hsw pins s σ H Dn I ⟨hA,ρ,gd,Zgm hGG hA gd p⟩
theorem Zl1{i:Nat}{st:Stmt}(h:SAs X CL W fr i st fe):SS X CL W st (fun ρ=>O.of ρ (fe ρ) fun d=>.next (ρ.set i (some (d,false)))):=fun Fz B pins s σ H D I ⟨ρ,x,p⟩ =>
 h (ZcG B ρ σ) pins s σ H D I ⟨x.aok,ρ,x.good,Zau.exC x p fun d v H' _ s r x' q=>q _ H' (x'.set i r.1)⟩
theorem Znc{i:Nat}{st:Stmt}(h:SAs X CL W true i st fe):SS X CL W st (fun ρ=>O.of ρ (fe ρ) fun d=>setF ρ i d):=fun Fz B pins s σ H D I ⟨ρ,x,p⟩ =>
 h (ZcG B ρ σ) pins s σ H D I ⟨x.aok,ρ,x.good,Zau.exC x p fun d v H' _ s r x' q=>by
  cases d with
  | lst ds =>
   obtain⟨a,xs,rfl,h0,h1,rs⟩:=r.2 rfl ds rfl
   exact q _ H' (x.setF s h0 h1 rs)
  | dic ds=>exact r.1.elim
  | _=>exact q.elim⟩
theorem Zm9(he:SC X CL W true e fe):SS X CL W (.Return (some e) pos) (fun ρ=>O.of ρ (fe ρ) fun d=>.ret d true):=fun Fz B pins s σ H D I ⟨ρ,x,p⟩ =>
 Zjl (he (ZcG B ρ σ)) pins s σ H D I ⟨x.aok,ρ,x.good,Zau.exC x p fun d v H' _ s r x' q=>q v H' x'.same (Rep.sub (fun a h=>.inl h) _ r.1) fun _ ds e=>by
  obtain⟨a,xs,h0,h1,h2,h3⟩:=r.2 rfl ds e
  refine⟨a,xs,h0,fun o z=>?_,h2,Reps.sub (fun b hb=>hb.imp .inl id) _ h3⟩
  have:=x.same a o z
  rw[h1] at this;cases this⟩
noncomputable def Zwn(ρ:Rho)(i:Nat):Bool:=match ρ[i]? with
  | some (some (_,o))=>o
  | _=>false
theorem Zm8{i:Nat}{e:Expr}(he:PE X e (ZlV i)):SS X CL W (.Return (some e) pos) (fun ρ=>O.of ρ (ZgF ρ i) fun d=>.ret d (Zwn ρ i)):=fun Fz B pins s σ H D I ⟨ρ,x,p⟩ =>
 Zjl he pins s σ H D I (by
  dsimp only at p
  cases e:ZgF ρ i with
  | bad=>rw[e] at p;exact p.elim
  | exn z=>exact(Zhl e).elim
  | ok d =>
   rw[e] at p
   obtain⟨o,e⟩:=ZiN e
   have eo:Zwn ρ i=o:=by unfold Zwn;rw[e]
   rw[O.of_ok,eo] at p
   cases o with
   | false =>
    obtain⟨v,q,r⟩:=x.good.sh i d e
    exact⟨v,q,p v H x.same (Rep.sub (fun a h=>.inl h) _ r) fun z=>nomatch z⟩
   | true =>
    obtain⟨a,xs,ds,q,rfl,ha,hh,r⟩:=x.good.ow i d e
    obtain⟨n1,n2⟩:=x.new i _ a e q
    refine⟨_,q,p _ H x.same ⟨a,xs,rfl,.inl n2,SqL.of hh,Reps.sub (fun a h=>.inl h) _ r⟩ fun _ ds' e'=>?_⟩
    cases e'
    exact⟨a,xs,rfl,n1,hh,Reps.sub (fun b hb=>hb.elim .inl fun z=>z ▸ ha) _ r⟩)
theorem Zjx{ρ:Rho}{i:Nat}{ds:List D}(h:Zef ρ i=.ok ds):ρ[i]?=some (some (.lst ds,true)):=by
 unfold Zef at h
 split at h
 ·rename_i e;cases h;exact e
 ·cases h
theorem ZhG{ρ:Rho}{i:Nat}{x:Ex}(h:Zef ρ i=.exn x):False:=by
 unfold Zef at h
 split at h<;>cases h
variable {o:Expr} {i:Nat} {apos cpos:Pos}
theorem Zqh(ho:PE X o (ZlV i))(he:SE X CL W e fe)(hbase:attributeBase o "append" X.env (eval o X.env)=eval o X.env)(hfew:((backTo cpos (starEach [e] X.env)).all (fun x=>!x.1)&&(backToKw cpos (keywordEach [] X.env)).all (fun x=>x.1.isSome)&&decide ([e].length+([]:List Keyword).length+(if ([]:List Keyword).isEmpty then 0 else 1)<30))=true)
  (hline:(apos.endLine == cpos.line)=true) (hs:starEach [e] X.env=[(false,eval e X.env)]) (hsw:swapsWith (.Call (.Attribute o "append" apos) [e] [] cpos) none pos.line X.env=pure false) :
  SS X CL W (.Expr (.Call (.Attribute o "append" apos) [e] [] cpos) pos) (fun ρ=>O.of ρ (Zef ρ i) fun xs=>O.of ρ (fe ρ) fun d=>if Zec (xs.length+1)=true then .next (ρ.set i (some (.lst (xs++[d]),true))) else .bad):=fun Fz B pins s σ H D I ⟨ρ,x,p⟩=>by
 refine Zjm (Zwj PySem.F.plainAttrs_list PySem.F.slot_list_append PySem.F.type_list_append ZjK ho (ZaD (he (ZcG B ρ σ)) Zb6 hs) hbase hfew hline hs rfl) hsw pins s σ H D I ?_
 dsimp only at p
 cases e1:Zef ρ i with
 | bad=>rw[e1] at p;exact p.elim
 | exn z=>exact(ZhG e1).elim
 | ok ds =>
  rw[e1,O.of_ok] at p
  have hi:=Zjx e1
  obtain⟨a,xs,ds',q,e2,ha,hh,r⟩:=x.good.ow i _ hi
  cases e2
  refine⟨_,q,.inl ⟨rfl,xs,SqL.of hh⟩,x.aok,ρ,x.good,Zau.ex x p fun d v H' _ s rv x' q'=>?_⟩
  split at q'
  ·rename_i hz
   refine⟨a,xs,v,rfl,rfl,s _ _ hh,?_,q' _ _ (x'.upd hi q ((r.same s).append ⟨rv,trivial⟩))⟩
   have:=ZbH hz
   rw[r.length];omega
  ·exact q'.elim
theorem Zqf{k:Expr}{fk:Rho->R Ov.D}{spos:Pos}(ho:PE X o (ZlV i))(hk:ST X CL W k fk)(he:SE X CL W e fe) (ha:∀ v,assign (.Subscript o k spos) X.env v=(do
      let ov <- holding [v] (eval o X.env)
      let iv <- holding [v,ov] (eval k X.env)
      standAt spos
      holding [v,ov,iv] (setItem ov iv v)
      release [v,ov,iv] [])) (hs:swapsWithSole [.Subscript o k spos] e pos.line X.env=pure false) (hw:swappedStores [.Subscript o k spos] e X.env=pure none) (h1:(assignEach [.Subscript o k spos] X.env).map (·.2)=[assign (.Subscript o k spos) X.env]) :
    SS X CL W (.Assign [.Subscript o k spos] e pos) (fun ρ=>O.of ρ (fe ρ) fun d=>O.of ρ (Zef ρ i) fun xs=>O.of ρ ((fk ρ).bind ZcJ) fun j=>match plD xs.length j with
      | some n=>.next (ρ.set i (some (.lst (xs.set n d),true)))
      | none=>.bad):=fun Fz B pins s σ H D I ⟨ρ,x,p⟩ =>
  Zma (he (ZcG B ρ σ)) (Zq8 ho (hk (ZcG B ρ σ)) Zk4 ha) hs hw h1 pins s σ H D I ⟨x.aok,ρ,x.good,Zau.ex x p fun d v H' _ s rv x' q'=>by
    cases e1:Zef ρ i with
    | bad=>rw[e1] at q';exact q'.elim
    | exn z=>exact(ZhG e1).elim
    | ok ds =>
      rw[e1,O.of_ok] at q'
      have hi:=Zjx e1
      obtain⟨a,xs,ds',q,e2,ha,hh,r⟩:=x'.good.ow i _ hi
      cases e2
      refine⟨_,q,x'.aok,ρ,x'.good,?_⟩
      cases e3:fk ρ with
      | bad=>rw[e3] at q';exact q'.elim
      | exn z=>rw[e3] at q';exact fun H2 s2=>q' H2 fun b o z=>s2 _ _ (x'.same b o z)
      | ok dk =>
        rw[e3] at q'
        intro y H2 s2 ry
        cases dk with
        | int j =>
          have ey:=ry.int_of
          subst ey
          rw[R.bind_ok,Zkx,O.of_ok] at q'
          cases e4:plD ds.length j with
          | none=>rw[e4] at q';exact q'.elim
          | some n =>
            rw[e4] at q'
            refine⟨a,xs,j,n,rfl,rfl,s2 _ _ hh,?_,q' _ _ ((x'.grow s2).upd hi q (Reps.set (rv.same s2) n (r.same s2)))⟩
            rw[r.length];exact e4
        | _=>exact q'.elim⟩
theorem Znb{tg:Expr}{as:Ov.D->Rho->R Rho}{g:TG}(hGT:GT X.K CL as g)(hg:PG X tg g)(he:SE X CL W e fe)(hs:swapsWithSole [tg] e pos.line X.env=pure false)(hw:swappedStores [tg] e X.env=pure none)(h1:(assignEach [tg] X.env).map (·.2)=[assign tg X.env])(hax:∀ d ρ x,as d ρ≠.exn x) :
  SS X CL W (.Assign [tg] e pos) (fun ρ=>O.of ρ (fe ρ) fun d=>O.of ρ (as d ρ) fun ρ'=>.next ρ'):=fun Fz B pins s σ H D I ⟨ρ,x,p⟩ =>
 Zma (he (ZcG B ρ σ)) hg hs hw h1 pins s σ H D I ⟨x.aok,ρ,x.good,Zau.ex x p fun d v H' _ s rv x' q'=>by
  cases ea:as d ρ with
  | bad=>rw[ea] at q';exact q'.elim
  | exn z=>exact absurd ea (hax _ _ z)
  | ok ρ2 =>
   rw[ea,O.of_ok] at q'
   exact hGT Fz B ρ σ H' v d ρ2 _ x' rv ea fun σ' x3=>q' σ' H' x3⟩
theorem Zm7{rest:List Stmt}{f:Rho->O}(i:Nat)(h:SSs X CL W rest f):SSs X CL W rest (fun ρ=>(match ρ[i]? with
   | some (some (d,true))=>O.next (ρ.set i (some (d,false)))
   | _=>O.next ρ).seq f):=fun Fz B=>PSs.weak (h Fz B) fun D σ H ⟨ρ,x,p⟩=>by
 dsimp only at p
 split at p
 ·rename_i d e
  exact⟨_,x.rel e,p⟩
 ·exact⟨ρ,x,p⟩
end
end Ov
end
section
namespace Ov
open PySem PySem.Spec PyProof.Rows L2
section
variable {prog:Program} {w:World} {A:Around} {E:Value->Shared->Prop} {s:Shared}
theorem Zrt{j t:Addr}{k:Nat}{its:Array Value}{x:Value}{Q:Value->Shared->Prop}(st:s.heap.IsTupleIter j t k)(sq:s.heap.IsTuple t its)(at_:its[k]?=some x)
  (go:∀ h2,h2.IsTupleIter j t (k+1)->Heap.SameBut j s.heap h2->Q x { s with heap:=h2 }):wpAny (model prog w) A (Builtin.SmallTypes.nextOf (.ref j)) Q E s:=by
 obtain⟨oj,gj,cj,dj⟩:=id st
 obtain⟨ot,gt,_,nt,dt⟩:=sq
 show wpAny _ _ (callSpecial? _ _ >>= _) _ _ _
 refine wpAny_bind (wpAny_callSpecial?_slot st.typeIs F.slot_tuple_iterator_next (wpAny_call_entry F.slot_tuple_iterator_next st.typeIs F.entry_tuple_iterator_next ?_ (F.args_tuple_iterator_next_1 _)))
 show wpAny _ _ (field (.ref j) 0 >>= _) _ _ _
 refine wpAny_bind (wpAny_field gj dj (x:=.ref t) rfl ?_)
 show wpAny _ _ (field (.ref j) 1 >>= _) _ _ _
 refine wpAny_bind (wpAny_field gj dj (x:=.int k 0) rfl ?_)
 refine wpAny_bind (wpAny_seqItems gt dt ?_)
 simp only[Int.toNat_natCast,at_]
 exact wpAny_bind (wpAny_setField gj dj (by simp) (wpAny_pure ⟨x,rfl,wpAny_pure (go _ ⟨_,Heap.get?_update_self _ gj (Obj.isFreed_of_fields (Obj.data_mapFields dj _)),(Obj.cls_mapFields ..).trans cj,by rw[Obj.data_mapFields dj];simp[rawInt]⟩ (Heap.SameBut.update ..))⟩))
theorem ZjG{j t:Addr}{k:Nat}{its:Array Value}{Q:Value->Shared->Prop}(calm:A.handled=none)(st:s.heap.IsTupleIter j t k)(sq:s.heap.IsTuple t its)(at_:its[k]?=none)
  (up:∀ h2 e,Heap.ExtBut j s.heap h2->(∃ o,h2.get? e=some o/\o.cls=.type "StopIteration")->E (.ref e) { s with heap:=h2 }):wpAny (model prog w) A (Builtin.SmallTypes.nextOf (.ref j)) Q E s:=by
 obtain⟨oj,gj,cj,dj⟩:=id st
 obtain⟨ot,gt,_,nt,dt⟩:=sq
 show wpAny _ _ (callSpecial? _ _ >>= _) _ _ _
 refine wpAny_bind (wpAny_callSpecial?_slot st.typeIs F.slot_tuple_iterator_next (wpAny_call_entry F.slot_tuple_iterator_next st.typeIs F.entry_tuple_iterator_next ?_ (F.args_tuple_iterator_next_1 _)))
 show wpAny _ _ (field (.ref j) 0 >>= _) _ _ _
 refine wpAny_bind (wpAny_field gj dj (x:=.ref t) rfl ?_)
 show wpAny _ _ (field (.ref j) 1 >>= _) _ _ _
 refine wpAny_bind (wpAny_field gj dj (x:=.int k 0) rfl ?_)
 refine wpAny_bind (wpAny_seqItems gt dt ?_)
 simp only[Int.toNat_natCast,at_]
 refine wpAny_bind (wpAny_rule (wpAny_bind (wpAny_setField gj dj (by simp) ?_)))
 refine wpAny_bind ?_
 simp only[newExc,newTuple]
 refine wpAny_bind (wpAny_newObj_type ?_ (by size_fits))
 refine wpAny_bind (m:=firstArgMember _ _) (wpAny_of_eq (a:=.none) (by first|rfl|(simp only[firstArgMember];rfl)) (wpAny_newObj_type ?_ (by size_fits)))
 simp only[raiseNew]
 refine wpAny_bind (wpAny_handled ?_)
 first|rw[show A.in1.handled=none from calm]|rw[calm]
 exact wpAny_bind (wpAny_pure (wpAny_throw (up _ _ (((Heap.SameBut.update ..).extBut.push _).push _) ⟨_,Heap.get?_push_size _ rfl,rfl⟩)))
end
structure Dw (prog:Program) (w:World) (A:Around) (j:Addr) (fp:List Addr) (n:Nat) (P:Nat->Value->Prop) (S:Nat->Heap->Prop):Prop where
 frame:∀ i h h2,S i h->(∀ c∈fp,∀ o,h.get? c=some o->h2.get? c=some o)->S i h2
 item:∀ i (s:Shared) (Q:Value->Shared->Prop) (E:Value->Shared->Prop),i<n->S i s.heap->(∀ x h2 tk,P i x->S (i+1) h2->Heap.SameBut j s.heap h2->Q x { s with heap:=h2,toks:=tk })->wpAny (model prog w) A (Builtin.SmallTypes.nextOf (.ref j)) Q E s
 done:∀ i (s:Shared) (Q:Value->Shared->Prop) (E:Value->Shared->Prop),n<=i->S i s.heap->(∀ h2 e,Heap.ExtBut j s.heap h2->(∃ o,h2.get? e=some o/\o.cls=.type "StopIteration")->E (.ref e) { s with heap:=h2 })->wpAny (model prog w) A (Builtin.SmallTypes.nextOf (.ref j)) Q E s
def Ze4(t:Bool)(h:Heap)(j l:Addr)(i:Nat):Prop:=match t with
  | true=>h.IsTupleIter j l i
  | false=>h.IsListIter j l i
def ZbQ(t:Bool)(h:Heap)(l:Addr)(its:Array Value):Prop:=match t with
  | true=>h.IsTuple l its
  | false=>h.IsList l its
theorem Ze3{prog:Program}{w:World}{A:Around}(calm:A.handled=none)(t:Bool)(j l:Addr)(ne:l≠j)(its:Array Value):Dw prog w A j [j,l] its.size (fun i v=>its[i]?=some v) (fun i h=>Ze4 t h j l i/\ZbQ t h l its):=by
 cases t with
 | true=>exact⟨fun _ _ _ z k=>⟨z.1.at fun o e=>k j (by simp) o e,z.2.at fun o e=>k l (by simp) o e⟩,fun i s Q E hi z q=>Zrt z.1 z.2 (x:=its[i]) (by simp[hi]) fun h2 z2 sb=>q _ h2 s.toks (by simp[hi]) ⟨z2,z.2.extBut sb.extBut ne⟩ sb,fun i s Q E hi z q=>ZjG calm z.1 z.2 (by simp[hi]) q⟩
 | false=>exact⟨fun _ _ _ z k=>⟨z.1.at fun o e=>k j (by simp) o e,z.2.at fun o e=>k l (by simp) o e⟩,fun i s Q E hi z q=>wpAny_nextOf_list_item z.1 z.2 (x:=its[i]) (by simp[hi]) fun h2 z2 sb=>q _ h2 s.toks (by simp[hi]) ⟨z2,z.2.extBut sb.extBut ne⟩ sb,fun i s Q E hi z q=>wpAny_nextOf_list_end calm z.1 z.2 (by simp[hi]) q⟩
theorem nb1{I l c:Nat}(b:l<I)(h:c∈[I,l])(j:Nat):c≠I+(j+1):=by
 have h':c=I\/c=l:=by simpa using h
 omega
theorem nb2{I l c:Nat}(b:l<I)(h:c∈[I+1,l]):c≠I/\c≠I+3/\c≠I+4:=by
 have h':c=I+1\/c=l:=by simpa using h
 omega
theorem nij{I i j:Nat}(h:i≠j):I+i≠I+j:=by omega
theorem ni0{I i:Nat}(h:i≠0):I+i≠I:=by omega
section
variable {prog:Program} {w:World} {A:Around} {E:Value->Shared->Prop} {s:Shared}
theorem ZkQ{I l1 l2 n1 n2 k:Nat}{P1 P2:Nat->Value->Prop}{S1 S2:Nat->Heap->Prop}{a b:Value}{Q:Value->Shared->Prop}(b1:l1<I)(b2:l2<I)(D1:Dw prog w A I [I,l1] n1 P1 S1)(D2:Dw prog w A (I+1) [I+1,l2] n2 P2 S2)
  (hz:IsZip s.heap (I+4) (I+2) (I+3) .none) (hI:IsPair s.heap (I+2) (.ref I) (.ref (I+1))) (hO:IsPair s.heap (I+3) a b) (g1:S1 k s.heap) (g2:S2 k s.heap) (k1:k<n1) (k2:k<n2)
  (go:∀ x y h2 tk,P1 k x->P2 k y->IsZip h2 (I+4) (I+2) (I+3) (rawInt s.heap.objs.size)->IsPair h2 (I+3) x y->S1 (k+1) h2->S2 (k+1) h2->IsPair h2 s.heap.objs.size x y ->
   (∀ c o,c∉[I,I+1,I+3,I+4]->s.heap.get? c=some o->h2.get? c=some o)->Q (.ref s.heap.objs.size) { s with heap:=h2,toks:=tk }) :
  wpAny (model prog w) A (Builtin.«zip.__next__» ⟨[.ref (I+4)],[]⟩) (fun fin s'=>∃ v,fin=.done (.ret v)/\Q v s') E s:=by
 refine wpAny_bind (m:=field (.ref (I+4)) 2) (wpAny_field hz rfl (x:=.bool false) rfl ?_)
 refine wpAny_bind (m:=field (.ref (I+4)) 3) (wpAny_field hz rfl (x:=.ref (I+2)) rfl (wpAny_bind (wpAny_seqItems hI rfl ?_)))
 refine wpAny_bind (m:=Builtin.SmallTypes.ownedTupleIsFree (.ref (I+4))) ?_
 simp only[Builtin.SmallTypes.ownedTupleIsFree]
 refine wpAny_bind (wpAny_field hz rfl (x:=.none) rfl (wpAny_pure ?_))
 rw[if_pos rfl]
 refine wpAny_bind (wpAny_rule (wpAny_bind (wpAny_field hz rfl (x:=.ref (I+3)) rfl (wpAny_bind (wpAny_setField_rec hz (by simp) fun p1 z1 e1=>wpAny_bind ?_)))))
 have z1':IsZip p1 (I+4) (I+2) (I+3) .ellipsis:=z1
 simp only[List.zipIdx_cons,List.zipIdx_nil,List.forIn_cons,List.forIn_nil]
 refine wpAny_bind (wpAny_bind (wpAny_onRaise (wpAny_bind (m:=Builtin.SmallTypes.nextOf (.ref I)) (D1.item k _ _ _ k1 (D1.frame _ _ _ g1 fun c hc o q=>e1.extBut c o (nb1 b1 hc 3) q) fun x p2 t2 px s2 e2=>wpAny_pure ?_))))
 have o2:IsPair p2 (I+3) a b:=e2.extBut _ _ (ni0 (by decide)) (e1.extBut _ _ (nij (by decide)) hO)
 refine wpAny_bind (wpAny_seqItems o2 rfl (wpAny_bind (wpAny_updateSeq_pair o2 fun p3 o3 e3=>wpAny_bind (wpAny_letGo (wpAny_pure ?_)))))
 have o3':IsPair p3 (I+3) x b:=o3
 have g2':S2 k p3:=D2.frame _ _ _ g2 fun c hc o q=>e3.extBut c o (nb2 b2 hc).2.1 (e2.extBut c o (nb2 b2 hc).1 (e1.extBut c o (nb2 b2 hc).2.2 q))
 refine wpAny_bind (wpAny_bind (wpAny_onRaise (wpAny_bind (m:=Builtin.SmallTypes.nextOf (.ref (I+1))) (D2.item k _ _ _ k2 g2' fun y p4 t4 py s4 e4=>wpAny_pure ?_))))
 have o4:IsPair p4 (I+3) x b:=e4.extBut _ _ (nij (by decide)) o3'
 refine wpAny_bind (wpAny_seqItems o4 rfl (wpAny_bind (wpAny_updateSeq_pair o4 fun p5 o5 e5=>wpAny_bind (wpAny_letGo (wpAny_pure (wpAny_pure ?_))))))
 have o5':IsPair p5 (I+3) x y:=o5
 have sz:p5.objs.size=s.heap.objs.size:=by rw[e5.1,e4.1,e3.1,e2.1,e1.1]
 have z5:IsZip p5 (I+4) (I+2) (I+3) .ellipsis:=e5.extBut _ _ (nij (by decide)) (e4.extBut _ _ (nij (by decide)) (e3.extBut _ _ (nij (by decide)) (e2.extBut _ _ (ni0 (by decide)) z1')))
 refine wpAny_bind (wpAny_seqItems o5' rfl (wpAny_bind (wpAny_newTuple ?_)))
 refine wpAny_bind (m:=Builtin.SmallTypes.ownedTupleHandOut (.ref (I+4)) (.ref p5.objs.size)) ?_
 simp only[Builtin.SmallTypes.ownedTupleHandOut]
 have z6:IsZip (p5.push { cls:=.type "tuple", data:=.seq #[x,y] }) (I+4) (I+2) (I+3) .ellipsis:=Heap.get?_push_of_some _ z5
 refine wpAny_bind (wpAny_setField_rec z6 (by simp) fun p7 z7 e7=>?_)
 have z7':IsZip p7 (I+4) (I+2) (I+3) (rawInt p5.objs.size):=z7
 refine wpAny_setField_rec z7' (by simp) fun p8 z8 e8=>wpAny_pure ⟨_,rfl,?_⟩
 have z8':IsZip p8 (I+4) (I+2) (I+3) (rawInt p5.objs.size):=z8
 have lt5:I+4<p5.objs.size:=Heap.lt_size z5
 have up:∀ c o,c≠I+4->p5.get? c=some o->p8.get? c=some o:=fun c o nc q=>e8.extBut _ _ nc (e7.extBut _ _ nc (Heap.get?_push_of_some _ q))
 have t8:IsPair p8 p5.objs.size x y:=e8.extBut _ _ (Nat.ne_of_gt lt5) (e7.extBut _ _ (Nat.ne_of_gt lt5) (Heap.get?_push_size _ rfl))
 have a1:S1 (k+1) p8:=D1.frame _ _ _ s2 fun c hc o q=>up c o (nb1 b1 hc 3) (e5.extBut c o (nb1 b1 hc 2) (e4.extBut c o (nb1 b1 hc 0) (e3.extBut c o (nb1 b1 hc 2) q)))
 have a2:S2 (k+1) p8:=D2.frame _ _ _ s4 fun c hc o q=>up c o (nb2 b2 hc).2.2 (e5.extBut c o (nb2 b2 hc).2.1 q)
 have kp:∀ c o,c∉[I,I+1,I+3,I+4]->s.heap.get? c=some o->p8.get? c=some o:=fun c o nc q=>by
  simp only[List.mem_cons,List.not_mem_nil,or_false,not_or] at nc
  exact up c o nc.2.2.2 (e5.extBut c o nc.2.2.1 (e4.extBut c o nc.2.1 (e3.extBut c o nc.2.2.1 (e2.extBut c o nc.1 (e1.extBut c o nc.2.2.2 q)))))
 have q:=go x y p8 t4 px py (by rw[<- sz];exact z8') (up _ _ (nij (by decide)) o5') a1 a2 (by rw[<- sz];exact t8) kp
 rw[<- sz] at q
 exact q
theorem ZmN{I l1 l2 n1 n2 k:Nat}{P1 P2:Nat->Value->Prop}{S1 S2:Nat->Heap->Prop}{a b:Value}{Q:Fin->Shared->Prop}(b1:l1<I)(b2:l2<I)(D1:Dw prog w A I [I,l1] n1 P1 S1)(D2:Dw prog w A (I+1) [I+1,l2] n2 P2 S2)
  (hz:IsZip s.heap (I+4) (I+2) (I+3) .none) (hI:IsPair s.heap (I+2) (.ref I) (.ref (I+1))) (hO:IsPair s.heap (I+3) a b) (g1:S1 k s.heap) (g2:S2 k s.heap) (hk:n1<=k\/(k<n1/\n2<=k))
  (up:∀ h2 e tk,(∀ c o,c∉[I,I+1,I+3,I+4]->s.heap.get? c=some o->h2.get? c=some o)->(∃ o,h2.get? e=some o/\o.cls=.type "StopIteration")->E (.ref e) { s with heap:=h2,toks:=tk }) :
  wpAny (model prog w) A (Builtin.«zip.__next__» ⟨[.ref (I+4)],[]⟩) Q E s:=by
 refine wpAny_bind (m:=field (.ref (I+4)) 2) (wpAny_field hz rfl (x:=.bool false) rfl ?_)
 refine wpAny_bind (m:=field (.ref (I+4)) 3) (wpAny_field hz rfl (x:=.ref (I+2)) rfl (wpAny_bind (wpAny_seqItems hI rfl ?_)))
 refine wpAny_bind (m:=Builtin.SmallTypes.ownedTupleIsFree (.ref (I+4))) ?_
 simp only[Builtin.SmallTypes.ownedTupleIsFree]
 refine wpAny_bind (wpAny_field hz rfl (x:=.none) rfl (wpAny_pure ?_))
 rw[if_pos rfl]
 refine wpAny_bind (wpAny_rule (wpAny_bind (wpAny_field hz rfl (x:=.ref (I+3)) rfl (wpAny_bind (wpAny_setField_rec hz (by simp) fun p1 z1 e1=>wpAny_bind ?_)))))
 have z1':IsZip p1 (I+4) (I+2) (I+3) .ellipsis:=z1
 simp only[List.zipIdx_cons,List.zipIdx_nil,List.forIn_cons,List.forIn_nil]
 have g1':S1 k p1:=D1.frame _ _ _ g1 fun c hc o q=>e1.extBut c o (nb1 b1 hc 3) q
 rcases hk with k1|⟨k1,k2⟩
 ·refine wpAny_bind (wpAny_bind (wpAny_onRaise (wpAny_bind (m:=Builtin.SmallTypes.nextOf (.ref I)) (D1.done _ _ _ _ k1 g1' fun p2 e e2 he=>?_))))
  obtain⟨oe,hoe,hce⟩:=he
  have z2:IsZip p2 (I+4) (I+2) (I+3) .ellipsis:=e2 _ _ (ni0 (by decide)) z1'
  have ne:e≠I+4:=fun x=>by subst x;rw[z2] at hoe;cases hoe;simp at hce
  refine wpAny_setField_rec z2 (by simp) fun p3 _ e3=>up p3 e s.toks (fun c o nc q=>?_) ⟨oe,e3.extBut _ _ ne hoe,hce⟩
  simp only[List.mem_cons,List.not_mem_nil,or_false,not_or] at nc
  exact e3.extBut c o nc.2.2.2 (e2 c o nc.1 (e1.extBut c o nc.2.2.2 q))
 ·refine wpAny_bind (wpAny_bind (wpAny_onRaise (wpAny_bind (m:=Builtin.SmallTypes.nextOf (.ref I)) (D1.item k _ _ _ k1 g1' fun x p2 t2 px s2 e2=>wpAny_pure ?_))))
  have o2:IsPair p2 (I+3) a b:=e2.extBut _ _ (ni0 (by decide)) (e1.extBut _ _ (nij (by decide)) hO)
  refine wpAny_bind (wpAny_seqItems o2 rfl (wpAny_bind (wpAny_updateSeq_pair o2 fun p3 o3 e3=>wpAny_bind (wpAny_letGo (wpAny_pure ?_)))))
  have g2':S2 k p3:=D2.frame _ _ _ g2 fun c hc o q=>e3.extBut c o (nb2 b2 hc).2.1 (e2.extBut c o (nb2 b2 hc).1 (e1.extBut c o (nb2 b2 hc).2.2 q))
  refine wpAny_bind (wpAny_bind (wpAny_onRaise (wpAny_bind (m:=Builtin.SmallTypes.nextOf (.ref (I+1))) (D2.done _ _ _ _ k2 g2' fun p4 e e4 he=>?_))))
  obtain⟨oe,hoe,hce⟩:=he
  have z4:IsZip p4 (I+4) (I+2) (I+3) .ellipsis:=e4 _ _ (nij (by decide)) (e3.extBut _ _ (nij (by decide)) (e2.extBut _ _ (ni0 (by decide)) z1'))
  have ne:e≠I+4:=fun x=>by subst x;rw[z4] at hoe;cases hoe;simp at hce
  refine wpAny_setField_rec z4 (by simp) fun p5 _ e5=>up p5 e t2 (fun c o nc q=>?_) ⟨oe,e5.extBut _ _ ne hoe,hce⟩
  simp only[List.mem_cons,List.not_mem_nil,or_false,not_or] at nc
  exact e5.extBut c o nc.2.2.2 (e4 c o nc.2.1 (e3.extBut c o nc.2.2.1 (e2.extBut c o nc.1 (e1.extBut c o nc.2.2.2 q))))
end
def SqX(t:Bool)(K:PySem.W.Frag)(H:Hp)(a:Addr)(xs:List V):Prop:=match t with
  | true=>SqT K H a xs
  | false=>SqL K H a xs
theorem Zcy{X:Cx}{pins:List (Addr×Obj)}{σ:L2.St}{H:Hp}{s:Shared}{t:Bool}{a:Addr}{xs:List V}(I:Inv X pins σ H s)(h:SqX t X.K H a xs):∃ its:List Value,ZaP xs its/\ZbQ t s.heap a its.toArray/\xs.length<=sizeLine:=by
 cases t with
 | true =>
  obtain⟨its,rv,p,z⟩:=I.tuple h
  exact⟨its,rv,p,z⟩
 | false =>
  obtain⟨its,rv,p,z⟩:=I.list h
  exact⟨its,rv,p.isList,z⟩
theorem ZdL{X:Cx}{pins:List (Addr×Obj)}{σ:L2.St}{H:Hp}{s:Shared}{t:Bool}{a:Addr}{xs ys:List V}(I:Inv X pins σ H s)(h:SqX t X.K H a xs)(h2:SqX t X.K H a ys):xs=ys:=by
 cases t with
 | true=>exact I.tuple_inj h h2
 | false=>exact I.list_inj h h2
noncomputable def Itz(K:PySem.W.Frag)(t1 t2:Bool)(a b:Addr):It :=
  ⟨fun i H=>∃ xs ys x y,SqX t1 K H a xs/\SqX t2 K H b ys/\xs[i]?=some x/\ys[i]?=some y,
   fun i H v H'=>∃ p x y,H p=none/\v=.ref p/\(∀ xs,SqX t1 K H a xs->xs[i]?=some x)/\(∀ ys,SqX t2 K H b ys->ys[i]?=some y)/\H'=upd H p (.tup [x,y]),
   fun i H=>∃ xs ys,SqX t1 K H a xs/\SqX t2 K H b ys/\(xs.length<=i\/(i<xs.length/\ys.length<=i))⟩
theorem Inv.turnedL{X:Cx}{pins:List (Addr×Obj)}{σ:L2.St}{H:Hp}{s:Shared}{h':Heap}{t':Nat}(ch:List Addr)(I:Inv X pins σ H s)(k:∀ b o,b∉ch->s.heap.get? b=some o->h'.get? b=some o)(hf:∀ b∈ch,ZiF X pins H b):Inv X pins σ H { s with heap:=h',toks:=t' }:=by
 have nit:∀ b u,H b=some u->b∉ch:=fun b u e z=>by rw[(hf b z).1] at e;cases e
 refine I.step (g':=s.gens) (d':=s.drawn) (ch:=ch) (fun b hb=>⟨(hf b hb).2.2.2.1,(hf b hb).2.1,(hf b hb).2.2.2.2.1,(hf b hb).2.2.2.2.2⟩) (fun b o _ _ hc e _=>k b o hc e) (fun b o _ _ hc e _=>⟨o.slots,k b o hc e⟩) (fun _ _ _ _ n=>n)
  (fun b o hc e=>⟨o,k b o hc e⟩) (fun _ _ e=>e) (fun _ _ _ e=>e) (fun b ps e=>⟨#[],by rw[e];simp⟩) (fun m ⟨o,es,ep,ho,r⟩=>⟨o,es,ep,k _ o (fun z=>(hf _ z).2.1 rfl) ho,r⟩) (fun b u e=>(I.hok b u e).stay (fun c v hc q=>k c v ?_ q) (fun _ q=>q) fun _ _ q=>q) I.bare
 rcases hc with z|z
 ·rw[z];exact nit b u e
 ·exact nit c _ z
def zTn(t1 t2:Bool)(I l1 l2:Nat)(i:Nat)(h:Heap):Prop:=IsZip h (I+4) (I+2) (I+3) .none/\IsPair h (I+2) (.ref I) (.ref (I+1))/\(∃ a b,IsPair h (I+3) a b)/\Ze4 t1 h I l1 i/\Ze4 t2 h (I+1) l2 i
noncomputable def zFp(I:Nat):List Addr:=[I,I+1,I+2,I+3,I+4]
theorem Ze4.obj{t:Bool}{h:Heap}{j l:Addr}{i:Nat}(z:Ze4 t h j l i):∃ o,h.get? j=some o/\∀ v,o.data≠.cell v:=by
 cases t with
 | true=>obtain⟨o,e,c,d⟩:=z;exact⟨o,e,fun v z=>by rw[d] at z;cases z⟩
 | false=>obtain⟨o,e,c,d⟩:=z;exact⟨o,e,fun v z=>by rw[d] at z;cases z⟩
theorem Ze4.at'{t:Bool}{h h2:Heap}{j l:Addr}{i:Nat}(z:Ze4 t h j l i)(k:∀ o,h.get? j=some o->h2.get? j=some o):Ze4 t h2 j l i:=by
 cases t with
 | true=>exact PySem.Heap.IsTupleIter.at z k
 | false=>exact PySem.Heap.IsListIter.at z k
theorem ZkZ{P:Program}{w:World}{K:PySem.W.Frag}{es:List Expr}{n:Nat}{pos:Pos}(t1 t2:Bool)(I l1 l2:Nat)(b1:l1<I)(b2:l2<I):Turn P w K (.Tuple es n pos) (Itz K t1 t2 l1 l2) (zFp I) (I+4) (zTn t1 t2 I l1 l2) where
  mem:=by simp[zFp]
  obj:=fun i h ⟨z1,z2,⟨a,b,z3⟩,z4,z5⟩ c hc=>by
    simp only[zFp,List.mem_cons,List.not_mem_nil,or_false] at hc
    rcases hc with rfl|rfl|rfl|rfl|rfl
    · exact z4.obj
    · exact z5.obj
    · exact⟨_,z2,fun v z=>by cases z⟩
    · exact⟨_,z3,fun v z=>by cases z⟩
    · exact⟨_,z1,fun v z=>by cases z⟩
  keep:=fun i h h2 ⟨z1,z2,⟨a,b,z3⟩,z4,z5⟩ k=>⟨k _ (by simp[zFp]) _ z1,k _ (by simp[zFp]) _ z2,⟨a,b,k _ (by simp[zFp]) _ z3⟩,z4.at' fun o e=>k _ (by simp[zFp]) o e,z5.at' fun o e=>k _ (by simp[zFp]) o e⟩
  item:=by
    intro X hP hw hK hc i pins s σ H E Iv hf ⟨z1,z2,⟨a,b,z3⟩,z4,z5⟩ ⟨xs,ys,x,y,q1,q2,hx,hy⟩
    subst hP hw hK
    obtain⟨us,rx,sx,_⟩:=Zcy Iv q1
    obtain⟨vs,ry,sy,_⟩:=Zcy Iv q2
    obtain⟨u,hu,ru⟩:=rx.get hx
    obtain⟨v,hv,rv⟩:=ry.get hy
    have hT:s.TypeIs (.ref (I+4)) "zip" := ⟨_,z1,rfl⟩
    have calm:X.A.in1.handled=none:=Iv.ok.hd hc
    show wpAny _ _ (pyNext _) _ _ _
    simp only[pyNext]
    refine wpAny_bind (wpAny_attempt (wpAny_callSpecial?_slot hT F.slot_zip_next (wpAny_call_entry F.slot_zip_next hT F.entry_zip_next (ZkQ (k:=i) b1 b2 (Ze3 calm t1 I l1 (Nat.ne_of_lt b1) us.toArray) (Ze3 calm t2 (I+1) l2 (Nat.ne_of_lt (Nat.lt_succ_of_lt b2)) vs.toArray) z1 z2 z3 ⟨z4,sx⟩ ⟨z5,sy⟩
      (by have:=(List.getElem?_eq_some_iff.mp hu).1;simpa using this) (by have:=(List.getElem?_eq_some_iff.mp hv).1;simpa using this) fun x' y' h2 tk px py c1 c2 c3 c4 c5 kp=>wpAny_pure ?_) (F.args_zip_next_1 _))))
    have ex:x'=u:=by
      have px':us[i]?=some x':=by simpa using px
      rw[hu] at px';exact(Option.some.inj px').symm
    have ey:y'=v:=by
      have py':vs[i]?=some y':=by simpa using py
      rw[hv] at py';exact(Option.some.inj py').symm
    subst ex ey
    refine⟨_,rfl,wpAny_letOwnedTupleGo_zip c1 fun h3 d1 sb=>?_⟩
    have lt4:I+4<s.heap.objs.size:=Heap.lt_size z1
    have kp3:∀ c o,c∉zFp I->s.heap.get? c=some o->h3.get? c=some o:=fun c o nc q=>by
      simp only[zFp,List.mem_cons,List.not_mem_nil,or_false,not_or] at nc
      exact sb.extBut c o nc.2.2.2.2 (kp c o (by simp only[List.mem_cons,List.not_mem_nil,or_false,not_or];exact⟨nc.1,nc.2.1,nc.2.2.2.1,nc.2.2.2.2⟩) q)
    have nT:∀ c∈zFp I,c≠s.heap.objs.size:=fun c hc z=>by
      have:c<=I+4:=by
        simp only[zFp,List.mem_cons,List.not_mem_nil,or_false] at hc
        rcases hc with z|z|z|z|z<;>rw[z]<;>simp
      exact absurd (z ▸ Nat.lt_of_le_of_lt this lt4) (Nat.lt_irrefl _)
    have I1:Inv X pins σ (upd H s.heap.objs.size (.tup [x,y])) { s with heap:=s.heap.push { cls:=.type "tuple", data:=.seq #[x',y'] },toks:=s.toks } :=
      Iv.laid (fun _ _ q=>Heap.get?_push_of_some _ q) (Nat.le_refl _) ⟨(by decide:2<=sizeLine),[x',y'],.cons ru (.cons rv .nil),⟨_,Heap.get?_push_size _ rfl,rfl,_,rfl⟩⟩
    have hf':∀ b∈zFp I,ZiF X pins (upd H s.heap.objs.size (.tup [x,y])) b:=fun b hb=>⟨by rw[Zaz (nT b hb)];exact(hf b hb).1,(hf b hb).2⟩
    have I2:Inv X pins σ (upd H s.heap.objs.size (.tup [x,y])) { s with heap:=h3,toks:=tk }:=Inv.turnedL (s:={ s with heap:=s.heap.push { cls:=.type "tuple", data:=.seq #[x',y'] },toks:=s.toks }) (zFp I) I1 (fun c o nc q=>by
      rcases Heap.get?_push_cases q with ⟨e1,e2⟩|e1
      · subst e1 e2
        exact sb.extBut _ _ (Nat.ne_of_gt lt4) c5
      · exact kp3 c o nc e1) hf'
    refine⟨.ref s.heap.objs.size,_,I2,rfl,⟨s.heap.objs.size,x,y,Iv.fresh,rfl,fun zs hz=>by rw[ZdL Iv hz q1];exact hx,fun zs hz=>by rw[ZdL Iv hz q2];exact hy,rfl⟩,⟨d1,sb.extBut _ _ (nij (by decide)) (kp _ _ (by simp) z2),⟨_,_,sb.extBut _ _ (nij (by decide)) c2⟩,c3.1.at' fun o q=>sb.extBut _ o (Ne.symm (ni0 (by decide))) q,c4.1.at' fun o q=>sb.extBut _ o (nij (by decide)) q⟩,fun b hb=>(hf' b hb).1⟩
  done:=by
    intro X hP hw hK hc i pins s σ H E Iv hf ⟨z1,z2,⟨a,b,z3⟩,z4,z5⟩ ⟨xs,ys,q1,q2,hk⟩
    subst hP hw hK
    obtain⟨us,rx,sx,_⟩:=Zcy Iv q1
    obtain⟨vs,ry,sy,_⟩:=Zcy Iv q2
    have hT:s.TypeIs (.ref (I+4)) "zip" := ⟨_,z1,rfl⟩
    have calm:X.A.in1.handled=none:=Iv.ok.hd hc
    have e1:=rx.length
    have e2:=ry.length
    simp only[pyNext]
    refine wpAny_bind (wpAny_attempt (wpAny_callSpecial?_slot hT F.slot_zip_next (wpAny_call_entry F.slot_zip_next hT F.entry_zip_next (ZmN (k:=i) b1 b2 (Ze3 calm t1 I l1 (Nat.ne_of_lt b1) us.toArray) (Ze3 calm t2 (I+1) l2 (Nat.ne_of_lt (Nat.lt_succ_of_lt b2)) vs.toArray) z1 z2 z3 ⟨z4,sx⟩ ⟨z5,sy⟩
      (by simp only[List.size_toArray];omega) fun h2 e tk kp he=>?_) (F.args_zip_next_1 _))))
    obtain⟨o,ho,hcl⟩:=he
    refine wpAny_bind (wpAny_isInstance (T := "StopIteration") (b:=true) ⟨o,ho,hcl⟩ isSubtype_stop (wpAny_pure ⟨rfl,Inv.turnedL [I,I+1,I+3,I+4] Iv (fun c o nc q=>kp c o nc q) fun c hc=>hf c ?_⟩))
    simp only[List.mem_cons,List.not_mem_nil,or_false] at hc
    simp only[zFp,List.mem_cons,List.not_mem_nil,or_false]
    rcases hc with rfl|rfl|rfl|rfl<;>simp
  self:=fun _ _ _ _ _ st h=>wpAny_pyIter_zip st.1 h
section
variable {prog:Program} {w:World} {A:Around} {E:Value->Shared->Prop} {s:Shared}
noncomputable def itO(t:Bool)(l:Addr):Obj:=match t with
  | true=>{ cls:=.type "tuple_iterator", data:=.fields #[.ref l,.int 0 0] }
  | false=>{ cls:=.type "list_iterator", data:=.fields #[.ref l,.int 0 0] }
theorem Zga{t:Bool}{l:Addr}{its:Array Value}{Q:Value->Shared->Prop}(h:ZbQ t s.heap l its)(q:Q (.ref s.heap.objs.size) { s with heap:=s.heap.push (itO t l) }):wpAny (model prog w) A (pyIter (.ref l)) Q E s:=by
 cases t with
 | true=>exact wpAny_pyIter_tuple h q
 | false=>exact wpAny_pyIter_list h q
theorem ZbQ.push{t:Bool}{l:Addr}{its:Array Value}{h:Heap}(z:ZbQ t h l its)(o:Obj):ZbQ t (h.push o) l its:=by
 cases t with
 | true=>exact PySem.Heap.IsTuple.at z fun _ e=>Heap.get?_push_of_some _ e
 | false=>exact PySem.Heap.IsList.at z fun _ e=>Heap.get?_push_of_some _ e
theorem Zfe{t:Bool}{l j:Addr}{h:Heap}(e:h.get? j=some (itO t l)):Ze4 t h j l 0:=by
 cases t with
 | true=>exact⟨_,e,rfl,rfl⟩
 | false=>exact⟨_,e,rfl,rfl⟩
theorem Zc4(t:Bool)(l:Addr):(itO t l).isFreed=false:=by cases t<;>rfl
noncomputable abbrev zh2(t1 t2:Bool)(h:Heap)(l1 l2:Addr):Heap:=(h.push (itO t1 l1)).push (itO t2 l2)
noncomputable abbrev zh3(t1 t2:Bool)(h:Heap)(l1 l2:Addr):Heap:=(zh2 t1 t2 h l1 l2).push { cls:=.type "tuple", data:=.seq #[.ref h.objs.size,.ref (h.push (itO t1 l1)).objs.size] }
noncomputable abbrev zh4(t1 t2:Bool)(h:Heap)(l1 l2:Addr):Heap:=(zh3 t1 t2 h l1 l2).push { cls:=.type "tuple", data:=.seq #[.none,.none] }
noncomputable abbrev zh5(t1 t2:Bool)(h:Heap)(l1 l2:Addr):Heap:=(zh4 t1 t2 h l1 l2).push { cls:=.type "zip", data:=.fields #[.none,.bool false,.bool false,.ref (zh2 t1 t2 h l1 l2).objs.size,.ref (zh3 t1 t2 h l1 l2).objs.size] }
theorem ZmM(t1 t2:Bool)(l1 l2:Addr)(xs ys:Array Value):Meets (Builtin.«zip.__new__» ⟨[.type "zip", .ref l1,.ref l2],[]⟩) (fun _ R s=>ZbQ t1 s.heap l1 xs/\ZbQ t2 s.heap l2 ys/\R (.ok (.ret (.ref (zh4 t1 t2 s.heap l1 l2).objs.size))) { s with heap:=zh5 t1 t2 s.heap l1 l2 }) :=
 .of_wp fun prog w A R s h=>by
  obtain⟨hp,g,d,tk,os⟩:=s
  obtain⟨a1,a2,q⟩:=h
  have hsub:=sub_zip
  have L1:ZbQ t1 (Shared.heap ⟨hp,g,d,tk,os⟩) l1 xs:=a1
  have L2:ZbQ t2 (Shared.heap ⟨hp.push (itO t1 l1),g,d,tk,os⟩) l2 ys:=a2.push _
  wp_walk using Zga L1,Zga L2
  exact⟨_,rfl,q⟩
theorem ZkR{t1 t2:Bool}{l1 l2:Addr}{xs ys:Array Value}{Q:Value->Shared->Prop}(a1:ZbQ t1 s.heap l1 xs)(a2:ZbQ t2 s.heap l2 ys)
  (q:∀ h2,zTn t1 t2 s.heap.objs.size l1 l2 0 h2->(∀ c o,s.heap.get? c=some o->h2.get? c=some o)->Q (.ref (s.heap.objs.size+4)) { s with heap:=h2 }):wpAny (model prog w) A (call (.type "zip") [.ref l1,.ref l2]) Q E s:=by
 refine callType_new F.called_zip (by decide) (F.typeCall_zip_2 _ _) (F.newCall_zip_2 _ _) (fun obj=>F.args_object_init_3 obj _ _) F.entry_zip_new (ZmM t1 t2 l1 l2 xs ys) ⟨a1,a2,?_⟩
 have s1:(s.heap.push (itO t1 l1)).objs.size=s.heap.objs.size+1:=Heap.size_push ..
 have s2:(zh2 t1 t2 s.heap l1 l2).objs.size=s.heap.objs.size+2:=by rw[Heap.size_push,s1]
 have s3:(zh3 t1 t2 s.heap l1 l2).objs.size=s.heap.objs.size+3:=by rw[Heap.size_push,s2]
 have s4:(zh4 t1 t2 s.heap l1 l2).objs.size=s.heap.objs.size+4:=by rw[Heap.size_push,s3]
 have u5:∀ {c o},(zh4 t1 t2 s.heap l1 l2).get? c=some o->(zh5 t1 t2 s.heap l1 l2).get? c=some o:=fun e=>Heap.get?_push_of_some _ e
 have u4:∀ {c o},(zh3 t1 t2 s.heap l1 l2).get? c=some o->(zh5 t1 t2 s.heap l1 l2).get? c=some o:=fun e=>u5 (Heap.get?_push_of_some _ e)
 have u3:∀ {c o},(zh2 t1 t2 s.heap l1 l2).get? c=some o->(zh5 t1 t2 s.heap l1 l2).get? c=some o:=fun e=>u4 (Heap.get?_push_of_some _ e)
 have u2:∀ {c o},(s.heap.push (itO t1 l1)).get? c=some o->(zh5 t1 t2 s.heap l1 l2).get? c=some o:=fun e=>u3 (Heap.get?_push_of_some _ e)
 have g5:(zh5 t1 t2 s.heap l1 l2).get? (zh4 t1 t2 s.heap l1 l2).objs.size=some _:=Heap.get?_push_size _ rfl
 have g4:(zh5 t1 t2 s.heap l1 l2).get? (zh3 t1 t2 s.heap l1 l2).objs.size=some _:=u5 (Heap.get?_push_size _ rfl)
 have g3:(zh5 t1 t2 s.heap l1 l2).get? (zh2 t1 t2 s.heap l1 l2).objs.size=some _:=u4 (Heap.get?_push_size _ rfl)
 have g2:(zh5 t1 t2 s.heap l1 l2).get? (s.heap.push (itO t1 l1)).objs.size=some _:=u3 (Heap.get?_push_size _ (Zc4 _ _))
 have g1:(zh5 t1 t2 s.heap l1 l2).get? s.heap.objs.size=some _:=u2 (Heap.get?_push_size _ (Zc4 _ _))
 show _/\_
 rw[s2,s3,s4] at g5
 rw[s3] at g4
 rw[s1,s2] at g3
 rw[s1] at g2
 rw[s4]
 exact⟨⟨_,g5,rfl⟩,q _ ⟨g5,g3,⟨_,_,g4⟩,Zfe g1,Zfe g2⟩ fun c o e=>u2 (Heap.get?_push_of_some _ e)⟩
end
noncomputable def ZzN(K:PySem.W.Frag)(ta:TA):TI:=fun σ H R=>ta σ H fun vs H1=>∃ t1 t2 a b xs ys,vs=[.ref a,.ref b]/\SqX t1 K H1 a xs/\SqX t2 K H1 b ys/\(xs.length<=sizeLine->R (Itz K t1 t2 a b) H1)
theorem ZbQ.lt{t:Bool}{h:Heap}{a:Addr}{its:Array Value}(z:ZbQ t h a its):a<h.objs.size:=by
 cases t with
 | true=>obtain⟨o,e,_⟩:=z;exact Heap.lt_size e
 | false=>obtain⟨o,e,_⟩:=z;exact Heap.lt_size e
theorem Zq6{X:Cx}{a b:Expr}{ta:TA}{p pos:Pos}{es:List Expr}{n:Nat}{tpos:Pos}(hg:Gl X "zip")(hm:X.mg "zip" = none)(ha:PA X [a,b] ta)(hs:starEach [a,b] X.env=[(false,eval a X.env),(false,eval b X.env)])(hs2:starEach [b] X.env=[(false,eval b X.env)]) :
  PI X (.Tuple es n tpos) (.Call (.Name "zip" p) [a,b] [] pos) (ZzN X.K ta):=by
 intro pins s σ H R I h
 refine Call_ (Zds I hg hm PyProof.Rows.boot_zip (PyProof.Rows.callWith_type1 (thn (ha pos pins s σ H _ I h) fun us s1 ⟨vs,H1,I1,r1,q1⟩=>?_) (by rw[hs,hs2]) (by rw[hs2];rfl)))
 obtain⟨t1,t2,c,d,xs,ys,e,sx,sy,q⟩:=q1
 subst e
 cases r1 with
 | cons r rr =>
  cases rr with
  | cons r' rr =>
   cases rr
   cases r
   cases r'
   obtain⟨us,ru,iu,zu⟩:=Zcy I1 sx
   obtain⟨vs,rv,iv,_⟩:=Zcy I1 sy
   refine ZkR iu iv fun h2 z kp=>wpAny_pyIter_zip z.1 ?_
   refine⟨s1.heap.objs.size+4,zFp s1.heap.objs.size,_,_,H1,rfl,I1.kept (t':=s1.toks) kp,ZkZ t1 t2 s1.heap.objs.size c d iu.lt iv.lt,z,fun b hb=>?_,q zu⟩
   have hb':s1.heap.objs.size<=b:=by
    simp only[zFp,List.mem_cons,List.not_mem_nil,or_false] at hb
    rcases hb with z|z|z|z|z<;>rw[z]<;>simp
   exact I1.fpOk hb' (I1.hok.fresh hb')
theorem Zil{K:PySem.W.Frag}{CL:ClA}{H:Hp}{A:Addr->Prop}{v:V}{d:D}{ds:List D}(r:Rep K CL H A v d)(e:ZaF d=.ok ds):∃ t a xs,v=.ref a/\(∀ H2,Kp A H H2->SqX t K H2 a xs)/\Reps K CL H A xs ds:=by
 cases d with
 | lst es =>
  cases e
  obtain⟨q,xs,rfl,na,sq,r⟩:=r
  exact⟨false,q,xs,rfl,fun H2 k=>Zhu k na sq,r⟩
 | tup es =>
  cases e
  obtain⟨q,xs,rfl,na,sq,r⟩:=r
  exact⟨true,q,xs,rfl,fun H2 k=>Zht k na sq,r⟩
 | _=>cases e
theorem Zfv:∀ (xs ys:List D),(ZfT xs ys).length=min xs.length ys.length
 | [],_=>by simp[ZfT]
 | _::_,[]=>by simp[ZfT]
 | x::xs,y::ys=>by
  rw[ZfT,List.length_cons,Zfv xs ys]
  simp only[List.length_cons]
  omega
theorem Zhh:∀ (xs ys:List D) (i:Nat) (d:D),(ZfT xs ys)[i]?=some d->∃ x y,xs[i]?=some x/\ys[i]?=some y/\d=.tup [x,y]
 | [],_,i,d,h=>by simp[ZfT] at h
 | _::_,[],i,d,h=>by simp[ZfT] at h
 | x::xs,y::ys,0,d,h=>by
  rw[ZfT] at h
  simp only[List.getElem?_cons_zero,Option.some.injEq] at h
  exact⟨x,y,rfl,rfl,h.symm⟩
 | x::xs,y::ys,i+1,d,h=>by
  rw[ZfT] at h
  simp only[List.getElem?_cons_succ] at h ⊢
  exact Zhh xs ys i d h
theorem ZkV{K:PySem.W.Frag}{CL:ClA}{A:Addr->Prop}{H1:Hp}{t1 t2:Bool}{a b:Addr}{xs ys:List V}{ds es:List D}(s1:∀ H2,Kp A H1 H2->SqX t1 K H2 a xs)(s2:∀ H2,Kp A H1 H2->SqX t2 K H2 b ys)(r1:Reps K CL H1 A xs ds)(r2:Reps K CL H1 A ys es)
  : ZlP K CL A (ZfT ds es) (Itz K t1 t2 a b) H1:=fun H k i=>by
 refine⟨fun hi=>⟨xs,ys,s1 H k,s2 H k,?_⟩,fun d hd=>?_⟩
 ·rw[Zfv] at hi
  rw[r1.length,r2.length]
  omega
 ·obtain⟨x,y,hx,hy,rfl⟩:=Zhh _ _ _ _ hd
  obtain⟨u,hu,ru⟩:=r1.get hx
  obtain⟨v,hv,rv⟩:=r2.get hy
  refine⟨⟨xs,ys,u,v,s1 H k,s2 H k,hu,hv⟩,?_⟩
  rintro w' H' ⟨p,x',y',hp,rfl,c1,c2,rfl⟩
  have ex:x'=u:=Option.some.inj ((c1 xs (s1 H k)).symm.trans hu)
  have ey:y'=v:=Option.some.inj ((c2 ys (s2 H k)).symm.trans hv)
  subst ex ey
  have sm:=ZaL hp (.tup [x',y'])
  exact⟨sm,fun B hB aB=>ZdJ aB hp ⟨ZcO ru k hB,ZcO rv k hB,trivial⟩⟩
section
variable {X:Cx} {CL:ClA} {W:XW} {pos p:Pos} {a b:Expr} {fa fb:Rho->R D}
theorem Zqn{es:List Expr}{n:Nat}{tpos:Pos}(ha:SE X CL W a fa)(hb:SE X CL W b fb)(hg:Gl X "zip")(hm:X.mg "zip" = none)(hs:starEach [a,b] X.env=[(false,eval a X.env),(false,eval b X.env)])(hs2:starEach [b] X.env=[(false,eval b X.env)]) :
  SI X CL W (.Tuple es n tpos) (.Call (.Name "zip" p) [a,b] [] pos) (fun ρ=>(fa ρ).bind fun x=>(fb ρ).bind fun y=>(ZaF x).bind fun xs=>(ZaF y).bind fun ys=>.ok (ZfT xs ys)) :=
 fun A=>PI.weak (Zq6 hg hm (ZaD (ha A) (ZaD (hb A) Zb6 hs2) (by rw[hs,hs2])) hs hs2) fun σ H R ⟨hA,ρ,g,q⟩=>⟨hA,ρ,g,Zcw.ex q fun d v H1 _ s1 r1 p1=>⟨hA.same s1,ρ,g.same s1,Zcw.ex p1 fun d2 v2 H2 _ s2 r2 p2=>by
  cases e1:ZaF d with
  | bad=>rw[e1] at p2;exact p2.elim
  | exn z=>exact absurd e1 (by cases d<;>simp[ZaF])
  | ok ds =>
   cases e2:ZaF d2 with
   | bad=>rw[e1,e2] at p2;exact p2.elim
   | exn z=>exact absurd e2 (by cases d2<;>simp[ZaF])
   | ok es =>
    rw[e1,e2] at p2
    obtain⟨t1,c1,xs,rfl,k1,rs1⟩:=Zil (r1.same s2) e1
    obtain⟨t2,c2,ys,rfl,k2,rs2⟩:=Zil r2 e2
    refine⟨t1,t2,c1,c2,xs,ys,rfl,k1 H2 (Kp.of (Zaj.refl H2)),k2 H2 (Kp.of (Zaj.refl H2)),fun hz=>p2 _ H2 (Zaj.refl H2) (ZkV k1 k2 rs1 rs2) ?_⟩
    rw[Zfv,<- rs1.length]
    omega⟩⟩
end
end Ov
end
section
namespace Ov
open PySem PySem.Spec PyProof.Rows L2
theorem Ze4.live{t:Bool}{h:Heap}{j l i:Nat}(z:Ze4 t h j l i):∃ o,h.get? j=some o/\∀ v,o.data≠.cell v:=by
 cases t with
 | true=>obtain⟨o,e,c,d⟩:=z;exact⟨o,e,fun v z=>by rw[d] at z;cases z⟩
 | false=>obtain⟨o,e,c,d⟩:=z;exact⟨o,e,fun v z=>by rw[d] at z;cases z⟩
theorem Ze4.keep{t:Bool}{h h2:Heap}{j l i:Nat}(z:Ze4 t h j l i)(k:∀ o,h.get? j=some o->h2.get? j=some o):Ze4 t h2 j l i:=by
 cases t with
 | true=>exact PySem.Heap.IsTupleIter.at z k
 | false=>exact PySem.Heap.IsListIter.at z k
theorem Zse{prog:Program}{w:World}{A:Around}(calm:A.handled=none)(t:Bool)(j l:Addr)(ne:l≠j)(its:Array Value):Draws prog w A j [j,l] its.size (fun i v=>its[i]?=some v) (fun i h=>Ze4 t h j l i/\ZbQ t h l its) :=
 have d:=Ze3 (prog:=prog) (w:=w) calm t j l ne its
 ⟨fun i h z=>let ⟨o,e,_⟩:=z.1.live;⟨o,e⟩,d.frame,d.item,fun s Q E h q=>d.done _ s Q E (Nat.le_refl _) h q⟩
theorem ZoN{prog:Program}{w:World}{A:Around}(calm:A.handled=none)(t:Bool)(j l:Addr)(ne:l≠j)(its:Array Value)(i:Nat)(hi:its.size<=i):Draws prog w A j [j,l] i (fun _ _=>False) (fun k h=>k=i/\Ze4 t h j l i/\ZbQ t h l its) :=
 have d:=Ze3 (prog:=prog) (w:=w) calm t j l ne its
 ⟨fun _ h z=>let ⟨o,e,_⟩:=z.2.1.live;⟨o,e⟩,fun k h h' z q=>⟨z.1,d.frame i h h' z.2 q⟩,fun k s Q E lt z=>absurd z.1 (Nat.ne_of_lt lt),fun s Q E h q=>d.done i s Q E hi h.2 q⟩
noncomputable def Ite(K:PySem.W.Frag)(t:Bool)(a:Addr):It :=
 ⟨fun i H=>∃ xs x,SqX t K H a xs/\xs[i]?=some x,fun i H v H'=>∃ p x,H p=none/\v=.ref p/\(∀ xs,SqX t K H a xs->xs[i]?=some x)/\H'=upd H p (.tup [.int i,x]),fun i H=>∃ xs,SqX t K H a xs/\xs.length<=i⟩
def eTn(t:Bool)(I l:Nat)(i:Nat)(h:Heap):Prop:=(∃ old,IsEnum h (I+1) I i old)/\Ze4 t h I l i
theorem ZiX{P:Program}{w:World}{K:PySem.W.Frag}{es:List Expr}{n:Nat}{pos:Pos}(t:Bool)(I l:Nat)(b:l<I):Turn P w K (.Tuple es n pos) (Ite K t l) [I,I+1] (I+1) (eTn t I l) where
  mem:=by simp
  obj:=fun i h ⟨⟨old,z1⟩,z2⟩ c hc=>by
    simp only[List.mem_cons,List.not_mem_nil,or_false] at hc
    rcases hc with rfl|rfl
    · exact z2.live
    · exact⟨_,z1,fun v z=>by cases z⟩
  keep:=fun i h h2 ⟨⟨old,z1⟩,z2⟩ k=>⟨⟨old,k _ (by simp) _ z1⟩,z2.keep fun o e=>k _ (by simp) o e⟩
  item:=by
    intro X hP hw hK hc i pins s σ H E Iv hf ⟨⟨old,z1⟩,z2⟩ ⟨xs,x,q1,hx⟩
    subst hP hw hK
    obtain⟨us,rx,px,_⟩:=Zcy Iv q1
    obtain⟨u,hu,ru⟩:=rx.get hx
    have lu:i<us.toArray.size:=by
      have:=(List.getElem?_eq_some_iff.mp hu).1
      simpa using this
    refine wpAny_pyNext_enum_itemD (Zse (A:=X.A.in1) (Iv.ok.hd hc) t I l (Nat.ne_of_lt b) us.toArray) z1 ⟨z2,px⟩ lu (ni0 (by decide)) (by simp only[List.mem_cons,List.not_mem_nil,or_false,not_or];exact⟨ni0 (by decide),Nat.ne_of_gt (Nat.lt_of_lt_of_le b (Nat.le_add_right _ _))⟩) fun u' h2 tk hu' ho it2 hT sz kp=>⟨_,rfl,wpAny_letOwnedTupleGo_enum ho fun h3 d1 sb=>?_⟩
    have eu:u'=u:=by
      rw[List.getElem?_toArray,hu] at hu'
      exact(Option.some.inj hu').symm
    subst eu
    have lt:I+1<s.heap.objs.size:=Heap.lt_size z1
    have kp3:∀ c o,c∉[I,I+1]->s.heap.get? c=some o->h3.get? c=some o:=fun c o nc q=>by
      simp only[List.mem_cons,List.not_mem_nil,or_false,not_or] at nc
      exact sb.extBut c o nc.2 (kp c o nc.2 nc.1 q)
    have nT:∀ c∈[I,I+1],c≠s.heap.objs.size:=fun c hc z=>by
      have:c<=I+1:=by
        simp only[List.mem_cons,List.not_mem_nil,or_false] at hc
        rcases hc with z|z<;>rw[z]<;>simp
      exact absurd (z ▸ Nat.lt_of_le_of_lt this lt) (Nat.lt_irrefl _)
    have I1:Inv X pins σ (upd H s.heap.objs.size (.tup [.int i,x])) { s with heap:=s.heap.push { cls:=.type "tuple", data:=.seq #[.int i tk,u'] },toks:=s.toks } :=
      Iv.laid (fun _ _ q=>Heap.get?_push_of_some _ q) (Nat.le_refl _) ⟨(by decide:2<=sizeLine),[.int i tk,u'],.cons ⟨_,rfl⟩ (.cons ru .nil),⟨_,Heap.get?_push_size _ rfl,rfl,_,rfl⟩⟩
    have hf':∀ b∈[I,I+1],ZiF X pins (upd H s.heap.objs.size (.tup [.int i,x])) b:=fun b hb=>⟨by rw[Zaz (nT b hb)];exact(hf b hb).1,(hf b hb).2⟩
    have I2:Inv X pins σ (upd H s.heap.objs.size (.tup [.int i,x])) { s with heap:=h3,toks:=tk+1 }:=Inv.turnedL (s:={ s with heap:=s.heap.push { cls:=.type "tuple", data:=.seq #[.int i tk,u'] },toks:=s.toks }) [I,I+1] I1 (fun c o nc q=>by
      rcases Heap.get?_push_cases q with ⟨e1,e2⟩|e1
      · subst e1 e2
        exact sb.extBut _ _ (Nat.ne_of_gt lt) hT
      · exact kp3 c o nc e1) hf'
    exact⟨.ref s.heap.objs.size,_,I2,rfl,⟨s.heap.objs.size,x,Iv.fresh,rfl,fun zs hz=>by rw[ZdL Iv hz q1];exact hx,rfl⟩,⟨⟨u',by simpa using d1⟩,it2.1.keep fun o q=>sb.extBut _ o (Ne.symm (ni0 (by decide))) q⟩,fun b hb=>(hf' b hb).1⟩
  done:=by
    intro X hP hw hK hc i pins s σ H E Iv hf ⟨⟨old,z1⟩,z2⟩ ⟨xs,q1,hk⟩
    subst hP hw hK
    obtain⟨us,rx,px,_⟩:=Zcy Iv q1
    have e1:=rx.length
    have e2:us.toArray.size<=i:=by rw[List.size_toArray,<- e1];exact hk
    refine wpAny_pyNext_enum_endD (ZoN (A:=X.A.in1) (Iv.ok.hd hc) t I l (Nat.ne_of_lt b) us.toArray i e2) z1 ⟨rfl,z2,px⟩ fun h2 eb=>⟨rfl,Inv.turnedL [I] Iv (t':=s.toks) (fun c o nc q=>eb c o (fun z=>nc (by simp[z])) q) fun c hc=>hf c ?_⟩
    have:c=I:=by simpa using hc
    subst this
    simp
  self:=fun _ _ _ _ _ st h=>wpAny_pyIter_enum st.1.choose_spec h
section
variable {prog:Program} {w:World} {A:Around} {E:Value->Shared->Prop} {s:Shared}
theorem ZlE(t:Bool)(l:Addr)(xs:Array Value):Meets (Builtin.«enumerate.__new__» ⟨[.type "enumerate", .ref l],[]⟩) (fun _ R s=>ZbQ t s.heap l xs /\
   R (.ok (.ret (.ref (s.heap.push (itO t l)).objs.size))) { s with heap:=(s.heap.push (itO t l)).push { cls:=.type "enumerate", data:=.fields #[.none,.bool false,.ref s.heap.objs.size,rawInt 0,.none,.none] } }) :=
 .of_wp fun prog w A R s h=>by
  obtain⟨hp,g,d,tk,os⟩:=s;obtain⟨hl,h⟩:=h
  have hsub:=sub_enumerate
  have hL:ZbQ t (Shared.heap ⟨hp,g,d,tk,os⟩) l xs:=hl
  wp_walk
  refine wpAny_stack_any fun st=>wpAny_pure ?_
  split
  ·rename_i c _ _ _ _ _
   cases (c == Value.type "enumerate")
   ·wp_walk using Zga hL
    exact⟨_,rfl,h⟩
   ·wp_walk using Zga hL
    exact⟨_,rfl,h⟩
  ·wp_walk using Zga hL
   exact⟨_,rfl,h⟩
theorem Zkb{t:Bool}{l:Addr}{xs:Array Value}{Q:Value->Shared->Prop}(hL:ZbQ t s.heap l xs)
    (h:∀ h',IsEnum h' (s.heap.objs.size+1) s.heap.objs.size 0 .none->Ze4 t h' s.heap.objs.size l 0->(∀ b o,s.heap.get? b=some o->h'.get? b=some o)->Q (.ref (s.heap.objs.size+1)) { s with heap:=h' }) :
    wpAny (model prog w) A (call (.type "enumerate") [.ref l]) Q E s:=by
  refine callType_new F.called_enumerate (by decide) (F.typeCall_enumerate_1 _) (F.newCall_enumerate_1 _) (fun obj=>F.args_object_init_2 obj _) F.entry_enumerate_new (ZlE t l xs) ⟨hL,?_⟩
  have hz:(s.heap.push (itO t l)).objs.size=s.heap.objs.size+1:=Heap.size_push ..
  show _/\_
  rw[hz]
  have he:IsEnum ((s.heap.push (itO t l)).push { cls:=.type "enumerate", data:=.fields #[.none,.bool false,.ref s.heap.objs.size,rawInt 0,.none,.none] }) (s.heap.objs.size+1) s.heap.objs.size 0 .none:=by
    have:=Heap.get?_push_size (s.heap.push (itO t l)) (o:={ cls:=.type "enumerate", data:=.fields #[.none,.bool false,.ref s.heap.objs.size,rawInt 0,.none,.none] }) rfl
    rw[hz] at this;exact this
  exact⟨⟨_,he,rfl⟩,h _ he (Zfe (Heap.get?_push_of_some _ (Heap.get?_push_size _ (Zc4 _ _)))) fun b o x=>Heap.get?_push_of_some _ (Heap.get?_push_of_some _ x)⟩
end
noncomputable def ZzO(K:PySem.W.Frag)(ta:TA):TI:=fun σ H R=>ta σ H fun vs H1=>∃ t a xs,vs=[.ref a]/\SqX t K H1 a xs/\(xs.length<=sizeLine->R (Ite K t a) H1)
theorem ZnZ{X:Cx}{a:Expr}{ta:TA}{p pos:Pos}{es:List Expr}{n:Nat}{tpos:Pos}(hg:Gl X "enumerate")(hm:X.mg "enumerate" = none)(ha:PA X [a] ta)(hs:starEach [a] X.env=[(false,eval a X.env)]) :
  PI X (.Tuple es n tpos) (.Call (.Name "enumerate" p) [a] [] pos) (ZzO X.K ta):=by
 intro pins s σ H R I h
 refine Call_ (Zds I hg hm PyProof.Rows.boot_enumerate (PyProof.Rows.callWith_type1 (thn (ha pos pins s σ H _ I h) fun us s1 ⟨vs,H1,I1,r1,q1⟩=>?_) hs rfl))
 obtain⟨t,c,xs,e,sx,q⟩:=q1
 subst e
 cases r1 with
 | cons r rr =>
  cases rr
  cases r
  obtain⟨us,ru,pu,zu⟩:=Zcy I1 sx
  refine Zkb pu fun h2 z1 z2 kp=>wpAny_pyIter_enum z1 ?_
  refine⟨s1.heap.objs.size+1,[s1.heap.objs.size,s1.heap.objs.size+1],_,_,H1,rfl,I1.kept (t':=s1.toks) kp,ZiX t s1.heap.objs.size c pu.lt,⟨⟨_,z1⟩,z2⟩,fun b hb=>?_,q zu⟩
  have hb':s1.heap.objs.size<=b:=by
   simp only[List.mem_cons,List.not_mem_nil,or_false] at hb
   rcases hb with z|z<;>rw[z]<;>simp
  exact I1.fpOk hb' (I1.hok.fresh hb')
theorem ZfL:∀ (j:Int) (xs:List D),(Ziy j xs).length=xs.length
 | _,[]=>rfl
 | j,x::xs=>by rw[Ziy,List.length_cons,ZfL,List.length_cons]
theorem ZhY:∀ (xs:List D) (j:Int) (i:Nat) (d:D),(Ziy j xs)[i]?=some d->∃ x,xs[i]?=some x/\d=.tup [.int (j+i),x]
 | [],j,i,d,h=>by simp[Ziy] at h
 | x::xs,j,0,d,h=>by
  rw[Ziy] at h
  simp only[List.getElem?_cons_zero,Option.some.injEq] at h
  exact⟨x,rfl,by rw[<- h];simp⟩
 | x::xs,j,i+1,d,h=>by
  rw[Ziy] at h
  simp only[List.getElem?_cons_succ] at h ⊢
  obtain⟨y,h1,h2⟩:=ZhY xs (j+1) i d h
  exact⟨y,h1,by rw[h2];congr 3;omega⟩
theorem ZiK{K:PySem.W.Frag}{CL:ClA}{A:Addr->Prop}{H1:Hp}{t:Bool}{a:Addr}{xs:List V}{ds:List D}(sq:∀ H2,Kp A H1 H2->SqX t K H2 a xs)(r1:Reps K CL H1 A xs ds):ZlP K CL A (Ziy 0 ds) (Ite K t a) H1:=fun H k i=>by
 have s1:=sq H k
 refine⟨fun hi=>⟨xs,s1,?_⟩,fun d hd=>?_⟩
 ·rw[ZfL] at hi
  rw[r1.length]
  exact hi
 ·obtain⟨x,hx,rfl⟩:=ZhY _ _ _ _ hd
  obtain⟨u,hu,ru⟩:=r1.get hx
  refine⟨⟨xs,u,s1,hu⟩,?_⟩
  rintro w' H' ⟨p,x',hp,rfl,c1,rfl⟩
  have ex:x'=u:=Option.some.inj ((c1 xs s1).symm.trans hu)
  subst ex
  rw[Int.zero_add]
  exact⟨ZaL hp (.tup [.int i,x']),fun B hB aB=>ZdJ aB hp ⟨rfl,ZcO ru k hB,trivial⟩⟩
section
variable {X:Cx} {CL:ClA} {W:XW} {pos p:Pos} {a:Expr} {fa:Rho->R D}
theorem Zni{es:List Expr}{n:Nat}{tpos:Pos}(ha:SE X CL W a fa)(hg:Gl X "enumerate")(hm:X.mg "enumerate" = none)(hs:starEach [a] X.env=[(false,eval a X.env)]) :
  SI X CL W (.Tuple es n tpos) (.Call (.Name "enumerate" p) [a] [] pos) (fun ρ=>(fa ρ).bind fun x=>(ZaF x).bind fun xs=>.ok (Ziy 0 xs)) :=
 fun A=>PI.weak (ZnZ hg hm (ZaD (ha A) Zb6 hs) hs) fun σ H R ⟨hA,ρ,g,q⟩=>⟨hA,ρ,g,Zcw.ex q fun d v H1 _ s1 r1 p1=>by
  cases e1:ZaF d with
  | bad=>rw[e1] at p1;exact p1.elim
  | exn z=>exact absurd e1 (by cases d<;>simp[ZaF])
  | ok ds =>
   rw[e1] at p1
   obtain⟨t,c,xs,rfl,k1,rs⟩:=Zil r1 e1
   exact⟨t,c,xs,rfl,k1 H1 (Kp.of (Zaj.refl H1)),fun hz=>p1 _ H1 (Zaj.refl H1) (ZiK k1 rs) (by rw[ZfL,<- rs.length];exact hz)⟩⟩
end
end Ov
end
section
namespace Ov
open PySem PySem.Spec PyProof.Rows L2
noncomputable abbrev Zfs(h:Heap)(z TI TO:Addr)(f0 f1:Value):Prop:=h.get? z=some { cls:=.type "zip", dict:=none,data:=.fields #[f0,f1,.bool false,.ref TI,.ref TO],slots:=#[] }
noncomputable abbrev Zft(h:Heap)(T:Addr)(a b c:Value):Prop:=h.get? T=some { cls:=.type "tuple", data:=.seq #[a,b,c] }
section
variable {prog:Program} {w:World} {A:Around} {E:Value->Shared->Prop} {s:Shared}
theorem nb3{I l c:Nat}{j:Nat}(b:l<I)(h:c∈[I+j,l])(i:Nat)(hi:i≠j):c≠I+i:=by
 have h':c=I+j\/c=l:=by simpa using h
 omega
theorem Zhg{z TI TO T1:Nat}{f1:Bool}{o1:Obj}{Q:Bool->Shared->Prop}(hz:Zfs s.heap z TI TO (rawInt T1) (.bool f1))(hT:s.heap.get? T1=some o1)(go:∀ h1,Zfs h1 z TI TO (rawInt T1) (.bool true)->(∀ c o,c≠z->s.heap.get? c=some o->h1.get? c=some o)->h1.objs.size=s.heap.objs.size->Q false { s with heap:=h1 }) :
  wpAny (model prog w) A (Builtin.SmallTypes.ownedTupleIsFree (.ref z)) Q E s:=by
 simp only[Builtin.SmallTypes.ownedTupleIsFree]
 refine wpAny_bind (wpAny_field hz rfl (x:=rawInt T1) rfl ?_)
 show wpAny _ _ (loadIfAlive T1 >>= _) _ _ _
 refine wpAny_bind (fun Γ p _=>?_)
 show wpAny _ _ _ _ _ _
 rw[hT]
 show wpAny _ _ (field (.ref z) 1 >>= _) _ _ _
 refine wpAny_bind (wpAny_field hz rfl (x:=.bool f1) rfl ?_)
 cases f1 with
 | true=>exact wpAny_pure (go s.heap hz (fun _ _ _ e=>e) rfl)
 | false=>exact wpAny_bind (wpAny_setField_rec hz (by simp) fun h1 z1 sb=>wpAny_pure (go h1 z1 (fun c o nc e=>sb.extBut c o nc e) sb.1))
theorem ZiI{I l1 l2 l3 n1 n2 n3 k T1:Nat}{P1 P2 P3:Nat->Value->Prop}{S1 S2 S3:Nat->Heap->Prop}{f1:Bool}{o1:Obj}{Q:Value->Shared->Prop}(b1:l1<I)(b2:l2<I)(b3:l3<I)
  (D1:Dw prog w A (I+0) [I+0,l1] n1 P1 S1) (D2:Dw prog w A (I+1) [I+1,l2] n2 P2 S2) (D3:Dw prog w A (I+2) [I+2,l3] n3 P3 S3)
  (hz:Zfs s.heap (I+5) (I+3) (I+4) (rawInt T1) (.bool f1)) (hI:Zft s.heap (I+3) (.ref (I+0)) (.ref (I+1)) (.ref (I+2))) (hT:s.heap.get? T1=some o1) (g1:S1 k s.heap) (g2:S2 k s.heap) (g3:S3 k s.heap) (k1:k<n1) (k2:k<n2) (k3:k<n3)
  (go:∀ x y u h2 tk,P1 k x->P2 k y->P3 k u->Zfs h2 (I+5) (I+3) (I+4) (rawInt T1) (.bool true)->S1 (k+1) h2->S2 (k+1) h2->S3 (k+1) h2->Zft h2 s.heap.objs.size x y u->h2.objs.size=s.heap.objs.size+1 ->
   (∀ c o,c∉[I+0,I+1,I+2,I+5]->s.heap.get? c=some o->h2.get? c=some o)->Q (.ref s.heap.objs.size) { s with heap:=h2,toks:=tk }) :
  wpAny (model prog w) A (Builtin.«zip.__next__» ⟨[.ref (I+5)],[]⟩) (fun fin s'=>∃ v,fin=.done (.ret v)/\Q v s') E s:=by
 refine wpAny_bind (m:=field (.ref (I+5)) 2) (wpAny_field hz rfl (x:=.bool false) rfl ?_)
 refine wpAny_bind (m:=field (.ref (I+5)) 3) (wpAny_field hz rfl (x:=.ref (I+3)) rfl (wpAny_bind (wpAny_seqItems hI rfl ?_)))
 refine wpAny_bind (m:=Builtin.SmallTypes.ownedTupleIsFree (.ref (I+5))) (Zhg hz hT fun p1 z1 e1 s1=>?_)
 rw[if_neg (by decide)]
 refine wpAny_bind ?_
 simp only[<- Array.forIn_toList,List.forIn_cons,List.forIn_nil]
 have f1':S1 k p1:=D1.frame _ _ _ g1 fun c hc o q=>e1 c o (nb3 b1 hc 5 (by decide)) q
 refine wpAny_bind (wpAny_bind (wpAny_holding (wpAny_bind (m:=Builtin.SmallTypes.nextOf (.ref (I+0))) (D1.item k _ _ _ k1 f1' fun x p2 t2 px s2 e2=>wpAny_pure (wpAny_pure ?_)))))
 have f2':S2 k p2:=D2.frame _ _ _ g2 fun c hc o q=>e2.extBut c o (nb3 b2 hc 0 (by decide)) (e1 c o (nb3 b2 hc 5 (by decide)) q)
 refine wpAny_bind (wpAny_bind (wpAny_holding (wpAny_bind (m:=Builtin.SmallTypes.nextOf (.ref (I+1))) (D2.item k _ _ _ k2 f2' fun y p3 t3 py s3 e3=>wpAny_pure (wpAny_pure ?_)))))
 have f3':S3 k p3:=D3.frame _ _ _ g3 fun c hc o q=>e3.extBut c o (nb3 b3 hc 1 (by decide)) (e2.extBut c o (nb3 b3 hc 0 (by decide)) (e1 c o (nb3 b3 hc 5 (by decide)) q))
 refine wpAny_bind (wpAny_bind (wpAny_holding (wpAny_bind (m:=Builtin.SmallTypes.nextOf (.ref (I+2))) (D3.item k _ _ _ k3 f3' fun u p4 t4 pu s4 e4=>wpAny_pure (wpAny_pure (wpAny_pure ?_))))))
 refine wpAny_bind (wpAny_newTuple (hsz:=by show 3<=sizeLine;decide) (wpAny_pure ⟨_,rfl,?_⟩))
 have sz:p4.objs.size=s.heap.objs.size:=by rw[e4.1,e3.1,e2.1,s1]
 have z4:Zfs p4 (I+5) (I+3) (I+4) (rawInt T1) (.bool true):=e4.extBut _ _ (nij (by decide)) (e3.extBut _ _ (nij (by decide)) (e2.extBut _ _ (nij (by decide)) z1))
 have a1:S1 (k+1) p4:=D1.frame _ _ _ s2 fun c hc o q=>e4.extBut c o (nb3 b1 hc 2 (by decide)) (e3.extBut c o (nb3 b1 hc 1 (by decide)) q)
 have a2:S2 (k+1) p4:=D2.frame _ _ _ s3 fun c hc o q=>e4.extBut c o (nb3 b2 hc 2 (by decide)) q
 have psh:∀ {c o},p4.get? c=some o->(p4.push { cls:=.type "tuple", data:=.seq #[x,y,u] }).get? c=some o:=fun q=>Heap.get?_push_of_some _ q
 have q:=go x y u (p4.push { cls:=.type "tuple", data:=.seq #[x,y,u] }) t4 px py pu (psh z4) (D1.frame _ _ _ a1 fun c _ o q=>psh q) (D2.frame _ _ _ a2 fun c _ o q=>psh q) (D3.frame _ _ _ s4 fun c _ o q=>psh q) (by rw[<- sz];exact Heap.get?_push_size _ rfl) (by rw[Heap.size_push,sz]) (fun c o nc q=>by
  simp only[List.mem_cons,List.not_mem_nil,or_false,not_or] at nc
  exact psh (e4.extBut c o nc.2.2.1 (e3.extBut c o nc.2.1 (e2.extBut c o nc.1 (e1 c o nc.2.2.2 q)))))
 rw[<- sz] at q
 exact q
theorem ZiH{I l1 n1 k T1:Nat}{P1:Nat->Value->Prop}{S1:Nat->Heap->Prop}{f1:Bool}{o1:Obj}{Q:Fin->Shared->Prop}(b1:l1<I)(D1:Dw prog w A (I+0) [I+0,l1] n1 P1 S1)
  (hz:Zfs s.heap (I+5) (I+3) (I+4) (rawInt T1) (.bool f1)) (hI:Zft s.heap (I+3) (.ref (I+0)) (.ref (I+1)) (.ref (I+2))) (hT:s.heap.get? T1=some o1) (g1:S1 k s.heap) (k1:n1<=k)
  (up:∀ h2 e,(∀ c o,c∉[I+0,I+5]->s.heap.get? c=some o->h2.get? c=some o)->(∃ o,h2.get? e=some o/\o.cls=.type "StopIteration")->E (.ref e) { s with heap:=h2 }) :
  wpAny (model prog w) A (Builtin.«zip.__next__» ⟨[.ref (I+5)],[]⟩) Q E s:=by
 refine wpAny_bind (m:=field (.ref (I+5)) 2) (wpAny_field hz rfl (x:=.bool false) rfl ?_)
 refine wpAny_bind (m:=field (.ref (I+5)) 3) (wpAny_field hz rfl (x:=.ref (I+3)) rfl (wpAny_bind (wpAny_seqItems hI rfl ?_)))
 refine wpAny_bind (m:=Builtin.SmallTypes.ownedTupleIsFree (.ref (I+5))) (Zhg hz hT fun p1 z1 e1 s1=>?_)
 rw[if_neg (by decide)]
 refine wpAny_bind ?_
 simp only[<- Array.forIn_toList,List.forIn_cons,List.forIn_nil]
 have f1':S1 k p1:=D1.frame _ _ _ g1 fun c hc o q=>e1 c o (nb3 b1 hc 5 (by decide)) q
 refine wpAny_bind (wpAny_bind (wpAny_holding (wpAny_bind (m:=Builtin.SmallTypes.nextOf (.ref (I+0))) (D1.done k _ _ _ k1 f1' fun p2 e e2 he=>up p2 e (fun c o nc q=>?_) he))))
 simp only[List.mem_cons,List.not_mem_nil,or_false,not_or] at nc
 exact e2 c o nc.1 (e1 c o nc.2 q)
theorem ZiT{T:Addr}{a b c x:Value}{k:Nat}{Q:Unit->Shared->Prop}(h:Zft s.heap T a b c)(go:∀ h2,h2.get? T=some { cls:=.type "tuple", data:=.seq ((#[a,b,c]:Array Value).setIfInBounds k x) }->Heap.SameBut T s.heap h2->Q () { s with heap:=h2 }):wpAny (model prog w) A (updateSeq T (·.setIfInBounds k x)) Q E s:=by
 refine wpAny_updateSeq h rfl (go _ ?_ (Heap.SameBut.update ..)) (by show 3<=sizeLine;decide) (by show ((#[a,b,c]:Array Value).setIfInBounds k x).size<=sizeLine+1;rw[Array.size_setIfInBounds];show 3<=sizeLine+1;decide)
 rw[Heap.get?_update_self _ h rfl]
 simp[Obj.mapSeq]
theorem Zic{I l1 l2 l3 n1 n2 n3 k:Nat}{P1 P2 P3:Nat->Value->Prop}{S1 S2 S3:Nat->Heap->Prop}{a b c:Value}{Q:Value->Shared->Prop}(b1:l1<I)(b2:l2<I)(b3:l3<I)
  (D1:Dw prog w A (I+0) [I+0,l1] n1 P1 S1) (D2:Dw prog w A (I+1) [I+1,l2] n2 P2 S2) (D3:Dw prog w A (I+2) [I+2,l3] n3 P3 S3)
  (hz:Zfs s.heap (I+5) (I+3) (I+4) .none (.bool false)) (hI:Zft s.heap (I+3) (.ref (I+0)) (.ref (I+1)) (.ref (I+2))) (hO:Zft s.heap (I+4) a b c) (g1:S1 k s.heap) (g2:S2 k s.heap) (g3:S3 k s.heap) (k1:k<n1) (k2:k<n2) (k3:k<n3)
  (go:∀ x y u h2 tk,P1 k x->P2 k y->P3 k u->Zfs h2 (I+5) (I+3) (I+4) (rawInt s.heap.objs.size) (.bool false)->S1 (k+1) h2->S2 (k+1) h2->S3 (k+1) h2->Zft h2 s.heap.objs.size x y u->h2.objs.size=s.heap.objs.size+1 ->
   (∀ c o,c∉[I+0,I+1,I+2,I+4,I+5]->s.heap.get? c=some o->h2.get? c=some o)->Q (.ref s.heap.objs.size) { s with heap:=h2,toks:=tk }) :
  wpAny (model prog w) A (Builtin.«zip.__next__» ⟨[.ref (I+5)],[]⟩) (fun fin s'=>∃ v,fin=.done (.ret v)/\Q v s') E s:=by
 refine wpAny_bind (m:=field (.ref (I+5)) 2) (wpAny_field hz rfl (x:=.bool false) rfl ?_)
 refine wpAny_bind (m:=field (.ref (I+5)) 3) (wpAny_field hz rfl (x:=.ref (I+3)) rfl (wpAny_bind (wpAny_seqItems hI rfl ?_)))
 refine wpAny_bind (m:=Builtin.SmallTypes.ownedTupleIsFree (.ref (I+5))) ?_
 simp only[Builtin.SmallTypes.ownedTupleIsFree]
 refine wpAny_bind (wpAny_field hz rfl (x:=.none) rfl (wpAny_pure ?_))
 rw[if_pos rfl]
 refine wpAny_bind (wpAny_rule (wpAny_bind (wpAny_field hz rfl (x:=.ref (I+4)) rfl (wpAny_bind (wpAny_setField_rec hz (by simp) fun p1 z1 e1=>wpAny_bind ?_)))))
 have z1':Zfs p1 (I+5) (I+3) (I+4) .ellipsis (.bool false):=z1
 simp only[List.zipIdx_cons,List.zipIdx_nil,List.forIn_cons,List.forIn_nil]
 have f1':S1 k p1:=D1.frame _ _ _ g1 fun c hc o q=>e1.extBut c o (nb3 b1 hc 5 (by decide)) q
 refine wpAny_bind (wpAny_bind (wpAny_onRaise (wpAny_bind (m:=Builtin.SmallTypes.nextOf (.ref (I+0))) (D1.item k _ _ _ k1 f1' fun x p2 t2 px s2 e2=>wpAny_pure ?_))))
 have o2:Zft p2 (I+4) a b c:=e2.extBut _ _ (nij (by decide)) (e1.extBut _ _ (nij (by decide)) hO)
 refine wpAny_bind (wpAny_seqItems o2 rfl (wpAny_bind (ZiT o2 fun p3 o3 e3=>wpAny_bind (wpAny_letGo (wpAny_pure ?_)))))
 have o3':Zft p3 (I+4) x b c:=o3
 have f2':S2 k p3:=D2.frame _ _ _ g2 fun c hc o q=>e3.extBut c o (nb3 b2 hc 4 (by decide)) (e2.extBut c o (nb3 b2 hc 0 (by decide)) (e1.extBut c o (nb3 b2 hc 5 (by decide)) q))
 refine wpAny_bind (wpAny_bind (wpAny_onRaise (wpAny_bind (m:=Builtin.SmallTypes.nextOf (.ref (I+1))) (D2.item k _ _ _ k2 f2' fun y p4 t4 py s4 e4=>wpAny_pure ?_))))
 have o4:Zft p4 (I+4) x b c:=e4.extBut _ _ (nij (by decide)) o3'
 refine wpAny_bind (wpAny_seqItems o4 rfl (wpAny_bind (ZiT o4 fun p5 o5 e5=>wpAny_bind (wpAny_letGo (wpAny_pure ?_)))))
 have o5':Zft p5 (I+4) x y c:=o5
 have f3':S3 k p5:=D3.frame _ _ _ g3 fun c hc o q=>e5.extBut c o (nb3 b3 hc 4 (by decide)) (e4.extBut c o (nb3 b3 hc 1 (by decide)) (e3.extBut c o (nb3 b3 hc 4 (by decide)) (e2.extBut c o (nb3 b3 hc 0 (by decide)) (e1.extBut c o (nb3 b3 hc 5 (by decide)) q))))
 refine wpAny_bind (wpAny_bind (wpAny_onRaise (wpAny_bind (m:=Builtin.SmallTypes.nextOf (.ref (I+2))) (D3.item k _ _ _ k3 f3' fun u p6 t6 pu s6 e6=>wpAny_pure ?_))))
 have o6:Zft p6 (I+4) x y c:=e6.extBut _ _ (nij (by decide)) o5'
 refine wpAny_bind (wpAny_seqItems o6 rfl (wpAny_bind (ZiT o6 fun p7 o7 e7=>wpAny_bind (wpAny_letGo (wpAny_pure (wpAny_pure ?_))))))
 have o7':Zft p7 (I+4) x y u:=o7
 have sz:p7.objs.size=s.heap.objs.size:=by rw[e7.1,e6.1,e5.1,e4.1,e3.1,e2.1,e1.1]
 have z7:Zfs p7 (I+5) (I+3) (I+4) .ellipsis (.bool false):=e7.extBut _ _ (nij (by decide)) (e6.extBut _ _ (nij (by decide)) (e5.extBut _ _ (nij (by decide)) (e4.extBut _ _ (nij (by decide)) (e3.extBut _ _ (nij (by decide)) (e2.extBut _ _ (nij (by decide)) z1')))))
 refine wpAny_bind (wpAny_seqItems o7' rfl (wpAny_bind (wpAny_newTuple (hsz:=by show 3<=sizeLine;decide) ?_)))
 refine wpAny_bind (m:=Builtin.SmallTypes.ownedTupleHandOut (.ref (I+5)) (.ref p7.objs.size)) ?_
 simp only[Builtin.SmallTypes.ownedTupleHandOut]
 have z8:Zfs (p7.push { cls:=.type "tuple", data:=.seq #[x,y,u] }) (I+5) (I+3) (I+4) .ellipsis (.bool false):=Heap.get?_push_of_some _ z7
 refine wpAny_bind (wpAny_setField_rec z8 (by simp) fun p9 z9 e9=>?_)
 have z9':Zfs p9 (I+5) (I+3) (I+4) (rawInt p7.objs.size) (.bool false):=z9
 refine wpAny_setField_rec z9' (by simp) fun pa za ea=>wpAny_pure ⟨_,rfl,?_⟩
 have za':Zfs pa (I+5) (I+3) (I+4) (rawInt p7.objs.size) (.bool false):=za
 have lt5:I+5<p7.objs.size:=Heap.lt_size z7
 have up:∀ c o,c≠I+5->p7.get? c=some o->pa.get? c=some o:=fun c o nc q=>ea.extBut _ _ nc (e9.extBut _ _ nc (Heap.get?_push_of_some _ q))
 have a1:S1 (k+1) pa:=D1.frame _ _ _ s2 fun c hc o q=>up c o (nb3 b1 hc 5 (by decide)) (e7.extBut c o (nb3 b1 hc 4 (by decide)) (e6.extBut c o (nb3 b1 hc 2 (by decide)) (e5.extBut c o (nb3 b1 hc 4 (by decide)) (e4.extBut c o (nb3 b1 hc 1 (by decide)) (e3.extBut c o (nb3 b1 hc 4 (by decide)) q)))))
 have a2:S2 (k+1) pa:=D2.frame _ _ _ s4 fun c hc o q=>up c o (nb3 b2 hc 5 (by decide)) (e7.extBut c o (nb3 b2 hc 4 (by decide)) (e6.extBut c o (nb3 b2 hc 2 (by decide)) (e5.extBut c o (nb3 b2 hc 4 (by decide)) q)))
 have a3:S3 (k+1) pa:=D3.frame _ _ _ s6 fun c hc o q=>up c o (nb3 b3 hc 5 (by decide)) (e7.extBut c o (nb3 b3 hc 4 (by decide)) q)
 have tp:Zft pa p7.objs.size x y u:=ea.extBut _ _ (Nat.ne_of_gt lt5) (e9.extBut _ _ (Nat.ne_of_gt lt5) (Heap.get?_push_size _ rfl))
 have q:=go x y u pa t6 px py pu (by rw[<- sz];exact za') a1 a2 a3 (by rw[<- sz];exact tp) (by rw[ea.1,e9.1,Heap.size_push,sz]) (fun c o nc q=>by
  simp only[List.mem_cons,List.not_mem_nil,or_false,not_or] at nc
  exact up c o nc.2.2.2.2 (e7.extBut c o nc.2.2.2.1 (e6.extBut c o nc.2.2.1 (e5.extBut c o nc.2.2.2.1 (e4.extBut c o nc.2.1 (e3.extBut c o nc.2.2.2.1 (e2.extBut c o nc.1 (e1.extBut c o nc.2.2.2.2 q))))))))
 rw[<- sz] at q
 exact q
def Z3(t1 t2 t3:Bool)(I l1 l2 l3 i:Nat)(h:Heap):Prop:=Zft h (I+3) (.ref (I+0)) (.ref (I+1)) (.ref (I+2))/\Ze4 t1 h (I+0) l1 i/\Ze4 t2 h (I+1) l2 i/\Ze4 t3 h (I+2) l3 i /\
 ((Zfs h (I+5) (I+3) (I+4) .none (.bool false)/\∃ a b c,Zft h (I+4) a b c)\/∃ (T1:Nat) (f1:Bool) (o1:Obj),Zfs h (I+5) (I+3) (I+4) (rawInt T1) (.bool f1)/\h.get? T1=some o1/\I+5<T1)
noncomputable def z3w(I:Nat):List Addr:=[I+0,I+1,I+2,I+4,I+5]
theorem ZpT{h:Heap}{z TI TO T1:Nat}{f1:Bool}(a:Zfs h z TI TO (rawInt T1) (.bool f1)):¬ Zfs h z TI TO .none (.bool false):=fun b=>by
 have e:=a.symm.trans b
 simp[rawInt] at e
theorem ZmP{t1 t2 t3:Bool}{I l1 l2 l3 i:Nat}{xs ys us:Array Value}{x y u:Value}{Q:Option Value->Shared->Prop}(calm:A.handled=none)(b1:l1<I)(b2:l2<I)(b3:l3<I)(z:Z3 t1 t2 t3 I l1 l2 l3 i s.heap)(q1:ZbQ t1 s.heap l1 xs)(q2:ZbQ t2 s.heap l2 ys)(q3:ZbQ t3 s.heap l3 us)
  (hx:xs[i]?=some x) (hy:ys[i]?=some y) (hu:us[i]?=some u)
  (go:∀ h2 tk,Z3 t1 t2 t3 I l1 l2 l3 (i+1) h2->¬ Zfs h2 (I+5) (I+3) (I+4) .none (.bool false)->Zft h2 s.heap.objs.size x y u->h2.objs.size=s.heap.objs.size+1->(∀ c o,c∉z3w I->s.heap.get? c=some o->h2.get? c=some o)->Q (some (.ref s.heap.objs.size)) { s with heap:=h2,toks:=tk }):wpAny (model prog w) A (pyNext (.ref (I+5))) Q E s:=by
 obtain⟨zI,i1,i2,i3,zz⟩:=z
 have calm':A.in1.handled=none:=calm
 have lt:∀ {v:Array Value} {k:Nat} {a:Value},v[k]?=some a->k<v.size:=fun h=>by
  rw[Array.getElem?_eq_some_iff] at h
  exact h.1
 have inj:∀ {v:Array Value} {k:Nat} {a b:Value},v[k]?=some a->v[k]?=some b->b=a:=fun h1 h2=>by
  rw[h1] at h2
  exact(Option.some.inj h2).symm
 have d1:=Ze3 (prog:=prog) (w:=w) calm' t1 (I+0) l1 (Nat.ne_of_lt b1) xs
 have d2:=Ze3 (prog:=prog) (w:=w) calm' t2 (I+1) l2 (Nat.ne_of_lt (Nat.lt_of_lt_of_le b2 (Nat.le_add_right _ _))) ys
 have d3:=Ze3 (prog:=prog) (w:=w) calm' t3 (I+2) l3 (Nat.ne_of_lt (Nat.lt_of_lt_of_le b3 (Nat.le_add_right _ _))) us
 simp only[pyNext]
 rcases zz with ⟨hz,a,b,c,hO⟩|⟨T1,f1,o1,hz,hT,lT⟩
 ·have hty:s.TypeIs (.ref (I+5)) "zip" := ⟨_,hz,rfl⟩
  refine wpAny_bind (wpAny_attempt (wpAny_callSpecial?_slot hty F.slot_zip_next (wpAny_call_entry F.slot_zip_next hty F.entry_zip_next (Zic (k:=i) b1 b2 b3 d1 d2 d3 hz zI hO ⟨i1,q1⟩ ⟨i2,q2⟩ ⟨i3,q3⟩ (lt hx) (lt hy) (lt hu) fun x' y' u' h2 tk px py pu c1 c2 c3 c4 c5 c6 kp=>wpAny_pure ?_) (F.args_zip_next_1 _))))
  rw[inj hx px,inj hy py,inj hu pu] at c5
  exact go h2 tk ⟨kp _ _ (by simp) zI,c2.1,c3.1,c4.1,.inr ⟨_,_,_,c1,c5,Heap.lt_size hz⟩⟩ (ZpT c1) c5 c6 kp
 ·have hty:s.TypeIs (.ref (I+5)) "zip" := ⟨_,hz,rfl⟩
  refine wpAny_bind (wpAny_attempt (wpAny_callSpecial?_slot hty F.slot_zip_next (wpAny_call_entry F.slot_zip_next hty F.entry_zip_next (ZiI (k:=i) b1 b2 b3 d1 d2 d3 hz zI hT ⟨i1,q1⟩ ⟨i2,q2⟩ ⟨i3,q3⟩ (lt hx) (lt hy) (lt hu) fun x' y' u' h2 tk px py pu c1 c2 c3 c4 c5 c6 kp=>wpAny_pure ?_) (F.args_zip_next_1 _))))
  rw[inj hx px,inj hy py,inj hu pu] at c5
  exact go h2 tk ⟨kp _ _ (by simp) zI,c2.1,c3.1,c4.1,.inr ⟨T1,true,o1,c1,kp _ _ (by simp only[List.mem_cons,List.not_mem_nil,or_false,not_or];exact⟨Nat.ne_of_gt (Nat.lt_of_le_of_lt (Nat.add_le_add_left (by decide) I) lT),Nat.ne_of_gt (Nat.lt_of_le_of_lt (Nat.add_le_add_left (by decide) I) lT),Nat.ne_of_gt (Nat.lt_of_le_of_lt (Nat.add_le_add_left (by decide) I) lT),Nat.ne_of_gt lT⟩) hT,lT⟩⟩ (ZpT c1) c5 c6 (fun c o nc q=>kp c o (fun h=>nc (by simp only[z3w,List.mem_cons,List.not_mem_nil,or_false] at h ⊢;rcases h with h|h|h|h<;>simp[h])) q)
theorem ZpU{t1 t2 t3:Bool}{I l1 l2 l3 i:Nat}{xs:Array Value}{Q:Option Value->Shared->Prop}(calm:A.handled=none)(b1:l1<I)(i0:0<i)(z:Z3 t1 t2 t3 I l1 l2 l3 i s.heap)(nz:¬ Zfs s.heap (I+5) (I+3) (I+4) .none (.bool false))(q1:ZbQ t1 s.heap l1 xs)(hx:xs.size<=i)
  (go:∀ h2,(∀ c o,c∉z3w I->s.heap.get? c=some o->h2.get? c=some o)->Q none { s with heap:=h2 }):wpAny (model prog w) A (pyNext (.ref (I+5))) Q E s:=by
 obtain⟨zI,i1,i2,i3,zz⟩:=z
 have calm':A.in1.handled=none:=calm
 have d1:=Ze3 (prog:=prog) (w:=w) calm' t1 (I+0) l1 (Nat.ne_of_lt b1) xs
 simp only[pyNext]
 rcases zz with ⟨hz,_⟩|⟨T1,f1,o1,hz,hT,lT⟩
 ·exact absurd hz nz
 ·have hty:s.TypeIs (.ref (I+5)) "zip" := ⟨_,hz,rfl⟩
  refine wpAny_bind (wpAny_attempt (wpAny_callSpecial?_slot hty F.slot_zip_next (wpAny_call_entry F.slot_zip_next hty F.entry_zip_next (ZiH (k:=i) b1 d1 hz zI hT ⟨i1,q1⟩ hx fun h2 e kp he=>?_) (F.args_zip_next_1 _))))
  obtain⟨o,ho,hcl⟩:=he
  exact wpAny_bind (wpAny_isInstance (T := "StopIteration") (b:=true) ⟨o,ho,hcl⟩ isSubtype_stop (wpAny_pure (go h2 fun c o nc q=>kp c o (fun h=>nc (by simp only[z3w,List.mem_cons,List.not_mem_nil,or_false] at h ⊢;rcases h with h|h<;>simp[h])) q)))
end
end Ov
end
section
namespace Ov
open PySem PySem.Spec PyProof.Rows L2
section
variable {prog:Program} {w:World} {A:Around} {R:Result->Shared->Prop}
def Zfu(I S:Nat)(xs ys us:Array Value)(i:Nat)(acc:Array Value)(h:Heap):Prop:=acc.size=i/\(∀ j,j<i->∃ (a:Nat) (x y u:Value),acc[j]?=some (.ref a)/\xs[j]?=some x/\ys[j]?=some y/\us[j]?=some u/\Zft h a x y u/\I+5<a/\a≠S)/\∀ (j1 j2 a:Nat),acc[j1]?=some (Value.ref a)->acc[j2]?=some (Value.ref a)->j1=j2
theorem ZbQ.at'{t:Bool}{h h2:Heap}{l:Addr}{its:Array Value}(z:ZbQ t h l its)(k:∀ o,h.get? l=some o->h2.get? l=some o):ZbQ t h2 l its:=by
 cases t with
 | true=>exact PySem.Heap.IsTuple.at z k
 | false=>exact PySem.Heap.IsList.at z k
theorem ZtF{I a:Nat}(h:I+5<a):a∉z3w I:=by
 intro z
 simp only[z3w,List.mem_cons,List.not_mem_nil,or_false] at z
 rcases z with z|z|z|z|z<;>· rw[z] at h;exact absurd h (Nat.not_lt.mpr (Nat.add_le_add_left (by decide) I))
theorem Zlq{I l:Nat}(h:l<I):l∉z3w I:=by
 intro z
 simp only[z3w,List.mem_cons,List.not_mem_nil,or_false] at z
 rcases z with z|z|z|z|z<;>· rw[z] at h;exact absurd h (Nat.not_lt.mpr (Nat.le_add_right I _))
theorem Z3.at'{t1 t2 t3:Bool}{I l1 l2 l3 i S:Nat}{h h2:Heap}(z:Z3 t1 t2 t3 I l1 l2 l3 i h)(hS:I+5<S)(k:∀ c o,c≠S->h.get? c=some o->h2.get? c=some o)(kS:∃ o,h2.get? S=some o):Z3 t1 t2 t3 I l1 l2 l3 i h2:=by
 have ne:∀ j,j<=5->I+j≠S:=fun j hj e=>by rw[<- e] at hS;exact absurd hS (Nat.not_lt.mpr (Nat.add_le_add_left hj I))
 obtain⟨zI,i1,i2,i3,zz⟩:=z
 refine⟨k _ _ (ne 3 (by decide)) zI,i1.at' fun o q=>k _ o (ne 0 (by decide)) q,i2.at' fun o q=>k _ o (ne 1 (by decide)) q,i3.at' fun o q=>k _ o (ne 2 (by decide)) q,?_⟩
 rcases zz with ⟨hz,a,b,c,hO⟩|⟨T1,f1,o1,hz,hT,lT⟩
 ·exact .inl ⟨k _ _ (ne 5 (by decide)) hz,a,b,c,k _ _ (ne 4 (by decide)) hO⟩
 ·by_cases e:T1=S
  ·obtain⟨o,ho⟩:=kS
   exact .inr ⟨T1,f1,o,k _ _ (ne 5 (by decide)) hz,by rw[e];exact ho,lT⟩
  ·exact .inr ⟨T1,f1,o1,k _ _ (ne 5 (by decide)) hz,k _ _ e hT,lT⟩
theorem ZmR{t1 t2 t3:Bool}{I l1 l2 l3 n:Nat}{xs ys us:Array Value}{res:Value}(calm:A.handled=none)(b1:l1<I)(b2:l2<I)(b3:l3<I)(S:Nat)(hS:I+5<S)(n0:0<n)(nn:n<=1000)(e1:xs.size=n)(e2:ys.size=n)(e3:us.size=n) :
  ∀ (k i:Nat) (s:Shared) (acc:Array Value) (c:Nat),n-i=k->i<=n->Z3 t1 t2 t3 I l1 l2 l3 i s.heap->(0<i->¬ Zfs s.heap (I+5) (I+3) (I+4) .none (.bool false))->ZbQ t1 s.heap l1 xs->ZbQ t2 s.heap l2 ys->ZbQ t3 s.heap l3 us ->
  s.heap.get? S=some { cls:=.type "list", dict:=none,data:=.seq acc c,slots:=#[] }->Zfu I S xs ys us i acc s.heap ->
  (∀ h2 acc2 c2 tk,(∀ d o,d∉z3w I->d≠S->s.heap.get? d=some o->h2.get? d=some o)->h2.get? S=some { cls:=.type "list", dict:=none,data:=.seq acc2 c2,slots:=#[] }->Zfu I S xs ys us n acc2 h2->R (.ok (.ret res)) { s with heap:=h2,toks:=tk }) ->
  codeAny (model prog w) A (.builtin "list.extend.loop" ⟨[.ref S,.ref (I+5),res],[]⟩) R s:=by
 have calm':A.in1.handled=none:=calm
 intro k
 induction k with
 | zero =>
  intro i s acc c hk hi hz hnz q1 q2 q3 hSo hd hR
  have ein:i=n:=Nat.le_antisymm hi (Nat.le_of_sub_eq_zero hk)
  subst ein
  refine codeAny_builtin F.entry_extend_loop ?_
  rw[Around.under_plainId F.plain_extend_loop _]
  refine wpAny_bind (m:=pyNext (.ref (I+5))) (ZpU calm' b1 n0 hz (hnz n0) q1 (Nat.le_of_eq e1) fun h2 kp=>?_)
  exact wpAny_pure (hR h2 acc c s.toks (fun d o nd _ q=>kp d o nd q) (kp _ _ (ZtF hS) hSo) ⟨hd.1,fun j hj=>by
   obtain⟨a,x,y,u,r1,r2,r3,r4,r5,r6,r7⟩:=hd.2.1 j hj
   exact⟨a,x,y,u,r1,r2,r3,r4,kp _ _ (ZtF r6) r5,r6,r7⟩,hd.2.2⟩)
 | succ k ih =>
  intro i s acc c hk hi hz hnz q1 q2 q3 hSo hd hR
  have lt:i<n:=by omega
  refine codeAny_builtin F.entry_extend_loop ?_
  rw[Around.under_plainId F.plain_extend_loop _]
  refine wpAny_bind (m:=pyNext (.ref (I+5))) (ZmP calm' b1 b2 b3 hz q1 q2 q3 (Array.getElem?_eq_getElem (by omega)) (Array.getElem?_eq_getElem (by omega)) (Array.getElem?_eq_getElem (by omega)) fun h2 tk z2 nz tr sz kp=>?_)
  have hS2:=kp _ _ (ZtF hS) hSo
  refine wpAny_bind (m:=updateSeq S _) ?_
  have ot:∀ (f:Obj->Obj) d o,d≠S->h2.get? d=some o->(h2.update S f).get? d=some o:=fun f d o nd q=>(Heap.get?_update_other _ _ (Ne.symm nd)).trans q
  have lS:I+5<s.heap.objs.size:=Nat.lt_trans hS (Heap.lt_size hSo)
  have nT:s.heap.objs.size≠S:=Nat.ne_of_gt (Heap.lt_size hSo)
  have hS3:=Heap.get?_update_self (Obj.mapSeq (·.push (.ref s.heap.objs.size))) hS2 rfl
  have lne:∀ {l:Nat},l<I->l≠S:=fun h e=>by rw[e] at h;exact absurd (Nat.lt_trans h (Nat.lt_of_le_of_lt (Nat.le_add_right I 5) hS)) (Nat.lt_irrefl _)
  refine wpAny_updateSeq hS2 rfl (wpAny_pure ⟨plainId_quiet F.plain_extend_loop _,ih (i+1) { s with heap:=h2.update S (Obj.mapSeq (·.push (.ref s.heap.objs.size))),toks:=tk } _ _ (by omega) lt (z2.at' hS (ot _) ⟨_,hS3⟩) (fun _ hc=>?_) ?_ ?_ ?_ hS3 ⟨by rw[Array.size_push,hd.1],fun j hj=>?_,?_⟩ fun h4 acc4 c4 tk4 kp4 hS4 hd4=>hR h4 acc4 c4 tk4 (fun d o nd ns q=>kp4 d o nd ns (ot _ d o ns (kp d o nd q))) hS4 hd4⟩) ?_ ?_
  ·refine nz ?_
   exact(Heap.get?_update_other _ _ (Ne.symm (Nat.ne_of_lt hS))).symm.trans hc
  ·exact q1.at' fun o q=>ot _ _ o (lne b1) (kp _ o (Zlq b1) q)
  ·exact q2.at' fun o q=>ot _ _ o (lne b2) (kp _ o (Zlq b2) q)
  ·exact q3.at' fun o q=>ot _ _ o (lne b3) (kp _ o (Zlq b3) q)
  ·by_cases ej:j=i
   ·subst ej
    exact⟨s.heap.objs.size,_,_,_,by rw[Array.getElem?_push,if_pos hd.1.symm],Array.getElem?_eq_getElem (by omega),Array.getElem?_eq_getElem (by omega),Array.getElem?_eq_getElem (by omega),ot _ _ _ nT tr,lS,nT⟩
   ·obtain⟨a,x,y,u,r1,r2,r3,r4,r5,r6,r7⟩:=hd.2.1 j (by omega)
    exact⟨a,x,y,u,by rw[Array.getElem?_push,if_neg (by rw[hd.1];exact ej)];exact r1,r2,r3,r4,ot _ _ _ r7 (kp _ _ (ZtF r6) r5),r6,r7⟩
  ·have old:∀ (j a:Nat),acc[j]?=some (Value.ref a)->a<s.heap.objs.size:=fun j a e=>by
    have hj:j<i:=by rw[<- hd.1];exact(Array.getElem?_eq_some_iff.mp e).1
    obtain⟨a',x,y,u,r1,r2,r3,r4,r5,r6,r7⟩:=hd.2.1 j hj
    rw[e] at r1
    cases r1
    exact Heap.lt_size r5
   intro j1 j2 a q1 q2
   rw[Array.getElem?_push] at q1 q2
   split at q1
   ·split at q2
    ·omega
    ·cases q1;exact absurd (old _ _ q2) (Nat.lt_irrefl _)
   ·split at q2
    ·cases q2;exact absurd (old _ _ q1) (Nat.lt_irrefl _)
    ·exact hd.2.2 _ _ _ q1 q2
  ·rw[hd.1];exact Nat.le_trans (Nat.le_trans hi nn) (by decide)
  ·show (acc.push _).size<=sizeLine+1
   rw[Array.size_push,hd.1]
   exact Nat.le_trans (Nat.succ_le_succ (Nat.le_trans hi nn)) (by decide)
end
end Ov
end
section
namespace Ov
open PySem PySem.Spec PyProof.Rows L2
theorem ZiG(a b c:Value):checkTypeCall "zip" ⟨[a,b,c],[]⟩=pure ():=by kernel_rfl
theorem ZkT(a b c:Value):checkBuiltinCall "zip.__new__" ⟨[.type "zip", a,b,c],[]⟩=pure ():=by kernel_rfl
theorem ZrP(a b c d:Value):argsOk "object.__init__" ⟨[a,b,c,d],[]⟩:=by
 unfold argsOk;rw[signature?_of (id := "object.__init__") (n:=['_','_','t','i','n','i','_','_']) (o:=['t','c','e','j','b','o']) (by kernel_rfl) F.owner_object];kernel_rfl
section
variable {prog:Program} {w:World} {A:Around} {E:Value->Shared->Prop} {s:Shared}
noncomputable abbrev yh3(t1 t2 t3:Bool)(h:Heap)(l1 l2 l3:Addr):Heap:=((h.push (itO t1 l1)).push (itO t2 l2)).push (itO t3 l3)
noncomputable abbrev yh4(t1 t2 t3:Bool)(h:Heap)(l1 l2 l3:Addr):Heap:=(yh3 t1 t2 t3 h l1 l2 l3).push { cls:=.type "tuple", data:=.seq #[.ref h.objs.size,.ref (h.push (itO t1 l1)).objs.size,.ref ((h.push (itO t1 l1)).push (itO t2 l2)).objs.size] }
noncomputable abbrev yh5(t1 t2 t3:Bool)(h:Heap)(l1 l2 l3:Addr):Heap:=(yh4 t1 t2 t3 h l1 l2 l3).push { cls:=.type "tuple", data:=.seq #[.none,.none,.none] }
noncomputable abbrev yh6(t1 t2 t3:Bool)(h:Heap)(l1 l2 l3:Addr):Heap:=(yh5 t1 t2 t3 h l1 l2 l3).push { cls:=.type "zip", data:=.fields #[.none,.bool false,.bool false,.ref (yh3 t1 t2 t3 h l1 l2 l3).objs.size,.ref (yh4 t1 t2 t3 h l1 l2 l3).objs.size] }
theorem ZkS(t1 t2 t3:Bool)(l1 l2 l3:Addr)(xs ys us:Array Value):Meets (Builtin.«zip.__new__» ⟨[.type "zip", .ref l1,.ref l2,.ref l3],[]⟩) (fun _ R s=>ZbQ t1 s.heap l1 xs/\ZbQ t2 s.heap l2 ys/\ZbQ t3 s.heap l3 us/\R (.ok (.ret (.ref (yh5 t1 t2 t3 s.heap l1 l2 l3).objs.size))) { s with heap:=yh6 t1 t2 t3 s.heap l1 l2 l3 }) :=
 .of_wp fun prog w A R s h=>by
  obtain⟨hp,g,d,tk,os⟩:=s
  obtain⟨a1,a2,a3,q⟩:=h
  have hsub:=sub_zip
  have L1:ZbQ t1 (Shared.heap ⟨hp,g,d,tk,os⟩) l1 xs:=a1
  have L2:ZbQ t2 (Shared.heap ⟨hp.push (itO t1 l1),g,d,tk,os⟩) l2 ys:=a2.push _
  have L3:ZbQ t3 (Shared.heap ⟨(hp.push (itO t1 l1)).push (itO t2 l2),g,d,tk,os⟩) l3 us:=(a3.push _).push _
  wp_walk using Zga L1,Zga L2,Zga L3
  exact⟨_,rfl,q⟩
theorem ZiJ{t1 t2 t3:Bool}{l1 l2 l3:Addr}{xs ys us:Array Value}{Q:Value->Shared->Prop}(a1:ZbQ t1 s.heap l1 xs)(a2:ZbQ t2 s.heap l2 ys)(a3:ZbQ t3 s.heap l3 us)
  (q:∀ h2,Z3 t1 t2 t3 s.heap.objs.size l1 l2 l3 0 h2->h2.objs.size=s.heap.objs.size+6->(∀ c o,s.heap.get? c=some o->h2.get? c=some o)->Q (.ref (s.heap.objs.size+5)) { s with heap:=h2 }):wpAny (model prog w) A (call (.type "zip") [.ref l1,.ref l2,.ref l3]) Q E s:=by
 refine callType_new F.called_zip (by decide) (ZiG _ _ _) (ZkT _ _ _) (fun obj=>ZrP obj _ _ _) F.entry_zip_new (ZkS t1 t2 t3 l1 l2 l3 xs ys us) ⟨a1,a2,a3,?_⟩
 have s1:(s.heap.push (itO t1 l1)).objs.size=s.heap.objs.size+1:=Heap.size_push ..
 have s2:((s.heap.push (itO t1 l1)).push (itO t2 l2)).objs.size=s.heap.objs.size+2:=by rw[Heap.size_push,s1]
 have s3:(yh3 t1 t2 t3 s.heap l1 l2 l3).objs.size=s.heap.objs.size+3:=by rw[Heap.size_push,s2]
 have s4:(yh4 t1 t2 t3 s.heap l1 l2 l3).objs.size=s.heap.objs.size+4:=by rw[Heap.size_push,s3]
 have s5:(yh5 t1 t2 t3 s.heap l1 l2 l3).objs.size=s.heap.objs.size+5:=by rw[Heap.size_push,s4]
 have s6:(yh6 t1 t2 t3 s.heap l1 l2 l3).objs.size=s.heap.objs.size+6:=by rw[Heap.size_push,s5]
 have u6:∀ {c o},(yh5 t1 t2 t3 s.heap l1 l2 l3).get? c=some o->(yh6 t1 t2 t3 s.heap l1 l2 l3).get? c=some o:=fun e=>Heap.get?_push_of_some _ e
 have u5:∀ {c o},(yh4 t1 t2 t3 s.heap l1 l2 l3).get? c=some o->(yh6 t1 t2 t3 s.heap l1 l2 l3).get? c=some o:=fun e=>u6 (Heap.get?_push_of_some _ e)
 have u4:∀ {c o},(yh3 t1 t2 t3 s.heap l1 l2 l3).get? c=some o->(yh6 t1 t2 t3 s.heap l1 l2 l3).get? c=some o:=fun e=>u5 (Heap.get?_push_of_some _ e)
 have u3:∀ {c o},((s.heap.push (itO t1 l1)).push (itO t2 l2)).get? c=some o->(yh6 t1 t2 t3 s.heap l1 l2 l3).get? c=some o:=fun e=>u4 (Heap.get?_push_of_some _ e)
 have u2:∀ {c o},(s.heap.push (itO t1 l1)).get? c=some o->(yh6 t1 t2 t3 s.heap l1 l2 l3).get? c=some o:=fun e=>u3 (Heap.get?_push_of_some _ e)
 have g6:(yh6 t1 t2 t3 s.heap l1 l2 l3).get? (yh5 t1 t2 t3 s.heap l1 l2 l3).objs.size=some _:=Heap.get?_push_size _ rfl
 have g5:(yh6 t1 t2 t3 s.heap l1 l2 l3).get? (yh4 t1 t2 t3 s.heap l1 l2 l3).objs.size=some _:=u6 (Heap.get?_push_size _ rfl)
 have g4:(yh6 t1 t2 t3 s.heap l1 l2 l3).get? (yh3 t1 t2 t3 s.heap l1 l2 l3).objs.size=some _:=u5 (Heap.get?_push_size _ rfl)
 have g3:(yh6 t1 t2 t3 s.heap l1 l2 l3).get? ((s.heap.push (itO t1 l1)).push (itO t2 l2)).objs.size=some _:=u4 (Heap.get?_push_size _ (Zc4 _ _))
 have g2:(yh6 t1 t2 t3 s.heap l1 l2 l3).get? (s.heap.push (itO t1 l1)).objs.size=some _:=u3 (Heap.get?_push_size _ (Zc4 _ _))
 have g1:(yh6 t1 t2 t3 s.heap l1 l2 l3).get? s.heap.objs.size=some _:=u2 (Heap.get?_push_size _ (Zc4 _ _))
 show _/\_
 rw[s3,s4,s5] at g6
 rw[s4] at g5
 rw[s1,s2,s3] at g4
 rw[s2] at g3
 rw[s1] at g2
 rw[s5]
 exact⟨⟨_,g6,rfl⟩,q _ ⟨g4,Zfe g1,Zfe g2,Zfe g3,.inl ⟨g6,_,_,_,g5⟩⟩ s6 fun c o e=>u2 (Heap.get?_push_of_some _ e)⟩
end
end Ov
end
section
namespace Ov
open PySem PySem.Spec PyProof.Rows L2
theorem Zib:typeLookup (.type "zip") "__len__" = pure none:=by rw[typeLookup_type,builtinLookup_eq_fast];kernel_rfl
theorem ZgE:typeLookup (.type "zip") "__length_hint__" = pure none:=by rw[typeLookup_type,builtinLookup_eq_fast];kernel_rfl
theorem Z3.ty{t1 t2 t3:Bool}{I l1 l2 l3 i:Nat}{s:Shared}(z:Z3 t1 t2 t3 I l1 l2 l3 i s.heap):s.TypeIs (.ref (I+5)) "zip" := by
 obtain⟨_,_,_,_,⟨hz,_⟩|⟨_,_,_,hz,_⟩⟩:=z
 ·exact⟨_,hz,rfl⟩
 ·exact⟨_,hz,rfl⟩
theorem Z3.lt{t1 t2 t3:Bool}{I l1 l2 l3 i:Nat}{s:Shared}(z:Z3 t1 t2 t3 I l1 l2 l3 i s.heap):I+5<s.heap.objs.size:=by
 obtain⟨o,h,_⟩:=z.ty
 exact Heap.lt_size h
theorem ZmQ{t1 t2 t3:Bool}{I l1 l2 l3 i:Nat}{h:Heap}{o:Obj}(z:Z3 t1 t2 t3 I l1 l2 l3 i h):Z3 t1 t2 t3 I l1 l2 l3 i (h.push o):=by
 have k:∀ {c u},h.get? c=some u->(h.push o).get? c=some u:=fun q=>Heap.get?_push_of_some _ q
 obtain⟨zI,i1,i2,i3,zz⟩:=z
 refine⟨k zI,i1.at' fun o q=>k q,i2.at' fun o q=>k q,i3.at' fun o q=>k q,?_⟩
 rcases zz with ⟨hz,a,b,c,hO⟩|⟨T1,f1,o1,hz,hT,lT⟩
 ·exact .inl ⟨k hz,a,b,c,k hO⟩
 ·exact .inr ⟨T1,f1,o1,k hz,k hT,lT⟩
section
variable {prog:Program} {w:World} {A:Around} {E:Value->Shared->Prop} {s:Shared}
theorem ZkP{z:Addr}{Q:Value->Shared->Prop}(hT:s.TypeIs (.ref z) "zip")(h:Q (.ref z) s):wpAny (model prog w) A (pyIter (.ref z)) Q E s:=by
 refine wpAny_pyIter_slot hT F.slot_zip_iter (wpAny_call_entry F.slot_zip_iter hT F.entry_zip_iter ?_ (F.args_zip_iter_1 _))
 show wpAny _ _ (ret (.ref z)) _ _ s
 exact wpAny_pure ⟨_,rfl, "zip", _,hT,F.slot_zip_next.lookup,h⟩
theorem Zie{t1 t2 t3:Bool}{I l1 l2 l3 n:Nat}{xs ys us:Array Value}{Q:List Value->Shared->Prop}(calm:A.handled=none)(b1:l1<I)(b2:l2<I)(b3:l3<I)(n0:0<n)(nn:n<=1000)(e1:xs.size=n)(e2:ys.size=n)(e3:us.size=n)
    (hz:Z3 t1 t2 t3 I l1 l2 l3 0 s.heap) (q1:ZbQ t1 s.heap l1 xs) (q2:ZbQ t2 s.heap l2 ys) (q3:ZbQ t3 s.heap l3 us)
    (hQ:∀ h2 acc tk,(∀ d o,d∉z3w I->s.heap.get? d=some o->h2.get? d=some o)->Zfu I s.heap.objs.size xs ys us n acc h2->Q acc.toList { s with heap:=h2,toks:=tk }):wpAny (model prog w) A (collect (.ref (I+5))) Q E s:=by
  have lt:=hz.lt
  have hSI:s.heap.objs.size≠I+5:=Nat.ne_of_gt lt
  unfold collect
  refine wpAny_bind (wpAny_runValue (codeAny_builtin F.entry_proto_collect ?_))
  rw[Around.under_plainId F.plain_proto_collect _]
  show wpAny _ A.in1 (newList [] >>= fun l=>again (.builtin "list.__iadd__" ⟨[l,.ref (I+5)],[]⟩)) _ _ s
  refine wpAny_bind (wpAny_newObj_type ?_)
  refine wpAny_pure ⟨plainId_quiet F.plain_list_iadd _,codeAny_builtin F.entry_list_iadd ?_⟩
  rw[Around.under_plainId F.plain_list_iadd _]
  have hz1:Z3 t1 t2 t3 I l1 l2 l3 0 (s.heap.push { cls:=.type "list", data:=.seq ([]:List Value).toArray }):=ZmQ hz
  have ty1:Shared.TypeIs { s with heap:=s.heap.push { cls:=.type "list", data:=.seq ([]:List Value).toArray } } (.ref (I+5)) "zip" := Z3.ty (s:={ s with heap:=s.heap.push { cls:=.type "list", data:=.seq ([]:List Value).toArray } }) hz1
  show wpAny _ A.in1 (Builtin.List.listExtendWith (.ref s.heap.objs.size) (.ref (I+5)) (.ref s.heap.objs.size)) _ _ _
  unfold Builtin.List.listExtendWith
  refine wpAny_bind (wpAny_typeOf ty1 ?_)
  have h1:Builtin.List.listSameRef (.ref s.heap.objs.size) (.ref (I+5))=false:=by simp[Builtin.List.listSameRef,hSI]
  have h2:(Value.type "zip" == Value.type "list")=false:=by decide
  have h3:(Value.type "zip" == Value.type "tuple")=false:=by decide
  simp only[h1,h2,h3,Bool.or_false,Bool.false_eq_true,if_false]
  refine wpAny_bind (ZkP ty1 ?_)
  refine wpAny_bind (wpAny_holding ?_)
  unfold Builtin.List.listLengthHint
  refine wpAny_bind (wpAny_specialOf ty1 Zib ?_)
  show wpAny _ A.in1 (specialOf (Value.ref (I+5)) (Str.ofString "__length_hint__") >>= _) _ _ _
  refine wpAny_bind (wpAny_specialOf ty1 ZgE ?_)
  refine wpAny_pure ?_
  show wpAny _ A.in1 (rule "list.extend.makes-room" >>= fun _=>Builtin.List.listTouch (.ref s.heap.objs.size) >>= fun _ =>
    again (.builtin "list.extend.loop" ⟨[.ref s.heap.objs.size,.ref (I+5),.ref s.heap.objs.size],[]⟩)) _ _ _
  refine wpAny_bind (wpAny_rule ?_)
  have hS₁:(s.heap.push { cls:=.type "list", data:=.seq ([]:List Value).toArray }).get? s.heap.objs.size=some { cls:=.type "list", data:=.seq ([]:List Value).toArray }:=Heap.get?_push_size _ rfl
  refine wpAny_bind ?_
  show wpAny _ A.in1 (updateSeq s.heap.objs.size (·.push .none) >>= fun _=>updateSeq s.heap.objs.size (·.pop)) _ _ _
  refine wpAny_bind (wpAny_updateSeq hS₁ rfl ?_)
  have hS₂:=Heap.get?_update_self (Obj.mapSeq (·.push Value.none)) hS₁ rfl
  refine wpAny_updateSeq hS₂ rfl ?_
  have hS₃:=Heap.get?_update_self (Obj.mapSeq (·.pop)) hS₂ rfl
  have oth:∀ b o,b≠s.heap.objs.size->(s.heap.push { cls:=.type "list", data:=.seq ([]:List Value).toArray }).get? b=some o ->
      (((s.heap.push { cls:=.type "list", data:=.seq ([]:List Value).toArray }).update s.heap.objs.size (Obj.mapSeq (·.push Value.none))).update s.heap.objs.size (Obj.mapSeq (·.pop))).get? b=some o :=
    fun b o hb e=>(Heap.get?_update_other _ _ (Ne.symm hb)).trans ((Heap.get?_update_other _ _ (Ne.symm hb)).trans e)
  have oth':∀ b o,s.heap.get? b=some o->(((s.heap.push { cls:=.type "list", data:=.seq ([]:List Value).toArray }).update s.heap.objs.size (Obj.mapSeq (·.push Value.none))).update s.heap.objs.size (Obj.mapSeq (·.pop))).get? b=some o :=
    fun b o e=>oth b o (Nat.ne_of_lt (Heap.lt_size e)) (Heap.get?_push_of_some _ e)
  refine wpAny_pure ⟨plainId_quiet F.plain_extend_loop _,ZmR calm b1 b2 b3 s.heap.objs.size lt n0 nn e1 e2 e3 n 0 _ _ _ rfl (Nat.zero_le _) (hz1.at' lt oth ⟨_,hS₃⟩) (fun h=>absurd h (Nat.lt_irrefl _)) (q1.at' fun o e=>oth' _ o e) (q2.at' fun o e=>oth' _ o e) (q3.at' fun o e=>oth' _ o e) hS₃ ⟨rfl,fun j hj=>absurd hj (Nat.not_lt_zero _),fun j1 j2 a e=>by simp[Obj.mapSeq] at e⟩ fun h2 acc c tk kp hS hd=>?_⟩
  show wpAny _ A (load s.heap.objs.size >>= _) _ _ _
  refine wpAny_bind (wpAny_load hS ?_)
  exact wpAny_pure (hQ h2 acc tk (fun d o nd e=>kp d o nd (Nat.ne_of_lt (Heap.lt_size e)) (oth' d o e)) hd)
theorem ZmS{t1 t2 t3:Bool}{I l1 l2 l3 n:Nat}{xs ys us:Array Value}{Q₁:Value->Shared->Prop}(calm:A.handled=none)(b1:l1<I)(b2:l2<I)(b3:l3<I)(n0:0<n)(nn:n<=1000)(e1:xs.size=n)(e2:ys.size=n)(e3:us.size=n)
  (hz:Z3 t1 t2 t3 I l1 l2 l3 0 s.heap) (q1:ZbQ t1 s.heap l1 xs) (q2:ZbQ t2 s.heap l2 ys) (q3:ZbQ t3 s.heap l3 us)
  (h:∀ h2 acc tk,(∀ d o,d∉z3w I->s.heap.get? d=some o->h2.get? d=some o)->Zfu I s.heap.objs.size xs ys us n acc h2->Q₁ (.ref h2.objs.size) { s with heap:=h2.push { cls:=.type "tuple", data:=.seq acc },toks:=tk }) :
  codeAny (model prog w) A (.call (.builtin "tuple.__new__") ⟨[.type "tuple", .ref (I+5)],[]⟩) (wants Q₁ E) s:=by
 refine codeAny_of_tree ?_
 show wpAny _ A.in1 (do checkBuiltinCall "tuple.__new__" ⟨[.type "tuple", .ref (I+5)],[]⟩;again (.builtin "tuple.__new__" ⟨[.type "tuple", .ref (I+5)],[]⟩)) _ _ s
 refine wpAny_bind (wpAny_of_eq (F.newCall_tuple_1 _) (wpAny_pure ⟨plainId_quiet F.plain_tuple_new _,codeAny_builtin F.entry_tuple_new ?_⟩))
 rw[Around.under_plainId F.plain_tuple_new _]
 have hsub:=sub_tuple_self
 have hinit:=init_tuple_lookup
 have hmh:=madeHere_tuple
 have hTI:=hz.ty
 have calm2:A.in1.handled=none:=calm
 wp_walk using wpAny_typeOf hTI,Zie calm2 b1 b2 b3 n0 nn e1 e2 e3 hz q1 q2 q3
 intro h2 acc tk kp hd
 show wpAny _ _ (Builtin.Tuple.tupleExact acc.toList.toArray >>= fun v=>ret v) _ _ _
 unfold Builtin.Tuple.tupleExact
 refine wpAny_bind (wpAny_newObj_type ?_ (by show acc.toList.toArray.size<=sizeLine;simp only[Array.toArray_toList];rw[hd.1,sizeLine_eq];omega))
 refine wpAny_pure ?_
 have e:acc.toList.toArray=acc:=by simp
 rw[e]
 exact h h2 acc tk kp hd
theorem ZkU{t1 t2 t3:Bool}{I l1 l2 l3 n:Nat}{xs ys us:Array Value}{Q:Value->Shared->Prop}(calm:A.handled=none)(b1:l1<I)(b2:l2<I)(b3:l3<I)(n0:0<n)(nn:n<=1000)(e1:xs.size=n)(e2:ys.size=n)(e3:us.size=n)
  (hz:Z3 t1 t2 t3 I l1 l2 l3 0 s.heap) (q1:ZbQ t1 s.heap l1 xs) (q2:ZbQ t2 s.heap l2 ys) (q3:ZbQ t3 s.heap l3 us)
  (h:∀ h2 acc tk,(∀ d o,d∉z3w I->s.heap.get? d=some o->h2.get? d=some o)->Zfu I s.heap.objs.size xs ys us n acc h2->Q (.ref h2.objs.size) { s with heap:=h2.push { cls:=.type "tuple", data:=.seq acc },toks:=tk }) :
  wpAny (model prog w) A (call (.type "tuple") [.ref (I+5)]) Q E s:=by
 refine callType_codes (Q₁:=fun obj s₁=>s₁.TypeIs obj "tuple"/\Q obj s₁) F.called_tuple (F.typeCall_tuple_1 _) F.entry_object_init
  (ZmS (by exact calm) b1 b2 b3 n0 nn e1 e2 e3 hz q1 q2 q3 fun h2 acc tk kp hd=>⟨⟨_,Heap.get?_push_size _ rfl,rfl⟩,h h2 acc tk kp hd⟩) fun obj s₁ h₁=>?_
 exact⟨h₁.1,F.args_object_init_2 obj _,object_init_meets F.called_tuple.init.lookup F.called_tuple.made (by decide) prog w A.in1 _ s₁ ⟨h₁.1,rfl,h₁.2⟩⟩
end
end Ov
end
section
namespace Ov
open PySem PySem.Spec PyProof.Rows L2
noncomputable def ZkM(H:Hp)(ps:List (Addr×List V)):Hp:=fun b=>match ps.lookup b with
  | some xs=>some (.tup xs)
  | none=>H b
theorem Zmg{ps:List (Addr×List V)}{a:Addr}{xs:List V}(h:ps.lookup a=some xs):(a,xs)∈ps:=by
 induction ps with
 | nil=>cases h
 | cons p ps ih =>
  obtain⟨b,ys⟩:=p
  rw[List.lookup_cons] at h
  split at h
  ·rename_i e
   cases h
   rw[beq_iff_eq] at e
   subst e
   exact List.mem_cons_self
  ·exact List.mem_cons_of_mem _ (ih h)
theorem Zhn{H:Hp}{ps:List (Addr×List V)}{b:Addr}(h:∀ p∈ps,p.1≠b):ZkM H ps b=H b:=by
 unfold ZkM
 cases e:ps.lookup b with
 | none=>rfl
 | some xs=>exact absurd rfl (h _ (Zmg e))
theorem Zlw{X:Cx}{pins:List (Addr×Obj)}{σ:L2.St}{H:Hp}{s:Shared}{h':Heap}{t':Nat}(ps:List (Addr×List V))(I:Inv X pins σ H s)(k:∀ b u,s.heap.get? b=some u->h'.get? b=some u)(hp:∀ p∈ps,s.heap.objs.size<=p.1)
  (new:∀ p∈ps,p.2.length<=sizeLine/\∃ its:List Value,ZaP p.2 its/\IsTup h' p.1 its.toArray):Inv X pins σ (ZkM H ps) { s with heap:=h',toks:=t' }:=by
 have old:∀ b,b<s.heap.objs.size->ZkM H ps b=H b:=fun b hb=>Zhn fun p hq e=>by
  have:=hp p hq
  rw[e] at this
  exact absurd hb (Nat.not_lt.mpr this)
 have hl:∀ b o,H b=some o->ZkM H ps b=some o:=fun b o q=>by rw[old b (I.hok.lt q)];exact q
 refine I.un ⟨fun b u q _ _ _=>k b u q,fun b u q _ _ _=>⟨u.slots,k b u q⟩,fun b u q n _=>by rw[old b (Heap.lt_size q)];exact n,fun b u q _=>⟨u,k b u q⟩,fun b xs q=>hl b _ q,fun b u xs q=>hl b _ q,fun b xs q=>⟨#[],by rw[hl b _ q];simp⟩⟩ fun b u e=>?_
 unfold ZkM at e
 split at e
 ·rename_i xs hx
  cases e
  exact new _ (Zmg hx)
 ·exact(I.hok b u e).stay (fun c v _ q=>k c v q) (fun c q=>hl c _ q) fun c xs q=>hl c _ q
noncomputable def Zee:List V->List V->List V->List (List V)
 | x::xs,y::ys,u::us=>[x,y,u]::Zee xs ys us
 | _,_,_=>[]
theorem Zf1:∀ (xs ys us:List V) (j:Nat) (r:List V),(Zee xs ys us)[j]?=some r->∃ x y u,xs[j]?=some x/\ys[j]?=some y/\us[j]?=some u/\r=[x,y,u]
 | [],_,_,j,r,h=>by simp[Zee] at h
 | _::_,[],_,j,r,h=>by simp[Zee] at h
 | _::_,_::_,[],j,r,h=>by simp[Zee] at h
 | x::xs,y::ys,u::us,0,r,h=>by
  simp only[Zee,List.getElem?_cons_zero,Option.some.injEq] at h
  exact⟨x,y,u,rfl,rfl,rfl,h.symm⟩
 | x::xs,y::ys,u::us,j+1,r,h=>by
  simp only[Zee,List.getElem?_cons_succ] at h ⊢
  exact Zf1 xs ys us j r h
theorem Zcg{α β:Type}:∀ {as:List α} {bs:List β} {a:α} {b:β},(a,b)∈as.zip bs->∃ j:Nat,as[j]?=some a/\bs[j]?=some b
 | [],_,_,_,h=>by simp at h
 | _::_,[],_,_,h=>by simp at h
 | x::as,y::bs,a,b,h=>by
  simp only[List.zip_cons_cons,List.mem_cons,Prod.mk.injEq] at h
  rcases h with ⟨rfl,rfl⟩|h
  ·exact⟨0,rfl,rfl⟩
  ·obtain⟨j,h1,h2⟩:=Zcg h
   exact⟨j+1,h1,h2⟩
noncomputable def Zzs(K:PySem.W.Frag)(ta:TA):TE:=fun σ H Q=>ta σ H fun vs H1=>∃ t1 t2 t3 a b c xs ys us,vs=[.ref a,.ref b,.ref c]/\SqX t1 K H1 a xs/\SqX t2 K H1 b ys/\SqX t3 K H1 c us/\0<xs.length/\xs.length<=1000/\ys.length=xs.length/\us.length=xs.length /\
 ∀ (as:List Addr) (T:Addr),as.length=xs.length->as.Nodup->(∀ p∈as,H1 p=none)->T∉as->H1 T=none->Q (.ref T) (ZkM H1 ((T,as.map .ref)::as.zip (Zee xs ys us)))
theorem ZlF{I S:Nat}{xs ys us acc:Array Value}{n:Nat}{h:Heap}(d:Zfu I S xs ys us n acc h):∃ as:List Addr,acc.toList=as.map Value.ref/\as.length=n/\as.Nodup/\∀ (j:Nat) (a:Addr),as[j]?=some a->∃ x y u,xs[j]?=some x/\ys[j]?=some y/\us[j]?=some u/\Zft h a x y u/\I+5<a:=by
  obtain⟨hn,hj,inj⟩:=d
  let f:Value->Addr:=fun v=>match v with
    | .ref a=>a
    | _=>0
  have hg:∀ j v,acc.toList[j]?=some v->∃ (a:Nat) (x y u:Value),v=Value.ref a/\xs[j]?=some x/\ys[j]?=some y/\us[j]?=some u/\Zft h a x y u/\I+5<a:=fun j v e=>by
    rw[Array.getElem?_toList] at e
    have lt:j<n:=by rw[<- hn];exact(Array.getElem?_eq_some_iff.mp e).1
    obtain⟨a,x,y,u,r1,r2,r3,r4,r5,r6,_⟩:=hj j lt
    rw[e] at r1
    cases r1
    exact⟨a,x,y,u,rfl,r2,r3,r4,r5,r6⟩
  have hf:∀ v∈acc.toList,Value.ref (f v)=v:=fun v hv=>by
    obtain⟨j,hj⟩:=List.getElem?_of_mem hv
    obtain⟨a,_,_,_,rfl,_⟩:=hg j v hj
    rfl
  have hm:acc.toList=(acc.toList.map f).map Value.ref:=by
    rw[List.map_map]
    conv=>lhs;rw[<- List.map_id acc.toList]
    exact List.map_congr_left fun v hv=>(hf v hv).symm
  refine⟨acc.toList.map f,hm,by rw[List.length_map,Array.length_toList,hn],?_,fun j a e=>?_⟩
  · rw[List.nodup_iff_pairwise_ne,List.pairwise_iff_getElem]
    intro i j hi hj' lt e
    rw[List.length_map,Array.length_toList] at hi hj'
    have at':∀ (k:Nat) (hk:k<acc.size) (hk':k<(acc.toList.map f).length),acc[k]?=some (Value.ref (acc.toList.map f)[k]):=fun k hk hk'=>by
      rw[Array.getElem?_eq_getElem hk,List.getElem_map,hf _ (List.getElem_mem _),Array.getElem_toList]
    have:=inj i j _ (at' i hi _) (by rw[e];exact at' j hj' _)
    omega
  · rw[List.getElem?_map,Option.map_eq_some_iff] at e
    obtain⟨v,hv,rfl⟩:=e
    obtain⟨a,x,y,u,rfl,r⟩:=hg j v hv
    exact⟨x,y,u,r⟩
theorem Zrg{X:Cx}{a b c:Expr}{ta:TA}{p p' pos pos':Pos}(hc:X.calm=true)(hg:Gl X "tuple")(hm:X.mg "tuple" = none)(hg':Gl X "zip")(hm':X.mg "zip" = none)(ha:PA X [a,b,c] ta)
    (hs:starEach [a,b,c] X.env=[(false,eval a X.env),(false,eval b X.env),(false,eval c X.env)]) (hs2:starEach [b,c] X.env=[(false,eval b X.env),(false,eval c X.env)]) :
    PE X (.Call (.Name "tuple" p) [.Call (.Name "zip" p') [a,b,c] [] pos'] [] pos) (Zzs X.K ta):=by
  intro pins s σ H Q I h
  refine Call_ (Zds I hg hm PyProof.Rows.boot_tuple (PyProof.Rows.callWith_type1 ?_ rfl rfl))
  show wpAny _ _ (spliced ((false,eval (.Call (.Name "zip" p') [a,b,c] [] pos') X.env)::backTo pos (starEach [] X.env))) _ _ s
  refine Calls.spliced_cons ?_
  refine Call_ (Zds I hg' hm' PyProof.Rows.boot_zip (PyProof.Rows.callWith_type1 (thn (ha pos' pins s σ H _ I h) fun us s1 ⟨vs,H1,I1,r1,q1⟩=>?_) (by rw[hs,hs2]) (by rw[hs2];rfl)))
  obtain⟨t1,t2,t3,l1,l2,l3,xs,ys,zs,e,sx,sy,sz,n0,nn,ey,ez,q⟩:=q1
  subst e
  cases r1 with
  | cons r rr =>
    cases rr with
    | cons r' rr =>
      cases rr with
      | cons r'' rr =>
        cases rr
        cases r
        cases r'
        cases r''
        obtain⟨xv,rx,ix,_⟩:=Zcy I1 sx
        obtain⟨yv,ry,iy,_⟩:=Zcy I1 sy
        obtain⟨zv,rz,iz,_⟩:=Zcy I1 sz
        refine ZiJ ix iy iz fun h2 z hsz kp=>Calls.spliced_nil ?_
        have lx:=rx.length
        have ly:=ry.length
        have lz:=rz.length
        refine ZkU (s:={ s1 with heap:=h2 }) (n:=xs.length) (I1.ok.hd hc) ix.lt iy.lt iz.lt n0 nn (by simp[lx]) (by simp[<- ly,ey]) (by simp[<- lz,ez]) z (ix.at' fun o e=>kp _ o e) (iy.at' fun o e=>kp _ o e) (iz.at' fun o e=>kp _ o e) fun h3 acc tk kp3 dr=>?_
        obtain⟨as,e1,e2,nd,each⟩:=ZlF dr
        have nw:∀ b,b<s1.heap.objs.size->b∉z3w s1.heap.objs.size:=fun b hb=>Zlq hb
        have kp4:∀ b o,s1.heap.get? b=some o->(h3.push { cls:=.type "tuple", data:=.seq acc }).get? b=some o:=fun b o e=>Heap.get?_push_of_some _ (kp3 b o (nw b (Heap.lt_size e)) (kp b o e))
        have big:∀ a∈as,s1.heap.objs.size<=a/\a<h3.objs.size:=fun a ha=>by
          obtain⟨j,hj⟩:=List.getElem?_of_mem ha
          obtain⟨x,y,u,_,_,_,tr,lt⟩:=each j a hj
          exact⟨Nat.le_of_lt (Nat.lt_of_le_of_lt (Nat.le_add_right _ 5) lt),Heap.lt_size tr⟩
        have b3:s1.heap.objs.size<=h3.objs.size:=by
          obtain⟨a,ha⟩:∃ a,a∈as:=List.exists_mem_of_length_pos (by rw[e2];exact n0)
          exact Nat.le_of_lt (Nat.lt_of_le_of_lt (big a ha).1 (big a ha).2)
        refine⟨.ref h3.objs.size,_,Zlw (s:=s1) (h':=h3.push { cls:=.type "tuple", data:=.seq acc }) (t':=tk) ((h3.objs.size,as.map V.ref)::as.zip (Zee xs ys zs)) I1 kp4 (fun p hp=>?_) (fun p hp=>?_),rfl,q as h3.objs.size e2 nd (fun p hp=>I1.hok.fresh (big p hp).1) (fun hT=>absurd (big _ hT).2 (Nat.lt_irrefl _)) (I1.hok.fresh b3)⟩
        · rcases List.mem_cons.mp hp with rfl|hp
          · exact b3
          · obtain⟨j,h1,h2⟩:=Zcg (a:=p.1) (b:=p.2) hp
            exact(big _ (List.mem_of_getElem? h1)).1
        · rcases List.mem_cons.mp hp with rfl|hp
          · refine⟨by rw[List.length_map,e2,sizeLine_eq];omega,as.map Value.ref,?_,?_⟩
            · clear q each big hp e1 e2 nd
              induction as with
              | nil=>exact .nil
              | cons a as ih=>exact .cons rfl ih
            · rw[<- e1,Array.toArray_toList]
              exact IsTup.new _ _
          · obtain⟨j,h1,h2⟩:=Zcg (a:=p.1) (b:=p.2) hp
            obtain⟨x,y,u,g1,g2,g3,er⟩:=Zf1 _ _ _ _ _ h2
            obtain⟨x',y',u',k1,k2,k3,tr,_⟩:=each j _ h1
            obtain⟨x2,m1,w1⟩:=rx.get g1
            obtain⟨y2,m2,w2⟩:=ry.get g2
            obtain⟨u2,m3,w3⟩:=rz.get g3
            rw[List.getElem?_toArray] at k1 k2 k3
            cases m1.symm.trans k1
            cases m2.symm.trans k2
            cases m3.symm.trans k3
            rw[er]
            exact⟨by show 3<=sizeLine;decide,[x',y',u'],.cons w1 (.cons w2 (.cons w3 .nil)),⟨_,Heap.get?_push_of_some _ tr,rfl,_,rfl⟩⟩
theorem Ze6{K:PySem.W.Frag}{CL:ClA}{H H3:Hp}{A:Addr->Prop}(hA:AOk H A)(sm:Zaj H H3):∀ {as:List Addr} {xs ys us:List V} {ds es fs:List D},(∀ (j:Nat) (a:Addr) (r:List V),as[j]?=some a->(Zee xs ys us)[j]?=some r->H3 a=some (.tup r))->(∀ p∈as,H p=none) ->
  as.length=xs.length->ys.length=xs.length->us.length=xs.length->Reps K CL H A xs ds->Reps K CL H A ys es->Reps K CL H A us fs->Reps K CL H3 A (as.map .ref) (ZmO ds es fs)
 | [],[],[],[],[],[],[],_,_,_,_,_,_,_,_=>trivial
 | a::as,x::xs,y::ys,u::us,d::ds,e::es,f::fs,h,hn,l1,l2,l3,r1,r2,r3 =>
  ⟨⟨a,[x,y,u],rfl,.inl (hA.new (hn a List.mem_cons_self)),SqT.of (h 0 a _ rfl rfl),r1.1.same sm,r2.1.same sm,r3.1.same sm,trivial⟩,
   Ze6 hA sm (fun j a' r p q=>h (j+1) a' r p q) (fun p hp=>hn p (List.mem_cons_of_mem _ hp)) (Nat.succ.inj l1) (Nat.succ.inj l2) (Nat.succ.inj l3) r1.2 r2.2 r3.2⟩
 | [],_::_,_,_,_,_,_,_,_,l,_,_,_,_,_=>nomatch l
 | _::_,[],_,_,_,_,_,_,_,l,_,_,_,_,_=>nomatch l
 | _,[],_::_,_,_,_,_,_,_,_,l,_,_,_,_=>nomatch l
 | _,[],_,_::_,_,_,_,_,_,_,_,l,_,_,_=>nomatch l
 | _,_::_,[],_,_,_,_,_,_,_,l,_,_,_,_=>nomatch l
 | _,_::_,_,[],_,_,_,_,_,_,_,l,_,_,_=>nomatch l
 | _,[],_,_,_::_,_,_,_,_,_,_,_,r,_,_=>r.elim
 | _,_::_,_,_,[],_,_,_,_,_,_,_,r,_,_=>r.elim
 | _,_,[],_,_,_::_,_,_,_,_,_,_,_,r,_=>r.elim
 | _,_,_::_,_,_,[],_,_,_,_,_,_,_,r,_=>r.elim
 | _,_,_,[],_,_,_::_,_,_,_,_,_,_,_,r=>r.elim
 | _,_,_,_::_,_,_,[],_,_,_,_,_,_,_,r=>r.elim
theorem Zmf:∀ {as:List Addr} {rs:List (List V)} {j:Nat} {a:Addr} {r:List V},as.Nodup->as[j]?=some a->rs[j]?=some r->(as.zip rs).lookup a=some r
 | [],_,_,_,_,_,h,_=>by simp at h
 | _::_,[],_,_,_,_,_,h=>by simp at h
 | b::as,q::rs,0,a,r,nd,h1,h2=>by
  simp only[List.getElem?_cons_zero,Option.some.injEq] at h1 h2
  subst h1 h2
  rw[List.zip_cons_cons,List.lookup_cons_self]
 | b::as,q::rs,j+1,a,r,nd,h1,h2=>by
  simp only[List.getElem?_cons_succ] at h1 h2
  have nb:a≠b:=fun e=>by subst e;exact(List.nodup_cons.mp nd).1 (List.mem_of_getElem? h1)
  rw[List.zip_cons_cons,List.lookup_cons,beq_false_of_ne nb]
  exact Zmf (List.nodup_cons.mp nd).2 h1 h2
section
variable {X:Cx} {CL:ClA} {W:XW} {pos p pos' p':Pos} {a b c:Expr} {fa fb fc:Rho->R D}
theorem ZqC(ha:SE X CL W a fa)(hb:SE X CL W b fb)(hd:SE X CL W c fc)(hc:X.calm=true)(hg:Gl X "tuple")(hm:X.mg "tuple" = none)(hg':Gl X "zip")(hm':X.mg "zip" = none)
  (hs:starEach [a,b,c] X.env=[(false,eval a X.env),(false,eval b X.env),(false,eval c X.env)]) (hs2:starEach [b,c] X.env=[(false,eval b X.env),(false,eval c X.env)]) (hs3:starEach [c] X.env=[(false,eval c X.env)]) :
  SE X CL W (.Call (.Name "tuple" p) [.Call (.Name "zip" p') [a,b,c] [] pos'] [] pos) (fun ρ=>((fa ρ).bind fun x=>(fb ρ).bind fun y=>(fc ρ).bind fun z=>Zid x y z).bind fun xs=>.ok (.tup xs)) :=
 fun A=>PE.weak (Zrg hc hg hm hg' hm' (ZaD (ha A) (ZaD (hb A) (ZaD (hd A) Zb6 hs3) (by rw[hs2,hs3])) (by rw[hs,hs2])) hs hs2) fun σ H Q ⟨hA,ρ,g,q⟩=>by
  simp only[R.bind_assoc] at q
  refine⟨hA,ρ,g,ZaJ.bind q fun d v H1 _ s1 r1 p1=>⟨hA.same s1,ρ,g.same s1,ZaJ.bind p1 fun d2 v2 H2 _ s2 r2 p2=>⟨(hA.same s1).same s2,ρ,(g.same s1).same s2,ZaJ.bind p2 fun d3 v3 H3 _ s3 r3 p3=>?_⟩⟩⟩
  unfold Zid at p3
  cases e1:ZaF d with
  | bad=>rw[e1] at p3;exact p3.elim
  | exn z=>exact absurd e1 (by cases d<;>simp[ZaF])
  | ok ds =>
   cases e2:ZaF d2 with
   | bad=>rw[e1,e2] at p3;exact p3.elim
   | exn z=>exact absurd e2 (by cases d2<;>simp[ZaF])
   | ok es =>
    cases e3:ZaF d3 with
    | bad=>rw[e1,e2,e3] at p3;exact p3.elim
    | exn z=>exact absurd e3 (by cases d3<;>simp[ZaF])
    | ok fs =>
     rw[e1,e2,e3] at p3
     simp only[R.bind_ok] at p3
     obtain⟨t1,c1,xs,rfl,k1,rs1⟩:=Zil ((r1.same s2).same s3) e1
     obtain⟨t2,c2,ys,rfl,k2,rs2⟩:=Zil (r2.same s3) e2
     obtain⟨t3,c3,us,rfl,k3,rs3⟩:=Zil r3 e3
     split at p3
     ·rename_i hn
      obtain⟨n0,nn,ny,nz⟩:=hn
      rw[<- rs1.length] at n0 nn ny nz
      rw[<- rs2.length] at ny
      rw[<- rs3.length] at nz
      refine⟨t1,t2,t3,c1,c2,c3,xs,ys,us,rfl,k1 H3 (Kp.of (Zaj.refl H3)),k2 H3 (Kp.of (Zaj.refl H3)),k3 H3 (Kp.of (Zaj.refl H3)),n0,nn,ny,nz,fun as T el nd fr hT fT=>?_⟩
      have hA3:AOk H3 A:=((hA.same s1).same s2).same s3
      have fr':∀ q∈(T,as.map V.ref)::as.zip (Zee xs ys us),H3 q.1=none:=fun q hq=>by
       rcases List.mem_cons.mp hq with rfl|hq
       ·exact fT
       ·obtain⟨j,h1,h2⟩:=Zcg (a:=q.1) (b:=q.2) hq
        exact fr _ (List.mem_of_getElem? h1)
      have sm:Zaj H3 (ZkM H3 ((T,as.map V.ref)::as.zip (Zee xs ys us))):=fun b o e=>by
       rw[Zhn fun q hq z=>by rw[<- z,fr' q hq] at e;cases e]
       exact e
      refine p3 _ _ sm ⟨T,as.map V.ref,rfl,.inl (hA3.new fT),SqT.of ?_,Ze6 hA3 sm (fun j a r h1 h2=>?_) fr el ny nz rs1 rs2 rs3⟩
      ·unfold ZkM
       rw[List.lookup_cons_self]
      ·have na:a≠T:=fun e=>by subst e;exact hT (List.mem_of_getElem? h1)
       unfold ZkM
       rw[List.lookup_cons,beq_false_of_ne na,Zmf nd h1 h2]
     ·exact p3.elim
end
end Ov
end
section
namespace Ov
open PySem PySem.Spec PyProof.Rows L2
section
variable {X:Cx} {CL:ClA} {W:XW}
end
end Ov
end
section
namespace Ov
open PySem PySem.Spec PyProof.Rows L2
section
variable {X:Cx}
variable {CL:ClA} {W:XW} {pos p pos' p':Pos} {a b:Expr} {fa fb:Rho->R D}
end
end Ov
end
section
namespace Ov
open PySem PySem.Spec PyProof.Rows L2
section
variable {X:Cx} {CL:ClA} {W:XW} {e o o' k l:Expr} {fe:Rho->R Ov.D} {i ik il:Nat} {pos spos spos' tpos:Pos} {kt:Nat}
end
end Ov
end
section
namespace Ov
open PySem PySem.Spec PyProof.Rows L2
section
variable {prog:Program} {w:World} {A:Around} {E:Value->Shared->Prop} {s:Shared}
theorem Zgj{it t:Addr}{items:Array Value}(hne:t≠it):∀ (n i:Nat) (s:Shared) (Q:List Value->Shared->Prop),s.heap.IsListIter it t i->s.heap.IsList t items->i+n<=items.size ->
  (∀ h',h'.IsListIter it t (i+n)->Heap.SameBut it s.heap h'->Q ((items.toList.drop i).take n) { s with heap:=h' })->wpAny (model prog w) A (draw (.ref it) n) Q E s
 | 0,i,s,Q,hit,_,_,hQ=>by
  show wpAny _ _ (pure []) Q E s
  exact wpAny_pure (by simpa using hQ s.heap hit (Heap.SameBut.refl ..))
 | n+1,i,s,Q,hit,ht,hle,hQ=>by
  have hlt:i<items.size:=by omega
  show wpAny _ _ (pyNext (.ref it) >>= _) Q E s
  refine wpAny_bind (wpAny_pyNext_list_item hit ht (x:=items[i]) (by simp[hlt]) fun h₁ hit₁ hs₁=>?_)
  refine wpAny_bind (wpAny_holding (Zgj hne n (i+1) _ _ hit₁ (ht.extBut hs₁.extBut hne) (by omega) fun h₂ hit₂ hs₂=>wpAny_pure ?_))
  have hd:items.toList.drop i=items[i]::items.toList.drop (i+1):=by simp[List.drop_eq_getElem_cons,hlt]
  have:=hQ h₂ (by rw[show i+(n+1)=i+1+n by omega];exact hit₂) (hs₁.trans hs₂)
  rw[hd,List.take_succ_cons] at this
  exact this
theorem Zeb{t:Addr}{items:Array Value}{Q:List Value->Shared->Prop}(hh:A.handled=none)(ht:s.heap.IsList t items)
  (hQ:∀ h',Heap.ExtBut s.heap.objs.size s.heap h'->Q items.toList { s with heap:=h' }):wpAny (model prog w) A (unpackItems (.ref t) items.size none) Q E s:=by
 have hlt:t≠s.heap.objs.size:=by obtain⟨o,ho,_⟩:=ht;exact Nat.ne_of_lt (Heap.lt_size ho)
 have htp:(s.heap.push { cls:=.type "list_iterator", data:=.fields #[.ref t,.int 0 0] }).IsList t items:=by
  obtain⟨o,ho,r⟩:=ht
  exact⟨o,Heap.get?_push_of_some _ ho,r⟩
 unfold unpackItems
 refine wpAny_bind ?_
 ·unfold notIterableAtAll
  refine wpAny_bind (wpAny_specialOf ht.typeIs slot_list_iter.lookup ?_)
  refine wpAny_pure ?_
  simp only[Bool.false_eq_true,if_false]
  refine wpAny_bind (wpAny_holding (wpAny_pyIter_list ht ?_))
  refine wpAny_bind (wpAny_holding (Zgj hlt items.size 0 _ _ ⟨_,Heap.get?_push_size _ rfl,rfl,rfl⟩ htp (by omega) fun h₁ hit₁ hs₁=>?_))
  have hall:List.take items.size (List.drop 0 items.toList)=items.toList:=by
   rw[List.drop_zero];exact List.take_of_length_le (by simp)
  rw[hall]
  rw[if_neg (by simp)]
  have ht₁:h₁.IsList t items:=htp.extBut hs₁.extBut hlt
  refine wpAny_bind (wpAny_holding (wpAny_pyNext_list_end hh hit₁ ht₁ (by simp) fun h₂ he₂=>?_))
  simp only[Option.isSome_none,Bool.false_eq_true,if_false]
  refine wpAny_pure (hQ h₂ fun b o hb e=>he₂ b o hb (hs₁.extBut b o hb (Heap.get?_push_of_some _ e)))
theorem ZdY{env:Env}{elts:List Expr}{x1}{pos:Pos}{t:Addr}{items:Array Value}{Q:Unit->Shared->Prop}(hh:A.handled=none)(ht:s.heap.IsList t items)
  (hn:(assignEach elts env).length=items.size) (hstar:(assignEach elts env).findIdx? (·.1)=none)
  (h:∀ h',Heap.ExtBut s.heap.objs.size s.heap h'->wpAny (model prog w) A (assignInOrder ((assignEach elts env).map (·.2)) items.toList) Q E { s with heap:=h' }) :
  wpAny (model prog w) A (assign (.Tuple elts x1 pos) env (.ref t)) Q E s:=by
 rw[assign_Tuple]
 refine wpAny_bind (wpAny_standAt ?_)
 unfold unpack
 rw[hn,hstar]
 exact wpAny_bind (wpAny_holding (Zeb hh ht h))
end
section
variable {X:Cx} {pos:Pos} {CL:ClA}
noncomputable def gSq(K:PySem.W.Frag)(n:Nat)(t:TGs):TG:=fun v σ H Q=>ZpP K n t v σ H Q\/∃ a xs,v=.ref a/\SqL K H a xs/\xs.length=n/\t xs σ H Q
theorem Zwf{es:List Expr}{k:Nat}{t:TGs}{n:Nat}(hc:X.calm=true)(h:PGs X es t)
  (hn:(assignEach es X.env).length=n) (hst:(assignEach es X.env).findIdx? (·.1)=none):PG X (.Tuple es k pos) (gSq X.K n t):=by
 intro pins s σ H v u Q I r hw
 rcases hw with hw|hw
 ·exact Zjs hc h hn hst pins s σ H v u Q I r hw
 ·obtain⟨a,xs,e1,hq,hl,hw⟩:=hw
  subst e1
  cases r
  obtain⟨its,rv,ht,hz⟩:=I.list hq
  refine ZdY (I.ok.hd hc) ht.isList (by simp[hn,<- hl,rv.length]) hst fun h' hx=>?_
  have I1:Inv X pins σ H { s with heap:=h' }:=I.kept (t':=s.toks) fun b o e=>hx b o (Nat.ne_of_lt (Heap.lt_size e)) e
  exact h pins _ σ H xs _ Q I1 (by simpa using rv) hw
theorem ZwZ{K:PySem.W.Frag}(ts:List Nat):GT K CL (Zgw ts) (gSq K ts.length (ts.foldr (fun t u=>Zey (ZcH t) u) Zj1)):=fun Fz B ρ σ H v d ρ' Q x r e k=>by
 cases d with
 | lst ds =>
  obtain⟨a,xs,rfl,na,sq,rs⟩:=r
  rw[Zkw] at e
  cases e2:Za5 ts ds ρ with
  | none=>rw[e2] at e;cases e
  | some ρ2 =>
   rw[e2] at e
   cases e
   exact .inr ⟨a,xs,rfl,sq,by rw[rs.length];exact ZcZ _ _ _ _ e2,ZjZ ts ds xs ρ _ σ Q x rs e2 k⟩
 | _=>exact .inl (Zmm ts Fz B ρ σ H v _ ρ' Q x r e k)
end
end Ov
end
section
namespace Ov
open PySem PySem.W PyProof.Rows
noncomputable def Kr{α:Type}(lt:Nat->Nat->Bool)(n:Nat):KasT α->(α->Prop)->Prop
 | .ret a,Q=>Q a
 | .ask i j k,Q=>i<n/\j<n/\Kr lt n (k (lt i j)) Q
theorem Kr.mono{α:Type}{lt:Nat->Nat->Bool}{n:Nat}{Q Q':α->Prop}:∀ {t:KasT α},Kr lt n t Q->(∀ a,Q a->Q' a)->Kr lt n t Q'
 | .ret _,h,k=>k _ h
 | .ask i j f,h,k=>⟨h.1,h.2.1,Kr.mono (t:=f (lt i j)) h.2.2 k⟩
theorem Kr.bind{α β:Type}{lt:Nat->Nat->Bool}{n:Nat}{f:α->KasT β}{Q:β->Prop}:∀ {t:KasT α},Kr lt n t (fun a=>Kr lt n (f a) Q)->Kr lt n (t.bind f) Q
 | .ret _,h=>h
 | .ask i j k,h=>⟨h.1,h.2.1,Kr.bind (t:=k (lt i j)) h.2.2⟩
structure Sto (lt:Nat->Nat->Bool) (n:Nat):Prop where
 tr:∀ i j k,i<n->j<n->k<n->lt i j=true->lt j k=true->lt i k=true
 tot:∀ i j,i<n->j<n->i≠j->lt i j=false->lt j i=true
 asy:∀ i j,i<n->j<n->lt i j=true->lt j i=false
noncomputable def at0(p:Array Nat)(x:Nat):Nat:=p.getD x 0
structure Pm (n:Nat) (p:Array Nat):Prop where
 sz:p.size=n
 lt:∀ x,x<n->at0 p x<n
 inj:∀ x y,x<n->y<n->at0 p x=at0 p y->x=y
section
variable {lt:Nat->Nat->Bool} {n:Nat}
def Zx2(lt:Nat->Nat->Bool)(p:Array Nat)(m:Nat):Prop:=∀ x y,x<y->y<m->lt (at0 p x) (at0 p y)=true
def Zx6(lt:Nat->Nat->Bool)(p:Array Nat)(m:Nat):Prop:=∀ x y,x<y->y<m->lt (at0 p y) (at0 p x)=true
theorem Zx2.succ{p:Array Nat}{m:Nat}(S:Sto lt n)(hp:Pm n p)(h1:1<=m)(hm:m<n)(h:Zx2 lt p m)(e:lt (at0 p (m-1)) (at0 p m)=true):Zx2 lt p (m+1):=fun x y hxy hy=>by
 by_cases hym:y<m
 ·exact h x y hxy hym
 ·have:y=m:=by omega
  subst this
  by_cases hx:x=y-1
  ·rw[hx];exact e
  ·exact S.tr _ _ _ (hp.lt _ (by omega)) (hp.lt _ (by omega)) (hp.lt _ hm) (h x (y-1) (by omega) (by omega)) e
theorem Zx6.succ{p:Array Nat}{m:Nat}(S:Sto lt n)(hp:Pm n p)(h1:1<=m)(hm:m<n)(h:Zx6 lt p m)(e:lt (at0 p m) (at0 p (m-1))=true):Zx6 lt p (m+1):=fun x y hxy hy=>by
 by_cases hym:y<m
 ·exact h x y hxy hym
 ·have:y=m:=by omega
  subst this
  by_cases hx:x=y-1
  ·rw[hx];exact e
  ·exact S.tr _ _ _ (hp.lt _ hm) (hp.lt _ (by omega)) (hp.lt _ (by omega)) e (h x (y-1) (by omega) (by omega))
end
section
variable {prog:Program} {w:World} {A:Around} {E:Value->Shared->Prop} {κ:SortKind} {it:Array Keyed}
end
section
variable {lt:Nat->Nat->Bool} {n:Nat}
end
end Ov
end
section
namespace Ov
open PySem PySem.W PyProof.Rows
def Zha(h:Heap)(v:Value)(r:List Int):Prop:=∃ a its,v=.ref a/\IsTup h a its/\IntsAre its.toList r/\r≠[]
theorem Zha.kept{h h':Heap}{v:Value}{r:List Int}(t:Zha h v r)(k:∀ b o,h.get? b=some o->h'.get? b=some o):Zha h' v r:=by
 obtain⟨a,its,e,⟨o,ho,q⟩,i,n⟩:=t
 exact⟨a,its,e,⟨o,k _ _ ho,q⟩,i,n⟩
section
variable {prog:Program} {w:World} {A:Around} {E:Value->Shared->Prop} {s:Shared}
end
end Ov
end
section
namespace Ov
theorem Zje{α:Type}[DecidableEq α]{l m:List α}(hl:l.Nodup)(hm:m.Nodup)(h:∀ x,x∈l↔x∈m):l.Perm m:=by
 rw[List.perm_iff_count]
 intro a
 rw[hl.count,hm.count]
 simp[h]
open PySem PySem.Spec PyProof.Rows L2
section
variable {X:Cx} {CL:ClA} {W:XW}
end
end Ov
end
section
namespace Ov
open PySem PySem.Spec PyProof.Rows L2
def Fly(e T:Addr)(cls:Value)(h:Heap):Prop:=∃ oe vs oT ts a0,h.get? e=some oe/\oe.cls=cls/\vs[0]?=some a0/\oe.data=.fields vs/\vs[1]?=some (.ref T)/\T≠e/\h.get? T=some oT/\oT.data=.fields ts/\ts[3]?=some Value.none
structure Shift (ex fs:List Addr) (h h':Heap):Prop where
 keep:∀ b o,h.get? b=some o->b∉ex->b∉fs->h'.get? b=some o
 slot:∀ b o,h.get? b=some o->b∈fs->∃ sl,h'.get? b=some { o with slots:=sl }
theorem Shift.trans{ex fs:List Addr}{h h1 h2:Heap}(a:Shift ex fs h h1)(b:Shift ex fs h1 h2):Shift ex fs h h2 :=
 ⟨fun c o q n m=>b.keep c o (a.keep c o q n m) n m,fun c o q m=>by
  obtain⟨sl,e1⟩:=a.slot c o q m
  obtain⟨sl',e2⟩:=b.slot c _ e1 m
  exact⟨sl',e2⟩⟩
theorem ObjOk.isThere{P:Program}{w:World}{H:Hp}{h:Heap}{a:Addr}:∀ (o:HO),L2.ObjOk P w H h a o->∃ ob,h.get? a=some ob
 | .lst _,x=>by obtain⟨_,_,_,_,e⟩:=x;exact⟨_,e⟩
 | .tup _,x=>by obtain⟨_,_,_,p⟩:=x;obtain⟨o,e,_⟩:=p;exact⟨_,e⟩
 | .dK _,x=>by obtain⟨_,_,_,_,o,_,_,e,_⟩:=x;exact⟨_,e⟩
 | .dT _,x=>by obtain⟨_,_,_,_,o,_,_,e,_⟩:=x;exact⟨_,e⟩
 | .set _ _,x=>by obtain⟨o,_,_,_,e,_⟩:=x;exact⟨_,e⟩
 | .ins _ _ _,x=>by obtain⟨_,_,_,e,_⟩:=x;exact⟨_,e⟩
 | .own _,x=>x
 | .xd _,x=>by obtain⟨_,⟨_,_,_,e,_⟩,_⟩:=x;exact⟨_,e⟩
 | .met _ _,x=>⟨_,x⟩
 | .rng _ _,x=>by obtain⟨_,_,_,e⟩:=x;exact⟨_,e⟩
 | .frz _ _,x=>⟨_,x.1⟩
 | .tbl _,x=>⟨_,x⟩
 | .ext _,x=>x.2.1
theorem ZfG{P:Program}{w:World}{H:Hp}{h:Heap}{a:Addr}(x:HOk P w H h)(e:h.get? a=none):H a=none:=by
 cases q:H a with
 | none=>rfl
 | some o =>
  obtain⟨ob,z⟩:=ObjOk.isThere o (x a o q)
  rw[e] at z;cases z
theorem HOk.shift{P:Program}{w:World}{H:Hp}{h h':Heap}{ex fs:List Addr}(x:HOk P w H h)(sh:Shift ex fs h h')(h1:∀ b∈ex,H b=none)(h2:∀ b∈fs,H b=none):HOk P w H h':=fun a o e =>
 (x a o e).stay (fun b u hb q=>by
  have hs:∃ v,H b=some v:=by
   rcases hb with rfl|hb
   ·exact⟨_,e⟩
   ·exact⟨_,hb⟩
  obtain⟨v,hv⟩:=hs
  exact sh.keep b u q (fun z=>by rw[h1 b z] at hv;cases hv) (fun z=>by rw[h2 b z] at hv;cases hv)) (fun _ q=>q) fun _ _ q=>q
theorem Un.shift{fs0 fs ex:List Addr}{H H':Hp}{h0 h h':Heap}(u:Un fs0 [] H H' h0 h)(sh:Shift ex fs h h')(h1:∀ b∈ex,h0.get? b=none)(h2:∀ b∈fs,b∈fs0\/h0.get? b=none):Un fs0 [] H H' h0 h' where
 keep:=fun b o q n hb hx=>sh.keep b o (u.keep b o q n hb hx) (fun z=>by rw[h1 b z] at q;cases q) fun z=>(h2 b z).elim hb fun e=>by rw[e] at q;cases q
 slot:=fun b o q n hb hx=>by
  obtain⟨sl,e1⟩:=u.slot b o q n hb hx
  by_cases hf:b∈fs
  ·obtain⟨sl',e2⟩:=sh.slot b _ e1 hf
   exact⟨sl',e2⟩
  ·exact⟨sl,sh.keep b _ e1 (fun z=>by rw[h1 b z] at q;cases q) hf⟩
 free:=u.free
 there:=fun b o q hx=>by
  obtain⟨o',e1⟩:=u.there b o q hx
  by_cases hf:b∈fs
  ·obtain⟨sl',e2⟩:=sh.slot b _ e1 hf
   exact⟨_,e2⟩
  ·exact⟨o',sh.keep b _ e1 (fun z=>by rw[h1 b z] at q;cases q) hf⟩
 tups:=u.tups
 frzs:=u.frzs
 tbls:=u.tbls
section
variable {M:Model} {A:Around} {E:Value->Shared->Prop} {s:Shared} {env:Env} {outer:List Env} {L e T:Addr} {cls:Value} {base h:Heap}
theorem Zj4(l:List Env):∀ env∈l,∀ a,env.frame=some a->a∈frs l:=fun env he a hf=>List.mem_filterMap.mpr ⟨env,he,hf⟩
theorem ZlC{l:List Env}(ff:h.FunFrames base l)(fl:Fly e T cls h):∃ a0,Heap.FlyingW (PySem.W.hideAll h (e::T::frs l)) l e cls a0 h:=by
 obtain⟨oe,vs,oT,ts,a0,he,hc,h0,hd,h1,hTe,hT,hdT,h3⟩:=fl
 exact⟨a0,fun b o q=>PySem.W.of_hideAll _ q,PySem.W.hideAll_none _ List.mem_cons_self,PySem.W.funFrames_hide ff fun env he a hf=>List.mem_cons_of_mem _ (List.mem_cons_of_mem _ (Zj4 l env he a hf)),
  oe,vs,T,oT,ts,he,⟨hc,h0⟩,hd,h1,PySem.W.hideAll_none _ (List.mem_cons_of_mem _ List.mem_cons_self),hTe,hT,hdT,h3⟩
theorem ZiU{l:List Env}{h':Heap}(ff:h.FunFrames base l)(up:h.UpToSlots h'){b:Addr}{o:Obj}(ho:h.get? b=some o)(hb:b∈frs l):∃ sl,h'.get? b=some { o with slots:=sl }:=by
 obtain⟨_,o',ho',hn⟩:=ff.mem hb
 rw[ho] at ho';cases ho'
 exact up b o ho hn
theorem ZhM{l:List Env}{h':Heap}{oT:Obj}{ts:Array Value}(ff:h.FunFrames base l)(up:h.UpToSlots h')(hT:h'.get? T=some oT)(hd:oT.data=.fields ts):T∉frs l:=fun hb=>by
 obtain⟨_,o',ho',hn⟩:=ff.mem hb
 obtain⟨sl,e1⟩:=up T o' ho' hn
 rw[hT] at e1
 cases e1
 exact hn ts hd
theorem Zmq{l:List Env}{B h':Heap}{a0:Value}(x:Heap.FlyingW B l e cls a0 h'):∃ T',Fly e T' cls h'/\B.get? T'=none/\∃ oT ts,h'.get? T'=some oT/\oT.data=.fields ts:=by
 obtain⟨_,_,_,oe,vs,T',oT,ts,he,⟨hc,h0⟩,hd,h1,hn,hTe,hT,hdT,h3⟩:=x
 exact⟨T',⟨oe,vs,oT,ts,a0,he,hc,h0,hd,h1,hTe,hT,hdT,h3⟩,hn,oT,ts,hT,hdT⟩
theorem Zj6{l:List Env}{h':Heap}(ff:h.FunFrames base l)(st:(PySem.W.hideAll h (e::T::frs l)).StaysIn h')(up:h.UpToSlots h'):Shift [e,T] (frs l) h h' :=
 ⟨fun b o q n1 n2=>st b o (PySem.W.hideAll_get _ q (by simp only[List.mem_cons,not_or,List.not_mem_nil,or_false] at n1 ⊢;exact⟨n1.1,by first|exact n1.2|exact n1.2.1,n2⟩)),fun b o q hb=>ZiU ff up q hb⟩
theorem Zkc{l:List Env}{h':Heap}{T':Addr}{oT:Obj}{ts:Array Value}(ff:h.FunFrames base l)(up:h.UpToSlots h')(hn:(PySem.W.hideAll h (e::T::frs l)).get? T'=none)(hT:h'.get? T'=some oT)(hd:oT.data=.fields ts)(hne:T'≠e):T'=T\/h.get? T'=none:=by
 cases q:h.get? T' with
 | none=>exact .inr rfl
 | some o =>
  refine .inl ?_
  by_cases hm:T'∈e::T::frs l
  ·rcases List.mem_cons.mp hm with z|hm
   ·exact absurd z hne
   ·rcases List.mem_cons.mp hm with z|hm
    ·exact z
    ·exact absurd hm (ZhM ff up hT hd)
  ·have:=PySem.W.hideAll_get _ q hm
   rw[hn] at this;cases this
theorem Fly.ne(x:Fly e T cls h):T≠e:=by obtain⟨_,_,_,_,_,_,_,_,_,_,z,_⟩:=x;exact z
theorem Zj7{Q:Unit->Shared->Prop}(hfr:A.frames=some (env::outer))(hf:env.frame=some L)(ff:s.heap.FunFrames base (env::outer))(fl:Fly e T cls s.heap)
  (hQ:∀ h' T',Fly e T' cls h'->Shift [e,T] (frs (env::outer)) s.heap h'->(T'=T\/s.heap.get? T'=none)->Q () { s with heap:=h' }):wpAny M A (leaving env (.ref e)) Q E s:=by
 obtain⟨a0,fw⟩:=ZlC ff fl
 refine wpAny_leaves_onW hfr hf fw fun h' fw' up=>?_
 obtain⟨T',fl',hn,oT,ts,hT,hd⟩:=Zmq fw'
 exact hQ h' T' fl' (Zj6 ff fw'.1 up) (Zkc ff up hn hT hd fl'.ne)
theorem Ziu{args:List Value}{Q:Unit->Shared->Prop}(hfr:A.frames=some (env::outer))(hf:env.frame=some L)(ff:h.FunFrames base (env::outer))(hx:Heap.MadeExcOf h s.heap e cls args)
  (hQ:∀ h' T',Fly e T' cls h'->Shift [] (frs (env::outer)) h h'->h.get? T'=none->Q () { s with heap:=h' }):wpAny M A (leaving env (.ref e)) Q E s:=by
 have fh:=PySem.W.funFrames_hide (as:=frs (env::outer)) ff (Zj4 _)
 refine wpAny_leaves_madeW hfr hf (fun b o q=>PySem.W.of_hideAll _ q) fh hx fun h' t fw _ _ up=>?_
 have up':h.UpToSlots h':=(Heap.UpToSlots.of_keeps hx.keeps).trans up
 obtain⟨T',fl',hn,oT,ts,hT,hd⟩:=Zmq fw
 refine hQ h' T' fl' ⟨fun b o q _ n2=>fw.1 b o (PySem.W.hideAll_get _ q n2),fun b o q hb=>ZiU ff up' q hb⟩ ?_
 cases q:h.get? T' with
 | none=>rfl
 | some o =>
  have:=PySem.W.hideAll_get _ q (ZhM ff up' hT hd)
  rw[hn] at this;cases this
end
noncomputable def CXR(P:Program)(w:World):CXT:=fun outer H s E ev s'=>∃ e T cls H',ev=.ref e/\s'.os=s.os/\AllBare s'.gens/\Un (frs outer) [] H H' s.heap s'.heap/\HOk P w H' s'.heap/\Fly e T cls s'.heap/\H' e=none/\H' T=none/\s.heap.get? e=none/\s.heap.get? T=none/\E cls none H'
def Zx3(X:Cx)(CL:ClA)(W:XW):Prop:=∀ pins σ H s h' e C vs x,Inv X pins σ H s->Heap.MadeExcOf s.heap h' e (.ref C) vs->CL x.c=some C->x.fs=[]->W x H->X.xe (.ref e) { s with heap:=h' }
section
variable {P:Program} {w:World} {K:PySem.W.Frag} {mg:Str->Option Value} {base:Heap} {N:List Str} {qual:Str} {scope:Scope} {f:Addr} {cd:Value} {A:Around} {outer:List Env} {s:Shared} {H:Hp} {E:XK} {CL:ClA} {W:XW}
theorem Zj3{X:Cx}{pins:List (Addr×Obj)}{σ:L2.St}{H:Hp}{s:Shared}(I:Inv X pins σ H s):∀ b∈frs X.stack,b∈X.fs\/X.s₀.heap.get? b=none:=fun b hb=>by
 rcases List.mem_cons.mp (I.stkSub b hb) with z|z
 ·exact .inr (by rw[z];exact Heap.get?_none_of_le I.ok.above)
 ·exact .inl z
theorem Zdq{X:Cx}{pins:List (Addr×Obj)}{σ:L2.St}{H:Hp}{s:Shared}{b:Addr}(I:Inv X pins σ H s)(hx:X.ex=[])(h:s.heap.get? b=none):X.s₀.heap.get? b=none:=by
 cases q:X.s₀.heap.get? b with
 | none=>rfl
 | some o =>
  obtain⟨o',z⟩:=I.base.there b o q (by rw[hx];simp)
  rw[h] at z;cases z
theorem Zwm(hE:∀ x cls H',W x H'->(∃ C,CL x.c=some C/\cls=.ref C)->E cls none H'):∀ A',Zfr (CXR P w) (ZfS (CXR P w) P w K mg base N qual scope f cd A outer s H E) (EKW K CL A' W):=by
 intro A' pins σ H1 s1 ev s2 I h
 obtain⟨e,T,cls,H',rfl,os,bare,un,hok,fl,he,hT,ne,nT,x,xr,wx⟩:=h
 have I':=I.call' (s':=s2) (ch:=[]) os un hok bare (fun b z=>absurd z (by simp))
 have hb0:Un (frs outer) [] H H' s.heap s2.heap:=I'.base
 show wpAny (model P w) (A.deeper (envOfC qual scope s.heap.objs.size f cd)) (leaving (envOfC qual scope s.heap.objs.size f cd) (.ref e)) _ _ s2
 refine Zj7 (L:=s.heap.objs.size) I'.ok.frames rfl I'.stack fl fun h' T' fl' sh hT'=>?_
 have e0:s.heap.get? e=none:=Zdq I rfl ne
 have T0:s.heap.get? T=none:=Zdq I rfl nT
 refine⟨e,T',cls,H',rfl,I'.os,bare,Un.shift hb0 sh ?_ (Zj3 I'),HOk.shift hok sh ?_ I'.stkFree,fl',he,?_,e0,?_,?_⟩
 ·intro b hb
  rcases List.mem_cons.mp hb with rfl|hb
  ·exact e0
  ·rw[List.mem_singleton.mp hb];exact T0
 ·intro b hb
  rcases List.mem_cons.mp hb with rfl|hb
  ·exact he
  ·rw[List.mem_singleton.mp hb];exact hT
 ·rcases hT' with rfl|z
  ·exact hT
  ·exact ZfG hok z
 ·rcases hT' with rfl|z
  ·exact T0
  ·exact Zdq I' rfl z
 ·obtain⟨C,c1,c2,_⟩:=xr
  exact hE x cls H' wx ⟨C,c1,c2⟩
theorem rzR(hE:∀ x cls H',W x H'->(∃ C,CL x.c=some C/\cls=.ref C)->E cls none H'):Zx3 (ZfS (CXR P w) P w K mg base N qual scope f cd A outer s H E) CL W:=by
  intro pins σ H1 s1 h2 e C vs x I hm hc hf hw
  have hb0:Un (frs outer) [] H H1 s.heap s1.heap:=I.base
  show wpAny (model P w) (A.deeper (envOfC qual scope s.heap.objs.size f cd)) (leaving (envOfC qual scope s.heap.objs.size f cd) (.ref e)) _ _ { s1 with heap:=h2 }
  refine Ziu (s:={ s1 with heap:=h2 }) (h:=s1.heap) (L:=s.heap.objs.size) I.ok.frames rfl I.stack hm fun h' T' fl' sh hT'=>?_
  refine⟨e,T',.ref C,H1,rfl,I.os,I.bare,Un.shift hb0 sh (fun b hb=>nomatch hb) (Zj3 I),HOk.shift I.hok sh (fun b hb=>nomatch hb) I.stkFree,fl',ZfG I.hok hm.new,ZfG I.hok hT',Zdq I rfl hm.new,Zdq I rfl hT',hE x _ H1 hw ⟨C,hc,rfl⟩⟩
theorem ownR:PassesOwn (model P w) (ZfS (CXR P w) P w K mg base N qual scope f cd A outer s H E).A (ZfS (CXR P w) P w K mg base N qual scope f cd A outer s H E).env (ZfS (CXR P w) P w K mg base N qual scope f cd A outer s H E).xe:=PassesOwn.leaving
end
end Ov
end
section
namespace Ov
open PySem PySem.Spec PyProof.Rows L2
noncomputable def veB:List Value:=[.type "ValueError", .type "Exception", .type "BaseException", .type "object"]
structure XcOk (K:PySem.W.Frag) (C:Addr):Prop where
 exc:PySem.W.excIn K C veB "ValueError.__new__" = true
 ga:PySem.W.findIn K (.ref C) "__getattribute__" = some (some (.builtin "BaseException.__getattribute__"))
 gt:PySem.W.findIn K (.ref C) "__getattr__" = some none
 cl:PySem.W.findIn K (.ref C) "__class__" = some (some (.builtin "object.__class__"))
 ob:PySem.W.mroIn K C (.type "object")=some true
 be:PySem.W.subIn K (.ref C) (.type "BaseException")=some true
 cs:(PySem.W.clsIn K C).isSome=true
 ve:PySem.W.kitOne K (.ref C) (.type "ValueError")=some true
def XAt(e C:Addr)(h:Heap):Prop:=∃ o,h.get? e=some o/\o.cls=.ref C
section
variable {prog:Program} {w:World} {A:Around} {E:Value->Shared->Prop} {h:Heap} {g:Array GenState} {d:Drawn} {t:Nat} {os:OsState} {K:PySem.W.Frag} {e C:Addr}
theorem ZfU{M:Model}(p:XAt e C h):PySem.W.Looks M h (typeOf (.ref e)) (.ref C):=by
 obtain⟨o,h1,h2⟩:=p
 exact h2 ▸ (PySem.W.Looks.ld h1).andThen .now
theorem ZkX{R:Result->Shared->Prop}{tp:Value}(X:K.In h)(p:XAt e C h)(hm:PySem.W.mroIn K C (.type "object")=some true)(hq:R (.ok (.ret (.ref C))) ⟨h,g,d,t,os⟩) :
  codeAny (model prog w) A (.call (.builtin "getset_descriptor.__get__") ⟨[.builtin "object.__class__", .ref e,tp],[]⟩) R ⟨h,g,d,t,os⟩:=by
 have L0:=ZfU (M:=model prog w) p
 have L1:=PySem.W.looks_mroIn (M:=model prog w) X hm
 refine codeAny_call_builtin PySem.W.KF.slot_gs.plain PySem.W.KF.entry_gs (PySem.W.KF.slot_gs.check _ _ _ _ _ _ _ _ PySem.W.KF.type_class (PySem.W.KF.args_gs _ _ _) ?_)
 unfold Builtin.«getset_descriptor.__get__» Builtin.Getset_descriptor.descrGet
 rw[PySem.W.dga_obj]
 refine wpAny_bind (wpAny_pure ?_)
 unfold Builtin.Getset_descriptor.descrGetter Builtin.Getset_descriptor.descrCheckInstance Builtin.Getset_descriptor.descrNameAndClass isInstance
 simp only[PySem.W.KF.owner_class]
 repeat lk
 refine⟨Code.quiet_builtin _ (by decide +kernel),codeAny_builtin PySem.W.KF.entry_class ?_⟩
 unfold Builtin.«object.__class__» shownTypeOf
 repeat lk
 exact hq
theorem Zig{tk:Tok}{Q:Fin->Shared->Prop}(X:K.In h)(x:XcOk K C)(p:XAt e C h)(hq:Q (.done (.ret (.ref C))) ⟨h,g,d,t,os⟩) :
  wpAny (model prog w) A (Builtin.«object.__getattribute__» ⟨[.ref e,.str "__class__" tk],[]⟩) Q E ⟨h,g,d,t,os⟩:=by
 have L0:=ZfU (M:=model prog w) p
 have L1:=PySem.W.looks_findIn (M:=model prog w) X x.cl
 have hT5:(⟨h,g,d,t,os⟩:Shared).TypeIs (.builtin "object.__class__") "getset_descriptor" := F.typeOf_object_class
 have f5:=F.typeOf_object_class
 have f6:=F.slot_gs_get.lookup
 have f7:=F.slot_gs_set.lookup
 repeat (any_goals (first|assumption|with_reducible refine L0.at ?_|with_reducible refine L1.at ?_|wp_step))
 refine ZkX X p x.ob ?_
 repeat (any_goals (first|assumption|wp_step))
theorem Zih{M:Model}{nameV:Value}{Q:Unit->Shared->Prop}(X:K.In h)(x:XcOk K C)(p:XAt e C h)(hq:Q () ⟨h,g,d,t,os⟩):wpAny M A (checkBuiltinCall "BaseException.__getattribute__" ⟨[.ref e,nameV],[]⟩) Q E ⟨h,g,d,t,os⟩:=by
 have hk:builtinKind "BaseException.__getattribute__" = some .slot:=by decide +kernel
 have hsplit:splitId "BaseException.__getattribute__" = some ("BaseException", "__getattribute__"):=by decide +kernel
 have L0:=ZfU (M:=M) p
 have L1:=PySem.W.looks_subIn (M:=M) X x.be
 have ha:=F.args_bexc_ga (.ref e) nameV
 simp only[checkBuiltinCall,hk,hsplit]
 refine wpAny_bind ?_
 ·unfold isInstance
  repeat (first|(with_reducible refine wpAny_bind (L0.at ?_))|(with_reducible refine L1.at ?_)|wp_step)
  exact hq
theorem ZmU{tk:Tok}{fill expr:Bool}{Q:Value->Shared->Prop}(X:K.In h)(x:XcOk K C)(p:XAt e C h)(hq:Q (.ref C) ⟨h,g,d,t,os⟩):wpAny (model prog w) A (getAttrBy (.ref e) (.str "__class__" tk) fill expr) Q E ⟨h,g,d,t,os⟩:=by
 have L0:=ZfU (M:=model prog w) p
 have L1:=PySem.W.looks_findIn (M:=model prog w) X x.ga
 have L2:=PySem.W.looks_findIn (M:=model prog w) X x.gt
 have f3:=F.attr_ValueError.ga.bind (.ref e)
 have hx0:(expr&&onTheHeap (Value.builtin "BaseException.__getattribute__"))=false:=by cases expr<;>rfl
 have hx2:(Value.builtin "BaseException.__getattribute__" == Value.builtin "object.__getattribute__")=false:=by decide +kernel
 have hx1:(onTheHeap (Value.ref C)&&Value.builtin "BaseException.__getattribute__" == Value.builtin "object.__getattribute__")=false:=by rw[hx2];rfl
 repeat (any_goals (first|assumption|with_reducible refine L0.at ?_|with_reducible refine L1.at ?_|with_reducible refine L2.at ?_|wp_step))
 refine codeAny_call_builtin F.attr_ValueError.ga.plain F.entry_bexc_ga (Zih X x p (Zig X x p ?_))
 repeat (any_goals (first|assumption|wp_step))
theorem ZiL{Q:Option Value->Shared->Prop}(X:K.In h)(x:XcOk K C)(p:XAt e C h)(hq:Q (some (.ref C)) ⟨h,g,d,t+1,os⟩):wpAny (model prog w) A (getAttr? (.ref e) "__class__") Q E ⟨h,g,d,t,os⟩:=by
 unfold getAttr? getAttrBy?
 repeat (any_goals (first|assumption|with_reducible apply ZmU X x p|wp_step))
end
theorem ZhQ{K:PySem.W.Frag}{e C:Addr}(x:XcOk K C):PySem.W.KitX K (.ref e) (.ref C) (XAt e C) where
 ty:=fun M h _ p=>ZfU p
 it:=fun M h X _=>by
  obtain⟨cd,hc⟩:=Option.isSome_iff_exists.mp x.cs
  unfold PySem.W.clsIn at hc
  split at hc
  ·rename_i c' d' cd' sl' ho
   intro A' Q' E' s' k q
   unfold isType loadHead
   exact wpAny_bind (wpAny_loadPart (k _ _ (X _ _ ho)) (wpAny_pure q))
  ·cases hc
 ne:=fun h tp dd its n sl X htp=>by
  obtain⟨cd,hc⟩:=Option.isSome_iff_exists.mp x.cs
  refine Bool.eq_false_iff.mpr fun q=>?_
  have e:C=tp:=Value.ref.inj (beq_iff_eq.mp q)
  subst e
  unfold PySem.W.clsIn at hc
  split at hc
  ·rename_i c' d' cd' sl' ho
   have z:=(X _ _ ho).symm.trans htp
   cases z
  ·cases hc
 ca:=fun {_ _ _ _ _ s} X p k=>by
  obtain⟨h,g,d,t,os⟩:=s
  exact ZiL X x p k
end Ov
end
section
namespace Ov
open PySem PySem.Spec PyProof.Rows L2
def Zs9(X:Cx)(pins:List (Addr×Obj))(e:Addr):Prop:=e≠X.env.locals/\(∀ x c,X.env.cells.lookup x=some c->c≠e)/\(∀ p∈X.pn++pins,p.1≠e)/\X.s₀.heap.get? e=none
section
variable {X:Cx} {pins:List (Addr×Obj)} {σ:L2.St} {H:Hp} {s:Shared} {e:Addr}
end
noncomputable def Cx.hot(X:Cx)(e:Addr):Cx:={ X with A:=X.A.mark (some (.ref e)),calm:=false,xe:=fun _ _=>False }
section
variable {X:Cx} {pins:List (Addr×Obj)} {σ:L2.St} {H:Hp} {s:Shared} {e:Addr}
theorem Zrr(ok:X.Ok):(Cx.hot X e).Ok:=⟨ok.mod,ok.kind,ok.glob,ok.blt,ok.above,ok.inj,ok.has,ok.cab,fun z=>(nomatch z),ok.frames,ok.stk,ok.exf,ok.bs,ok.bsz,ok.noex,ok.exfs,ok.funs,ok.frf⟩
theorem ZoB(I:Inv X pins σ H s)(e:Addr):Inv (Cx.hot X e) pins σ H s:=⟨Zrr I.ok,I.os,I.bare,I.base,I.loc,I.cell,I.free,I.freeC,I.pin,I.hok,I.len⟩
end
noncomputable def Zx0(X:Cx)(CL:ClA)(pins:List (Addr×Obj))(σ:L2.St)(H:Hp)(y:Ex)(Xw:Value->Shared->Prop):Prop :=
 ∀ s' H' e T C,Inv X pins σ H' s'->Zaj H H'->Fly e T (.ref C) s'.heap->H' e=none->H' T=none->Zs9 X pins e->Zs9 X pins T->CL y.c=some C->y.fs=[]->Xw (.ref e) s'
def STB(X:Cx)(CL:ClA)(body:List Stmt)(f:Rho->O):Prop:=∀ Fz B pins s σ H D ρ (Xw:Value->Shared->Prop),PassesOwn (model X.prog X.w) X.A X.env Xw->Inv X pins σ H s->Sx X.K CL Fz B ρ σ H ->
  (match f ρ with
   | .exn y ρ'=>ρ'=ρ->Zx0 X CL pins σ H y Xw
   | o=>Zau X.K CL Fz B (fun _ _=>False) o D)->(∀ y ρ',f ρ=.exn y ρ'->ρ'=ρ)->wpAny (model X.prog X.w) X.A (execs body X.env) (SP X pins D) Xw s
end Ov
end
section
namespace Ov
open PySem PySem.Spec PyProof.Rows L2
noncomputable def Cx.pw(X:Cx)(pins:List (Addr×Obj))(Xw:Value->Shared->Prop):Cx:={ X with pn:=X.pn++pins,xe:=Xw }
section
variable {X:Cx} {pins pins':List (Addr×Obj)} {σ:L2.St} {H:Hp} {s:Shared} {Xw:Value->Shared->Prop}
end
section
variable {X:Cx} {CL:ClA} {k n:Nat} {fr:Bool} {f:Addr} {fd:FuncData} {ps:List Str} {F:List D->R D} {x:Str} {p pos pos2:Pos} {e:Expr} {es:List Expr} {fs ft:Rho->R (List D)} {sh:Rho->Bool}
variable (hx0:X.ex=[]) (G:FnOk X.prog X.w X.K X.mg X.base (CXR X.prog X.w) k f fd ps (spD X.K CL n fr F)) (hr:Room k X.A) (hg:Gl X x) (hm:X.mg x=some (.ref f))
    (hk:PySem.W.keepIn X.K (.ref f)=true) (hb:Zei X.K fd ps []) (hst:∀ ρ,sh ρ=true->ft ρ=fs ρ) (hn:∀ ρ ds,ft ρ=.ok ds->ds.length=n) (hnx:∀ ρ y,ft ρ≠.exn y)
    (hdb:(x == ("__debug__" : Str))=false) (he:starEach (e::es) X.env=(false,eval e X.env)::starEach es X.env) (hpl:∀ pos,(backTo pos (starEach es X.env)).any (·.1)=false)
    (ha:∀ pins Xw,PassesOwn (model X.prog X.w) X.A X.env Xw->SA (Cx.pw X pins Xw) CL (fun _ _=>False) (e::es) fs/\SAT (Cx.pw X pins Xw) CL (fun _ _=>False) (e::es) ft)
include hx0 G hr hg hm hk hb hst hn hnx hdb he hpl ha
end
end Ov
end
section
namespace Ov
open PySem PySem.Spec PyProof.Rows L2
section
variable {X:Cx} {CL:ClA} {W:XW}
def ZgB(K:PySem.W.Frag)(CL:ClA)(up:Nat->List Nat)(c':Nat)(C':Addr):Prop:=∀ c C,CL c=some C->PySem.W.kitOne K (.ref C) (.ref C')=some ((up c).contains c')
theorem ZhR{pins:List (Addr×Obj)}{s:Shared}{σ:L2.St}{H:Hp}{a C:Addr}{φ:Heap->Prop}{cv:Value}{b:Bool}{Q:VK}(I:Inv X pins σ H s)(ha:H a=some (.ext φ))(hφ:∀ h,φ h->∃ o,h.get? a=some o/\o.cls=.ref C)(xc:XcOk X.K C)(e:PySem.W.kitOne X.K (.ref C) cv=some b)(q:Q (.bl b) H) :
  wpAny (model X.prog X.w) X.A (call (.builtin "isinstance") [.ref a,cv]) (EP X pins σ Q) X.xe s:=by
 have p:XAt a C s.heap:=hφ _ (I.hok a _ ha).1
 exact PySem.W.kia_one (ZhQ xc) I.kIn p e (by intro z;cases z) fun tk=>⟨.bl b,H,I.tok tk,rfl,q⟩
theorem ZfV:∀ (Cs:List Addr) {its:List Value},ZaP (Cs.map V.ref) its->its=Cs.map Value.ref
 | [],_,rv=>by cases rv;rfl
 | c::cs,_,rv=>by
  cases rv with
  | cons h1 h2=>rw[ZfV cs h2];cases h1;rfl
theorem Zoz{pins:List (Addr×Obj)}{s:Shared}{σ:L2.St}{H:Hp}{a C tp:Addr}{φ:Heap->Prop}{Cs:List Addr}{b:Bool}{Q:VK}(I:Inv X pins σ H s)(ha:H a=some (.ext φ))(hφ:∀ h,φ h->∃ o,h.get? a=some o/\o.cls=.ref C)(xc:XcOk X.K C)(ht:H tp=some (.tup (Cs.map V.ref)))(e:PySem.W.kitAny X.K (.ref C) (Cs.map Value.ref)=some b)(q:Q (.bl b) H) :
  wpAny (model X.prog X.w) X.A (call (.builtin "isinstance") [.ref a,.ref tp]) (EP X pins σ Q) X.xe s:=by
 have p:XAt a C s.heap:=hφ _ (I.hok a _ ha).1
 obtain⟨_,its,rv,⟨o,ho,hc,n,hd⟩⟩:=I.hok tp _ ht
 have ei:its=Cs.map Value.ref:=ZfV Cs rv
 subst ei
 obtain⟨cls,dd,dat,sl⟩:=o
 have hc':cls=.type "tuple" := hc
 have hd':dat=.seq (List.toArray (Cs.map Value.ref)) n:=hd
 subst hc' hd'
 exact PySem.W.kia_tup (ZhQ xc) I.kIn p ho e (by intro z;cases z) fun tk=>⟨.bl b,H,I.tok tk,rfl,q⟩
theorem ZjR{K:PySem.W.Frag}{up:Nat->List Nat}{c:Nat}{C:Addr}(h:CL c=some C):∀ (cs:List (Nat×Addr)),(∀ p∈cs,ZgB K CL up p.1 p.2)->PySem.W.kitAny K (.ref C) ((cs.map fun q:Nat×Addr=>q.2).map Value.ref)=some (cs.any fun p=>(up c).contains p.1)
  | [],_=>rfl
  | p::cs,hk=>by
    have h1:=hk p List.mem_cons_self c C h
    have h2:=ZjR h cs fun q hq=>hk q (List.mem_cons_of_mem _ hq)
    show (match PySem.W.kitOne K (.ref C) (.ref p.2) with
      | some true=>some true
      | some false=>PySem.W.kitAny K (.ref C) ((cs.map fun q:Nat×Addr=>q.2).map Value.ref)
      | none=>none)=_
    rw[h1,List.any_cons]
    cases (up c).contains p.1 with
    | true=>rfl
    | false=>rw[h2];rfl
theorem ZfE{up:Nat->List Nat}{ks:List Ki}{d:D}{Rp:Hp->V->D->Prop}{H:Hp}{Q:VK}(hk:ks.all ZeD=true)(hne:ks≠[])(p:ZaJ Rp W H (Ze1 up ks d) Q):∃ c fs,d=.exc c fs/\ZaJ Rp W H (.ok (.bl (ks.any fun k=>kiD up k d))) Q:=by
 have ha:ks.any ZeD=true:=by
  cases ks with
  | nil=>exact absurd rfl hne
  | cons k ks=>simp only[List.all_cons,Bool.and_eq_true] at hk;simp[List.any_cons,hk.1]
 cases d with
 | exc c fs=>exact⟨c,fs,rfl,by
   have p':ZaJ Rp W H (if ks.all ZeD=true then .ok (.bl (ks.any fun k=>kiD up k (.exc c fs))) else .bad) Q:=p
   rw[if_pos hk] at p'
   exact p'⟩
 | obj c fs=>exact False.elim p
 | dic _=>exact False.elim p
 | non=>simp only[Ze1,ha,if_true] at p;exact False.elim p
 | bl _=>simp only[Ze1,ha,if_true] at p;exact False.elim p
 | int _=>simp only[Ze1,ha,if_true] at p;exact False.elim p
 | str _=>simp only[Ze1,ha,if_true] at p;exact False.elim p
 | tup _=>simp only[Ze1,ha,if_true] at p;exact False.elim p
 | lst _=>simp only[Ze1,ha,if_true] at p;exact False.elim p
theorem ZgK{K:PySem.W.Frag}{H:Hp}{A:Addr->Prop}{v:V}{c:Nat}{fs:List (Str×D)}(r:Zc9 K CL H A v (.exc c fs)):∃ a C φ,v=.ref a/\CL c=some C/\H a=some (.ext φ)/\∀ h,φ h->∃ o,h.get? a=some o/\o.cls=.ref C:=by
 rcases r with ⟨a,C,φ,e,_,hc,hH,hφ,_⟩|⟨a,xs,ds,_,z,_⟩
 ·exact⟨a,C,φ,e,hc,hH,hφ⟩
 ·cases z
variable {a:Expr} {fa:Rho->R D} {up:Nat->List Nat} {x:Str} {p p2 pos:Pos}
theorem Zqz{c':Nat}{C':Addr}(hxc:∀ c C,CL c=some C->XcOk X.K C)(hg:Gl X "isinstance")(hm:X.mg "isinstance" = none)(hg2:Gl X x)(hm2:X.mg x=some (.ref C'))(hkit:ZgB X.K CL up c' C')(hdb:(x == ("__debug__" : Str))=false)
  (ha:ST X CL W a fa) (he:starEach [a,.Name x p2] X.env=(false,eval a X.env)::starEach [.Name x p2] X.env):SE X CL W (.Call (.Name "isinstance" p) [a,.Name x p2] [] pos) (fun ρ=>(fa ρ).bind fun x=>Ze1 up [.cls c'] x):=fun A =>
 PE.weak (Zdn (r:=fun xs H Q=>∃ a C φ c,xs=[.ref a,.ref C']/\CL c=some C/\H a=some (.ext φ)/\(∀ h,φ h->∃ o,h.get? a=some o/\o.cls=.ref C)/\Q (.bl ((up c).contains c')) H) (fun pins s σ H xs us Q I r ⟨b,C,φ,c,e,hc,hH,hφ,q⟩=>by
   subst e
   obtain⟨u,w',rfl,r1,r2⟩:=Zii r
   cases r1
   cases r2
   exact ZhR I hH hφ (hxc c C hc) (hkit c C hc) q)
  hg hm boot_isinstance (ZaD (ha A) (ZaD (Zjt (v:=.ref C') hg2 hm2 rfl hdb) Zb6 rfl) he) (by decide) (by decide) he rfl) fun σ H Q ⟨hA,ρ,g,q⟩=>⟨hA,ρ,g,ZaJ.bind q fun d v H1 _ s1 r1 p1=>by
   obtain⟨c,fs,rfl,p2⟩:=ZfE (by rfl) (by simp) p1
   obtain⟨b,C,φ,rfl,hc,hH,hφ⟩:=ZgK r1
   refine⟨b,C,φ,c,rfl,hc,hH,hφ,p2 _ H1 (Zaj.refl H1) ?_⟩
   show V.bl _=V.bl _
   simp[kiD]⟩
theorem Zqw(hxc:∀ c C,CL c=some C->XcOk X.K C)(hg:Gl X "isinstance")(hm:X.mg "isinstance" = none)(hg2:Gl X "ValueError")(hm2:X.mg "ValueError" = none)
  (ha:ST X CL W a fa) (he:starEach [a,.Name "ValueError" p2] X.env=(false,eval a X.env)::starEach [.Name "ValueError" p2] X.env):SE X CL W (.Call (.Name "isinstance" p) [a,.Name "ValueError" p2] [] pos) (fun ρ=>(fa ρ).bind fun x=>Ze1 up [.verr] x):=fun A =>
 PE.weak (Zdn (r:=fun xs H Q=>∃ a C φ c,xs=[.ref a,.ty "ValueError"]/\CL c=some C/\H a=some (.ext φ)/\(∀ h,φ h->∃ o,h.get? a=some o/\o.cls=.ref C)/\Q (.bl true) H) (fun pins s σ H xs us Q I r ⟨b,C,φ,c,e,hc,hH,hφ,q⟩=>by
   subst e
   obtain⟨u,w',rfl,r1,r2⟩:=Zii r
   cases r1
   cases r2
   exact ZhR I hH hφ (hxc c C hc) (hxc c C hc).ve q)
  hg hm boot_isinstance (ZaD (ha A) (ZaD (Zjv (v:=.ty "ValueError") hg2 hm2 PyProof.Rows.Boot.«ValueError» rfl (by decide) (by decide)) Zb6 rfl) he) (by decide) (by decide) he rfl) fun σ H Q ⟨hA,ρ,g,q⟩=>⟨hA,ρ,g,ZaJ.bind q fun d v H1 _ s1 r1 p1=>by
   obtain⟨c,fs,rfl,p2⟩:=ZfE (by rfl) (by simp) p1
   obtain⟨b,C,φ,rfl,hc,hH,hφ⟩:=ZgK r1
   refine⟨b,C,φ,c,rfl,hc,hH,hφ,p2 _ H1 (Zaj.refl H1) ?_⟩
   show V.bl _=V.bl _
   simp[kiD]⟩
noncomputable def Zye(Cs:List Addr):TA:=fun _ H Q=>Q (Cs.map V.ref) H
theorem Zqx{ts:List Expr}{kk:Nat}{cs:List (Nat×Addr)}(hxc:∀ c C,CL c=some C->XcOk X.K C)(hg:Gl X "isinstance")(hm:X.mg "isinstance" = none)(hts:PA X ts (Zye (cs.map fun q:Nat×Addr=>q.2)))(hne:cs≠[])(hl:cs.length<=1000)(hkit:∀ q∈cs,ZgB X.K CL up q.1 q.2)
  (ha:ST X CL W a fa) (he:starEach [a,.Tuple ts kk p2] X.env=(false,eval a X.env)::starEach [.Tuple ts kk p2] X.env):SE X CL W (.Call (.Name "isinstance" p) [a,.Tuple ts kk p2] [] pos) (fun ρ=>(fa ρ).bind fun x=>Ze1 up (cs.map fun q=>.cls q.1) x):=fun A =>
 PE.weak (Zdn (r:=fun xs H Q=>∃ a C φ c tp,xs=[.ref a,.ref tp]/\CL c=some C/\H a=some (.ext φ)/\(∀ h,φ h->∃ o,h.get? a=some o/\o.cls=.ref C)/\H tp=some (.tup ((cs.map fun q:Nat×Addr=>q.2).map V.ref))/\Q (.bl (cs.any fun q=>(up c).contains q.1)) H) (fun pins s σ H xs us Q I r ⟨b,C,φ,c,tp,e,hc,hH,hφ,ht,q⟩=>by
   subst e
   obtain⟨u,w',rfl,r1,r2⟩:=Zii r
   cases r1
   cases r2
   exact Zoz I hH hφ (hxc c C hc) ht (ZjR hc cs hkit) q)
  hg hm boot_isinstance (ZaD (ha A) (ZaD (Zmc hts) Zb6 rfl) he) (by decide) (by decide) he rfl) fun σ H Q ⟨hA,ρ,g,q⟩=>⟨hA,ρ,g,ZaJ.bind q fun d v H1 _ s1 r1 p1=>by
   have hk:(cs.map fun q=>Ki.cls q.1).all ZeD=true:=by simp[List.all_map,ZeD]
   obtain⟨c,fs,rfl,p2⟩:=ZfE hk (by simpa using hne) p1
   obtain⟨b,C,φ,rfl,hc,hH,hφ⟩:=ZgK r1
   refine⟨by rw[List.length_map,List.length_map,sizeLine_eq];omega,fun t ht=>?_⟩
   have hbt:b≠t:=Zav hH ht
   refine⟨b,C,φ,c,t,rfl,hc,by rw[Zaz hbt];exact hH,hφ,ZbC,p2 _ _ (ZaL ht _) ?_⟩
   show V.bl _=V.bl _
   simp[kiD,List.any_map,Function.comp_def]⟩
end
end Ov
end
section
namespace Ov
open PySem PySem.Spec PyProof.Rows L2
end Ov
end
section
namespace Ov
open PySem PySem.Spec PyProof.Rows L2
noncomputable abbrev ZpS:CXT:=fun _ _ _ _ _ _=>False
structure HotOk (P:Program) (w:World) (K:PySem.W.Frag) (mg:Str->Option Value) (base:Heap) (k:Nat) (f:Addr) (fd:FuncData) (ps:List Str) (sp:Sp):Prop where
 len:∀ vs H Q E,sp vs H Q E->vs.length=ps.length
 run:∀ (A:Around) (ev:Addr) (outer:List Env) (s:Shared) (H:Hp) (args:Args) (us:List Value) (vs:List V) (Q:VK) (E:XK),Room k A->Env0 P w K mg base (A.mark (some (.ref ev))) outer s H->BindsTo s fd args (ps.zip us)->ZaP vs us->sp vs H Q E ->
  codeAny (model P w) (A.mark (some (.ref ev))) (.call (.ref f) args) (CR ZpS outer P w H s Q E) s
theorem ZrS{P:Program}{w:World}{K:PySem.W.Frag}{mg:Str->Option Value}{base:Heap}{k:Nat}{f:Addr}{name qual:Str}{params:Arguments}{body:List Stmt}{scope:Scope}{dV kV doc pm cdv ct oc:Value}{an od:Option Addr}
  {osl:Array (Option Value)} {N ps:List Str} {sp:Sp} (lk:K.lookup f=some ⟨oc,od,.func (PySem.W.fnOf name qual params body scope dV kV doc pm an cdv ct),osl⟩) (hcd:PySem.W.codeIn K cdv qual=true) (S:FnScope N ps scope)
  (len:∀ vs H Q E,sp vs H Q E->vs.length=ps.length)
  (hbody:∀ (A:Around) (ev:Addr) (outer:List Env) (s:Shared) (H:Hp) (vs:List V) (Q:VK) (E:XK),Room k (A.deeper (envOfC qual scope s.heap.objs.size f cdv))->sp vs H Q E ->
   ∃ t,PSs (Cx.hot (ZfS ZpS P w K mg base N qual scope f cdv A outer s H E) ev) body t/\t { nx:=fun _ H'=>Q .non H',rt:=Q } (start N vs) H) :
  HotOk P w K mg base (k+1) f (PySem.W.fnOf name qual params body scope dV kV doc pm an cdv ct) ps sp:=by
 refine⟨len,fun A ev outer s H args us vs Q E hr e0 hb r hsp=>?_⟩
 have hl:=len _ _ _ _ hsp
 have e1:Env0 P w K mg base A outer s H:=⟨e0.frames,e0.mod,e0.bs,e0.bsz,e0.funs,e0.frf,e0.hok,e0.bare⟩
 have KX:K.In s.heap:=e0.mod.kin.keeps fun b o e=>(e0.bs b o e).1
 have lim:s.heap.NoLimit:=e0.mod.nolimit.keeps fun b o e=>(e0.bs b o e).1
 have hkind:∀ y∈ps.zip us,scope.names.lookup y.1=some .local\/(scope.names.lookup y.1=some .cell/\((cellsFrom (s.heap.objs.size+1) scope.names []).lookup y.1).isSome=true):=fun ⟨n,v⟩ hy=>by
  rcases S.par n (List.of_mem_zip hy).1 with q|q
  ·exact .inl q
  ·exact .inr ⟨q,PySem.W.cellsFrom_some _ _ _ (.inl q)⟩
 have hdp:(A.mark (some (.ref ev))).depth<recursionLimit:=hr.depth
 refine codeAny_call_function hdp (KX _ _ lk) rfl S.co S.gen rfl (PySem.W.codeRec_of KX hcd) (hb _ _ _ _ ?_)
 refine wpAny_newFunctionEnv_cells S.kind hkind fun env he s1 x=>?_
 subst he
 refine⟨lim.keeps x.toInCall.keep,codeAny_func ?_⟩
 obtain⟨t,ht,hq⟩:=hbody A ev outer s H vs Q E (hr.deeper _) hsp
 have I:Inv (ZfS ZpS P w K mg base N qual scope f cdv A outer s H E) [] (start N vs) H s1:=Zgc S hr.hd e1 hl r x
 refine wpAny_mono (ht [] s1 (start N vs) H _ (ZoB I ev) hq) (fun fl s' hs=>?_) fun e s' hs=>hs.elim
 have fin:∀ {σ':L2.St} {H':Hp} {v:V} {u:Value},Inv (Cx.hot (ZfS ZpS P w K mg base N qual scope f cdv A outer s H E) ev) [] σ' H' s'->Zbb v u->Q v H'->CE outer P w H s Q u s' :=
  fun {σ' H' v u} J rv q=>⟨v,H',J.os,J.bare,J.base,J.hok,rv,q⟩
 cases fl with
 | ret u =>
  obtain⟨v,σ',H',J,rv,q⟩:=hs
  exact fin J rv q
 | next =>
  obtain⟨σ',H',J,q⟩:=hs
  exact fin (v:=V.non) (u:=Value.none) J rfl q
 | brk =>
  obtain⟨_,_,_,q⟩:=hs
  exact False.elim q
 | cont =>
  obtain⟨_,_,_,q⟩:=hs
  exact False.elim q
noncomputable def spH(K:PySem.W.Frag)(CL:ClA)(n:Nat)(fr:Bool)(F:List D->R D):Sp:=fun vs H Q _=>∃ (ds:List D) (A:Addr->Prop),vs.length=n/\AOk H A/\Reps K CL H A vs ds/\(match F ds with
  | .ok d=>∀ v H',Zaj H H'->Zeg K CL fr H A H' v d->Q v H'
  | .exn _=>False
  | .bad=>False)
section
variable {X:Cx} {CL:ClA} {ev:Addr}
theorem ZhF{k:Nat}{f:Addr}{fd:FuncData}{ps:List Str}{sp:Sp}{E:XK}{x:Str}{p pos:Pos}{e:Expr}{es:List Expr}{t:TA}(F:HotOk X.prog X.w X.K X.mg X.base k f fd ps sp)(hr:Room k X.A)(hg:Gl X x)(hm:X.mg x=some (.ref f))(hk:PySem.W.keepIn X.K (.ref f)=true)(hb:Zei X.K fd ps [])
  (ha:PA (Cx.hot X ev) (e::es) t) (hdb:(x == ("__debug__" : Str))=false) (he:starEach (e::es) X.env=(false,eval e X.env)::starEach es X.env) (hpl:(backTo pos (starEach es X.env)).any (·.1)=false) :
  PE (Cx.hot X ev) (.Call (.Name x p) (e::es) [] pos) (fun σ H Q=>t σ H fun vs H1=>sp vs H1 Q E):=by
 intro pins s σ H Q I h
 refine wpAny_Call_Name_kw (ZgR (X:=Cx.hot X ev) I hg hm ?_ hdb)
 refine PySem.W.callWith_K (h₀:=X.base) I.ok.mod.kin hk (thn (ha pos pins s σ H _ I h) fun us s1 ⟨vs,H1,I1,r,q⟩=>⟨I1.kIn,?_⟩) he hpl
 have hl:us.length=ps.length:=by rw[<- r.length];exact F.len _ _ _ _ q
 have hb':BindsTo s1 fd ⟨us,[]⟩ (ps.zip us):=by
  have:=hb s1 us I1.kIn (by rw[List.append_nil];exact hl)
  rw[List.append_nil] at this
  exact this
 refine wpAny_call (codeAny_mono (F.run X.A ev X.stack s1 H1 ⟨us,[]⟩ us vs Q E hr I1.env0 hb' r q) fun r s' hq=>?_)
 cases r with
 | error e=>exact False.elim hq
 | ok fl =>
  cases fl with
  | ret u=>exact I1.after hq
  | next=>exact False.elim hq
  | brk=>exact False.elim hq
  | cont=>exact False.elim hq
theorem Zk7{k n:Nat}{fr:Bool}{f:Addr}{fd:FuncData}{ps:List Str}{F:List D->R D}{x:Str}{p pos:Pos}{e:Expr}{es:List Expr}{fs ft:Rho->R (List D)}{sh:Rho->Bool}(G:HotOk X.prog X.w X.K X.mg X.base k f fd ps (spH X.K CL n fr F))(hr:Room k X.A)(hg:Gl X x)(hm:X.mg x=some (.ref f))
  (hk:PySem.W.keepIn X.K (.ref f)=true) (hb:Zei X.K fd ps []) (ha:SA (Cx.hot X ev) CL (fun _ _=>False) (e::es) fs) (hat:SAT (Cx.hot X ev) CL (fun _ _=>False) (e::es) ft) (hst:∀ ρ,sh ρ=true->ft ρ=fs ρ) (hn:∀ ρ ds,ft ρ=.ok ds->ds.length=n)
  (hdb:(x == ("__debug__" : Str))=false) (he:starEach (e::es) X.env=(false,eval e X.env)::starEach es X.env) (hpl:∀ pos,(backTo pos (starEach es X.env)).any (·.1)=false) :
  SC (Cx.hot X ev) CL (fun _ _=>False) fr (.Call (.Name x p) (e::es) [] pos) (fun ρ=>(ft ρ).bind fun ds=>(F ds).bind fun d=>if sh ρ=true then .ok d else if ZlJ fr d=true then .ok d else .bad):=fun A pins s σ H Q I ⟨hA,ρ,gd,q⟩=>by
 dsimp only at q
 by_cases hs:sh ρ=true
 ·rw[hst ρ hs] at q
  refine ZhF (E:=fun _ _ _=>False) G hr hg hm hk hb (ha A) hdb he (hpl _) pins s σ H Q I ⟨hA,ρ,gd,?_⟩
  cases e1:fs ρ with
  | bad=>rw[e1] at q;exact q
  | exn y=>rw[e1] at q;exact q
  | ok ds =>
   rw[e1] at q
   intro vs H1 s1 r1
   refine⟨ds,A,by rw[r1.length];exact hn ρ ds (by rw[hst ρ hs];exact e1),hA.same s1,r1,?_⟩
   have q':ZaJ (Zeg X.K CL fr H A) (fun _ _=>False) H ((F ds).bind fun d=>if sh ρ=true then .ok d else if ZlJ fr d=true then .ok d else .bad) Q:=q
   cases e2:F ds with
   | ok d =>
    rw[e2,R.bind_ok,if_pos hs] at q'
    exact fun v H2 s2 r2=>q' v H2 (s1.trans s2) ⟨r2.1,fun z ds' e'=>let ⟨a,xs,z1,z2,z3⟩:=r2.2 z ds' e';⟨a,xs,z1,s1.free z2,z3⟩⟩
   | exn y=>rw[e2] at q';exact(q' H (Zaj.refl H)).elim
   | bad=>rw[e2] at q';exact q'.elim
 ·refine ZhF (E:=fun _ _ _=>False) G hr hg hm hk hb (hat A) hdb he (hpl _) pins s σ H Q I ⟨hA,ρ,gd,?_⟩
  cases e1:ft ρ with
  | bad=>rw[e1] at q;exact q
  | exn y=>rw[e1] at q;exact q
  | ok ds =>
   rw[e1] at q
   intro vs H1 s1 r1
   refine⟨ds,A0,by rw[r1.plain.length];exact hn ρ ds e1,fun _ z=>z.elim,r1.plain,?_⟩
   have q':ZaJ (Zeg X.K CL fr H A) (fun _ _=>False) H ((F ds).bind fun d=>if sh ρ=true then .ok d else if ZlJ fr d=true then .ok d else .bad) Q:=q
   cases e2:F ds with
   | ok d =>
    rw[e2,R.bind_ok,if_neg hs] at q'
    split at q'
    ·rename_i hc
     exact fun v H2 s2 r2=>q' v H2 (s1.trans s2) (ZmA hA (s1.trans s2) hc ⟨r2.1,fun z ds' e'=>let ⟨a,xs,z1,z2,z3⟩:=r2.2 z ds' e';⟨a,xs,z1,s1.free z2,z3⟩⟩)
    ·exact q'.elim
   | exn y=>rw[e2] at q';exact(q' H (Zaj.refl H)).elim
   | bad=>rw[e2] at q';exact q'.elim
end
end Ov
end
section
namespace Ov
open PySem PySem.Spec PyProof.Rows L2
structure Tc where
 sc:Scope
 N:List Str
 /-- a def's name,its number,how many parameters it has -/
 fns:List (Str×Nat×Nat)
 /-- built-in names that the text does not hide -/
 bl:List Str
 /-- exceptions' classes by their names: those that are raised,all that are asked for -/
 rzs:List (Str×Nat)
 exs:List (Str×Nat)
 /-- the text's constants -/
 gls:List (Str×Nat)
noncomputable def Zur(T:Tc)(x:Str):Bool:=match T.sc.names.lookup x with
  | some .local=>true
  | some .cell=>true
  | some .free=>true
  | _=>false
noncomputable def Zos(T:Tc)(x:Str):Bool:=match T.sc.names.lookup x with
  | some .local=>true
  | some .cell=>true
  | _=>false
noncomputable def glB(T:Tc)(x:Str):Bool:=T.sc.names.lookup x == some .globalImplicit
noncomputable def Zmd(x:Str):Bool:=!(x == ("__debug__" : Str)) && !(x == ("__classdict__" : Str)) && !(x == ("__name__" : Str))
noncomputable def isV(T:Tc)(x:Str)(i:Nat):Bool:=T.N[i]? == some x&&Zur T x&&Zmd x
noncomputable def isB(T:Tc)(x:Str):Bool:=T.bl.contains x&&glB T x&&Zmd x
noncomputable def Za3:Expr->Bool
 | .Starred _ _=>false
 | _=>true
noncomputable def ZgN:Expr->Bool
 | .Slice _ _ _ _=>false
 | _=>true
noncomputable def ZjI:Expr->Bool
 | .Set _ _ _=>false
 | _=>true
noncomputable def Zet:Expr->Bool
 | .ListComp _ _ _ _=>false
 | .SetComp _ _ _ _=>false
 | .DictComp _ _ _ _ _=>false
 | _=>true
noncomputable def ZrN:Expr->Bool
 | .Tuple _ _ _=>true
 | _=>false
noncomputable def Zrv:Expr->Bool
 | .Tuple _ _ _=>false
 | _=>true
noncomputable def ZcP:Expr->Bool
 | .UnaryOp _ _ _=>false
 | .BoolOp _ _ _=>false
 | .IfExp _ _ _ _=>false
 | .Compare _ _ _ _=>false
 | _=>true
noncomputable def Zok:Ki->Option Str
 | .int=>some "int"
 | .bool=>some "bool"
 | .str=>some "str"
 | .list=>some "list"
 | .tuple=>some "tuple"
 | _=>none
noncomputable def Zol:BI->Option Str
 | .len=>some "len"
 | .abs=>none
 | .max=>some "max"
 | .min=>some "min"
 | .int=>some "int"
 | .list=>some "list"
 | .tuple=>some "tuple"
 | .all=>some "all"
 | .any=>some "any"
 | .sum=>some "sum"
 | .sorted=>none
 | _=>none
noncomputable def Znq(o scope:Scope):Scope:={ scope with names:=scope.names.map fun (n,k)=>if (k == .free&&o.kind == .function&&o.names.lookup n == some .cell) then (n,.cell) else (n,k) }
noncomputable def ZpH:List Nat->List Str->List Str->List Str
 | t::ts,x::xs,N=>ZpH ts xs ((N.map fun y=>if y == x then N.getD t x else y).set t x)
 | _,_,N=>N
noncomputable def Zf7:List Str->Bool
 | []=>true
 | x::xs=>!xs.contains x&&Zf7 xs
noncomputable def ZsI(T:Tc)(scope:Scope)(ts:List Nat)(N':List Str):Bool :=
  scope.kind == .function&&scope.names.all (fun y=>scope.names.lookup y.1 == some y.2) &&
  scope.names.all (fun y=>y.2 != .free||T.sc.names.lookup y.1 == some .cell||T.sc.names.lookup y.1 == some .free) &&
  N'.length == T.N.length&&Zf7 N' &&
  (List.range N'.length).all fun i=>ts.contains i||(match N'[i]? with
    | some x=>(scope.names.lookup x != some .local&&scope.names.lookup x != some .cell)&&(scope.names.lookup x != some .free||T.N[i]? == some x)
    | none=>true)
noncomputable def ZaR:List Expr->Option (List Str)
 | []=>some []
 | .Name x _::r=>(ZaR r).map (x :: ·)
 | _=>none
noncomputable def tgN(ys:List Expr):List Str:=(ZaR ys).getD []
noncomputable def tgB(T:Tc):List Nat->List Str->Bool
 | [],[]=>true
 | t::ts,x::xs=>T.N[t]? == some x&&T.sc.names.lookup x == some .local&&tgB T ts xs
 | _,_=>false
noncomputable def tgO(T:Tc)(scope:Scope)(t:Nat)(x:Str):Bool:=T.N[t]? == some x&&(T.sc.names.lookup x == some .local||(T.sc.names.lookup x == some .cell&&scope.names.lookup x == some .cell))
noncomputable def tgC(T:Tc):List Nat->List Str->Bool
 | [],[]=>true
 | t::ts,x::xs=>T.N[t]? == some x&&Zos T x&&tgC T ts xs
 | _,_=>false
noncomputable def Tc.blk(T:Tc)(scope:Scope)(ts:List Nat)(xs:List Str):Tc:={ T with sc:=Znq T.sc scope,N:=ZpH ts xs T.N }
noncomputable def inX(l:List (Str×Nat))(g:Str)(c:Nat):Bool:=l.any fun p=>p.1 == g&&p.2 == c
noncomputable def Zy5(T:Tc)(e:Expr)(b:BI)(as:Es):Bool:=false
noncomputable def Zuh:Expr->Option (Str×Str×Expr×Expr×Expr)
 | .Call (.Name g _) [.Call (.Name h _) [x,y,z] [] _] [] _=>some (g,h,x,y,z)
 | _=>none
theorem ZoR{e:Expr}{g h:Str}{x y z:Expr}(q:Zuh e=some (g,h,x,y,z)):∃ p p' pos pos',e=.Call (.Name g p) [.Call (.Name h p') [x,y,z] [] pos'] [] pos:=by
 unfold Zuh at q
 split at q
 ·cases q
  exact⟨_,_,_,_,rfl⟩
 ·cases q
noncomputable def ZyB:Expr->Option (Str×Str×Expr×Expr)
 | .Call (.Name g _) [.Call (.Name h _) [x,y] [] _] [] _=>some (g,h,x,y)
 | _=>none
noncomputable def Zpy(_:Es):Option (E×E):=none
mutual
noncomputable def ZaN:Nat->Tc->Expr->E->Bool
  | 0,_,_,_=>false
  | n+1,T,e,c=>match c with
    | .non=>(match e with | .Constant .none _ _=>true|_=>false)
    | .bl b=>(match e with | .Constant (.bool b') _ _=>b' == b|_=>false)
    | .int i=>(match e with | .Constant (.int j) _ _=>decide (j=i)|_=>false)
    | .str x=>(match e with | .Constant (.str y) _ _=>decide (y=x)|_=>false)
    | .var i=>(match e with | .Name x _=>isV T x i|_=>false)
    | .glob g=>false
    | .bin op a b=>(match e with | .BinOp x op' y _=>decide (op'=op)&&ZaN n T x a&&ZaN n T y b|_=>false)
    | .un op a=>(match e with | .UnaryOp .USub x _=>decide (op=.USub)&&ZaN n T x a|_=>false)
    | .no a=>(match e with | .UnaryOp .Not x _=>ZaN n T x a|_=>false)
    | .and es=>(match e with | .BoolOp .And xs _=>chkEs n T xs es && !xs.isEmpty|_=>false)
    | .or es=>(match e with | .BoolOp .Or xs _=>chkEs n T xs es && !xs.isEmpty|_=>false)
    | .cmp op a b=>(match e with | .Compare x [op'] [y] _=>decide (op'=op) && !behindInMarks op y&&ZaN n T x a&&ZaN n T y b|_=>false)
    | .cmp2 op1 op2 a b c=>(match e with | .Compare x [o1,o2] [y,z] _=>decide (o1=op1)&&decide (o2=op2) && !lastMarks [op1,op2] [y,z]&&ZaN n T x a&&ZaN n T y b&&ZaN n T z c|_=>false)
    | .ite c a b=>false
    | .call f as=>(match e with | .Call (.Name g _) (x::xs) [] _=>(T.fns.any fun p=>p.1 == g&&p.2.1 == f&&p.2.2 == xs.length+1)&&decide (xs.length<900)&&glB T g&&Zmd g&&chkEs n T (x::xs) as|_=>false)
    | .bi b as=>(match e with | .Call (.Name g _) (x::xs) [] _=>Zol b == some g&&isB T g&&chkEs n T (x::xs) as|_=>false)||Zy5 T e b as||(match Zpy as with|some (a,c)=>(match ZyB e with|some (g,h,x,y)=>decide (b=.list)&&g == ("list" : Str)&&h == ("range" : Str)&&isB T g&&isB T h&&Za3 x&&Za3 y&&ZaN n T x a&&ZaN n T y c|none=>false)|none=>false)
    | .isi a ks=>(match ks with | [k]=>(match e with | .Call (.Name g _) [x,.Name t _] [] _=>g == ("isinstance" : Str)&&isB T g&&Zok k == some t&&isB T t&&Za3 x&&ZaN n T x a|_=>false)|_=>false)
    | .idx a i=>(match e with | .Subscript x y _=>ZgN y&&ZaN n T x a&&ZaN n T y i|_=>false)
    | .sl a lo hi=>(match e with | .Subscript x (.Slice l h none _) _=>ZaN n T x a&&chkO n T l lo&&chkO n T h hi|_=>false)
    | .tup es=>(match e with | .Tuple xs _ _=>chkEs n T xs es&&decide (xs.length<=1000)|_=>false)
    | .lst es=>(match e with | .List xs _=>chkEs n T xs es&&decide (xs.length<=1000)|_=>false)
    | .comp elt t it c=>(match e with | .ListComp x [⟨.Name y _,iter,ifs,0⟩] scope _=>chkI n T false iter it&&ZjI iter&&ZsI T scope [t] (ZpH [t] [y] T.N)&&tgO (T.blk scope [t] [y]) scope t y&&chkT n (T.blk scope [t] [y]) ifs c&&ZaN n (T.blk scope [t] [y]) x elt|_=>false)
    | .compT elt ts it c=>(match e with | .ListComp x [⟨.Tuple ys _ _,iter,ifs,0⟩] scope _=>(ZaR ys).isSome&&chkI n T true iter it&&ZjI iter&&ZsI T scope ts (ZpH ts (tgN ys) T.N)&&tgB (T.blk scope ts (tgN ys)) ts (tgN ys)&&chkT n (T.blk scope ts (tgN ys)) ifs c&&ZaN n (T.blk scope ts (tgN ys)) x elt|_=>false)
    | .tupI it=>(match it with | .zip3 a b c=>(match Zuh e with|some (g,h,x,y,z)=>g == ("tuple" : Str)&&h == ("zip" : Str)&&isB T g&&isB T h&&Za3 x&&Za3 y&&Za3 z&&ZaN n T x a&&ZaN n T y b&&ZaN n T z c|none=>false)|_=>false)
    | .dnew=>false
    | .fld _ _=>false
noncomputable def ZmB:Nat->Tc->Expr->E->Bool
  | 0,_,_,_=>false
  | n+1,T,e,c=>match e with
    | .UnaryOp .Not x _=>(match c with | .no a=>ZmB n T x a|_=>false)
    | .BoolOp .And xs _=>(match c with | .and es=>chkBs n T xs es && !xs.isEmpty|_=>false)
    | .BoolOp .Or xs _=>(match c with | .or es=>chkBs n T xs es && !xs.isEmpty|_=>false)
    | .Compare x ops ys _=>(match c with
      | .cmp op a b=>(match ops,ys with | [op'],[y]=>decide (op'=op) && !behindInMarks op y&&ZaN n T x a&&ZaN n T y b|_,_=>false)
      | .cmp2 op1 op2 a b c=>(match ops,ys with | [o1,o2],[y,z]=>decide (o1=op1)&&decide (o2=op2) && !lastMarks [op1,op2] [y,z]&&ZaN n T x a&&ZaN n T y b&&ZaN n T z c|_,_=>false)
      | _=>false)
    | e=>ZcP e&&ZaN n T e c
noncomputable def chkBs:Nat->Tc->List Expr->Es->Bool
  | 0,_,_,_=>false
  | n+1,T,xs,es=>match xs,es with
    | [],.nil=>true
    | x::xs,.cons e es=>ZmB n T x e&&chkBs n T xs es
    | _,_=>false
noncomputable def chkEs:Nat->Tc->List Expr->Es->Bool
  | 0,_,_,_=>false
  | n+1,T,xs,es=>match xs,es with
    | [],.nil=>true
    | x::xs,.cons e es=>Za3 x&&ZaN n T x e&&chkEs n T xs es
    | _,_=>false
noncomputable def chkO:Nat->Tc->Option Expr->E->Bool
  | 0,_,_,_=>false
  | n+1,T,x,e=>match x with
    | none=>(match e with | .non=>true|_=>false)
    | some x=>(match e with | .non=>false|e=>ZaN n T x e)
noncomputable def chkT:Nat->Tc->List Expr->E->Bool
  | 0,_,_,_=>false
  | n+1,T,xs,e=>match xs with
    | []=>(match e with | .bl true=>true|_=>false)
    | [x]=>ZmB n T x e
    | _=>false
noncomputable def chkI:Nat->Tc->Bool->Expr->I->Bool
  | 0,_,_,_,_=>false
  | n+1,T,tu,e,i=>match i with
    | .e a=>ZaN n T e a
    | .rng a=>(match e with | .Call (.Name g _) [x] [] _=>g == ("range" : Str)&&isB T g&&Za3 x&&ZaN n T x a|_=>false)
    | .enm a=>(match e with | .Call (.Name g _) [x] [] _=>tu&&g == ("enumerate" : Str)&&isB T g&&Za3 x&&ZaN n T x a|_=>false)
    | .zip a b=>(match e with | .Call (.Name g _) [x,y] [] _=>tu&&g == ("zip" : Str)&&isB T g&&Za3 x&&Za3 y&&ZaN n T x a&&ZaN n T y b|_=>false)
    | .rng2 a b=>(match e with | .Call (.Name g _) [x,y] [] _=>g == ("range" : Str)&&isB T g&&Za3 x&&Za3 y&&ZaN n T x a&&ZaN n T y b|_=>false)
    | _=>false
end
noncomputable def Zgn(T:Tc):List Expr->List Ki->Bool
 | [],[]=>true
 | .Name t _::r,.cls c::ks=>inX T.exs t c&&glB T t&&Zmd t&&Zgn T r ks
 | _,_=>false
noncomputable def ZyM(T:Tc)(g:Str)(f:Nat):Bool:=(T.fns.any fun p=>p.1 == g&&p.2.1 == f&&p.2.2 == 1001)&&glB T g&&Zmd g
noncomputable def Zdy:Nat->Tc->Nat->Expr->E->Bool
  | 0,_,_,_,_=>false
  | n+1,T,x,e,c=>match c with
    | .bl b=>(match e with | .Constant (.bool b') _ _=>b' == b|_=>false)
    | .no a=>(match e with | .UnaryOp .Not y _=>Zdy n T x y a|_=>false)
    | .and (.cons a .nil)=>(match e with | .BoolOp .And [y] _=>Zdy n T x y a|_=>false)
    | .and (.cons a (.cons a' as))=>(match e with | .BoolOp .And (y::z::zs) p=>Zdy n T x y a&&Zdy n T x (.BoolOp .And (z::zs) p) (.and (.cons a' as))|_=>false)
    | .isi (.var i) [.verr]=>(match e with | .Call (.Name g _) [.Name v _,.Name t _] [] _=>i == x&&g == ("isinstance" : Str)&&isB T g&&isV T v x&&t == ("ValueError" : Str)&&isB T t|_=>false)
    | .isi (.var i) [.cls c]=>(match e with
      | .Call (.Name g _) [.Name v _,.Name t _] [] _=>i == x&&g == ("isinstance" : Str)&&isB T g&&isV T v x&&inX T.exs t c&&glB T t&&Zmd t
      | _=>false)
    | .isi (.var i) (.cls c::k::ks)=>(match e with
      | .Call (.Name g _) [.Name v _,.Tuple ts _ _] [] _=>i == x&&g == ("isinstance" : Str)&&isB T g&&isV T v x&&Zgn T ts (.cls c::k::ks)&&decide (ts.length<=1000)
      | _=>false)
    | .call f (.cons (.var i) .nil)=>(match e with
      | .Call (.Name g _) [.Name v _] [] _=>ZyM T g f&&isV T v i
      | _=>false)
    | _=>false
noncomputable def ZeE(n:Nat)(T:Tc)(x:Nat):List Expr->Es->Bool
 | [],.nil=>true
 | y::ys,.cons e es=>ZcP y&&Zdy n T x y e&&ZeE n T x ys es
 | _,_=>false
noncomputable def Zpv(n:Nat)(T:Tc)(x:Nat)(e:Expr)(c:E):Bool:=match e with
  | .BoolOp .Or ys _=>(match c with | .or es=>ZeE n T x ys es && !ys.isEmpty|_=>false)
  | e=>ZcP e&&Zdy n T x e c
noncomputable def ZzH:E->Bool
 | .isi _ _=>true
 | .bl _=>true
 | _=>false
noncomputable def Zgo:Nat->Tc->Nat->List Stmt->Ss->Bool
  | 0,_,_,_,_=>false
  | n+1,T,x,sts,ss=>match ss with
    | .nil=>sts.isEmpty
    | .cons (.asg i false e) ss=>(match sts with
      | .Assign [.Name y _] v _::r=>T.N[i]? == some y&&Zos T y&&Zet v&&Zdy n T x v e&&Zgo n T x r ss
      | _=>false)
    | .cons (.ife c a .nil) ss=>(match sts with
      | .If t xs [] _::r=>Zpv n T x t c&&Zgo n T x xs a&&Zgo n T x r ss
      | _=>false)
    | .cons (.ret e) ss=>(match sts with
      | .Return (some v) _::r=>ZzH e&&Zdy n T x v e&&Zgo n T x r ss
      | _=>false)
    | _=>false
mutual
noncomputable def Zdx:Nat->Tc->Stmt->S->Bool
  | 0,_,_,_=>false
  | n+1,T,st,s=>match s with
    | .pass=>false
    | .brk=>false
    | .cont=>false
    | .asg i _ e=>(match st with | .Assign [.Name x _] v _=>T.N[i]? == some x&&Zos T x&&ZaN n T v e|_=>false)
    | .asgT ts e=>(match st with | .Assign [.Tuple ys _ _] v _=>(ZaR ys).isSome&&tgC T ts (tgN ys)&&Zrv v&&ZaN n T v e|_=>false)
    | .expr e=>(match st with | .Expr v _=>Zet v&&ZaN n T v e|_=>false)
    | .ret e=>(match st with | .Return (some v) _=>ZaN n T v e|_=>false)
    | .retN=>false
    | .ife c a b=>(match st with | .If t xs ys _=>ZmB n T t c&&chkSs n T xs a&&chkSs n T ys b|_=>false)
    | .fors t it body=>(match st with | .For (.Name x _) iter xs [] _=>tgC T [t] [x]&&ZjI iter&&chkI n T false iter it&&chkSs n T xs body|_=>false)
    | .forT ts it body=>(match st with | .For (.Tuple ys _ _) iter xs [] _=>(ZaR ys).isSome&&tgC T ts (tgN ys)&&ZjI iter&&chkI n T true iter it&&chkSs n T xs body|_=>false)
    | .whl c body=>false
    | .rais c as=>!(T.rzs.any fun p=>p.2 == c)
    | .tryx _ _ _ _=>false
    | .app i e=>(match st with | .Expr (.Call (.Attribute (.Name x _) m ap) [v] [] cp) _=>m == ("append" : Str)&&isV T x i&&ap.endLine == cp.line&&Za3 v&&ZaN n T v e|_=>false)
    | .ext i e=>false
    | .rev i=>false
    | .clr i=>false
    | .put i k e=>(match st with | .Assign [.Subscript (.Name x _) y _] v _=>isV T x i&&ZgN y&&ZaN n T y k&&ZaN n T v e|_=>false)
    | .swp _ _ _=>false
    | .ins _ _ _=>false
    | .dput _ _ _=>false
    | .dsd _ _ _=>false
    | .rel _=>false
noncomputable def chkSs:Nat->Tc->List Stmt->Ss->Bool
  | 0,_,_,_=>false
  | n+1,T,sts,ss=>match ss with
    | .nil=>sts.isEmpty
    | .cons (.rel i) ss=>chkSs n T sts ss
    | .cons s ss=>(match sts with
      | st::r=>Zdx n T st s&&chkSs n T r ss
      | []=>false)
end
noncomputable def Ziz(fuel:Nat)(hot:Bool)(fns:List (Str×Nat×Nat))(bl:List Str)(rzs exs gls:List (Str×Nat))(ps N:List Str)(st:Stmt)(df:Df):Bool :=
  let sc:=ZaH st
  sc.kind == .function && !sc.isCoroutine && !sc.isGenerator&&Zf7 N&&N.take ps.length == ps&&ps.all (fun x=>sc.names.lookup x == some .local||sc.names.lookup x == some .cell)&&sc.names.all (fun y=>y.2 != .free)&&N.length == df.n &&
  (match hot with
  | true=>Zgo fuel ⟨sc,N,fns,bl,rzs,exs,gls⟩ 0 (ZbL st) df.body
  | false=>chkSs fuel ⟨sc,N,fns,bl,rzs,exs,gls⟩ (ZbL st) df.body)
end Ov
end
section
namespace Ov
open PySem PySem.Spec PyProof.Rows L2
structure XT (up:Nat->List Nat) (xn:Nat->List D->R Ex) (CL:ClA) (rzs exs:List (Str×Nat)) (K:PySem.W.Frag) (mg:Str->Option Value):Prop where
 xc:∀ c C,CL c=some C->XcOk K C
 rz:∀ p∈rzs,∃ C,CL p.2=some C/\mg p.1=some (.ref C)
 ex:∀ p∈exs,∃ C,mg p.1=some (.ref C)/\ZgB K CL up p.2 C/\∀ c D,CL c=some D->PySem.W.subIn K (.ref D) (.ref C)=some ((up c).contains p.2)
 made:∀ c ds,xn c ds=.bad\/xn c ds=.ok ⟨c,[]⟩
 xb:∀ c,(∀ p∈rzs,p.2≠c)->∀ ds,xn c ds=.bad
def Zuo(K:PySem.W.Frag)(mg:Str->Option Value)(CL:ClA)(x:Str)(d:D):Prop:=∃ u v,mg x=some u/\Zbb v u/\∀ H A,Rep K CL H A v d
structure VX (Γ:Gam) (CL:ClA) (k:Nat) (W:XW) (T:Tc) (X:Cx):Prop where
 sc:X.env.scope=T.sc
 kd:T.sc.kind=.function
 N:X.N=T.N
 nd:T.N.Nodup
 calm:X.calm=true
 room:Room k X.A
 bl:∀ x,x∈T.bl->X.mg x=none
 fn:∀ p∈T.fns,∃ f fd ps,X.mg p.1=some (.ref f)/\PySem.W.keepIn X.K (.ref f)=true/\Zei X.K fd ps []/\ps.length=p.2.2%1000/\(p.2.2<1000->FnOk X.prog X.w X.K X.mg X.base (CXR X.prog X.w) k f fd ps (spD X.K CL (p.2.2%1000) (Γ.fr p.2.1) (Γ.F p.2.1)))/\(1000<=p.2.2->HotOk X.prog X.w X.K X.mg X.base k f fd ps (spH X.K CL (p.2.2%1000) (Γ.fr p.2.1) (Γ.F p.2.1)))
 own:PassesOwn (model X.prog X.w) X.A X.env X.xe
 px:∀ A,Zfr (CXR X.prog X.w) X (EKW X.K CL A W)
 rz:Zx3 X CL W
 xt:XT Γ.up Γ.xn CL T.rzs T.exs X.K X.mg
 gl:∀ p∈T.gls,Zuo X.K X.mg CL p.1 (Γ.G p.2)
theorem Zjw{X:Cx}{CL:ClA}:∀ A,Zfr (CXR X.prog X.w) X (EKW X.K CL A W0):=fun A pins σ H s ev s' I h=>by
 obtain⟨e,T,cls,H',_,_,_,_,_,_,_,_,_,_,x,_,w⟩:=h
 exact w.elim
theorem Zvr{X:Cx}{CL:ClA}:Zx3 X CL W0:=fun _ _ _ _ _ _ _ _ _ _ _ _ _ z=>z.elim
def Rf{α:Type}(g f:Rho->R α):Prop:=∀ ρ,g ρ=.bad\/g ρ=f ρ
section
variable {X:Cx} {CL:ClA} {W:XW} {a:Expr} {f g:Rho->R D}
theorem SE.ref(h:SE X CL W a f)(r:Rf g f):SE X CL W a g:=fun A=>PE.weak (h A) fun σ H Q ⟨hA,ρ,q,p⟩=>⟨hA,ρ,q,by
 rcases r ρ with e|e
 ·rw[e] at p;exact p.elim
 ·rw[e] at p;exact p⟩
theorem SB.ref{f g:Rho->R Bool}(h:SB X CL W a f)(r:Rf g f):SB X CL W a g:=fun A=>PT.weak (h A) fun σ H Q ⟨hA,ρ,q,p⟩=>⟨hA,ρ,q,by
 rcases r ρ with e|e
 ·rw[e] at p;exact p.elim
 ·rw[e] at p;exact p⟩
theorem SW.ref{f g:Rho->R Bool}(h:SW X CL W a f)(r:Rf g f):SW X CL W a g:=fun A=>PW.weak (h A) fun σ H Q ⟨hA,ρ,q,p⟩=>⟨hA,ρ,q,by
 rcases r ρ with e|e
 ·rw[e] at p;exact p.elim
 ·rw[e] at p;exact p⟩
theorem SC.ref{fr:Bool}(h:SC X CL W fr a f)(r:Rf g f):SC X CL W fr a g:=fun A=>PE.weak (h A) fun σ H Q ⟨hA,ρ,q,p⟩=>⟨hA,ρ,q,by
 rcases r ρ with e|e
 ·rw[e] at p;exact p.elim
 ·rw[e] at p;exact p⟩
theorem SS.ref{st:Stmt}{f g:Rho->O}(h:SS X CL W st f)(r:∀ ρ,g ρ=.bad\/g ρ=f ρ):SS X CL W st g:=fun Fz B=>PS.weak (h Fz B) fun D σ H ⟨ρ,x,p⟩=>⟨ρ,x,by
 rcases r ρ with e|e
 ·rw[e] at p;exact p.elim
 ·rw[e] at p;exact p⟩
end
theorem Zb7:∀ {l:List Str},Zf7 l=true->l.Nodup
 | [],_=>List.nodup_nil
 | x::xs,h=>by
  unfold Zf7 at h
  simp only[Bool.and_eq_true,Bool.not_eq_true',List.contains_eq_mem,decide_eq_false_iff_not] at h
  exact List.nodup_cons.mpr ⟨h.1,Zb7 h.2⟩
section
variable {T:Tc} {X:Cx} {Γ:Gam} {CL:ClA} {k:Nat} {W:XW}
theorem ZiM{x:Str}(h:Zur T x=true):Vis T.sc x:=by
 unfold Zur at h
 split at h
 ·exact .inl (by assumption)
 ·exact .inr (.inl (by assumption))
 ·exact .inr (.inr (by assumption))
 ·cases h
theorem ZfD{x:Str}(h:Zos T x=true):Loc T.sc x:=by
 unfold Zos at h
 split at h
 ·exact .inl (by assumption)
 ·exact .inr (by assumption)
 ·cases h
theorem Zdi{x:Str}(h:Zmd x=true):(x == ("__debug__" : Str))=false/\(x == ("__classdict__" : Str))=false/\x≠"__name__" := by
 unfold Zmd at h
 simp only[Bool.and_eq_true,Bool.not_eq_true'] at h
 exact⟨h.1.1,h.1.2,fun e=>by subst e;exact absurd h.2 (by simp)⟩
theorem Zgb{x:Str}{i:Nat}{pos:Pos}(v:VX Γ CL k W T X)(h:isV T x i=true):PE X (.Name x pos) (ZlV i):=by
 unfold isV at h
 simp only[Bool.and_eq_true,beq_iff_eq] at h
 obtain⟨h2,h3,_⟩:=Zdi h.2
 exact Zmb (by rw[v.N];exact h.1.1) (by rw[v.sc];exact ZiM h.1.2) h2 h3
theorem Zb9{x:Str}(v:VX Γ CL k W T X)(h:isB T x=true):Gl X x/\X.mg x=none/\x≠"__name__"/\(x == ("__debug__" : Str))=false:=by
 unfold isB glB at h
 simp only[Bool.and_eq_true,beq_iff_eq,List.contains_eq_mem,decide_eq_true_eq] at h
 obtain⟨h2,h3,h4⟩:=Zdi h.2
 exact⟨by show X.env.scope.names.lookup x=_;rw[v.sc];exact h.1.2,v.bl x h.1.1,h4,h2⟩
theorem Zas{x:Expr}{xs:List Expr}{env:Env}(h:Za3 x=true):starEach (x::xs) env=(false,eval x env)::starEach xs env:=by
 cases x<;>first|rfl|cases h
theorem Zk2{y:Expr}(h:ZgN y=true):Zhf y:=by
 intro o i
 cases y<;>first|rfl|cases h
theorem Zhw{e:Expr}{env:Env}(h:ZjI e=true):∀ x,foldedSetIterable e env x=pure x:=by
 intro x
 cases e<;>first|rfl|cases h
theorem Zg1{e:Expr}{t:Option Expr}{l:Nat}{env:Env}(h:Zet e=true):swapsWith e t l env=pure false:=by
 cases e<;>first|rfl|cases h
theorem ZgI{e:Expr}{env:Env}(h:ZcP e=true):∀ whole,isTrue e env whole=(do let v <- whole;standAt e.pos;holding [v] (truthy v)):=by
 intro whole
 cases e<;>first|rfl|cases h
theorem Zim(v:VX Γ CL k W T X)(scope:Scope):relabel scope X.env=Znq T.sc scope:=by
 unfold relabel Znq
 have:∀ n,X.env.kindOf n=T.sc.names.lookup n:=fun n=>by show X.env.scope.names.lookup n=_;rw[v.sc]
 simp only[this,v.sc]
theorem Zkr{scope:Scope}{ts:List Nat}{N':List Str}(v:VX Γ CL k W T X)(h:ZsI T scope ts N'=true):BlockOk X scope N' ts/\N'.Nodup/\scope.kind=.function:=by
 unfold ZsI at h
 simp only[Bool.and_eq_true,beq_iff_eq,List.all_eq_true,Bool.or_eq_true,bne_iff_ne,ne_eq] at h
 obtain⟨⟨⟨⟨⟨h1,h2⟩,h4⟩,h5⟩,h6⟩,h7⟩:=h
 have at7:∀ i x,N'[i]?=some x->i∈ts\/((scope.names.lookup x≠some .local/\scope.names.lookup x≠some .cell)/\(scope.names.lookup x≠some .free\/T.N[i]?=some x)):=fun i x e=>by
  have hi:=(List.getElem?_eq_some_iff.mp e).1
  have:=h7 i (List.mem_range.mpr hi)
  rcases this with z|z
  ·exact .inl (by simpa using z)
  ·rw[e] at z
   simp only[Bool.and_eq_true,bne_iff_ne,ne_eq,Bool.or_eq_true,beq_iff_eq] at z
   exact .inr z
 refine⟨⟨h1,h2,fun y hy hl=>by rw[h2 y hy,hl],fun y hy hf=>?_,by rw[v.N];exact h5,fun i x e hf hn=>?_,fun i x e hl=>?_⟩,Zb7 h6,h1⟩
 ·rw[v.sc]
  rcases h4 y hy with (z|z)|z
  ·exact absurd hf z
  ·exact .inl z
  ·exact .inr z
 ·rw[v.N]
  rcases at7 i x e with z|⟨_,z⟩
  ·exact absurd z hn
  ·exact z.resolve_left fun q=>q hf
 ·rcases at7 i x e with z|⟨z,_⟩
  ·exact z
  ·exact hl.elim (fun q=>absurd q z.1) (fun q=>absurd q z.2)
theorem VX.blk{scope:Scope}{ts:List Nat}{xs:List Str}{cl:List (Str×Addr)}{C:Addr}{s:Shared}{H:Hp}{fp:List Addr}(v:VX Γ CL k W T X)(h:ZsI T scope ts (ZpH ts xs T.N)=true):VX Γ CL k W0 (T.blk scope ts xs) (cxC X scope cl C (ZpH ts xs T.N) s H fp):=by
 obtain⟨_,h2,h3⟩:=Zkr v h
 exact⟨Zim v scope,h3,rfl,h2,v.calm,v.room,v.bl,v.fn,PassesOwn.never,Zjw,Zvr,v.xt,v.gl⟩
theorem ZmY{t:Nat}{x:Str}{pos:Pos}{scope:Scope}(v:VX Γ CL k W T X)(hfn:scope.names.lookup x=some .cell->X.fn x=true)(h:tgO T scope t x=true):PG X (.Name x pos) (ZcH t):=by
 unfold tgO at h
 simp only[Bool.and_eq_true,Bool.or_eq_true,beq_iff_eq] at h
 rcases h with ⟨h1,h2|h2⟩
 ·exact Zes (by rw[v.N];exact v.nd) (by rw[v.N];exact h1) (by rw[v.sc];exact .inl h2) (.inr (by rw[v.sc];exact h2))
 ·exact Zes (by rw[v.N];exact v.nd) (by rw[v.N];exact h1) (by rw[v.sc];exact .inr h2.1) (.inl (hfn h2.2))
theorem ZcM{y:Expr}{r:List Expr}{zs:List Str}(h:ZaR (y::r)=some zs):∃ x p ws,y=.Name x p/\ZaR r=some ws/\zs=x::ws:=by
 cases y with
 | Name x p =>
  have h':(ZaR r).map (x :: ·)=some zs:=h
  cases e:ZaR r with
  | none=>rw[e] at h';cases h'
  | some ws=>rw[e] at h';cases h';exact⟨x,p,ws,rfl,rfl,rfl⟩
 | _=>cases h
theorem ZeB(x:Str)(p:Pos)(r:List Expr)(env:Env):assignEach (.Name x p::r) env=(false,assign (.Name x p) env)::assignEach r env:=rfl
theorem ZcL{env:Env}:∀ (ys:List Expr) (zs:List Str),ZaR ys=some zs->(assignEach ys env).length=ys.length/\(assignEach ys env).findIdx? (·.1)=none/\(assignEach ys env).map (·.2)=ys.map fun y=>assign y env:=by
 intro ys
 induction ys with
 | nil=>intro _ _;exact⟨rfl,rfl,rfl⟩
 | cons y r ih =>
  intro zs h
  obtain⟨x,p,ws,rfl,e,rfl⟩:=ZcM h
  obtain⟨h1,h2,h3⟩:=ih ws e
  rw[ZeB]
  refine⟨?_,?_,?_⟩
  ·rw[List.length_cons,List.length_cons,h1]
  ·rw[List.findIdx?_cons,h2]
   simp
  ·rw[List.map_cons,List.map_cons,h3]
theorem Zm2(v:VX Γ CL k W T X):∀ (ys:List Expr) (ts:List Nat) (zs:List Str),ZaR ys=some zs->tgB T ts zs=true->PGs X ys (ts.foldr (fun t u=>Zey (ZcH t) u) Zj1)/\ts.length=ys.length:=by
 intro ys
 induction ys with
 | nil =>
  intro ts zs e h
  cases e
  cases ts with
  | nil=>exact⟨Zjr,rfl⟩
  | cons t ts=>cases h
 | cons y r ih =>
  intro ts zs e h
  obtain⟨x,p,ws,rfl,e2,rfl⟩:=ZcM e
  cases ts with
  | nil=>cases h
  | cons t ts =>
   have h':(T.N[t]? == some x&&T.sc.names.lookup x == some .local&&tgB T ts ws)=true:=h
   simp only[Bool.and_eq_true,beq_iff_eq] at h'
   obtain⟨h1,h2⟩:=ih ts ws e2 h'.2
   exact⟨ZhE (Zes (by rw[v.N];exact v.nd) (by rw[v.N];exact h'.1.1) (by rw[v.sc];exact .inl h'.1.2) (.inr (by rw[v.sc];exact h'.1.2))) h1 (by rw[ZeB];rfl),congrArg (· + 1) h2⟩
theorem Zm1{ts:List Nat}{ys:List Expr}{kk:Nat}{pos:Pos}(v:VX Γ CL k W T X)(hn:(ZaR ys).isSome=true)(h:tgB T ts (tgN ys)=true):PG X (.Tuple ys kk pos) (ZpP X.K ts.length (ts.foldr (fun t u=>Zey (ZcH t) u) Zj1)):=by
 cases e:ZaR ys with
 | none=>rw[e] at hn;cases hn
 | some zs =>
  have e2:tgN ys=zs:=by unfold tgN;rw[e];rfl
  rw[e2] at h
  obtain⟨h1,h2⟩:=Zm2 v ys ts zs e h
  obtain⟨h3,h4,_⟩:=ZcL (env:=X.env) ys zs e
  exact Zjs v.calm h1 (by rw[h3,h2]) h4
end
noncomputable def Es.len:Es->Nat
 | .nil=>0
 | .cons _ es=>es.len+1
theorem ZgY(Γ:Gam)(ρ:Rho):∀ (es:Es) (ds:List D),evA Γ ρ es=.ok ds->ds.length=es.len
 | .nil,ds,h=>by cases h;rfl
 | .cons e es,ds,h=>by
  obtain⟨x,h1,h2⟩:=Zbn (ZhX Γ ρ e es ▸ h)
  obtain⟨xs,h3,h4⟩:=Zbn h2
  cases h4
  exact congrArg (· + 1) (ZgY Γ ρ es xs h3)
theorem ZgX(Γ:Gam)(ρ:Rho):∀ (es:Es) (ds:List D),evB Γ ρ es=.ok ds->ds.length=es.len
 | .nil,ds,h=>by cases h;rfl
 | .cons e es,ds,h=>by
  obtain⟨x,h1,h2⟩:=Zbn (ZhW Γ ρ e es ▸ h)
  obtain⟨xs,h3,h4⟩:=Zbn h2
  cases h4
  exact congrArg (· + 1) (ZgX Γ ρ es xs h3)
theorem ZlU(Γ:Gam)(ρ:Rho)(e:E)(h:shE ρ e=true):top ρ e (evE Γ ρ e)=evE Γ ρ e:=by
 cases e with
 | var i =>
  show ZgF ρ i=ZgC ρ i
  have h':shV ρ i=true:=h
  unfold shV at h'
  unfold ZgF ZgC
  cases q:ρ[i]? with
  | none=>rfl
  | some x =>
   cases x with
   | none=>rfl
   | some y =>
    obtain⟨d,o⟩:=y
    cases o with
    | true=>rw[q] at h';cases h'
    | false=>rfl
 | _=>rfl
theorem Zj8(Γ:Gam)(ρ:Rho):∀ (es:Es),Zk3 ρ es=true->evB Γ ρ es=evA Γ ρ es
 | .nil,_=>rfl
 | .cons e es,h=>by
  simp only[Zi7,Bool.and_eq_true] at h
  rw[ZhX,ZhW,ZlU Γ ρ e h.1,Zj8 Γ ρ es h.2]
theorem ZiY(Γ:Gam)(c:E):Rf (fun ρ=>evE Γ ρ c) (fun ρ=>top ρ c (evE Γ ρ c)):=fun ρ=>by
 by_cases h:shE ρ c=true
 ·exact .inr (ZlU Γ ρ c h).symm
 ·cases c with
  | var i =>
   refine .inl ?_
   show ZgC ρ i=.bad
   have h':¬ shV ρ i=true:=h
   unfold shV at h'
   unfold ZgC
   cases q:ρ[i]? with
   | none=>rfl
   | some x =>
    cases x with
    | none=>rfl
    | some y =>
     obtain⟨d,o⟩:=y
     cases o with
     | true=>rfl
     | false=>rw[q] at h';exact absurd rfl h'
  | _=>exact absurd rfl h
end Ov
end
section
namespace Ov
open PySem PySem.Spec PyProof.Rows L2
def Pcs(X:Cx)(CL:ClA)(W:XW)(e:Expr)(f:Rho->R D):Prop:=∃ tg iter elt ifs scope pos N' ts fi fc fe as g,e=.ListComp elt [⟨tg,iter,ifs,0⟩] scope pos/\BlockOk X scope N' ts/\SI X CL W tg iter fi/\GG X.K CL ts as g /\
 (∀ cl C s H fp,PG (cxC X scope cl C N' s H fp) tg g)/\(∀ cl C s H fp,STs (cxC X scope cl C N' s H fp) CL ifs fc)/\(∀ cl C s H fp,SE (cxC X scope cl C N' s H fp) CL W0 elt fe)/\(∀ x,foldedSetIterable iter X.env x=pure x) /\
 ∀ ρ,f ρ=(fi ρ).bind fun xs=>(noX (Zal (fun x=>(as x ρ).bind fc) (fun x=>(as x ρ).bind fe) xs)).bind fun ys=>.ok (.lst ys)
theorem Pcs.sc{X:Cx}{CL:ClA}{W:XW}{e:Expr}{f:Rho->R D}(hc:X.calm=true)(h:Pcs X CL W e f):SC X CL W true e f:=by
 obtain⟨tg,iter,elt,ifs,scope,pos,N',ts,fi,fc,fe,as,g,rfl,B,hi,hGG,hg,ht,he,hs,ef⟩:=h
 exact SC.congr (Znk hc B hi hGG hg ht he hs) ef
structure OkE (Γ:Gam) (CL:ClA) (W:XW) (X:Cx) (e:Expr) (c:E):Prop where
 se:SE X CL W e (fun ρ=>evE Γ ρ c)
 st:ST X CL W e (fun ρ=>top ρ c (evE Γ ρ c))
 nw:ZfB Γ c=true->SC X CL W true e (fun ρ=>evE Γ ρ c)
 cp:Zet e=false->Pcs X CL W e (fun ρ=>evE Γ ρ c)
section
variable {Γ:Gam} {CL:ClA} {W:XW} {X:Cx} {e:Expr} {c:E}
theorem ZaV(h:SE X CL W e (fun ρ=>evE Γ ρ c))(ht:∀ ρ r,top ρ c r=r)(hn:ZfB Γ c=false)(hc:Zet e=true):OkE Γ CL W X e c :=
 ⟨h,by simp only[ht];exact h.st,fun z=>absurd z (by rw[hn];decide),fun z=>absurd z (by rw[hc];decide)⟩
theorem ZjE(h:SC X CL W true e (fun ρ=>evE Γ ρ c))(ht:∀ ρ r,top ρ c r=r)(hc:Zet e=true):OkE Γ CL W X e c :=
 ⟨h.se,by simp only[ht];exact h.se.st,fun _=>h,fun z=>absurd z (by rw[hc];decide)⟩
theorem Zrs(hc:X.calm=true)(h:Pcs X CL W e (fun ρ=>evE Γ ρ c))(ht:∀ ρ r,top ρ c r=r):OkE Γ CL W X e c :=
 ⟨(h.sc hc).se,by simp only[ht];exact(h.sc hc).se.st,fun _=>h.sc hc,fun _=>h⟩
end
theorem ZxP{k:Ki}{x:Str}(h:Zok k=some x):∃ T,tyK k=some T/\bootBuiltins x=some (.type T):=by
 cases k<;>simp only[Zok] at h<;>cases h
 ·exact⟨_,rfl,PyProof.Rows.boot_int⟩
 ·exact⟨_,rfl,PyProof.Rows.boot_bool⟩
 ·exact⟨_,rfl,PyProof.Rows.boot_str⟩
 ·exact⟨_,rfl,PyProof.Rows.boot_list⟩
 ·exact⟨_,rfl,PyProof.Rows.boot_tuple⟩
structure Snd (Γ:Gam) (CL:ClA) (k:Nat) (n:Nat):Prop where
 e:∀ (W:XW) (T:Tc) (X:Cx) (x:Expr) (c:E),VX Γ CL k W T X->ZaN n T x c=true->OkE Γ CL W X x c
 b:∀ (W:XW) (T:Tc) (X:Cx) (x:Expr) (c:E),VX Γ CL k W T X->ZmB n T x c=true->SB X CL W x (fun ρ=>(top ρ c (evE Γ ρ c)).bind ZbS)
 bs:∀ (W:XW) (T:Tc) (X:Cx) (xs:List Expr) (es:Es) (pos:Pos),VX Γ CL k W T X->chkBs n T xs es=true->xs≠[]->SW X CL W (.BoolOp .And xs pos) (fun ρ=>(evN Γ ρ es).bind ZbS)/\SW X CL W (.BoolOp .Or xs pos) (fun ρ=>(evO Γ ρ es).bind ZbS)
 es:∀ (W:XW) (T:Tc) (X:Cx) (xs:List Expr) (es:Es),VX Γ CL k W T X->chkEs n T xs es=true->SA X CL W xs (fun ρ=>evA Γ ρ es)/\SAT X CL W xs (fun ρ=>evB Γ ρ es)/\xs.length=es.len/\(∀ pos,xs≠[]->SE X CL W (.BoolOp .And xs pos) (fun ρ=>evN Γ ρ es)/\SE X CL W (.BoolOp .Or xs pos) (fun ρ=>evO Γ ρ es))/\(∀ pos,(backTo pos (starEach xs X.env)).any (·.1)=false)
 o:∀ (W:XW) (T:Tc) (X:Cx) (x:Option Expr) (c:E),VX Γ CL k W T X->chkO n T x c=true->SO X CL W x (fun ρ=>(top ρ c (evE Γ ρ c)).bind (slE c))
 t:∀ (T:Tc) (X:Cx) (xs:List Expr) (c:E),VX Γ CL k W0 T X->chkT n T xs c=true->STs X CL xs (fun ρ=>(top ρ c (evE Γ ρ c)).bind ZbS)
 i:∀ (W:XW) (T:Tc) (X:Cx) (tu:Bool) (tg x:Expr) (i:I),VX Γ CL k W T X->(tu=true->ZrN tg=true)->chkI n T tu x i=true->SI X CL W tg x (fun ρ=>evI Γ ρ i)
section
variable {Γ:Gam} {CL:ClA} {W:XW} {k n:Nat} {T:Tc} {X:Cx}
theorem Zk1:Snd Γ CL k 0:=⟨fun _ _ _ _ _ _ h=>by simp[ZaN] at h,fun _ _ _ _ _ _ h=>by simp[ZmB] at h,fun _ _ _ _ _ _ _ h=>by simp[chkBs] at h,fun _ _ _ _ _ _ h=>by simp[chkEs] at h,fun _ _ _ _ _ _ h=>by simp[chkO] at h,fun _ _ _ _ _ h=>by simp[chkT] at h,fun _ _ _ _ _ _ _ _ _ h=>by simp[chkI] at h⟩
theorem Zd9{pos:Pos}{x:Expr}{xs:List Expr}{env:Env}(h:Za3 x=true)(hx:(backTo pos (starEach xs env)).any (·.1)=false):(backTo pos (starEach (x::xs) env)).any (·.1)=false:=by
 rw[Zas h]
 show (false||(backTo pos (starEach xs env)).any (·.1))=false
 rw[hx]
 rfl
theorem Zqc(S:Snd Γ CL k n)(W:XW)(T:Tc)(X:Cx)(xs:List Expr)(es:Es)(v:VX Γ CL k W T X)(h:chkEs (n+1) T xs es=true):SA X CL W xs (fun ρ=>evA Γ ρ es)/\SAT X CL W xs (fun ρ=>evB Γ ρ es)/\xs.length=es.len/\(∀ pos,xs≠[]->SE X CL W (.BoolOp .And xs pos) (fun ρ=>evN Γ ρ es)/\SE X CL W (.BoolOp .Or xs pos) (fun ρ=>evO Γ ρ es))/\(∀ pos,(backTo pos (starEach xs X.env)).any (·.1)=false):=by
 cases xs with
 | nil =>
  cases es with
  | nil=>exact⟨Zl7,Zjc,rfl,fun _ z=>absurd rfl z,fun _=>rfl⟩
  | cons=>simp[chkEs] at h
 | cons x xs =>
  cases es with
  | nil=>simp[chkEs] at h
  | cons e es =>
   simp only[chkEs,Bool.and_eq_true] at h
   obtain⟨⟨h0,h1⟩,h2⟩:=h
   have he:=S.e W T X x e v h1
   obtain⟨a1,a2,a3,a4,a5⟩:=S.es W T X xs es v h2
   refine⟨Zjf he.se a1 (Zas h0),Zhx he.st a2 (Zas h0),congrArg (· + 1) a3,fun pos _=>?_,fun pos=>Zd9 h0 (a5 pos)⟩
   cases xs with
   | nil =>
    cases es with
    | nil=>exact⟨Zi9 he.se,Zi9 he.se⟩
    | cons=>cases a3
   | cons y ys =>
    cases es with
    | nil=>cases a3
    | cons e' es' =>
     obtain⟨b1,b2⟩:=a4 pos (by simp)
     exact⟨Zl6 he.se b1,Zvo he.se b2⟩
theorem ZuU(S:Snd Γ CL k n)(W:XW)(T:Tc)(X:Cx)(x:Option Expr)(c:E)(v:VX Γ CL k W T X)(h:chkO (n+1) T x c=true):SO X CL W x (fun ρ=>(top ρ c (evE Γ ρ c)).bind (slE c)):=by
 cases x with
 | none =>
  simp only[chkO] at h
  split at h
  ·exact Zne
  ·cases h
 | some x =>
  simp only[chkO] at h
  split at h
  ·cases h
  ·rename_i hne
   have q:=Znd (S.e W T X x c v h).st
   have e:slE c=fun d=>(ZcJ d).bind fun i=>.ok (some i):=by
    funext d
    cases c<;>first|rfl|exact absurd rfl hne
   rw[e]
   exact q
theorem ZuS(S:Snd Γ CL k n)(T:Tc)(X:Cx)(xs:List Expr)(c:E)(v:VX Γ CL k W0 T X)(h:chkT (n+1) T xs c=true):STs X CL xs (fun ρ=>(top ρ c (evE Γ ρ c)).bind ZbS):=by
 cases xs with
 | nil =>
  simp only[chkT] at h
  split at h
  ·exact Zm6
  ·cases h
 | cons x xs =>
  cases xs with
  | nil =>
   simp only[chkT] at h
   exact Zm5 (S.b W0 T X x c v h)
  | cons y ys=>simp[chkT] at h
theorem ZuV(S:Snd Γ CL k n)(W:XW)(T:Tc)(X:Cx)(tu:Bool)(tg x:Expr)(i:I)(v:VX Γ CL k W T X)(ht:tu=true->ZrN tg=true)(h:chkI (n+1) T tu x i=true):SI X CL W tg x (fun ρ=>evI Γ ρ i):=by
 cases i with
 | e a =>
  simp only[chkI] at h
  exact Zzy (S.e W T X x a v h).se
 | rng a =>
  simp only[chkI] at h
  split at h
  ·simp only[Bool.and_eq_true,beq_iff_eq] at h
   obtain⟨⟨⟨rfl,h1⟩,h2⟩,h3⟩:=h
   obtain⟨g1,g2,_,_⟩:=Zb9 v h1
   exact Zqo (S.e W T X _ a v h3).st g1 g2 (Zas h2)
  ·cases h
 | rng2 a b =>
  simp only[chkI] at h
  split at h
  ·simp only[Bool.and_eq_true,beq_iff_eq] at h
   obtain⟨⟨⟨⟨⟨rfl,h1⟩,h2⟩,h3⟩,h4⟩,h5⟩:=h
   obtain⟨g1,g2,_,_⟩:=Zb9 v h1
   exact Znh (S.e W T X _ a v h4).st (S.e W T X _ b v h5).st g1 g2 (by rw[Zas h2,Zas h3];rfl) (by rw[Zas h3];rfl)
  ·cases h
 | zip a b =>
  simp only[chkI] at h
  split at h
  ·simp only[Bool.and_eq_true,beq_iff_eq] at h
   obtain⟨⟨⟨⟨⟨⟨h0,rfl⟩,h1⟩,h2⟩,h3⟩,h4⟩,h5⟩:=h
   obtain⟨g1,g2,_,_⟩:=Zb9 v h1
   have hg:=ht h0
   cases tg with
   | Tuple es m tpos=>exact Zqn (S.e W T X _ a v h4).se (S.e W T X _ b v h5).se g1 g2 (by rw[Zas h2,Zas h3];rfl) (by rw[Zas h3];rfl)
   | _=>cases hg
  ·cases h
 | zip3 a b c=>simp[chkI] at h
 | enm a =>
  simp only[chkI] at h
  split at h
  ·simp only[Bool.and_eq_true,beq_iff_eq] at h
   obtain⟨⟨⟨⟨h0,rfl⟩,h1⟩,h2⟩,h3⟩:=h
   obtain⟨g1,g2,_,_⟩:=Zb9 v h1
   have hg:=ht h0
   cases tg with
   | Tuple es m tpos=>exact Zni (S.e W T X _ a v h3).se g1 g2 (Zas h2)
   | _=>cases hg
  ·cases h
theorem Zc3{c:Prop}[Decidable c]{b:Bool}:(if c then R.ok (D.bl b) else .bad)=.bad\/∃ b',(if c then R.ok (D.bl b) else .bad)=.ok (.bl b'):=by
 by_cases h:c
 ·rw[if_pos h];exact .inr ⟨_,rfl⟩
 ·rw[if_neg h];exact .inl rfl
theorem ZlH(op:CmpOp)(d d':D):Zbt op d d'=.bad\/∃ b,Zbt op d d'=.ok (.bl b):=by
 cases op with
 | Eq=>exact Zc3
 | NotEq=>exact Zc3
 | In =>
  cases d' with
  | lst ys=>exact Zc3
  | tup ys=>exact Zc3
  | dic kvs =>
   show (match ZpO d with|some k=>R.ok (D.bl (kvs.any fun p=>p.1 == k))|none=>.bad)=.bad\/∃ b,(match ZpO d with|some k=>R.ok (D.bl (kvs.any fun p=>p.1 == k))|none=>.bad)=.ok (.bl b)
   cases ZpO d with
   | some k=>exact .inr ⟨_,rfl⟩
   | none=>exact .inl rfl
  | _=>cases d<;>exact .inl rfl
 | NotIn =>
  cases d' with
  | lst ys=>exact Zc3
  | tup ys=>exact Zc3
  | _=>cases d<;>exact .inl rfl
 | Is =>
  cases d' with
  | non=>cases d<;>first|exact .inr ⟨_,rfl⟩|exact .inl rfl
  | _=>cases d<;>first|exact .inl rfl|exact .inr ⟨_,rfl⟩
 | IsNot =>
  cases d' with
  | non=>cases d<;>first|exact .inr ⟨_,rfl⟩|exact .inl rfl
  | _=>cases d<;>first|exact .inl rfl|exact .inr ⟨_,rfl⟩
 | _ =>
  cases d with
  | int i=>cases d'<;>first|exact .inr ⟨_,rfl⟩|exact .inl rfl
  | _=>exact .inl rfl
theorem Zki(op:CmpOp)(d d':D):(Zbt op d d').bind ZbS=.bad\/(Zbt op d d').bind ZbS=(Zbt op d d').bind Zd8:=by
 rcases ZlH op d d' with h|⟨b,h⟩
 ·rw[h];exact .inl rfl
 ·rw[h];exact .inr rfl
theorem ZsH(e e':E)(es:Es):Rf (fun ρ=>(evN Γ ρ (.cons e (.cons e' es))).bind ZbS) (fun ρ=>((top ρ e (evE Γ ρ e)).bind ZbS).bind fun c=>if c=true then (evN Γ ρ (.cons e' es)).bind ZbS else .ok false):=fun ρ=>by
 have e0:evN Γ ρ (.cons e (.cons e' es))=(evE Γ ρ e).bind fun x=>(Zd8 x).bind fun c=>if c=true then evN Γ ρ (.cons e' es) else .ok (.bl false):=rfl
 dsimp only
 rw[e0]
 rcases ZiY Γ e ρ with z|z<;>dsimp only at z
 ·rw[z];exact .inl rfl
 ·rw[<- z]
  cases evE Γ ρ e with
  | bad=>exact .inl rfl
  | exn x=>exact .inr rfl
  | ok d =>
   cases d with
   | bl b=>cases b<;>exact .inr rfl
   | _=>exact .inl rfl
theorem ZmE(e e':E)(es:Es):Rf (fun ρ=>(evO Γ ρ (.cons e (.cons e' es))).bind ZbS) (fun ρ=>((top ρ e (evE Γ ρ e)).bind ZbS).bind fun c=>if c=true then .ok true else (evO Γ ρ (.cons e' es)).bind ZbS):=fun ρ=>by
 have e0:evO Γ ρ (.cons e (.cons e' es))=(evE Γ ρ e).bind fun x=>(Zd8 x).bind fun c=>if c=true then .ok (.bl true) else evO Γ ρ (.cons e' es):=rfl
 dsimp only
 rw[e0]
 rcases ZiY Γ e ρ with z|z<;>dsimp only at z
 ·rw[z];exact .inl rfl
 ·rw[<- z]
  cases evE Γ ρ e with
  | bad=>exact .inl rfl
  | exn x=>exact .inr rfl
  | ok d =>
   cases d with
   | bl b=>cases b<;>exact .inr rfl
   | _=>exact .inl rfl
theorem Rf.tru(e:E):Rf (fun ρ=>(evE Γ ρ e).bind ZbS) (fun ρ=>(top ρ e (evE Γ ρ e)).bind ZbS):=fun ρ=>by
 rcases ZiY Γ e ρ with z|z<;>dsimp only at z ⊢
 ·rw[z];exact .inl rfl
 ·rw[<- z];exact .inr rfl
theorem Zqd(S:Snd Γ CL k n)(W:XW)(T:Tc)(X:Cx)(xs:List Expr)(es:Es)(pos:Pos)(v:VX Γ CL k W T X)(h:chkBs (n+1) T xs es=true)(hne:xs≠[]):SW X CL W (.BoolOp .And xs pos) (fun ρ=>(evN Γ ρ es).bind ZbS)/\SW X CL W (.BoolOp .Or xs pos) (fun ρ=>(evO Γ ρ es).bind ZbS):=by
 cases xs with
 | nil=>exact absurd rfl hne
 | cons x xs =>
  cases es with
  | nil=>simp[chkBs] at h
  | cons e es =>
   simp only[chkBs,Bool.and_eq_true] at h
   obtain⟨h1,h2⟩:=h
   have he:=S.b W T X x e v h1
   cases xs with
   | nil =>
    cases es with
    | nil=>exact⟨SW.ref (Zm4 he) (Rf.tru e),SW.ref (ZlX he) (Rf.tru e)⟩
    | cons =>
     cases n with
     | zero=>simp[chkBs] at h2
     | succ n=>simp[chkBs] at h2
   | cons y ys =>
    cases es with
    | nil =>
     cases n with
     | zero=>simp[chkBs] at h2
     | succ n=>simp[chkBs] at h2
    | cons e' es' =>
     obtain⟨b1,b2⟩:=S.bs W T X (y::ys) (.cons e' es') pos v h2 (by simp)
     exact⟨SW.ref (Zqa he b1) (ZsH e e' es'),SW.ref (Zp9 he b2) (ZmE e e' es')⟩
theorem ZuX(S:Snd Γ CL k n)(W:XW)(T:Tc)(X:Cx)(x:Expr)(c:E)(v:VX Γ CL k W T X)(h:ZmB (n+1) T x c=true):SB X CL W x (fun ρ=>(top ρ c (evE Γ ρ c)).bind ZbS):=by
 have plain:∀ e,ZcP e=true->ZaN n T e c=true->SB X CL W e (fun ρ=>(top ρ c (evE Γ ρ c)).bind ZbS):=fun e h1 h2=>Zjb (S.e W T X e c v h2).st (ZgI h1)
 simp only[ZmB] at h
 split at h
 ·split at h
  ·rename_i a
   refine SB.ref (ZqF (S.b W T X _ a v h)) fun ρ=>?_
   show ((top ρ a (evE Γ ρ a)).bind fun x=>(Zd8 x).bind fun b=>.ok (.bl (!b))).bind ZbS=.bad\/((top ρ a (evE Γ ρ a)).bind fun x=>(Zd8 x).bind fun b=>.ok (.bl (!b))).bind ZbS=_
   cases top ρ a (evE Γ ρ a) with
   | bad=>exact .inl rfl
   | exn x=>exact .inr rfl
   | ok d=>cases d<;>first|exact .inr rfl|exact .inl rfl
  ·cases h
 ·split at h
  ·simp only[Bool.and_eq_true,Bool.not_eq_true',List.isEmpty_eq_false_iff] at h
   exact(S.bs W T X _ _ _ v h.1 h.2).1.sb
  ·cases h
 ·split at h
  ·simp only[Bool.and_eq_true,Bool.not_eq_true',List.isEmpty_eq_false_iff] at h
   exact(S.bs W T X _ _ _ v h.1 h.2).2.sb
  ·cases h
 ·split at h
  ·split at h
   ·rename_i op a b _ _ op' y
    simp only[Bool.and_eq_true,Bool.not_eq_true',decide_eq_true_eq] at h
    obtain⟨⟨⟨rfl,h1⟩,h2⟩,h3⟩:=h
    refine SB.ref (ZqG (ZdI v.room.units _) (S.e W T X _ a v h2).st (S.e W T X _ b v h3).st h1) fun ρ=>?_
    show ((top ρ a (evE Γ ρ a)).bind fun x=>(top ρ b (evE Γ ρ b)).bind fun y=>Zbt op' x y).bind ZbS=.bad\/((top ρ a (evE Γ ρ a)).bind fun x=>(top ρ b (evE Γ ρ b)).bind fun y=>Zbt op' x y).bind ZbS=_
    cases top ρ a (evE Γ ρ a) with
    | bad=>exact .inl rfl
    | exn x=>exact .inr rfl
    | ok d =>
     cases top ρ b (evE Γ ρ b) with
     | bad=>exact .inl rfl
     | exn x=>exact .inr rfl
     | ok d' =>
      dsimp only[R.bind]
      exact Zki _ d d'
   ·cases h
  ·split at h
   ·rename_i op1 op2 a b c _ _ o1 o2 y z
    simp only[Bool.and_eq_true,Bool.not_eq_true',decide_eq_true_eq] at h
    obtain⟨⟨⟨⟨⟨rfl,rfl⟩,h1⟩,h2⟩,h3⟩,h4⟩:=h
    refine SB.ref (Zk8 v.room.units (S.e W T X _ a v h2).st (S.e W T X _ b v h3).st (S.e W T X _ c v h4).st h1) fun ρ=>?_
    show ((top ρ a (evE Γ ρ a)).bind fun x=>(top ρ b (evE Γ ρ b)).bind fun y=>(Zbt o1 x y).bind fun z=>(Zd8 z).bind fun k=>if k=true then (top ρ c (evE Γ ρ c)).bind fun u=>Zbt o2 y u else .ok (.bl false)).bind ZbS=.bad\/((top ρ a (evE Γ ρ a)).bind fun x=>(top ρ b (evE Γ ρ b)).bind fun y=>(Zbt o1 x y).bind fun z=>(Zd8 z).bind fun k=>if k=true then (top ρ c (evE Γ ρ c)).bind fun u=>Zbt o2 y u else .ok (.bl false)).bind ZbS=_
    cases top ρ a (evE Γ ρ a) with
    | bad=>exact .inl rfl
    | exn x=>exact .inr rfl
    | ok d =>
     cases top ρ b (evE Γ ρ b) with
     | bad=>exact .inl rfl
     | exn x=>exact .inr rfl
     | ok d' =>
      dsimp only[R.bind]
      cases Zbt o1 d d' with
      | bad=>exact .inl rfl
      | exn x=>exact .inr rfl
      | ok d3 =>
       cases d3 with
       | bl k =>
        cases k with
        | false=>exact .inr rfl
        | true =>
         dsimp only[R.bind,Zd8]
         rw[if_pos rfl,if_pos rfl]
         cases top ρ c (evE Γ ρ c) with
         | bad=>exact .inl rfl
         | exn x=>exact .inr rfl
         | ok d4=>exact Zki _ d' d4
       | _=>exact .inl rfl
   ·cases h
  ·cases h
 ·simp only[Bool.and_eq_true] at h
  exact plain _ h.1 h.2
end
end Ov
end
section
namespace Ov
open PySem PySem.Spec PyProof.Rows L2
section
variable {Γ:Gam} {CL:ClA} {W:XW} {k n:Nat} {T:Tc} {X:Cx}
theorem ZxR{b:BI}{g:Str}{p pos:Pos}{x:Expr}{xs:List Expr}{as:Es}(v:VX Γ CL k W T X)(hb:Zol b=some g)(hg:isB T g=true)(hs:SAT X CL W (x::xs) (fun ρ=>evB Γ ρ as))(h0:Za3 x=true)(hpl:∀ pos,(backTo pos (starEach xs X.env)).any (·.1)=false):OkE Γ CL W X (.Call (.Name g p) (x::xs) [] pos) (.bi b as):=by
 obtain⟨g1,g2,g3,g4⟩:=Zb9 v hg
 cases b<;>simp only[Zol] at hb<;>cases hb
 ·exact ZaV (Ze9 ZsD g1 g2 PySem.boot_len hs g3 g4 (Zas h0) hpl) (fun _ _=>rfl) rfl rfl
 ·exact ZaV (Ze9 (ZsC v.calm) g1 g2 PyProof.Rows.boot_max hs g3 g4 (Zas h0) hpl) (fun _ _=>rfl) rfl rfl
 ·exact ZaV (Ze9 (ZsB v.calm) g1 g2 PyProof.Rows.boot_min hs g3 g4 (Zas h0) hpl) (fun _ _=>rfl) rfl rfl
 ·exact ZaV (Zl5 ZsE g1 g2 PyProof.Rows.boot_int hs g3 g4 (Zas h0) hpl) (fun _ _=>rfl) rfl rfl
 ·exact ZjE (Zqk ZoS g1 g2 PyProof.Rows.boot_list hs g3 g4 (Zas h0) hpl) (fun _ _=>rfl) rfl
 ·exact ZaV (Zl5 ZlK g1 g2 PyProof.Rows.boot_tuple hs g3 g4 (Zas h0) hpl) (fun _ _=>rfl) rfl rfl
 ·exact ZaV (Ze9 (ZsG v.calm) g1 g2 PyProof.Rows.boot_all hs g3 g4 (Zas h0) hpl) (fun _ _=>rfl) rfl rfl
 ·exact ZaV (Ze9 (ZsF v.calm) g1 g2 PyProof.Rows.boot_any hs g3 g4 (Zas h0) hpl) (fun _ _=>rfl) rfl rfl
 ·exact ZaV (Ze9 (ZsA v.calm) g1 g2 PyProof.Rows.boot_sum hs g3 g4 (Zas h0) hpl) (fun _ _=>rfl) rfl rfl
theorem Zml{l:List (Str×Nat)}{g:Str}{c:Nat}(h:inX l g c=true):(g,c)∈l:=by
 unfold inX at h
 simp only[List.any_eq_true,Bool.and_eq_true,beq_iff_eq] at h
 obtain⟨p,hp,rfl,rfl⟩:=h
 exact hp
theorem ZdQ{x:Expr}{xs:List Expr}{es:Es}(h:chkEs n T (x::xs) es=true):Za3 x=true/\∃ e es',es=.cons e es'/\∃ m,n=m+1/\chkEs m T xs es'=true:=by
 cases n with
 | zero=>simp[chkEs] at h
 | succ m =>
  cases es with
  | nil=>simp[chkEs] at h
  | cons e es =>
   simp only[chkEs,Bool.and_eq_true] at h
   exact⟨h.1.1,e,es,rfl,m,rfl,h.2⟩
theorem Zfk{X:Cx}:∀ (m:Nat) (xs:List Expr) (es:Es),chkEs m T xs es=true->∀ pos,(backTo pos (starEach xs X.env)).any (·.1)=false:=by
 intro m
 induction m with
 | zero=>intro xs es h;simp[chkEs] at h
 | succ m ih =>
  intro xs es h pos
  cases xs with
  | nil=>rfl
  | cons x xs =>
   obtain⟨h0,e,es',rfl,m',e1,h1⟩:=ZdQ h
   cases e1
   exact Zd9 h0 (ih xs es' h1 pos)
theorem Zsm{x:Expr}{b:BI}{as:Es}(v:VX Γ CL k W T X)(h:Zy5 T x b as=true):OkE Γ CL W X x (.bi b as):=by
 exact absurd h Bool.false_ne_true
theorem ZrD(S:Snd Γ CL k n){x:Expr}{b:BI}{as:Es}(v:VX Γ CL k W T X)(h:(match Zpy as with|some (a,c)=>(match ZyB x with|some (g,h,y,z)=>decide (b=.list)&&g == ("list" : Str)&&h == ("range" : Str)&&isB T g&&isB T h&&Za3 y&&Za3 z&&ZaN n T y a&&ZaN n T z c|none=>false)|none=>false)=true):OkE Γ CL W X x (.bi b as):=by
 simp[Zpy] at h
theorem ZuW(S:Snd Γ CL k n)(W:XW)(T:Tc)(X:Cx)(x:Expr)(c:E)(v:VX Γ CL k W T X)(h:ZaN (n+1) T x c=true):OkE Γ CL W X x c:=by
 cases c with
 | non =>
  simp only[ZaN] at h
  split at h
  ·exact ZaV Zqu (fun _ _=>rfl) rfl rfl
  ·cases h
 | bl b =>
  simp only[ZaN] at h
  split at h
  ·have e:=eq_of_beq h
   subst e
   exact ZaV ZqE (fun _ _=>rfl) rfl rfl
  ·cases h
 | int i =>
  simp only[ZaN] at h
  split at h
  ·have e:=of_decide_eq_true h
   subst e
   exact ZaV ZqA (fun _ _=>rfl) rfl rfl
  ·cases h
 | str i =>
  simp only[ZaN] at h
  split at h
  ·have e:=of_decide_eq_true h
   subst e
   exact ZaV Zqt (fun _ _=>rfl) rfl rfl
  ·cases h
 | var i =>
  simp only[ZaN] at h
  split at h
  ·exact⟨Zl2 (Zgb v h),ZfY (Zgb v h),fun z=>(nomatch z),fun z=>(nomatch z)⟩
  ·cases h
 | glob g=>simp[ZaN] at h
 | bin op a b =>
  simp only[ZaN] at h
  split at h
  ·simp only[Bool.and_eq_true,decide_eq_true_eq] at h
   obtain⟨⟨rfl,h1⟩,h2⟩:=h
   have ha:=(S.e W T X _ a v h1).st
   have hb:=(S.e W T X _ b v h2).st
   refine⟨Zl4 (Zjz _) ha hb,(Zl4 (Zjz _) ha hb).st,fun z=>?_,fun z=>nomatch z⟩
   rename_i op' _ _
   cases op'<;>first|exact Zql ha hb|cases z
  ·cases h
 | un op a =>
  simp only[ZaN] at h
  split at h
  ·simp only[Bool.and_eq_true,decide_eq_true_eq] at h
   obtain⟨rfl,h1⟩:=h
   exact ZaV (Zqv (S.e W T X _ a v h1).st) (fun _ _=>rfl) rfl rfl
  ·cases h
 | no a =>
  simp only[ZaN] at h
  split at h
  ·exact ZaV (Zl3 (S.e W T X _ a v h).st) (fun _ _=>rfl) rfl rfl
  ·cases h
 | and es =>
  simp only[ZaN] at h
  split at h
  ·simp only[Bool.and_eq_true,Bool.not_eq_true',List.isEmpty_eq_false_iff] at h
   exact ZaV ((S.es W T X _ es v h.1).2.2.2.1 _ h.2).1 (fun _ _=>rfl) rfl rfl
  ·cases h
 | or es =>
  simp only[ZaN] at h
  split at h
  ·simp only[Bool.and_eq_true,Bool.not_eq_true',List.isEmpty_eq_false_iff] at h
   exact ZaV ((S.es W T X _ es v h.1).2.2.2.1 _ h.2).2 (fun _ _=>rfl) rfl rfl
  ·cases h
 | cmp op a b =>
  simp only[ZaN] at h
  split at h
  ·simp only[Bool.and_eq_true,Bool.not_eq_true',decide_eq_true_eq] at h
   obtain⟨⟨⟨rfl,h1⟩,h2⟩,h3⟩:=h
   exact ZaV (ZqD (ZdI v.room.units _) (S.e W T X _ a v h2).st (S.e W T X _ b v h3).st h1) (fun _ _=>rfl) rfl rfl
  ·cases h
 | cmp2 op1 op2 a b c =>
  simp only[ZaN] at h
  split at h
  ·simp only[Bool.and_eq_true,Bool.not_eq_true',decide_eq_true_eq] at h
   obtain⟨⟨⟨⟨⟨rfl,rfl⟩,h1⟩,h2⟩,h3⟩,h4⟩:=h
   exact ZaV (Zk6 v.room.units (S.e W T X _ a v h2).st (S.e W T X _ b v h3).st (S.e W T X _ c v h4).st h1) (fun _ _=>rfl) rfl rfl
  ·cases h
 | ite c a b=>simp[ZaN] at h
 | call f as =>
  simp only[ZaN] at h
  split at h
  ·rename_i g pp y ys qq
   simp only[Bool.and_eq_true,List.any_eq_true,beq_iff_eq,decide_eq_true_eq] at h
   obtain⟨⟨⟨⟨⟨p,hp,⟨rfl,rfl⟩,hl⟩,h900⟩,h1⟩,h2⟩,h3⟩:=h
   obtain⟨fa,fd,ps,m1,m2,m3,m4,m5,_⟩:=v.fn p hp
   have hlt:p.2.2<1000:=by omega
   rw[Nat.mod_eq_of_lt hlt] at m4 m5
   have m5:=m5 hlt
   obtain⟨n2,n3,n4⟩:=Zdi h2
   obtain⟨a1,a2,a3,a4,a5⟩:=S.es W T X _ as v h3
   obtain⟨s0,e,es',rfl,m,rfl,s1⟩:=ZdQ h3
   have q:SC X CL W (Γ.fr p.2.1) (.Call (.Name p.1 pp) (y::ys) [] qq) (fun ρ=>evE Γ ρ (.call p.2.1 (.cons e es'))):=Znl (sh:=fun ρ=>Zk3 ρ (.cons e es')) m5 v.room (by unfold glB at h1;show X.env.scope.names.lookup p.1=_;rw[v.sc];exact eq_of_beq h1) m1 m2 m3 v.px a1 a2 (fun ρ z=>Zj8 Γ ρ _ z) (fun ρ ds z=>by rw[ZgX Γ ρ _ _ z,<- a3,hl];rfl) n2 (Zas s0) (Zfk m ys es' s1)
   exact⟨q.se,q.se.st,fun z=>by
    have z':Γ.fr p.2.1=true:=z
    rw[z'] at q
    exact q,fun z=>nomatch z⟩
  ·cases h
 | bi b as =>
  simp only[ZaN,Bool.or_eq_true] at h
  rcases h with (h|h)|h
  ·split at h
   ·simp only[Bool.and_eq_true,beq_iff_eq] at h
    obtain⟨⟨h1,h2⟩,h3⟩:=h
    obtain⟨s0,e,es',rfl,m,rfl,s1⟩:=ZdQ h3
    exact ZxR v h1 h2 (S.es W T X _ _ v h3).2.1 s0 (Zfk m _ es' s1)
   ·cases h
  ·exact Zsm v h
  ·exact ZrD S v h
 | isi a ks =>
  cases ks with
  | nil=>simp[ZaN] at h
  | cons k' ks =>
   cases ks with
   | cons=>simp[ZaN] at h
   | nil =>
    simp only[ZaN] at h
    split at h
    ·simp only[Bool.and_eq_true,beq_iff_eq] at h
     obtain⟨⟨⟨⟨⟨rfl,h1⟩,h2⟩,h3⟩,h4⟩,h5⟩:=h
     obtain⟨g1,g2,_,_⟩:=Zb9 v h1
     obtain⟨b1,b2,b3,b4⟩:=Zb9 v h3
     obtain⟨ty,t1,t2⟩:=ZxP h2
     exact ZaV (Zqy t1 g1 g2 b1 b2 t2 b3 b4 (S.e W T X _ a v h5).st (Zas h4)) (fun _ _=>rfl) rfl rfl
    ·cases h
 | idx a i =>
  simp only[ZaN] at h
  split at h
  ·simp only[Bool.and_eq_true] at h
   obtain⟨⟨h1,h2⟩,h3⟩:=h
   exact ZaV (ZqB (Zk2 h1) (S.e W T X _ a v h2).st (S.e W T X _ i v h3).st) (fun _ _=>rfl) rfl rfl
  ·cases h
 | sl a lo hi =>
  simp only[ZaN] at h
  split at h
  ·simp only[Bool.and_eq_true] at h
   obtain⟨⟨h1,h2⟩,h3⟩:=h
   refine ZjE (SC.congr (Zu0 (S.e W T X _ a v h1).st (S.o W T X _ lo v h2) (S.o W T X _ hi v h3)) fun ρ=>?_) (fun _ _=>rfl) rfl
   show ((top ρ a (evE Γ ρ a)).bind fun x=>(top ρ lo (evE Γ ρ lo)).bind fun l=>(slE lo l).bind fun l'=>(top ρ hi (evE Γ ρ hi)).bind fun h=>(slE hi h).bind fun h'=>slD x l' h')=_
   simp only[R.bind_assoc]
  ·cases h
 | tup es =>
  simp only[ZaN] at h
  split at h
  ·simp only[Bool.and_eq_true,decide_eq_true_eq] at h
   have q:=S.es W T X _ es v h.1
   exact ZaV (Zqs q.1 fun ρ ds z=>by rw[ZgY Γ ρ _ _ z,<- q.2.2.1];omega) (fun _ _=>rfl) rfl rfl
  ·cases h
 | lst es =>
  simp only[ZaN] at h
  split at h
  ·simp only[Bool.and_eq_true,decide_eq_true_eq] at h
   have q:=S.es W T X _ es v h.1
   exact ZjE (Zqj q.1 fun ρ ds z=>by rw[ZgY Γ ρ _ _ z,<- q.2.2.1];omega) (fun _ _=>rfl) rfl
  ·cases h
 | comp elt t it c =>
  simp only[ZaN] at h
  split at h
  ·simp only[Bool.and_eq_true] at h
   obtain⟨⟨⟨⟨⟨h1,h2⟩,h3⟩,h4⟩,h5⟩,h6⟩:=h
   refine Zrs v.calm ⟨_,_,_,_,_,_,_,_,_,_,_,_,_,rfl,(Zkr v h3).1,S.i W T X false _ _ it v (fun z=>nomatch z) h1,ZoE t,fun cl C s H fp=>ZmY (v.blk h3) (fun z=>beq_iff_eq.mpr z) h4,fun cl C s H fp=>S.t _ _ _ c (v.blk h3) h5,fun cl C s H fp=>(S.e W0 _ _ _ elt (v.blk h3) h6).se,Zhw h2,fun ρ=>rfl⟩ (fun _ _=>rfl)
  ·cases h
 | compT elt ts it c =>
  simp only[ZaN] at h
  split at h
  ·simp only[Bool.and_eq_true] at h
   obtain⟨⟨⟨⟨⟨⟨h0,h1⟩,h2⟩,h3⟩,h4⟩,h5⟩,h6⟩:=h
   refine Zrs v.calm ⟨_,_,_,_,_,_,_,_,_,_,_,_,_,rfl,(Zkr v h3).1,S.i W T X true _ _ it v (fun _=>rfl) h1,ZrV ts,fun cl C s H fp=>Zm1 (v.blk h3) h0 h4,fun cl C s H fp=>S.t _ _ _ c (v.blk h3) h5,fun cl C s H fp=>(S.e W0 _ _ _ elt (v.blk h3) h6).se,Zhw h2,fun ρ=>rfl⟩ (fun _ _=>rfl)
  ·cases h
 | tupI it =>
  cases it with
  | zip3 a b c =>
   simp only[ZaN] at h
   cases q:Zuh x with
   | none=>rw[q] at h;cases h
   | some t =>
    obtain⟨g,f,y1,y2,y3⟩:=t
    rw[q] at h
    simp only[Bool.and_eq_true,beq_iff_eq] at h
    obtain⟨⟨⟨⟨⟨⟨⟨⟨⟨rfl,rfl⟩,h1⟩,h2⟩,h3⟩,h4⟩,h5⟩,h6⟩,h7⟩,h8⟩:=h
    obtain⟨p,p',pos,pos',rfl⟩:=ZoR q
    obtain⟨g1,g2,_,_⟩:=Zb9 v h1
    obtain⟨g3,g4,_,_⟩:=Zb9 v h2
    exact ZaV (ZqC (S.e W T X _ a v h6).se (S.e W T X _ b v h7).se (S.e W T X _ c v h8).se v.calm g1 g2 g3 g4 (by rw[Zas h3,Zas h4,Zas h5];rfl) (by rw[Zas h4,Zas h5];rfl) (by rw[Zas h5];rfl)) (fun _ _=>rfl) rfl rfl
  | _=>simp[ZaN] at h
 | dnew=>simp[ZaN] at h
 | fld o f=>simp[ZaN] at h
theorem snd:∀ n,Snd Γ CL k n
 | 0=>Zk1
 | n+1=>⟨ZuW (snd n),ZuX (snd n),Zqd (snd n),Zqc (snd n),ZuU (snd n),ZuS (snd n),ZuV (snd n)⟩
end
end Ov
end
section
namespace Ov
open PySem PySem.Spec PyProof.Rows L2
section
variable {Γ:Gam} {CL:ClA} {W:XW} {k n:Nat} {T:Tc} {X:Cx}
theorem Zm0{t:Nat}{x:Str}{pos:Pos}(v:VX Γ CL k W T X)(hf:∀ x,X.fn x=true)(h:tgC T [t] [x]=true):PG X (.Name x pos) (ZcH t):=by
 unfold tgC at h
 simp only[Bool.and_eq_true,beq_iff_eq] at h
 exact Zes (by rw[v.N];exact v.nd) (by rw[v.N];exact h.1.1) (by rw[v.sc];exact ZfD h.1.2) (.inl (hf x))
theorem ZiZ(v:VX Γ CL k W T X)(hf:∀ x,X.fn x=true):∀ (ys:List Expr) (ts:List Nat) (zs:List Str),ZaR ys=some zs->tgC T ts zs=true->PGs X ys (ts.foldr (fun t u=>Zey (ZcH t) u) Zj1)/\ts.length=ys.length:=by
 intro ys
 induction ys with
 | nil =>
  intro ts zs e h
  cases e
  cases ts with
  | nil=>exact⟨Zjr,rfl⟩
  | cons t ts=>cases h
 | cons y r ih =>
  intro ts zs e h
  obtain⟨x,p,ws,rfl,e2,rfl⟩:=ZcM e
  cases ts with
  | nil=>cases h
  | cons t ts =>
   have h':(T.N[t]? == some x&&Zos T x&&tgC T ts ws)=true:=h
   simp only[Bool.and_eq_true,beq_iff_eq] at h'
   obtain⟨h1,h2⟩:=ih ts ws e2 h'.2
   exact⟨ZhE (Zes (by rw[v.N];exact v.nd) (by rw[v.N];exact h'.1.1) (by rw[v.sc];exact ZfD h'.1.2) (.inl (hf x))) h1 (by rw[ZeB];rfl),congrArg (· + 1) h2⟩
theorem ZmZ{ts:List Nat}{ys:List Expr}{kk:Nat}{pos:Pos}(v:VX Γ CL k W T X)(hf:∀ x,X.fn x=true)(hn:(ZaR ys).isSome=true)(h:tgC T ts (tgN ys)=true):PG X (.Tuple ys kk pos) (ZpP X.K ts.length (ts.foldr (fun t u=>Zey (ZcH t) u) Zj1)):=by
 cases e:ZaR ys with
 | none=>rw[e] at hn;cases hn
 | some zs =>
  have e2:tgN ys=zs:=by unfold tgN;rw[e];rfl
  rw[e2] at h
  obtain⟨h1,h2⟩:=ZiZ v hf ys ts zs e h
  obtain⟨h3,h4,_⟩:=ZcL (env:=X.env) ys zs e
  exact Zjs v.calm h1 (by rw[h3,h2]) h4
theorem Zp7{ts:List Nat}{ys:List Expr}{kk:Nat}{pos:Pos}(v:VX Γ CL k W T X)(hf:∀ x,X.fn x=true)(hn:(ZaR ys).isSome=true)(h:tgC T ts (tgN ys)=true):PG X (.Tuple ys kk pos) (gSq X.K ts.length (ts.foldr (fun t u=>Zey (ZcH t) u) Zj1)):=by
 cases e:ZaR ys with
 | none=>rw[e] at hn;cases hn
 | some zs =>
  have e2:tgN ys=zs:=by unfold tgN;rw[e];rfl
  rw[e2] at h
  obtain⟨h1,h2⟩:=ZiZ v hf ys ts zs e h
  obtain⟨h3,h4,_⟩:=ZcL (env:=X.env) ys zs e
  exact Zwf v.calm h1 (by rw[h3,h2]) h4
theorem Zp3{ys:List Expr}{kk:Nat}{pos:Pos}{e:Expr}{env:Env}(h:Zrv e=true):swappedStores [.Tuple ys kk pos] e env=pure none:=by
 cases e<;>first|rfl|cases h
theorem Zfm(ts:List Nat):∀ d ρ x,ZbB ts d ρ≠.exn x:=fun d ρ x h=>by
 unfold ZbB at h
 cases d with
 | tup xs =>
  dsimp only at h
  cases e:Za5 ts xs ρ with
  | some r=>rw[e] at h;cases h
  | none=>rw[e] at h;cases h
 | _=>cases h
theorem Zkv(ts:List Nat):∀ d ρ x,Zgw ts d ρ≠.exn x:=fun d ρ x h=>by
 unfold Zgw at h
 split at h
 ·split at h<;>cases h
 ·exact Zfm ts _ ρ x h
theorem Zk0{elt:Expr}{gs:List Comprehension}{scope:Scope}{pos pos':Pos}{x:Str}{l:Nat}{env:Env}:∃ b,swapsWith (.ListComp elt gs scope pos) (some (.Name x pos')) l env=pure b/\(b=true->env.scope.names.lookup x=some .local):=by
 refine⟨_,rfl,fun h=>?_⟩
 simp only[Bool.and_eq_true,beq_iff_eq] at h
 exact h.1.1.2
theorem Zjd{x:Str}{p pos:Pos}{v0:Expr}{i:Nat}{e:E}{fr:Bool}(v:VX Γ CL k W T X)(hf:∀ x,X.fn x=true)(hi:T.N[i]?=some x)(hl:Zos T x=true)(o:OkE Γ CL W X v0 e)(hfr:fr=true->ZfB Γ e=true):SAs X CL W fr i (.Assign [.Name x p] v0 pos) (fun ρ=>evE Γ ρ e):=by
 have hN:X.N.Nodup:=by rw[v.N];exact v.nd
 have hi':X.N[i]?=some x:=by rw[v.N];exact hi
 have hx:Loc X.env.scope x:=by rw[v.sc];exact ZfD hl
 have sc:SC X CL W fr v0 (fun ρ=>evE Γ ρ e):=by
  cases fr with
  | false=>exact o.se.sc
  | true=>exact o.nw (hfr rfl)
 cases hc:Zet v0 with
 | true=>exact SC.sas hN hi' hx sc (Zg1 hc) (.inl (hf x))
 | false =>
  obtain⟨tg,iter,elt,ifs,scope,pos2,N',ts,fi,fc,fe,as,g,rfl,B,h2,hGG,hg,ht,he,hs,ef⟩:=o.cp hc
  obtain⟨b,hb,hb'⟩:=Zk0 (elt:=elt) (gs:=[⟨tg,iter,ifs,0⟩]) (scope:=scope) (pos:=pos2) (pos':=p) (x:=x) (l:=pos.line) (env:=X.env)
  cases b with
  | false=>exact SC.sas hN hi' hx sc hb (.inl (hf x))
  | true =>
   have q:=Zk9 (pos2:=pos) v.calm B h2 hGG hg ht he hs hN hi' (hb' rfl) hb
   have q':SAs X CL W true i (.Assign [.Name x p] (.ListComp elt [⟨tg,iter,ifs,0⟩] scope pos2) pos) (fun ρ=>evE Γ ρ e):=by
    have:(fun ρ=>evE Γ ρ e)=_:=funext ef
    rw[this]
    exact q
   cases fr with
   | true=>exact q'
   | false=>exact fun A=>PS.weak (q' A) fun D σ H ⟨hA,ρ,gd,z⟩=>⟨hA,ρ,gd,by
     dsimp only at z ⊢
     cases e0:evE Γ ρ e with
     | ok d =>
      rw[e0] at z
      exact fun v' H' s' r'=>z v' H' s' ⟨r'.1,fun _=>r'.2 rfl⟩
     | exn y=>rw[e0] at z;exact z
     | bad=>rw[e0] at z;exact z⟩
theorem Zi6{e t:Expr}{l:Nat}{env:Env}(h:∀ x p,t≠.Name x p):swapsWithSole [t] e l env=pure false:=by
 show swapsWith e (some t) l env=pure false
 cases e<;>first|rfl|(cases t<;>first|rfl|exact absurd rfl (h _ _))
theorem Zgh(ρ:Rho)(e:E)(h:∀ i,e≠.var i):evS Γ ρ (.ret e)=O.of ρ (evE Γ ρ e) fun d=>.ret d (ZfB Γ e):=by
 cases e<;>first|exact absurd rfl (h _)|(simp only[evS,top,Bool.or_false])
structure DefX (X:Cx):Prop where
 fn:∀ x,X.fn x=true
 ex:X.ex=[]
 st:X.stack=X.env::X.outer
 fm:X.env.frame=some X.env.locals
structure SndS (Γ:Gam) (CL:ClA) (k:Nat) (n:Nat):Prop where
 s:∀ (W:XW) (T:Tc) (X:Cx) (x:Stmt) (c:S),VX Γ CL k W T X->DefX X->Zdx n T x c=true->SS X CL W x (fun ρ=>evS Γ ρ c)
 ss:∀ (W:XW) (T:Tc) (X:Cx) (x:List Stmt) (c:Ss),VX Γ CL k W T X->DefX X->chkSs n T x c=true->SSs X CL W x (fun ρ=>evSs Γ ρ c)
theorem VX.pw(v:VX Γ CL k W T X){pins:List (Addr×Obj)}{Xw:Value->Shared->Prop}(own:PassesOwn (model X.prog X.w) X.A X.env Xw):VX Γ CL k W0 T (Cx.pw X pins Xw):=⟨v.sc,v.kd,v.N,v.nd,v.calm,v.room,v.bl,v.fn,own,Zjw,Zvr,v.xt,v.gl⟩
theorem STB.congr{X:Cx}{CL:ClA}{st:List Stmt}{f g:Rho->O}(h:STB X CL st f)(e:∀ ρ,g ρ=f ρ):STB X CL st g:=by
 have:g=f:=funext e
 rw[this]
 exact h
theorem ZfF{x:Str}{i:Nat}{pos:Pos}{e:Addr}(v:VX Γ CL k W T X)(h:isV T x i=true):PE (Cx.hot X e) (.Name x pos) (ZlV i):=by
 unfold isV at h
 simp only[Bool.and_eq_true,beq_iff_eq] at h
 obtain⟨h2,h3,_⟩:=Zdi h.2
 exact Zmb (by show X.N[i]?=_;rw[v.N];exact h.1.1) (by show Vis X.env.scope x;rw[v.sc];exact ZiM h.1.2) h2 h3
theorem ZjY{x:Nat}{t:Expr}{c:E}:∀ {n:Nat},Zdy n T x t c=true->∀ ρ r,top ρ c r=r:=fun {n} h=>by
 cases n with
 | zero=>simp[Zdy] at h
 | succ n =>
  cases c with
  | var i=>simp[Zdy] at h
  | _=>exact fun _ _=>rfl
theorem ZlI(v:VX Γ CL k W T X)(e:Addr):∀ (ts:List Expr) (ks:List Ki),Zgn T ts ks=true->∃ cs:List (Nat×Addr),ks=cs.map (fun q=>Ki.cls q.1)/\cs.length=ts.length/\PA (Cx.hot X e) ts (Zye (cs.map fun q:Nat×Addr=>q.2))/\∀ q∈cs,ZgB X.K CL Γ.up q.1 q.2:=by
 intro ts
 induction ts with
 | nil =>
  intro ks h
  cases ks with
  | nil=>exact⟨[],rfl,rfl,Zb6,fun q hq=>nomatch hq⟩
  | cons k ks=>simp[Zgn] at h
 | cons t ts ih =>
  intro ks h
  cases t with
  | Name t p =>
   cases ks with
   | nil=>simp[Zgn] at h
   | cons kk ks =>
    cases kk with
    | cls c =>
     simp only[Zgn,Bool.and_eq_true] at h
     obtain⟨⟨⟨h1,h2⟩,h3⟩,h4⟩:=h
     obtain⟨cs,e1,e2,e3,e4⟩:=ih ks h4
     obtain⟨C,m1,m3,_⟩:=v.xt.ex _ (Zml h1)
     obtain⟨n2,_,_⟩:=Zdi h3
     refine⟨(c,C)::cs,by rw[e1];rfl,by rw[List.length_cons,List.length_cons,e2],?_,fun q hq=>?_⟩
     ·exact ZaD (Zjt (X:=Cx.hot X e) (v:=.ref C) (by unfold glB at h2;show X.env.scope.names.lookup t=_;rw[v.sc];exact eq_of_beq h2) m1 rfl n2) e3 rfl
     ·rcases List.mem_cons.mp hq with rfl|hq
      ·exact m3
      ·exact e4 q hq
    | _=>simp[Zgn] at h
  | _=>simp[Zgn] at h
theorem Zlz(v:VX Γ CL k W T X)(e:Addr)(x:Nat):∀ (n:Nat) (t:Expr) (c:E),Zdy n T x t c=true->SE (Cx.hot X e) CL W0 t (fun ρ=>evE Γ ρ c):=by
 intro n
 induction n with
 | zero=>intro t c h;simp[Zdy] at h
 | succ n ih =>
  intro t c h
  unfold Zdy at h
  split at h
  ·split at h
   ·have e0:=eq_of_beq h
    subst e0
    exact ZqE
   ·cases h
  ·split at h
   ·rename_i a _ _ _
    have q:=(ih _ _ h).st
    refine SE.congr (Zl3 q) fun ρ=>?_
    show ((top ρ a (evE Γ ρ a)).bind fun x=>(Zd8 x).bind fun b=>R.ok (D.bl (!b)))=_
    rw[ZjY h]
   ·cases h
  ·split at h
   ·have q:=ih _ _ h
    exact SE.congr (Zi9 q) fun ρ=>rfl
   ·cases h
  ·split at h
   ·rw[Bool.and_eq_true] at h
    have q1:=ih _ _ h.1
    have q2:=ih _ _ h.2
    exact SE.congr (Zl6 q1 q2) fun ρ=>rfl
   ·cases h
  ·split at h
   ·simp only[Bool.and_eq_true,beq_iff_eq] at h
    obtain⟨⟨⟨⟨⟨rfl,rfl⟩,h3⟩,h4⟩,rfl⟩,h6⟩:=h
    obtain⟨g1,g2,_,_⟩:=Zb9 v h3
    obtain⟨b1,b2,_,_⟩:=Zb9 v h6
    exact Zqw (X:=Cx.hot X e) v.xt.xc g1 g2 b1 b2 (ZfY (ZfF v h4)) rfl
   ·cases h
  ·split at h
   ·simp only[Bool.and_eq_true,beq_iff_eq] at h
    obtain⟨⟨⟨⟨⟨⟨rfl,rfl⟩,h3⟩,h4⟩,h5⟩,h6⟩,h7⟩:=h
    obtain⟨g1,g2,_,_⟩:=Zb9 v h3
    obtain⟨C,m1,m3,_⟩:=v.xt.ex _ (Zml h5)
    obtain⟨n2,_,_⟩:=Zdi h7
    exact Zqz (X:=Cx.hot X e) v.xt.xc g1 g2 (by unfold glB at h6;show X.env.scope.names.lookup _=_;rw[v.sc];exact eq_of_beq h6) m1 m3 n2 (ZfY (ZfF v h4)) rfl
   ·cases h
  ·split at h
   ·simp only[Bool.and_eq_true,beq_iff_eq,decide_eq_true_eq] at h
    obtain⟨⟨⟨⟨⟨rfl,rfl⟩,h3⟩,h4⟩,h5⟩,h6⟩:=h
    obtain⟨g1,g2,_,_⟩:=Zb9 v h3
    obtain⟨cs,e1,e2,e3,e4⟩:=ZlI v e _ _ h5
    have hne:cs≠[]:=by rintro rfl;cases e1
    rw[e1]
    exact Zqx (X:=Cx.hot X e) (W:=W0) (up:=Γ.up) v.xt.xc g1 g2 e3 hne (by rw[e2];exact h6) e4 (ZfY (ZfF v h4)) rfl
   ·cases h
  ·split at h
   ·rename_i f i t0 g p0 w0 p1 p2
    rw[Bool.and_eq_true] at h
    obtain⟨h1,h4⟩:=h
    unfold ZyM at h1
    simp only[Bool.and_eq_true,List.any_eq_true,beq_iff_eq] at h1
    obtain⟨⟨⟨p,hp,⟨rfl,rfl⟩,hl⟩,g1⟩,g2⟩:=h1
    obtain⟨fa,fd,ps,m1,m2,m3,m4,_,m5⟩:=v.fn p hp
    have m5:=m5 (by omega)
    obtain⟨n2,_,_⟩:=Zdi g2
    have hv:=ZfF (e:=e) (pos:=p1) v h4
    have a1:SA (Cx.hot X e) CL W0 [.Name w0 p1] (fun ρ=>evA Γ ρ (.cons (.var i) .nil)):=Zjf (Zl2 hv) Zl7 rfl
    have a2:SAT (Cx.hot X e) CL W0 [.Name w0 p1] (fun ρ=>evB Γ ρ (.cons (.var i) .nil)):=Zhx (ZfY hv) Zjc rfl
    exact(Zk7 (X:=X) (ev:=e) (sh:=fun ρ=>Zk3 ρ (.cons (.var i) .nil)) m5 v.room (by unfold glB at g1;show X.env.scope.names.lookup p.1=_;rw[v.sc];exact eq_of_beq g1) m1 m2 m3 a1 a2 (fun ρ z=>Zj8 Γ ρ _ z) (fun ρ ds z=>by rw[ZgX Γ ρ _ _ z,hl];rfl) n2 rfl (fun _=>rfl)).se
   ·cases h
  ·cases h
theorem ZrT(v:VX Γ CL k W T X)(e:Addr)(x n:Nat)(pos:Pos):∀ (ys:List Expr) (es:Es),ZeE n T x ys es=true->ys≠[]->SW (Cx.hot X e) CL W0 (.BoolOp .Or ys pos) (fun ρ=>(evO Γ ρ es).bind ZbS):=by
 intro ys
 induction ys with
 | nil=>intro es _ h;exact absurd rfl h
 | cons y ys ih =>
  intro es h _
  cases es with
  | nil=>simp[ZeE] at h
  | cons c es =>
   simp only[ZeE,Bool.and_eq_true] at h
   obtain⟨⟨h1,h2⟩,h3⟩:=h
   have he:SB (Cx.hot X e) CL W0 y (fun ρ=>(top ρ c (evE Γ ρ c)).bind ZbS):=by
    have q:=Zjb ((Zlz v e x n y c h2).st) (ZgI h1)
    exact SB.congr q fun ρ=>by rw[ZjY h2]
   cases ys with
   | nil =>
    cases es with
    | nil=>exact SW.ref (ZlX he) (Rf.tru c)
    | cons=>simp[ZeE] at h3
   | cons z zs =>
    cases es with
    | nil=>simp[ZeE] at h3
    | cons c' es'=>exact SW.ref (Zp9 he (ih (.cons c' es') h3 (by simp))) (ZmE c c' es')
theorem ZwY(v:VX Γ CL k W T X)(e:Addr)(x n:Nat)(t:Expr)(c:E)(h:Zpv n T x t c=true):SB (Cx.hot X e) CL W0 t (fun ρ=>(top ρ c (evE Γ ρ c)).bind ZbS):=by
 unfold Zpv at h
 split at h
 ·split at h
  ·simp only[Bool.and_eq_true,Bool.not_eq_true',List.isEmpty_eq_false_iff] at h
   exact(ZrT v e x n _ _ _ h.1 h.2).sb
  ·cases h
 ·rw[Bool.and_eq_true] at h
  have q:=Zjb ((Zlz v e x n _ c h.2).st) (ZgI h.1)
  exact SB.congr q fun ρ=>by rw[ZjY h.2]
theorem ZwX(v:VX Γ CL k W T X)(hf:DefX X)(e:Addr)(x:Nat):∀ (n:Nat) (sts:List Stmt) (ss:Ss),Zgo n T x sts ss=true->SSs (Cx.hot X e) CL W0 sts (fun ρ=>evSs Γ ρ ss):=by
 intro n
 induction n with
 | zero=>intro t c h;simp[Zgo] at h
 | succ n ih =>
  intro sts ss h
  unfold Zgo at h
  split at h
  ·rw[List.isEmpty_iff] at h
   subst h
   exact ZgJ
  ·split at h
   ·simp only[Bool.and_eq_true,beq_iff_eq] at h
    obtain⟨⟨⟨⟨h1,h2⟩,h3⟩,h4⟩,h5⟩:=h
    exact Zek (Zqe (X:=Cx.hot X e) (by show X.N.Nodup;rw[v.N];exact v.nd) (by show X.N[_]?=_;rw[v.N];exact h1) (by show Loc X.env.scope _;rw[v.sc];exact ZfD h2) (Zlz v e x n _ _ h4) (Zg1 h3) (.inl (hf.fn _))) (ih _ _ h5)
   ·cases h
  ·split at h
   ·simp only[Bool.and_eq_true] at h
    obtain⟨⟨h1,h2⟩,h3⟩:=h
    exact Zek (Zqg (X:=Cx.hot X e) (ZwY v e x n _ _ h1) (ih _ _ h2) ZgJ) (ih _ _ h3)
   ·cases h
  ·split at h
   ·rename_i e0 ss0 st0 v0 pos r
    simp only[Bool.and_eq_true] at h
    obtain⟨⟨h0,h1⟩,h2⟩:=h
    have q:=Zek (Zi4 (X:=Cx.hot X e) (pos:=pos) (Zlz v e x n _ _ h1)) (ih _ _ h2)
    have ef:(fun ρ=>evSs Γ ρ (.cons (.ret e0) ss0))=fun ρ=>(O.of ρ (evE Γ ρ e0) fun d=>O.ret d false).seq fun ρ=>evSs Γ ρ ss0:=by
     funext ρ
     cases e0<;>first|rfl|(cases h0;done)
    rw[ef]
    exact q
   ·cases h
  ·cases h
theorem ZuT(Z:SndS Γ CL k n)(W:XW)(T:Tc)(X:Cx)(st:Stmt)(c:S)(v:VX Γ CL k W T X)(hf:DefX X)(h:Zdx (n+1) T st c=true):SS X CL W st (fun ρ=>evS Γ ρ c):=by
  have E:=snd (Γ:=Γ) (CL:=CL) (k:=k) n
  cases c with
  | pass=>simp[Zdx] at h
  | brk=>simp[Zdx] at h
  | cont=>simp[Zdx] at h
  | asg i fresh e =>
    simp only[Zdx] at h
    split at h
    · simp only[Bool.and_eq_true,beq_iff_eq] at h
      obtain⟨⟨h1,h2⟩,h3⟩:=h
      have o:=E.e W T X _ e v h3
      cases fresh with
      | false=>exact Zl1 (Zjd (fr:=false) v hf.fn h1 h2 o (fun z=>nomatch z))
      | true =>
        cases hn:ZfB Γ e with
        | true =>
          refine SS.ref (Znc (Zjd (fr:=true) v hf.fn h1 h2 o (fun _=>hn))) fun ρ=>.inr ?_
          show O.of ρ (evE Γ ρ e) (fun d=>if true=true then (if ZfB Γ e=true then (match d with
            | .lst xs=>.next (ρ.set i (some (.lst xs,true)))
            | .dic xs=>.next (ρ.set i (some (.dic xs,true)))
            | _=>.bad) else .bad) else .next (ρ.set i (some (d,false))))=_
          rw[hn]
          rfl
        | false =>
          refine SS.ref (Zl1 (Zjd (fr:=false) v hf.fn h1 h2 o (fun z=>nomatch z))) fun ρ=>?_
          have e0:evS Γ ρ (.asg i true e)=O.of ρ (evE Γ ρ e) (fun d=>if true=true then (if ZfB Γ e=true then (match d with
            | .lst xs=>.next (ρ.set i (some (.lst xs,true)))
            | .dic xs=>.next (ρ.set i (some (.dic xs,true)))
            | _=>.bad) else .bad) else .next (ρ.set i (some (d,false)))):=rfl
          rw[e0,hn]
          cases evE Γ ρ e with
          | ok d=>exact .inl rfl
          | exn y=>exact .inr rfl
          | bad=>exact .inl rfl
    · cases h
  | asgT ts e =>
    simp only[Zdx] at h
    split at h
    · simp only[Bool.and_eq_true] at h
      obtain⟨⟨⟨h1,h2⟩,h3⟩,h5⟩:=h
      exact Znb (ZwZ ts) (Zp7 v hf.fn h1 h2) (E.e W T X _ e v h5).se (Zi6 (fun _ _ z=>by cases z)) (Zp3 h3) rfl (Zkv ts)
    · cases h
  | expr e =>
    simp only[Zdx] at h
    split at h
    · simp only[Bool.and_eq_true] at h
      exact Zna (E.e W T X _ e v h.2).se (Zg1 h.1)
    · cases h
  | ret e =>
    simp only[Zdx] at h
    split at h
    · have o:=E.e W T X _ e v h
      cases hv:ZfB Γ e with
      | true =>
        refine SS.ref (Zm9 (o.nw hv)) fun ρ=>.inr ?_
        rw[Zgh ρ e (fun i z=>by subst z;cases hv),hv]
      | false =>
        cases e with
        | var i =>
          cases n with
          | zero=>simp[ZaN] at h
          | succ n =>
            simp only[ZaN] at h
            split at h
            · exact Zm8 (Zgb v h)
            · cases h
        | _ =>
          refine SS.ref (Zi4 o.se) fun ρ=>.inr ?_
          rw[Zgh ρ _ (by intro i z;cases z),hv]
    · cases h
  | retN=>simp[Zdx] at h
  | ife c a b =>
    simp only[Zdx] at h
    split at h
    · simp only[Bool.and_eq_true] at h
      exact Zqg (E.b W T X _ c v h.1.1) (Z.ss W T X _ a v hf h.1.2) (Z.ss W T X _ b v hf h.2)
    · cases h
  | fors t it body =>
    simp only[Zdx] at h
    split at h
    · simp only[Bool.and_eq_true] at h
      obtain⟨⟨⟨h1,h2⟩,h3⟩,h4⟩:=h
      exact Zl0 v.own v.calm (ZoC t) (Zm0 v hf.fn h1) (E.i W T X false _ _ it v (fun z=>nomatch z) h3) (Z.ss W T X _ body v hf h4) (Zhw h2) (fun _ _ _ z=>nomatch z)
    · cases h
  | forT ts it body =>
    simp only[Zdx] at h
    split at h
    · simp only[Bool.and_eq_true] at h
      obtain⟨⟨⟨⟨h0,h1⟩,h2⟩,h3⟩,h4⟩:=h
      exact Zl0 v.own v.calm (Zmm ts) (ZmZ v hf.fn h0 h1) (E.i W T X true _ _ it v (fun _=>rfl) h3) (Z.ss W T X _ body v hf h4) (Zhw h2) (Zfm ts)
    · cases h
  | whl c body=>simp[Zdx] at h
  | rais c as =>
    simp only[Zdx] at h
    cases hc:T.rzs.any (fun p=>p.2 == c) with
    | false =>
      have hb:∀ ds,Γ.xn c ds=.bad:=v.xt.xb c fun p hp z=>by
        have:T.rzs.any (fun p=>p.2 == c)=true:=List.any_eq_true.mpr ⟨p,hp,beq_iff_eq.mpr z⟩
        rw[hc] at this;cases this
      intro Fz B pins s σ H D I ⟨ρ,x,p⟩
      have p':Zau X.K CL Fz B W (O.of ρ (noX (evA Γ ρ as)) fun xs=>O.of ρ (Γ.xn c xs) fun x=>.exn x ρ) D:=p
      cases e1:evA Γ ρ as with
      | bad=>rw[e1] at p';exact p'.elim
      | exn y=>rw[e1] at p';exact p'.elim
      | ok ds =>
        rw[e1] at p'
        have p2:Zau X.K CL Fz B W (O.of ρ (Γ.xn c ds) fun x=>.exn x ρ) D:=p'
        rw[hb ds] at p2
        exact p2.elim
    | true=>rw[hc] at h;cases h
  | app i e =>
    simp only[Zdx] at h
    split at h
    · simp only[Bool.and_eq_true,beq_iff_eq] at h
      obtain⟨⟨⟨⟨rfl,h1⟩,h2⟩,h3⟩,h4⟩:=h
      exact Zqh (Zgb v h1) (E.e W T X _ e v h4).se rfl (by rw[Zas h3];rfl) (by rw[h2];exact beq_self_eq_true _) (Zas h3) rfl
    · cases h
  | ext i e=>simp[Zdx] at h
  | rev i=>simp[Zdx] at h
  | clr i=>simp[Zdx] at h
  | put i k e =>
    simp only[Zdx] at h
    split at h
    · simp only[Bool.and_eq_true] at h
      obtain⟨⟨⟨h1,h2⟩,h4⟩,h5⟩:=h
      rename_i x p y sp v0 pos
      exact Zqf (Zgb v h1) (E.e W T X _ k v h4).st (E.e W T X _ e v h5).se (fun w=>by cases y<;>first|rfl|cases h2) (Zi6 (fun _ _ z=>by cases z)) rfl rfl
    · cases h
  | tryx body c x hh=>simp[Zdx] at h
  | swp i k l=>simp[Zdx] at h
  | ins=>simp[Zdx] at h
  | dput=>simp[Zdx] at h
  | dsd=>simp[Zdx] at h
  | rel=>simp[Zdx] at h
theorem Zqb(Z:SndS Γ CL k n)(W:XW)(T:Tc)(X:Cx)(xs:List Stmt)(c:Ss)(v:VX Γ CL k W T X)(hf:DefX X)(h:chkSs (n+1) T xs c=true):SSs X CL W xs (fun ρ=>evSs Γ ρ c):=by
 cases c with
 | nil =>
  simp only[chkSs,List.isEmpty_iff] at h
  subst h
  exact ZgJ
 | cons s ss =>
  by_cases hr:∃ i,s=.rel i
  ·obtain⟨i,rfl⟩:=hr
   simp only[chkSs] at h
   exact Zm7 i (Z.ss W T X xs ss v hf h)
  ·cases xs with
   | nil=>cases s<;>first|(simp[chkSs] at h;done)|exact absurd ⟨_,rfl⟩ hr
   | cons st r =>
    have h':Zdx n T st s=true/\chkSs n T r ss=true:=by
     cases s<;>first|(simp only[chkSs,Bool.and_eq_true] at h;exact h)|exact absurd ⟨_,rfl⟩ hr
    exact Zek (Z.s W T X st s v hf h'.1) (Z.ss W T X r ss v hf h'.2)
theorem ZuZ:∀ n,SndS Γ CL k n
 | 0=>⟨fun _ _ _ _ _ _ _ h=>by simp[Zdx] at h,fun _ _ _ _ _ _ _ h=>by simp[chkSs] at h⟩
 | n+1=>⟨ZuT (ZuZ n),Zqb (ZuZ n)⟩
end
end Ov
end
section
namespace Ov
open PySem PySem.Spec PyProof.Rows L2
theorem Zb4{n:Nat}{ds:List D}{i:Nat}{d:D}{o:Bool}(h:(Zaf n ds)[i]?=some (some (d,o))):o=false/\ds[i]?=some d:=by
 unfold Zaf at h
 by_cases hi:i<ds.length
 ·rw[List.getElem?_append_left (by simpa using hi),List.getElem?_map] at h
  cases e:ds[i]? with
  | none=>rw[e] at h;cases h
  | some x=>rw[e] at h;cases h;exact⟨rfl,rfl⟩
 ·rw[List.getElem?_append_right (by simpa using Nat.le_of_not_lt hi),List.getElem?_replicate] at h
  split at h<;>cases h
theorem Zi3{N:List Str}{vs:List V}{i:Nat}{v:V}(h:vs[i]?=some v):(L2.start N vs)[i]?=some (some v):=by
 unfold L2.start
 have hi:=(List.getElem?_eq_some_iff.mp h).1
 rw[List.getElem?_append_left (by simpa using hi),List.getElem?_map,h]
 rfl
theorem Zhp{K:PySem.W.Frag}{CL:ClA}{A:Addr->Prop}{H:Hp}{N:List Str}{n:Nat}{vs:List V}{ds:List D}(hn:N.length=n)(hA:AOk H A)(r:Reps K CL H A vs ds):Sx K CL (fun b o=>H b=some o) A (Zaf n ds) (L2.start N vs) H:=by
 have own:∀ a,ZcG A (Zaf n ds) (L2.start N vs) a->A a:=fun a h=>by
  rcases h with h|⟨j,d,h,_⟩
  ·exact h
  ·exact absurd (Zb4 h).1 (by decide)
 have hlen:(Zaf n ds).length=(L2.start N vs).length:=by
  unfold Zaf L2.start
  simp only[List.length_append,List.length_map,List.length_replicate,r.length,hn]
 refine⟨⟨fun i d h=>?_,fun i d h=>absurd (Zb4 h).1 (by decide),hlen⟩,fun a h=>hA a (own a h),fun j d a h _=>absurd (Zb4 h).1 (by decide),fun i j d e a h _ _ _=>absurd (Zb4 h).1 (by decide),fun b o h=>h,hlen⟩
 obtain⟨v,h1,h2⟩:=r.get (Zb4 h).2
 exact⟨v,Zi3 h1,Rep.sub own _ h2⟩
def ZmL(K:PySem.W.Frag)(mg:Str->Option Value)(fns:List (Str×Nat×Nat))(bl:List Str)(rzs exs gls:List (Str×Nat))(Pg:Prg)(fuel:Nat)(p:Str×Nat×Nat):Prop:=∃ f fd ps qual st N,mg p.1=some (.ref f)/\Fun K p.1 qual st f fd/\Zei K fd ps []/\ps.length=p.2.2%1000/\Ziz fuel (Nat.ble 1000 p.2.2) fns bl rzs exs gls ps N st (Pg.defs p.2.1)=true
structure Tab (K:PySem.W.Frag) (mg:Str->Option Value) (CL:ClA) (fns:List (Str×Nat×Nat)) (bl:List Str) (rzs exs gls:List (Str×Nat)) (Pg:Prg) (fuel:Nat):Prop where
 xt:XT Pg.up Pg.xn CL rzs exs K mg
 bln:∀ x,x∈bl->mg x=none
 gl:∀ p∈gls,Zuo K mg CL p.1 (Pg.G p.2)
 fn:∀ p∈fns,ZmL K mg fns bl rzs exs gls Pg fuel p
theorem Zmp(Pg:Prg)(n i:Nat):(gam Pg n).fr i=(Pg.defs i).fr:=by cases n<;>rfl
theorem Zmo(Pg:Prg)(n:Nat):(gam Pg n).up=Pg.up:=by cases n<;>rfl
theorem ZrW(Pg:Prg)(n:Nat):(gam Pg n).G=Pg.G:=by cases n<;>rfl
theorem Zmn(Pg:Prg)(n:Nat):(gam Pg n).xn=Pg.xn:=by cases n<;>rfl
section
variable {P:Program} {w:World} {K:PySem.W.Frag} {mg:Str->Option Value} {base:Heap} {CL:ClA} {fns:List (Str×Nat×Nat)} {bl:List Str} {rzs exs gls:List (Str×Nat)} {Pg:Prg} {fuel:Nat}
def Lvl(P:Program)(w:World)(K:PySem.W.Frag)(mg:Str->Option Value)(base:Heap)(CL:ClA)(Pg:Prg)(n:Nat)(p:Str×Nat×Nat):Prop:=∃ f fd ps,mg p.1=some (.ref f)/\PySem.W.keepIn K (.ref f)=true/\Zei K fd ps []/\ps.length=p.2.2%1000/\(p.2.2<1000->FnOk P w K mg base (CXR P w) n f fd ps (spD K CL (p.2.2%1000) ((gam Pg n).fr p.2.1) ((gam Pg n).F p.2.1)))/\(1000<=p.2.2->HotOk P w K mg base n f fd ps (spH K CL (p.2.2%1000) ((gam Pg n).fr p.2.1) ((gam Pg n).F p.2.1)))
theorem Zmw(t:Tab K mg CL fns bl rzs exs gls Pg fuel){n:Nat}(hlv:∀ q∈fns,Lvl P w K mg base CL Pg n q){x qual:Str}{st:Stmt}{f:Addr}{fd:FuncData}{ps N:List Str}{m id:Nat}(h2:Fun K x qual st f fd)(h4:ps.length=m)(h5:Ziz fuel false fns bl rzs exs gls ps N st (Pg.defs id)=true) :
    FnOk P w K mg base (CXR P w) (n+1) f fd ps (spD K CL m ((gam Pg (n+1)).fr id) ((gam Pg (n+1)).F id)):=by
  unfold Ziz at h5
  simp only[Bool.and_eq_true,beq_iff_eq,Bool.not_eq_true',List.all_eq_true,Bool.or_eq_true,bne_iff_ne,ne_eq] at h5
  obtain⟨⟨⟨⟨⟨⟨⟨⟨c1,c2⟩,c3⟩,c4⟩,c5⟩,c6⟩,c7⟩,c8⟩,c9⟩:=h5
  obtain⟨oc,od,kV,doc,pm,an,cdv,ct,osl,rfl,lk,hcd⟩:=h2.ex
  refine Zr6 (N:=N) lk hcd ⟨c1,c2,c3,Zb7 c4,c5,c6,c7⟩ (fun vs H Q E ⟨ds,A,z,_⟩=>z.trans h4.symm) fun A outer s H vs Q E hr ⟨ds,B,hl,hA,hreps,hpost⟩=>?_
  have xt:XT (gam Pg n).up (gam Pg n).xn CL rzs exs K mg:=by rw[Zmo,Zmn];exact t.xt
  have gl:∀ p∈gls,Zuo K mg CL p.1 ((gam Pg n).G p.2):=by rw[ZrW];exact t.gl
  have key:∀ W:XW,(∀ x cls H',W x H'->(∃ C,CL x.c=some C/\cls=.ref C)->E cls none H')->Zau K CL (fun b o=>H b=some o) B W (evSs (gam Pg n) (Zaf (Pg.defs id).n ds) (Pg.defs id).body) { nx:=fun _ H'=>Q .non H',rt:=Q } ->
      ∃ t,PSs (ZfS (CXR P w) P w K mg base N qual (ZaH st) f cdv A outer s H E) (ZbL st) t/\t { nx:=fun _ H'=>Q .non H',rt:=Q } (start N vs) H:=fun W hW hp=>by
    have v:VX (gam Pg n) CL n W ⟨ZaH st,N,fns,bl,rzs,exs,gls⟩ (ZfS (CXR P w) P w K mg base N qual (ZaH st) f cdv A outer s H E):=⟨rfl,c1,rfl,Zb7 c4,rfl,hr,t.bln,hlv,ownR,Zwm hW,rzR hW,xt,gl⟩
    exact⟨_,(ZuZ fuel).ss W _ _ _ (Pg.defs id).body v ⟨fun _=>rfl,rfl,rfl,rfl⟩ c9 (fun b o=>H b=some o) B,_,Zhp c8 hA hreps,hp⟩
  have no:∀ x cls H',W0 x H'->(∃ C,CL x.c=some C/\cls=.ref C)->E cls none H':=fun _ _ _ z=>z.elim
  have e:(gam Pg (n+1)).F id ds=Zdj Pg.xs ((evSs (gam Pg n) (Zaf (Pg.defs id).n ds) (Pg.defs id).body).ans (Pg.defs id).fr):=rfl
  rw[e,Zmp] at hpost
  have cutO:∀ r:R D,(∀ x,r≠.exn x)->Zdj Pg.xs r=r:=fun r hr=>by
    cases Pg.xs<;>cases r<;>first|rfl|exact absurd rfl (hr _)
  cases eo:evSs (gam Pg n) (Zaf (Pg.defs id).n ds) (Pg.defs id).body with
  | next ρ' =>
    refine key W0 no ?_
    rw[eo] at hpost ⊢
    cases ef:(Pg.defs id).fr with
    | true=>rw[ef] at hpost;rw[cutO _ (by intro x z;cases z)] at hpost;exact hpost.elim
    | false =>
      rw[ef] at hpost
      rw[cutO _ (by intro x z;cases z)] at hpost
      exact fun σ' H' x'=>hpost .non H' (fun b o z=>x'.same b o z) ⟨rfl,fun z=>nomatch z⟩
  | ret d b =>
    refine key W0 no ?_
    rw[eo] at hpost ⊢
    intro v H' sm rp fr
    have hp2:(match Zdj Pg.xs (if ((Pg.defs id).fr&&(!b&&isL d))=true then R.bad else R.ok d) with
      | .ok d=>∀ v H',Zaj H H'->Zeg K CL (Pg.defs id).fr H B H' v d->Q v H'
      | .exn x=>∀ cls dx H',Zaj H H'->Zs4 K CL H' B cls dx x->E cls dx H'
      | .bad=>False):=hpost
    cases ec:((Pg.defs id).fr&&(!b&&isL d)) with
    | true=>rw[ec,if_pos rfl,cutO _ (by intro x z;cases z)] at hp2;exact hp2.elim
    | false =>
      rw[ec,if_neg (by decide),cutO _ (by intro x z;cases z)] at hp2
      refine hp2 v H' sm ⟨rp,fun efr es hd=>?_⟩
      subst hd
      have eb:b=true:=by
        cases b with
        | true=>rfl
        | false=>rw[efr] at ec;cases ec
      obtain⟨a,xs,h1,h2,h3,h4⟩:=fr eb es rfl
      refine⟨a,xs,h1,?_,h3,h4⟩
      cases ha:H a with
      | none=>rfl
      | some o=>exact absurd ha (h2 o)
  | brk ρ'=>rw[eo] at hpost;have hp2:(match Zdj Pg.xs (R.bad:R D) with | .ok _=>_ | .exn _=>_ | .bad=>False):=hpost;rw[cutO _ (by intro x z;cases z)] at hp2;exact hp2.elim
  | cont ρ'=>rw[eo] at hpost;have hp2:(match Zdj Pg.xs (R.bad:R D) with | .ok _=>_ | .exn _=>_ | .bad=>False):=hpost;rw[cutO _ (by intro x z;cases z)] at hp2;exact hp2.elim
  | bad=>rw[eo] at hpost;have hp2:(match Zdj Pg.xs (R.bad:R D) with | .ok _=>_ | .exn _=>_ | .bad=>False):=hpost;rw[cutO _ (by intro x z;cases z)] at hp2;exact hp2.elim
  | exn x ρ' =>
    rw[eo] at hpost
    have hp2:(match Zdj Pg.xs (R.exn x:R D) with
      | .ok d=>∀ v H',Zaj H H'->Zeg K CL (Pg.defs id).fr H B H' v d->Q v H'
      | .exn x=>∀ cls dx H',Zaj H H'->Zs4 K CL H' B cls dx x->E cls dx H'
      | .bad=>False):=hpost
    cases ex:Pg.xs with
    | false=>rw[ex] at hp2;exact hp2.elim
    | true =>
      rw[ex] at hp2
      have hp3:(match (if x.fs.isEmpty=true then (R.exn x:R D) else .bad) with
        | .ok d=>∀ v H',Zaj H H'->Zeg K CL (Pg.defs id).fr H B H' v d->Q v H'
        | .exn x=>∀ cls dx H',Zaj H H'->Zs4 K CL H' B cls dx x->E cls dx H'
        | .bad=>False):=hp2
      by_cases hfs:x.fs.isEmpty=true
      · rw[if_pos hfs] at hp3
        refine key (fun y H'=>y=x/\Zaj H H') (fun y cls H' ⟨e1,sm⟩ ⟨C,d1,d2⟩=>?_) ?_
        · subst e1
          exact hp3 cls none H' sm ⟨C,d1,d2,.inl (List.isEmpty_iff.mp hfs)⟩
        · rw[eo]
          exact fun H' sm=>⟨rfl,sm⟩
      · rw[if_neg hfs] at hp3
        exact hp3.elim
theorem ZrR(t:Tab K mg CL fns bl rzs exs gls Pg fuel){n:Nat}(hlv:∀ q∈fns,Lvl P w K mg base CL Pg n q){x qual:Str}{st:Stmt}{f:Addr}{fd:FuncData}{ps N:List Str}{m id:Nat}(h2:Fun K x qual st f fd)(h4:ps.length=m)(h5:Ziz fuel true fns bl rzs exs gls ps N st (Pg.defs id)=true) :
    HotOk P w K mg base (n+1) f fd ps (spH K CL m ((gam Pg (n+1)).fr id) ((gam Pg (n+1)).F id)):=by
  unfold Ziz at h5
  simp only[Bool.and_eq_true,beq_iff_eq,Bool.not_eq_true',List.all_eq_true,Bool.or_eq_true,bne_iff_ne,ne_eq] at h5
  obtain⟨⟨⟨⟨⟨⟨⟨⟨c1,c2⟩,c3⟩,c4⟩,c5⟩,c6⟩,c7⟩,c8⟩,c9⟩:=h5
  obtain⟨oc,od,kV,doc,pm,an,cdv,ct,osl,rfl,lk,hcd⟩:=h2.ex
  refine ZrS (N:=N) lk hcd ⟨c1,c2,c3,Zb7 c4,c5,c6,c7⟩ (fun vs H Q E ⟨ds,A,z,_⟩=>z.trans h4.symm) fun A ev outer s H vs Q E hr ⟨ds,B,hl,hA,hreps,hpost⟩=>?_
  have xt:XT (gam Pg n).up (gam Pg n).xn CL rzs exs K mg:=by rw[Zmo,Zmn];exact t.xt
  have gl:∀ p∈gls,Zuo K mg CL p.1 ((gam Pg n).G p.2):=by rw[ZrW];exact t.gl
  have key:Zau K CL (fun b o=>H b=some o) B W0 (evSs (gam Pg n) (Zaf (Pg.defs id).n ds) (Pg.defs id).body) { nx:=fun _ H'=>Q .non H',rt:=Q } ->
      ∃ t,PSs (Cx.hot (ZfS ZpS P w K mg base N qual (ZaH st) f cdv A outer s H E) ev) (ZbL st) t/\t { nx:=fun _ H'=>Q .non H',rt:=Q } (start N vs) H:=fun hp=>by
    have v:VX (gam Pg n) CL n W0 ⟨ZaH st,N,fns,bl,rzs,exs,gls⟩ (ZfS ZpS P w K mg base N qual (ZaH st) f cdv A outer s H E):=⟨rfl,c1,rfl,Zb7 c4,rfl,hr,t.bln,hlv,PassesOwn.leaving,Zjw,Zvr,xt,gl⟩
    exact⟨_,ZwX v ⟨fun _=>rfl,rfl,rfl,rfl⟩ ev 0 fuel _ (Pg.defs id).body c9 (fun b o=>H b=some o) B,_,Zhp c8 hA hreps,hp⟩
  have e:(gam Pg (n+1)).F id ds=Zdj Pg.xs ((evSs (gam Pg n) (Zaf (Pg.defs id).n ds) (Pg.defs id).body).ans (Pg.defs id).fr):=rfl
  rw[e,Zmp] at hpost
  have cutO:∀ r:R D,(∀ x,r≠.exn x)->Zdj Pg.xs r=r:=fun r hr=>by
    cases Pg.xs<;>cases r<;>first|rfl|exact absurd rfl (hr _)
  refine key ?_
  cases eo:evSs (gam Pg n) (Zaf (Pg.defs id).n ds) (Pg.defs id).body with
  | next ρ' =>
    rw[eo] at hpost
    cases ef:(Pg.defs id).fr with
    | true=>rw[ef] at hpost;rw[cutO _ (by intro x z;cases z)] at hpost;exact hpost.elim
    | false =>
      rw[ef] at hpost
      rw[cutO _ (by intro x z;cases z)] at hpost
      exact fun σ' H' x'=>hpost .non H' (fun b o z=>x'.same b o z) ⟨rfl,fun z=>nomatch z⟩
  | ret d b =>
    rw[eo] at hpost
    intro v H' sm rp fr
    have hp2:(match Zdj Pg.xs (if ((Pg.defs id).fr&&(!b&&isL d))=true then R.bad else R.ok d) with
      | .ok d=>∀ v H',Zaj H H'->Zeg K CL (Pg.defs id).fr H B H' v d->Q v H'
      | .exn x=>False
      | .bad=>False):=hpost
    cases ec:((Pg.defs id).fr&&(!b&&isL d)) with
    | true=>rw[ec,if_pos rfl,cutO _ (by intro x z;cases z)] at hp2;exact hp2.elim
    | false =>
      rw[ec,if_neg (by decide),cutO _ (by intro x z;cases z)] at hp2
      refine hp2 v H' sm ⟨rp,fun efr es hd=>?_⟩
      subst hd
      have eb:b=true:=by
        cases b with
        | true=>rfl
        | false=>rw[efr] at ec;cases ec
      obtain⟨a,xs,h1,h2,h3,h4⟩:=fr eb es rfl
      refine⟨a,xs,h1,?_,h3,h4⟩
      cases ha:H a with
      | none=>rfl
      | some o=>exact absurd ha (h2 o)
  | brk ρ'=>rw[eo] at hpost;have hp2:(match Zdj Pg.xs (R.bad:R D) with | .ok _=>_ | .exn _=>_ | .bad=>False):=hpost;rw[cutO _ (by intro x z;cases z)] at hp2;exact hp2.elim
  | cont ρ'=>rw[eo] at hpost;have hp2:(match Zdj Pg.xs (R.bad:R D) with | .ok _=>_ | .exn _=>_ | .bad=>False):=hpost;rw[cutO _ (by intro x z;cases z)] at hp2;exact hp2.elim
  | bad=>rw[eo] at hpost;have hp2:(match Zdj Pg.xs (R.bad:R D) with | .ok _=>_ | .exn _=>_ | .bad=>False):=hpost;rw[cutO _ (by intro x z;cases z)] at hp2;exact hp2.elim
  | exn x ρ' =>
    rw[eo] at hpost
    have hp2:(match Zdj Pg.xs (R.exn x:R D) with
      | .ok d=>∀ v H',Zaj H H'->Zeg K CL (Pg.defs id).fr H B H' v d->Q v H'
      | .exn x=>False
      | .bad=>False):=hpost
    exfalso
    cases ex:Pg.xs with
    | false=>rw[ex] at hp2;exact hp2
    | true =>
      rw[ex] at hp2
      by_cases hfs:x.fs.isEmpty=true
      · have:Zdj true (R.exn x:R D)=.exn x:=if_pos hfs
        rw[this] at hp2
        exact hp2
      · have:Zdj true (R.exn x:R D)=.bad:=if_neg hfs
        rw[this] at hp2
        exact hp2
theorem Zi0(t:Tab K mg CL fns bl rzs exs gls Pg fuel):∀ n,∀ p∈fns,Lvl P w K mg base CL Pg n p
 | 0,p,hp=>by
  obtain⟨f,fd,ps,qual,st,N,h1,h2,h3,h4,h5⟩:=t.fn p hp
  exact⟨f,fd,ps,h1,h2.kp,h3,h4,fun _=>⟨fun vs H Q E ⟨ds,A,_,_,_,z⟩=>z.elim,fun A outer s H args us vs Q E _ _ _ _ ⟨ds,A,_,_,_,z⟩=>z.elim⟩,fun _=>⟨fun vs H Q E ⟨ds,A,_,_,_,z⟩=>z.elim,fun A ev outer s H args us vs Q E _ _ _ _ ⟨ds,A,_,_,_,z⟩=>z.elim⟩⟩
 | n+1,p,hp=>by
  obtain⟨f,fd,ps,qual,st,N,h1,h2,h3,h4,h5⟩:=t.fn p hp
  refine⟨f,fd,ps,h1,h2.kp,h3,h4,fun hlt=>?_,fun hge=>?_⟩
  ·have eb:Nat.ble 1000 p.2.2=false:=by
    cases e:Nat.ble 1000 p.2.2 with
    | false=>rfl
    | true=>exact absurd (Nat.le_of_ble_eq_true e) (by omega)
   rw[eb] at h5
   exact Zmw t (fun q hq=>Zi0 t n q hq) h2 h4 h5
  ·rw[Nat.ble_eq_true_of_le hge] at h5
   exact ZrR t (fun q hq=>Zi0 t n q hq) h2 h4 h5
theorem Zsi{H:Hp}{s s':Shared}{e:Value}(h:CXR P w [] H s (fun _ _ _=>False) e s'):False:=by
 obtain⟨_,_,_,_,_,_,_,_,_,_,_,_,_,_,z⟩:=h
 exact z
theorem ZmT{up:Nat->List Nat}{xn:Nat->List D->R Ex}(h:∀ c ds,xn c ds=.bad):XT up xn (fun _=>none) [] [] K mg:=⟨fun _ _ z=>(nomatch z),fun _ z=>(nomatch z),fun _ z=>(nomatch z),fun c ds=>.inl (h c ds),fun c _ ds=>h c ds⟩
noncomputable def Zlv(K:PySem.W.Frag):Sp:=fun vs H Q _=>∃ (a:Addr) (ns:List Int),vs=[.ref a]/\ns.length<=63/\SqL K H a (ns.map V.int)/\∀ v H',v=V.bl true->Q v H'
theorem law_fn{CX:CXT}{k:Nat}{f:Addr}{fd:FuncData}{ps:List Str}{F:List D->R D}(G:FnOk P w K mg base CX k f fd ps (spD K CL 1 false F))(h:∀ ns:List Int,F [.lst (ns.map .int)]=.ok (.bl true)):FnOk P w K mg base CX k f fd ps (Zlv K):=G.imp fun vs H Q E ⟨a,ns,e,hl,hS,q⟩=>by
 subst e
 have rs:∀ l:List Int,Reps K CL H A0 (l.map V.int) (l.map D.int):=fun l=>by
  induction l with
  | nil=>trivial
  | cons x l ih=>exact⟨rfl,ih⟩
 refine⟨[.lst (ns.map .int)],A0,rfl,fun _ z=>z.elim,⟨⟨a,_,rfl,.inl (fun z=>z),hS,rs ns⟩,trivial⟩,?_⟩
 rw[h ns]
 exact fun v H' _ r=>q v H' r.1
theorem Zg9{α:Type}{Q:α->Prop}:∀ x∈([]:List α),Q x:=fun _ h=>nomatch h
theorem all_cons{α:Type}{Q:α->Prop}{a:α}{l:List α}(h1:Q a)(h2:∀ x∈l,Q x):∀ x∈a::l,Q x:=List.forall_mem_cons.2 ⟨h1,h2⟩
def FnI(K:PySem.W.Frag)(f:Addr)(n:Str)(st:Stmt):Prop:=∃ fd,Fun K n n st f fd/\PySem.W.nsIn K mainGlobals n=some (some (.ref f))
theorem fni{n:Str}{st:Stmt}{f:Addr}{oc:Value}{od an:Option Addr}{osl:Array (Option Value)}{kV doc pm cdv ct:Value}(a:PySem.W.nsIn K mainGlobals n=some (some (.ref f)))(l:K.lookup f=some ⟨oc,od,.func (PySem.W.fnOf n n (ZdO st) (ZbL st) (ZaH st) .none kV doc pm an cdv ct),osl⟩)(c:PySem.W.codeIn K cdv n=true)(k:PySem.W.keepIn K (.ref f)=true):FnI K f n st:=⟨_,ZrX l c k,a⟩
def Bd(n:Str)(st:Stmt)(ps:List Str)(us:List Value):Prop:=∀ (kV doc pm:Value) (an:Option Addr) (cdv ct:Value),bindArgs (PySem.W.fnOf n n (ZdO st) (ZbL st) (ZaH st) .none kV doc pm an cdv ct) ⟨us,[]⟩=pure (ps.zip us)
theorem Zfa{h:Heap}{n:Str}{f:Addr}{st:Stmt}{ps N:List Str}(m id:Nat)(X:K.In h)(G:h.Ns mainGlobals mg)(A:FnI K f n st)(hl:ps.length=m%1000)(hc:Ziz fuel (Nat.ble 1000 m) fns bl rzs exs gls ps N st (Pg.defs id)=true)(hb:∀ us:List Value,us.length=ps.length->Bd n st ps us):ZmL K mg fns bl rzs exs gls Pg fuel (n,id,m):=by
 obtain⟨fd,F,a⟩:=A
 exact⟨_,_,_,_,_,_,PySem.W.mg_of X G a,F,F.binds fun kV doc pm an cdv ct us hu=>hb us hu kV doc pm an cdv ct,hl,hc⟩
theorem Zz6{h:Heap}{n:Str}{f:Addr}{st:Stmt}{N:List Str}(m id:Nat)(X:K.In h)(G:h.Ns mainGlobals mg)(A:FnI K f n st)(hl:0=m%1000)(hc:Ziz fuel (Nat.ble 1000 m) fns bl rzs exs gls [] N st (Pg.defs id)=true)(hb:Bd n st [] []):ZmL K mg fns bl rzs exs gls Pg fuel (n,id,m) :=
 Zfa (ps:=[]) m id X G A hl hc fun us hu=>match us,hu with | [],_=>hb
theorem ZtD{h:Heap}{n:Str}{f:Addr}{st:Stmt}{N:List Str}{x0:Str}(m id:Nat)(X:K.In h)(G:h.Ns mainGlobals mg)(A:FnI K f n st)(hl:1=m%1000)(hc:Ziz fuel (Nat.ble 1000 m) fns bl rzs exs gls [x0] N st (Pg.defs id)=true)(hb:∀ u0,Bd n st [x0] [u0]):ZmL K mg fns bl rzs exs gls Pg fuel (n,id,m) :=
 Zfa (ps:=[x0]) m id X G A hl hc fun us hu=>match us,hu with | [u0],_=>hb u0
theorem Ze0{h:Heap}{n:Str}{f:Addr}{st:Stmt}{N:List Str}{x0 x1:Str}(m id:Nat)(X:K.In h)(G:h.Ns mainGlobals mg)(A:FnI K f n st)(hl:2=m%1000)(hc:Ziz fuel (Nat.ble 1000 m) fns bl rzs exs gls [x0,x1] N st (Pg.defs id)=true)(hb:∀ u0 u1,Bd n st [x0,x1] [u0,u1]):ZmL K mg fns bl rzs exs gls Pg fuel (n,id,m) :=
 Zfa (ps:=[x0,x1]) m id X G A hl hc fun us hu=>match us,hu with | [u0,u1],_=>hb u0 u1
theorem Zfy{h:Heap}{n:Str}{f:Addr}{st:Stmt}{N:List Str}{x0 x1 x2:Str}(m id:Nat)(X:K.In h)(G:h.Ns mainGlobals mg)(A:FnI K f n st)(hl:3=m%1000)(hc:Ziz fuel (Nat.ble 1000 m) fns bl rzs exs gls [x0,x1,x2] N st (Pg.defs id)=true)(hb:∀ u0 u1 u2,Bd n st [x0,x1,x2] [u0,u1,u2]):ZmL K mg fns bl rzs exs gls Pg fuel (n,id,m) :=
 Zfa (ps:=[x0,x1,x2]) m id X G A hl hc fun us hu=>match us,hu with | [u0,u1,u2],_=>hb u0 u1 u2
theorem Zv0{h:Heap}{n:Str}{f:Addr}{st:Stmt}{N:List Str}{x0 x1 x2 x3:Str}(m id:Nat)(X:K.In h)(G:h.Ns mainGlobals mg)(A:FnI K f n st)(hl:4=m%1000)(hc:Ziz fuel (Nat.ble 1000 m) fns bl rzs exs gls [x0,x1,x2,x3] N st (Pg.defs id)=true)(hb:∀ u0 u1 u2 u3,Bd n st [x0,x1,x2,x3] [u0,u1,u2,u3]):ZmL K mg fns bl rzs exs gls Pg fuel (n,id,m) :=
 Zfa (ps:=[x0,x1,x2,x3]) m id X G A hl hc fun us hu=>match us,hu with | [u0,u1,u2,u3],_=>hb u0 u1 u2 u3
theorem Zzz{h:Heap}{n:Str}{f:Addr}{st:Stmt}{N:List Str}{x0 x1 x2 x3 x4:Str}(m id:Nat)(X:K.In h)(G:h.Ns mainGlobals mg)(A:FnI K f n st)(hl:5=m%1000)(hc:Ziz fuel (Nat.ble 1000 m) fns bl rzs exs gls [x0,x1,x2,x3,x4] N st (Pg.defs id)=true)(hb:∀ u0 u1 u2 u3 u4,Bd n st [x0,x1,x2,x3,x4] [u0,u1,u2,u3,u4]):ZmL K mg fns bl rzs exs gls Pg fuel (n,id,m) :=
 Zfa (ps:=[x0,x1,x2,x3,x4]) m id X G A hl hc fun us hu=>match us,hu with | [u0,u1,u2,u3,u4],_=>hb u0 u1 u2 u3 u4
end
end Ov
end
section
namespace OvC
open PySem Ov
noncomputable def ZeL:Df:=⟨4,false,(.cons (.ret (.call 1 (.cons (.var 0) (.cons (.bin .Add (.bin .Sub (.bin .Mult (.idx (.var 1) (.int 0)) (.bin .Sub (.bin .Mult (.idx (.var 2) (.int 1)) (.idx (.var 3) (.int 2))) (.bin .Mult (.idx (.var 2) (.int 2)) (.idx (.var 3) (.int 1))))) (.bin .Mult (.idx (.var 1) (.int 1)) (.bin .Sub (.bin .Mult (.idx (.var 2) (.int 0)) (.idx (.var 3) (.int 2))) (.bin .Mult (.idx (.var 2) (.int 2)) (.idx (.var 3) (.int 0)))))) (.bin .Mult (.idx (.var 1) (.int 2)) (.bin .Sub (.bin .Mult (.idx (.var 2) (.int 0)) (.idx (.var 3) (.int 1))) (.bin .Mult (.idx (.var 2) (.int 1)) (.idx (.var 3) (.int 0)))))) .nil)))) .nil)⟩
noncomputable abbrev tr(a b c:Int):D:=.tup [.int a,.int b,.int c]
noncomputable def det(a0 a1 a2 b0 b1 b2 c0 c1 c2:Int):Int:=a0*(b1*c2-b2*c1)-a1*(b0*c2-b2*c0)+a2*(b0*c1-b1*c0)
def Sm(x:Int):Prop:=0<=x/\x<11
theorem mo{x:Int}(h:Sm x)(y:Int):Zba x y=true:=Zbs (by have:=h.1;omega) (by have:=h.2;omega)
theorem g30(x y z:D):Zdf [x,y,z] 0=.ok x:=rfl
theorem g31(x y z:D):Zdf [x,y,z] 1=.ok y:=rfl
theorem g32(x y z:D):Zdf [x,y,z] 2=.ok z:=rfl
theorem ZxF{x y p:Int}(q:Int)(h:x=y+p*q):x%p=y%p:=by rw[h,Int.add_mul_emod_self_left]
theorem Sm.of{p:Int}(h:P4 p)(x:Int):Sm (x%p):=⟨Int.emod_nonneg _ (by have:=h.pos;omega),by have:=Int.emod_lt_of_pos x h.pos;have:=h.hi;omega⟩
end OvC
end
section
namespace OvC
open PySem Ov
theorem Zfi{body:D->Rho->O}(I:Rho->Prop)(g:Int->Bool):∀ (L:List Int),(∀ t∈L,∀ ρ,I ρ->(g t=true/\body (.int t) ρ=.ret (.int t) false)\/(g t=false/\∃ ρ',body (.int t) ρ=.next ρ'/\I ρ')) ->
  ∀ ρ,I ρ->(∃ t∈L,g t=true/\ZdH body (L.map D.int) ρ=.ret (.int t) false)\/((∀ t∈L,g t=false)/\∃ ρ',ZdH body (L.map D.int) ρ=.next ρ'/\I ρ')
 | [],_,ρ,i=>.inr ⟨(fun _ h=>nomatch h),ρ,rfl,i⟩
 | m::L,h,ρ,i=>by
  rcases h m (List.mem_cons_self ..) ρ i with ⟨e1,e2⟩|⟨e1,ρ',e2,i'⟩
  ·refine .inl ⟨m,List.mem_cons_self ..,e1,?_⟩
   show (body (.int m) ρ).turn _=_
   rw[e2]
   rfl
  ·rcases Zfi I g L (fun m' h'=>h m' (List.mem_cons_of_mem _ h')) ρ' i' with ⟨t,ht,a,b⟩|⟨a,r,b,c⟩
   ·refine .inl ⟨t,List.mem_cons_of_mem _ ht,a,?_⟩
    show (body (.int m) ρ).turn _=_
    rw[e2]
    exact b
   ·refine .inr ⟨fun t ht=>?_,r,?_,c⟩
    ·rcases List.mem_cons.mp ht with rfl|ht
     ·exact e1
     ·exact a t ht
    ·show (body (.int m) ρ).turn _=_
     rw[e2]
     exact b
noncomputable def ZaC:Ss:=(.cons (.ife (.cmp .Eq (.call 1 (.cons (.var 0) (.cons (.bin .Mult (.var 1) (.var 2)) .nil))) (.int 1)) (.cons (.ret (.var 2)) .nil) .nil) .nil)
noncomputable def ZbD:Df:=⟨3,false,(.cons (.fors 2 (.rng2 (.int 1) (.var 0)) ZaC) (.cons (.rais 2 (.cons (.str (Str.ofString "a number with the rest 0 is not turned over")) .nil)) .nil))⟩
noncomputable def Zho(p:Int):List Int:=(List.range (p-1).toNat).map fun (k:Nat)=>1+(k:Int)
theorem Zc1{p t:Int}:t∈Zho p↔1<=t/\t<p:=by
 unfold Zho
 rw[List.mem_map]
 constructor
 ·rintro⟨k,hk,rfl⟩
  have:=List.mem_range.mp hk
  omega
 ·rintro⟨h1,h2⟩
  exact⟨(t-1).toNat,List.mem_range.mpr (by omega),by omega⟩
theorem ZhC{p:Int}(h:P4 p):ZaB 1 p=.ok ((Zho p).map D.int):=by
 rcases h with rfl|rfl|rfl|rfl<;>rfl
theorem ZoA:∀ p:Fin 12,(p.val=3\/p.val=5\/p.val=7\/p.val=11)->∀ r:Fin 12,r.val<p.val->r.val≠0->∃ t:Fin 12,1<=t.val/\t.val<p.val/\r.val*t.val%p.val=1:=by decide +kernel
theorem Zcz{p n:Int}(h:P4 p)(hn:n%p≠0):∃ t,1<=t/\t<p/\n*t%p=1:=by
 have p0:0<p/\p<12:=by rcases h with rfl|rfl|rfl|rfl<;>decide
 obtain⟨q,rfl⟩:∃ q:Nat,p=q:=⟨p.toNat,by omega⟩
 have h0:=Int.emod_nonneg n (b:=(q:Int)) (by omega)
 have h1:=Int.emod_lt_of_pos n p0.1
 obtain⟨r,hr⟩:∃ r:Nat,n%(q:Int)=r:=⟨(n%(q:Int)).toNat,by omega⟩
 obtain⟨t,t1,t2,t3⟩:=ZoA ⟨q,by omega⟩ (by rcases h with e|e|e|e<;>simp<;>omega) ⟨r,by omega⟩ (by show r<q;omega) (by show r≠0;omega)
 refine⟨(t.val:Int),by omega,by show (t.val:Int)<q;exact Int.ofNat_lt.mpr t2,?_⟩
 have e:((r*t.val%q:Nat):Int)=1:=by rw[show r*t.val%q=1 from t3];rfl
 rw[<- e,Int.natCast_emod,Int.natCast_mul,<- hr]
 exact(Int.mul_emod n _ _).trans (by rw[Int.mul_emod (n%(q:Int)) (t.val:Int) (q:Int),Int.emod_emod_of_dvd n (Int.dvd_refl _)])
theorem Zar{r:R D}{d:D}(h:r=.ok d):Zdj true r=.ok d:=by rw[h];rfl
def Zd2(p n t:Int):Prop:=1<=t/\t<p/\n*t%p=1
theorem Zge{p n t u:Int}(h1:Zd2 p n t)(h2:Zd2 p n u):t=u:=by
 have hp:1<p:=by have:=h1.1;have:=h1.2.1;omega
 have e:t%p=u%p:=by
  have a:t%p=t*(n*u)%p:=by rw[Int.mul_emod,h2.2.2,Int.mul_one,Int.emod_emod_of_dvd _ (Int.dvd_refl p)]
  have b:u%p=(n*t)*u%p:=by rw[Int.mul_emod (n*t) u p,h1.2.2,Int.one_mul,Int.emod_emod_of_dvd _ (Int.dvd_refl p)]
  rw[a,b]
  congr 1
  rw[<- Int.mul_assoc,Int.mul_comm t n]
 rw[Int.emod_eq_of_lt (by have:=h1.1;omega) h1.2.1,Int.emod_eq_of_lt (by have:=h2.1;omega) h2.2.1] at e
 exact e
theorem Zae{p c x:Int}(hp:P4 p)(hc:c%p≠0)(hx:x%p≠0):c*x%p≠0:=fun z=>by
 obtain⟨t,_,_,e⟩:=Zcz hp hc
 refine hx ?_
 have e1:x%p=(c*t)*x%p:=by rw[Int.mul_emod (c*t) x p,e,Int.one_mul,Int.emod_emod_of_dvd _ (Int.dvd_refl p)]
 rw[e1,show c*t*x=t*(c*x) by rw[Int.mul_comm c t,Int.mul_assoc],Int.mul_emod,z,Int.mul_zero,Int.zero_emod]
noncomputable def Zap(p:Int):List Int->Option Int
 | []=>none
 | x::xs=>if x%p=0 then Zap p xs else some (x%p)
theorem ZbJ{p:Int}:∀ {xs:List Int},Zap p xs=none↔∀ x∈xs,x%p=0
 | []=>by simp[Zap]
 | x::xs=>by
  unfold Zap
  by_cases h:x%p=0
  ·rw[if_pos h,ZbJ (xs:=xs)]
   simp[h]
  ·rw[if_neg h]
   simp[h]
theorem ZaW{p l:Int}(hp:0<p):∀ {xs:List Int},Zap p xs=some l->l%p≠0/\0<l/\l<p
 | [],h=>by cases h
 | x::xs,h=>by
  unfold Zap at h
  by_cases hx:x%p=0
  ·rw[if_pos hx] at h;exact ZaW hp h
  ·rw[if_neg hx] at h
   cases h
   have h0:=Int.emod_nonneg x (b:=p) (by omega)
   have h1:=Int.emod_lt_of_pos x hp
   exact⟨by rw[Int.emod_emod_of_dvd _ (Int.dvd_refl p)];exact hx,by omega,h1⟩
theorem ZbT{p c:Int}(hp:P4 p)(hc:c%p≠0){f:Int->Int}(hf:∀ x,f x%p=c*x%p):∀ xs:List Int,Zap p (xs.map f)=(Zap p xs).map fun l=>c*l%p
 | []=>rfl
 | x::xs=>by
  rw[List.map_cons]
  unfold Zap
  rw[hf x]
  by_cases hx:x%p=0
  ·rw[if_pos hx,if_pos (by rw[Int.mul_emod,hx,Int.mul_zero,Int.zero_emod]),ZbT hp hc hf xs]
  ·rw[if_neg hx,if_neg (Zae hp hc hx),Option.map_some]
   congr 1
   rw[Int.mul_emod c (x%p),Int.emod_emod_of_dvd _ (Int.dvd_refl p),<- Int.mul_emod]
noncomputable def ds(xs:List Int):List D:=xs.map D.int
noncomputable def Zda(b:Bool)(xs:List Int):D:=if b=true then .tup (ds xs) else .lst (ds xs)
theorem ZdZ(b xs):ZaF (Zda b xs)=.ok (ds xs):=by unfold Zda;cases b<;>rfl
theorem ZbM{g:D->R Bool}{f:D->R D}{φ:Int->Int}:∀ (xs:List Int),(∀ x∈xs,g (.int x)=.ok true/\f (.int x)=.ok (.int (φ x)))->Zal g f (ds xs)=.ok (ds (xs.map φ))
 | [],_=>rfl
 | x::xs,h=>by
  obtain⟨h1,h2⟩:=h x (List.mem_cons_self ..)
  show (g (.int x)).bind _=_
  rw[h1,R.bind_ok,if_pos rfl,h2,R.bind_ok]
  show (Zal g f (ds xs)).bind _=_
  rw[ZbM xs fun y hy=>h y (List.mem_cons_of_mem _ hy)]
  rfl
noncomputable def ZdB:E:=(.bl true)
noncomputable def Zcm:E:=(.call 1 (.cons (.var 0) (.cons (.var 5) .nil)))
noncomputable def ZdA:E:=(.bl true)
noncomputable def Zcl:E:=(.call 1 (.cons (.var 0) (.cons (.bin .Mult (.var 4) (.var 6)) .nil)))
noncomputable def Zat:Ss:=(.cons (.ife (.cmp .NotEq (.var 3) (.int 0)) (.cons (.asg 4 false (.call 9 (.cons (.var 0) (.cons (.var 3) .nil)))) (.cons (.ret (.bi .tuple (.cons (.comp Zcl 6 (.e (.var 2)) ZdA) .nil))) .nil)) .nil) .nil)
noncomputable def Zc5:Df:=⟨7,false,(.cons (.asg 2 false (.comp Zcm 5 (.e (.var 1)) ZdB)) (.cons (.fors 3 (.e (.var 2)) Zat) (.cons (.rais 3 (.cons (.str (Str.ofString "all the numbers have the rest 0")) .nil)) .nil)))⟩
noncomputable def fmI(p t:Int)(xs:List Int):List Int:=xs.map fun x=>t*(x%p)%p
section
variable {Γ:Gam} {p:Int} {xs:List Int} {b:Bool}
end
theorem Zci{g:D->R Bool}{f:D->R D}{q:Int->Bool}:∀ (xs:List Int),(∀ x∈xs,g (.int x)=.ok (q x)/\f (.int x)=.ok (.int x))->Zal g f (ds xs)=.ok (ds (xs.filter q))
 | [],_=>rfl
 | x::xs,h=>by
  obtain⟨h1,h2⟩:=h x (List.mem_cons_self ..)
  have ih:=Zci xs fun y hy=>h y (List.mem_cons_of_mem _ hy)
  show (g (.int x)).bind _=_
  rw[h1,R.bind_ok]
  cases hq:q x with
  | true =>
   rw[if_pos rfl,h2,R.bind_ok,List.filter_cons,hq,if_pos rfl]
   show (Zal g f (ds xs)).bind _=_
   rw[ih]
   rfl
  | false =>
   rw[if_neg (by decide),List.filter_cons,hq,if_neg (by decide)]
   exact ih
theorem Zeu{p:Int}(hp:0<p):∀ (xs:List Int),((xs.map fun x=>x%p).filter fun r=>decide (0<r)).head?=Zap p xs
 | []=>rfl
 | x::xs=>by
  have h0:=Int.emod_nonneg x (b:=p) (by omega)
  unfold Zap
  rw[List.map_cons,List.filter_cons]
  by_cases h:x%p=0
  ·rw[if_pos h,if_neg (by simp[h]),Zeu hp xs]
  ·rw[if_neg h,if_pos (by simp;omega)]
   rfl
theorem Zix{p l t:Int}(it:Zd2 p l t):((Zho p).filter fun k=>decide (k*l%p=1)).head?=some t:=by
 have hm:t∈(Zho p).filter fun k=>decide (k*l%p=1):=List.mem_filter.mpr ⟨Zc1.mpr ⟨it.1,it.2.1⟩,by simp[Int.mul_comm t l,it.2.2]⟩
 cases e:(Zho p).filter fun k=>decide (k*l%p=1) with
 | nil=>rw[e] at hm;cases hm
 | cons u us =>
  have hu:u∈(Zho p).filter fun k=>decide (k*l%p=1):=by rw[e];exact List.mem_cons_self ..
  obtain⟨h1,h2⟩:=List.mem_filter.mp hu
  obtain⟨a,b⟩:=Zc1.mp h1
  have h3:u*l%p=1:=by simpa using h2
  rw[Zge it ⟨a,b,by rw[Int.mul_comm];exact h3⟩]
  rfl
theorem Zex{xs:List Int}{l:Int}(h:xs.head?=some l):Zdf (ds xs) 0=.ok (.int l):=by
 cases xs with
 | nil=>cases h
 | cons x xs=>cases h;exact ZfI (by omega) rfl
theorem Zj9:∀ xs:List Int,eqDs (ds xs) (ds xs)=true
 | []=>rfl
 | x::xs=>by
  show (eqD (.int x) (.int x)&&eqDs (ds xs) (ds xs))=true
  rw[Zj9 xs]
  simp
theorem Zh4:∀ xs:List Int,Zd1 (xs.map fun _=>D.bl true)=.ok true
 | []=>rfl
 | x::xs=>by
  rw[List.map_cons,Zd0,Zh4 xs]
  rfl
theorem Zkh{g:D->R Bool}{f:D->R D}:∀ (xs:List Int),(∀ x∈xs,g (.int x)=.ok true/\f (.int x)=.ok (.bl true))->Zal g f (ds xs)=.ok (xs.map fun _=>D.bl true)
 | [],_=>rfl
 | x::xs,h=>by
  obtain⟨h1,h2⟩:=h x (List.mem_cons_self ..)
  show (g (.int x)).bind _=_
  rw[h1,R.bind_ok,if_pos rfl,h2,R.bind_ok]
  show (Zal g f (ds xs)).bind _=_
  rw[Zkh xs fun y hy=>h y (List.mem_cons_of_mem _ hy)]
  rfl
noncomputable abbrev own(xs:List Int):Sl:=some (.lst (ds xs),true)
section
variable {Γ:Gam} {ns:List Int} {a1 a2 a4 a6 a7 a8 a9 b0 b1 b2 b3 b4:Sl} {p:Int}
end
theorem Zls{p c l t:Int}(hp:P4 p)(hc:c%p≠0)(hl:l%p≠0)(it:Zd2 p l t){f:Int->Int}(hf:∀ x,f x%p=c*x%p)(xs:List Int):∃ u,Zd2 p (c*l%p) u/\fmI p u (xs.map f)=fmI p t xs:=by
 have h1:(c*l%p)%p≠0:=by rw[Int.emod_emod_of_dvd _ (Int.dvd_refl p)];exact Zae hp hc hl
 obtain⟨u,u1,u2,u3⟩:=Zcz hp h1
 refine⟨u,⟨u1,u2,u3⟩,?_⟩
 unfold fmI
 rw[List.map_map]
 refine List.map_congr_left fun x _=>?_
 show u*(f x%p)%p=t*(x%p)%p
 have u4:c*l*u%p=1:=by rw[<- u3,Int.mul_emod (c*l%p) u p,Int.emod_emod_of_dvd _ (Int.dvd_refl p),<- Int.mul_emod]
 have e1:u*(f x%p)%p=u*(c*x)%p:=by rw[hf,Int.mul_emod u (c*x%p) p,Int.emod_emod_of_dvd _ (Int.dvd_refl p),<- Int.mul_emod]
 have e2:t*(x%p)%p=t*x%p:=by rw[Int.mul_emod t (x%p) p,Int.emod_emod_of_dvd _ (Int.dvd_refl p),<- Int.mul_emod]
 have e3:u*(c*x)%p=(l*t)*(u*(c*x))%p:=by rw[Int.mul_emod (l*t) _ p,it.2.2,Int.one_mul,Int.emod_emod_of_dvd _ (Int.dvd_refl p)]
 have e4:t*x%p=(c*l*u)*(t*x)%p:=by rw[Int.mul_emod (c*l*u) _ p,u4,Int.one_mul,Int.emod_emod_of_dvd _ (Int.dvd_refl p)]
 rw[e1,e2,e3,e4]
 congr 1
 grind
section
variable {Γ:Gam} {ns:List Int} {a1 a4 a6 a7 a8 a9 b2 b3 b4:Sl} {p m:Int} {xs:List Int}
end
def Cg(p x y:Int):Prop:=x%p=y%p
section
variable {p a b c d:Int}
theorem Cg.rfl:Cg p a a:=Eq.refl _
theorem Cg.of(h:a=b):Cg p a b:=by unfold Cg;rw[h]
theorem Cg.trans{a b c:Int}(h:Cg p a b)(g:Cg p b c):Cg p a c:=Eq.trans h g
theorem Cg.symm(h:Cg p a b):Cg p b a:=Eq.symm h
theorem Cg.add(h:Cg p a b)(g:Cg p c d):Cg p (a+c) (b+d):=by unfold Cg at *;rw[Int.add_emod,h,g,<- Int.add_emod]
theorem Cg.sub(h:Cg p a b)(g:Cg p c d):Cg p (a-c) (b-d):=by unfold Cg at *;rw[Int.sub_emod,h,g,<- Int.sub_emod]
theorem Cg.mul(h:Cg p a b)(g:Cg p c d):Cg p (a*c) (b*d):=by unfold Cg at *;rw[Int.mul_emod,h,g,<- Int.mul_emod]
theorem Cg.md(h:a=b%p):Cg p a b:=by unfold Cg;rw[h,Int.emod_emod_of_dvd _ (Int.dvd_refl p)]
theorem Cg.far(q:Int)(h:a=b+p*q):Cg p a b:=ZxF q h
end
theorem Zdw{p a0 a1 a2 b0 b1 b2 c0 c1 c2 x0 x1 x2 y0 y1 y2 z0 z1 z2:Int}(h0:Cg p a0 x0)(h1:Cg p a1 x1)(h2:Cg p a2 x2)(h3:Cg p b0 y0)(h4:Cg p b1 y1)(h5:Cg p b2 y2)(h6:Cg p c0 z0)(h7:Cg p c1 z1)(h8:Cg p c2 z2) :
  Cg p (a0*(b1*c2-b2*c1)-a1*(b0*c2-b2*c0)+a2*(b0*c1-b1*c0)) (x0*(y1*z2-y2*z1)-x1*(y0*z2-y2*z0)+x2*(y0*z1-y1*z0)) :=
 ((h0.mul ((h4.mul h8).sub (h5.mul h7))).sub (h1.mul ((h3.mul h8).sub (h5.mul h6)))).add (h2.mul ((h3.mul h7).sub (h4.mul h6)))
theorem P4.m1{p:Int}(h:P4 p):(-1:Int)%p≠0:=by rcases h with rfl|rfl|rfl|rfl<;>decide
theorem P4.o1{p:Int}(h:P4 p):(1:Int)%p≠0:=by rcases h with rfl|rfl|rfl|rfl<;>decide
noncomputable abbrev R3:=Int×Int×Int
noncomputable def Zb5(a:R3):D:=.lst [.int a.1,.int a.2.1,.int a.2.2]
noncomputable def Zaa(a b c:R3):Int:=det a.1 a.2.1 a.2.2 b.1 b.2.1 b.2.2 c.1 c.2.1 c.2.2
def In3(p:Int)(a:R3):Prop:=(0<=a.1/\a.1<p)/\(0<=a.2.1/\a.2.1<p)/\(0<=a.2.2/\a.2.2<p)
structure GoodR (p:Int) (a b c:R3):Prop where
 p4:P4 p
 ia:In3 p a
 ib:In3 p b
 ic:In3 p c
 nz:Zaa a b c%p≠0
theorem GoodR.of{p k:Int}{a b c a' b' c':R3}(h:GoodR p a b c)(hk:k%p≠0)(e:Cg p (Zaa a' b' c') (k*Zaa a b c))(hin:In3 p a'/\In3 p b'/\In3 p c'):GoodR p a' b' c':=⟨h.p4,hin.1,hin.2.1,hin.2.2,by rw[show Zaa a' b' c'%p=_ from e];exact Zae h.p4 hk h.nz⟩
noncomputable def ZwA(t:Int)(a:R3):R3:=(a.1*t,a.2.1*t,a.2.2*t)
noncomputable def ZiB(t:Int)(a b:R3):R3:=(a.1+t*b.1,a.2.1+t*b.2.1,a.2.2+t*b.2.2)
noncomputable def mdR(p:Int)(a:R3):R3:=(a.1%p,a.2.1%p,a.2.2%p)
noncomputable def scR(p t:Int)(a:R3):R3:=mdR p (ZwA t a)
noncomputable def adR(p t:Int)(a b:R3):R3:=mdR p (ZiB t a b)
theorem ZrB{p:Int}(h:0<p)(a:R3):In3 p (mdR p a):=⟨⟨Int.emod_nonneg _ (by omega),Int.emod_lt_of_pos _ h⟩,⟨Int.emod_nonneg _ (by omega),Int.emod_lt_of_pos _ h⟩,⟨Int.emod_nonneg _ (by omega),Int.emod_lt_of_pos _ h⟩⟩
theorem Zvp{p:Int}(h:0<p)(t:Int)(a:R3):In3 p (scR p t a):=ZrB h _
theorem ZiC{p:Int}(h:0<p)(t:Int)(a b:R3):In3 p (adR p t a b):=ZrB h _
theorem ZzU(p t:Int)(a b c:R3):Cg p (Zaa (scR p t a) b c) (t*Zaa a b c):=by
 refine Cg.trans (b:=Zaa (ZwA t a) b c) ?_ (Cg.of (by unfold Zaa det ZwA;grind))
 unfold Zaa det
 exact Zdw (Cg.md (by rfl)) (Cg.md (by rfl)) (Cg.md (by rfl)) Cg.rfl Cg.rfl Cg.rfl Cg.rfl Cg.rfl Cg.rfl
theorem ZxM(p t:Int)(a b c:R3):Cg p (Zaa (adR p t a b) b c) (1*Zaa a b c):=by
 refine Cg.trans (b:=Zaa (ZiB t a b) b c) ?_ (Cg.of (by unfold Zaa det ZiB;grind))
 unfold Zaa det
 exact Zdw (Cg.md (by rfl)) (Cg.md (by rfl)) (Cg.md (by rfl)) Cg.rfl Cg.rfl Cg.rfl Cg.rfl Cg.rfl Cg.rfl
theorem ZxL(p t:Int)(a b c:R3):Cg p (Zaa (adR p t a c) b c) (1*Zaa a b c):=by
 refine Cg.trans (b:=Zaa (ZiB t a c) b c) ?_ (Cg.of (by unfold Zaa det ZiB;grind))
 unfold Zaa det
 exact Zdw (Cg.md (by rfl)) (Cg.md (by rfl)) (Cg.md (by rfl)) Cg.rfl Cg.rfl Cg.rfl Cg.rfl Cg.rfl Cg.rfl
theorem ZxK(p t:Int)(a b c:R3):Cg p (Zaa a (adR p t b a) c) (1*Zaa a b c):=by
 refine Cg.trans (b:=Zaa a (ZiB t b a) c) ?_ (Cg.of (by unfold Zaa det ZiB;grind))
 unfold Zaa det
 exact Zdw Cg.rfl Cg.rfl Cg.rfl (Cg.md (by rfl)) (Cg.md (by rfl)) (Cg.md (by rfl)) Cg.rfl Cg.rfl Cg.rfl
theorem ZxJ(p t:Int)(a b c:R3):Cg p (Zaa a (adR p t b c) c) (1*Zaa a b c):=by
 refine Cg.trans (b:=Zaa a (ZiB t b c) c) ?_ (Cg.of (by unfold Zaa det ZiB;grind))
 unfold Zaa det
 exact Zdw Cg.rfl Cg.rfl Cg.rfl (Cg.md (by rfl)) (Cg.md (by rfl)) (Cg.md (by rfl)) Cg.rfl Cg.rfl Cg.rfl
theorem ZxI(p t:Int)(a b c:R3):Cg p (Zaa a b (adR p t c a)) (1*Zaa a b c):=by
 refine Cg.trans (b:=Zaa a b (ZiB t c a)) ?_ (Cg.of (by unfold Zaa det ZiB;grind))
 unfold Zaa det
 exact Zdw Cg.rfl Cg.rfl Cg.rfl Cg.rfl Cg.rfl Cg.rfl (Cg.md (by rfl)) (Cg.md (by rfl)) (Cg.md (by rfl))
theorem ZxH(p t:Int)(a b c:R3):Cg p (Zaa a b (adR p t c b)) (1*Zaa a b c):=by
 refine Cg.trans (b:=Zaa a b (ZiB t c b)) ?_ (Cg.of (by unfold Zaa det ZiB;grind))
 unfold Zaa det
 exact Zdw Cg.rfl Cg.rfl Cg.rfl Cg.rfl Cg.rfl Cg.rfl (Cg.md (by rfl)) (Cg.md (by rfl)) (Cg.md (by rfl))/-! ### draws -/
theorem ZoF{ns:List Int}{k:Int}(h0:0<=k)(h1:k<ns.length):Zdf (ns.map D.int) k=.ok (.int (ns.getD k.toNat 0)):=ZfI h0 (by
 have:k.toNat<ns.length:=by omega
 simp[this])
noncomputable abbrev ownR(a b c:R3):Sl:=some (.lst [Zb5 a,Zb5 b,Zb5 c],true)
section
variable {Γ:Gam} {ns:List Int} {at_ many s5 s0 s1 s2:Sl} {p t m:Int} {a b c:R3}
end
section
variable {Γ:Gam} {ns:List Int} {many s5 s6 s7 s8 s9 s0 s1 s2:Sl} {p:Int} {a b c:R3}
end
noncomputable def ZaI(a b c:R3):D:=.lst [Zb5 a,Zb5 b,Zb5 c]
noncomputable def ZcB:E:=(.bl true)
noncomputable def ZbA:E:=(.bin .Mod (.var 5) (.var 0))
noncomputable def Zbw:E:=(.cmp .Gt (.var 6) (.int 0))
noncomputable def Zbz:E:=(.var 6)
noncomputable def Zbv:E:=(.cmp .Eq (.bin .Mod (.bin .Mult (.var 7) (.var 3)) (.var 0)) (.int 1))
noncomputable def Zby:E:=(.var 7)
noncomputable def ZcA:E:=(.bl true)
noncomputable def Zbx:E:=(.bin .Mod (.bin .Mult (.var 8) (.var 4)) (.var 0))
noncomputable def Zcn:Df:=⟨9,false,(.cons (.asg 2 false (.comp ZbA 5 (.e (.var 1)) ZcB)) (.cons (.asg 3 false (.idx (.comp Zbz 6 (.e (.var 2)) Zbw) (.int 0))) (.cons (.asg 4 false (.idx (.comp Zby 7 (.rng2 (.int 1) (.var 0)) Zbv) (.int 0))) (.cons (.ret (.bi .tuple (.cons (.comp Zbx 8 (.e (.var 2)) ZcA) .nil))) .nil))))⟩
theorem ZnG(Γ:Gam){p:Int}{b:Bool}{xs:List Int}{l t:Int}(hp:P4 p)(e:Zap p xs=some l)(it:Zd2 p l t):Zcn.run Γ [.int p,Zda b xs]=.ok (.tup (ds (fmI p t xs))):=by
 have p0:=hp.pos
 have ph:=hp.hi
 have c1:Zal (cG Γ [si p,sh (Zda b xs),none,none,none,none,none,none,none] 5 ZcB) (cF Γ [si p,sh (Zda b xs),none,none,none,none,none,none,none] 5 ZbA) (ds xs)=.ok (ds (xs.map fun x=>x%p)):=by
  refine ZbM xs fun x _=>⟨rfl,?_⟩
  simp[cF,ZbA,p0]
 generalize hR:(xs.map fun x=>x%p)=rs at c1
 have c2:Zal (cG Γ [si p,sh (Zda b xs),sh (.lst (ds rs)),none,none,none,none,none,none] 6 Zbw) (cF Γ [si p,sh (Zda b xs),sh (.lst (ds rs)),none,none,none,none,none,none] 6 Zbz) (ds rs)=.ok (ds (rs.filter fun r=>decide (0<r))):=by
  refine Zci rs fun x _=>⟨?_,?_⟩
  ·simp[cG,Zbw]
  ·simp[cF,Zbz]
 have hl:=Zeu p0 xs
 rw[hR,e] at hl
 generalize hL:(rs.filter fun r=>decide (0<r))=ls at c2 hl
 have g0:=Zex hl
 obtain⟨_,l0,l1⟩:=ZaW p0 e
 have c3:Zal (cG Γ [si p,sh (Zda b xs),sh (.lst (ds rs)),si l,none,none,none,none,none] 7 Zbv) (cF Γ [si p,sh (Zda b xs),sh (.lst (ds rs)),si l,none,none,none,none,none] 7 Zby) (ds (Zho p))=.ok (ds ((Zho p).filter fun k=>decide (k*l%p=1))):=by
  refine Zci (Zho p) fun x hx=>⟨?_,?_⟩
  ·obtain⟨x1,x2⟩:=Zc1.mp hx
   have m:Zba x l=true:=Zbs (by omega) (by omega)
   simp[cG,Zbv,m,p0]
   rw[Bool.eq_iff_iff]
   simp
  ·simp[cF,Zby]
 have g1:=Zex (Zix it)
 have c4:Zal (cG Γ [si p,sh (Zda b xs),sh (.lst (ds rs)),si l,si t,none,none,none,none] 8 ZcA) (cF Γ [si p,sh (Zda b xs),sh (.lst (ds rs)),si l,si t,none,none,none,none] 8 Zbx) (ds rs)=.ok (ds (rs.map fun r=>t*r%p)):=by
  refine ZbM rs fun x _=>⟨rfl,?_⟩
  have m:Zba x t=true:=ZgO (by have:=it.1;omega) (by have:=it.2.1;omega)
  simp[cF,Zbx,m,p0,Int.mul_comm]
 have ru:ZaB 1 p=.ok (ds (Zho p)):=ZhC hp
 have fe:fmI p t xs=rs.map fun r=>t*r%p:=by rw[<- hR];simp[fmI,List.map_map,Function.comp_def]
 simp[Zcn,Df.run,Zaf,ZdZ,c1,c2,g0,ru,c3,g1,c4,fe]
noncomputable def nine(a b c:R3):List Int:=[a.1,a.2.1,a.2.2,b.1,b.2.1,b.2.2,c.1,c.2.1,c.2.2]
noncomputable def trR(a:R3):D:=.tup [.int a.1,.int a.2.1,.int a.2.2]
noncomputable def Zax(a b c:R3):D:=.tup [trR a,trR b,trR c]
noncomputable def fmR(p t:Int)(a:R3):R3:=(t*(a.1%p)%p,t*(a.2.1%p)%p,t*(a.2.2%p)%p)
theorem ZgU(p t:Int)(a b c:R3):fmI p t (nine a b c)=nine (fmR p t a) (fmR p t b) (fmR p t c):=rfl
theorem ZcR{p:Int}{a b c:R3}(h:Zaa a b c%p≠0):∃ l,Zap p (nine a b c)=some l:=by
 cases e:Zap p (nine a b c) with
 | some l=>exact⟨l,rfl⟩
 | none =>
  refine absurd ?_ h
  have z:=ZbJ.mp e
  have q:∀ x∈nine a b c,Cg p x 0:=fun x hx=>by
   have:=z x hx
   show x%p=0%p
   rw[this];simp
  have:=Zdw (p:=p) (q a.1 (by simp[nine])) (q a.2.1 (by simp[nine])) (q a.2.2 (by simp[nine])) (q b.1 (by simp[nine])) (q b.2.1 (by simp[nine])) (q b.2.2 (by simp[nine])) (q c.1 (by simp[nine])) (q c.2.1 (by simp[nine])) (q c.2.2 (by simp[nine]))
  have e2:Zaa a b c%p=(0*(0*0-0*0)-0*(0*0-0*0)+0*(0*0-0*0))%p:=this
  rw[e2];simp
theorem Zy4(a b c:R3):slD (.tup (ds (nine a b c))) none (some 3)=.ok (trR a)/\slD (.tup (ds (nine a b c))) (some 3) (some 6)=.ok (trR b)/\slD (.tup (ds (nine a b c))) (some 6) none=.ok (trR c):=⟨rfl,rfl,rfl⟩
theorem Zh5(a b c:R3):Zdg .Add (Zb5 a) (Zb5 b)=.ok (.lst [.int a.1,.int a.2.1,.int a.2.2,.int b.1,.int b.2.1,.int b.2.2])/\Zdg .Add (.lst [.int a.1,.int a.2.1,.int a.2.2,.int b.1,.int b.2.1,.int b.2.2]) (Zb5 c)=.ok (.lst (ds (nine a b c))):=⟨rfl,rfl⟩
def Bd(n:Nat)(x:Int):Prop:=x.natAbs<2 ^ n
theorem Bd.mul{m n:Nat}{x y:Int}(h:Bd m x)(g:Bd n y):Bd (m+n) (x*y):=by
 unfold Bd at *
 rw[Int.natAbs_mul,Nat.pow_add]
 exact Nat.mul_lt_mul'' h g
theorem Bd.sub{n:Nat}{x y:Int}(h:Bd n x)(g:Bd n y):Bd (n+1) (x-y):=by
 unfold Bd at *
 rw[Nat.pow_succ]
 omega
theorem Zdh{m n:Nat}{x y:Int}(h:Bd m x)(g:Bd n y)(hm:m<=2000)(hn:n<=2000):Zct x y=true:=by
 unfold Zct Bd at *
 rw[Bool.and_eq_true,decide_eq_true_eq,decide_eq_true_eq]
 exact⟨Nat.lt_of_lt_of_le h (Nat.pow_le_pow_right (by decide) hm),Nat.lt_of_lt_of_le g (Nat.pow_le_pow_right (by decide) hn)⟩
def B3(a:R3):Prop:=Bd 300 a.1/\Bd 300 a.2.1/\Bd 300 a.2.2
noncomputable def Zab(q:Bool)(a:R3):D:=Zda q [a.1,a.2.1,a.2.2]
theorem ZaS(q:Bool)(a:R3):Zbc (Zab q a) (.int 0)=.ok (.int a.1)/\Zbc (Zab q a) (.int 1)=.ok (.int a.2.1)/\Zbc (Zab q a) (.int 2)=.ok (.int a.2.2):=by cases q<;>exact⟨rfl,rfl,rfl⟩
def ZeX(Γ:Gam):Prop:=∀ (p:Int) (q:Bool) (a b c:R3),0<p->B3 a->B3 b->B3 c->Γ.F 61 [.int p,Zab q a,Zab q b,Zab q c]=.ok (.int (Zaa a b c%p))
theorem ZnB{Γ:Gam}(h:ZdF Γ)(p:Int)(q:Bool)(a b c:R3)(hp:0<p)(ha:B3 a)(hb:B3 b)(hc:B3 c):ZeL.run Γ [.int p,Zab q a,Zab q b,Zab q c]=.ok (.int (Zaa a b c%p)):=by
 obtain⟨a0,a1,a2⟩:=ZaS q a
 obtain⟨b0,b1,b2⟩:=ZaS q b
 obtain⟨c0,c1,c2⟩:=ZaS q c
 have k:∀ {x y},Bd 300 x->Bd 300 y->Zct x y=true:=fun hx hy=>Zdh hx hy (by decide) (by decide)
 have k2:∀ {x y z u v},Bd 300 x->Bd 300 y->Bd 300 z->Bd 300 u->Bd 300 v->Zct x (y*z-u*v)=true:=fun hx hy hz hu hv=>Zdh hx ((hy.mul hz).sub (hu.mul hv)) (by decide) (by decide)
 simp[ZeL,Df.run,Zaf,a0,a1,a2,b0,b1,b2,c0,c1,c2,k hb.2.1 hc.2.2,k hb.2.2 hc.2.1,k hb.1 hc.2.2,k hb.2.2 hc.1,k hb.1 hc.2.1,k hb.2.1 hc.1,k2 ha.1 hb.2.1 hc.2.2 hb.2.2 hc.2.1,k2 ha.2.1 hb.1 hc.2.2 hb.2.2 hc.1,k2 ha.2.2 hb.1 hc.2.1 hb.2.1 hc.1,h p _ hp]
 rfl
noncomputable def ZdS:Df:=⟨3,false,(.cons (.ife (.cmp .Eq (.call 61 (.cons (.var 0) (.cons (.idx (.var 1) (.int 0)) (.cons (.idx (.var 1) (.int 1)) (.cons (.idx (.var 1) (.int 2)) .nil))))) (.int 0)) (.cons (.rais 4 (.cons (.str (Str.ofString "the measure of the rows is 0")) .nil)) .nil) .nil) (.cons (.asg 2 false (.call 17 (.cons (.var 0) (.cons (.bin .Add (.bin .Add (.bi .list (.cons (.idx (.var 1) (.int 0)) .nil)) (.bi .list (.cons (.idx (.var 1) (.int 1)) .nil))) (.bi .list (.cons (.idx (.var 1) (.int 2)) .nil))) .nil)))) (.cons (.ret (.tup (.cons (.sl (.var 2) .non (.int 3)) (.cons (.sl (.var 2) (.int 3) (.int 6)) (.cons (.sl (.var 2) (.int 6) .non) .nil))))) .nil)))⟩
theorem ZrC(q:Bool)(a:R3):biD .list [Zab q a]=.ok (Zb5 a):=by cases q<;>rfl
section
variable {Γ:Gam} {ns:List Int} {p t:Int} {a b c r:R3} {made s6 s7:Sl}
end
theorem ZbG{p:Int}:∀ {xs ys:List Int},xs.map (fun x=>x%p)=ys.map (fun x=>x%p)->Zap p xs=Zap p ys
 | [],[],_=>rfl
 | x::xs,y::ys,h=>by
  rw[List.map_cons,List.map_cons,List.cons.injEq] at h
  unfold Zap
  rw[h.1,ZbG h.2]
 | [],_::_,h=>by simp at h
 | _::_,[],h=>by simp at h
theorem ZfJ{p t:Int}{xs ys:List Int}(h:xs.map (fun x=>x%p)=ys.map (fun x=>x%p)):fmI p t xs=fmI p t ys:=by
 have e:∀ zs:List Int,fmI p t zs=(zs.map fun x=>x%p).map fun r=>t*r%p:=fun zs=>by simp[fmI,List.map_map,Function.comp_def]
 rw[e,e,h]
theorem Zlr{a b c a' b' c':R3}(h:nine a b c=nine a' b' c'):a=a'/\b=b'/\c=c':=by
 unfold nine at h
 simp only[List.cons.injEq,and_true] at h
 obtain⟨h1,h2,h3,h4,h5,h6,h7,h8,h9⟩:=h
 exact⟨Prod.ext h1 (Prod.ext h2 h3),Prod.ext h4 (Prod.ext h5 h6),Prod.ext h7 (Prod.ext h8 h9)⟩
theorem Zdb{p:Int}(hp:0<p)(t:Int)(a:R3):In3 p (fmR p t a):=⟨⟨Int.emod_nonneg _ (by omega),Int.emod_lt_of_pos _ hp⟩,⟨Int.emod_nonneg _ (by omega),Int.emod_lt_of_pos _ hp⟩,⟨Int.emod_nonneg _ (by omega),Int.emod_lt_of_pos _ hp⟩⟩
section
variable {Γ:Gam} {ns:List Int} {p m:Int} {a b c:R3} {fa fb fc:R3} {q:Bool} {s9 s0 s1 s2:Sl}
theorem Zmr(a b c:R3):flD 5 (Zax a b c)=true/\eqD (Zax a b c) (Zax a b c)=true:=by
 refine⟨rfl,?_⟩
 show (eqDs (ds [a.1,a.2.1,a.2.2]) (ds [a.1,a.2.1,a.2.2])&&(eqDs (ds [b.1,b.2.1,b.2.2]) (ds [b.1,b.2.1,b.2.2])&&(eqDs (ds [c.1,c.2.1,c.2.2]) (ds [c.1,c.2.1,c.2.2])&&true)))=true
 simp only[Zj9,Bool.and_self]
end
def ZeV(Γ:Gam):Prop:=∀ p n:Int,P4 p->n%p≠0->∃ t,1<=t/\t<p/\n*t%p=1/\Γ.F 9 [.int p,.int n]=.ok (.int t)
def ZeY(Γ:Gam):Prop:=∀ (p:Int) (b:Bool) (xs:List Int) (l t:Int),P4 p->Zap p xs=some l->Zd2 p l t->Γ.F 17 [.int p,Zda b xs]=.ok (.tup (ds (fmI p t xs)))
theorem Zjh{Γ:Gam}(hr:ZdF Γ)(p n:Int)(hp:P4 p)(z:n%p≠0) :
  ∃ t,1<=t/\t<p/\n*t%p=1/\ZbD.run Γ [.int p,.int n]=.ok (.int t):=by
 have p0:=hp.pos
 have ph:=hp.hi
 have body:∀ t∈Zho p,∀ ρ,(∃ s,ρ=[si p,si n,s])->(decide (n*t%p=1)=true/\ZcI Γ 2 ZaC (.int t) ρ=.ret (.int t) false)\/(decide (n*t%p=1)=false/\∃ ρ',ZcI Γ 2 ZaC (.int t) ρ=.next ρ'/\∃ s,ρ'=[si p,si n,s]):=by
  rintro t ht ρ ⟨s,rfl⟩
  obtain⟨t1,t2⟩:=Zc1.mp ht
  have m:Zba n t=true:=ZgO (by omega) (by omega)
  by_cases e:n*t%p=1
  ·exact .inl ⟨by simp[e],by simp[ZcI,ZaC,hr p (n*t) p0,m,e,ZfB]⟩
  ·exact .inr ⟨by simp[e],_,by simp[ZcI,ZaC,hr p (n*t) p0,m,e];rfl,_,rfl⟩
 have run:∀ o,ZdH (ZcI Γ 2 ZaC) ((Zho p).map D.int) [si p,si n,none]=o->ZbD.run Γ [.int p,.int n]=(ZgD Γ (.cons (.rais 2 (.cons (.str (Str.ofString "a number with the rest 0 is not turned over")) .nil)) .nil) o).ans false:=by
  rintro o rfl
  simp[ZbD,Df.run,Zaf,ZhC hp]
 rcases Zfi (fun ρ=>∃ s,ρ=[si p,si n,s]) (fun t=>decide (n*t%p=1)) (Zho p) body [si p,si n,none] ⟨_,rfl⟩ with ⟨t,ht,a,b⟩|⟨a,r,b,s,rfl⟩
 ·obtain⟨t1,t2⟩:=Zc1.mp ht
  have a':n*t%p=1:=by simpa using a
  exact⟨t,t1,t2,a',by rw[run _ b];rfl⟩
 ·obtain⟨t,t1,t2,e⟩:=Zcz hp z
  have:=a t (Zc1.mpr ⟨t1,t2⟩)
  simp[e] at this
section
variable {Γ:Gam} {p:Int} {xs:List Int} {b:Bool}
theorem ZhK(hr:ZdF Γ)(ht:ZeV Γ)(hp:P4 p)(rs:List Int):∀ (ys:List Int),(∀ y∈ys,0<=y/\y<p)->∀ s3,(Zap p ys=none->∃ s3',ZdH (ZcI Γ 3 Zat) (ds ys) [si p,sh (Zda b xs),sh (.lst (ds rs)),s3,none,none,none]=.next [si p,sh (Zda b xs),sh (.lst (ds rs)),s3',none,none,none]) /\
  (∀ l t,Zap p ys=some l->Zd2 p l t->ZdH (ZcI Γ 3 Zat) (ds ys) [si p,sh (Zda b xs),sh (.lst (ds rs)),s3,none,none,none]=.ret (.tup (ds (rs.map fun r=>t*r%p))) false)
 | [],_,s3=>⟨fun _=>⟨s3,rfl⟩,(fun l t h=>nomatch h)⟩
 | y::ys,hy,s3=>by
  obtain⟨y0,y1⟩:=hy y (List.mem_cons_self ..)
  have ym:y%p=y:=Int.emod_eq_of_lt y0 y1
  have ih:=ZhK hr ht hp rs ys (fun z hz=>hy z (List.mem_cons_of_mem _ hz)) (si y)
  have step:∀ o,ZcI Γ 3 Zat (.int y) [si p,sh (Zda b xs),sh (.lst (ds rs)),s3,none,none,none]=o->ZdH (ZcI Γ 3 Zat) (ds (y::ys)) [si p,sh (Zda b xs),sh (.lst (ds rs)),s3,none,none,none]=o.turn (ZdH (ZcI Γ 3 Zat) (ds ys)):=by
   rintro o rfl;rfl
  unfold Zap
  rw[ym]
  by_cases hz:y=0
  ·have e:ZcI Γ 3 Zat (.int y) [si p,sh (Zda b xs),sh (.lst (ds rs)),s3,none,none,none]=.next [si p,sh (Zda b xs),sh (.lst (ds rs)),si y,none,none,none]:=by
    simp[ZcI,Zat,hz]
   rw[if_pos hz,step _ e]
   exact ih
  ·rw[if_neg hz]
   refine⟨(fun z=>nomatch z),fun l t e it=>?_⟩
   cases e
   obtain⟨u,u1,u2,u3,u4⟩:=ht p y hp (by rw[ym];exact hz)
   have:t=u:=Zge it ⟨u1,u2,u3⟩
   subst this
   have p0:=hp.pos
   have ph:=hp.hi
   have cp:Zal (cG Γ [si p,sh (Zda b xs),sh (.lst (ds rs)),si y,si t,none,none] 6 ZdA) (cF Γ [si p,sh (Zda b xs),sh (.lst (ds rs)),si y,si t,none,none] 6 Zcl) (ds rs)=.ok (ds (rs.map fun r=>t*r%p)):=by
    refine ZbM rs fun r _=>⟨rfl,?_⟩
    have m:Zba t r=true:=Zbs (by omega) (by omega)
    simp[cF,Zcl,m,hr p (t*r) p0]
   have e:ZcI Γ 3 Zat (.int y) [si p,sh (Zda b xs),sh (.lst (ds rs)),s3,none,none,none]=.ret (.tup (ds (rs.map fun r=>t*r%p))) false:=by
    simp[ZcI,Zat,hz,u4,cp,ZfB]
   rw[step _ e]
   rfl
theorem ZnF(hr:ZdF Γ)(ht:ZeV Γ)(hp:P4 p){l t:Int}(e:Zap p xs=some l)(it:Zd2 p l t):Zc5.run Γ [.int p,Zda b xs]=.ok (.tup (ds (fmI p t xs))):=by
 have p0:=hp.pos
 have cp:Zal (cG Γ [si p,sh (Zda b xs),none,none,none,none,none] 5 ZdB) (cF Γ [si p,sh (Zda b xs),none,none,none,none,none] 5 Zcm) (ds xs)=.ok (ds (xs.map fun x=>x%p)):=by
  refine ZbM xs fun x _=>⟨rfl,?_⟩
  simp[cF,Zcm,hr p x p0]
 have run:∀ o,ZdH (ZcI Γ 3 Zat) (ds (xs.map fun x=>x%p)) [si p,sh (Zda b xs),sh (.lst (ds (xs.map fun x=>x%p))),none,none,none,none]=o->Zc5.run Γ [.int p,Zda b xs]=(ZgD Γ (.cons (.rais 3 (.cons (.str (Str.ofString "all the numbers have the rest 0")) .nil)) .nil) o).ans false:=by
  rintro o rfl
  simp[Zc5,Df.run,Zaf,ZdZ,cp]
 have le:Zap p (xs.map fun x=>x%p)=Zap p xs:=by
  have:=ZbT (c:=1) hp (by rcases hp with rfl|rfl|rfl|rfl<;>decide) (f:=fun x=>x%p) (fun x=>by rw[Int.one_mul,Int.emod_emod_of_dvd _ (Int.dvd_refl p)]) xs
  rw[this]
  cases e:Zap p xs with
  | none=>rfl
  | some l =>
   obtain⟨_,l0,l1⟩:=ZaW p0 e
   simp[Int.emod_eq_of_lt (Int.le_of_lt l0) l1]
 obtain⟨a,c⟩:=ZhK (b:=b) (xs:=xs) hr ht hp (xs.map fun x=>x%p) (xs.map fun x=>x%p) (fun y hy=>by
  obtain⟨x,_,rfl⟩:=List.mem_map.mp hy
  exact⟨Int.emod_nonneg _ (by omega),Int.emod_lt_of_pos _ p0⟩) none
 rw[le] at a c
 rw[run _ (c l t e it)]
 simp[fmI,List.map_map,Function.comp_def]
end
noncomputable def Zak(t q:Bool)(a b c:R3):D:=if t=true then .tup [Zab q a,Zab q b,Zab q c] else .lst [Zab q a,Zab q b,Zab q c]
theorem ZrL(t q:Bool)(a b c:R3):Zbc (Zak t q a b c) (.int 0)=.ok (Zab q a)/\Zbc (Zak t q a b c) (.int 1)=.ok (Zab q b)/\Zbc (Zak t q a b c) (.int 2)=.ok (Zab q c):=by cases t<;>exact⟨rfl,rfl,rfl⟩
theorem Zhv(q:Bool)(a:R3):ZaF (Zab q a)=.ok [.int a.1,.int a.2.1,.int a.2.2]:=by cases q<;>rfl
theorem ZuY(t q:Bool)(a b c:R3):ZaF (Zak t q a b c)=.ok [Zab q a,Zab q b,Zab q c]:=by cases t<;>rfl
noncomputable def Zaq(a b c:R3):R3:=(a.1,b.1,c.1)
noncomputable def Zan(a b c:R3):R3:=(a.2.1,b.2.1,c.2.1)
noncomputable def Zam(a b c:R3):R3:=(a.2.2,b.2.2,c.2.2)
noncomputable def ZeP:Df:=⟨1,false,(.cons (.ret (.tupI (.zip3 (.idx (.var 0) (.int 0)) (.idx (.var 0) (.int 1)) (.idx (.var 0) (.int 2))))) .nil)⟩
def Zgz(Γ:Gam):Prop:=∀ (t q:Bool) (a b c:R3),Γ.F 104 [Zak t q a b c]=.ok (Zak true true (Zaq a b c) (Zan a b c) (Zam a b c))
theorem ZqX(Γ:Gam)(t q:Bool)(a b c:R3):ZeP.run Γ [Zak t q a b c]=.ok (Zak true true (Zaq a b c) (Zan a b c) (Zam a b c)):=by
 obtain⟨r0,r1,r2⟩:=ZrL t q a b c
 have z:Zid (Zab q a) (Zab q b) (Zab q c)=.ok [Zab true (Zaq a b c),Zab true (Zan a b c),Zab true (Zam a b c)]:=by
  unfold Zid
  rw[Zhv,Zhv,Zhv]
  rfl
 simp[ZeP,Df.run,Zaf,r0,r1,r2,z]
 rfl
noncomputable def Zag(a x:R3):Int:=a.1*x.1+a.2.1*x.2.1+a.2.2*x.2.2
noncomputable def ZcU:E:=(.bl true)
noncomputable def ZbU:E:=(.call 1 (.cons (.var 0) (.cons (.bin .Add (.bin .Add (.bin .Mult (.idx (.var 3) (.int 0)) (.idx (.var 2) (.int 0))) (.bin .Mult (.idx (.var 3) (.int 1)) (.idx (.var 2) (.int 1)))) (.bin .Mult (.idx (.var 3) (.int 2)) (.idx (.var 2) (.int 2)))) .nil)))
noncomputable def ZeJ:Df:=⟨4,false,(.cons (.ret (.bi .tuple (.cons (.comp ZbU 3 (.e (.var 1)) ZcU) .nil))) .nil)⟩
def Zh7(Γ:Gam):Prop:=∀ (p:Int) (t q q':Bool) (a b c x:R3),0<p->B3 a->B3 b->B3 c->B3 x->Γ.F 91 [.int p,Zak t q a b c,Zab q' x]=.ok (Zab true (Zag a x%p,Zag b x%p,Zag c x%p))
theorem ZqN{Γ:Gam}(h:ZdF Γ)(p:Int)(t q q':Bool)(a b c x:R3)(hp:0<p)(ha:B3 a)(hb:B3 b)(hc:B3 c)(hx:B3 x):ZeJ.run Γ [.int p,Zak t q a b c,Zab q' x]=.ok (Zab true (Zag a x%p,Zag b x%p,Zag c x%p)):=by
 obtain⟨x0,x1,x2⟩:=ZaS q' x
 have k:∀ {u v},Bd 300 u->Bd 300 v->Zct u v=true:=fun hu hv=>Zdh hu hv (by decide) (by decide)
 have key:∀ r:R3,B3 r->cF Γ [si p,sh (Zak t q a b c),sh (Zab q' x),none] 3 ZbU (Zab q r)=.ok (.int (Zag r x%p)):=fun r hr=>by
  obtain⟨y0,y1,y2⟩:=ZaS q r
  simp[cF,ZbU,x0,x1,x2,y0,y1,y2,k hr.1 hx.1,k hr.2.1 hx.2.1,k hr.2.2 hx.2.2,h p _ hp]
  rfl
 have g:∀ r,cG Γ [si p,sh (Zak t q a b c),sh (Zab q' x),none] 3 ZcU r=.ok true:=fun _=>rfl
 have cp:Zal (cG Γ [si p,sh (Zak t q a b c),sh (Zab q' x),none] 3 ZcU) (cF Γ [si p,sh (Zak t q a b c),sh (Zab q' x),none] 3 ZbU) [Zab q a,Zab q b,Zab q c]=.ok [.int (Zag a x%p),.int (Zag b x%p),.int (Zag c x%p)]:=by
  simp[Zal,g,key a ha,key b hb,key c hc]
 simp[ZeJ,Df.run,Zaf,ZuY,cp]
 rfl
noncomputable def crs(a b:R3):R3:=(a.2.1*b.2.2-a.2.2*b.2.1,a.2.2*b.1-a.1*b.2.2,a.1*b.2.1-a.2.1*b.1)
theorem Zka:∀ xs ys:List Int,eqDs (ds xs) (ds ys)=decide (xs=ys)
 | [],[]=>rfl
 | [],_::_=>rfl
 | _::_,[]=>rfl
 | x::xs,y::ys=>by
  show ((x == y)&&eqDs (ds xs) (ds ys))=_
  rw[Zka xs ys,Bool.eq_iff_iff]
  simp
theorem Zmt(a b:R3):eqD (Zab true a) (Zab true b)=decide (a=b):=by
 show eqDs (ds [a.1,a.2.1,a.2.2]) (ds [b.1,b.2.1,b.2.2])=_
 rw[Zka,Bool.eq_iff_iff]
 simp only[List.cons.injEq,and_true,decide_eq_true_eq]
 exact⟨fun ⟨h1,h2,h3⟩=>by obtain⟨a1,a2,a3⟩:=a;obtain⟨b1,b2,b3⟩:=b;simp at h1 h2 h3;rw[h1,h2,h3],fun h=>by rw[h];exact⟨rfl,rfl,rfl⟩⟩
noncomputable def ZeO:Df:=⟨2,false,(.cons (.ife (.cmp .Eq (.var 0) (.var 1)) (.cons (.rais 7 (.cons (.var 0) .nil)) .nil) .nil) (.cons (.ret (.tup (.cons (.bin .Sub (.bin .Mult (.idx (.var 0) (.int 1)) (.idx (.var 1) (.int 2))) (.bin .Mult (.idx (.var 0) (.int 2)) (.idx (.var 1) (.int 1)))) (.cons (.bin .Sub (.bin .Mult (.idx (.var 0) (.int 2)) (.idx (.var 1) (.int 0))) (.bin .Mult (.idx (.var 0) (.int 0)) (.idx (.var 1) (.int 2)))) (.cons (.bin .Sub (.bin .Mult (.idx (.var 0) (.int 0)) (.idx (.var 1) (.int 1))) (.bin .Mult (.idx (.var 0) (.int 1)) (.idx (.var 1) (.int 0)))) .nil))))) .nil))⟩
def ZkI(Γ:Gam):Prop:=∀ a b:R3,B3 a->B3 b->a≠b->Γ.F 23 [Zab true a,Zab true b]=.ok (Zab true (crs a b))
theorem Zjj(Γ:Gam)(a b:R3)(ha:B3 a)(hb:B3 b)(ne:a≠b):ZeO.run Γ [Zab true a,Zab true b]=.ok (Zab true (crs a b)):=by
 obtain⟨x0,x1,x2⟩:=ZaS true a
 obtain⟨y0,y1,y2⟩:=ZaS true b
 have k:∀ {u v},Bd 300 u->Bd 300 v->Zct u v=true:=fun hu hv=>Zdh hu hv (by decide) (by decide)
 have f:∀ r:R3,flD 5 (Zab true r)=true:=fun _=>rfl
 have e:eqD (Zab true a) (Zab true b)=false:=by rw[Zmt];exact decide_eq_false ne
 simp[ZeO,Df.run,Zaf,f,e,x0,x1,x2,y0,y1,y2,k ha.2.1 hb.2.2,k ha.2.2 hb.2.1,k ha.2.2 hb.1,k ha.1 hb.2.2,k ha.1 hb.2.1,k ha.2.1 hb.1]
 rfl
noncomputable def Zb2:Df:=⟨1,false,(.cons (.ret (.tup (.cons (.call 23 (.cons (.idx (.var 0) (.int 1)) (.cons (.idx (.var 0) (.int 2)) .nil))) (.cons (.call 23 (.cons (.idx (.var 0) (.int 2)) (.cons (.idx (.var 0) (.int 0)) .nil))) (.cons (.call 23 (.cons (.idx (.var 0) (.int 0)) (.cons (.idx (.var 0) (.int 1)) .nil))) .nil))))) .nil)⟩
def ZkH(Γ:Gam):Prop:=∀ a b c:R3,B3 a->B3 b->B3 c->a≠b->b≠c->c≠a->Γ.F 98 [Zak true true a b c]=.ok (Zak true true (crs b c) (crs c a) (crs a b))
theorem ZnL{Γ:Gam}(h:ZkI Γ)(a b c:R3)(ha:B3 a)(hb:B3 b)(hc:B3 c)(n1:a≠b)(n2:b≠c)(n3:c≠a):Zb2.run Γ [Zak true true a b c]=.ok (Zak true true (crs b c) (crs c a) (crs a b)):=by
 obtain⟨r0,r1,r2⟩:=ZrL true true a b c
 simp[Zb2,Df.run,Zaf,r0,r1,r2,h b c hb hc n2,h c a hc ha n3,h a b ha hb n1]
 rfl
def Zgy(Γ:Gam):Prop:=∀ (p:Int) (t q:Bool) (a b c:R3),P4 p->B3 a->B3 b->B3 c->Zaa a b c%p≠0->∀ l u,Zap p (nine a b c)=some l->Zd2 p l u->Γ.F 78 [.int p,Zak t q a b c]=.ok (Zax (fmR p u a) (fmR p u b) (fmR p u c))
theorem ZqM{Γ:Gam}(hm:ZeX Γ)(hf:ZeY Γ)(p:Int)(t q:Bool)(a b c:R3)(hp:P4 p)(ha:B3 a)(hb:B3 b)(hc:B3 c)(z:Zaa a b c%p≠0)(l u:Int)(e:Zap p (nine a b c)=some l)(it:Zd2 p l u):ZdS.run Γ [.int p,Zak t q a b c]=.ok (Zax (fmR p u a) (fmR p u b) (fmR p u c)):=by
 obtain⟨r0,r1,r2⟩:=ZrL t q a b c
 have m:=hm p q a b c hp.pos ha hb hc
 have f:=hf p false (nine a b c) l u hp e it
 rw[ZgU] at f
 have f':Γ.F 17 [.int p,.lst (ds (nine a b c))]=.ok (.tup (ds (nine (fmR p u a) (fmR p u b) (fmR p u c)))):=f
 obtain⟨x1,x2⟩:=Zh5 a b c
 obtain⟨y1,y2,y3⟩:=Zy4 (fmR p u a) (fmR p u b) (fmR p u c)
 simp[ZdS,Df.run,Zaf,r0,r1,r2,m,z,ZrC,x1,x2,f',y1,y2,y3,slE]
 rfl
noncomputable def ZcT:Df:=⟨2,false,(.cons (.ret (.call 78 (.cons (.var 0) (.cons (.call 104 (.cons (.call 98 (.cons (.var 1) .nil)) .nil)) .nil)))) .nil)⟩
noncomputable def bk0(a b c:R3):R3:=Zaq (crs b c) (crs c a) (crs a b)
noncomputable def bk1(a b c:R3):R3:=Zan (crs b c) (crs c a) (crs a b)
noncomputable def bk2(a b c:R3):R3:=Zam (crs b c) (crs c a) (crs a b)
def Zia(Γ:Gam):Prop:=∀ (p:Int) (a b c:R3),P4 p->In3 p a->In3 p b->In3 p c->Zaa a b c%p≠0->∀ l u,Zap p (nine (bk0 a b c) (bk1 a b c) (bk2 a b c))=some l->Zd2 p l u->Γ.F 106 [.int p,Zax a b c]=.ok (Zax (fmR p u (bk0 a b c)) (fmR p u (bk1 a b c)) (fmR p u (bk2 a b c)))
theorem ZgT{p x:Int}(hp:P4 p)(h0:0<=x)(h1:x<p):Bd 10 x:=by
 unfold Bd
 have:=hp.hi
 omega
theorem Bd.mono{m n:Nat}{x:Int}(h:Bd m x)(hm:m<=n):Bd n x:=Nat.lt_of_lt_of_le h (Nat.pow_le_pow_right (by decide) hm)
def Bn(n:Nat)(a:R3):Prop:=Bd n a.1/\Bd n a.2.1/\Bd n a.2.2
theorem Bn.b3{n:Nat}{a:R3}(h:Bn n a)(hn:n<=300):B3 a:=⟨h.1.mono hn,h.2.1.mono hn,h.2.2.mono hn⟩
theorem ZbR{p:Int}{a:R3}(hp:P4 p)(h:In3 p a):Bn 10 a:=⟨ZgT hp h.1.1 h.1.2,ZgT hp h.2.1.1 h.2.1.2,ZgT hp h.2.2.1 h.2.2.2⟩
theorem ZoP{n:Nat}{a b:R3}(ha:Bn n a)(hb:Bn n b):Bn (n+n+1) (crs a b) :=
 ⟨(ha.2.1.mul hb.2.2).sub (ha.2.2.mul hb.2.1),(ha.2.2.mul hb.1).sub (ha.1.mul hb.2.2),(ha.1.mul hb.2.1).sub (ha.2.1.mul hb.1)⟩
theorem ZoQ{n:Nat}{a b c:R3}(ha:Bn n a)(hb:Bn n b)(hc:Bn n c):Bn n (Zaq a b c)/\Bn n (Zan a b c)/\Bn n (Zam a b c):=⟨⟨ha.1,hb.1,hc.1⟩,⟨ha.2.1,hb.2.1,hc.2.1⟩,⟨ha.2.2,hb.2.2,hc.2.2⟩⟩
theorem Zsh{p:Int}{a b c:R3}(z:Zaa a b c%p≠0):a≠b/\b≠c/\c≠a:=by
 refine⟨fun e=>z ?_,fun e=>z ?_,fun e=>z ?_⟩
 ·subst e
  rw[show Zaa a a c=0 by unfold Zaa det;grind,Int.zero_emod]
 ·subst e
  rw[show Zaa a b b=0 by unfold Zaa det;grind,Int.zero_emod]
 ·subst e
  rw[show Zaa c b c=0 by unfold Zaa det;grind,Int.zero_emod]
theorem ZcF(a b c:R3):Zaa (bk0 a b c) (bk1 a b c) (bk2 a b c)=Zaa a b c*Zaa a b c:=by
 unfold Zaa det bk0 bk1 bk2 Zaq Zan Zam crs
 grind
theorem ZqZ{Γ:Gam}(h1:ZkH Γ)(h2:Zgz Γ)(h3:Zgy Γ)(p:Int)(a b c:R3)(hp:P4 p)(ha:In3 p a)(hb:In3 p b)(hc:In3 p c)(z:Zaa a b c%p≠0)(l u:Int)(e:Zap p (nine (bk0 a b c) (bk1 a b c) (bk2 a b c))=some l)(it:Zd2 p l u) :
  ZcT.run Γ [.int p,Zax a b c]=.ok (Zax (fmR p u (bk0 a b c)) (fmR p u (bk1 a b c)) (fmR p u (bk2 a b c))):=by
 have ba:=ZbR hp ha
 have bb:=ZbR hp hb
 have bc:=ZbR hp hc
 obtain⟨n1,n2,n3⟩:=Zsh z
 have e1:Γ.F 98 [Zax a b c]=.ok (Zak true true (crs b c) (crs c a) (crs a b)):=h1 a b c (ba.b3 (by decide)) (bb.b3 (by decide)) (bc.b3 (by decide)) n1 n2 n3
 have e2:=h2 true true (crs b c) (crs c a) (crs a b)
 obtain⟨c0,c1,c2⟩:=ZoQ (ZoP bb bc) (ZoP bc ba) (ZoP ba bb)
 have z2:Zaa (bk0 a b c) (bk1 a b c) (bk2 a b c)%p≠0:=by rw[ZcF];exact Zae hp z z
 have e3:Γ.F 78 [.int p,Zak true true (Zaq (crs b c) (crs c a) (crs a b)) (Zan (crs b c) (crs c a) (crs a b)) (Zam (crs b c) (crs c a) (crs a b))]=.ok (Zax (fmR p u (bk0 a b c)) (fmR p u (bk1 a b c)) (fmR p u (bk2 a b c))):=h3 p true true _ _ _ hp (c0.b3 (by decide)) (c1.b3 (by decide)) (c2.b3 (by decide)) z2 l u e it
 simp[ZcT,Df.run,Zaf,e1,e2,e3]
noncomputable def mlR(p:Int)(x a b c:R3):R3:=(Zag (Zaq a b c) x%p,Zag (Zan a b c) x%p,Zag (Zam a b c) x%p)
noncomputable def ZdX:E:=(.bl true)
noncomputable def Zc8:E:=(.call 91 (.cons (.var 0) (.cons (.var 3) (.cons (.var 4) .nil))))
noncomputable def Zg7:Df:=⟨5,false,(.cons (.asg 3 false (.call 104 (.cons (.var 2) .nil))) (.cons (.ret (.call 78 (.cons (.var 0) (.cons (.comp Zc8 4 (.e (.var 1)) ZdX) .nil)))) .nil))⟩
def ZkL(Γ:Gam):Prop:=∀ (p:Int) (x y z a b c:R3),P4 p->In3 p x->In3 p y->In3 p z->In3 p a->In3 p b->In3 p c->Zaa (mlR p x a b c) (mlR p y a b c) (mlR p z a b c)%p≠0->∀ l u,Zap p (nine (mlR p x a b c) (mlR p y a b c) (mlR p z a b c))=some l->Zd2 p l u ->
 Γ.F 105 [.int p,Zax x y z,Zax a b c]=.ok (Zax (fmR p u (mlR p x a b c)) (fmR p u (mlR p y a b c)) (fmR p u (mlR p z a b c)))
theorem Zir{p:Int}(hp:0<p)(x a b c:R3):In3 p (mlR p x a b c):=⟨⟨Int.emod_nonneg _ (by omega),Int.emod_lt_of_pos _ hp⟩,⟨Int.emod_nonneg _ (by omega),Int.emod_lt_of_pos _ hp⟩,⟨Int.emod_nonneg _ (by omega),Int.emod_lt_of_pos _ hp⟩⟩
theorem ZnN{Γ:Gam}(h2:Zgz Γ)(hs:Zh7 Γ)(h3:Zgy Γ)(p:Int)(x y z a b c:R3)(hp:P4 p)(hx:In3 p x)(hy:In3 p y)(hz:In3 p z)(ha:In3 p a)(hb:In3 p b)(hc:In3 p c)(nz:Zaa (mlR p x a b c) (mlR p y a b c) (mlR p z a b c)%p≠0)(l u:Int)(e:Zap p (nine (mlR p x a b c) (mlR p y a b c) (mlR p z a b c))=some l)(it:Zd2 p l u) :
  Zg7.run Γ [.int p,Zax x y z,Zax a b c]=.ok (Zax (fmR p u (mlR p x a b c)) (fmR p u (mlR p y a b c)) (fmR p u (mlR p z a b c))):=by
 have p0:=hp.pos
 have e1:Γ.F 104 [Zax a b c]=.ok (Zak true true (Zaq a b c) (Zan a b c) (Zam a b c)):=h2 true true a b c
 obtain⟨c0,c1,c2⟩:=ZoQ (ZbR hp ha) (ZbR hp hb) (ZbR hp hc)
 have es:∀ r:R3,In3 p r->Γ.F 91 [.int p,Zak true true (Zaq a b c) (Zan a b c) (Zam a b c),Zab true r]=.ok (Zab true (mlR p r a b c)):=fun r hr=>hs p true true true _ _ _ r p0 (c0.b3 (by decide)) (c1.b3 (by decide)) (c2.b3 (by decide)) ((ZbR hp hr).b3 (by decide))
 have key:∀ r:R3,In3 p r->cF Γ [si p,sh (Zax x y z),sh (Zax a b c),sh (Zak true true (Zaq a b c) (Zan a b c) (Zam a b c)),none] 4 Zc8 (Zab true r)=.ok (Zab true (mlR p r a b c)):=fun r hr=>by
  simp[cF,Zc8,es r hr]
 have g:∀ r,cG Γ [si p,sh (Zax x y z),sh (Zax a b c),sh (Zak true true (Zaq a b c) (Zan a b c) (Zam a b c)),none] 4 ZdX r=.ok true:=fun _=>rfl
 have sq:ZaF (Zax x y z)=.ok [Zab true x,Zab true y,Zab true z]:=rfl
 have cp:Zal (cG Γ [si p,sh (Zax x y z),sh (Zax a b c),sh (Zak true true (Zaq a b c) (Zan a b c) (Zam a b c)),none] 4 ZdX) (cF Γ [si p,sh (Zax x y z),sh (Zax a b c),sh (Zak true true (Zaq a b c) (Zan a b c) (Zam a b c)),none] 4 Zc8) [Zab true x,Zab true y,Zab true z]=.ok [Zab true (mlR p x a b c),Zab true (mlR p y a b c),Zab true (mlR p z a b c)]:=by
  simp[Zal,g,key x hx,key y hy,key z hz]
 have e3:Γ.F 78 [.int p,.lst [Zab true (mlR p x a b c),Zab true (mlR p y a b c),Zab true (mlR p z a b c)]]=.ok (Zax (fmR p u (mlR p x a b c)) (fmR p u (mlR p y a b c)) (fmR p u (mlR p z a b c))) :=
  h3 p false true _ _ _ hp ((ZbR hp (Zir p0 x a b c)).b3 (by decide)) ((ZbR hp (Zir p0 y a b c)).b3 (by decide)) ((ZbR hp (Zir p0 z a b c)).b3 (by decide)) nz l u e it
 simp[Zg7,Df.run,Zaf,e1,sq,cp,e3]
noncomputable def ZeK:E:=(.bl true)
noncomputable def Zdk:E:=(.bin .Mult (.var 0) (.var 2))
noncomputable def ZfN:Df:=⟨3,false,(.cons (.ret (.comp Zdk 2 (.e (.var 1)) ZeK)) .nil)⟩
def ZlQ(Γ:Gam):Prop:=∀ (k:Int) (a:R3),0<=k->k<100->Γ.F 110 [.int k,Zab true a]=.ok (Zab false (k*a.1,k*a.2.1,k*a.2.2))
theorem Zlc(Γ:Gam)(k:Int)(a:R3)(h0:0<=k)(h1:k<100):ZfN.run Γ [.int k,Zab true a]=.ok (Zab false (k*a.1,k*a.2.1,k*a.2.2)):=by
 have m:∀ x,Zba k x=true:=fun x=>Zbs (by omega) (by omega)
 have key:∀ x:Int,cF Γ [si k,sh (Zab true a),none] 2 Zdk (.int x)=.ok (.int (k*x)):=fun x=>by
  simp[cF,Zdk,m]
 have g:∀ x,cG Γ [si k,sh (Zab true a),none] 2 ZeK x=.ok true:=fun _=>rfl
 simp[ZfN,Df.run,Zaf,Zhv,Zal,g,key]
 rfl
noncomputable def ZaX(a b c d:R3):D:=.lst [Zab true a,Zab true b,Zab true c,Zab true d]
noncomputable def Zah(k:Int)(a:R3):R3:=(k*a.1,k*a.2.1,k*a.2.2)
theorem Zoy(a b c d:R3):Zbc (ZaX a b c d) (.int 0)=.ok (Zab true a)/\Zbc (ZaX a b c d) (.int 1)=.ok (Zab true b)/\Zbc (ZaX a b c d) (.int 2)=.ok (Zab true c)/\Zbc (ZaX a b c d) (.int 3)=.ok (Zab true d):=⟨rfl,rfl,rfl,rfl⟩
noncomputable def Zcr:Df:=⟨3,false,(.cons (.asg 2 false (.tup (.cons (.call 110 (.cons (.call 61 (.cons (.var 0) (.cons (.idx (.var 1) (.int 3)) (.cons (.idx (.var 1) (.int 1)) (.cons (.idx (.var 1) (.int 2)) .nil))))) (.cons (.idx (.var 1) (.int 0)) .nil))) (.cons (.call 110 (.cons (.call 61 (.cons (.var 0) (.cons (.idx (.var 1) (.int 0)) (.cons (.idx (.var 1) (.int 3)) (.cons (.idx (.var 1) (.int 2)) .nil))))) (.cons (.idx (.var 1) (.int 1)) .nil))) (.cons (.call 110 (.cons (.call 61 (.cons (.var 0) (.cons (.idx (.var 1) (.int 0)) (.cons (.idx (.var 1) (.int 1)) (.cons (.idx (.var 1) (.int 3)) .nil))))) (.cons (.idx (.var 1) (.int 2)) .nil))) .nil))))) (.cons (.ret (.call 78 (.cons (.var 0) (.cons (.call 104 (.cons (.var 2) .nil)) .nil)))) .nil))⟩
noncomputable def fk0(p:Int)(a b c d:R3):Int:=Zaa d b c%p
noncomputable def fk1(p:Int)(a b c d:R3):Int:=Zaa a d c%p
noncomputable def fk2(p:Int)(a b c d:R3):Int:=Zaa a b d%p
noncomputable def fs0(p:Int)(a b c d:R3):R3:=Zah (fk0 p a b c d) a
noncomputable def fs1(p:Int)(a b c d:R3):R3:=Zah (fk1 p a b c d) b
noncomputable def fs2(p:Int)(a b c d:R3):R3:=Zah (fk2 p a b c d) c
noncomputable def fr0(p:Int)(a b c d:R3):R3:=Zaq (fs0 p a b c d) (fs1 p a b c d) (fs2 p a b c d)
noncomputable def fr1(p:Int)(a b c d:R3):R3:=Zan (fs0 p a b c d) (fs1 p a b c d) (fs2 p a b c d)
noncomputable def fr2(p:Int)(a b c d:R3):R3:=Zam (fs0 p a b c d) (fs1 p a b c d) (fs2 p a b c d)
def Zzc(Γ:Gam):Prop:=∀ (p:Int) (a b c d:R3),P4 p->In3 p a->In3 p b->In3 p c->In3 p d->Zaa (fr0 p a b c d) (fr1 p a b c d) (fr2 p a b c d)%p≠0->∀ l u,Zap p (nine (fr0 p a b c d) (fr1 p a b c d) (fr2 p a b c d))=some l->Zd2 p l u ->
 Γ.F 111 [.int p,ZaX a b c d]=.ok (Zax (fmR p u (fr0 p a b c d)) (fmR p u (fr1 p a b c d)) (fmR p u (fr2 p a b c d)))
theorem Zvq{n m:Nat}{k:Int}{a:R3}(hk:Bd n k)(ha:Bn m a):Bn (n+m) (Zah k a):=⟨hk.mul ha.1,hk.mul ha.2.1,hk.mul ha.2.2⟩
theorem ZzA{Γ:Gam}(hm:ZeX Γ)(hs:ZlQ Γ)(h2:Zgz Γ)(h3:Zgy Γ)(p:Int)(a b c d:R3)(hp:P4 p)(ha:In3 p a)(hb:In3 p b)(hc:In3 p c)(hd:In3 p d)(z:Zaa (fr0 p a b c d) (fr1 p a b c d) (fr2 p a b c d)%p≠0)(l u:Int)(e:Zap p (nine (fr0 p a b c d) (fr1 p a b c d) (fr2 p a b c d))=some l)(it:Zd2 p l u) :
  Zcr.run Γ [.int p,ZaX a b c d]=.ok (Zax (fmR p u (fr0 p a b c d)) (fmR p u (fr1 p a b c d)) (fmR p u (fr2 p a b c d))):=by
 have p0:=hp.pos
 have ph:=hp.hi
 have ba:=(ZbR hp ha).b3 (by decide)
 have bb:=(ZbR hp hb).b3 (by decide)
 have bc:=(ZbR hp hc).b3 (by decide)
 have bd:=(ZbR hp hd).b3 (by decide)
 obtain⟨x0,x1,x2,x3⟩:=Zoy a b c d
 have m0:=hm p true d b c p0 bd bb bc
 have m1:=hm p true a d c p0 ba bd bc
 have m2:=hm p true a b d p0 ba bb bd
 have k0:0<=Zaa d b c%p/\Zaa d b c%p<p:=⟨Int.emod_nonneg _ (by omega),Int.emod_lt_of_pos _ p0⟩
 have k1:0<=Zaa a d c%p/\Zaa a d c%p<p:=⟨Int.emod_nonneg _ (by omega),Int.emod_lt_of_pos _ p0⟩
 have k2:0<=Zaa a b d%p/\Zaa a b d%p<p:=⟨Int.emod_nonneg _ (by omega),Int.emod_lt_of_pos _ p0⟩
 have s0:Γ.F 110 [.int (Zaa d b c%p),Zab true a]=.ok (Zab false (Zah (Zaa d b c%p) a)):=hs (Zaa d b c%p) a k0.1 (by omega)
 have s1:Γ.F 110 [.int (Zaa a d c%p),Zab true b]=.ok (Zab false (Zah (Zaa a d c%p) b)):=hs (Zaa a d c%p) b k1.1 (by omega)
 have s2:Γ.F 110 [.int (Zaa a b d%p),Zab true c]=.ok (Zab false (Zah (Zaa a b d%p) c)):=hs (Zaa a b d%p) c k2.1 (by omega)
 have e2:Γ.F 104 [.tup [Zab false (Zah (Zaa d b c%p) a),Zab false (Zah (Zaa a d c%p) b),Zab false (Zah (Zaa a b d%p) c)]]=.ok (Zak true true (fr0 p a b c d) (fr1 p a b c d) (fr2 p a b c d)):=h2 true false _ _ _
 obtain⟨c0,c1,c2⟩:=ZoQ (Zvq (ZgT hp k0.1 k0.2) (ZbR hp ha)) (Zvq (ZgT hp k1.1 k1.2) (ZbR hp hb)) (Zvq (ZgT hp k2.1 k2.2) (ZbR hp hc))
 have e3:=h3 p true true (fr0 p a b c d) (fr1 p a b c d) (fr2 p a b c d) hp (c0.b3 (by decide)) (c1.b3 (by decide)) (c2.b3 (by decide)) z l u e it
 simp[Zcr,Df.run,Zaf,x0,x1,x2,x3,m0,m1,m2,s0,s1,s2,e2,e3]
noncomputable def ZcE:Ss:=(.cons (.ife (.cmp .Eq (.call 61 (.cons (.var 0) (.cons (.var 3) (.cons (.idx (.var 1) (.var 4)) (.cons (.idx (.var 1) (.var 5)) .nil))))) (.int 0)) (.cons (.ret (.tup (.cons (.var 3) (.cons (.idx (.var 1) (.var 4)) (.cons (.idx (.var 1) (.var 5)) .nil))))) .nil) .nil) .nil)
noncomputable def ZcD:Ss:=(.cons (.fors 5 (.rng2 (.bin .Add (.var 4) (.int 1)) (.bi .len (.cons (.var 1) .nil))) ZcE) .nil)
noncomputable def ZcC:Ss:=(.cons (.fors 4 (.rng2 (.bin .Add (.var 2) (.int 1)) (.bi .len (.cons (.var 1) .nil))) ZcD) .nil)
noncomputable def Za9:Df:=⟨6,false,(.cons (.forT [2,3] (.enm (.var 1)) ZcC) (.cons (.ret .non) .nil))⟩
noncomputable def Zbq:Df:=⟨3,false,(.cons (.asg 2 false (.call 65 (.cons (.var 0) (.cons (.var 1) .nil)))) (.cons (.ife (.cmp .IsNot (.var 2) .non) (.cons (.rais 18 (.cons (.var 2) .nil)) .nil) .nil) .nil))⟩
theorem Zle{Γ:Gam}(p:Int)(a b c d:D){m0 m1 m2 m3:Int}(h0:Γ.F 61 [.int p,a,b,c]=.ok (.int m0))(h1:Γ.F 61 [.int p,a,b,d]=.ok (.int m1))(h2:Γ.F 61 [.int p,a,c,d]=.ok (.int m2))(h3:Γ.F 61 [.int p,b,c,d]=.ok (.int m3))(n0:m0≠0)(n1:m1≠0)(n2:m2≠0)(n3:m3≠0) :
  Za9.run Γ [.int p,.lst [a,b,c,d]]=.ok .non:=by
 have x0:Zdf [a,b,c,d] 0=.ok a:=rfl
 have x1:Zdf [a,b,c,d] 1=.ok b:=rfl
 have x2:Zdf [a,b,c,d] 2=.ok c:=rfl
 have x3:Zdf [a,b,c,d] 3=.ok d:=rfl
 have r14:ZaB 1 4=.ok [.int 1,.int 2,.int 3]:=rfl
 have r24:ZaB 2 4=.ok [.int 2,.int 3]:=rfl
 have r34:ZaB 3 4=.ok [.int 3]:=rfl
 have r44:ZaB 4 4=.ok []:=rfl
 simp[Za9,Df.run,Zaf,Ziy,ZdH,ZcI,Zj5,ZcE,ZcD,ZcC,ZbB,x0,x1,x2,x3,r14,r24,r34,r44,h0,h1,h2,h3,n0,n1,n2,n3]
def ZiE(p:Int)(a b c d:R3):Prop:=Zaa a b c%p≠0/\Zaa a b d%p≠0/\Zaa a c d%p≠0/\Zaa b c d%p≠0
def Zs7(Γ:Gam):Prop:=∀ (p:Int) (a b c d:R3),P4 p->In3 p a->In3 p b->In3 p c->In3 p d->ZiE p a b c d->Γ.F 109 [.int p,ZaX a b c d]=.ok .non
def Zh9(Γ:Gam):Prop:=∀ (p:Int) (a b c d:R3),P4 p->In3 p a->In3 p b->In3 p c->In3 p d->ZiE p a b c d->Γ.F 65 [.int p,ZaX a b c d]=.ok .non
theorem ZnH{Γ:Gam}(hm:ZeX Γ)(p:Int)(a b c d:R3)(hp:P4 p)(ha:In3 p a)(hb:In3 p b)(hc:In3 p c)(hd:In3 p d)(h:ZiE p a b c d):Za9.run Γ [.int p,ZaX a b c d]=.ok .non:=by
 have p0:=hp.pos
 have ba:=(ZbR hp ha).b3 (by decide)
 have bb:=(ZbR hp hb).b3 (by decide)
 have bc:=(ZbR hp hc).b3 (by decide)
 have bd:=(ZbR hp hd).b3 (by decide)
 exact Zle p _ _ _ _ (hm p true a b c p0 ba bb bc) (hm p true a b d p0 ba bb bd) (hm p true a c d p0 ba bc bd) (hm p true b c d p0 bb bc bd) h.1 h.2.1 h.2.2.1 h.2.2.2
theorem Zv4{Γ:Gam}(hf:Zh9 Γ)(p:Int)(a b c d:R3)(hp:P4 p)(ha:In3 p a)(hb:In3 p b)(hc:In3 p c)(hd:In3 p d)(h:ZiE p a b c d):Zbq.run Γ [.int p,ZaX a b c d]=.ok .non:=by
 have e:=hf p a b c d hp ha hb hc hd h
 simp[Zbq,Df.run,Zaf,e]
noncomputable def Zbr:Df:=⟨3,false,(.cons (.ife (.or (.cons (.cmp .NotEq (.bi .len (.cons (.var 1) .nil)) (.int 4)) (.cons (.cmp .NotEq (.bi .len (.cons (.var 2) .nil)) (.int 4)) .nil))) (.cons (.rais 13 (.cons (.str (Str.ofString "a frame has four points")) .nil)) .nil) .nil) (.cons (.expr (.call 109 (.cons (.var 0) (.cons (.var 1) .nil)))) (.cons (.expr (.call 109 (.cons (.var 0) (.cons (.var 2) .nil)))) (.cons (.ret (.call 105 (.cons (.var 0) (.cons (.call 111 (.cons (.var 0) (.cons (.var 2) .nil))) (.cons (.call 106 (.cons (.var 0) (.cons (.call 111 (.cons (.var 0) (.cons (.var 1) .nil))) .nil))) .nil))))) .nil))))⟩
theorem ZqS{Γ:Gam}{p:Int}{a b c d a' b' c' d':R3}{M N B R:D}(e1:Γ.F 109 [.int p,ZaX a b c d]=.ok .non)(e2:Γ.F 109 [.int p,ZaX a' b' c' d']=.ok .non)(e3:Γ.F 111 [.int p,ZaX a' b' c' d']=.ok N)(e4:Γ.F 111 [.int p,ZaX a b c d]=.ok M)(e5:Γ.F 106 [.int p,M]=.ok B)(e6:Γ.F 105 [.int p,N,B]=.ok R) :
  Zbr.run Γ [.int p,ZaX a b c d,ZaX a' b' c' d']=.ok R:=by
 have l1:biD .len [ZaX a b c d]=.ok (.int 4):=rfl
 have l2:biD .len [ZaX a' b' c' d']=.ok (.int 4):=rfl
 simp[Zbr,Df.run,Zaf,l1,l2,e1,e2,e3,e4,e5,e6]
def CgR(p:Int)(x y:R3):Prop:=Cg p x.1 y.1/\Cg p x.2.1 y.2.1/\Cg p x.2.2 y.2.2
section
variable {p:Int} {a b c a' b' c' x y z x':R3} {k l m k':Int}
theorem CgR.rfl:CgR p a a:=⟨Cg.rfl,Cg.rfl,Cg.rfl⟩
theorem CgR.of(h:a=b):CgR p a b:=by rw[h];exact CgR.rfl
theorem CgR.trans(h:CgR p a b)(g:CgR p b c):CgR p a c:=⟨h.1.trans g.1,h.2.1.trans g.2.1,h.2.2.trans g.2.2⟩
theorem CgR.symm(h:CgR p a b):CgR p b a:=⟨h.1.symm,h.2.1.symm,h.2.2.symm⟩
theorem CgR.sc(hk:Cg p k k')(h:CgR p a b):CgR p (Zah k a) (Zah k' b):=⟨hk.mul h.1,hk.mul h.2.1,hk.mul h.2.2⟩
theorem CgR.md(h:a=mdR p b):CgR p a b:=by rw[h];exact⟨Cg.md _root_.rfl,Cg.md _root_.rfl,Cg.md _root_.rfl⟩
theorem ZbK(ha:CgR p a a')(hb:CgR p b b')(hc:CgR p c c'):Cg p (Zaa a b c) (Zaa a' b' c'):=by
 unfold Zaa det
 exact Zdw ha.1 ha.2.1 ha.2.2 hb.1 hb.2.1 hb.2.2 hc.1 hc.2.1 hc.2.2
theorem Za4(ha:CgR p a a')(hb:CgR p b b'):Cg p (Zag a b) (Zag a' b'):=((ha.1.mul hb.1).add (ha.2.1.mul hb.2.1)).add (ha.2.2.mul hb.2.2)
theorem Zh1(ha:CgR p a a')(hb:CgR p b b')(hc:CgR p c c'):CgR p (Zaq a b c) (Zaq a' b' c')/\CgR p (Zan a b c) (Zan a' b' c')/\CgR p (Zam a b c) (Zam a' b' c'):=⟨⟨ha.1,hb.1,hc.1⟩,⟨ha.2.1,hb.2.1,hc.2.1⟩,⟨ha.2.2,hb.2.2,hc.2.2⟩⟩
theorem ZhZ(ha:CgR p a a')(hb:CgR p b b'):CgR p (crs a b) (crs a' b') :=
 ⟨(ha.2.1.mul hb.2.2).sub (ha.2.2.mul hb.2.1),(ha.2.2.mul hb.1).sub (ha.1.mul hb.2.2),(ha.1.mul hb.2.1).sub (ha.2.1.mul hb.1)⟩
theorem ZsK(ha:CgR p a a')(hb:CgR p b b')(hc:CgR p c c'):CgR p (bk0 a b c) (bk0 a' b' c')/\CgR p (bk1 a b c) (bk1 a' b' c')/\CgR p (bk2 a b c) (bk2 a' b' c'):=Zh1 (ZhZ hb hc) (ZhZ hc ha) (ZhZ ha hb)
theorem Zbd(p t:Int)(a:R3):CgR p (fmR p t a) (Zah t a):=by
 have key:∀ x:Int,Cg p (t*(x%p)%p) (t*x):=fun x=>(Cg.md _root_.rfl).trans (Cg.rfl.mul (Cg.md _root_.rfl))
 exact⟨key _,key _,key _⟩
noncomputable def rm(a x y z:R3):R3:=(Zag (Zaq x y z) a,Zag (Zan x y z) a,Zag (Zam x y z) a)
theorem Zis(p:Int)(a x y z:R3):CgR p (mlR p a x y z) (rm a x y z):=⟨Cg.md _root_.rfl,Cg.md _root_.rfl,Cg.md _root_.rfl⟩
theorem Zv2{y' z':R3}(ha:CgR p a a')(hx:CgR p x x')(hy:CgR p y y')(hz:CgR p z z'):CgR p (rm a x y z) (rm a' x' y' z'):=by
 obtain⟨c0,c1,c2⟩:=Zh1 hx hy hz
 exact⟨Za4 c0 ha,Za4 c1 ha,Za4 c2 ha⟩
noncomputable def ap(a b c x:R3):R3:=(Zag a x,Zag b x,Zag c x)
theorem Zkd(a b c x y z:R3):Zaa (ap a b c x) (ap a b c y) (ap a b c z)=Zaa a b c*Zaa x y z:=by
 unfold Zaa det ap Zag
 grind
theorem Zd5(k l m:Int)(x y z:R3):Zaa (Zah k x) (Zah l y) (Zah m z)=k*l*m*Zaa x y z:=by
 unfold Zaa det Zah
 grind
theorem Zeq(k l:Int)(x:R3):Zah k (Zah l x)=Zah (k*l) x:=by
 unfold Zah
 simp only[Int.mul_assoc]
theorem ZsW(a b c x:R3)(k:Int):ap a b c (Zah k x)=Zah k (ap a b c x):=by
 unfold ap Zah Zag
 refine Prod.ext ?_ (Prod.ext ?_ ?_)<;>(simp only;grind)
theorem Zv1(k:Int)(a x y z:R3):rm (Zah k a) x y z=Zah k (rm a x y z):=by
 unfold rm Zah Zag Zaq Zan Zam
 refine Prod.ext ?_ (Prod.ext ?_ ?_)<;>(simp only;grind)
theorem ZqK(k:Int)(a x y z:R3):rm a (Zah k x) (Zah k y) (Zah k z)=Zah k (rm a x y z):=by
 unfold rm Zah Zag Zaq Zan Zam
 refine Prod.ext ?_ (Prod.ext ?_ ?_)<;>(simp only;grind)
theorem ZsJ(k:Int)(x y z:R3):bk0 (Zah k x) (Zah k y) (Zah k z)=Zah (k*k) (bk0 x y z)/\bk1 (Zah k x) (Zah k y) (Zah k z)=Zah (k*k) (bk1 x y z)/\bk2 (Zah k x) (Zah k y) (Zah k z)=Zah (k*k) (bk2 x y z):=by
 unfold bk0 bk1 bk2 Zah Zaq Zan Zam crs
 refine⟨?_,?_,?_⟩<;>refine Prod.ext ?_ (Prod.ext ?_ ?_)<;>(simp only;grind)
theorem Zv3(a x y z:R3):rm (rm a x y z) (bk0 x y z) (bk1 x y z) (bk2 x y z)=Zah (Zaa x y z) a:=by
 unfold rm Zah Zag bk0 bk1 bk2 Zaq Zan Zam crs Zaa det
 refine Prod.ext ?_ (Prod.ext ?_ ?_)<;>(simp only;grind)
theorem Zg0(x y z:R3):Zaa (Zaq x y z) (Zan x y z) (Zam x y z)=Zaa x y z:=by
 unfold Zaa det Zaq Zan Zam
 grind
end
theorem Zch(a b:R3):Zag a b=Zag b a:=by unfold Zag;grind
theorem ZeF{p x y:Int}(h:Cg p x y)(hy:y%p≠0):x%p≠0:=fun z=>hy ((show x%p=y%p from h).symm.trans z)
theorem nz3{p x y z:Int}(hp:P4 p)(hx:x%p≠0)(hy:y%p≠0)(hz:z%p≠0):x*y*z%p≠0:=Zae hp (Zae hp hx hy) hz
section
variable {p:Int} {a b c f0 f1 f2 f3 g0 g1 g2 g3:R3} {d0 d1 d2 d3:Int}
theorem ZdK(hx:CgR p g0 (Zah d0 (ap a b c f0)))(hy:CgR p g1 (Zah d1 (ap a b c f1)))(hz:CgR p g2 (Zah d2 (ap a b c f2))):Cg p (Zaa g0 g1 g2) (d0*d1*d2*(Zaa a b c*Zaa f0 f1 f2)) :=
 (ZbK hx hy hz).trans (Cg.of (by rw[Zd5,Zkd]))
theorem Zj2{x y z w x' y' z' w':R3}{k0 k1 k2 k3 K:Int}(hx:CgR p x' (Zah k0 (ap a b c x)))(hy:CgR p y' (Zah k1 (ap a b c y)))(hz:CgR p z' (Zah k2 (ap a b c z)))(hw:CgR p w' (Zah k3 (ap a b c w)))(hK:K=k0*k1*k2*k3*Zaa a b c) :
  CgR p (Zah (Zaa x' y' z'%p) w') (Zah K (ap a b c (Zah (Zaa x y z%p) w))):=by
 have e1:Cg p (Zaa x' y' z'%p) (k0*k1*k2*(Zaa a b c*(Zaa x y z%p))):=((Cg.md rfl).trans (ZdK hx hy hz)).trans (Cg.rfl.mul (Cg.rfl.mul (Cg.md rfl).symm))
 refine(CgR.sc e1 hw).trans (CgR.of ?_)
 rw[Zeq,ZsW,Zeq,hK]
 congr 1
 grind
theorem ZrZ(h0:CgR p g0 (Zah d0 (ap a b c f0)))(h1:CgR p g1 (Zah d1 (ap a b c f1)))(h2:CgR p g2 (Zah d2 (ap a b c f2)))(h3:CgR p g3 (Zah d3 (ap a b c f3))) :
  CgR p (fr0 p g0 g1 g2 g3) (Zah (d0*d1*d2*d3*Zaa a b c) (rm a (fr0 p f0 f1 f2 f3) (fr1 p f0 f1 f2 f3) (fr2 p f0 f1 f2 f3))) /\
  CgR p (fr1 p g0 g1 g2 g3) (Zah (d0*d1*d2*d3*Zaa a b c) (rm b (fr0 p f0 f1 f2 f3) (fr1 p f0 f1 f2 f3) (fr2 p f0 f1 f2 f3))) /\
  CgR p (fr2 p g0 g1 g2 g3) (Zah (d0*d1*d2*d3*Zaa a b c) (rm c (fr0 p f0 f1 f2 f3) (fr1 p f0 f1 f2 f3) (fr2 p f0 f1 f2 f3))):=by
 have s0:CgR p (fs0 p g0 g1 g2 g3) (Zah (d0*d1*d2*d3*Zaa a b c) (ap a b c (fs0 p f0 f1 f2 f3))):=Zj2 h3 h1 h2 h0 (by grind)
 have s1:CgR p (fs1 p g0 g1 g2 g3) (Zah (d0*d1*d2*d3*Zaa a b c) (ap a b c (fs1 p f0 f1 f2 f3))):=Zj2 h0 h3 h2 h1 (by grind)
 have s2:CgR p (fs2 p g0 g1 g2 g3) (Zah (d0*d1*d2*d3*Zaa a b c) (ap a b c (fs2 p f0 f1 f2 f3))):=Zj2 h0 h1 h3 h2 (by grind)
 obtain⟨c0,c1,c2⟩:=Zh1 s0 s1 s2
 have key:∀ r:R3,rm r (fr0 p f0 f1 f2 f3) (fr1 p f0 f1 f2 f3) (fr2 p f0 f1 f2 f3)=(Zag r (fs0 p f0 f1 f2 f3),Zag r (fs1 p f0 f1 f2 f3),Zag r (fs2 p f0 f1 f2 f3)):=fun r=>by
  rw[Zch r,Zch r,Zch r]
  rfl
 rw[key a,key b,key c]
 exact⟨c0,c1,c2⟩
theorem Zr1(p:Int)(f0 f1 f2 f3:R3):Zaa (fr0 p f0 f1 f2 f3) (fr1 p f0 f1 f2 f3) (fr2 p f0 f1 f2 f3)=fk0 p f0 f1 f2 f3*fk1 p f0 f1 f2 f3*fk2 p f0 f1 f2 f3*Zaa f0 f1 f2:=by
 unfold fr0 fr1 fr2
 rw[Zg0]
 unfold fs0 fs1 fs2
 rw[Zd5]
theorem Zor{p x:Int}(h:x%p≠0):x%p%p≠0:=by rw[Int.emod_emod_of_dvd _ (Int.dvd_refl p)];exact h
theorem Zr0(hp:P4 p)(h:ZiE p f0 f1 f2 f3):Zaa (fr0 p f0 f1 f2 f3) (fr1 p f0 f1 f2 f3) (fr2 p f0 f1 f2 f3)%p≠0:=by
 rw[Zr1]
 obtain⟨h1,h2,h3,h4⟩:=h
 have k0:Zaa f3 f1 f2%p≠0:=by rw[show Zaa f3 f1 f2=Zaa f1 f2 f3 by unfold Zaa det;grind];exact h4
 have k1:Zaa f0 f3 f2%p≠0:=by rw[show Zaa f0 f3 f2=-1*Zaa f0 f2 f3 by unfold Zaa det;grind];exact Zae hp hp.m1 h3
 exact Zae hp (nz3 hp (Zor k0) (Zor k1) (Zor h2)) h1
theorem ZoH(hp:P4 p)(hD:Zaa a b c%p≠0)(n0:d0%p≠0)(n1:d1%p≠0)(n2:d2%p≠0)(n3:d3%p≠0)(h0:CgR p g0 (Zah d0 (ap a b c f0)))(h1:CgR p g1 (Zah d1 (ap a b c f1)))(h2:CgR p g2 (Zah d2 (ap a b c f2)))(h3:CgR p g3 (Zah d3 (ap a b c f3)))(h:ZiE p f0 f1 f2 f3):ZiE p g0 g1 g2 g3 :=
 ⟨ZeF (ZdK h0 h1 h2) (Zae hp (nz3 hp n0 n1 n2) (Zae hp hD h.1)),ZeF (ZdK h0 h1 h3) (Zae hp (nz3 hp n0 n1 n3) (Zae hp hD h.2.1)),ZeF (ZdK h0 h2 h3) (Zae hp (nz3 hp n0 n2 n3) (Zae hp hD h.2.2.1)),ZeF (ZdK h1 h2 h3) (Zae hp (nz3 hp n1 n2 n3) (Zae hp hD h.2.2.2))⟩
end
theorem ZoI{p k:Int}{a b c x y z:R3}(hp:P4 p)(hk:k%p≠0)(ha:In3 p a)(hb:In3 p b)(hc:In3 p c)(l1:Zap p (nine a b c)=some 1)(hx:CgR p x (Zah k a))(hy:CgR p y (Zah k b))(hz:CgR p z (Zah k c)):∃ l u,Zap p (nine x y z)=some l/\Zd2 p l u/\fmR p u x=a/\fmR p u y=b/\fmR p u z=c:=by
 have p1:1<p:=by have:=hp.lo;omega
 have rs:(nine x y z).map (fun x=>x%p)=((nine a b c).map fun x=>k*x).map (fun x=>x%p):=by
  simp only[nine,List.map_cons,List.map_nil]
  rw[show x.1%p=k*a.1%p from hx.1,show x.2.1%p=k*a.2.1%p from hx.2.1,show x.2.2%p=k*a.2.2%p from hx.2.2,show y.1%p=k*b.1%p from hy.1,show y.2.1%p=k*b.2.1%p from hy.2.1,show y.2.2%p=k*b.2.2%p from hy.2.2,show z.1%p=k*c.1%p from hz.1,show z.2.1%p=k*c.2.1%p from hz.2.1,show z.2.2%p=k*c.2.2%p from hz.2.2]
 have it:Zd2 p 1 1:=⟨by decide,p1,by rw[Int.one_mul,Int.emod_eq_of_lt (by decide) p1]⟩
 have l0:(1:Int)%p≠0:=hp.o1
 obtain⟨u,iu,eu⟩:=Zls hp hk l0 it (f:=fun x=>k*x) (fun _=>rfl) (nine a b c)
 have el:=ZbT hp hk (f:=fun x=>k*x) (fun _=>rfl) (nine a b c)
 rw[l1,<- ZbG rs] at el
 rw[<- ZfJ rs] at eu
 have one:∀ v:Int,0<=v->v<p->1*(v%p)%p=v:=fun v h0 h1=>by rw[Int.one_mul,Int.emod_emod_of_dvd _ (Int.dvd_refl p),Int.emod_eq_of_lt h0 h1]
 have same:fmI p 1 (nine a b c)=nine a b c:=by
  unfold fmI nine
  simp only[List.map_cons,List.map_nil]
  rw[one _ ha.1.1 ha.1.2,one _ ha.2.1.1 ha.2.1.2,one _ ha.2.2.1 ha.2.2.2,one _ hb.1.1 hb.1.2,one _ hb.2.1.1 hb.2.1.2,one _ hb.2.2.1 hb.2.2.2,one _ hc.1.1 hc.1.2,one _ hc.2.1.1 hc.2.1.2,one _ hc.2.2.1 hc.2.2.2]
 rw[same,ZgU] at eu
 obtain⟨e1,e2,e3⟩:=Zlr eu
 exact⟨_,u,el,iu,e1,e2,e3⟩
theorem ZnA{Γ:Gam}(hk:Zs7 Γ)(hf:Zzc Γ)(hb:Zia Γ)(ha:ZkL Γ){p:Int}{a b c f0 f1 f2 f3 g0 g1 g2 g3:R3}{d0 d1 d2 d3:Int}(hp:P4 p)(ia:In3 p a)(ib:In3 p b)(ic:In3 p c)(hD:Zaa a b c%p≠0)(l1:Zap p (nine a b c)=some 1)
  (i0:In3 p f0) (i1:In3 p f1) (i2:In3 p f2) (i3:In3 p f3) (hg:ZiE p f0 f1 f2 f3) (j0:In3 p g0) (j1:In3 p g1) (j2:In3 p g2) (j3:In3 p g3) (n0:d0%p≠0) (n1:d1%p≠0) (n2:d2%p≠0) (n3:d3%p≠0)
  (h0:CgR p g0 (Zah d0 (ap a b c f0))) (h1:CgR p g1 (Zah d1 (ap a b c f1))) (h2:CgR p g2 (Zah d2 (ap a b c f2))) (h3:CgR p g3 (Zah d3 (ap a b c f3))):Zbr.run Γ [.int p,ZaX f0 f1 f2 f3,ZaX g0 g1 g2 g3]=.ok (Zax a b c):=by
 have p0:=hp.pos
 have hg':=ZoH hp hD n0 n1 n2 n3 h0 h1 h2 h3 hg
 have e1:=hk p f0 f1 f2 f3 hp i0 i1 i2 i3 hg
 have e2:=hk p g0 g1 g2 g3 hp j0 j1 j2 j3 hg'
 have zM:=Zr0 hp hg
 have zN:=Zr0 hp hg'
 obtain⟨r0,r1,r2⟩:=ZrZ h0 h1 h2 h3
 -- the frames' tables
 obtain⟨lM,eM⟩:=ZcR zM
 obtain⟨v,v1,v2,v3⟩:=Zcz hp (ZaW p0 eM).1
 have e4:=hf p f0 f1 f2 f3 hp i0 i1 i2 i3 zM lM v eM ⟨v1,v2,v3⟩
 obtain⟨lN,eN⟩:=ZcR zN
 obtain⟨u,u1,u2,u3⟩:=Zcz hp (ZaW p0 eN).1
 have e3:=hf p g0 g1 g2 g3 hp j0 j1 j2 j3 zN lN u eN ⟨u1,u2,u3⟩
 have vz:v%p≠0:=by rw[Int.emod_eq_of_lt (by omega) v2];omega
 have uz:u%p≠0:=by rw[Int.emod_eq_of_lt (by omega) u2];omega
 generalize fr0 p f0 f1 f2 f3=x at *
 generalize fr1 p f0 f1 f2 f3=y at *
 generalize fr2 p f0 f1 f2 f3=z at *
 generalize fr0 p g0 g1 g2 g3=x' at *
 generalize fr1 p g0 g1 g2 g3=y' at *
 generalize fr2 p g0 g1 g2 g3=z' at *
 have mx:=Zbd p v x
 have my:=Zbd p v y
 have mz:=Zbd p v z
 have kx:In3 p (fmR p v x):=Zdb p0 v x
 have ky:In3 p (fmR p v y):=Zdb p0 v y
 have kz:In3 p (fmR p v z):=Zdb p0 v z
 have zM':Zaa (fmR p v x) (fmR p v y) (fmR p v z)%p≠0:=ZeF ((ZbK mx my mz).trans (Cg.of (Zd5 v v v x y z))) (Zae hp (nz3 hp vz vz vz) zM)
 obtain⟨b0,b1,b2⟩:=ZsK mx my mz
 obtain⟨s0,s1,s2⟩:=ZsJ v x y z
 rw[s0] at b0
 rw[s1] at b1
 rw[s2] at b2
 have zB:Zaa (bk0 (fmR p v x) (fmR p v y) (fmR p v z)) (bk1 (fmR p v x) (fmR p v y) (fmR p v z)) (bk2 (fmR p v x) (fmR p v y) (fmR p v z))%p≠0:=by rw[ZcF];exact Zae hp zM' zM'
 obtain⟨lB,eB⟩:=ZcR zB
 obtain⟨w,w1,w2,w3⟩:=Zcz hp (ZaW p0 eB).1
 have wz:w%p≠0:=by rw[Int.emod_eq_of_lt (by omega) w2];omega
 have e5:=hb p _ _ _ hp kx ky kz zM' lB w eB ⟨w1,w2,w3⟩
 generalize bk0 (fmR p v x) (fmR p v y) (fmR p v z)=B0 at *
 generalize bk1 (fmR p v x) (fmR p v y) (fmR p v z)=B1 at *
 generalize bk2 (fmR p v x) (fmR p v y) (fmR p v z)=B2 at *
 have c0:CgR p (fmR p w B0) (Zah (w*(v*v)) (bk0 x y z)):=(Zbd p w B0).trans ((CgR.sc Cg.rfl b0).trans (CgR.of (Zeq _ _ _)))
 have c1:CgR p (fmR p w B1) (Zah (w*(v*v)) (bk1 x y z)):=(Zbd p w B1).trans ((CgR.sc Cg.rfl b1).trans (CgR.of (Zeq _ _ _)))
 have c2:CgR p (fmR p w B2) (Zah (w*(v*v)) (bk2 x y z)):=(Zbd p w B2).trans ((CgR.sc Cg.rfl b2).trans (CgR.of (Zeq _ _ _)))
 -- the product
 have row:∀ {r t:R3},CgR p t (Zah (d0*d1*d2*d3*Zaa a b c) (rm r x y z))->CgR p (mlR p (fmR p u t) (fmR p w B0) (fmR p w B1) (fmR p w B2)) (Zah (w*(v*v)*(u*(d0*d1*d2*d3*Zaa a b c))*Zaa x y z) r):=fun {r t} ht=>by
  have q:CgR p (fmR p u t) (Zah (u*(d0*d1*d2*d3*Zaa a b c)) (rm r x y z)):=(Zbd p u t).trans ((CgR.sc Cg.rfl ht).trans (CgR.of (Zeq _ _ _)))
  refine(Zis p _ _ _ _).trans ((Zv2 q c0 c1 c2).trans (CgR.of ?_))
  rw[ZqK,Zv1,Zv3,Zeq,Zeq]
 have q0:=row r0
 have q1:=row r1
 have q2:=row r2
 have kz':w*(v*v)*(u*(d0*d1*d2*d3*Zaa a b c))*Zaa x y z%p≠0:=Zae hp (Zae hp (Zae hp wz (Zae hp vz vz)) (Zae hp uz (Zae hp (Zae hp (nz3 hp n0 n1 n2) n3) hD))) zM
 obtain⟨l,t,el,it,f0',f1',f2'⟩:=ZoI hp kz' ia ib ic l1 q0 q1 q2
 have zR:Zaa (mlR p (fmR p u x') (fmR p w B0) (fmR p w B1) (fmR p w B2)) (mlR p (fmR p u y') (fmR p w B0) (fmR p w B1) (fmR p w B2)) (mlR p (fmR p u z') (fmR p w B0) (fmR p w B1) (fmR p w B2))%p≠0:=ZeF ((ZbK q0 q1 q2).trans (Cg.of (Zd5 _ _ _ a b c))) (Zae hp (nz3 hp kz' kz' kz') hD)
 have e6:=ha p _ _ _ _ _ _ hp (Zdb p0 u x') (Zdb p0 u y') (Zdb p0 u z') (Zdb p0 w B0) (Zdb p0 w B1) (Zdb p0 w B2) zR l t el it
 rw[f0',f1',f2'] at e6
 exact ZqS e1 e2 e3 e4 e5 e6
section
variable {Γ:Gam} {ns:List Int}
end
section
variable {Γ:Gam} {ns:List Int} {many s5 s6 s7 s8 s9 s0 s1 s2:Sl} {p:Int} {a b c:R3}
end
noncomputable def ZdD:E:=(.bl true)
noncomputable def Zcs:E:=(.call 1 (.cons (.var 0) (.cons (.var 3) .nil)))
noncomputable def ZdW:Df:=⟨4,false,(.cons (.asg 2 false (.comp Zcs 3 (.e (.var 1)) ZdD)) (.cons (.ife (.no (.bi .any (.cons (.var 2) .nil))) (.cons (.rais 5 (.cons (.str (Str.ofString "all six numbers have the rest 0")) .nil)) .nil) .nil) (.cons (.ret (.call 17 (.cons (.var 0) (.cons (.var 2) .nil)))) .nil)))⟩
theorem Zh3:∀ xs:List Int,Zdc (ds xs)=.ok (xs.any fun x=>x != 0)
 | []=>rfl
 | x::xs=>by
  show (Zej (.int x)).bind (fun b=>(Zdc (ds xs)).bind fun c=>.ok (b||c))=_
  rw[Zh3 xs]
  rfl
theorem ZhP{p:Int}(hp:0<p):∀ xs:List Int,((xs.map fun x=>x%p).any fun x=>x != 0)=(Zap p xs).isSome
 | []=>rfl
 | x::xs=>by
  unfold Zap
  rw[List.map_cons,List.any_cons]
  by_cases h:x%p=0
  ·rw[if_pos h,h,ZhP hp xs]
   rfl
  ·rw[if_neg h]
   simp[h]
theorem ZrA{p:Int}(xs:List Int):(xs.map fun x=>x%p).map (fun x=>x%p)=xs.map fun x=>x%p:=by
 rw[List.map_map]
 refine List.map_congr_left fun x _=>?_
 show x%p%p=x%p
 rw[Int.emod_emod_of_dvd _ (Int.dvd_refl p)]
def InL(p:Int)(xs:List Int):Prop:=∀ x∈xs,0<=x/\x<p
theorem InL.set{p:Int}{xs:List Int}(h:InL p xs)(k:Nat){v:Int}(h0:0<=v)(h1:v<p):InL p (xs.set k v):=fun x hx=>by
 rcases List.mem_or_eq_of_mem_set hx with z|rfl
 ·exact h x z
 ·exact⟨h0,h1⟩
section
variable {Γ:Gam} {ns:List Int} {p at_:Int}
end
section
variable {Γ:Gam} {ns:List Int} {p t:Int}
end
structure C6 where
 c0:Int
 c1:Int
 c2:Int
 c3:Int
 c4:Int
 c5:Int
noncomputable def C6.l(C:C6):List Int:=[C.c0,C.c1,C.c2,C.c3,C.c4,C.c5]
noncomputable def Za7(C:C6):D:=.tup (ds C.l)
noncomputable def vI(C:C6)(x:R3):Int:=C.c0*x.1*x.1+C.c1*x.2.1*x.2.1+C.c2*x.2.2*x.2.2+(C.c3*x.1*x.2.1+C.c4*x.1*x.2.2+C.c5*x.2.1*x.2.2)
noncomputable def tw0(C:C6):R3:=(2*C.c0,C.c3,C.c4)
noncomputable def tw1(C:C6):R3:=(C.c3,2*C.c1,C.c5)
noncomputable def tw2(C:C6):R3:=(C.c4,C.c5,2*C.c2)
noncomputable def bI(C:C6)(x y:R3):Int:=Zag (ap (tw0 C) (tw1 C) (tw2 C) x) y
noncomputable def scC(k:Int)(C:C6):C6:=⟨k*C.c0,k*C.c1,k*C.c2,k*C.c3,k*C.c4,k*C.c5⟩
def CgC(p:Int)(C D:C6):Prop:=Cg p C.c0 D.c0/\Cg p C.c1 D.c1/\Cg p C.c2 D.c2/\Cg p C.c3 D.c3/\Cg p C.c4 D.c4/\Cg p C.c5 D.c5
noncomputable def pb(C:C6)(a b c:R3):C6:=⟨vI C (Zaq a b c),vI C (Zan a b c),vI C (Zam a b c),bI C (Zaq a b c) (Zan a b c),bI C (Zaq a b c) (Zam a b c),bI C (Zan a b c) (Zam a b c)⟩
section
variable {p:Int} {C D E:C6} {a b c a' b' c' x y x' y':R3} {k k':Int}
theorem C6.ext'(h0:C.c0=D.c0)(h1:C.c1=D.c1)(h2:C.c2=D.c2)(h3:C.c3=D.c3)(h4:C.c4=D.c4)(h5:C.c5=D.c5):C=D:=by
 cases C;cases D;simp_all
theorem CgC.rfl:CgC p C C:=⟨Cg.rfl,Cg.rfl,Cg.rfl,Cg.rfl,Cg.rfl,Cg.rfl⟩
theorem CgC.of(h:C=D):CgC p C D:=by rw[h];exact CgC.rfl
theorem CgC.symm(h:CgC p C D):CgC p D C:=⟨h.1.symm,h.2.1.symm,h.2.2.1.symm,h.2.2.2.1.symm,h.2.2.2.2.1.symm,h.2.2.2.2.2.symm⟩
theorem CgC.trans(h:CgC p C D)(g:CgC p D E):CgC p C E:=⟨h.1.trans g.1,h.2.1.trans g.2.1,h.2.2.1.trans g.2.2.1,h.2.2.2.1.trans g.2.2.2.1,h.2.2.2.2.1.trans g.2.2.2.2.1,h.2.2.2.2.2.trans g.2.2.2.2.2⟩
theorem CgC.sc(hk:Cg p k k')(h:CgC p C D):CgC p (scC k C) (scC k' D):=⟨hk.mul h.1,hk.mul h.2.1,hk.mul h.2.2.1,hk.mul h.2.2.2.1,hk.mul h.2.2.2.2.1,hk.mul h.2.2.2.2.2⟩
theorem ZgG(h:CgC p C D)(hx:CgR p x x'):Cg p (vI C x) (vI D x') :=
 (((((h.1.mul hx.1).mul hx.1).add ((h.2.1.mul hx.2.1).mul hx.2.1)).add ((h.2.2.1.mul hx.2.2).mul hx.2.2))).add ((((h.2.2.2.1.mul hx.1).mul hx.2.1).add ((h.2.2.2.2.1.mul hx.1).mul hx.2.2)).add ((h.2.2.2.2.2.mul hx.2.1).mul hx.2.2))
theorem ZiV(h:CgC p C D):CgR p (tw0 C) (tw0 D)/\CgR p (tw1 C) (tw1 D)/\CgR p (tw2 C) (tw2 D) :=
 ⟨⟨Cg.rfl.mul h.1,h.2.2.2.1,h.2.2.2.2.1⟩,⟨h.2.2.2.1,Cg.rfl.mul h.2.1,h.2.2.2.2.2⟩,⟨h.2.2.2.2.1,h.2.2.2.2.2,Cg.rfl.mul h.2.2.1⟩⟩
theorem ZsY(ha:CgR p a a')(hb:CgR p b b')(hc:CgR p c c')(hx:CgR p x x'):CgR p (ap a b c x) (ap a' b' c' x'):=⟨Za4 ha hx,Za4 hb hx,Za4 hc hx⟩
theorem ZlL(h:CgC p C D)(hx:CgR p x x')(hy:CgR p y y'):Cg p (bI C x y) (bI D x' y') :=
 let ⟨t0,t1,t2⟩:=ZiV h
 Za4 (ZsY t0 t1 t2 hx) hy
theorem Zio(h:CgC p C D)(ha:CgR p a a')(hb:CgR p b b')(hc:CgR p c c'):CgC p (pb C a b c) (pb D a' b' c') :=
 let ⟨s0,s1,s2⟩:=Zh1 ha hb hc
 ⟨ZgG h s0,ZgG h s1,ZgG h s2,ZlL h s0 s1,ZlL h s0 s2,ZlL h s1 s2⟩
theorem Zd4(k l:Int)(C:C6):scC k (scC l C)=scC (k*l) C:=by
 unfold scC
 simp only[Int.mul_assoc]
theorem Zcf(C:C6):scC 1 C=C:=by unfold scC;simp only[Int.one_mul]
theorem Zn2(k:Int)(C:C6)(a b c:R3):pb (scC k C) a b c=scC k (pb C a b c):=by
 unfold pb scC vI bI ap tw0 tw1 tw2 Zag
 refine C6.ext' ?_ ?_ ?_ ?_ ?_ ?_<;>(simp only;grind)
theorem Zri(k:Int)(C:C6)(a b c:R3):pb C (Zah k a) (Zah k b) (Zah k c)=scC (k*k) (pb C a b c):=by
 unfold pb scC vI bI ap tw0 tw1 tw2 Zag Zaq Zan Zam Zah
 refine C6.ext' ?_ ?_ ?_ ?_ ?_ ?_<;>(simp only;grind)
theorem ZiP(C:C6)(x y z:R3)(k l m:Int):vI C (k*x.1+l*y.1+m*z.1,k*x.2.1+l*y.2.1+m*z.2.1,k*x.2.2+l*y.2.2+m*z.2.2)=k*k*vI C x+l*l*vI C y+m*m*vI C z+(k*l*bI C x y+k*m*bI C x z+l*m*bI C y z):=by
 unfold vI bI ap tw0 tw1 tw2 Zag
 simp only
 grind
theorem ZmF(C:C6)(x y z w:R3)(k l m:Int):bI C (k*x.1+l*y.1+m*z.1,k*x.2.1+l*y.2.1+m*z.2.1,k*x.2.2+l*y.2.2+m*z.2.2) w=k*bI C x w+l*bI C y w+m*bI C z w:=by
 unfold bI ap tw0 tw1 tw2 Zag
 simp only
 grind
theorem Zcu(C:C6)(x y:R3):bI C x y=bI C y x:=by
 unfold bI ap tw0 tw1 tw2 Zag
 simp only
 grind
theorem Zb3(C:C6)(x:R3):bI C x x=2*vI C x:=by
 unfold vI bI ap tw0 tw1 tw2 Zag
 simp only
 grind
theorem ZwB(v0 v1 v2 b0 b1 b2:Int)(u:R3):vI ⟨v0,v1,v2,b0,b1,b2⟩ u=u.1*u.1*v0+u.2.1*u.2.1*v1+u.2.2*u.2.2*v2+(u.1*u.2.1*b0+u.1*u.2.2*b1+u.2.1*u.2.2*b2):=by
 unfold vI
 simp only
 grind
theorem ZwC(v0 v1 v2 b0 b1 b2:Int)(u w:R3):bI ⟨v0,v1,v2,b0,b1,b2⟩ u w=u.1*(w.1*(2*v0)+w.2.1*b0+w.2.2*b1)+u.2.1*(w.1*b0+w.2.1*(2*v1)+w.2.2*b2)+u.2.2*(w.1*b1+w.2.1*b2+w.2.2*(2*v2)):=by
 unfold bI ap tw0 tw1 tw2 Zag
 simp only
 grind
theorem ZzV(C:C6)(s0 s1 s2 u:R3):vI C (u.1*s0.1+u.2.1*s1.1+u.2.2*s2.1,u.1*s0.2.1+u.2.1*s1.2.1+u.2.2*s2.2.1,u.1*s0.2.2+u.2.1*s1.2.2+u.2.2*s2.2.2)=vI ⟨vI C s0,vI C s1,vI C s2,bI C s0 s1,bI C s0 s2,bI C s1 s2⟩ u:=by
 exact(ZiP C s0 s1 s2 u.1 u.2.1 u.2.2).trans (ZwB _ _ _ _ _ _ u).symm
theorem Zy8(C:C6)(s0 s1 s2 u w:R3):bI C (u.1*s0.1+u.2.1*s1.1+u.2.2*s2.1,u.1*s0.2.1+u.2.1*s1.2.1+u.2.2*s2.2.1,u.1*s0.2.2+u.2.1*s1.2.2+u.2.2*s2.2.2) (w.1*s0.1+w.2.1*s1.1+w.2.2*s2.1,w.1*s0.2.1+w.2.1*s1.2.1+w.2.2*s2.2.1,w.1*s0.2.2+w.2.1*s1.2.2+w.2.2*s2.2.2)=bI ⟨vI C s0,vI C s1,vI C s2,bI C s0 s1,bI C s0 s2,bI C s1 s2⟩ u w:=by
 have e:∀ s:R3,bI C s (w.1*s0.1+w.2.1*s1.1+w.2.2*s2.1,w.1*s0.2.1+w.2.1*s1.2.1+w.2.2*s2.2.1,w.1*s0.2.2+w.2.1*s1.2.2+w.2.2*s2.2.2)=w.1*bI C s0 s+w.2.1*bI C s1 s+w.2.2*bI C s2 s:=fun s=>(Zcu C _ _).trans (ZmF C s0 s1 s2 s w.1 w.2.1 w.2.2)
 refine Eq.trans ?_ (ZwC _ _ _ _ _ _ u w).symm
 rw[ZmF,e,e,e,Zb3 C s0,Zb3 C s1,Zb3 C s2,Zcu C s1 s0,Zcu C s2 s0,Zcu C s2 s1]
theorem Zrj(C:C6)(a b c x y z:R3):pb (pb C a b c) x y z=pb C (rm a x y z) (rm b x y z) (rm c x y z):=by
 have v:=fun u=>(ZzV C (Zaq a b c) (Zan a b c) (Zam a b c) u).symm
 have w:=fun u u'=>(Zy8 C (Zaq a b c) (Zan a b c) (Zam a b c) u u').symm
 exact C6.ext' (v (Zaq x y z)) (v (Zan x y z)) (v (Zam x y z)) (w (Zaq x y z) (Zan x y z)) (w (Zaq x y z) (Zam x y z)) (w (Zan x y z) (Zam x y z))
theorem Zrk(C:C6)(k:Int):pb C (k,0,0) (0,k,0) (0,0,k)=scC (k*k) C:=by
 unfold pb scC vI bI ap tw0 tw1 tw2 Zag Zaq Zan Zam
 refine C6.ext' ?_ ?_ ?_ ?_ ?_ ?_<;>(simp only;grind)
theorem Zl8(a b c:R3):rm a (bk0 a b c) (bk1 a b c) (bk2 a b c)=(Zaa a b c,0,0)/\rm b (bk0 a b c) (bk1 a b c) (bk2 a b c)=(0,Zaa a b c,0)/\rm c (bk0 a b c) (bk1 a b c) (bk2 a b c)=(0,0,Zaa a b c):=by
 unfold rm Zag bk0 bk1 bk2 Zaq Zan Zam crs Zaa det
 refine⟨?_,?_,?_⟩<;>refine Prod.ext ?_ (Prod.ext ?_ ?_)<;>(simp only;grind)
theorem Zsg(C:C6)(a b c:R3):Zaa (tw0 (pb C a b c)) (tw1 (pb C a b c)) (tw2 (pb C a b c))=Zaa a b c*Zaa a b c*Zaa (tw0 C) (tw1 C) (tw2 C):=by
 have row:∀ s:R3,(bI C s (Zaq a b c),bI C s (Zan a b c),bI C s (Zam a b c))=ap (Zaq a b c) (Zan a b c) (Zam a b c) (ap (tw0 C) (tw1 C) (tw2 C) s):=fun s=>by
  unfold bI
  rw[Zch,Zch _ (Zan a b c),Zch _ (Zam a b c)]
  rfl
 have e0:tw0 (pb C a b c)=(bI C (Zaq a b c) (Zaq a b c),bI C (Zaq a b c) (Zan a b c),bI C (Zaq a b c) (Zam a b c)):=by rw[Zb3];rfl
 have e1:tw1 (pb C a b c)=(bI C (Zan a b c) (Zaq a b c),bI C (Zan a b c) (Zan a b c),bI C (Zan a b c) (Zam a b c)):=by rw[Zb3,Zcu C (Zan a b c) (Zaq a b c)];rfl
 have e2:tw2 (pb C a b c)=(bI C (Zam a b c) (Zaq a b c),bI C (Zam a b c) (Zan a b c),bI C (Zam a b c) (Zam a b c)):=by rw[Zb3,Zcu C (Zam a b c) (Zaq a b c),Zcu C (Zam a b c) (Zan a b c)];rfl
 rw[e0,e1,e2,row,row,row,Zkd,Zkd,Zg0]
 grind
theorem ZgZ(k:Int)(C:C6):Zaa (tw0 (scC k C)) (tw1 (scC k C)) (tw2 (scC k C))=k*k*k*Zaa (tw0 C) (tw1 C) (tw2 C):=by
 rw[<- Zd5]
 unfold tw0 tw1 tw2 scC Zah
 simp only[<- Int.mul_assoc,Int.mul_comm 2 k]
def PrC(p:Int)(C D:C6):Prop:=∃ d,d%p≠0/\CgC p C (scC d D)
theorem PrC.rfl(hp:P4 p):PrC p C C:=⟨1,hp.o1,CgC.of (Zcf C).symm⟩
theorem PrC.trans(hp:P4 p)(i:PrC p C D)(j:PrC p D E):PrC p C E:=by
 obtain⟨d,dz,e⟩:=i
 obtain⟨d',dz',e'⟩:=j
 exact⟨d*d',Zae hp dz dz',e.trans ((CgC.sc Cg.rfl e').trans (CgC.of (Zd4 _ _ _)))⟩
theorem Zgd(hp:P4 p)(dz:k%p≠0):∃ u,u%p≠0/\Cg p (u*k) 1:=by
 obtain⟨u,u1,u2,u3⟩:=Zcz hp dz
 refine⟨u,by rw[Int.emod_eq_of_lt (by omega) u2];omega,?_⟩
 show u*k%p=1%p
 rw[Int.mul_comm,u3,Int.emod_eq_of_lt (by decide) (by have:=hp.lo;omega)]
theorem PrC.symm(hp:P4 p)(i:PrC p C D):PrC p D C:=by
 obtain⟨d,dz,e⟩:=i
 obtain⟨u,uz,o⟩:=Zgd hp dz
 refine⟨u,uz,?_⟩
 have q:=CgC.sc (k:=u) (k':=u) Cg.rfl e
 rw[Zd4] at q
 exact(q.trans ((CgC.sc o CgC.rfl).trans (CgC.of (Zcf D)))).symm
theorem PrC.pb(i:PrC p C D):PrC p (OvC.pb C a b c) (OvC.pb D a b c):=by
 obtain⟨d,dz,e⟩:=i
 exact⟨d,dz,(Zio e CgR.rfl CgR.rfl CgR.rfl).trans (CgC.of (Zn2 d D a b c))⟩
theorem PrC.tab(hp:P4 p)(kz:k%p≠0)(ha:CgR p a (Zah k a'))(hb:CgR p b (Zah k b'))(hc:CgR p c (Zah k c')):PrC p (OvC.pb C a b c) (OvC.pb C a' b' c') :=
 ⟨k*k,Zae hp kz kz,(Zio CgC.rfl ha hb hc).trans (CgC.of (Zri k C a' b' c'))⟩
def InC(p:Int)(C:C6):Prop:=∀ x∈C.l,0<=x/\x<p
theorem ZjD(hp:P4 p)(iC:InC p C)(iD:InC p D)(lC:Zap p C.l=some 1)(lD:Zap p D.l=some 1)(h:PrC p C D):C=D:=by
 obtain⟨d,dz,e⟩:=h
 have p1:1<p:=by have:=hp.lo;omega
 have rs:C.l.map (fun x=>x%p)=(D.l.map fun x=>d*x).map (fun x=>x%p):=by
  obtain⟨h0,h1,h2,h3,h4,h5⟩:=e
  simp only[C6.l,List.map_cons,List.map_nil]
  rw[show C.c0%p=d*D.c0%p from h0,show C.c1%p=d*D.c1%p from h1,show C.c2%p=d*D.c2%p from h2,show C.c3%p=d*D.c3%p from h3,show C.c4%p=d*D.c4%p from h4,show C.c5%p=d*D.c5%p from h5]
 have el:=ZbT hp dz (f:=fun x=>d*x) (fun _=>rfl) D.l
 rw[lD,<- ZbG rs,lC,Option.map_some,Option.some.injEq,Int.mul_one] at el
 have o:Cg p d 1:=by
  show d%p=1%p
  rw[<- el,Int.emod_eq_of_lt (by decide) p1]
 obtain⟨h0,h1,h2,h3,h4,h5⟩:=e.trans ((CgC.sc o CgC.rfl).trans (CgC.of (Zcf D)))
 have same:∀ {u v:Int},u∈C.l->v∈D.l->Cg p u v->u=v:=fun hu hv huv=>by
  have:=show _%p=_%p from huv
  rwa [Int.emod_eq_of_lt (iC _ hu).1 (iC _ hu).2,Int.emod_eq_of_lt (iD _ hv).1 (iD _ hv).2] at this
 exact C6.ext' (same (by simp[C6.l]) (by simp[C6.l]) h0) (same (by simp[C6.l]) (by simp[C6.l]) h1) (same (by simp[C6.l]) (by simp[C6.l]) h2) (same (by simp[C6.l]) (by simp[C6.l]) h3) (same (by simp[C6.l]) (by simp[C6.l]) h4) (same (by simp[C6.l]) (by simp[C6.l]) h5)
theorem Zn3(hp:P4 p){l:Int}(lC:Zap p C.l=some l)(z:Zaa a b c%p≠0)(h:CgC p E (OvC.pb C a b c)):∃ l,Zap p E.l=some l:=by
 cases el:Zap p E.l with
 | some l=>exact⟨l,_root_.rfl⟩
 | none =>
  have hz:=ZbJ.mp el
  have e0:CgC p E (scC 0 E):=by
   have k:∀ x∈E.l,Cg p x (0*x):=fun x hx=>by show x%p=0*x%p;rw[hz x hx,Int.zero_mul,Int.zero_emod]
   exact⟨k _ (by simp[C6.l]),k _ (by simp[C6.l]),k _ (by simp[C6.l]),k _ (by simp[C6.l]),k _ (by simp[C6.l]),k _ (by simp[C6.l])⟩
  have q:CgC p (OvC.pb E (bk0 a b c) (bk1 a b c) (bk2 a b c)) (scC (Zaa a b c*Zaa a b c) C):=by
   refine(Zio h CgR.rfl CgR.rfl CgR.rfl).trans (CgC.of ?_)
   obtain⟨r0,r1,r2⟩:=Zl8 a b c
   rw[Zrj,r0,r1,r2,Zrk]
  have q0:CgC p (OvC.pb E (bk0 a b c) (bk1 a b c) (bk2 a b c)) (scC 0 (OvC.pb E (bk0 a b c) (bk1 a b c) (bk2 a b c))):=by
   have:=Zio e0 (CgR.rfl (a:=bk0 a b c)) (CgR.rfl (a:=bk1 a b c)) (CgR.rfl (a:=bk2 a b c))
   rwa [Zn2] at this
  obtain⟨u,uz,o⟩:=Zgd hp (Zae hp z z)
  have t:CgC p C (scC 0 (OvC.pb E (bk0 a b c) (bk1 a b c) (bk2 a b c))):=by
   have w:=CgC.sc (k:=u) (k':=u) Cg.rfl (q.symm.trans q0)
   rw[Zd4,Zd4,Int.mul_zero] at w
   exact((CgC.of (Zcf C).symm).trans (CgC.sc o.symm CgC.rfl)).trans w
  have z0:Zap p C.l=none:=by
   refine ZbJ.mpr fun x hx=>?_
   obtain⟨h0,h1,h2,h3,h4,h5⟩:=t
   have k:∀ {x y:Int},Cg p x (0*y)->x%p=0:=fun {x y} h=>by rw[show x%p=_ from h,Int.zero_mul,Int.zero_emod]
   simp only[C6.l,List.mem_cons,List.not_mem_nil,or_false] at hx
   rcases hx with rfl|rfl|rfl|rfl|rfl|rfl
   ·exact k h0
   ·exact k h1
   ·exact k h2
   ·exact k h3
   ·exact k h4
   ·exact k h5
  rw[z0] at lC
  cases lC
end
noncomputable def Zg3:Df:=⟨5,false,(.cons (.asg 3 false (.bin .Add (.bin .Add (.bin .Mult (.bin .Mult (.idx (.var 1) (.int 0)) (.idx (.var 2) (.int 0))) (.idx (.var 2) (.int 0))) (.bin .Mult (.bin .Mult (.idx (.var 1) (.int 1)) (.idx (.var 2) (.int 1))) (.idx (.var 2) (.int 1)))) (.bin .Mult (.bin .Mult (.idx (.var 1) (.int 2)) (.idx (.var 2) (.int 2))) (.idx (.var 2) (.int 2))))) (.cons (.asg 4 false (.bin .Add (.bin .Add (.bin .Mult (.bin .Mult (.idx (.var 1) (.int 3)) (.idx (.var 2) (.int 0))) (.idx (.var 2) (.int 1))) (.bin .Mult (.bin .Mult (.idx (.var 1) (.int 4)) (.idx (.var 2) (.int 0))) (.idx (.var 2) (.int 2)))) (.bin .Mult (.bin .Mult (.idx (.var 1) (.int 5)) (.idx (.var 2) (.int 1))) (.idx (.var 2) (.int 2))))) (.cons (.ret (.call 1 (.cons (.var 0) (.cons (.bin .Add (.var 3) (.var 4)) .nil)))) .nil)))⟩
noncomputable def Zcj:Df:=⟨2,false,(.cons (.ret (.tup (.cons (.tup (.cons (.call 1 (.cons (.var 0) (.cons (.bin .Mult (.int 2) (.idx (.var 1) (.int 0))) .nil))) (.cons (.idx (.var 1) (.int 3)) (.cons (.idx (.var 1) (.int 4)) .nil)))) (.cons (.tup (.cons (.idx (.var 1) (.int 3)) (.cons (.call 1 (.cons (.var 0) (.cons (.bin .Mult (.int 2) (.idx (.var 1) (.int 1))) .nil))) (.cons (.idx (.var 1) (.int 5)) .nil)))) (.cons (.tup (.cons (.idx (.var 1) (.int 4)) (.cons (.idx (.var 1) (.int 5)) (.cons (.call 1 (.cons (.var 0) (.cons (.bin .Mult (.int 2) (.idx (.var 1) (.int 2))) .nil))) .nil)))) .nil))))) .nil)⟩
noncomputable def ZdV:Df:=⟨3,false,(.cons (.asg 2 false (.call 131 (.cons (.var 0) (.cons (.var 1) .nil)))) (.cons (.ret (.cmp .NotEq (.call 61 (.cons (.var 0) (.cons (.idx (.var 2) (.int 0)) (.cons (.idx (.var 2) (.int 1)) (.cons (.idx (.var 2) (.int 2)) .nil))))) (.int 0))) .nil))⟩
noncomputable def Zg5:Df:=⟨5,false,(.cons (.asg 4 false (.call 91 (.cons (.var 0) (.cons (.call 131 (.cons (.var 0) (.cons (.var 1) .nil))) (.cons (.var 2) .nil))))) (.cons (.ret (.bin .Add (.bin .Add (.bin .Mult (.idx (.var 4) (.int 0)) (.idx (.var 3) (.int 0))) (.bin .Mult (.idx (.var 4) (.int 1)) (.idx (.var 3) (.int 1)))) (.bin .Mult (.idx (.var 4) (.int 2)) (.idx (.var 3) (.int 2))))) .nil))⟩
noncomputable def ZdT:E:=(.bl true)
noncomputable def Zc6:E:=(.call 126 (.cons (.var 0) (.cons (.var 1) (.cons (.var 6) .nil))))
noncomputable def Zg4:Df:=⟨7,false,(.cons (.asg 3 false (.call 104 (.cons (.call 106 (.cons (.var 0) (.cons (.var 2) .nil))) .nil))) (.cons (.asg 4 false (.comp Zc6 6 (.e (.var 3)) ZdT)) (.cons (.asg 5 false (.lst (.cons (.call 132 (.cons (.var 0) (.cons (.var 1) (.cons (.idx (.var 3) (.int 0)) (.cons (.idx (.var 3) (.int 1)) .nil))))) (.cons (.call 132 (.cons (.var 0) (.cons (.var 1) (.cons (.idx (.var 3) (.int 0)) (.cons (.idx (.var 3) (.int 2)) .nil))))) (.cons (.call 132 (.cons (.var 0) (.cons (.var 1) (.cons (.idx (.var 3) (.int 1)) (.cons (.idx (.var 3) (.int 2)) .nil))))) .nil))))) (.cons (.ret (.call 122 (.cons (.var 0) (.cons (.bin .Add (.var 4) (.var 5)) .nil)))) .nil))))⟩
theorem ix6(C:C6):Zbc (Za7 C) (.int 0)=.ok (.int C.c0)/\Zbc (Za7 C) (.int 1)=.ok (.int C.c1)/\Zbc (Za7 C) (.int 2)=.ok (.int C.c2)/\Zbc (Za7 C) (.int 3)=.ok (.int C.c3)/\Zbc (Za7 C) (.int 4)=.ok (.int C.c4)/\Zbc (Za7 C) (.int 5)=.ok (.int C.c5):=⟨rfl,rfl,rfl,rfl,rfl,rfl⟩
structure BC (C:C6):Prop where
 b0:Bd 10 C.c0
 b1:Bd 10 C.c1
 b2:Bd 10 C.c2
 b3:Bd 10 C.c3
 b4:Bd 10 C.c4
 b5:Bd 10 C.c5
theorem InC.b{p:Int}{C:C6}(hp:P4 p)(h:InC p C):BC C:=by
 have k:∀ x∈C.l,Bd 10 x:=fun x hx=>ZgT hp (h x hx).1 (h x hx).2
 exact⟨k _ (by simp[C6.l]),k _ (by simp[C6.l]),k _ (by simp[C6.l]),k _ (by simp[C6.l]),k _ (by simp[C6.l]),k _ (by simp[C6.l])⟩
def Zhb(Γ:Gam):Prop:=∀ (p:Int) (C:C6) (x:R3),P4 p->InC p C->In3 p x->Γ.F 126 [.int p,Za7 C,Zab true x]=.ok (.int (vI C x%p))
theorem Znr{Γ:Gam}(hr:ZdF Γ)(p:Int)(C:C6)(x:R3)(hp:P4 p)(iC:InC p C)(ix:In3 p x):Zg3.run Γ [.int p,Za7 C,Zab true x]=.ok (.int (vI C x%p)):=by
 obtain⟨i0,i1,i2,i3,i4,i5⟩:=ix6 C
 obtain⟨x0,x1,x2⟩:=ZaS true x
 have bC:=iC.b hp
 have bx:=ZbR hp ix
 have k:∀ {u v},Bd 10 u->Bd 10 v->Zct u v=true:=fun hu hv=>Zdh hu hv (by decide) (by decide)
 have k2:∀ {u v w},Bd 10 u->Bd 10 v->Bd 10 w->Zct (u*v) w=true:=fun hu hv hw=>Zdh (hu.mul hv) hw (by decide) (by decide)
 simp[Zg3,Df.run,Zaf,i0,i1,i2,i3,i4,i5,x0,x1,x2,k bC.b0 bx.1,k bC.b1 bx.2.1,k bC.b2 bx.2.2,k bC.b3 bx.1,k bC.b4 bx.1,k bC.b5 bx.2.1,k2 bC.b0 bx.1 bx.1,k2 bC.b1 bx.2.1 bx.2.1,k2 bC.b2 bx.2.2 bx.2.2,k2 bC.b3 bx.1 bx.2.1,k2 bC.b4 bx.1 bx.2.2,k2 bC.b5 bx.2.1 bx.2.2,hr p _ hp.pos]
 rfl
noncomputable def t0(p:Int)(C:C6):R3:=(2*C.c0%p,C.c3,C.c4)
noncomputable def t1(p:Int)(C:C6):R3:=(C.c3,2*C.c1%p,C.c5)
noncomputable def t2(p:Int)(C:C6):R3:=(C.c4,C.c5,2*C.c2%p)
theorem ZuJ{p:Int}{C:C6}(hp:P4 p)(h:InC p C):In3 p (t0 p C)/\In3 p (t1 p C)/\In3 p (t2 p C):=by
 have p0:=hp.pos
 have k:∀ x∈C.l,0<=x/\x<p:=h
 have m:∀ x:Int,0<=x%p/\x%p<p:=fun x=>⟨Int.emod_nonneg _ (by omega),Int.emod_lt_of_pos _ p0⟩
 exact⟨⟨m _,k _ (by simp[C6.l,t0]),k _ (by simp[C6.l,t0])⟩,⟨k _ (by simp[C6.l,t1]),m _,k _ (by simp[C6.l,t1])⟩,⟨k _ (by simp[C6.l,t2]),k _ (by simp[C6.l,t2]),m _⟩⟩
theorem ZuK(p:Int)(C:C6):CgR p (t0 p C) (tw0 C)/\CgR p (t1 p C) (tw1 C)/\CgR p (t2 p C) (tw2 C):=⟨⟨Cg.md rfl,Cg.rfl,Cg.rfl⟩,⟨Cg.rfl,Cg.md rfl,Cg.rfl⟩,⟨Cg.rfl,Cg.rfl,Cg.md rfl⟩⟩
def ZfO(Γ:Gam):Prop:=∀ (p:Int) (C:C6),P4 p->Γ.F 131 [.int p,Za7 C]=.ok (Zax (t0 p C) (t1 p C) (t2 p C))
theorem Zns{Γ:Gam}(hr:ZdF Γ)(p:Int)(C:C6)(hp:P4 p):Zcj.run Γ [.int p,Za7 C]=.ok (Zax (t0 p C) (t1 p C) (t2 p C)):=by
 obtain⟨i0,i1,i2,i3,i4,i5⟩:=ix6 C
 have m22:∀ y,Zba 2 y=true:=fun y=>Zbs (by decide) (by decide)
 simp[Zcj,Df.run,Zaf,i0,i1,i2,i3,i4,i5,m22,hr p _ hp.pos]
 rfl
noncomputable def mxI(p:Int)(C:C6)(x y:R3):Int:=Zag (Zag (t0 p C) x%p,Zag (t1 p C) x%p,Zag (t2 p C) x%p) y
theorem Zom(p:Int)(C:C6)(x y:R3):Cg p (mxI p C x y) (bI C x y):=by
 obtain⟨h0,h1,h2⟩:=ZuK p C
 exact Za4 ⟨(Cg.md rfl).trans (Za4 h0 CgR.rfl),(Cg.md rfl).trans (Za4 h1 CgR.rfl),(Cg.md rfl).trans (Za4 h2 CgR.rfl)⟩ CgR.rfl
def ZmI(Γ:Gam):Prop:=∀ (p:Int) (C:C6) (x y:R3),P4 p->InC p C->In3 p x->In3 p y->Γ.F 132 [.int p,Za7 C,Zab true x,Zab true y]=.ok (.int (mxI p C x y))
theorem ZqT{Γ:Gam}(ht:ZfO Γ)(hs:Zh7 Γ)(p:Int)(C:C6)(x y:R3)(hp:P4 p)(iC:InC p C)(ix:In3 p x)(iy:In3 p y):Zg5.run Γ [.int p,Za7 C,Zab true x,Zab true y]=.ok (.int (mxI p C x y)):=by
 have p0:=hp.pos
 obtain⟨h0,h1,h2⟩:=ZuJ hp iC
 have e1:=ht p C hp
 have e2:Γ.F 91 [.int p,Zax (t0 p C) (t1 p C) (t2 p C),Zab true x]=_:=hs p true true true (t0 p C) (t1 p C) (t2 p C) x p0 ((ZbR hp h0).b3 (by decide)) ((ZbR hp h1).b3 (by decide)) ((ZbR hp h2).b3 (by decide)) ((ZbR hp ix).b3 (by decide))
 have iw:In3 p (Zag (t0 p C) x%p,Zag (t1 p C) x%p,Zag (t2 p C) x%p):=⟨⟨Int.emod_nonneg _ (by omega),Int.emod_lt_of_pos _ p0⟩,⟨Int.emod_nonneg _ (by omega),Int.emod_lt_of_pos _ p0⟩,⟨Int.emod_nonneg _ (by omega),Int.emod_lt_of_pos _ p0⟩⟩
 unfold mxI
 generalize (Zag (t0 p C) x%p,Zag (t1 p C) x%p,Zag (t2 p C) x%p)=w at *
 obtain⟨x0,x1,x2⟩:=ZaS true w
 obtain⟨y0,y1,y2⟩:=ZaS true y
 have bw:=ZbR hp iw
 have by_:=ZbR hp iy
 have k:∀ {u v},Bd 10 u->Bd 10 v->Zct u v=true:=fun hu hv=>Zdh hu hv (by decide) (by decide)
 simp[Zg5,Df.run,Zaf,e1,e2,x0,x1,x2,y0,y1,y2,k bw.1 by_.1,k bw.2.1 by_.2.1,k bw.2.2 by_.2.2]
 rfl
def ZmK(Γ:Gam):Prop:=∀ (p:Int) (b:Bool) (xs:List Int) (l t:Int),P4 p->Zap p xs=some l->Zd2 p l t->Γ.F 122 [.int p,Zda b xs]=.ok (.tup (ds (fmI p t xs)))
theorem ZqY{Γ:Gam}(hr:ZdF Γ)(hf:ZeY Γ){p:Int}{b:Bool}{xs:List Int}{l t:Int}(hp:P4 p)(e:Zap p xs=some l)(it:Zd2 p l t):ZdW.run Γ [.int p,Zda b xs]=.ok (.tup (ds (fmI p t xs))):=by
 have p0:=hp.pos
 have cp:Zal (cG Γ [si p,sh (Zda b xs),none,none] 3 ZdD) (cF Γ [si p,sh (Zda b xs),none,none] 3 Zcs) (ds xs)=.ok (ds (xs.map fun x=>x%p)):=by
  refine ZbM xs fun x _=>⟨rfl,?_⟩
  simp[cF,Zcs,hr p x p0]
 have an:=Zh3 (xs.map fun x=>x%p)
 rw[ZhP p0,e] at an
 have le:Zap p (xs.map fun x=>x%p)=some l:=by rw[ZbG (ZrA xs)];exact e
 have f:=hf p false (xs.map fun x=>x%p) l t hp le it
 rw[ZfJ (ZrA xs)] at f
 have f':Γ.F 17 [.int p,.lst (ds (xs.map fun x=>x%p))]=.ok (.tup (ds (fmI p t xs))):=f
 simp[ZdW,Df.run,Zaf,ZdZ,cp,an,f']
def ZkB(Γ:Gam):Prop:=∀ (p:Int) (C:C6) (a b c:R3),InC p C->Zap p C.l=some 1->GoodR p a b c->∃ D:C6,InC p D/\Zap p D.l=some 1/\PrC p D (pb C (bk0 a b c) (bk1 a b c) (bk2 a b c))/\Γ.F 133 [.int p,Za7 C,Zax a b c]=.ok (Za7 D)
theorem Zr2{p:Int}{E:C6}{l:Int}(hp:P4 p)(el:Zap p E.l=some l):∃ (t:Int) (D:C6),Zd2 p l t/\fmI p t E.l=D.l/\InC p D/\Zap p D.l=some 1/\PrC p D E:=by
 have p0:=hp.pos
 obtain⟨lz,_,_⟩:=ZaW p0 el
 obtain⟨t,t1,t2,t3⟩:=Zcz hp lz
 have tz:t%p≠0:=by rw[Int.emod_eq_of_lt (by omega) t2];omega
 have ff:∀ x,(t*(x%p)%p)%p=t*x%p:=fun x=>by rw[Int.emod_emod_of_dvd _ (Int.dvd_refl p),Int.mul_emod t (x%p) p,Int.emod_emod_of_dvd _ (Int.dvd_refl p),<- Int.mul_emod]
 have lv:=ZbT hp tz (f:=fun x=>t*(x%p)%p) ff E.l
 rw[el,Option.map_some,Int.mul_comm,t3] at lv
 have key:∀ x:Int,Cg p (t*(x%p)%p) (t*x):=fun x=>(Cg.md rfl).trans (Cg.rfl.mul (Cg.md rfl))
 refine⟨t,⟨t*(E.c0%p)%p,t*(E.c1%p)%p,t*(E.c2%p)%p,t*(E.c3%p)%p,t*(E.c4%p)%p,t*(E.c5%p)%p⟩,⟨t1,t2,t3⟩,rfl,fun x hx=>?_,lv,t,tz,key _,key _,key _,key _,key _,key _⟩
 obtain⟨y,_,rfl⟩:=List.mem_map.mp (show x∈E.l.map fun x=>t*(x%p)%p from hx)
 exact⟨Int.emod_nonneg _ (by omega),Int.emod_lt_of_pos _ p0⟩
theorem Znz{Γ:Gam}(hb:Zia Γ)(hc:Zgz Γ)(hv:Zhb Γ)(hm:ZmI Γ)(hf:ZmK Γ)(p:Int)(C:C6)(a b c:R3)(iC:InC p C)(lC:Zap p C.l=some 1)(T:GoodR p a b c):∃ D:C6,InC p D/\Zap p D.l=some 1/\PrC p D (pb C (bk0 a b c) (bk1 a b c) (bk2 a b c))/\Zg4.run Γ [.int p,Za7 C,Zax a b c]=.ok (Za7 D):=by
 have hp:=T.p4
 have p0:=hp.pos
 have zB:Zaa (bk0 a b c) (bk1 a b c) (bk2 a b c)%p≠0:=by rw[ZcF];exact Zae hp T.nz T.nz
 obtain⟨l,el⟩:=ZcR zB
 obtain⟨u,u1,u2,u3⟩:=Zcz hp (ZaW p0 el).1
 have uz:u%p≠0:=by rw[Int.emod_eq_of_lt (by omega) u2];omega
 have e1:=hb p a b c hp T.ia T.ib T.ic T.nz l u el ⟨u1,u2,u3⟩
 have r0:=Zbd p u (bk0 a b c)
 have r1:=Zbd p u (bk1 a b c)
 have r2:=Zbd p u (bk2 a b c)
 have i0:=Zdb p0 u (bk0 a b c)
 have i1:=Zdb p0 u (bk1 a b c)
 have i2:=Zdb p0 u (bk2 a b c)
 have zR:Zaa (fmR p u (bk0 a b c)) (fmR p u (bk1 a b c)) (fmR p u (bk2 a b c))%p≠0:=ZeF ((ZbK r0 r1 r2).trans (Cg.of (Zd5 u u u _ _ _))) (Zae hp (nz3 hp uz uz uz) zB)
 have pr:PrC p (pb C (fmR p u (bk0 a b c)) (fmR p u (bk1 a b c)) (fmR p u (bk2 a b c))) (pb C (bk0 a b c) (bk1 a b c) (bk2 a b c)):=PrC.tab hp uz r0 r1 r2
 generalize fmR p u (bk0 a b c)=x at *
 generalize fmR p u (bk1 a b c)=y at *
 generalize fmR p u (bk2 a b c)=z at *
 have e2:Γ.F 104 [Zax x y z]=.ok (Zax (Zaq x y z) (Zan x y z) (Zam x y z)):=hc true true x y z
 have j0:In3 p (Zaq x y z):=⟨i0.1,i1.1,i2.1⟩
 have j1:In3 p (Zan x y z):=⟨i0.2.1,i1.2.1,i2.2.1⟩
 have j2:In3 p (Zam x y z):=⟨i0.2.2,i1.2.2,i2.2.2⟩
 have m01:=hm p C _ _ hp iC j0 j1
 have m02:=hm p C _ _ hp iC j0 j2
 have m12:=hm p C _ _ hp iC j1 j2
 have v0:=hv p C _ hp iC j0
 have v1:=hv p C _ hp iC j1
 have v2:=hv p C _ hp iC j2
 have cg:CgC p ⟨vI C (Zaq x y z)%p,vI C (Zan x y z)%p,vI C (Zam x y z)%p,mxI p C (Zaq x y z) (Zan x y z),mxI p C (Zaq x y z) (Zam x y z),mxI p C (Zan x y z) (Zam x y z)⟩ (pb C x y z):=⟨Cg.md rfl,Cg.md rfl,Cg.md rfl,Zom p C _ _,Zom p C _ _,Zom p C _ _⟩
 obtain⟨l',el'⟩:=Zn3 hp lC zR cg
 obtain⟨t,D,it,eD,iD,lD,pD⟩:=Zr2 hp el'
 have e3:=hf p false _ l' t hp el' it
 rw[eD] at e3
 refine⟨D,iD,lD,(pD.trans hp ⟨1,hp.o1,cg.trans (CgC.of (Zcf _).symm)⟩).trans hp pr,?_⟩
 generalize hX:(mxI p C (Zaq x y z) (Zan x y z))=M01 at *
 generalize hY:(mxI p C (Zaq x y z) (Zam x y z))=M02 at *
 generalize hZ:(mxI p C (Zan x y z) (Zam x y z))=M12 at *
 generalize vI C (Zaq x y z)%p=V0 at *
 generalize vI C (Zan x y z)%p=V1 at *
 generalize vI C (Zam x y z)%p=V2 at *
 have e3':Γ.F 122 [.int p,.lst [.int V0,.int V1,.int V2,.int M01,.int M02,.int M12]]=.ok (Za7 D):=e3
 have key:∀ (r:R3) (v:Int),Γ.F 126 [.int p,Za7 C,Zab true r]=.ok (.int v)->cF Γ [si p,sh (Za7 C),sh (Zax a b c),sh (Zax (Zaq x y z) (Zan x y z) (Zam x y z)),none,none,none] 6 Zc6 (Zab true r)=.ok (.int v):=fun r v h=>by
  simp[cF,Zc6,h]
 have gg:∀ r,cG Γ [si p,sh (Za7 C),sh (Zax a b c),sh (Zax (Zaq x y z) (Zan x y z) (Zam x y z)),none,none,none] 6 ZdT r=.ok true:=fun _=>rfl
 have cp:Zal (cG Γ [si p,sh (Za7 C),sh (Zax a b c),sh (Zax (Zaq x y z) (Zan x y z) (Zam x y z)),none,none,none] 6 ZdT) (cF Γ [si p,sh (Za7 C),sh (Zax a b c),sh (Zax (Zaq x y z) (Zan x y z) (Zam x y z)),none,none,none] 6 Zc6) [Zab true (Zaq x y z),Zab true (Zan x y z),Zab true (Zam x y z)]=.ok [.int V0,.int V1,.int V2]:=by
  simp[Zal,gg,key _ _ v0,key _ _ v1,key _ _ v2]
 have sq:ZaF (Zax (Zaq x y z) (Zan x y z) (Zam x y z))=.ok [Zab true (Zaq x y z),Zab true (Zan x y z),Zab true (Zam x y z)]:=rfl
 have k0:Zbc (Zax (Zaq x y z) (Zan x y z) (Zam x y z)) (.int 0)=.ok (Zab true (Zaq x y z)):=rfl
 have k1:Zbc (Zax (Zaq x y z) (Zan x y z) (Zam x y z)) (.int 1)=.ok (Zab true (Zan x y z)):=rfl
 have k2:Zbc (Zax (Zaq x y z) (Zan x y z) (Zam x y z)) (.int 2)=.ok (Zab true (Zam x y z)):=rfl
 have ad:Zdg .Add (.lst [.int V0,.int V1,.int V2]) (.lst [.int M01,.int M02,.int M12])=.ok (.lst [.int V0,.int V1,.int V2,.int M01,.int M02,.int M12]):=rfl
 simp[Zg4,Df.run,Zaf,e1,e2,cp,sq,k0,k1,k2,m01,m02,m12,ad,e3']
section
variable {Γ:Gam} {ns:List Int} {p at_:Int} {φ:Int->Int}
end
noncomputable def e0R:R3:=(1,0,0)
noncomputable def e1R:R3:=(0,1,0)
noncomputable def e2R:R3:=(0,0,1)
noncomputable def e3R:R3:=(1,1,1)
theorem ZzT{p:Int}(hp:P4 p):In3 p e0R/\In3 p e1R/\In3 p e2R/\In3 p e3R:=by
 have z:0<=(0:Int)/\(0:Int)<p:=⟨by decide,hp.pos⟩
 have o:0<=(1:Int)/\(1:Int)<p:=⟨by decide,by have:=hp.lo;omega⟩
 exact⟨⟨o,z,z⟩,⟨z,o,z⟩,⟨z,z,o⟩,⟨o,o,o⟩⟩
theorem ZxG{p:Int}(hp:P4 p):ZiE p e0R e1R e2R e3R:=by
 rcases hp with rfl|rfl|rfl|rfl<;>exact⟨by decide,by decide,by decide,by decide⟩
structure Frm (p:Int) (f0 f1 f2 f3:R3):Prop where
 i0:In3 p f0
 i1:In3 p f1
 i2:In3 p f2
 i3:In3 p f3
 gen:ZiE p f0 f1 f2 f3
def Pr(p:Int)(x y:R3):Prop:=∃ d,d%p≠0/\CgR p x (Zah d y)
section
variable {p:Int} {a b c x y z f g h:R3} {k:Int}
theorem Zf0(x:R3):Zah 1 x=x:=by unfold Zah;simp only[Int.one_mul]
theorem Pr.rfl(hp:P4 p):Pr p x x:=⟨1,hp.o1,CgR.of (Zf0 x).symm⟩
theorem Pr.trans(hp:P4 p)(i:Pr p x y)(j:Pr p y z):Pr p x z:=by
 obtain⟨d,dz,e⟩:=i
 obtain⟨d',dz',e'⟩:=j
 exact⟨d*d',Zae hp dz dz',e.trans ((CgR.sc Cg.rfl e').trans (CgR.of (Zeq _ _ _)))⟩
theorem Pr.symm(hp:P4 p)(i:Pr p x y):Pr p y x:=by
 obtain⟨d,dz,e⟩:=i
 obtain⟨u,u1,u2,u3⟩:=Zcz hp dz
 have uz:u%p≠0:=by rw[Int.emod_eq_of_lt (by omega) u2];omega
 have o:Cg p (u*d) 1:=by
  show u*d%p=1%p
  rw[Int.mul_comm,u3,Int.emod_eq_of_lt (by decide) (by have:=hp.lo;omega)]
 refine⟨u,uz,?_⟩
 have q:=CgR.sc (k:=u) (k':=u) Cg.rfl e
 rw[Zeq] at q
 exact(q.trans ((CgR.sc o CgR.rfl).trans (CgR.of (Zf0 y)))).symm
theorem Pr.cg(hp:P4 p)(e:CgR p x y):Pr p x y:=⟨1,hp.o1,e.trans (CgR.of (Zf0 y).symm)⟩
theorem ZlM{a' b' c' x':R3}(ha:CgR p a a')(hb:CgR p b b')(hc:CgR p c c')(hx:CgR p x x'):CgR p (ap a b c x) (ap a' b' c' x'):=⟨Za4 ha hx,Za4 hb hx,Za4 hc hx⟩
theorem Pr.ap(i:Pr p x y):Pr p (OvC.ap a b c x) (OvC.ap a b c y):=by
 obtain⟨d,dz,e⟩:=i
 exact⟨d,dz,(ZlM CgR.rfl CgR.rfl CgR.rfl e).trans (CgR.of (ZsW a b c y d))⟩
theorem ZsV(k:Int)(a b c x:R3):ap (Zah k a) (Zah k b) (Zah k c) x=Zah k (ap a b c x):=by
 unfold ap Zah Zag
 refine Prod.ext ?_ (Prod.ext ?_ ?_)<;>(simp only;grind)
theorem Pr.tab{a' b' c':R3}(kz:k%p≠0)(ha:CgR p a (Zah k a'))(hb:CgR p b (Zah k b'))(hc:CgR p c (Zah k c')):Pr p (OvC.ap a b c x) (OvC.ap a' b' c' x) :=
 ⟨k,kz,(ZlM ha hb hc CgR.rfl).trans (CgR.of (ZsV k a' b' c' x))⟩
theorem ZsX(a b c x y z v:R3):ap (rm a x y z) (rm b x y z) (rm c x y z) v=ap a b c (ap x y z v):=by
 unfold ap rm Zag Zaq Zan Zam
 refine Prod.ext ?_ (Prod.ext ?_ ?_)<;>(simp only;grind)
theorem ZlN(a b c v:R3):ap (bk0 a b c) (bk1 a b c) (bk2 a b c) (ap a b c v)=Zah (Zaa a b c) v:=by
 unfold ap Zah Zag bk0 bk1 bk2 Zaq Zan Zam crs Zaa det
 refine Prod.ext ?_ (Prod.ext ?_ ?_)<;>(simp only;grind)
theorem Zmv(a b c x y z:R3):Zaa (rm a x y z) (rm b x y z) (rm c x y z)=Zaa a b c*Zaa x y z:=by
 unfold Zaa det rm Zag Zaq Zan Zam
 grind
end
noncomputable def tri(g:R3):List Int:=[g.1,g.2.1,g.2.2]
theorem ZjC{p:Int}{x y:R3}(hp:P4 p)(ix:In3 p x)(iy:In3 p y)(lx:Zap p (tri x)=some 1)(ly:Zap p (tri y)=some 1)(h:Pr p x y):x=y:=by
 obtain⟨d,dz,e⟩:=h
 have p1:1<p:=by have:=hp.lo;omega
 have rs:(tri x).map (fun x=>x%p)=((tri y).map fun x=>d*x).map (fun x=>x%p):=by
  simp only[tri,List.map_cons,List.map_nil]
  rw[show x.1%p=d*y.1%p from e.1,show x.2.1%p=d*y.2.1%p from e.2.1,show x.2.2%p=d*y.2.2%p from e.2.2]
 have el:=ZbT hp dz (f:=fun x=>d*x) (fun _=>rfl) (tri y)
 rw[ly,<- ZbG rs,lx,Option.map_some,Option.some.injEq,Int.mul_one] at el
 have o:Cg p d 1:=by
  show d%p=1%p
  rw[<- el,Int.emod_eq_of_lt (by decide) p1]
 have q:=e.trans ((CgR.sc o CgR.rfl).trans (CgR.of (Zf0 y)))
 have same:∀ {u v:Int},(0<=u/\u<p)->(0<=v/\v<p)->Cg p u v->u=v:=fun hu hv huv=>by
  have:=show _%p=_%p from huv
  rwa [Int.emod_eq_of_lt hu.1 hu.2,Int.emod_eq_of_lt hv.1 hv.2] at this
 exact Prod.ext (same ix.1 iy.1 q.1) (Prod.ext (same ix.2.1 iy.2.1 q.2.1) (same ix.2.2 iy.2.2 q.2.2))
theorem ZcN{p:Int}{a b c:R3}(hp:P4 p)(nz:Zaa a b c%p≠0):∃ l t,Zap p (nine a b c)=some l/\Zd2 p l t/\t%p≠0/\GoodR p (fmR p t a) (fmR p t b) (fmR p t c)/\Zap p (nine (fmR p t a) (fmR p t b) (fmR p t c))=some 1:=by
 have p0:=hp.pos
 obtain⟨l,el⟩:=ZcR nz
 obtain⟨lz,_,_⟩:=ZaW p0 el
 obtain⟨t,t1,t2,t3⟩:=Zcz hp lz
 have tz:t%p≠0:=by rw[Int.emod_eq_of_lt (by omega) t2];omega
 have ff:∀ x,(t*(x%p)%p)%p=t*x%p:=fun x=>by rw[Int.emod_emod_of_dvd _ (Int.dvd_refl p),Int.mul_emod t (x%p) p,Int.emod_emod_of_dvd _ (Int.dvd_refl p),<- Int.mul_emod]
 have lv:=ZbT hp tz (f:=fun x=>t*(x%p)%p) ff (nine a b c)
 rw[el] at lv
 refine⟨l,t,el,⟨t1,t2,t3⟩,tz,⟨hp,Zdb p0 t a,Zdb p0 t b,Zdb p0 t c,ZeF ((ZbK (Zbd p t a) (Zbd p t b) (Zbd p t c)).trans (Cg.of (Zd5 t t t a b c))) (Zae hp (nz3 hp tz tz tz) nz)⟩,?_⟩
 have e:Zap p ((nine a b c).map fun x=>t*(x%p)%p)=some 1:=by rw[lv,Option.map_some,Int.mul_comm,t3]
 exact e
structure Led (p:Int) (a b c f0 f1 f2 f3 g0 g1 g2 g3:R3):Prop where
 h0:Pr p g0 (ap a b c f0)
 h1:Pr p g1 (ap a b c f1)
 h2:Pr p g2 (ap a b c f2)
 h3:Pr p g3 (ap a b c f3)
section
variable {p:Int} {a b c a' b' c' f0 f1 f2 f3 g0 g1 g2 g3 h0 h1 h2 h3:R3}
theorem Zon(hp:P4 p)(T:GoodR p a b c)(T':GoodR p a' b' c')(L:Led p a b c e0R e1R e2R e3R f0 f1 f2 f3)(L':Led p a' b' c' e0R e1R e2R e3R g0 g1 g2 g3) :
  ∃ x y z,GoodR p x y z/\Zap p (nine x y z)=some 1/\Led p x y z f0 f1 f2 f3 g0 g1 g2 g3:=by
 have zB:Zaa (bk0 a b c) (bk1 a b c) (bk2 a b c)%p≠0:=by rw[ZcF];exact Zae hp T.nz T.nz
 have zR:Zaa (rm a' (bk0 a b c) (bk1 a b c) (bk2 a b c)) (rm b' (bk0 a b c) (bk1 a b c) (bk2 a b c)) (rm c' (bk0 a b c) (bk1 a b c) (bk2 a b c))%p≠0:=by rw[Zmv];exact Zae hp T'.nz zB
 obtain⟨l,t,_,_,tz,gd,l1⟩:=ZcN hp zR
 refine⟨_,_,_,gd,l1,?_⟩
 have key:∀ {e f g:R3},Pr p f (ap a b c e)->Pr p g (ap a' b' c' e)->Pr p g (ap (fmR p t (rm a' (bk0 a b c) (bk1 a b c) (bk2 a b c))) (fmR p t (rm b' (bk0 a b c) (bk1 a b c) (bk2 a b c))) (fmR p t (rm c' (bk0 a b c) (bk1 a b c) (bk2 a b c))) f):=fun {e f g} hf hg=>by
  refine hg.trans hp (Pr.symm hp ?_)
  refine(Pr.tab tz (Zbd p t _) (Zbd p t _) (Zbd p t _)).trans hp ?_
  rw[ZsX]
  refine Pr.ap ((Pr.ap hf).trans hp ?_)
  rw[ZlN]
  exact⟨_,T.nz,CgR.rfl⟩
 exact⟨key L.h0 L'.h0,key L.h1 L'.h1,key L.h2 L'.h2,key L.h3 L'.h3⟩
theorem ZjQ{x y z:R3}{k:Int}(hp:P4 p)(kz:k%p≠0)(hx:CgR p x (Zah k (rm a' a b c)))(hy:CgR p y (Zah k (rm b' a b c)))(hz:CgR p z (Zah k (rm c' a b c)))(L:Led p a b c f0 f1 f2 f3 g0 g1 g2 g3)(L':Led p a' b' c' g0 g1 g2 g3 h0 h1 h2 h3):Led p x y z f0 f1 f2 f3 h0 h1 h2 h3:=by
 have key:∀ {f g h:R3},Pr p g (ap a b c f)->Pr p h (ap a' b' c' g)->Pr p h (ap x y z f):=fun {f g h} hg hh=>by
  refine(hh.trans hp (Pr.ap hg)).trans hp (Pr.symm hp ?_)
  have q:=Pr.tab (x:=f) kz hx hy hz
  rwa [ZsX] at q
 exact⟨key L.h0 L'.h0,key L.h1 L'.h1,key L.h2 L'.h2,key L.h3 L'.h3⟩
end
section
variable {Γ:Gam} {ns:List Int} {p:Int}
theorem ZrQ(hp:P4 p){f0 f1 f2 f3:R3}:Led p e0R e1R e2R f0 f1 f2 f3 f0 f1 f2 f3:=by
 have key:∀ f:R3,ap e0R e1R e2R f=f:=fun f=>by
  unfold ap Zag e0R e1R e2R
  refine Prod.ext ?_ (Prod.ext ?_ ?_)<;>simp
 have k2:∀ f:R3,Pr p f (ap e0R e1R e2R f):=fun f=>by rw[key f];exact Pr.rfl hp
 exact⟨k2 _,k2 _,k2 _,k2 _⟩
theorem ZjW(hp:P4 p):GoodR p e0R e1R e2R/\Zap p (nine e0R e1R e2R)=some 1:=by
 obtain⟨i0,i1,i2,i3⟩:=ZzT hp
 refine⟨⟨hp,i0,i1,i2,(ZxG hp).1⟩,?_⟩
 rcases hp with rfl|rfl|rfl|rfl<;>decide
end
noncomputable def L3(a b c:R3):List D:=[Zb5 a,Zb5 b,Zb5 c]
def Ij(i j:Int):Prop:=(i=0/\j=1)\/(i=0/\j=2)\/(i=1/\j=0)\/(i=1/\j=2)\/(i=2/\j=0)\/(i=2/\j=1)
theorem ZwS{m:Int}{i j:Int}(hi:m%3=i)(hj:(i+1+m / 3%2)%3=j):Ij i j:=by
 have i3:i=0\/i=1\/i=2:=by omega
 have e2:m / 3%2=0\/m / 3%2=1:=by omega
 rcases i3 with z|z|z<;>rcases e2 with e|e<;>rw[z,e] at hj
 ·exact .inl ⟨z,hj.symm⟩
 ·exact .inr (.inl ⟨z,hj.symm⟩)
 ·exact .inr (.inr (.inr (.inl ⟨z,hj.symm⟩)))
 ·exact .inr (.inr (.inl ⟨z,hj.symm⟩))
 ·exact .inr (.inr (.inr (.inr (.inl ⟨z,hj.symm⟩))))
 ·exact .inr (.inr (.inr (.inr (.inr ⟨z,hj.symm⟩))))
def Zfp(Γ:Gam)(mid:Nat)(ns:List Int):Prop:=∀ k:Int,0<=k->∃ m,0<=m/\Γ.F mid [scr ns,.int k]=.ok (.int m)
section
variable {Γ:Gam} {ns:List Int} {mid:Nat} {p:Int} {a b c:R3} {s2 s4 s5 s6 s7 s8:Sl}
end
theorem Zf2{lo hi:Int}(h1:-1000<=lo)(h2:lo<=1000)(h3:-1000<=hi)(h4:hi<=1000):ZaB lo hi=.ok (Zfb lo (hi-lo).toNat):=by
 unfold ZaB
 rw[if_pos (by refine⟨⟨by omega,by omega⟩,⟨by omega,by omega⟩,?_⟩;omega)]
theorem Zmh{p:Int}(h:1<p):Zap p [0,0,1]=some 1:=by
 simp[Zap,Int.emod_eq_of_lt (by decide:(0:Int)<=1) h]
theorem ZwD{p:Int}(h:1<p)(z:Int):Zap p [0,1,z]=some 1:=by
 simp[Zap,Int.emod_eq_of_lt (by decide:(0:Int)<=1) h]
theorem ZyE{p:Int}(h:1<p)(y z:Int):Zap p [1,y,z]=some 1:=by
 simp[Zap,Int.emod_eq_of_lt (by decide:(0:Int)<=1) h]
noncomputable def prd(a b:R3):C6:=⟨a.1*b.1,a.2.1*b.2.1,a.2.2*b.2.2,a.1*b.2.1+a.2.1*b.1,a.1*b.2.2+a.2.2*b.1,a.2.1*b.2.2+a.2.2*b.2.1⟩
noncomputable def ZlZ(C D:C6):C6:=⟨C.c0-D.c0,C.c1-D.c1,C.c2-D.c2,C.c3-D.c3,C.c4-D.c4,C.c5-D.c5⟩
theorem Ziv{p:Int}{C:C6}(z:Zaa (tw0 C) (tw1 C) (tw2 C)%p≠0):∃ l,Zap p C.l=some l:=by
 cases el:Zap p C.l with
 | some l=>exact⟨l,rfl⟩
 | none =>
  have hz:=ZbJ.mp el
  refine absurd ?_ z
  have k:∀ x∈C.l,Cg p x (0*x):=fun x hx=>by show x%p=0*x%p;rw[hz x hx,Int.zero_mul,Int.zero_emod]
  have e0:CgC p C (scC 0 C):=⟨k _ (by simp[C6.l]),k _ (by simp[C6.l]),k _ (by simp[C6.l]),k _ (by simp[C6.l]),k _ (by simp[C6.l]),k _ (by simp[C6.l])⟩
  obtain⟨x0,x1,x2⟩:=ZiV e0
  rw[show Zaa (tw0 C) (tw1 C) (tw2 C)%p=_ from ZbK x0 x1 x2,ZgZ,Int.mul_zero,Int.zero_mul,Int.zero_emod]
theorem Zhk{p:Int}{C E:C6}(hp:P4 p)(h:PrC p C E)(z:Zaa (tw0 E) (tw1 E) (tw2 E)%p≠0):Zaa (tw0 C) (tw1 C) (tw2 C)%p≠0:=by
 obtain⟨d,dz,cg⟩:=h
 obtain⟨x0,x1,x2⟩:=ZiV cg
 exact ZeF ((ZbK x0 x1 x2).trans (Cg.of (ZgZ d E))) (Zae hp (nz3 hp dz dz dz) z)
noncomputable def Zpw:Df:=⟨3,false,(.cons (.ret (.call 17 (.cons (.var 0) (.cons (.call 91 (.cons (.var 0) (.cons (.var 1) (.cons (.var 2) .nil)))) .nil)))) .nil)⟩
theorem Zel{p l:Int}{r:R3}(hp:P4 p)(el:Zap p (tri r)=some l):∃ u,Zd2 p l u/\In3 p (fmR p u r)/\Zap p (tri (fmR p u r))=some 1/\Pr p (fmR p u r) r/\fmI p u (tri r)=tri (fmR p u r):=by
 have p0:=hp.pos
 obtain⟨lz,_,_⟩:=ZaW p0 el
 obtain⟨t,t1,t2,t3⟩:=Zcz hp lz
 have tz:t%p≠0:=by rw[Int.emod_eq_of_lt (by omega) t2];omega
 have ff:∀ x,(t*(x%p)%p)%p=t*x%p:=fun x=>by rw[Int.emod_emod_of_dvd _ (Int.dvd_refl p),Int.mul_emod t (x%p) p,Int.emod_emod_of_dvd _ (Int.dvd_refl p),<- Int.mul_emod]
 have lv:=ZbT hp tz (f:=fun x=>t*(x%p)%p) ff (tri r)
 rw[el,Option.map_some,Int.mul_comm,t3] at lv
 exact⟨t,⟨t1,t2,t3⟩,Zdb p0 t r,lv,⟨t,tz,Zbd p t r⟩,rfl⟩
theorem Zhi{p:Int}{g:R3}(h:Zap p (tri g)=none):CgR p g (0,0,0):=by
 have hz:=ZbJ.mp h
 have k:∀ x∈tri g,Cg p x 0:=fun x hx=>by show x%p=0%p;rw[hz x hx,Int.zero_emod]
 exact⟨k _ (by simp[tri]),k _ (by simp[tri]),k _ (by simp[tri])⟩
theorem ZhA{p:Int}{g:R3}(h:CgR p g (0,0,0)):Zap p (tri g)=none:=by
 refine ZbJ.mpr fun x hx=>?_
 have k:∀ {x:Int},Cg p x 0->x%p=0:=fun {x} h=>by rw[show x%p=_ from h,Int.zero_emod]
 simp only[tri,List.mem_cons,List.not_mem_nil,or_false] at hx
 rcases hx with rfl|rfl|rfl
 ·exact k h.1
 ·exact k h.2.1
 ·exact k h.2.2
theorem ZeS{p l:Int}{a b c f g:R3}(hp:P4 p)(z:Zaa a b c%p≠0)(lf:Zap p (tri f)=some l)(h:CgR p g (ap a b c f)):∃ l,Zap p (tri g)=some l:=by
 cases el:Zap p (tri g) with
 | some l=>exact⟨l,rfl⟩
 | none =>
  have q0:CgR p (ap a b c f) (0,0,0):=h.symm.trans (Zhi el)
  have q1:CgR p (Zah (Zaa a b c) f) (0,0,0):=by
   have:=ZlM (CgR.rfl (a:=bk0 a b c)) (CgR.rfl (a:=bk1 a b c)) (CgR.rfl (a:=bk2 a b c)) q0
   rw[ZlN] at this
   refine this.trans (CgR.of ?_)
   unfold ap Zag
   simp
  obtain⟨u,uz,o⟩:=Zgd hp z
  have q2:CgR p f (0,0,0):=by
   have w:=CgR.sc (k:=u) (k':=u) Cg.rfl q1
   rw[Zeq] at w
   refine((CgR.of (Zf0 f).symm).trans (CgR.sc o.symm CgR.rfl)).trans (w.trans (CgR.of ?_))
   unfold Zah
   simp
  rw[ZhA q2] at lf
  cases lf
def ZmJ(Γ:Gam):Prop:=∀ (p:Int) (a b c f:R3),GoodR p a b c->In3 p f->Zap p (tri f)=some 1->∃ g,In3 p g/\Zap p (tri g)=some 1/\Pr p g (ap a b c f)/\Γ.F 92 [.int p,Zax a b c,Zab true f]=.ok (Zab true g)
theorem ZqV{Γ:Gam}(hs:Zh7 Γ)(hf:ZeY Γ)(p:Int)(a b c f:R3)(g:GoodR p a b c)(i0:In3 p f)(lf:Zap p (tri f)=some 1):∃ g,In3 p g/\Zap p (tri g)=some 1/\Pr p g (ap a b c f)/\Zpw.run Γ [.int p,Zax a b c,Zab true f]=.ok (Zab true g):=by
 have hp:=g.p4
 have e1:Γ.F 91 [.int p,Zax a b c,Zab true f]=_:=hs p true true true a b c f hp.pos ((ZbR hp g.ia).b3 (by decide)) ((ZbR hp g.ib).b3 (by decide)) ((ZbR hp g.ic).b3 (by decide)) ((ZbR hp i0).b3 (by decide))
 have cg:CgR p (Zag a f%p,Zag b f%p,Zag c f%p) (ap a b c f):=⟨Cg.md rfl,Cg.md rfl,Cg.md rfl⟩
 obtain⟨l,el⟩:=ZeS hp g.nz lf cg
 obtain⟨u,iu,j,l1,pr,ef⟩:=Zel hp el
 have e2:=hf p true _ l u hp el iu
 rw[ef] at e2
 generalize (Zag a f%p,Zag b f%p,Zag c f%p)=w at *
 have e2':Γ.F 17 [.int p,Zab true w]=.ok (Zab true (fmR p u w)):=e2
 refine⟨fmR p u w,j,l1,pr.trans hp (Pr.cg hp cg),?_⟩
 simp[Zpw,Df.run,Zaf,e1,e2']
def Zh6(Γ:Gam):Prop:=∀ (p:Int) (C:C6),P4 p->InC p C->Zaa (tw0 C) (tw1 C) (tw2 C)%p≠0->Γ.F 136 [.int p,Za7 C]=.ok (.bl true)
theorem Zla{Γ:Gam}(ht:ZfO Γ)(hm:ZeX Γ)(p:Int)(C:C6)(hp:P4 p)(iC:InC p C)(z:Zaa (tw0 C) (tw1 C) (tw2 C)%p≠0):ZdV.run Γ [.int p,Za7 C]=.ok (.bl true):=by
 obtain⟨h0,h1,h2⟩:=ZuJ hp iC
 have e1:=ht p C hp
 have e2:=hm p true (t0 p C) (t1 p C) (t2 p C) hp.pos ((ZbR hp h0).b3 (by decide)) ((ZbR hp h1).b3 (by decide)) ((ZbR hp h2).b3 (by decide))
 have td:Zaa (t0 p C) (t1 p C) (t2 p C)%p=Zaa (tw0 C) (tw1 C) (tw2 C)%p:=let ⟨h0,h1,h2⟩:=ZuK p C;ZbK h0 h1 h2
 rw[td] at e2
 have k0:Zbc (Zax (t0 p C) (t1 p C) (t2 p C)) (.int 0)=.ok (Zab true (t0 p C)):=rfl
 have k1:Zbc (Zax (t0 p C) (t1 p C) (t2 p C)) (.int 1)=.ok (Zab true (t1 p C)):=rfl
 have k2:Zbc (Zax (t0 p C) (t1 p C) (t2 p C)) (.int 2)=.ok (Zab true (t2 p C)):=rfl
 generalize Zaa (tw0 C) (tw1 C) (tw2 C)%p=d at *
 simp[ZdV,Df.run,Zaf,e1,e2,k0,k1,k2,z]
noncomputable def Zdl:Df:=⟨2,false,(.cons (.ife (.no (.call 136 (.cons (.var 0) (.cons (.var 1) .nil)))) (.cons (.rais 14 (.cons (.str (Str.ofString "the curve is not whole")) .nil)) .nil) .nil) .nil)⟩
noncomputable def Zck:Df:=⟨2,false,(.cons (.expr (.call 147 (.cons (.var 0) (.cons (.var 1) .nil)))) (.cons (.ret (.call 78 (.cons (.var 0) (.cons (.call 131 (.cons (.var 0) (.cons (.var 1) .nil))) .nil)))) .nil))⟩
noncomputable def Zkp:Df:=⟨3,false,(.cons (.ret (.call 92 (.cons (.var 0) (.cons (.call 106 (.cons (.var 0) (.cons (.call 148 (.cons (.var 0) (.cons (.var 1) .nil))) .nil))) (.cons (.var 2) .nil))))) .nil)⟩
def ZkJ(Γ:Gam):Prop:=∀ (p:Int) (C:C6),P4 p->InC p C->Zaa (tw0 C) (tw1 C) (tw2 C)%p≠0->Γ.F 147 [.int p,Za7 C]=.ok .non
theorem Zq0{Γ:Gam}(h:Zh6 Γ)(p:Int)(C:C6)(hp:P4 p)(iC:InC p C)(z:Zaa (tw0 C) (tw1 C) (tw2 C)%p≠0):Zdl.run Γ [.int p,Za7 C]=.ok .non:=by
 have e:=h p C hp iC z
 simp[Zdl,Df.run,Zaf,e]
def Zze(p:Int)(C:C6)(a b c:R3):Prop:=GoodR p a b c/\∃ k,k%p≠0/\CgR p a (Zah k (tw0 C))/\CgR p b (Zah k (tw1 C))/\CgR p c (Zah k (tw2 C))
def ZmH(Γ:Gam):Prop:=∀ (p:Int) (C:C6),P4 p->InC p C->Zaa (tw0 C) (tw1 C) (tw2 C)%p≠0->∃ a b c,Zze p C a b c/\Γ.F 148 [.int p,Za7 C]=.ok (Zax a b c)
theorem ZqP{Γ:Gam}(hw:ZkJ Γ)(ht:ZfO Γ)(hf:Zgy Γ)(p:Int)(C:C6)(hp:P4 p)(iC:InC p C)(z:Zaa (tw0 C) (tw1 C) (tw2 C)%p≠0):∃ a b c,Zze p C a b c/\Zck.run Γ [.int p,Za7 C]=.ok (Zax a b c):=by
 obtain⟨i0,i1,i2⟩:=ZuJ hp iC
 obtain⟨h0,h1,h2⟩:=ZuK p C
 have zt:Zaa (t0 p C) (t1 p C) (t2 p C)%p≠0:=ZeF (ZbK h0 h1 h2) z
 obtain⟨l,t,el,it,tz,gd,_⟩:=ZcN hp zt
 have e1:=hw p C hp iC z
 have e2:=ht p C hp
 have e3:Γ.F 78 [.int p,Zax (t0 p C) (t1 p C) (t2 p C)]=_:=hf p true true _ _ _ hp ((ZbR hp i0).b3 (by decide)) ((ZbR hp i1).b3 (by decide)) ((ZbR hp i2).b3 (by decide)) zt l t el it
 refine⟨_,_,_,⟨gd,t,tz,(Zbd p t _).trans (CgR.sc Cg.rfl h0),(Zbd p t _).trans (CgR.sc Cg.rfl h1),(Zbd p t _).trans (CgR.sc Cg.rfl h2)⟩,?_⟩
 generalize Zax (fmR p t (t0 p C)) (fmR p t (t1 p C)) (fmR p t (t2 p C))=T at *
 simp[Zck,Df.run,Zaf,e1,e2,e3]
def Zs5(Γ:Gam):Prop:=∀ (p:Int) (C:C6) (x:R3),P4 p->InC p C->Zaa (tw0 C) (tw1 C) (tw2 C)%p≠0->In3 p x->Zap p (tri x)=some 1->∃ y,In3 p y/\Zap p (tri y)=some 1/\Pr p y (ap (bk0 (tw0 C) (tw1 C) (tw2 C)) (bk1 (tw0 C) (tw1 C) (tw2 C)) (bk2 (tw0 C) (tw1 C) (tw2 C)) x)/\Γ.F 149 [.int p,Za7 C,Zab true x]=.ok (Zab true y)
theorem ZqQ{Γ:Gam}(hq:ZmH Γ)(hb:Zia Γ)(hl:ZmJ Γ)(p:Int)(C:C6)(x:R3)(hp:P4 p)(iC:InC p C)(z:Zaa (tw0 C) (tw1 C) (tw2 C)%p≠0)(ix:In3 p x)(lx:Zap p (tri x)=some 1):∃ y,In3 p y/\Zap p (tri y)=some 1/\Pr p y (ap (bk0 (tw0 C) (tw1 C) (tw2 C)) (bk1 (tw0 C) (tw1 C) (tw2 C)) (bk2 (tw0 C) (tw1 C) (tw2 C)) x)/\Zkp.run Γ [.int p,Za7 C,Zab true x]=.ok (Zab true y):=by
 obtain⟨a,b,c,⟨gd,k,kz,h0,h1,h2⟩,e1⟩:=hq p C hp iC z
 have zB:Zaa (bk0 a b c) (bk1 a b c) (bk2 a b c)%p≠0:=by rw[ZcF];exact Zae hp gd.nz gd.nz
 obtain⟨l,t,el,it,tz,gB,_⟩:=ZcN hp zB
 have e2:=hb p a b c hp gd.ia gd.ib gd.ic gd.nz l t el it
 obtain⟨y,j,l1,pr,e3⟩:=hl p _ _ _ x gB ix lx
 obtain⟨b0,b1,b2⟩:=ZsK h0 h1 h2
 obtain⟨s0,s1,s2⟩:=ZsJ k (tw0 C) (tw1 C) (tw2 C)
 rw[s0] at b0
 rw[s1] at b1
 rw[s2] at b2
 refine⟨y,j,l1,(pr.trans hp (Pr.tab tz (Zbd p t _) (Zbd p t _) (Zbd p t _))).trans hp (Pr.tab (Zae hp kz kz) b0 b1 b2),?_⟩
 generalize Zax (fmR p t (bk0 a b c)) (fmR p t (bk1 a b c)) (fmR p t (bk2 a b c))=TB at *
 simp[Zkp,Df.run,Zaf,e1,e2,e3]
theorem ZsZ(a b c v:R3):ap a b c (ap (bk0 a b c) (bk1 a b c) (bk2 a b c) v)=Zah (Zaa a b c) v:=by
 unfold ap Zah Zag bk0 bk1 bk2 Zaq Zan Zam crs Zaa det
 refine Prod.ext ?_ (Prod.ext ?_ ?_)<;>(simp only;grind)
theorem Zgg(x:R3):flD 5 (Zab true x)=true/\eqD (Zab true x) (Zab true x)=true:=by
 refine⟨rfl,?_⟩
 show eqDs (ds [x.1,x.2.1,x.2.2]) (ds [x.1,x.2.1,x.2.2])=true
 rw[Zj9]
section
variable {Γ:Gam} {ns:List Int} {p:Int} {C:C6} {s3 s4 s5 s6 s7 s8:Sl}
end
section
variable {Γ:Gam} {ns:List Int}
end
noncomputable def Zkq:Df:=⟨3,false,(.cons (.ret (.call 17 (.cons (.var 0) (.cons (.call 23 (.cons (.var 1) (.cons (.var 2) .nil))) .nil)))) .nil)⟩
theorem ZlG{p:Int}{a b:R3}(hp:P4 p)(h:CgR p (crs a b) (0,0,0))(la:Zap p (tri a)=some 1)(lb:Zap p (tri b)=some 1):Pr p b a:=by
 obtain⟨h0,h1,h2⟩:=h
 have p1:1<p:=by have:=hp.lo;omega
 have sw:∀ {x y:Int},Cg p (x-y) 0->Cg p x y:=fun {x y} h=>by
  have:=h.add (Cg.rfl (a:=y))
  rwa [Int.sub_add_cancel,Int.zero_add] at this
 have e0:Cg p (a.2.1*b.2.2) (a.2.2*b.2.1):=sw h0
 have e1:Cg p (a.2.2*b.1) (a.1*b.2.2):=sw h1
 have e2:Cg p (a.1*b.2.1) (a.2.1*b.1):=sw h2
 have one:∀ {x:Int},x%p=1->Cg p x 1:=fun {x} h=>by show x%p=1%p;rw[h,Int.emod_eq_of_lt (by decide) p1]
 have fin:∀ k,CgR p b (Zah k a)->Pr p b a:=fun k hk=>by
  refine⟨k,fun z=>?_,hk⟩
  have:CgR p b (0,0,0):=by
   have kz:Cg p k 0:=by show k%p=0%p;rw[z,Int.zero_emod]
   refine hk.trans ((CgR.sc kz CgR.rfl).trans (CgR.of ?_))
   unfold Zah
   simp
  rw[ZhA this] at lb
  cases lb
 unfold tri Zap at la
 by_cases z0:a.1%p=0
 ·rw[if_pos z0] at la
  have c0:Cg p a.1 0:=by show a.1%p=0%p;rw[z0,Int.zero_emod]
  unfold Zap at la
  by_cases z1:a.2.1%p=0
  ·rw[if_pos z1] at la
   have c1:Cg p a.2.1 0:=by show a.2.1%p=0%p;rw[z1,Int.zero_emod]
   unfold Zap at la
   by_cases z2:a.2.2%p=0
   ·rw[if_pos z2] at la
    cases la
   ·rw[if_neg z2,Option.some.injEq] at la
    have c2:=one la
    refine fin b.2.2 ⟨?_,?_,?_⟩
    ·have:=(c2.symm.mul (Cg.rfl (a:=b.1))).trans e1
     rw[Int.one_mul] at this
     exact this.trans (Cg.of (Int.mul_comm _ _))
    ·have:=(c2.symm.mul (Cg.rfl (a:=b.2.1))).trans e0.symm
     rw[Int.one_mul] at this
     exact this.trans (Cg.of (Int.mul_comm _ _))
    ·have:=(Cg.rfl (a:=b.2.2)).mul c2
     rw[Int.mul_one] at this
     exact this.symm
  ·rw[if_neg z1,Option.some.injEq] at la
   have c1:=one la
   refine fin b.2.1 ⟨?_,?_,?_⟩
   ·have:=(c1.symm.mul (Cg.rfl (a:=b.1))).trans e2.symm
    rw[Int.one_mul] at this
    exact this.trans (Cg.of (Int.mul_comm _ _))
   ·have:=(Cg.rfl (a:=b.2.1)).mul c1
    rw[Int.mul_one] at this
    exact this.symm
   ·have:=(c1.symm.mul (Cg.rfl (a:=b.2.2))).trans e0
    rw[Int.one_mul] at this
    exact this.trans (Cg.of (Int.mul_comm _ _))
 ·rw[if_neg z0,Option.some.injEq] at la
  have c0:=one la
  refine fin b.1 ⟨?_,?_,?_⟩
  ·have:=(Cg.rfl (a:=b.1)).mul c0
   rw[Int.mul_one] at this
   exact this.symm
  ·have:=(c0.symm.mul (Cg.rfl (a:=b.2.1))).trans e2
   rw[Int.one_mul] at this
   exact this.trans (Cg.of (Int.mul_comm _ _))
  ·have:=(c0.symm.mul (Cg.rfl (a:=b.2.2))).trans e1.symm
   rw[Int.one_mul] at this
   exact this.trans (Cg.of (Int.mul_comm _ _))
def Zfq(Γ:Gam):Prop:=∀ (p:Int) (a b:R3),P4 p->In3 p a->In3 p b->Zap p (tri a)=some 1->Zap p (tri b)=some 1->a≠b->∃ y,In3 p y/\Zap p (tri y)=some 1/\Pr p y (crs a b)/\Γ.F 57 [.int p,Zab true a,Zab true b]=.ok (Zab true y)
theorem ZqW{Γ:Gam}(hc:ZkI Γ)(hf:ZeY Γ)(p:Int)(a b:R3)(hp:P4 p)(ia:In3 p a)(ib:In3 p b)(la:Zap p (tri a)=some 1)(lb:Zap p (tri b)=some 1)(ne:a≠b):∃ y,In3 p y/\Zap p (tri y)=some 1/\Pr p y (crs a b)/\Zkq.run Γ [.int p,Zab true a,Zab true b]=.ok (Zab true y):=by
 have e1:=hc a b ((ZbR hp ia).b3 (by decide)) ((ZbR hp ib).b3 (by decide)) ne
 cases el:Zap p (tri (crs a b)) with
 | none=>exact absurd (ZjC hp ib ia lb la (ZlG hp (Zhi el) la lb)).symm ne
 | some l =>
  obtain⟨u,iu,j,l1,pr,ef⟩:=Zel hp el
  have e2:=hf p true _ l u hp el iu
  rw[ef] at e2
  have e2':Γ.F 17 [.int p,Zab true (crs a b)]=.ok (Zab true (fmR p u (crs a b))):=e2
  refine⟨_,j,l1,pr,?_⟩
  generalize Zab true (fmR p u (crs a b))=Y at *
  simp[Zkq,Df.run,Zaf,e1,e2']
theorem Zcx{p k x:Int}(hp:P4 p)(kz:k%p≠0):k*x%p=0↔x%p=0:=by
 constructor
 ·intro z
  exact Classical.byContradiction fun n=>Zae hp kz n z
 ·intro z
  rw[Int.mul_emod,z,Int.mul_zero,Int.zero_emod]
theorem Zrq{p:Int}{x y x' y':R3}(hp:P4 p)(hx:Pr p x x')(hy:Pr p y y'):(Zag x y%p=0)↔(Zag x' y'%p=0):=by
 obtain⟨d,dz,e⟩:=hx
 obtain⟨d',dz',e'⟩:=hy
 have q:Cg p (Zag x y) (d*d'*Zag x' y'):=(Za4 e e').trans (Cg.of (by unfold Zag Zah;simp only;grind))
 rw[show Zag x y%p=_ from q]
 exact Zcx hp (Zae hp dz dz')
section
variable {Γ:Gam} {ns:List Int} {p:Int} {C:C6} {s3 s4 s5 s6 s7 s8:Sl}
end
def NF(p:Int)(x:R3):Prop:=In3 p x/\Zap p (tri x)=some 1
noncomputable def ptI(p n:Int):R3:=if n=0 then (0,0,1) else if n<=p then (0,1,n-1) else (1,(n-p-1) / p,(n-p-1)%p)
noncomputable def Zkz(p:Int):List R3:=(List.range (p*p+p+1).toNat).map fun (n:Nat)=>ptI p n
theorem Zwc{p n:Int}(hp:P4 p)(h0:0<=n)(h1:n<p*p+p+1):NF p (ptI p n):=by
 have p1:1<p:=by have:=hp.lo;omega
 have p0:=hp.pos
 unfold ptI
 by_cases z:n=0
 ·rw[if_pos z]
  exact⟨⟨⟨by decide,p0⟩,⟨by decide,p0⟩,⟨by decide,p1⟩⟩,Zmh p1⟩
 ·rw[if_neg z]
  by_cases z1:n<=p
  ·rw[if_pos z1]
   exact⟨⟨⟨Int.le_refl 0,p0⟩,⟨(by decide:(0:Int)<=1),p1⟩,⟨by show 0<=n-1;omega,by show n-1<p;omega⟩⟩,ZwD p1 _⟩
  ·rw[if_neg z1]
   have d0:0<=(n-p-1) / p:=Int.ediv_nonneg (by omega) (by omega)
   have d1:(n-p-1) / p<p:=by rw[Int.ediv_lt_iff_lt_mul p0];omega
   exact⟨⟨⟨(by decide:(0:Int)<=1),p1⟩,⟨d0,d1⟩,⟨Int.emod_nonneg _ (by omega),Int.emod_lt_of_pos _ p0⟩⟩,ZyE p1 _ _⟩
theorem Zwy{p:Int}{x:R3}(hp:P4 p)(h:NF p x):∃ n:Int,0<=n/\n<p*p+p+1/\x=ptI p n:=by
 obtain⟨⟨i0,i1,i2⟩,l⟩:=h
 have p1:1<p:=by have:=hp.lo;omega
 have p0:=hp.pos
 have pp:=Int.mul_pos p0 p0
 obtain⟨x0,x1,x2⟩:=x
 simp only at i0 i1 i2
 unfold tri Zap at l
 simp only at l
 rw[Int.emod_eq_of_lt i0.1 i0.2] at l
 by_cases z0:x0=0
 ·rw[if_pos z0] at l
  unfold Zap at l
  rw[Int.emod_eq_of_lt i1.1 i1.2] at l
  by_cases z1:x1=0
  ·rw[if_pos z1] at l
   unfold Zap at l
   rw[Int.emod_eq_of_lt i2.1 i2.2] at l
   by_cases z2:x2=0
   ·rw[if_pos z2] at l
    cases l
   ·rw[if_neg z2,Option.some.injEq] at l
    exact⟨0,Int.le_refl 0,by omega,by rw[z0,z1,l];rfl⟩
  ·rw[if_neg z1,Option.some.injEq] at l
   refine⟨x2+1,by omega,by omega,?_⟩
   unfold ptI
   rw[if_neg (by omega),if_pos (by omega),z0,l,Int.add_sub_cancel]
 ·rw[if_neg z0,Option.some.injEq] at l
  have m1:p*x1<=p*(p-1):=Int.mul_le_mul_of_nonneg_left (by omega) (by omega)
  have m0:0<=p*x1:=Int.mul_nonneg (by omega) i1.1
  rw[Int.mul_sub,Int.mul_one] at m1
  refine⟨p+1+p*x1+x2,by omega,by omega,?_⟩
  unfold ptI
  have e:p+1+p*x1+x2-p-1=x2+p*x1:=by omega
  rw[if_neg (by omega),if_neg (by omega),e,Int.add_mul_ediv_left _ _ (by omega),Int.ediv_eq_zero_of_lt i2.1 i2.2,Int.add_mul_emod_self_left,Int.emod_eq_of_lt i2.1 i2.2,Int.zero_add,l]
theorem Za6{p:Int}{x:R3}(hp:P4 p):x∈Zkz p↔NF p x:=by
 have p0:=hp.pos
 have pp:=Int.mul_pos p0 p0
 constructor
 ·intro h
  obtain⟨n,hn,rfl⟩:=List.mem_map.mp h
  have:=List.mem_range.mp hn
  exact Zwc hp (by omega) (by omega)
 ·intro h
  obtain⟨n,n0,n1,rfl⟩:=Zwy hp h
  refine List.mem_map.mpr ⟨n.toNat,List.mem_range.mpr (by omega),?_⟩
  rw[Int.toNat_of_nonneg n0]
theorem ZjH{p:Int}(hp:P4 p):(Zkz p).Nodup:=by
 rcases hp with rfl|rfl|rfl|rfl<;>decide +kernel
theorem Zf6{α β:Type}{f:α->β}:∀ {l:List α},l.Nodup->(∀ x∈l,∀ y∈l,f x=f y->x=y)->(l.map f).Nodup
 | [],_,_=>List.nodup_nil
 | x::l,nd,h=>by
  obtain⟨n1,n2⟩:=List.nodup_cons.mp nd
  rw[List.map_cons,List.nodup_cons]
  refine⟨fun m=>?_,Zf6 n2 fun y hy z hz=>h y (List.mem_cons_of_mem _ hy) z (List.mem_cons_of_mem _ hz)⟩
  obtain⟨y,hy,e⟩:=List.mem_map.mp m
  have:=h y (List.mem_cons_of_mem _ hy) x List.mem_cons_self e
  exact n1 (this ▸ hy)
noncomputable def nrm(p:Int)(r:R3):R3:=open Classical in if h:∃ y,NF p y/\Pr p y r then Classical.choose h else r
theorem Zen{p l:Int}{r:R3}(hp:P4 p)(el:Zap p (tri r)=some l):NF p (nrm p r)/\Pr p (nrm p r) r:=by
 have h:∃ y,NF p y/\Pr p y r:=by
  obtain⟨u,iu,j,l1,pr,_⟩:=Zel hp el
  exact⟨_,⟨j,l1⟩,pr⟩
 unfold nrm
 rw[dif_pos h]
 exact Classical.choose_spec h
theorem Zaw{p:Int}{a b c x:R3}(hp:P4 p)(z:Zaa a b c%p≠0)(hx:NF p x):NF p (nrm p (ap a b c x))/\Pr p (nrm p (ap a b c x)) (ap a b c x):=by
 obtain⟨l,el⟩:=ZeS hp z hx.2 CgR.rfl
 exact Zen hp el
theorem Zdr{p:Int}{x y:R3}(hp:P4 p)(hx:NF p x)(hy:NF p y)(h:Pr p x y):x=y:=ZjC hp hx.1 hy.1 hx.2 hy.2 h
theorem Zb8{p:Int}{a b c x:R3}(hp:P4 p)(z:Zaa a b c%p≠0)(hx:NF p x):nrm p (ap (bk0 a b c) (bk1 a b c) (bk2 a b c) (nrm p (ap a b c x)))=x:=by
 obtain⟨h1,h2⟩:=Zaw hp z hx
 have zB:Zaa (bk0 a b c) (bk1 a b c) (bk2 a b c)%p≠0:=by rw[ZcF];exact Zae hp z z
 obtain⟨h3,h4⟩:=Zaw hp zB h1
 refine Zdr hp h3 hx (h4.trans hp ((Pr.ap h2).trans hp ?_))
 rw[ZlN]
 exact⟨_,z,CgR.rfl⟩
theorem Zf9{p:Int}{a b c x:R3}(hp:P4 p)(z:Zaa a b c%p≠0)(hx:NF p x):nrm p (ap a b c (nrm p (ap (bk0 a b c) (bk1 a b c) (bk2 a b c) x)))=x:=by
 have zB:Zaa (bk0 a b c) (bk1 a b c) (bk2 a b c)%p≠0:=by rw[ZcF];exact Zae hp z z
 obtain⟨h1,h2⟩:=Zaw hp zB hx
 obtain⟨h3,h4⟩:=Zaw hp z h1
 refine Zdr hp h3 hx (h4.trans hp ((Pr.ap h2).trans hp ?_))
 rw[ZsZ]
 exact⟨_,z,CgR.rfl⟩
noncomputable def ZjF(p:Int):Int:=if p=7 then 3 else 2
noncomputable def q4(w:Nat)(k:Int)(y:R3):Int:=match w with
  | 0=>y.1*y.2.2-y.2.1*y.2.1
  | 1=>y.1*y.1
  | 2=>y.1*y.2.1
  | _=>y.1*y.1-k*(y.2.1*y.2.1)
noncomputable def E4(w:Nat)(k:Int)(a b c:R3):C6:=match w with
  | 0=>ZlZ (prd a c) (prd b b)
  | 1=>prd a a
  | 2=>prd a b
  | _=>ZlZ (prd a a) (scC k (prd b b))
def W4(w:Nat):Prop:=w=0\/w=1\/w=2\/w=3
theorem Ze7(u v x:R3):vI (prd u v) x=Zag u x*Zag v x:=by
 unfold vI prd Zag
 simp only
 grind
theorem ZlT(A B:C6)(x:R3):vI (ZlZ A B) x=vI A x-vI B x:=by
 unfold vI ZlZ
 simp only
 grind
theorem Zhm(k:Int)(A:C6)(x:R3):vI (scC k A) x=k*vI A x:=by
 unfold vI scC
 simp only
 grind
theorem Zzh{w:Nat}(hw:W4 w)(k:Int)(a b c x:R3):vI (E4 w k a b c) x=q4 w k (ap a b c x):=by
 rcases hw with rfl|rfl|rfl|rfl
 ·show vI (ZlZ _ _) x=Zag a x*Zag c x-Zag b x*Zag b x
  rw[ZlT,Ze7,Ze7]
 ·show vI (prd _ _) x=Zag a x*Zag a x
  rw[Ze7]
 ·show vI (prd _ _) x=Zag a x*Zag b x
  rw[Ze7]
 ·show vI (ZlZ _ _) x=Zag a x*Zag a x-k*(Zag b x*Zag b x)
  rw[ZlT,Zhm,Ze7,Ze7]
theorem Zv8{w:Nat}(hw:W4 w)(k d:Int)(y:R3):q4 w k (Zah d y)=d*d*q4 w k y:=by
 rcases hw with rfl|rfl|rfl|rfl<;>(unfold q4 Zah;simp only;grind)
theorem Zwa{w:Nat}(hw:W4 w){p k:Int}{y y':R3}(h:CgR p y y'):Cg p (q4 w k y) (q4 w k y'):=by
 rcases hw with rfl|rfl|rfl|rfl
 ·exact(h.1.mul h.2.2).sub (h.2.1.mul h.2.1)
 ·exact h.1.mul h.1
 ·exact h.1.mul h.2.1
 ·exact(h.1.mul h.1).sub (Cg.rfl.mul (h.2.1.mul h.2.1))
theorem Zv9{w:Nat}(hw:W4 w){p k:Int}{y y':R3}(hp:P4 p)(h:Pr p y y'):(q4 w k y%p=0)↔(q4 w k y'%p=0):=by
 obtain⟨d,dz,e⟩:=h
 have q:=(Zwa (k:=k) hw e).trans (Cg.of (Zv8 hw k d y'))
 rw[show q4 w k y%p=_ from q]
 exact Zcx hp (Zae hp dz dz)
theorem ZpY{w:Nat}(hw:W4 w){p k:Int}{a b c x:R3}{C:C6}(hp:P4 p)(z:Zaa a b c%p≠0)(h:PrC p C (E4 w k a b c))(hx:NF p x):(vI C x%p=0)↔(q4 w k (nrm p (ap a b c x))%p=0):=by
 rw[Zv9 hw hp (Zaw hp z hx).2,<- Zzh hw]
 obtain⟨d,dz,e⟩:=h
 have q:=(ZgG e CgR.rfl (x:=x)).trans (Cg.of (Zhm d _ x))
 rw[show vI C x%p=_ from q]
 exact Zcx hp dz
noncomputable def ZfR(p:Int)(C:C6):List R3:=(Zkz p).filter fun x=>decide (vI C x%p=0)
noncomputable def no3(p:Int)(l:List R3):Bool:=l.all fun x=>l.all fun y=>l.all fun u=>decide (x=y)||decide (x=u)||decide (y=u)||decide (Zaa x y u%p≠0)
theorem Zsk{p:Int}(hp:P4 p):no3 p ((Zkz p).filter fun y=>decide (q4 0 (ZjF p) y%p=0))=true:=by
 rcases hp with rfl|rfl|rfl|rfl<;>decide +kernel
theorem ZnR{p:Int}{a b c:R3}{C:C6}(hp:P4 p)(z:Zaa a b c%p≠0)(h:PrC p C (E4 0 (ZjF p) a b c)){x y u:R3}(hx:x∈ZfR p C)(hy:y∈ZfR p C)(hu:u∈ZfR p C)(n1:x≠y)(n2:x≠u)(n3:y≠u):Zaa x y u%p≠0:=by
 have hw:W4 0:=.inl rfl
 have led:∀ {x:R3},x∈ZfR p C->NF p x/\nrm p (ap a b c x)∈((Zkz p).filter fun y=>decide (q4 0 (ZjF p) y%p=0))/\Pr p (nrm p (ap a b c x)) (ap a b c x):=fun {x} hx=>by
  obtain⟨h1,h2⟩:=List.mem_filter.mp hx
  have nx:=(Za6 hp).mp h1
  obtain⟨s1,s2⟩:=Zaw hp z nx
  refine⟨nx,List.mem_filter.mpr ⟨(Za6 hp).mpr s1,?_⟩,s2⟩
  rw[decide_eq_true_eq] at h2 ⊢
  exact(ZpY hw hp z h nx).mp h2
 obtain⟨nx,mx,px⟩:=led hx
 obtain⟨ny,my,py⟩:=led hy
 obtain⟨nu,mu,pu⟩:=led hu
 have inj:∀ {x y:R3},NF p x->NF p y->x≠y->nrm p (ap a b c x)≠nrm p (ap a b c y):=fun {x y} hx hy ne e=>ne (by rw[<- Zb8 hp z hx,<- Zb8 hp z hy,e])
 have all:=Zsk hp
 unfold no3 at all
 rw[List.all_eq_true] at all
 have a1:=all _ mx
 rw[List.all_eq_true] at a1
 have a2:=a1 _ my
 rw[List.all_eq_true] at a2
 have a3:=a2 _ mu
 simp only[Bool.or_eq_true,decide_eq_true_eq] at a3
 rcases a3 with ((e|e)|e)|e
 ·exact absurd e (inj nx ny n1)
 ·exact absurd e (inj nx nu n2)
 ·exact absurd e (inj ny nu n3)
 ·intro z0
  obtain⟨d1,_,g1⟩:=px
  obtain⟨d2,_,g2⟩:=py
  obtain⟨d3,_,g3⟩:=pu
  have q:=ZdK g1 g2 g3
  refine e ?_
  rw[show Zaa _ _ _%p=_ from q,Int.mul_emod,Int.mul_emod (Zaa a b c),z0,Int.mul_zero,Int.zero_emod,Int.mul_zero,Int.zero_emod]
noncomputable def Zac(pts:List R3):D:=.lst (pts.map (Zab true))
theorem ZoO(a b c:R3):Zag (crs a b) c=Zaa a b c:=by
 unfold Zag crs Zaa det
 grind
section
variable {Γ:Gam} {p i j k d N:Int} {PP x y u:D} {RL:List D} {s t s' t' v:Sl}
end
section
variable {Γ:Gam} {p:Int} {pts:List R3}
end
theorem ZgV{α:Type}[DecidableEq α]{l:List α}{q:α->Bool}{y:α}(nd:l.Nodup)(hy:y∈l)(h:∀ x∈l,q x=true↔x=y):l.filter q=[y]:=by
 have hm:∀ x,x∈l.filter q↔x∈[y]:=fun x=>by
  rw[List.mem_filter,List.mem_singleton]
  constructor
  ·rintro⟨h1,h2⟩
   exact(h x h1).mp h2
  ·rintro rfl
   exact⟨hy,(h x hy).mpr rfl⟩
 exact List.perm_singleton.mp (Zje (nd.filter _) (by simp) hm)
theorem Zsj(k l:Int)(a b:R3):crs (Zah k a) (Zah l b)=Zah (k*l) (crs a b):=by
 unfold crs Zah
 simp only
 refine Prod.ext ?_ (Prod.ext ?_ ?_)<;>(simp only;grind)
theorem Pr.crs{p:Int}{a b a' b':R3}(hp:P4 p)(h:Pr p a a')(g:Pr p b b'):Pr p (OvC.crs a b) (OvC.crs a' b'):=by
 obtain⟨d,dz,e⟩:=h
 obtain⟨d',dz',e'⟩:=g
 exact⟨d*d',Zae hp dz dz',(ZhZ e e').trans (CgR.of (Zsj ..))⟩
theorem Zgk(a b:R3):Zag a b=Zag b a:=by
 unfold Zag
 grind
noncomputable def ptL(p:Int)(l:R3):List R3:=(Zkz p).filter fun x=>decide (Zag x l%p=0)
theorem ZjT{Γ:Gam}(h:Zfq Γ){p:Int}{a b:R3}(hp:P4 p)(ha:NF p a)(hb:NF p b)(ne:a≠b):∃ y,NF p y/\Pr p y (crs a b)/\Γ.F 57 [.int p,Zab true a,Zab true b]=.ok (Zab true y):=by
 obtain⟨y,h1,h2,h3,e⟩:=h p a b hp ha.1 hb.1 ha.2 hb.2 ne
 exact⟨y,⟨h1,h2⟩,h3,e⟩
theorem ZgM{p:Int}{a b x l:R3}(hp:P4 p)(pl:Pr p l (crs a b)):Zag x l%p=0↔Zaa a b x%p=0:=by
 rw[Zgk,Zrq hp pl (Pr.rfl hp (x:=x)),ZoO]
theorem Zke(a b:R3):Zaa a b a=0/\Zaa a b b=0:=by
 unfold Zaa det
 constructor<;>grind
noncomputable def pol(p:Int)(C:C6)(x:R3):R3:=nrm p (ap (tw0 C) (tw1 C) (tw2 C) x)
noncomputable abbrev Whl(p:Int)(C:C6):Prop:=Zaa (tw0 C) (tw1 C) (tw2 C)%p≠0
theorem Zlk{p:Int}{C:C6}{x:R3}(hp:P4 p)(z:Whl p C)(hx:NF p x):NF p (pol p C x)/\Pr p (pol p C x) (ap (tw0 C) (tw1 C) (tw2 C) x):=Zaw hp z hx
theorem Zdp{p:Int}{C:C6}{x y:R3}(hp:P4 p)(z:Whl p C)(hx:NF p x):Zag y (pol p C x)%p=0↔bI C x y%p=0:=by
 rw[Zgk,Zrq hp (Zlk hp z hx).2 (Pr.rfl hp (x:=y))]
 exact Iff.rfl
noncomputable def b4(u v:R3):Int:=u.1*v.2.2+u.2.2*v.1-2*(u.2.1*v.2.1)
theorem ZxS(k:Int)(a b c x y:R3):bI (E4 0 k a b c) x y=b4 (ap a b c x) (ap a b c y):=by
 unfold bI E4 b4 ap Zag tw0 tw1 tw2 ZlZ prd
 simp only
 grind
theorem ZsL(d:Int)(C:C6)(x y:R3):bI (scC d C) x y=d*bI C x y:=by
 unfold bI ap Zag tw0 tw1 tw2 scC
 simp only
 grind
theorem ZsN{p:Int}{C E:C6}(hp:P4 p)(h:PrC p C E)(x y:R3):bI C x y%p=0↔bI E x y%p=0:=by
 obtain⟨d,dz,e⟩:=h
 obtain⟨x0,x1,x2⟩:=ZiV e
 have q:Cg p (bI C x y) (bI (scC d E) x y):=Za4 ⟨Za4 x0 CgR.rfl,Za4 x1 CgR.rfl,Za4 x2 CgR.rfl⟩ CgR.rfl
 rw[show bI C x y%p=_ from q,ZsL]
 exact Zcx hp dz
theorem ZxT{p:Int}{u v u' v':R3}(hp:P4 p)(h:Pr p u u')(g:Pr p v v'):b4 u v%p=0↔b4 u' v'%p=0:=by
 obtain⟨d,dz,e⟩:=h
 obtain⟨d',dz',e'⟩:=g
 have q:Cg p (b4 u v) (b4 (Zah d u') (Zah d' v')):=((e.1.mul e'.2.2).add (e.2.2.mul e'.1)).sub (Cg.rfl.mul (e.2.1.mul e'.2.1))
 have q2:b4 (Zah d u') (Zah d' v')=d*d'*b4 u' v':=by
  unfold b4 Zah
  simp only
  grind
 rw[show b4 u v%p=_ from q,q2]
 exact Zcx hp (Zae hp dz dz')
theorem Zsl{p:Int}(hp:P4 p):(((Zkz p).filter fun y=>decide (q4 0 (ZjF p) y%p=0)).all fun u=>((Zkz p).filter fun y=>decide (q4 0 (ZjF p) y%p=0)).all fun v=>decide (b4 u v%p=0) == decide (u=v))=true:=by
 rcases hp with rfl|rfl|rfl|rfl<;>decide +kernel
theorem Zp5{p:Int}{a b c:R3}{C:C6}(hp:P4 p)(z:Zaa a b c%p≠0)(h:PrC p C (E4 0 (ZjF p) a b c)){x y:R3}(hx:x∈ZfR p C)(hy:y∈ZfR p C):bI C x y%p=0↔x=y:=by
 have hw:W4 0:=.inl rfl
 have led:∀ {x:R3},x∈ZfR p C->NF p x/\nrm p (ap a b c x)∈((Zkz p).filter fun y=>decide (q4 0 (ZjF p) y%p=0))/\Pr p (nrm p (ap a b c x)) (ap a b c x):=fun {x} hx=>by
  obtain⟨h1,h2⟩:=List.mem_filter.mp hx
  have nx:=(Za6 hp).mp h1
  obtain⟨s1,s2⟩:=Zaw hp z nx
  refine⟨nx,List.mem_filter.mpr ⟨(Za6 hp).mpr s1,?_⟩,s2⟩
  rw[decide_eq_true_eq] at h2 ⊢
  exact(ZpY hw hp z h nx).mp h2
 obtain⟨nx,mx,px⟩:=led hx
 obtain⟨ny,my,py⟩:=led hy
 have all:=Zsl hp
 rw[List.all_eq_true] at all
 have a1:=all _ mx
 rw[List.all_eq_true] at a1
 have a2:=a1 _ my
 rw[beq_iff_eq,decide_eq_decide] at a2
 rw[ZsN hp h,ZxS,<- ZxT hp px py,a2]
 constructor
 ·intro e
  rw[<- Zb8 hp z nx,<- Zb8 hp z ny,e]
 ·intro e
  rw[e]
noncomputable def Zoq(p:Int)(C:C6)(l:R3):List R3:=(ptL p l).filter fun x=>decide (vI C x%p=0)
section
variable {p:Int} {a b c:R3} {C:C6}
theorem ZgQ(hp:P4 p)(z:Zaa a b c%p≠0)(w:Whl p C)(h:PrC p C (E4 0 (ZjF p) a b c)){x:R3}(hx:x∈ZfR p C):Zoq p C (pol p C x)=[x]:=by
 obtain⟨h1,h2⟩:=List.mem_filter.mp hx
 have nx:=(Za6 hp).mp h1
 have xl:x∈ptL p (pol p C x):=List.mem_filter.mpr ⟨h1,decide_eq_true ((Zdp hp w nx).mpr ((Zp5 hp z h hx hx).mpr rfl))⟩
 refine ZgV ((ZjH hp).filter _) xl fun y hy=>?_
 obtain⟨g1,g2⟩:=List.mem_filter.mp hy
 rw[decide_eq_true_eq] at g2
 constructor
 ·intro v
  exact((Zp5 hp z h hx (List.mem_filter.mpr ⟨g1,v⟩)).mp ((Zdp hp w nx).mp g2)).symm
 ·intro e
  rw[e]
  exact h2
end
noncomputable def sides:D:=.tup [.str (Str.ofString "inner"),.str (Str.ofString "on"),.str (Str.ofString "outer")]
theorem ZiS(C:C6)(a b c x:R3):vI (pb C a b c) x=vI C (ap a b c x):=by
 have e:ap a b c x=(x.1*(Zaq a b c).1+x.2.1*(Zan a b c).1+x.2.2*(Zam a b c).1,x.1*(Zaq a b c).2.1+x.2.1*(Zan a b c).2.1+x.2.2*(Zam a b c).2.1,x.1*(Zaq a b c).2.2+x.2.1*(Zan a b c).2.2+x.2.2*(Zam a b c).2.2):=by
  unfold ap Zag Zaq Zan Zam
  simp only
  refine Prod.ext ?_ (Prod.ext ?_ ?_)<;>(simp only;grind)
 rw[e,ZiP]
 have e2:∀ (u0 u1 u2 u3 u4 u5:Int),vI ⟨u0,u1,u2,u3,u4,u5⟩ x=x.1*x.1*u0+x.2.1*x.2.1*u1+x.2.2*x.2.2*u2+(x.1*x.2.1*u3+x.1*x.2.2*u4+x.2.1*x.2.2*u5):=fun u0 u1 u2 u3 u4 u5=>by
  unfold vI
  simp only
  grind
 exact e2 ..
theorem ZiQ(C:C6)(k:Int)(x:R3):vI C (Zah k x)=k*k*vI C x:=by
 unfold vI Zah
 simp only
 grind
theorem Zrx{p:Int}{C E:C6}{a b c:R3}(hp:P4 p)(z:Zaa a b c%p≠0)(h:PrC p E (pb C (bk0 a b c) (bk1 a b c) (bk2 a b c))):∃ k,k%p≠0/\∀ x,Cg p (vI E (ap a b c x)) (k*vI C x):=by
 obtain⟨d,dz,e⟩:=h
 refine⟨d*(Zaa a b c*Zaa a b c),Zae hp dz (Zae hp z z),fun x=>?_⟩
 refine(ZgG e CgR.rfl).trans (Cg.of ?_)
 rw[Zhm,ZiS,ZlN,ZiQ]
 simp only[Int.mul_assoc]
theorem ZiR{p:Int}{C:C6}{x y:R3}(hp:P4 p)(h:Pr p x y):vI C x%p=0↔vI C y%p=0:=by
 obtain⟨d,dz,e⟩:=h
 have q:=(ZgG (D:=C) ⟨Cg.rfl,Cg.rfl,Cg.rfl,Cg.rfl,Cg.rfl,Cg.rfl⟩ e).trans (Cg.of (ZiQ C d y))
 rw[show vI C x%p=_ from q]
 exact Zcx hp (Zae hp dz dz)
theorem Zme{p:Int}{C E:C6}{a b c x:R3}(hp:P4 p)(z:Zaa a b c%p≠0)(h:PrC p E (pb C (bk0 a b c) (bk1 a b c) (bk2 a b c)))(hx:NF p x):vI E (nrm p (ap a b c x))%p=0↔vI C x%p=0:=by
 obtain⟨k,kz,e⟩:=Zrx hp z h
 rw[ZiR hp (Zaw hp z hx).2,show vI E (ap a b c x)%p=_ from e x]
 exact Zcx hp kz
section
variable {p:Int} {a b c:R3} {C:C6}
theorem ZfC{l x:R3}(hp:P4 p):x∈Zoq p C l↔x∈ZfR p C/\Zag x l%p=0:=by
 unfold Zoq ptL ZfR
 rw[List.mem_filter,List.mem_filter,List.mem_filter,decide_eq_true_eq,decide_eq_true_eq]
 exact⟨fun h=>⟨⟨h.1.1,h.2⟩,h.1.2⟩,fun h=>⟨⟨h.1.1,h.2⟩,h.1.2⟩⟩
end
theorem ZhN(l:List R3):biD .len [Zac l]=.ok (.int (l.length:Int)):=by
 show R.ok (D.int ((l.map (Zab true)).length:Nat))=_
 rw[List.length_map]
noncomputable def pole(p:Int)(C:C6)(l:R3):R3:=nrm p (ap (bk0 (tw0 C) (tw1 C) (tw2 C)) (bk1 (tw0 C) (tw1 C) (tw2 C)) (bk2 (tw0 C) (tw1 C) (tw2 C)) l)
def Zhd(Γ:Gam):Prop:=∀ (p:Int) (C:C6) (x:R3),P4 p->InC p C->Whl p C->NF p x->Γ.F 149 [.int p,Za7 C,Zab true x]=.ok (Zab true (pole p C x))
theorem ZnW{p:Int}{C:C6}{x:R3}(hp:P4 p)(z:Whl p C)(hx:NF p x):NF p (pole p C x)/\pol p C (pole p C x)=x:=by
 have zB:Zaa (bk0 (tw0 C) (tw1 C) (tw2 C)) (bk1 (tw0 C) (tw1 C) (tw2 C)) (bk2 (tw0 C) (tw1 C) (tw2 C))%p≠0:=by rw[ZcF];exact Zae hp z z
 exact⟨(Zaw hp zB hx).1,Zf9 hp z hx⟩
theorem Zwe{Γ:Gam}(h:Zs5 Γ):Zhd Γ:=fun p C x hp iC z nx=>by
 obtain⟨y,i,l,pr,e⟩:=h p C x hp iC z nx.1 nx.2
 have zB:Zaa (bk0 (tw0 C) (tw1 C) (tw2 C)) (bk1 (tw0 C) (tw1 C) (tw2 C)) (bk2 (tw0 C) (tw1 C) (tw2 C))%p≠0:=by rw[ZcF];exact Zae hp z z
 obtain⟨h1,h2⟩:=Zaw hp zB nx
 have q:y=pole p C x:=Zdr hp ⟨i,l⟩ h1 (pr.trans hp (h2.symm hp))
 rw[<- q]
 exact e
structure FOn (p:Int) (C:C6) (A B P U:R3):Prop where
 vA:vI C A%p=0
 vB:vI C B%p=0
 vU:vI C U%p=0
 bA:bI C A P%p=0
 bB:bI C B P%p=0
theorem Zmz(A B P x:R3):Zah (Zaa A B P) x=(Zaa x B P*A.1+Zaa A x P*B.1+Zaa A B x*P.1,Zaa x B P*A.2.1+Zaa A x P*B.2.1+Zaa A B x*P.2.1,Zaa x B P*A.2.2+Zaa A x P*B.2.2+Zaa A B x*P.2.2):=by
 unfold Zah Zaa det
 refine Prod.ext ?_ (Prod.ext ?_ ?_)<;>(simp only;grind)
section
variable {p:Int} {C R:C6} {A B P U x:R3}
theorem cg0{k x:Int}(h:x%p=0):Cg p (k*x) 0:=by
 show k*x%p=0%p
 rw[Int.mul_emod,h,Int.mul_zero]
theorem ZiO(h:FOn p C A B P U)(x:R3):Cg p (Zaa A B P*Zaa A B P*vI C x) (Zaa A B x*Zaa A B x*vI C P+Zaa x B P*Zaa A x P*bI C A B):=by
 have e:=ZiP C A B P (Zaa x B P) (Zaa A x P) (Zaa A B x)
 rw[<- Zmz,ZiQ] at e
 rw[e]
 generalize Zaa x B P=α
 generalize Zaa A x P=β
 generalize Zaa A B x=γ
 have k1:Cg p (α*α*vI C A) 0:=cg0 h.vA
 have k2:Cg p (β*β*vI C B) 0:=cg0 h.vB
 have k3:Cg p (α*γ*bI C A P) 0:=cg0 h.bA
 have k4:Cg p (β*γ*bI C B P) 0:=cg0 h.bB
 refine(((k1.add k2).add Cg.rfl).add ((Cg.rfl.add k3).add k4)).trans (Cg.of ?_)
 grind
theorem ZmW(h:FOn p C A B P U)(x:R3):Cg p (Zaa A B U*Zaa A B U*(Zaa A B P*Zaa A B P*vI C x)) (bI C A B*(Zaa A B U*Zaa A B U*(Zaa x B P*Zaa A x P)-Zaa A B x*Zaa A B x*(Zaa U B P*Zaa A U P))):=by
 have e1:=ZiO h x
 have e2:=ZiO h U
 have e0:Cg p (Zaa A B P*Zaa A B P*vI C U) 0:=cg0 h.vU
 have e3:Cg p (Zaa A B U*Zaa A B U*vI C P+Zaa U B P*Zaa A U P*bI C A B) 0:=e2.symm.trans e0
 generalize Zaa A B P=D at *
 generalize Zaa x B P=α at *
 generalize Zaa A x P=β at *
 generalize Zaa A B x=γ at *
 generalize Zaa U B P=α0 at *
 generalize Zaa A U P=β0 at *
 generalize Zaa A B U=γ0 at *
 generalize bI C A B=b at *
 generalize vI C P=v at *
 generalize vI C x=vx at *
 have e4:Cg p (γ0*γ0*(D*D*vx)) (γ0*γ0*(γ*γ*v+α*β*b)):=Cg.rfl.mul e1
 have e5:Cg p (γ*γ*(γ0*γ0*v+α0*β0*b)) (γ*γ*0):=Cg.rfl.mul e3
 refine e4.trans ?_
 have e6:γ0*γ0*(γ*γ*v+α*β*b)=γ*γ*(γ0*γ0*v+α0*β0*b)+b*(γ0*γ0*(α*β)-γ*γ*(α0*β0)):=by grind
 rw[e6]
 refine(e5.add Cg.rfl).trans (Cg.of ?_)
 grind
theorem ZmC{k x y:Int}(hp:P4 p)(kz:k%p≠0)(h:Cg p (k*x) (k*y)):Cg p x y:=by
 have e:k*(x-y)%p=0:=by
  have q:=h.sub (Cg.rfl (p:=p) (a:=k*y))
  have q2:(k*x-k*y)%p=(k*y-k*y)%p:=q
  rw[Int.sub_self,Int.zero_emod,<- Int.mul_sub] at q2
  exact q2
 have z:=(Zcx hp kz).mp e
 have q3:=Cg.add (p:=p) (a:=x-y) (b:=0) (c:=y) (d:=y) (by show (x-y)%p=0%p;rw[z,Int.zero_emod]) Cg.rfl
 have q4:Cg p (x-y+y) (0+y):=q3
 rw[Int.sub_add_cancel,Int.zero_add] at q4
 exact q4
theorem ZpX(hp:P4 p)(d1:Zaa A B P%p≠0)(d2:Zaa A B U%p≠0)(hC:FOn p C A B P U)(hR:FOn p R A B P U)(x:R3):Cg p (bI C A B*vI R x) (bI R A B*vI C x):=by
 have e1:=ZmW hC x
 have e2:=ZmW hR x
 generalize (Zaa A B U*Zaa A B U*(Zaa x B P*Zaa A x P)-Zaa A B x*Zaa A B x*(Zaa U B P*Zaa A U P))=F at *
 refine ZmC hp (k:=Zaa A B U*Zaa A B U*(Zaa A B P*Zaa A B P)) (Zae hp (Zae hp d2 d2) (Zae hp d1 d1)) ?_
 generalize Zaa A B U=γ at *
 generalize Zaa A B P=D at *
 generalize bI C A B=b at *
 generalize bI R A B=r at *
 have f1:Cg p (b*(γ*γ*(D*D*vI R x))) (b*(r*F)):=Cg.rfl.mul e2
 have f2:Cg p (r*(γ*γ*(D*D*vI C x))) (r*(b*F)):=Cg.rfl.mul e1
 refine(Cg.of (by grind)).trans (f1.trans ((Cg.of (by grind:b*(r*F)=r*(b*F))).trans (f2.symm.trans (Cg.of (by grind)))))
theorem ZmD{k l:Int}(h:∀ x,Cg p (k*vI R x) (l*vI C x)):CgC p (scC k R) (scC l C):=by
 have a0:=h (1,0,0)
 have a1:=h (0,1,0)
 have a2:=h (0,0,1)
 have b0:=h (1,1,0)
 have b1:=h (1,0,1)
 have b2:=h (0,1,1)
 have v0:∀ E:C6,vI E (1,0,0)=E.c0:=fun E=>by unfold vI;simp
 have v1:∀ E:C6,vI E (0,1,0)=E.c1:=fun E=>by unfold vI;simp
 have v2:∀ E:C6,vI E (0,0,1)=E.c2:=fun E=>by unfold vI;simp
 have w0:∀ E:C6,vI E (1,1,0)=E.c0+E.c1+E.c3:=fun E=>by unfold vI;simp
 have w1:∀ E:C6,vI E (1,0,1)=E.c0+E.c2+E.c4:=fun E=>by unfold vI;simp
 have w2:∀ E:C6,vI E (0,1,1)=E.c1+E.c2+E.c5:=fun E=>by unfold vI;simp
 rw[v0,v0] at a0
 rw[v1,v1] at a1
 rw[v2,v2] at a2
 rw[w0,w0] at b0
 rw[w1,w1] at b1
 rw[w2,w2] at b2
 refine⟨a0,a1,a2,?_,?_,?_⟩
 ·have:=(b0.sub a0).sub a1
  refine(Cg.of ?_).trans (this.trans (Cg.of ?_))<;>(unfold scC;simp only;grind)
 ·have:=(b1.sub a0).sub a2
  refine(Cg.of ?_).trans (this.trans (Cg.of ?_))<;>(unfold scC;simp only;grind)
 ·have:=(b2.sub a1).sub a2
  refine(Cg.of ?_).trans (this.trans (Cg.of ?_))<;>(unfold scC;simp only;grind)
theorem Zy7(hp:P4 p)(w:Whl p C)(d1:Zaa A B P%p≠0)(d2:Zaa A B U%p≠0)(hC:FOn p C A B P U):bI C A B%p≠0:=fun z=>by
 refine w ?_
 have v0:∀ x,Cg p (1*vI C x) (0*vI C x):=fun x=>by
  rw[Int.one_mul,Int.zero_mul]
  refine ZmC hp (k:=Zaa A B U*Zaa A B U*(Zaa A B P*Zaa A B P)) (Zae hp (Zae hp d2 d2) (Zae hp d1 d1)) ?_
  have e1:=ZmW hC x
  refine(Cg.of (by grind)).trans (e1.trans ?_)
  rw[Int.mul_zero]
  show _%p=0%p
  rw[Int.mul_emod,z,Int.zero_mul]
 have c:=ZmD v0
 rw[Zcf] at c
 obtain⟨t0,t1,t2⟩:=ZiV c
 have e:=ZbK t0 t1 t2
 rw[ZgZ] at e
 show Zaa (tw0 C) (tw1 C) (tw2 C)%p=0
 rw[show Zaa (tw0 C) (tw1 C) (tw2 C)%p=_ from e]
 simp
theorem Zlj(hp:P4 p)(wC:Whl p C)(wR:Whl p R)(d1:Zaa A B P%p≠0)(d2:Zaa A B U%p≠0)(hC:FOn p C A B P U)(hR:FOn p R A B P U):PrC p R C:=by
 have b1:=Zy7 hp wC d1 d2 hC
 have b2:=Zy7 hp wR d1 d2 hR
 obtain⟨u,uz,ue⟩:=Zgd hp b1
 refine⟨u*bI R A B,Zae hp uz b2,?_⟩
 have c:=ZmD (ZpX hp d1 d2 hC hR)
 have e1:CgC p (scC u (scC (bI C A B) R)) (scC u (scC (bI R A B) C)):=CgC.sc Cg.rfl c
 rw[Zd4,Zd4] at e1
 have e2:CgC p (scC (u*bI C A B) R) (scC 1 R):=CgC.sc ue CgC.rfl
 rw[Zcf] at e2
 exact e2.symm.trans e1
end
section
variable {p:Int} {C E:C6} {a b c A B P U A' B' P' U' x y:R3}
theorem ZsP(C:C6)(a b c x y:R3):bI (pb C a b c) x y=bI C (ap a b c x) (ap a b c y):=by
 have e:∀ u:R3,ap a b c u=(u.1*(Zaq a b c).1+u.2.1*(Zan a b c).1+u.2.2*(Zam a b c).1,u.1*(Zaq a b c).2.1+u.2.1*(Zan a b c).2.1+u.2.2*(Zam a b c).2.1,u.1*(Zaq a b c).2.2+u.2.1*(Zan a b c).2.2+u.2.2*(Zam a b c).2.2):=fun u=>by
  unfold ap Zag Zaq Zan Zam
  simp only
  refine Prod.ext ?_ (Prod.ext ?_ ?_)<;>(simp only;grind)
 rw[e x,e y,Zy8]
 rfl
theorem ZsM(C:C6)(k l:Int)(x y:R3):bI C (Zah k x) (Zah l y)=k*l*bI C x y:=by
 unfold bI ap Zag Zah
 simp only
 grind
theorem ZsO{x' y':R3}(hp:P4 p)(h:Pr p x x')(g:Pr p y y'):bI C x y%p=0↔bI C x' y'%p=0:=by
 obtain⟨d,dz,e⟩:=h
 obtain⟨d',dz',e'⟩:=g
 have q:=(ZlL (CgC.rfl (C:=C)) e e').trans (Cg.of (ZsM C d d' x' y'))
 rw[show bI C x y%p=_ from q]
 exact Zcx hp (Zae hp dz dz')
theorem Zr4(hp:P4 p)(h:FOn p E A' B' P' U')(hA:Pr p A' (ap a b c A))(hB:Pr p B' (ap a b c B))(hP:Pr p P' (ap a b c P))(hU:Pr p U' (ap a b c U)):FOn p (pb E a b c) A B P U :=
 ⟨by rw[ZiS];exact(ZiR hp hA).mp h.vA,by rw[ZiS];exact(ZiR hp hB).mp h.vB,by rw[ZiS];exact(ZiR hp hU).mp h.vU,by rw[ZsP];exact(ZsO hp hA hP).mp h.bA,by rw[ZsP];exact(ZsO hp hB hP).mp h.bB⟩
theorem ZlS(hp:P4 p)(z:Zaa a b c%p≠0)(w:Whl p E):Whl p (pb E a b c):=by
 show Zaa _ _ _%p≠0
 rw[Zsg]
 exact Zae hp (Zae hp z z) w
theorem ZjP(hp:P4 p)(z:Zaa a b c%p≠0)(wC:Whl p C)(wE:Whl p E)(d1:Zaa A B P%p≠0)(d2:Zaa A B U%p≠0)(hC:FOn p C A B P U)(hE:FOn p E A' B' P' U')(hA:Pr p A' (ap a b c A))(hB:Pr p B' (ap a b c B))(hP:Pr p P' (ap a b c P))(hU:Pr p U' (ap a b c U)):PrC p (pb E a b c) C :=
 Zlj hp wC (ZlS hp z wE) d1 d2 hC (Zr4 hp hE hA hB hP hU)
theorem ZrE(hp:P4 p)(h:PrC p (pb E a b c) C)(x:R3):vI E (ap a b c x)%p=0↔vI C x%p=0:=by
 rw[<- ZiS]
 obtain⟨d,dz,e⟩:=h
 have q:=(ZgG e (CgR.rfl (a:=x))).trans (Cg.of (Zhm d C x))
 rw[show vI (pb E a b c) x%p=_ from q]
 exact Zcx hp dz
theorem ZjO(hp:P4 p)(z:Zaa a b c%p≠0)(h:PrC p (pb E a b c) C):PrC p (pb C (bk0 a b c) (bk1 a b c) (bk2 a b c)) E:=by
 obtain⟨d,dz,e⟩:=h
 obtain⟨u,uz,ue⟩:=Zgd hp dz
 -- C is u times the pulled-back E
 have e1:CgC p (scC u (pb E a b c)) C:=by
  refine(CgC.sc Cg.rfl e).trans ?_
  rw[Zd4]
  have:=CgC.sc ue (CgC.rfl (C:=C))
  rw[Zcf] at this
  exact this
 have e2:=Zio e1 (CgR.rfl (a:=bk0 a b c)) (CgR.rfl (a:=bk1 a b c)) (CgR.rfl (a:=bk2 a b c))
 rw[Zn2,Zrj] at e2
 obtain⟨r0,r1,r2⟩:=Zl8 a b c
 rw[r0,r1,r2,Zrk,Zd4] at e2
 exact⟨_,Zae hp uz (Zae hp z z),e2.symm⟩
end
noncomputable def Zbp:Df:=⟨3,false,(.cons (.asg 2 false (.int 0)) (.cons (.ife (.cmp .Gt (.bi .len (.cons (.var 0) .nil)) (.int 0)) (.cons (.asg 2 false (.idx (.var 0) (.bin .Mod (.var 1) (.bi .len (.cons (.var 0) .nil))))) .nil) .nil) (.cons (.ret (.bin .Mod (.bin .Mult (.bin .Add (.bin .Add (.bin .Mod (.var 2) (.int 1000003)) (.bin .Mult (.int 7919) (.var 1))) (.int 11)) (.int 48271)) (.int 1000033))) .nil)))⟩
theorem ZqU(Γ:Gam)(ns:List Int)(k:Int)(h0:0<=k):∃ m,0<=m/\Zbp.run Γ [scr ns,.int k]=.ok (.int m):=by
 have m1:Zba 7919 k=true:=Zbs (by decide) (by decide)
 have m2:∀ x,Zba x 48271=true:=fun x=>ZgO (by decide) (by decide)
 have ln:biD .len [scr ns]=.ok (.int ns.length):=by simp[scr]
 by_cases h1:0<(ns.length:Int)
 ·have q0:=Int.emod_nonneg k (b:=(ns.length:Int)) (by omega)
  have q1:=Int.emod_lt_of_pos k h1
  have g:Zbc (scr ns) (.int (k%(ns.length:Int)))=.ok (.int (ns.getD (k%(ns.length:Int)).toNat 0)):=ZoF (ns:=ns) q0 q1
  generalize ns.getD (k%(ns.length:Int)).toNat 0=x at g
  refine⟨(x%1000003+7919*k+11)*48271%1000033,Int.emod_nonneg _ (by decide),?_⟩
  generalize scr ns=S at *
  generalize (ns.length:Int)=N at *
  simp[Zbp,Df.run,Zaf,ln,h1,g,m1,m2]
 ·refine⟨(0%1000003+7919*k+11)*48271%1000033,Int.emod_nonneg _ (by decide),?_⟩
  generalize scr ns=S at *
  generalize (ns.length:Int)=N at *
  simp[Zbp,Df.run,Zaf,ln,h1,m1,m2]
noncomputable def ZbY:Df:=⟨1,false,(.cons (.ret (.idx (.lst (.cons (.int 3) (.cons (.int 5) (.cons (.int 7) (.cons (.int 5) (.cons (.int 7) (.cons (.int 11) .nil))))))) (.bin .Mod (.call 228 (.cons (.var 0) (.cons (.int 0) .nil))) (.int 6)))) .nil)⟩
theorem Znx{Γ:Gam}{ns:List Int}(h:Zfp Γ 228 ns):∃ p,P4 p/\ZbY.run Γ [scr ns]=.ok (.int p):=by
 obtain⟨m,m0,e⟩:=h 0 (by decide)
 have q:m%6=0\/m%6=1\/m%6=2\/m%6=3\/m%6=4\/m%6=5:=by omega
 have g:∃ p,P4 p/\Zdf [.int 3,.int 5,.int 7,.int 5,.int 7,.int 11] (m%6)=.ok (.int p):=by
  rcases q with z|z|z|z|z|z<;>rw[z]
  ·exact⟨3,.inl rfl,rfl⟩
  ·exact⟨5,.inr (.inl rfl),rfl⟩
  ·exact⟨7,.inr (.inr (.inl rfl)),rfl⟩
  ·exact⟨5,.inr (.inl rfl),rfl⟩
  ·exact⟨7,.inr (.inr (.inl rfl)),rfl⟩
  ·exact⟨11,.inr (.inr (.inr rfl)),rfl⟩
 obtain⟨p,hp,g⟩:=g
 refine⟨p,hp,?_⟩
 simp[ZbY,Df.run,Zaf,e,g]
def ZfQ(Γ:Gam):Prop:=∀ (p:Int) (b:Bool) (xs:List Int) (l t:Int),P4 p->Zap p xs=some l->Zd2 p l t->Γ.F 288 [.int p,Zda b xs]=.ok (.tup (ds (fmI p t xs)))
noncomputable def Zb1:Df:=⟨6,false,(.cons (.asg 3 false (.bin .Sub (.bin .Mult (.idx (.var 1) (.int 1)) (.idx (.var 2) (.int 2))) (.bin .Mult (.idx (.var 1) (.int 2)) (.idx (.var 2) (.int 1))))) (.cons (.asg 4 false (.bin .Sub (.bin .Mult (.idx (.var 1) (.int 2)) (.idx (.var 2) (.int 0))) (.bin .Mult (.idx (.var 1) (.int 0)) (.idx (.var 2) (.int 2))))) (.cons (.asg 5 false (.bin .Sub (.bin .Mult (.idx (.var 1) (.int 0)) (.idx (.var 2) (.int 1))) (.bin .Mult (.idx (.var 1) (.int 1)) (.idx (.var 2) (.int 0))))) (.cons (.ret (.tup (.cons (.bin .Mod (.var 3) (.var 0)) (.cons (.bin .Mod (.var 4) (.var 0)) (.cons (.bin .Mod (.var 5) (.var 0)) .nil))))) .nil))))⟩
def ZlR(Γ:Gam):Prop:=∀ (p:Int) (q q':Bool) (a x:R3),0<p->B3 a->B3 x->Γ.F 232 [.int p,Zab q a,Zab q' x]=.ok (Zab true (mdR p (crs a x)))
theorem Zlf(Γ:Gam)(p:Int)(q q':Bool)(a x:R3)(p0:0<p)(ha:B3 a)(hx:B3 x):Zb1.run Γ [.int p,Zab q a,Zab q' x]=.ok (Zab true (mdR p (crs a x))):=by
 obtain⟨x0,x1,x2⟩:=ZaS q a
 obtain⟨y0,y1,y2⟩:=ZaS q' x
 have k:∀ {u v},Bd 300 u->Bd 300 v->Zct u v=true:=fun hu hv=>Zdh hu hv (by decide) (by decide)
 simp[Zb1,Df.run,Zaf,x0,x1,x2,y0,y1,y2,k ha.1 hx.1,k ha.1 hx.2.1,k ha.1 hx.2.2,k ha.2.1 hx.1,k ha.2.1 hx.2.1,k ha.2.1 hx.2.2,k ha.2.2 hx.1,k ha.2.2 hx.2.1,k ha.2.2 hx.2.2,p0]
 rfl
noncomputable def ZeM:Df:=⟨3,false,(.cons (.ret (.bin .Mod (.bin .Add (.bin .Add (.bin .Mult (.idx (.var 1) (.int 0)) (.idx (.var 2) (.int 0))) (.bin .Mult (.idx (.var 1) (.int 1)) (.idx (.var 2) (.int 1)))) (.bin .Mult (.idx (.var 1) (.int 2)) (.idx (.var 2) (.int 2)))) (.var 0))) .nil)⟩
def Zh8(Γ:Gam):Prop:=∀ (p:Int) (q q':Bool) (a x:R3),0<p->B3 a->B3 x->Γ.F 233 [.int p,Zab q a,Zab q' x]=.ok (.int (Zag a x%p))
theorem Zlb(Γ:Gam)(p:Int)(q q':Bool)(a x:R3)(p0:0<p)(ha:B3 a)(hx:B3 x):ZeM.run Γ [.int p,Zab q a,Zab q' x]=.ok (.int (Zag a x%p)):=by
 obtain⟨x0,x1,x2⟩:=ZaS q a
 obtain⟨y0,y1,y2⟩:=ZaS q' x
 have k:∀ {u v},Bd 300 u->Bd 300 v->Zct u v=true:=fun hu hv=>Zdh hu hv (by decide) (by decide)
 simp[ZeM,Df.run,Zaf,x0,x1,x2,y0,y1,y2,k ha.1 hx.1,k ha.2.1 hx.2.1,k ha.2.2 hx.2.2,p0]
 rfl
noncomputable def ZbN:E:=(.bl true)
noncomputable def Za8:E:=(.call 233 (.cons (.var 0) (.cons (.var 3) (.cons (.var 2) .nil))))
noncomputable def ZcV:Df:=⟨4,false,(.cons (.ret (.call 288 (.cons (.var 0) (.cons (.comp Za8 3 (.e (.var 1)) ZbN) .nil)))) .nil)⟩
def ZfP(Γ:Gam):Prop:=∀ (p:Int) (t q q':Bool) (a b c x:R3),GoodR p a b c->B3 x->(∃ l,Zap p (tri x)=some l)->Γ.F 289 [.int p,Zak t q a b c,Zab q' x]=.ok (Zab true (nrm p (ap a b c x)))
theorem Zld{Γ:Gam}(hs:Zh8 Γ)(hf:ZfQ Γ)(p:Int)(t q q':Bool)(a b c x:R3)(G:GoodR p a b c)(hx:B3 x)(lx:∃ l,Zap p (tri x)=some l):ZcV.run Γ [.int p,Zak t q a b c,Zab q' x]=.ok (Zab true (nrm p (ap a b c x))):=by
 have hp:=G.p4
 have p0:=hp.pos
 obtain⟨l0,lx⟩:=lx
 obtain⟨l,el⟩:=ZeS hp G.nz lx CgR.rfl
 obtain⟨u,iu,j,l1,pr,ef⟩:=Zel hp el
 obtain⟨n1,n2⟩:=Zen hp el
 have e0:fmR p u (ap a b c x)=nrm p (ap a b c x):=Zdr hp ⟨j,l1⟩ n1 (pr.trans hp (n2.symm hp))
 have md:(tri (mdR p (ap a b c x))).map (fun x=>x%p)=(tri (ap a b c x)).map (fun x=>x%p):=by
  show [_%p%p,_%p%p,_%p%p]=[_%p,_%p,_%p]
  simp only[Int.emod_emod_of_dvd _ (Int.dvd_refl p)]
 have e:=hf p false (tri (mdR p (ap a b c x))) l u hp (by rw[ZbG md];exact el) iu
 rw[ZfJ md,ef,e0] at e
 have e':Γ.F 288 [.int p,.lst [.int (Zag a x%p),.int (Zag b x%p),.int (Zag c x%p)]]=.ok (Zab true (nrm p (ap a b c x))):=e
 have b3:∀ {r},In3 p r->B3 r:=fun h=>(ZbR hp h).b3 (by decide)
 have k:∀ r,In3 p r->cF Γ [si p,sh (Zak t q a b c),sh (Zab q' x),none] 3 Za8 (Zab q r)=.ok (.int (Zag r x%p)):=fun r hr=>by
  have e1:=hs p q q' r x p0 (b3 hr) hx
  generalize Zab q r=rr at *
  generalize Zab q' x=xx at *
  simp[cF,Za8,e1]
 have g:∀ d,cG Γ [si p,sh (Zak t q a b c),sh (Zab q' x),none] 3 ZbN d=.ok true:=fun _=>rfl
 have cp:Zal (cG Γ [si p,sh (Zak t q a b c),sh (Zab q' x),none] 3 ZbN) (cF Γ [si p,sh (Zak t q a b c),sh (Zab q' x),none] 3 Za8) [Zab q a,Zab q b,Zab q c]=.ok [.int (Zag a x%p),.int (Zag b x%p),.int (Zag c x%p)]:=by
  simp[Zal,g,k a G.ia,k b G.ib,k c G.ic]
 have sq:=ZuY t q a b c
 generalize Zab true (nrm p (ap a b c x))=Y at *
 generalize Zab q' x=xx at *
 generalize Zak t q a b c=TT at *
 generalize [Zab q a,Zab q b,Zab q c]=LL at *
 simp[ZcV,Df.run,Zaf,sq,cp,e']
noncomputable def ZaQ:Ss:=(.cons (.app 2 (.call 289 (.cons (.var 0) (.cons (.var 1) (.cons (.tup (.cons (.int 1) (.cons (.var 3) (.cons (.bin .Mult (.var 3) (.var 3)) .nil)))) .nil))))) .nil)
noncomputable def ZbE:Df:=⟨4,false,(.cons (.asg 2 true (.lst (.cons (.call 289 (.cons (.var 0) (.cons (.var 1) (.cons (.tup (.cons (.int 0) (.cons (.int 0) (.cons (.int 1) .nil)))) .nil)))) .nil))) (.cons (.fors 3 (.rng (.var 0)) ZaQ) (.cons (.ret (.var 2)) .nil)))⟩
noncomputable def ZcQ(p:Int):List R3:=(0,0,1)::(List.range p.toNat).map fun (t:Nat)=>((1:Int),(t:Int),(t:Int)*(t:Int))
theorem ZgL{p:Int}(hp:P4 p){x:R3}(hx:x∈ZcQ p):B3 x/\∃ l,Zap p (tri x)=some l:=by
 have p1:1<p:=by have:=hp.lo;omega
 have ph:=hp.hi
 rcases List.mem_cons.mp hx with rfl|hx
 ·exact⟨(ZbR hp (a:=(0,0,1)) ⟨⟨Int.le_refl 0,hp.pos⟩,⟨Int.le_refl 0,hp.pos⟩,⟨(by decide:(0:Int)<=1),p1⟩⟩).b3 (by decide),1,Zmh p1⟩
 ·obtain⟨t,ht,rfl⟩:=List.mem_map.mp hx
  have ht:=List.mem_range.mp ht
  have t0:(t:Int)<11:=by omega
  have tt:(t:Int)*(t:Int)<=11*11:=Int.mul_le_mul (by omega) (by omega) (by omega) (by decide)
  have t2:0<=(t:Int)*(t:Int):=Int.mul_nonneg (by omega) (by omega)
  have pw:(2:Nat) ^ 10<=2 ^ 300:=Nat.pow_le_pow_right (by decide) (by decide)
  refine⟨⟨?_,?_,?_⟩,1,ZyE p1 _ _⟩
  ·exact Nat.lt_of_lt_of_le (by decide:(1:Int).natAbs<2 ^ 10) pw
  ·exact Nat.lt_of_lt_of_le (by show ((t:Int)).natAbs<2 ^ 10;omega) pw
  ·exact Nat.lt_of_lt_of_le (by show ((t:Int)*(t:Int)).natAbs<2 ^ 10;omega) pw
theorem Zn6{Γ:Gam}{p m:Int}{RR Y:D}{acc:List D}{s3:Sl}(mm:Zba m m=true)(en:Γ.F 289 [.int p,RR,.tup [.int 1,.int m,.int (m*m)]]=.ok Y)(sz:Zec (acc.length+1)=true):ZcI Γ 3 ZaQ (.int m) [si p,sh RR,some (.lst acc,true),s3]=.next [si p,sh RR,some (.lst (acc++[Y]),true),si m]:=by
 simp[ZcI,ZaQ,mm,en,Zef,sz]
def Zs6(Γ:Gam):Prop:=∀ (p:Int) (a b c:R3),GoodR p a b c->Γ.F 290 [.int p,ZaI a b c]=.ok (Zac ((ZcQ p).map fun x=>nrm p (ap a b c x)))
theorem ZqR{Γ:Gam}(hl:ZfP Γ)(p:Int)(a b c:R3)(G:GoodR p a b c):ZbE.run Γ [.int p,ZaI a b c]=.ok (Zac ((ZcQ p).map fun x=>nrm p (ap a b c x))):=by
 have hp:=G.p4
 have ph:=hp.hi
 have pl:=hp.lo
 have L:∀ x∈ZcQ p,Γ.F 289 [.int p,ZaI a b c,Zab true x]=.ok (Zab true (nrm p (ap a b c x))):=fun x hx=>hl p false false true a b c x G (ZgL hp hx).1 (ZgL hp hx).2
 have e0:Γ.F 289 [.int p,ZaI a b c,.tup [.int 0,.int 0,.int 1]]=.ok (Zab true (nrm p (ap a b c (0,0,1)))):=L (0,0,1) (List.mem_cons_self ..)
 have rg:ZaB 0 p=.ok (Zfb 0 (p-0).toNat):=Zf2 (by decide) (by decide) (by omega) (by omega)
 rw[Int.sub_zero] at rg
 have lp:=ZdN (body:=ZcI Γ 3 ZaQ) (fun n ρ=>∃ s3,ρ=[si p,sh (ZaI a b c),some (.lst (((0,0,1)::(List.range n).map fun (t:Nat)=>((1:Int),(t:Int),(t:Int)*(t:Int))).map fun x=>Zab true (nrm p (ap a b c x))),true),s3]) (Zfb 0 p.toNat) 0 [si p,sh (ZaI a b c),some (.lst [Zab true (nrm p (ap a b c (0,0,1)))],true),none] ⟨none,rfl⟩ (by
  rintro n x hx ρ ⟨s3,rfl⟩
  obtain⟨hn,rfl⟩:=ZfH hx
  rw[Int.zero_add,Nat.zero_add]
  have hm:((1:Int),(n:Int),(n:Int)*(n:Int))∈ZcQ p:=List.mem_cons_of_mem _ (List.mem_map.mpr ⟨n,List.mem_range.mpr (by omega),rfl⟩)
  have en:Γ.F 289 [.int p,ZaI a b c,.tup [.int 1,.int (n:Int),.int ((n:Int)*(n:Int))]]=.ok (Zab true (nrm p (ap a b c (1,(n:Int),(n:Int)*(n:Int))))):=L _ hm
  have lr:(List.range (n+1)).map (fun (t:Nat)=>((1:Int),(t:Int),(t:Int)*(t:Int)))=(List.range n).map (fun (t:Nat)=>((1:Int),(t:Int),(t:Int)*(t:Int)))++[((1:Int),(n:Int),(n:Int)*(n:Int))]:=by
   rw[List.range_succ,List.map_append]
   rfl
  rw[lr,<- List.cons_append,List.map_append]
  have len:((((0:Int),(0:Int),(1:Int))::(List.range n).map fun (t:Nat)=>((1:Int),(t:Int),(t:Int)*(t:Int))).map fun x=>Zab true (nrm p (ap a b c x))).length=n+1:=by simp
  generalize ((((0:Int),(0:Int),(1:Int))::(List.range n).map fun (t:Nat)=>((1:Int),(t:Int),(t:Int)*(t:Int))).map fun x=>Zab true (nrm p (ap a b c x)))=acc at *
  have sz:Zec (acc.length+1)=true:=Nat.ble_eq_true_of_le (by omega)
  have mm:Zba (n:Int) (n:Int)=true:=Zbs (by omega) (by omega)
  refine⟨_,?_,si (n:Int),rfl⟩
  show ZcI Γ 3 ZaQ (.int (n:Int)) [si p,sh (ZaI a b c),some (.lst acc,true),s3]=.next [si p,sh (ZaI a b c),some (.lst (acc++[Zab true (nrm p (ap a b c (1,(n:Int),(n:Int)*(n:Int))))]),true),si (n:Int)]
  exact Zn6 mm en sz)
 obtain⟨ρ',e,s3,rfl⟩:=lp
 rw[Nat.zero_add,ZbI] at e
 have fin:D.lst (((0,0,1)::(List.range p.toNat).map fun (t:Nat)=>((1:Int),(t:Int),(t:Int)*(t:Int))).map fun x=>Zab true (nrm p (ap a b c x)))=Zac ((ZcQ p).map fun x=>nrm p (ap a b c x)):=by
  unfold Zac ZcQ
  rw[List.map_map]
  rfl
 rw[<- fin]
 clear fin L
 generalize (((0,0,1)::(List.range p.toNat).map fun (t:Nat)=>((1:Int),(t:Int),(t:Int)*(t:Int))).map fun x=>Zab true (nrm p (ap a b c x)))=OUT at *
 generalize Zfb 0 p.toNat=RL at *
 generalize Zab true (nrm p (ap a b c (0,0,1)))=Y at *
 generalize ZaI a b c=RR at *
 simp[ZbE,Df.run,Zaf,e0,ZfB,rg,e]
noncomputable def Za0:E:=(.bl true)
noncomputable def ZaZ:E:=(.bl true)
noncomputable def Za1:E:=(.bin .Mult (.idx (.var 4) (.var 6)) (.idx (.idx (.var 2) (.var 6)) (.var 5)))
noncomputable def ZaO:E:=(.bin .Mod (.bi .sum (.cons (.comp Za1 6 (.rng (.int 3)) ZaZ) .nil)) (.var 0))
noncomputable def Zao:Ss:=(.cons (.app 3 (.comp ZaO 5 (.rng (.int 3)) Za0)) .nil)
noncomputable def Zbu:Df:=⟨7,false,(.cons (.asg 3 true (.lst .nil)) (.cons (.fors 4 (.e (.var 1)) Zao) (.cons (.ret (.var 3)) .nil)))⟩
def ZeW(Γ:Gam):Prop:=∀ (p:Int) (t q t' q':Bool) (a b c x y z:R3),0<p->B3 a->B3 b->B3 c->B3 x->B3 y->B3 z->Γ.F 279 [.int p,Zak t q a b c,Zak t' q' x y z]=.ok (ZaI (mlR p a x y z) (mlR p b x y z) (mlR p c x y z))
theorem Zji(Γ:Gam)(p:Int)(t q t' q':Bool)(a b c x y z:R3)(p0:0<p)(ha:B3 a)(hb:B3 b)(hc:B3 c)(hx:B3 x)(hy:B3 y)(hz:B3 z):Zbu.run Γ [.int p,Zak t q a b c,Zak t' q' x y z]=.ok (ZaI (mlR p a x y z) (mlR p b x y z) (mlR p c x y z)):=by
 have k:∀ {u v},Bd 300 u->Bd 300 v->Zct u v=true:=fun hu hv=>Zdh hu hv (by decide) (by decide)
 have rg:ZaB 0 3=.ok [.int 0,.int 1,.int 2]:=by rfl
 have row:∀ (r:R3) (s3 s4:Sl),B3 r->evE Γ [si p,sh (Zak t q a b c),sh (Zak t' q' x y z),s3,sh (Zab q r),none,none] (.comp ZaO 5 (.rng (.int 3)) Za0)=.ok (Zb5 (mlR p r x y z)):=fun r s3 s4 hr=>by
  obtain⟨r0,r1,r2⟩:=ZaS q r
  obtain⟨X0,X1,X2⟩:=ZrL t' q' x y z
  obtain⟨x0,x1,x2⟩:=ZaS q' x
  obtain⟨y0,y1,y2⟩:=ZaS q' y
  obtain⟨z0,z1,z2⟩:=ZaS q' z
  have inner:∀ (j:Int) (u v w:Int),Zbc (Zab q' x) (.int j)=.ok (.int u)->Zbc (Zab q' y) (.int j)=.ok (.int v)->Zbc (Zab q' z) (.int j)=.ok (.int w)->Zct r.1 u=true->Zct r.2.1 v=true->Zct r.2.2 w=true->cF Γ [si p,sh (Zak t q a b c),sh (Zak t' q' x y z),s3,sh (Zab q r),none,none] 5 ZaO (.int j)=.ok (.int ((r.1*u+r.2.1*v+r.2.2*w)%p)):=fun j u v w hu hv hw b0 b1 b2=>by
   have ci:Zal (cG Γ [si p,sh (Zak t q a b c),sh (Zak t' q' x y z),s3,sh (Zab q r),si j,none] 6 ZaZ) (cF Γ [si p,sh (Zak t q a b c),sh (Zak t' q' x y z),s3,sh (Zab q r),si j,none] 6 Za1) [.int 0,.int 1,.int 2]=.ok [.int (r.1*u),.int (r.2.1*v),.int (r.2.2*w)]:=by
    generalize Zab q r=rr at *
    generalize Zab q' x=xx at *
    generalize Zab q' y=yy at *
    generalize Zab q' z=zz at *
    generalize Zak t' q' x y z=XX at *
    simp[Zal,cG,cF,ZaZ,Za1,r0,r1,r2,X0,X1,X2,hu,hv,hw,b0,b1,b2]
   have sm:biD .sum [.lst [.int (r.1*u),.int (r.2.1*v),.int (r.2.2*w)]]=.ok (.int (r.1*u+r.2.1*v+r.2.2*w)):=by
    show (Zhr 0 [.int (r.1*u),.int (r.2.1*v),.int (r.2.2*w)]).bind (fun i=>R.ok (D.int i))=_
    simp[Zhr]
   generalize r.1*u+r.2.1*v+r.2.2*w=S at *
   simp[cF,ZaO,rg,ci,sm,p0]
  have i0:=inner 0 _ _ _ x0 y0 z0 (k hr.1 hx.1) (k hr.2.1 hy.1) (k hr.2.2 hz.1)
  have i1:=inner 1 _ _ _ x1 y1 z1 (k hr.1 hx.2.1) (k hr.2.1 hy.2.1) (k hr.2.2 hz.2.1)
  have i2:=inner 2 _ _ _ x2 y2 z2 (k hr.1 hx.2.2) (k hr.2.1 hy.2.2) (k hr.2.2 hz.2.2)
  have g:∀ d,cG Γ [si p,sh (Zak t q a b c),sh (Zak t' q' x y z),s3,sh (Zab q r),none,none] 5 Za0 d=.ok true:=fun _=>rfl
  have eq:Zb5 (mlR p r x y z)=.lst [.int ((r.1*x.1+r.2.1*y.1+r.2.2*z.1)%p),.int ((r.1*x.2.1+r.2.1*y.2.1+r.2.2*z.2.1)%p),.int ((r.1*x.2.2+r.2.1*y.2.2+r.2.2*z.2.2)%p)]:=by
   unfold Zb5 mlR Zag Zaq Zan Zam
   simp only[Int.mul_comm]
  rw[eq]
  simp[rg,Zal,g,i0,i1,i2]
 have step:∀ (r:R3) (acc:List D) (s4:Sl),B3 r->Zec (acc.length+1)=true->ZcI Γ 4 Zao (Zab q r) [si p,sh (Zak t q a b c),sh (Zak t' q' x y z),some (.lst acc,true),s4,none,none]=.next [si p,sh (Zak t q a b c),sh (Zak t' q' x y z),some (.lst (acc++[Zb5 (mlR p r x y z)]),true),sh (Zab q r),none,none]:=fun r acc s4 hr sz=>by
  have e:=row r (some (.lst acc,true)) s4 hr
  show evSs Γ [si p,sh (Zak t q a b c),sh (Zak t' q' x y z),some (.lst acc,true),sh (Zab q r),none,none] Zao=_
  unfold Zao
  generalize Zb5 (mlR p r x y z)=Y at *
  generalize Zab q r=rr at *
  generalize Zak t q a b c=AA at *
  generalize Zak t' q' x y z=XX at *
  show (evS Γ _ (.app 3 _)).seq _=_
  have o:Zef [si p,sh AA,sh XX,some (.lst acc,true),sh rr,none,none] 3=.ok acc:=rfl
  rw[ZoK,o,O.of_ok,e,O.of_ok,if_pos sz]
  rfl
 have sq:=ZuY t q a b c
 have s1:=step a [] none ha rfl
 have s2:=step b [Zb5 (mlR p a x y z)] (sh (Zab q a)) hb rfl
 have s3:=step c [Zb5 (mlR p a x y z),Zb5 (mlR p b x y z)] (sh (Zab q b)) hc rfl
 clear row step
 unfold ZaI
 generalize Zb5 (mlR p a x y z)=Ya at *
 generalize Zb5 (mlR p b x y z)=Yb at *
 generalize Zb5 (mlR p c x y z)=Yc at *
 generalize Zak t q a b c=AA at *
 generalize Zak t' q' x y z=XX at *
 generalize Zab q a=ra at *
 generalize Zab q b=rb at *
 generalize Zab q c=rc at *
 have s1':ZcI Γ 4 Zao ra [si p,sh AA,sh XX,some (.lst [],true),none,none,none]=.next [si p,sh AA,sh XX,some (.lst [Ya],true),sh ra,none,none]:=s1
 have s2':ZcI Γ 4 Zao rb [si p,sh AA,sh XX,some (.lst [Ya],true),sh ra,none,none]=.next [si p,sh AA,sh XX,some (.lst [Ya,Yb],true),sh rb,none,none]:=s2
 have s3':ZcI Γ 4 Zao rc [si p,sh AA,sh XX,some (.lst [Ya,Yb],true),sh rb,none,none]=.next [si p,sh AA,sh XX,some (.lst [Ya,Yb,Yc],true),sh rc,none,none]:=s3
 simp[Zbu,Df.run,Zaf,ZfB,sq,ZdH,s1',s2',s3']
noncomputable def Zcp:E:=(.bl true)
noncomputable def Zco:E:=(.bl true)
noncomputable def Zcq:E:=(.idx (.var 7) (.var 6))
noncomputable def ZbF:E:=(.comp Zcq 7 (.e (.var 5)) Zco)
noncomputable def ZdU:Df:=⟨8,false,(.cons (.asgT [2,3,4] (.var 1)) (.cons (.asg 5 false (.lst (.cons (.call 232 (.cons (.var 0) (.cons (.var 3) (.cons (.var 4) .nil)))) (.cons (.call 232 (.cons (.var 0) (.cons (.var 4) (.cons (.var 2) .nil)))) (.cons (.call 232 (.cons (.var 0) (.cons (.var 2) (.cons (.var 3) .nil)))) .nil))))) (.cons (.ret (.comp ZbF 6 (.rng (.int 3)) Zcp)) .nil)))⟩
def ZgA(Γ:Gam):Prop:=∀ (p:Int) (t q:Bool) (a b c:R3),0<p->B3 a->B3 b->B3 c->Γ.F 280 [.int p,Zak t q a b c]=.ok (ZaI (mdR p (bk0 a b c)) (mdR p (bk1 a b c)) (mdR p (bk2 a b c)))
theorem Zjk{Γ:Gam}(hc:ZlR Γ)(p:Int)(t q:Bool)(a b c:R3)(p0:0<p)(ha:B3 a)(hb:B3 b)(hcc:B3 c):ZdU.run Γ [.int p,Zak t q a b c]=.ok (ZaI (mdR p (bk0 a b c)) (mdR p (bk1 a b c)) (mdR p (bk2 a b c))):=by
 have e1:=hc p q q b c p0 hb hcc
 have e2:=hc p q q c a p0 hcc ha
 have e3:=hc p q q a b p0 ha hb
 have as:∀ ρ:Rho,Zgw [2,3,4] (Zak t q a b c) ρ=.ok (((ρ.set 2 (sh (Zab q a))).set 3 (sh (Zab q b))).set 4 (sh (Zab q c))):=fun ρ=>by cases t<;>rfl
 have rg:ZaB 0 3=.ok [.int 0,.int 1,.int 2]:=by rfl
 obtain⟨x0,x1,x2⟩:=ZaS true (mdR p (crs b c))
 obtain⟨y0,y1,y2⟩:=ZaS true (mdR p (crs c a))
 obtain⟨z0,z1,z2⟩:=ZaS true (mdR p (crs a b))
 have out:ZaI (mdR p (bk0 a b c)) (mdR p (bk1 a b c)) (mdR p (bk2 a b c))=.lst [.lst [.int (mdR p (crs b c)).1,.int (mdR p (crs c a)).1,.int (mdR p (crs a b)).1],.lst [.int (mdR p (crs b c)).2.1,.int (mdR p (crs c a)).2.1,.int (mdR p (crs a b)).2.1],.lst [.int (mdR p (crs b c)).2.2,.int (mdR p (crs c a)).2.2,.int (mdR p (crs a b)).2.2]]:=rfl
 rw[out]
 clear out
 generalize (mdR p (crs b c)).1=u0 at *
 generalize (mdR p (crs b c)).2.1=u1 at *
 generalize (mdR p (crs b c)).2.2=u2 at *
 generalize (mdR p (crs c a)).1=v0 at *
 generalize (mdR p (crs c a)).2.1=v1 at *
 generalize (mdR p (crs c a)).2.2=v2 at *
 generalize (mdR p (crs a b)).1=w0 at *
 generalize (mdR p (crs a b)).2.1=w1 at *
 generalize (mdR p (crs a b)).2.2=w2 at *
 generalize Zab true (mdR p (crs b c))=X at *
 generalize Zab true (mdR p (crs c a))=Y at *
 generalize Zab true (mdR p (crs a b))=Z at *
 generalize Zab q a=ra at *
 generalize Zab q b=rb at *
 generalize Zab q c=rc at *
 generalize Zak t q a b c=RR at *
 have inner:∀ (j u v w:Int),Zbc X (.int j)=.ok (.int u)->Zbc Y (.int j)=.ok (.int v)->Zbc Z (.int j)=.ok (.int w)->cF Γ [si p,sh RR,sh ra,sh rb,sh rc,sh (.lst [X,Y,Z]),none,none] 6 ZbF (.int j)=.ok (.lst [.int u,.int v,.int w]):=fun j u v w hu hv hw=>by
  have ci:Zal (cG Γ [si p,sh RR,sh ra,sh rb,sh rc,sh (.lst [X,Y,Z]),si j,none] 7 Zco) (cF Γ [si p,sh RR,sh ra,sh rb,sh rc,sh (.lst [X,Y,Z]),si j,none] 7 Zcq) [X,Y,Z]=.ok [.int u,.int v,.int w]:=by
   simp[Zal,cG,cF,Zco,Zcq,hu,hv,hw]
  simp[cF,ZbF,ci]
 have g:∀ d,cG Γ [si p,sh RR,sh ra,sh rb,sh rc,sh (.lst [X,Y,Z]),none,none] 6 Zcp d=.ok true:=fun _=>rfl
 have cp:Zal (cG Γ [si p,sh RR,sh ra,sh rb,sh rc,sh (.lst [X,Y,Z]),none,none] 6 Zcp) (cF Γ [si p,sh RR,sh ra,sh rb,sh rc,sh (.lst [X,Y,Z]),none,none] 6 ZbF) [.int 0,.int 1,.int 2]=.ok [.lst [.int u0,.int v0,.int w0],.lst [.int u1,.int v1,.int w1],.lst [.int u2,.int v2,.int w2]]:=by
  simp[Zal,g,inner 0 _ _ _ x0 y0 z0,inner 1 _ _ _ x1 y1 z1,inner 2 _ _ _ x2 y2 z2]
 simp[ZdU,Df.run,Zaf,as,e1,e2,e3,rg,cp]
noncomputable def ZaY:Df:=⟨3,false,(.cons (.asg 2 false (.call 288 (.cons (.var 0) (.cons (.bin .Add (.bin .Add (.bi .list (.cons (.idx (.var 1) (.int 0)) .nil)) (.bi .list (.cons (.idx (.var 1) (.int 1)) .nil))) (.bi .list (.cons (.idx (.var 1) (.int 2)) .nil))) .nil)))) (.cons (.ret (.tup (.cons (.sl (.var 2) .non (.int 3)) (.cons (.sl (.var 2) (.int 3) (.int 6)) (.cons (.sl (.var 2) (.int 6) .non) .nil))))) .nil))⟩
def ZpA(Γ:Gam):Prop:=∀ (p:Int) (t q:Bool) (a b c:R3) (l u:Int),P4 p->Zap p (nine a b c)=some l->Zd2 p l u->Γ.F 291 [.int p,Zak t q a b c]=.ok (Zax (fmR p u a) (fmR p u b) (fmR p u c))
theorem Znt{Γ:Gam}(h:ZfQ Γ)(p:Int)(t q:Bool)(a b c:R3)(l u:Int)(hp:P4 p)(e:Zap p (nine a b c)=some l)(it:Zd2 p l u):ZaY.run Γ [.int p,Zak t q a b c]=.ok (Zax (fmR p u a) (fmR p u b) (fmR p u c)):=by
 have f:=h p false (nine a b c) l u hp e it
 rw[ZgU] at f
 have f':Γ.F 288 [.int p,.lst (ds (nine a b c))]=.ok (.tup (ds (nine (fmR p u a) (fmR p u b) (fmR p u c)))):=f
 obtain⟨X0,X1,X2⟩:=ZrL t q a b c
 have ls:∀ r:R3,biD .list [Zab q r]=.ok (Zb5 r):=fun r=>by cases q<;>rfl
 obtain⟨x1,x2⟩:=Zh5 a b c
 obtain⟨y1,y2,y3⟩:=Zy4 (fmR p u a) (fmR p u b) (fmR p u c)
 have la:=ls a
 have lb:=ls b
 have lc:=ls c
 generalize D.lst (ds (nine a b c))=N9 at *
 generalize D.tup (ds (nine (fmR p u a) (fmR p u b) (fmR p u c)))=T9 at *
 generalize Zab q a=ra at *
 generalize Zab q b=rb at *
 generalize Zab q c=rc at *
 generalize Zak t q a b c=RR at *
 unfold Zax
 generalize trR (fmR p u a)=ta at *
 generalize trR (fmR p u b)=tb at *
 generalize trR (fmR p u c)=tc at *
 generalize D.lst [.int a.1,.int a.2.1,.int a.2.2,.int b.1,.int b.2.1,.int b.2.2]=N6 at *
 generalize Zb5 a=da at *
 generalize Zb5 b=db at *
 generalize Zb5 c=dc at *
 simp[ZaY,Df.run,Zaf,X0,X1,X2,la,lb,lc,x1,x2,f',y1,y2,y3,slE]
noncomputable def Zce:E:=(.bl true)
noncomputable def Zbi:E:=(.and (.cons (.isi (.var 3) [.int]) (.cons (.no (.isi (.var 3) [.bool])) (.cons (.cmp2 .LtE .Lt (.int 0) (.var 3) (.var 0)) .nil))))
noncomputable def ZbX:Df:=⟨4,false,(.cons (.ife (.or (.cons (.no (.isi (.var 1) [.tuple])) (.cons (.cmp .NotEq (.bi .len (.cons (.var 1) .nil)) (.var 2)) .nil))) (.cons (.ret (.bl false)) .nil) .nil) (.cons (.ret (.bi .all (.cons (.comp Zbi 3 (.e (.var 1)) Zce) .nil))) .nil))⟩
def Zhc(Γ:Gam):Prop:=∀ (p:Int) (xs:List Int),(∀ x∈xs,0<=x/\x<p)->Γ.F 236 [.int p,.tup (ds xs),.int xs.length]=.ok (.bl true)
theorem Znw(Γ:Gam)(p:Int)(xs:List Int)(hx:∀ x∈xs,0<=x/\x<p):ZbX.run Γ [.int p,.tup (ds xs),.int xs.length]=.ok (.bl true):=by
 have c1:Zal (cG Γ [si p,sh (.tup (ds xs)),si xs.length,none] 3 Zce) (cF Γ [si p,sh (.tup (ds xs)),si xs.length,none] 3 Zbi) (ds xs)=.ok (xs.map fun _=>D.bl true):=by
  refine Zkh xs fun x hm=>⟨rfl,?_⟩
  obtain⟨h0,h1⟩:=hx x hm
  simp[cF,Zbi,kiD,ZeD,h0,h1]
 have dl:(ds xs).length=xs.length:=List.length_map ..
 simp[ZbX,Df.run,Zaf,kiD,ZeD,dl,c1,Zh4]
noncomputable def ZbO:E:=(.cmp .Gt (.var 3) (.int 0))
noncomputable def ZbP:E:=(.var 3)
noncomputable def ZcX:Df:=⟨4,false,(.cons (.ife (.or (.cons (.no (.call 236 (.cons (.var 0) (.cons (.var 1) (.cons (.var 2) .nil))))) (.cons (.cmp .Eq (.bi .sum (.cons (.var 1) .nil)) (.int 0)) .nil))) (.cons (.ret (.bl false)) .nil) .nil) (.cons (.ret (.cmp .Eq (.idx (.comp ZbP 3 (.e (.var 1)) ZbO) (.int 0)) (.int 1))) .nil))⟩
def ZkF(Γ:Gam):Prop:=∀ (p:Int) (xs:List Int),0<p->(∀ x∈xs,0<=x/\x<p)->Zap p xs=some 1->Γ.F 237 [.int p,.tup (ds xs),.int xs.length]=.ok (.bl true)
theorem ZhO{p:Int}:∀ xs:List Int,(∀ v∈xs,0<=v/\v<p)->Zap p xs=(xs.filter fun v=>decide (0<v)).head?
 | [],_=>rfl
 | v::xs,h=>by
  have hv:=h v (List.mem_cons_self ..)
  have em:=Int.emod_eq_of_lt hv.1 hv.2
  have ih:=ZhO xs fun w hw=>h w (List.mem_cons_of_mem _ hw)
  unfold Zap
  rw[em,List.filter_cons,ih]
  by_cases z:v=0
  ·rw[if_pos z,z]
   rfl
  ·rw[if_neg z,if_pos (by simp;omega)]
   rfl
theorem ZlY:∀ (xs:List Int) (a:Int),Zhr a (ds xs)=.ok (a+xs.sum)
 | [],a=>by show R.ok a=_;simp
 | x::xs,a=>by
  show Zhr (a+x) (ds xs)=_
  rw[ZlY xs (a+x)]
  simp[Int.add_assoc]
theorem Zi2{p:Int}:∀ xs:List Int,(∀ v∈xs,0<=v/\v<p)->0<=xs.sum/\∀ v∈xs,v<=xs.sum
 | [],_=>⟨by simp,fun v h=>nomatch h⟩
 | x::xs,h=>by
  obtain⟨h1,h2⟩:=Zi2 xs fun w hw=>h w (List.mem_cons_of_mem _ hw)
  have hx:=h x (List.mem_cons_self ..)
  rw[List.sum_cons]
  refine⟨by omega,fun v hv=>?_⟩
  rcases List.mem_cons.mp hv with rfl|hv
  ·omega
  ·have:=h2 v hv;omega
theorem ZnI{Γ:Gam}(hr:Zhc Γ)(p:Int)(xs:List Int)(p0:0<p)(hx:∀ x∈xs,0<=x/\x<p)(l1:Zap p xs=some 1):ZcX.run Γ [.int p,.tup (ds xs),.int xs.length]=.ok (.bl true):=by
 have e1:=hr p xs hx
 have hd:(xs.filter fun v=>decide (0<v)).head?=some 1:=by rw[<- ZhO xs hx];exact l1
 have m1:(1:Int)∈xs:=by
  have:(1:Int)∈xs.filter fun v=>decide (0<v):=List.mem_of_mem_head? hd
  exact(List.mem_filter.mp this).1
 obtain⟨s0,s1⟩:=Zi2 xs hx
 have sz:¬ xs.sum=0:=by have:=s1 1 m1;omega
 have sm:biD .sum [.tup (ds xs)]=.ok (.int xs.sum):=by
  show (Zhr 0 (ds xs)).bind (fun i=>R.ok (D.int i))=_
  rw[ZlY,Int.zero_add]
  rfl
 have sq:ZaF (.tup (ds xs))=.ok (ds xs):=rfl
 have c1:∀ n:Int,Zal (cG Γ [si p,sh (.tup (ds xs)),si n,none] 3 ZbO) (cF Γ [si p,sh (.tup (ds xs)),si n,none] 3 ZbP) (ds xs)=.ok (ds (xs.filter fun v=>decide (0<v))):=fun n=>by
  refine Zci xs fun v _=>⟨?_,?_⟩
  ·simp[cG,ZbO]
  ·simp[cF,ZbP]
 have g:=Zex hd
 generalize (xs.length:Int)=N at *
 generalize xs.sum=SS at *
 generalize ds (xs.filter fun v=>decide (0<v))=FL at *
 generalize D.tup (ds xs)=TT at *
 generalize ds xs=XL at *
 simp[ZcX,Df.run,Zaf,e1,sm,sz,sq,c1,g]
noncomputable def Zbj:E:=(.bl true)
noncomputable def ZaT:E:=(.call 236 (.cons (.var 0) (.cons (.var 2) (.cons (.int 3) .nil))))
noncomputable def ZbZ:Df:=⟨3,false,(.cons (.ife (.or (.cons (.no (.isi (.var 1) [.tuple])) (.cons (.cmp .NotEq (.bi .len (.cons (.var 1) .nil)) (.int 3)) (.cons (.no (.bi .all (.cons (.comp ZaT 2 (.e (.var 1)) Zbj) .nil))) .nil)))) (.cons (.ret (.bl false)) .nil) .nil) (.cons (.ret (.call 237 (.cons (.var 0) (.cons (.bin .Add (.bin .Add (.idx (.var 1) (.int 0)) (.idx (.var 1) (.int 1))) (.idx (.var 1) (.int 2))) (.cons (.int 9) .nil))))) .nil))⟩
def ZkE(Γ:Gam):Prop:=∀ (p:Int) (a b c:R3),0<p->In3 p a->In3 p b->In3 p c->Zap p (nine a b c)=some 1->Γ.F 293 [.int p,Zax a b c]=.ok (.bl true)
theorem ZnE{Γ:Gam}(h:Zhc Γ)(hf:ZkF Γ)(p:Int)(a b c:R3)(p0:0<p)(ha:In3 p a)(hb:In3 p b)(hc:In3 p c)(l1:Zap p (nine a b c)=some 1):ZbZ.run Γ [.int p,Zax a b c]=.ok (.bl true):=by
 have one:∀ r:R3,In3 p r->Γ.F 236 [.int p,trR r,.int 3]=.ok (.bl true):=fun r hr=>h p [r.1,r.2.1,r.2.2] (by
  intro x hx
  simp at hx
  rcases hx with rfl|rfl|rfl
  ·exact hr.1
  ·exact hr.2.1
  ·exact hr.2.2)
 have g:∀ x,cG Γ [si p,sh (Zax a b c),none] 2 Zbj x=.ok true:=fun _=>rfl
 have f:∀ r:R3,In3 p r->cF Γ [si p,sh (Zax a b c),none] 2 ZaT (trR r)=.ok (.bl true):=fun r hr=>by
  simp[cF,ZaT,one r hr]
 have c1:Zal (cG Γ [si p,sh (Zax a b c),none] 2 Zbj) (cF Γ [si p,sh (Zax a b c),none] 2 ZaT) [trR a,trR b,trR c]=.ok [.bl true,.bl true,.bl true]:=by
  simp[Zal,g,f a ha,f b hb,f c hc]
 have sq:ZaF (Zax a b c)=.ok [trR a,trR b,trR c]:=rfl
 have ln:biD .len [Zax a b c]=.ok (.int 3):=rfl
 have it:Ze1 Γ.up [.tuple] (Zax a b c)=.ok (.bl true):=rfl
 have i0:Zbc (Zax a b c) (.int 0)=.ok (trR a):=rfl
 have i1:Zbc (Zax a b c) (.int 1)=.ok (trR b):=rfl
 have i2:Zbc (Zax a b c) (.int 2)=.ok (trR c):=rfl
 have a1:Zdg .Add (trR a) (trR b)=.ok (.tup [.int a.1,.int a.2.1,.int a.2.2,.int b.1,.int b.2.1,.int b.2.2]):=rfl
 have a2:Zdg .Add (.tup [.int a.1,.int a.2.1,.int a.2.2,.int b.1,.int b.2.1,.int b.2.2]) (trR c)=.ok (.tup (ds (nine a b c))):=rfl
 have e9:Γ.F 237 [.int p,.tup (ds (nine a b c)),.int 9]=.ok (.bl true):=hf p (nine a b c) p0 (by
  intro x hx
  unfold nine at hx
  simp at hx
  rcases hx with rfl|rfl|rfl|rfl|rfl|rfl|rfl|rfl|rfl
  ·exact ha.1
  ·exact ha.2.1
  ·exact ha.2.2
  ·exact hb.1
  ·exact hb.2.1
  ·exact hb.2.2
  ·exact hc.1
  ·exact hc.2.1
  ·exact hc.2.2) l1
 generalize D.tup [.int a.1,.int a.2.1,.int a.2.2,.int b.1,.int b.2.1,.int b.2.2]=N6 at *
 generalize D.tup (ds (nine a b c))=N9 at *
 generalize Zax a b c=TT at *
 generalize trR a=ta at *
 generalize trR b=tb at *
 generalize trR c=tc at *
 simp[ZbZ,Df.run,Zaf,it,ln,sq,c1,i0,i1,i2,a1,a2,e9]
noncomputable def Zbl:E:=(.bl true)
noncomputable def Zbk:E:=(.bl true)
noncomputable def Zbm:E:=(.idx (.idx (.var 2) (.var 7)) (.var 6))
noncomputable def ZaU:E:=(.comp Zbm 7 (.rng (.int 3)) Zbk)
noncomputable def Zb0:Df:=⟨8,false,(.cons (.asg 2 false (.call 280 (.cons (.var 0) (.cons (.var 1) .nil)))) (.cons (.asg 3 false (.comp ZaU 6 (.rng (.int 3)) Zbl)) (.cons (.asg 4 false (.call 279 (.cons (.var 0) (.cons (.call 279 (.cons (.var 0) (.cons (.var 3) (.cons (.lst (.cons (.lst (.cons (.int 0) (.cons (.int 0) (.cons (.un .USub (.int 1)) .nil)))) (.cons (.lst (.cons (.int 0) (.cons (.int 2) (.cons (.int 0) .nil)))) (.cons (.lst (.cons (.un .USub (.int 1)) (.cons (.int 0) (.cons (.int 0) .nil)))) .nil)))) .nil)))) (.cons (.var 2) .nil))))) (.cons (.asg 5 false (.bin .FloorDiv (.bin .Add (.var 0) (.int 1)) (.int 2))) (.cons (.ret (.call 288 (.cons (.var 0) (.cons (.lst (.cons (.bin .Mult (.idx (.idx (.var 4) (.int 0)) (.int 0)) (.var 5)) (.cons (.bin .Mult (.idx (.idx (.var 4) (.int 1)) (.int 1)) (.var 5)) (.cons (.bin .Mult (.idx (.idx (.var 4) (.int 2)) (.int 2)) (.var 5)) (.cons (.idx (.idx (.var 4) (.int 0)) (.int 1)) (.cons (.idx (.idx (.var 4) (.int 0)) (.int 2)) (.cons (.idx (.idx (.var 4) (.int 1)) (.int 2)) .nil))))))) .nil)))) .nil)))))⟩
noncomputable def C0p:C6:=⟨0,1,0,0,-1,0⟩
def ZpE(Γ:Gam):Prop:=∀ (p:Int) (a b c:R3),GoodR p a b c->∃ C:C6,InC p C/\Zap p C.l=some 1/\PrC p C (pb C0p (bk0 a b c) (bk1 a b c) (bk2 a b c))/\Whl p C/\Γ.F 292 [.int p,ZaI a b c]=.ok (Za7 C)
theorem ZjM{p:Int}(p0:0<p)(a:R3):In3 p (mdR p a):=⟨⟨Int.emod_nonneg _ (by omega),Int.emod_lt_of_pos _ p0⟩,⟨Int.emod_nonneg _ (by omega),Int.emod_lt_of_pos _ p0⟩,⟨Int.emod_nonneg _ (by omega),Int.emod_lt_of_pos _ p0⟩⟩
theorem ZnK{Γ:Gam}(hb:ZgA Γ)(hm:ZeW Γ)(hf:ZfQ Γ)(p:Int)(a b c:R3)(G:GoodR p a b c):∃ C:C6,InC p C/\Zap p C.l=some 1/\PrC p C (pb C0p (bk0 a b c) (bk1 a b c) (bk2 a b c))/\Whl p C/\Zb0.run Γ [.int p,ZaI a b c]=.ok (Za7 C):=by
 have hp:=G.p4
 have p0:=hp.pos
 have b3:∀ {r},In3 p r->B3 r:=fun h=>(ZbR hp h).b3 (by decide)
 have e1:Γ.F 280 [.int p,ZaI a b c]=.ok (ZaI (mdR p (bk0 a b c)) (mdR p (bk1 a b c)) (mdR p (bk2 a b c))):=hb p false false a b c p0 (b3 G.ia) (b3 G.ib) (b3 G.ic)
 have i0   := ZjM p0 (bk0 a b c)
 have i1   := ZjM p0 (bk1 a b c)
 have i2   := ZjM p0 (bk2 a b c)
 have g0:CgR p (mdR p (bk0 a b c)) (bk0 a b c):=CgR.md rfl
 have g1:CgR p (mdR p (bk1 a b c)) (bk1 a b c):=CgR.md rfl
 have g2:CgR p (mdR p (bk2 a b c)) (bk2 a b c):=CgR.md rfl
 have cgB:CgC p (pb C0p (mdR p (bk0 a b c)) (mdR p (bk1 a b c)) (mdR p (bk2 a b c))) (pb C0p (bk0 a b c) (bk1 a b c) (bk2 a b c)):=Zio CgC.rfl g0 g1 g2
 have zB:Zaa (bk0 a b c) (bk1 a b c) (bk2 a b c)%p≠0:=by rw[ZcF];exact Zae hp G.nz G.nz
 have w0:Whl p C0p:=by
  show Zaa (tw0 C0p) (tw1 C0p) (tw2 C0p)%p≠0
  have:Zaa (tw0 C0p) (tw1 C0p) (tw2 C0p)=-2:=by decide
  rw[this]
  rcases hp with rfl|rfl|rfl|rfl<;>decide
 have wP:Whl p (pb C0p (bk0 a b c) (bk1 a b c) (bk2 a b c)):=ZlS hp zB w0
 generalize mdR p (bk0 a b c)=x at *
 generalize mdR p (bk1 a b c)=y at *
 generalize mdR p (bk2 a b c)=z at *
 have k0:In3 p (Zaq x y z):=⟨i0.1,i1.1,i2.1⟩
 have k1:In3 p (Zan x y z):=⟨i0.2.1,i1.2.1,i2.2.1⟩
 have k2:In3 p (Zam x y z):=⟨i0.2.2,i1.2.2,i2.2.2⟩
 have sm:∀ v:Int,-3<=v->v<=3->Bd 300 v:=fun v h1 h2=>Nat.lt_of_lt_of_le (by omega:v.natAbs<2 ^ 10) (Nat.pow_le_pow_right (by decide) (by decide))
 have M0:B3 (0,0,-1):=⟨sm _ (by decide) (by decide),sm _ (by decide) (by decide),sm _ (by decide) (by decide)⟩
 have M1:B3 (0,2,0):=⟨sm _ (by decide) (by decide),sm _ (by decide) (by decide),sm _ (by decide) (by decide)⟩
 have M2:B3 (-1,0,0):=⟨sm _ (by decide) (by decide),sm _ (by decide) (by decide),sm _ (by decide) (by decide)⟩
 have e2:Γ.F 279 [.int p,ZaI (Zaq x y z) (Zan x y z) (Zam x y z),.lst [.lst [.int 0,.int 0,.int (-1)],.lst [.int 0,.int 2,.int 0],.lst [.int (-1),.int 0,.int 0]]]=.ok (ZaI (mlR p (Zaq x y z) (0,0,-1) (0,2,0) (-1,0,0)) (mlR p (Zan x y z) (0,0,-1) (0,2,0) (-1,0,0)) (mlR p (Zam x y z) (0,0,-1) (0,2,0) (-1,0,0))):=hm p false false false false _ _ _ _ _ _ p0 (b3 k0) (b3 k1) (b3 k2) M0 M1 M2
 have u0:=Zir p0 (Zaq x y z) (0,0,-1) (0,2,0) (-1,0,0)
 have u1:=Zir p0 (Zan x y z) (0,0,-1) (0,2,0) (-1,0,0)
 have u2:=Zir p0 (Zam x y z) (0,0,-1) (0,2,0) (-1,0,0)
 have e3:Γ.F 279 [.int p,ZaI (mlR p (Zaq x y z) (0,0,-1) (0,2,0) (-1,0,0)) (mlR p (Zan x y z) (0,0,-1) (0,2,0) (-1,0,0)) (mlR p (Zam x y z) (0,0,-1) (0,2,0) (-1,0,0)),ZaI x y z]=.ok (ZaI (mlR p (mlR p (Zaq x y z) (0,0,-1) (0,2,0) (-1,0,0)) x y z) (mlR p (mlR p (Zan x y z) (0,0,-1) (0,2,0) (-1,0,0)) x y z) (mlR p (mlR p (Zam x y z) (0,0,-1) (0,2,0) (-1,0,0)) x y z)):=hm p false false false false _ _ _ _ _ _ p0 (b3 u0) (b3 u1) (b3 u2) (b3 i0) (b3 i1) (b3 i2)
 have rj:∀ s c':R3,Cg p (Zag c' (mlR p s (0,0,-1) (0,2,0) (-1,0,0))%p) (bI C0p s c'):=fun s c'=>by
  refine(Cg.md rfl).trans ((Za4 CgR.rfl (Zis p s (0,0,-1) (0,2,0) (-1,0,0))).trans (Cg.of ?_))
  unfold rm Zaq Zan Zam bI C0p ap tw0 tw1 tw2 Zag
  simp only
  grind
 have h2:2*((p+1) / 2)=p+1:=by rcases hp with rfl|rfl|rfl|rfl<;>decide
 have hb1:0<=(p+1) / 2/\(p+1) / 2<=6:=by rcases hp with rfl|rfl|rfl|rfl<;>decide
 generalize hh:(p+1) / 2=h at h2 hb1
 have vv:∀ s:R3,Cg p (Zag s (mlR p s (0,0,-1) (0,2,0) (-1,0,0))%p*h) (vI C0p s):=fun s=>by
  refine((rj s s).mul Cg.rfl).trans ?_
  rw[Zb3]
  have:2*vI C0p s*h=vI C0p s+p*vI C0p s:=by
   have e:2*vI C0p s*h=vI C0p s*(2*h):=by grind
   rw[e,h2]
   grind
  rw[this]
  exact Cg.far (vI C0p s) rfl
 have cg6:CgC p ⟨Zag (Zaq x y z) (mlR p (Zaq x y z) (0,0,-1) (0,2,0) (-1,0,0))%p*h,Zag (Zan x y z) (mlR p (Zan x y z) (0,0,-1) (0,2,0) (-1,0,0))%p*h,Zag (Zam x y z) (mlR p (Zam x y z) (0,0,-1) (0,2,0) (-1,0,0))%p*h,Zag (Zan x y z) (mlR p (Zaq x y z) (0,0,-1) (0,2,0) (-1,0,0))%p,Zag (Zam x y z) (mlR p (Zaq x y z) (0,0,-1) (0,2,0) (-1,0,0))%p,Zag (Zam x y z) (mlR p (Zan x y z) (0,0,-1) (0,2,0) (-1,0,0))%p⟩ (pb C0p (bk0 a b c) (bk1 a b c) (bk2 a b c)) :=
  CgC.trans (D:=pb C0p x y z) ⟨vv _,vv _,vv _,rj _ _,rj _ _,rj _ _⟩ cgB
 have pr6:PrC p ⟨Zag (Zaq x y z) (mlR p (Zaq x y z) (0,0,-1) (0,2,0) (-1,0,0))%p*h,Zag (Zan x y z) (mlR p (Zan x y z) (0,0,-1) (0,2,0) (-1,0,0))%p*h,Zag (Zam x y z) (mlR p (Zam x y z) (0,0,-1) (0,2,0) (-1,0,0))%p*h,Zag (Zan x y z) (mlR p (Zaq x y z) (0,0,-1) (0,2,0) (-1,0,0))%p,Zag (Zam x y z) (mlR p (Zaq x y z) (0,0,-1) (0,2,0) (-1,0,0))%p,Zag (Zam x y z) (mlR p (Zan x y z) (0,0,-1) (0,2,0) (-1,0,0))%p⟩ (pb C0p (bk0 a b c) (bk1 a b c) (bk2 a b c)):=⟨1,hp.o1,cg6.trans (CgC.of (Zcf _).symm)⟩
 obtain⟨l,el⟩:=Ziv (Zhk hp pr6 wP)
 obtain⟨t,C,it,eD,iC,lC,pC⟩:=Zr2 hp el
 have e4:=hf p false _ l t hp el it
 rw[eD] at e4
 refine⟨C,iC,lC,pC.trans hp pr6,Zhk hp (pC.trans hp pr6) wP,?_⟩
 have r00:0<=Zag (Zaq x y z) (mlR p (Zaq x y z) (0,0,-1) (0,2,0) (-1,0,0))%p/\Zag (Zaq x y z) (mlR p (Zaq x y z) (0,0,-1) (0,2,0) (-1,0,0))%p<p:=⟨Int.emod_nonneg _ (by omega),Int.emod_lt_of_pos _ p0⟩
 have r11:0<=Zag (Zan x y z) (mlR p (Zan x y z) (0,0,-1) (0,2,0) (-1,0,0))%p/\Zag (Zan x y z) (mlR p (Zan x y z) (0,0,-1) (0,2,0) (-1,0,0))%p<p:=⟨Int.emod_nonneg _ (by omega),Int.emod_lt_of_pos _ p0⟩
 have r22:0<=Zag (Zam x y z) (mlR p (Zam x y z) (0,0,-1) (0,2,0) (-1,0,0))%p/\Zag (Zam x y z) (mlR p (Zam x y z) (0,0,-1) (0,2,0) (-1,0,0))%p<p:=⟨Int.emod_nonneg _ (by omega),Int.emod_lt_of_pos _ p0⟩
 have ph:=hp.hi
 have q00:Zbc (ZaI (mlR p (mlR p (Zaq x y z) (0,0,-1) (0,2,0) (-1,0,0)) x y z) (mlR p (mlR p (Zan x y z) (0,0,-1) (0,2,0) (-1,0,0)) x y z) (mlR p (mlR p (Zam x y z) (0,0,-1) (0,2,0) (-1,0,0)) x y z)) (.int 0)=.ok (.lst [.int (Zag (Zaq x y z) (mlR p (Zaq x y z) (0,0,-1) (0,2,0) (-1,0,0))%p),.int (Zag (Zan x y z) (mlR p (Zaq x y z) (0,0,-1) (0,2,0) (-1,0,0))%p),.int (Zag (Zam x y z) (mlR p (Zaq x y z) (0,0,-1) (0,2,0) (-1,0,0))%p)]):=rfl
 have q11:Zbc (ZaI (mlR p (mlR p (Zaq x y z) (0,0,-1) (0,2,0) (-1,0,0)) x y z) (mlR p (mlR p (Zan x y z) (0,0,-1) (0,2,0) (-1,0,0)) x y z) (mlR p (mlR p (Zam x y z) (0,0,-1) (0,2,0) (-1,0,0)) x y z)) (.int 1)=.ok (.lst [.int (Zag (Zaq x y z) (mlR p (Zan x y z) (0,0,-1) (0,2,0) (-1,0,0))%p),.int (Zag (Zan x y z) (mlR p (Zan x y z) (0,0,-1) (0,2,0) (-1,0,0))%p),.int (Zag (Zam x y z) (mlR p (Zan x y z) (0,0,-1) (0,2,0) (-1,0,0))%p)]):=rfl
 have q22:Zbc (ZaI (mlR p (mlR p (Zaq x y z) (0,0,-1) (0,2,0) (-1,0,0)) x y z) (mlR p (mlR p (Zan x y z) (0,0,-1) (0,2,0) (-1,0,0)) x y z) (mlR p (mlR p (Zam x y z) (0,0,-1) (0,2,0) (-1,0,0)) x y z)) (.int 2)=.ok (.lst [.int (Zag (Zaq x y z) (mlR p (Zam x y z) (0,0,-1) (0,2,0) (-1,0,0))%p),.int (Zag (Zan x y z) (mlR p (Zam x y z) (0,0,-1) (0,2,0) (-1,0,0))%p),.int (Zag (Zam x y z) (mlR p (Zam x y z) (0,0,-1) (0,2,0) (-1,0,0))%p)]):=rfl
 have e4':Γ.F 288 [.int p,.lst [.int (Zag (Zaq x y z) (mlR p (Zaq x y z) (0,0,-1) (0,2,0) (-1,0,0))%p*h),.int (Zag (Zan x y z) (mlR p (Zan x y z) (0,0,-1) (0,2,0) (-1,0,0))%p*h),.int (Zag (Zam x y z) (mlR p (Zam x y z) (0,0,-1) (0,2,0) (-1,0,0))%p*h),.int (Zag (Zan x y z) (mlR p (Zaq x y z) (0,0,-1) (0,2,0) (-1,0,0))%p),.int (Zag (Zam x y z) (mlR p (Zaq x y z) (0,0,-1) (0,2,0) (-1,0,0))%p),.int (Zag (Zam x y z) (mlR p (Zan x y z) (0,0,-1) (0,2,0) (-1,0,0))%p)]]=.ok (Za7 C):=e4
 have t0:D.lst [.lst [.int x.1,.int y.1,.int z.1],.lst [.int x.2.1,.int y.2.1,.int z.2.1],.lst [.int x.2.2,.int y.2.2,.int z.2.2]]=ZaI (Zaq x y z) (Zan x y z) (Zam x y z):=rfl
 have b0:Zbc (ZaI x y z) (.int 0)=.ok (Zab false x):=rfl
 have b1:Zbc (ZaI x y z) (.int 1)=.ok (Zab false y):=rfl
 have b2:Zbc (ZaI x y z) (.int 2)=.ok (Zab false z):=rfl
 obtain⟨x0,x1,x2⟩:=ZaS false x
 obtain⟨y0,y1,y2⟩:=ZaS false y
 obtain⟨z0,z1,z2⟩:=ZaS false z
 clear cg6 pr6 pC el eD e4 it cgB rj vv wP w0 zB
 generalize ZaI (mlR p (mlR p (Zaq x y z) (0,0,-1) (0,2,0) (-1,0,0)) x y z) (mlR p (mlR p (Zan x y z) (0,0,-1) (0,2,0) (-1,0,0)) x y z) (mlR p (mlR p (Zam x y z) (0,0,-1) (0,2,0) (-1,0,0)) x y z)=MADE at *
 generalize ZaI (mlR p (Zaq x y z) (0,0,-1) (0,2,0) (-1,0,0)) (mlR p (Zan x y z) (0,0,-1) (0,2,0) (-1,0,0)) (mlR p (Zam x y z) (0,0,-1) (0,2,0) (-1,0,0))=MID at *
 generalize Zag (Zaq x y z) (mlR p (Zaq x y z) (0,0,-1) (0,2,0) (-1,0,0))%p=n00 at *
 generalize Zag (Zan x y z) (mlR p (Zaq x y z) (0,0,-1) (0,2,0) (-1,0,0))%p=n01 at *
 generalize Zag (Zam x y z) (mlR p (Zaq x y z) (0,0,-1) (0,2,0) (-1,0,0))%p=n02 at *
 generalize Zag (Zaq x y z) (mlR p (Zan x y z) (0,0,-1) (0,2,0) (-1,0,0))%p=n10 at *
 generalize Zag (Zan x y z) (mlR p (Zan x y z) (0,0,-1) (0,2,0) (-1,0,0))%p=n11 at *
 generalize Zag (Zam x y z) (mlR p (Zan x y z) (0,0,-1) (0,2,0) (-1,0,0))%p=n12 at *
 generalize Zag (Zaq x y z) (mlR p (Zam x y z) (0,0,-1) (0,2,0) (-1,0,0))%p=n20 at *
 generalize Zag (Zan x y z) (mlR p (Zam x y z) (0,0,-1) (0,2,0) (-1,0,0))%p=n21 at *
 generalize Zag (Zam x y z) (mlR p (Zam x y z) (0,0,-1) (0,2,0) (-1,0,0))%p=n22 at *
 have k00:Zba n00 h=true:=Zbs (by omega) (by omega)
 have k11:Zba n11 h=true:=Zbs (by omega) (by omega)
 have k22:Zba n22 h=true:=Zbs (by omega) (by omega)
 rw[<- t0] at e2
 clear t0
 generalize ZaI x y z=BB at *
 generalize Zab false x=xx at *
 generalize Zab false y=yy at *
 generalize Zab false z=zz at *
 generalize x.1=x00 at *
 generalize x.2.1=x01 at *
 generalize x.2.2=x02 at *
 generalize y.1=y00 at *
 generalize y.2.1=y01 at *
 generalize y.2.2=y02 at *
 generalize z.1=z00 at *
 generalize z.2.1=z01 at *
 generalize z.2.2=z02 at *
 generalize ZaI a b c=RR at *
 generalize Za7 C=cC at *
 have rg:ZaB 0 3=.ok [.int 0,.int 1,.int 2]:=by rfl
 have inner:∀ (j u v w:Int),Zbc xx (.int j)=.ok (.int u)->Zbc yy (.int j)=.ok (.int v)->Zbc zz (.int j)=.ok (.int w)->cF Γ [si p,sh RR,sh BB,none,none,none,none,none] 6 ZaU (.int j)=.ok (.lst [.int u,.int v,.int w]):=fun j u v w hu hv hw=>by
  have ci:Zal (cG Γ [si p,sh RR,sh BB,none,none,none,si j,none] 7 Zbk) (cF Γ [si p,sh RR,sh BB,none,none,none,si j,none] 7 Zbm) [.int 0,.int 1,.int 2]=.ok [.int u,.int v,.int w]:=by
   simp[Zal,cG,cF,Zbk,Zbm,b0,b1,b2,hu,hv,hw]
  simp[cF,ZaU,rg,ci]
 have g:∀ d,cG Γ [si p,sh RR,sh BB,none,none,none,none,none] 6 Zbl d=.ok true:=fun _=>rfl
 have cp:Zal (cG Γ [si p,sh RR,sh BB,none,none,none,none,none] 6 Zbl) (cF Γ [si p,sh RR,sh BB,none,none,none,none,none] 6 ZaU) [.int 0,.int 1,.int 2]=.ok [.lst [.int x00,.int y00,.int z00],.lst [.int x01,.int y01,.int z01],.lst [.int x02,.int y02,.int z02]]:=by
  simp[Zal,g,inner 0 _ _ _ x0 y0 z0,inner 1 _ _ _ x1 y1 z1,inner 2 _ _ _ x2 y2 z2]
 simp[Zb0,Df.run,Zaf,e1,rg,cp,e2,e3,hh,q00,q11,q22,g30,g31,g32,k00,k11,k22,e4']
noncomputable def Zbe:E:=(.bl true)
noncomputable def Zbg:E:=(.bin .Mod (.bin .Add (.var 9) (.bin .Mult (.var 8) (.var 10))) (.var 0))
noncomputable def Zai:Ss:=(.cons (.asg 5 false (.call 228 (.cons (.var 1) (.cons (.bin .Add (.var 2) (.var 4)) .nil)))) (.cons (.asg 6 false (.bin .Mod (.var 5) (.int 3))) (.cons (.asg 7 false (.bin .Mod (.bin .Add (.bin .Add (.var 6) (.int 1)) (.bin .Mod (.bin .FloorDiv (.var 5) (.int 3)) (.int 2))) (.int 3))) (.cons (.asg 8 false (.bin .Mod (.bin .FloorDiv (.var 5) (.int 6)) (.var 0))) (.cons (.put 3 (.var 6) (.compT Zbg [9,10] (.zip (.idx (.var 3) (.var 6)) (.idx (.var 3) (.var 7))) Zbe)) (.cons (.ife (.cmp .Eq (.bin .Mod (.bin .FloorDiv (.var 5) (.int 100)) (.int 3)) (.int 1)) (.cons (.asg 3 true (.lst (.cons (.idx (.var 3) (.var 7)) (.cons (.idx (.var 3) (.var 6)) (.cons (.idx (.var 3) (.bin .Sub (.bin .Sub (.int 3) (.var 6)) (.var 7))) .nil))))) .nil) .nil) .nil))))))
noncomputable def Zcb:E:=(.bl true)
noncomputable def Zbf:E:=(.bin .Mod (.bin .Mult (.var 8) (.var 11)) (.var 0))
noncomputable def ZbW:Df:=⟨12,false,(.cons (.asg 3 true (.lst (.cons (.lst (.cons (.int 1) (.cons (.int 0) (.cons (.int 0) .nil)))) (.cons (.lst (.cons (.int 0) (.cons (.int 1) (.cons (.int 0) .nil)))) (.cons (.lst (.cons (.int 0) (.cons (.int 0) (.cons (.int 1) .nil)))) .nil))))) (.cons (.fors 4 (.rng (.int 6)) Zai) (.cons (.asg 8 false (.bin .Add (.int 1) (.bin .Mod (.call 228 (.cons (.var 1) (.cons (.bin .Add (.var 2) (.int 6)) .nil))) (.bin .Sub (.var 0) (.int 1))))) (.cons (.put 3 (.int 0) (.comp Zbf 11 (.e (.idx (.var 3) (.int 0))) Zcb)) (.cons (.ret (.var 3)) .nil)))))⟩
theorem Znp{p t:Int}{a b c:R3}{i j:Int}(h:GoodR p a b c)(ij:Ij i j):∃ (i':Nat) (x y a' b' c':R3),Zdf (L3 a b c) i=.ok (Zb5 x)/\Zdf (L3 a b c) j=.ok (Zb5 y)/\plD 3 i=some i'/\GoodR p a' b' c'/\(L3 a b c).set i' (Zb5 (adR p t x y))=L3 a' b' c':=by
 have p0:=h.p4.pos
 rcases ij with ⟨rfl,rfl⟩|⟨rfl,rfl⟩|⟨rfl,rfl⟩|⟨rfl,rfl⟩|⟨rfl,rfl⟩|⟨rfl,rfl⟩
 ·exact⟨0,a,b,_,_,_,rfl,rfl,rfl,h.of (k:=1) h.p4.o1 (ZxM p t a b c) ⟨ZiC p0 _ _ _,h.ib,h.ic⟩,rfl⟩
 ·exact⟨0,a,c,_,_,_,rfl,rfl,rfl,h.of (k:=1) h.p4.o1 (ZxL p t a b c) ⟨ZiC p0 _ _ _,h.ib,h.ic⟩,rfl⟩
 ·exact⟨1,b,a,_,_,_,rfl,rfl,rfl,h.of (k:=1) h.p4.o1 (ZxK p t a b c) ⟨h.ia,ZiC p0 _ _ _,h.ic⟩,rfl⟩
 ·exact⟨1,b,c,_,_,_,rfl,rfl,rfl,h.of (k:=1) h.p4.o1 (ZxJ p t a b c) ⟨h.ia,ZiC p0 _ _ _,h.ic⟩,rfl⟩
 ·exact⟨2,c,a,_,_,_,rfl,rfl,rfl,h.of (k:=1) h.p4.o1 (ZxI p t a b c) ⟨h.ia,h.ib,ZiC p0 _ _ _⟩,rfl⟩
 ·exact⟨2,c,b,_,_,_,rfl,rfl,rfl,h.of (k:=1) h.p4.o1 (ZxH p t a b c) ⟨h.ia,h.ib,ZiC p0 _ _ _⟩,rfl⟩
theorem Zno{p:Int}{a b c:R3}{i j:Int}(h:GoodR p a b c)(ij:Ij i j):∃ (x y z:R3),Zdf (L3 a b c) j=.ok (Zb5 x)/\Zdf (L3 a b c) i=.ok (Zb5 y)/\Zdf (L3 a b c) (3-i-j)=.ok (Zb5 z)/\GoodR p x y z:=by
 rcases ij with ⟨rfl,rfl⟩|⟨rfl,rfl⟩|⟨rfl,rfl⟩|⟨rfl,rfl⟩|⟨rfl,rfl⟩|⟨rfl,rfl⟩
 ·exact⟨b,a,c,rfl,rfl,rfl,h.of (k:=-1) h.p4.m1 (Cg.of (by unfold Zaa det;grind)) ⟨h.ib,h.ia,h.ic⟩⟩
 ·exact⟨c,a,b,rfl,rfl,rfl,h.of (k:=1) h.p4.o1 (Cg.of (by unfold Zaa det;grind)) ⟨h.ic,h.ia,h.ib⟩⟩
 ·exact⟨a,b,c,rfl,rfl,rfl,h⟩
 ·exact⟨c,b,a,rfl,rfl,rfl,h.of (k:=-1) h.p4.m1 (Cg.of (by unfold Zaa det;grind)) ⟨h.ic,h.ib,h.ia⟩⟩
 ·exact⟨a,c,b,rfl,rfl,rfl,h.of (k:=-1) h.p4.m1 (Cg.of (by unfold Zaa det;grind)) ⟨h.ia,h.ic,h.ib⟩⟩
 ·exact⟨b,c,a,rfl,rfl,rfl,h.of (k:=1) h.p4.o1 (Cg.of (by unfold Zaa det;grind)) ⟨h.ib,h.ic,h.ia⟩⟩
section
variable {Γ:Gam} {ns:List Int} {p:Int} {a b c:R3} {s2 s4 s5 s6 s7 s8:Sl}
theorem ZmX(hm:Zfp Γ 228 ns)(h:GoodR p a b c){at_ k:Int}(ha:0<=at_)(hk:0<=k):∃ a' b' c' v5 v6 v7 v8,GoodR p a' b' c'/\ZcI Γ 4 Zai (.int k) [si p,sh (scr ns),si at_,some (.lst (L3 a b c),true),s4,s5,s6,s7,s8,none,none,none]=.next [si p,sh (scr ns),si at_,some (.lst (L3 a' b' c'),true),si k,v5,v6,v7,v8,none,none,none]:=by
 have p0:=h.p4.pos
 have ph:=h.p4.hi
 obtain⟨m,m0,e0⟩:=hm (at_+k) (by omega)
 generalize hi:m%3=i
 generalize hj:(i+1+m / 3%2)%3=j
 have ij:=ZwS hi hj
 have t0:=Int.emod_nonneg (m / 6) (b:=p) (by omega)
 have t1:=Int.emod_lt_of_pos (m / 6) p0
 generalize ht:m / 6%p=t at t0 t1
 have mt:∀ x,Zba t x=true:=fun x=>Zbs (by omega) (by omega)
 obtain⟨i',x,y,a',b',c',gi,gj,pi,g',es⟩:=Znp (t:=t) h ij
 obtain⟨x2,y2,z2,f1,f2,f3,g2⟩:=Zno g' ij
 have pi':plD (L3 a b c).length i=some i':=pi
 have e1:evSs Γ [si p,sh (scr ns),si at_,some (.lst (L3 a b c),true),si k,s5,s6,s7,s8,none,none,none] (Zai.take 4)=.next [si p,sh (scr ns),si at_,some (.lst (L3 a b c),true),si k,si m,si i,si j,si t,none,none,none]:=by
  simp[Zai,Ss.take,e0,hi,hj,ht,p0]
 have cp:Zal (cGT Γ [si p,sh (scr ns),si at_,some (.lst (L3 a b c),true),si k,si m,si i,si j,si t,none,none,none] [9,10] Zbe) (cFT Γ [si p,sh (scr ns),si at_,some (.lst (L3 a b c),true),si k,si m,si i,si j,si t,none,none,none] [9,10] Zbg) (ZfT [.int x.1,.int x.2.1,.int x.2.2] [.int y.1,.int y.2.1,.int y.2.2])=.ok [.int ((x.1+t*y.1)%p),.int ((x.2.1+t*y.2.1)%p),.int ((x.2.2+t*y.2.2)%p)]:=by
  generalize x.1=x0
  generalize x.2.1=x1
  generalize x.2.2=x2
  generalize y.1=y0
  generalize y.2.1=y1
  generalize y.2.2=y2
  simp[Zal,cGT,cFT,ZfT,Zbg,Zbe,p0,mt]
 have gi':Zdf (L3 a b c) i=.ok (.lst [.int x.1,.int x.2.1,.int x.2.2]):=gi
 have gj':Zdf (L3 a b c) j=.ok (.lst [.int y.1,.int y.2.1,.int y.2.2]):=gj
 have rd:D.lst [.int ((x.1+t*y.1)%p),.int ((x.2.1+t*y.2.1)%p),.int ((x.2.2+t*y.2.2)%p)]=Zb5 (adR p t x y):=rfl
 have fin:∀ {o},evSs Γ [si p,sh (scr ns),si at_,some (.lst (L3 a b c),true),si k,si m,si i,si j,si t,none,none,none] (Zai.drop 4)=o->ZcI Γ 4 Zai (.int k) [si p,sh (scr ns),si at_,some (.lst (L3 a b c),true),s4,s5,s6,s7,s8,none,none,none]=o:=fun {o} h=>by
  show evSs Γ [si p,sh (scr ns),si at_,some (.lst (L3 a b c),true),si k,s5,s6,s7,s8,none,none,none] Zai=o
  rw[ZhV Γ 4,e1]
  exact h
 have sL:L3 x2 y2 z2=[Zb5 x2,Zb5 y2,Zb5 z2]:=rfl
 by_cases q:m / 100%3=1
 ·refine⟨x2,y2,z2,si m,si i,si j,si t,g2,fin ?_⟩
  rw[sL]
  clear e1 fin sL
  generalize L3 a b c=LL at *
  generalize L3 a' b' c'=LM at *
  generalize Zb5 x2=rx at *
  generalize Zb5 y2=ry at *
  generalize Zb5 z2=rz at *
  generalize scr ns=S at *
  simp[Zai,Ss.drop,ZgW,Zef,gi',gj',pi',cp,rd,es,q,f1,f2,f3,ZfB]
 ·refine⟨a',b',c',si m,si i,si j,si t,g',fin ?_⟩
  clear e1 fin sL
  generalize L3 a b c=LL at *
  generalize L3 a' b' c'=LM at *
  generalize scr ns=S at *
  simp[Zai,Ss.drop,ZgW,Zef,gi',gj',pi',cp,rd,es,q]
end
def ZpB(Γ:Gam)(ns:List Int):Prop:=∀ (p at_:Int),P4 p->0<=at_->∃ a b c,GoodR p a b c/\Γ.F 250 [.int p,scr ns,.int at_]=.ok (ZaI a b c)
theorem Znu{Γ:Gam}{ns:List Int}(hm:Zfp Γ 228 ns)(p at_:Int)(hp:P4 p)(ha:0<=at_):∃ a b c,GoodR p a b c/\ZbW.run Γ [.int p,scr ns,.int at_]=.ok (ZaI a b c):=by
 have p0:=hp.pos
 have g0:GoodR p e0R e1R e2R:=(ZjW hp).1
 have rg:ZaB 0 6=.ok (Zfb 0 6):=rfl
 obtain⟨ρ',e,a,b,c,s4,s5,s6,s7,s8,g,rfl⟩:=ZhU (body:=ZcI Γ 4 Zai) (fun ρ=>∃ a b c s4 s5 s6 s7 s8,GoodR p a b c/\ρ=[si p,sh (scr ns),si at_,some (.lst (L3 a b c),true),s4,s5,s6,s7,s8,none,none,none]) (Zfb 0 6) [si p,sh (scr ns),si at_,some (.lst (L3 e0R e1R e2R),true),none,none,none,none,none,none,none,none] ⟨_,_,_,_,_,_,_,_,g0,rfl⟩ (by
  rintro x hx ρ ⟨a,b,c,s4,s5,s6,s7,s8,g,rfl⟩
  obtain⟨k,_,rfl⟩:=Zlt hx
  obtain⟨a',b',c',v5,v6,v7,v8,g',e⟩:=ZmX (s4:=s4) (s5:=s5) (s6:=s6) (s7:=s7) (s8:=s8) hm g ha (k:=0+(k:Int)) (by omega)
  exact⟨_,e,a',b',c',_,_,_,_,_,g',rfl⟩)
 obtain⟨m,m0,e2⟩:=hm (at_+6) (by omega)
 have q1:0<p-1:=by have:=hp.lo;omega
 have q2:1<p:=by have:=hp.lo;omega
 have t0:0<1+m%(p-1):=by have:=Int.emod_nonneg m (b:=p-1) (by omega);omega
 have t1:1+m%(p-1)<p:=by have:=Int.emod_lt_of_pos m q1;omega
 generalize ht:1+m%(p-1)=t at t0 t1
 have tz:t%p≠0:=by rw[Int.emod_eq_of_lt (by omega) t1];omega
 have mt:∀ x,Zba t x=true:=fun x=>Zbs (by omega) (by have:=hp.hi;omega)
 refine⟨scR p t a,b,c,g.of (k:=t) tz (ZzU p t a b c) ⟨Zvp p0 _ _,g.ib,g.ic⟩,?_⟩
 have cp:Zal (cG Γ [si p,sh (scr ns),si at_,some (.lst (L3 a b c),true),s4,s5,s6,s7,si t,none,none,none] 11 Zcb) (cF Γ [si p,sh (scr ns),si at_,some (.lst (L3 a b c),true),s4,s5,s6,s7,si t,none,none,none] 11 Zbf) [.int a.1,.int a.2.1,.int a.2.2]=.ok [.int (a.1*t%p),.int (a.2.1*t%p),.int (a.2.2*t%p)]:=by
  refine ZbM (φ:=fun x=>x*t%p) [a.1,a.2.1,a.2.2] fun x _=>⟨rfl,?_⟩
  simp[cF,Zbf,mt,p0,Int.mul_comm]
 have e':ZdH (ZcI Γ 4 Zai) (Zfb 0 6) [si p,sh (scr ns),si at_,some (.lst [.lst [.int 1,.int 0,.int 0],.lst [.int 0,.int 1,.int 0],.lst [.int 0,.int 0,.int 1]],true),none,none,none,none,none,none,none,none]=_:=e
 have g0':Zdf (L3 a b c) 0=.ok (.lst [.int a.1,.int a.2.1,.int a.2.2]):=rfl
 have pl:plD (L3 a b c).length 0=some 0:=rfl
 have out:D.lst ((L3 a b c).set 0 (.lst [.int (a.1*t%p),.int (a.2.1*t%p),.int (a.2.2*t%p)]))=ZaI (scR p t a) b c:=rfl
 clear e
 rw[<- out]
 clear out
 generalize L3 a b c=LL at *
 generalize Zfb 0 6=RL at *
 generalize scr ns=S at *
 simp[ZbW,Df.run,Zaf,ZfB,rg,e',e2,q1,q2,ht,ZgW,Zef,g0',pl,cp]
section
variable {p:Int} {C:C6} {a b c A B P U l m:R3}
theorem swp(h:Zag U m%p=0):Zag m U%p=0:=by rw[Zch];exact h
theorem ZhB(hp:P4 p)(d:Zaa A B P%p≠0)(h1:Zag A m%p=0)(h2:Zag P m%p=0)(h3:Zaa A P U%p=0):Zag U m%p=0:=by
 have e:Zaa A B P*Zag U m=Zag A m*Zaa U B P-Zag P m*Zaa U B A-Zag B m*Zaa A P U:=by
  unfold Zaa det Zag
  grind
 have q:Cg p (Zaa A B P*Zag U m) 0:=by
  rw[e]
  have k1:Cg p (Zag A m*Zaa U B P) 0:=by rw[Int.mul_comm];exact cg0 h1
  have k2:Cg p (Zag P m*Zaa U B A) 0:=by rw[Int.mul_comm];exact cg0 h2
  have k3:Cg p (Zag B m*Zaa A P U) 0:=cg0 h3
  exact(k1.sub k2).sub k3
 have q':Zaa A B P*Zag U m%p=0:=by rw[show _%p=0%p from q,Int.zero_emod]
 exact(Zcx hp d).mp q'
theorem ZlB(hp:P4 p)(z:Zaa a b c%p≠0)(w:Whl p C)(h:PrC p C (E4 0 (ZjF p) a b c))(hA:A∈ZfR p C)(hB:B∈ZfR p C)(hU:U∈ZfR p C)(nAB:A≠B)(nAU:A≠U)(nBU:B≠U)(nl:NF p l)(pl:Pr p l (crs A B)):FOn p C A B (pole p C l) U/\NF p (pole p C l)/\ZiE p A B (pole p C l) U:=by
 obtain⟨nP,eP⟩:=ZnW hp w nl
 have nA:=(Za6 hp).mp (List.mem_filter.mp hA).1
 have nB:=(Za6 hp).mp (List.mem_filter.mp hB).1
 have vA:=of_decide_eq_true (List.mem_filter.mp hA).2
 have vB:=of_decide_eq_true (List.mem_filter.mp hB).2
 have vU:=of_decide_eq_true (List.mem_filter.mp hU).2
 have lA:Zag A l%p=0:=(ZgM hp pl).mpr (by rw[(Zke A B).1];exact Int.zero_emod _)
 have lB:Zag B l%p=0:=(ZgM hp pl).mpr (by rw[(Zke A B).2];exact Int.zero_emod _)
 generalize pole p C l=P at *
 have bA:bI C A P%p=0:=by rw[Zcu];exact(Zdp hp w nP).mp (by rw[eP];exact lA)
 have bB:bI C B P%p=0:=by rw[Zcu];exact(Zdp hp w nP).mp (by rw[eP];exact lB)
 have d1:Zaa A B P%p≠0:=fun e=>by
  have e1:Zag P l%p=0:=(ZgM hp pl).mpr e
  have e2:bI C P P%p=0:=(Zdp hp w nP).mp (by rw[eP];exact e1)
  rw[Zb3] at e2
  have z2:(2:Int)%p≠0:=by rcases hp with rfl|rfl|rfl|rfl<;>decide
  have vP:vI C P%p=0:=(Zcx hp z2).mp e2
  have hP:P∈ZfR p C:=List.mem_filter.mpr ⟨(Za6 hp).mpr nP,decide_eq_true vP⟩
  have m1:=ZgQ hp z w h hP
  rw[eP] at m1
  have a1:A∈Zoq p C l:=(ZfC hp).mpr ⟨hA,lA⟩
  have b1:B∈Zoq p C l:=(ZfC hp).mpr ⟨hB,lB⟩
  rw[m1] at a1 b1
  exact nAB ((List.mem_singleton.mp a1).trans (List.mem_singleton.mp b1).symm)
 have d2:=ZnR hp z h hA hB hU nAB nAU nBU
 have tA:Zag A (pol p C A)%p=0:=(Zdp hp w nA).mpr (by rw[Zb3,Int.mul_emod,vA];simp)
 have tB:Zag B (pol p C B)%p=0:=(Zdp hp w nB).mpr (by rw[Zb3,Int.mul_emod,vB];simp)
 have pA:Zag P (pol p C A)%p=0:=(Zdp hp w nA).mpr bA
 have pB:Zag P (pol p C B)%p=0:=(Zdp hp w nB).mpr bB
 have d3:Zaa A P U%p≠0:=fun e=>by
  have e1:=ZhB hp d1 tA pA e
  have u1:U∈Zoq p C (pol p C A):=(ZfC hp).mpr ⟨hU,e1⟩
  rw[ZgQ hp z w h hA] at u1
  exact nAU (List.mem_singleton.mp u1).symm
 have d1':Zaa B A P%p≠0:=by
  have:Zaa B A P=(-1)*Zaa A B P:=by unfold Zaa det;grind
  rw[this]
  exact Zae hp hp.m1 d1
 have d4:Zaa B P U%p≠0:=fun e=>by
  have e1:=ZhB hp d1' tB pB e
  have u1:U∈Zoq p C (pol p C B):=(ZfC hp).mpr ⟨hU,e1⟩
  rw[ZgQ hp z w h hB] at u1
  exact nBU (List.mem_singleton.mp u1).symm
 exact⟨⟨vA,vB,vU,bA,bB⟩,nP,d1,d2,d3,d4⟩
end
theorem Zez{p:Int}{f0 f1 f2 f3:R3}(hp:P4 p)(g:ZiE p f0 f1 f2 f3):∃ a b c,GoodR p a b c/\Led p a b c e0R e1R e2R e3R f0 f1 f2 f3:=by
 obtain⟨g0,g1,g2,g3⟩:=g
 have k0:Zaa f3 f1 f2%p≠0:=by
  have:Zaa f3 f1 f2=1*Zaa f1 f2 f3:=by unfold Zaa det;grind
  rw[this];exact Zae hp hp.o1 g3
 have k1:Zaa f0 f3 f2%p≠0:=by
  have:Zaa f0 f3 f2=(-1)*Zaa f0 f2 f3:=by unfold Zaa det;grind
  rw[this];exact Zae hp hp.m1 g2
 have k2:=g1
 have cr:=Zmz f0 f1 f2 f3
 generalize Zaa f3 f1 f2=x0 at *
 generalize Zaa f0 f3 f2=x1 at *
 generalize Zaa f0 f1 f3=x2 at *
 have zz:Zaa (Zaq (Zah x0 f0) (Zah x1 f1) (Zah x2 f2)) (Zan (Zah x0 f0) (Zah x1 f1) (Zah x2 f2)) (Zam (Zah x0 f0) (Zah x1 f1) (Zah x2 f2))%p≠0:=by
  rw[Zg0,Zd5]
  exact Zae hp (Zae hp (Zae hp k0 k1) k2) g0
 obtain⟨l,t,_,_,tz,gd,_⟩:=ZcN hp zz
 have key:∀ (e f:R3) (k:Int),k%p≠0->ap (Zaq (Zah x0 f0) (Zah x1 f1) (Zah x2 f2)) (Zan (Zah x0 f0) (Zah x1 f1) (Zah x2 f2)) (Zam (Zah x0 f0) (Zah x1 f1) (Zah x2 f2)) e=Zah k f->Pr p f (ap (fmR p t (Zaq (Zah x0 f0) (Zah x1 f1) (Zah x2 f2))) (fmR p t (Zan (Zah x0 f0) (Zah x1 f1) (Zah x2 f2))) (fmR p t (Zam (Zah x0 f0) (Zah x1 f1) (Zah x2 f2))) e):=fun e f k kz q=>by
  refine Pr.symm hp ((Pr.tab tz (Zbd p t _) (Zbd p t _) (Zbd p t _)).trans hp ?_)
  rw[q]
  exact⟨k,kz,CgR.rfl⟩
 refine⟨_,_,_,gd,key _ _ x0 k0 ?_,key _ _ x1 k1 ?_,key _ _ x2 k2 ?_,key _ _ (Zaa f0 f1 f2) g0 ?_⟩
 ·unfold ap Zag Zaq Zan Zam Zah e0R;simp
 ·unfold ap Zag Zaq Zan Zam Zah e1R;simp
 ·unfold ap Zag Zaq Zan Zam Zah e2R;simp
 ·rw[cr];unfold ap Zag Zaq Zan Zam Zah e3R;simp
theorem Zwl(k:Int)(a b c:R3):pb C0p a b c=scC (-1) (E4 0 k a b c):=by
 unfold pb C0p E4 ZlZ prd scC vI bI tw0 tw1 tw2 ap Zag Zaq Zan Zam
 simp only[C6.mk.injEq]
 refine⟨?_,?_,?_,?_,?_,?_⟩<;>grind
theorem Zx7{p:Int}{C:C6}{a b c:R3}(hp:P4 p)(h:PrC p C (pb C0p a b c)):PrC p C (E4 0 (ZjF p) a b c):=by
 refine h.trans hp ⟨-1,hp.m1,CgC.of (Zwl _ a b c)⟩
noncomputable def Zip(p:Int):List R3:=(ZcQ p).map (mdR p)
theorem Zlo{p:Int}(hp:P4 p):(Zip p).Nodup:=by
 rcases hp with rfl|rfl|rfl|rfl<;>decide +kernel
theorem Zjy{p:Int}(hp:P4 p):∀ x∈Zip p,x∈Zkz p/\vI C0p x%p=0:=by
 rcases hp with rfl|rfl|rfl|rfl<;>decide +kernel
theorem Zn5{p:Int}(hp:P4 p):∀ x∈Zkz p,vI C0p x%p=0->x∈Zip p:=by
 rcases hp with rfl|rfl|rfl|rfl<;>decide +kernel
theorem Zdo{p:Int}(hp:P4 p)(x:R3):x∈Zip p↔NF p x/\vI C0p x%p=0 :=
 ⟨fun h=>⟨(Za6 hp).mp (Zjy hp x h).1,(Zjy hp x h).2⟩,fun h=>Zn5 hp x ((Za6 hp).mpr h.1) h.2⟩
theorem Zoj{p l l':Int}{r s:R3}(hp:P4 p)(er:Zap p (tri r)=some l)(es:Zap p (tri s)=some l')(h:CgR p r s):nrm p r=nrm p s:=by
 obtain⟨h1,h2⟩:=Zen hp er
 obtain⟨h3,h4⟩:=Zen hp es
 exact Zdr hp h1 h3 ((h2.trans hp (Pr.cg hp h)).trans hp (h4.symm hp))
theorem ZhH{p:Int}{a b c:R3}(hp:P4 p)(z:Zaa a b c%p≠0):((ZcQ p).map fun x=>nrm p (ap a b c x))=(Zip p).map fun x=>nrm p (ap a b c x):=by
 unfold Zip
 rw[List.map_map]
 refine List.map_congr_left fun x hx=>?_
 obtain⟨l,el⟩:=(ZgL hp hx).2
 have g:CgR p (mdR p x) x:=CgR.md rfl
 have g':CgR p (ap a b c x) (ap a b c (mdR p x)):=ZlM CgR.rfl CgR.rfl CgR.rfl g.symm
 obtain⟨l1,e1⟩:=ZeS hp z el (CgR.rfl (a:=ap a b c x))
 obtain⟨l2,e2⟩:=ZeS hp z el g'.symm
 exact Zoj hp e1 e2 g'
noncomputable def Zc7:Df:=⟨3,false,(.cons (.ret (.lst (.cons (.idx (.var 2) (.int 0)) (.cons (.idx (.var 2) (.int 1)) (.cons (.call 149 (.cons (.var 0) (.cons (.var 1) (.cons (.call 57 (.cons (.var 0) (.cons (.idx (.var 2) (.int 0)) (.cons (.idx (.var 2) (.int 1)) .nil)))) .nil)))) (.cons (.idx (.var 2) (.int 2)) .nil)))))) .nil)⟩
def ZkA(Γ:Gam):Prop:=∀ {p:Int} {a b c f0 f1 f2 f3 g0 g1 g2 g3:R3},GoodR p a b c->Zap p (nine a b c)=some 1->Frm p f0 f1 f2 f3->Frm p g0 g1 g2 g3->Led p a b c f0 f1 f2 f3 g0 g1 g2 g3->Γ.F 112 [.int p,ZaX f0 f1 f2 f3,ZaX g0 g1 g2 g3]=.ok (Zax a b c)
theorem sl3(A B U:R3)(rest:List R3):slD (Zac (A::B::U::rest)) none (some 3)=.ok (Zac [A,B,U]):=by
 show R.ok (D.lst (Zmy _ _ _))=_
 unfold Zmy Zhz
 simp[Zac]
theorem ZlO(x:R3)(l:List R3):(l.map (Zab true)).any (fun y=>eqD y (Zab true x))=decide (x∈l):=by
 induction l with
 | nil=>simp
 | cons y l ih =>
  rw[List.map_cons,List.any_cons,ih,Zmt,Bool.eq_iff_iff,Bool.or_eq_true,decide_eq_true_eq,decide_eq_true_eq,decide_eq_true_eq,List.mem_cons]
  exact or_congr ⟨Eq.symm,Eq.symm⟩ Iff.rfl
theorem Zeo(x:R3)(l:List R3):Zbt .In (Zab true x) (Zac l)=.ok (.bl (decide (x∈l))):=by
 have k1:(l.map (Zab true)).all (flD 5)=true:=by
  rw[List.all_eq_true]
  intro y hy
  obtain⟨z,_,rfl⟩:=List.mem_map.mp hy
  exact(Zgg z).1
 show (if (flD 5 (Zab true x)&&(l.map (Zab true)).all (flD 5))=true then R.ok (D.bl ((l.map (Zab true)).any fun y=>eqD y (Zab true x))) else R.bad)=_
 rw[k1,(Zgg x).1,if_pos (show (true&&true)=true from rfl),ZlO]
structure Fb (p:Int) (C:C6) (A B P U:R3):Prop where
 nA:NF p A
 nB:NF p B
 nP:NF p P
 nU:NF p U
 ne:A≠B
 ne2:A≠U
 ne3:B≠U
 on:FOn p C A B P U
 gen:ZiE p A B P U
 ln:∃ l,NF p l/\Pr p l (crs A B)/\P=pole p C l
theorem Zw6{Γ:Gam}(hj:Zfq Γ){p:Int}{C:C6}{a b c A B U:R3}(hp:P4 p)(z:Zaa a b c%p≠0)(w:Whl p C)(h:PrC p C (E4 0 (ZjF p) a b c))(hA:A∈ZfR p C)(hB:B∈ZfR p C)(hU:U∈ZfR p C)(n1:A≠B)(n2:A≠U)(n3:B≠U):∃ P,Fb p C A B P U:=by
 have nA:=(Za6 hp).mp (List.mem_filter.mp hA).1
 have nB:=(Za6 hp).mp (List.mem_filter.mp hB).1
 have nU:=(Za6 hp).mp (List.mem_filter.mp hU).1
 obtain⟨l,nl,pl,_⟩:=ZjT hj hp nA nB n1
 obtain⟨f,nP,g⟩:=ZlB hp z w h hA hB hU n1 n2 n3 nl pl
 exact⟨_,nA,nB,nP,nU,n1,n2,n3,f,g,l,nl,pl,rfl⟩
def ZkG(Γ:Gam):Prop:=∀ (p:Int) (C:C6) (A B P U:R3),P4 p->InC p C->Whl p C->Fb p C A B P U->Γ.F 150 [.int p,Za7 C,Zac [A,B,U]]=.ok (ZaX A B P U)
theorem ZnJ{Γ:Gam}(hj:Zfq Γ)(hl:Zhd Γ)(p:Int)(C:C6)(A B P U:R3)(hp:P4 p)(iC:InC p C)(w:Whl p C)(h:Fb p C A B P U):Zc7.run Γ [.int p,Za7 C,Zac [A,B,U]]=.ok (ZaX A B P U):=by
 obtain⟨l,nl,pl,rfl⟩:=h.ln
 obtain⟨y,ny,py,e1⟩:=ZjT hj hp h.nA h.nB h.ne
 have q:y=l:=Zdr hp ny nl (py.trans hp (pl.symm hp))
 rw[q] at e1
 have e2:=hl p C l hp iC w nl
 have i0:Zbc (Zac [A,B,U]) (.int 0)=.ok (Zab true A):=rfl
 have i1:Zbc (Zac [A,B,U]) (.int 1)=.ok (Zab true B):=rfl
 have i2:Zbc (Zac [A,B,U]) (.int 2)=.ok (Zab true U):=rfl
 unfold ZaX
 generalize Zac [A,B,U]=T at *
 generalize Zab true A=ta at *
 generalize Zab true B=tb at *
 generalize Zab true U=tu at *
 generalize Zab true l=tl at *
 generalize Zab true (pole p C l)=tp at *
 generalize Za7 C=cC at *
 simp[Zc7,Df.run,Zaf,i0,i1,i2,e1,e2]
noncomputable def Zg6:Df:=⟨3,false,(.cons (.ret (.cmp .Eq (.call 133 (.cons (.var 0) (.cons (.var 1) (.cons (.var 2) .nil)))) (.var 1))) .nil)⟩
noncomputable def ZcY:Ss:=(.cons (.ife (.cmp .NotEq (.call 126 (.cons (.var 0) (.cons (.var 1) (.cons (.var 4) .nil)))) (.int 0)) (.cons (.rais 108 (.cons (.var 4) .nil)) .nil) .nil) (.cons (.ife (.cmp .In (.var 4) (.sl (.var 2) .non (.var 3))) (.cons (.rais 107 (.cons (.var 4) .nil)) .nil) .nil) .nil))
noncomputable def ZbV:Df:=⟨5,false,(.cons (.forT [3,4] (.enm (.var 2)) ZcY) .nil)⟩
noncomputable def ZdC:Df:=⟨4,false,(.cons (.expr (.call 147 (.cons (.var 0) (.cons (.var 1) .nil)))) (.cons (.ife (.or (.cons (.cmp .NotEq (.bi .len (.cons (.var 2) .nil)) (.int 3)) (.cons (.cmp .NotEq (.bi .len (.cons (.var 3) .nil)) (.int 3)) .nil))) (.cons (.rais 13 (.cons (.str (Str.ofString "three points are led to three")) .nil)) .nil) .nil) (.cons (.expr (.call 286 (.cons (.var 0) (.cons (.var 1) (.cons (.var 2) .nil))))) (.cons (.expr (.call 286 (.cons (.var 0) (.cons (.var 1) (.cons (.var 3) .nil))))) (.cons (.ret (.call 112 (.cons (.var 0) (.cons (.call 150 (.cons (.var 0) (.cons (.var 1) (.cons (.var 2) .nil)))) (.cons (.call 150 (.cons (.var 0) (.cons (.var 1) (.cons (.var 3) .nil)))) .nil))))) .nil)))))⟩
noncomputable def ZaA:Ss:=(.cons (.asg 5 false (.bin .Mod (.call 228 (.cons (.var 0) (.cons (.bin .Add (.var 1) (.var 4)) .nil))) (.bin .Add (.bi .len (.cons (.var 3) .nil)) (.int 1)))) (.cons (.asg 3 false (.bin .Add (.bin .Add (.sl (.var 3) .non (.var 5)) (.lst (.cons (.idx (.var 2) (.var 4)) .nil))) (.sl (.var 3) (.var 5) .non))) .nil))
noncomputable def ZaE:Df:=⟨6,false,(.cons (.asg 3 false (.lst .nil)) (.cons (.fors 4 (.rng (.bi .len (.cons (.var 2) .nil))) ZaA) (.cons (.ret (.var 3)) .nil)))⟩
noncomputable def Zcd:Ss:=(.cons (.ife (.cmp .NotEq (.call 289 (.cons (.var 0) (.cons (.var 6) (.cons (.var 7) .nil)))) (.var 8)) (.cons (.ret .non) .nil) .nil) .nil)
noncomputable def Zcc:E:=(.bl true)
noncomputable def Zbh:E:=(.cmp .In (.call 289 (.cons (.var 0) (.cons (.var 6) (.cons (.var 9) .nil)))) (.var 2))
noncomputable def Zbo:Df:=⟨10,false,(.cons (.asg 5 false (.lst (.cons (.bi .list (.cons (.var 3) .nil)) (.cons (.bi .list (.cons (.var 4) .nil)) .nil)))) (.cons (.asg 6 false (.call 287 (.cons (.var 0) (.cons (.var 1) (.cons (.idx (.var 5) (.int 0)) (.cons (.idx (.var 5) (.int 1)) .nil)))))) (.cons (.ife (.or (.cons (.cmp .NotEq (.var 5) (.lst (.cons (.var 3) (.cons (.var 4) .nil)))) (.cons (.no (.call 293 (.cons (.var 0) (.cons (.var 6) .nil)))) (.cons (.cmp .IsNot (.call 275 (.cons (.var 0) (.cons (.var 1) (.cons (.var 6) .nil)))) (.bl true)) .nil)))) (.cons (.ret .non) .nil) .nil) (.cons (.forT [7,8] (.zip (.var 3) (.var 4)) Zcd) (.cons (.ife (.no (.bi .all (.cons (.comp Zbh 9 (.e (.var 2)) Zcc) .nil))) (.cons (.ret .non) .nil) .nil) (.cons (.ret (.var 6)) .nil))))))⟩
def ZkK(Γ:Gam):Prop:=∀ (p:Int) (C:C6) (A B P U:R3),P4 p->InC p C->Fb p C A B P U->Γ.F 286 [.int p,Za7 C,Zac [A,B,U]]=.ok .non
theorem ZnM{Γ:Gam}(hv:Zhb Γ)(p:Int)(C:C6)(A B P U:R3)(hp:P4 p)(iC:InC p C)(h:Fb p C A B P U):ZbV.run Γ [.int p,Za7 C,Zac [A,B,U]]=.ok .non:=by
 have v0:=hv p C A hp iC h.nA.1
 have v1:=hv p C B hp iC h.nB.1
 have v2:=hv p C U hp iC h.nU.1
 rw[h.on.vA] at v0
 rw[h.on.vB] at v1
 rw[h.on.vU] at v2
 have s0:slD (Zac [A,B,U]) none (some 0)=.ok (Zac []):=rfl
 have s1:slD (Zac [A,B,U]) none (some 1)=.ok (Zac [A]):=rfl
 have s2:slD (Zac [A,B,U]) none (some 2)=.ok (Zac [A,B]):=rfl
 have c0:=Zeo A []
 have c1:=Zeo B [A]
 have c2:=Zeo U [A,B]
 rw[decide_eq_false (by simp)] at c0
 rw[decide_eq_false (by simpa using h.ne.symm)] at c1
 rw[decide_eq_false (by simpa using ⟨h.ne2.symm,h.ne3.symm⟩)] at c2
 have sq:ZaF (Zac [A,B,U])=.ok [Zab true A,Zab true B,Zab true U]:=rfl
 generalize Zac [A,B,U]=T at *
 generalize Zac [A,B]=T2 at *
 generalize Zac [A]=T1 at *
 generalize Zac []=T0 at *
 generalize Zab true A=ta at *
 generalize Zab true B=tb at *
 generalize Zab true U=tu at *
 generalize Za7 C=cC at *
 simp[ZbV,Df.run,Zaf,Ziy,ZdH,ZcI,Zj5,ZcY,ZbB,sq,v0,v1,v2,s0,s1,s2,c0,c1,c2]
def ZkD(Γ:Gam):Prop:=∀ (p:Int) (C:C6) (a b c A B P U A' B' P' U':R3),GoodR p a b c->Zap p (nine a b c)=some 1->InC p C->Whl p C->Fb p C A B P U->Fb p C A' B' P' U'->Led p a b c A B P U A' B' P' U'->Γ.F 287 [.int p,Za7 C,Zac [A,B,U],Zac [A',B',U']]=.ok (Zax a b c)
theorem ZnD{Γ:Gam}(hw:ZkJ Γ)(ha:ZkK Γ)(hf:ZkG Γ)(hm:ZkA Γ)(p:Int)(C:C6)(a b c A B P U A' B' P' U':R3)(T:GoodR p a b c)(l1:Zap p (nine a b c)=some 1)(iC:InC p C)(wC:Whl p C)(fC:Fb p C A B P U)(fE:Fb p C A' B' P' U')(L:Led p a b c A B P U A' B' P' U'):ZdC.run Γ [.int p,Za7 C,Zac [A,B,U],Zac [A',B',U']]=.ok (Zax a b c):=by
 have hp:=T.p4
 have e1:=hw p C hp iC wC
 have e2:=ha p C A B P U hp iC fC
 have e3:=ha p C A' B' P' U' hp iC fE
 have e5:=hf p C A B P U hp iC wC fC
 have e6:=hf p C A' B' P' U' hp iC wC fE
 have e7:=hm T l1 ⟨fC.nA.1,fC.nB.1,fC.nP.1,fC.nU.1,fC.gen⟩ ⟨fE.nA.1,fE.nB.1,fE.nP.1,fE.nU.1,fE.gen⟩ L
 have n1:biD .len [Zac [A,B,U]]=.ok (.int 3):=rfl
 have n2:biD .len [Zac [A',B',U']]=.ok (.int 3):=rfl
 generalize Zac [A,B,U]=R3 at *
 generalize Zac [A',B',U']=R4 at *
 generalize ZaX A B P U=R5 at *
 generalize ZaX A' B' P' U'=R6 at *
 generalize Zax a b c=R7 at *
 generalize Za7 C=cC at *
 simp[ZdC,Df.run,Zaf,e1,e2,e3,n1,n2,e5,e6,e7]
theorem kept{p:Int}{C:C6}{a b c A B P U A' B' P' U':R3}(T:GoodR p a b c)(w:Whl p C)(f:Fb p C A B P U)(f':Fb p C A' B' P' U')(L:Led p a b c A B P U A' B' P' U'):PrC p (pb C a b c) C:=ZjP T.p4 T.nz w w f.gen.1 f.gen.2.1 f.on f'.on L.h0 L.h1 L.h2 L.h3
def ZkC(Γ:Gam):Prop:=∀ (p:Int) (C:C6) (a b c:R3),GoodR p a b c->InC p C->Zap p C.l=some 1->PrC p (pb C a b c) C->Γ.F 275 [.int p,Za7 C,Zax a b c]=.ok (.bl true)
theorem ZnC{Γ:Gam}(hm:ZkB Γ)(p:Int)(C:C6)(a b c:R3)(T:GoodR p a b c)(iC:InC p C)(lC:Zap p C.l=some 1)(h:PrC p (pb C a b c) C):Zg6.run Γ [.int p,Za7 C,Zax a b c]=.ok (.bl true):=by
 obtain⟨E,iE,lE,pE,e⟩:=hm p C a b c iC lC T
 have q:E=C:=ZjD T.p4 iE iC lE lC (pE.trans T.p4 (ZjO T.p4 T.nz h))
 rw[q] at e
 have f1:flD 5 (Za7 C)=true:=rfl
 have f2:=ZfK 5 _ f1
 generalize Za7 C=cC at *
 generalize Zax a b c=R7 at *
 simp[Zg6,Df.run,Zaf,e,f1,f2]
theorem Zhy{n d:Nat}{i:Int}(h0:0<=i):Zhz n d (some i)=min i.toNat n:=by
 show (if i<0 then _ else _)=_
 rw[if_neg (by omega)]
theorem Zu1(M:List R3){i:Int}(h0:0<=i):slD (Zac M) none (some i)=.ok (Zac (M.take i.toNat)):=by
 show R.ok (D.lst (((M.map (Zab true)).drop 0).take (Zhz (M.map (Zab true)).length (M.map (Zab true)).length (some i)-0)))=_
 rw[Zhy h0,List.drop_zero,Nat.sub_zero,List.length_map]
 unfold Zac
 rw[List.map_take]
 congr 2
 by_cases h:i.toNat<=M.length
 ·rw[Nat.min_eq_left h]
 ·rw[Nat.min_eq_right (by omega),List.take_of_length_le (by simp),List.take_of_length_le (by simp;omega)]
theorem Zng(M:List R3){i:Int}(h0:0<=i)(h1:i.toNat<=M.length):slD (Zac M) (some i) none=.ok (Zac (M.drop i.toNat)):=by
 show R.ok (D.lst (((M.map (Zab true)).drop (Zhz (M.map (Zab true)).length 0 (some i))).take ((M.map (Zab true)).length-Zhz (M.map (Zab true)).length 0 (some i))))=_
 rw[Zhy h0]
 unfold Zac
 rw[List.map_drop,List.length_map,Nat.min_eq_left h1]
 congr 2
 exact List.take_of_length_le (by simp)
theorem Zgx(X Y:List R3)(h:X.length+Y.length<=1000):Zdg .Add (Zac X) (Zac Y)=.ok (Zac (X++Y)):=by
 show (if Zec ((X.map (Zab true)).length+(Y.map (Zab true)).length)=true then R.ok (D.lst (X.map (Zab true)++Y.map (Zab true))) else R.bad)=_
 have z:Zec ((X.map (Zab true)).length+(Y.map (Zab true)).length)=true:=Nat.ble_eq_true_of_le (by rw[List.length_map,List.length_map];omega)
 rw[if_pos z,<- List.map_append]
 rfl
theorem ZlA{L:List R3}{n:Nat}{x:R3}(h:L[n]?=some x):Zbc (Zac L) (.int (n:Int))=.ok (Zab true x):=by
 show Zdf (L.map (Zab true)) (n:Int)=_
 exact ZfI (by omega) (by rw[Int.toNat_natCast,List.getElem?_map,h];rfl)
def ZpD(Γ:Gam)(ns:List Int):Prop:=∀ (at_:Int) (L:List R3),0<=at_->L.length<=60->∃ M:List R3,M.Perm L/\Γ.F 251 [scr ns,.int at_,Zac L]=.ok (Zac M)
theorem Zn8{Γ:Gam}{ns:List Int}(hm:Zfp Γ 228 ns){at_:Int}{L M:List R3}{n:Nat}{x:R3}(ha:0<=at_)(hx:L[n]?=some x)(h5:M.length<=60){s4 s5:Sl}:∃ (M':List R3) (v5:Sl),M'.Perm (M++[x])/\ZcI Γ 4 ZaA (.int (n:Int)) [sh (scr ns),si at_,sh (Zac L),sh (Zac M),s4,s5]=.next [sh (scr ns),si at_,sh (Zac L),sh (Zac M'),si (n:Int),v5]:=by
 obtain⟨m,m0,e⟩:=hm (at_+(n:Int)) (by omega)
 have q0:=Int.emod_nonneg m (b:=(M.length:Int)+1) (by omega)
 have q1:=Int.emod_lt_of_pos m (b:=(M.length:Int)+1) (by omega)
 have ln:biD .len [Zac M]=.ok (.int (M.length:Int)):=ZhN M
 have lp:(0:Int)<(M.length:Int)+1:=by omega
 generalize hi:m%((M.length:Int)+1)=i at *
 have s1:=Zu1 M q0
 have s2:=Zng M q0 (by omega)
 have g:=ZlA hx
 have a1:=Zgx (M.take i.toNat) [x] (by simp;omega)
 have a2:=Zgx (M.take i.toNat++[x]) (M.drop i.toNat) (by simp;omega)
 refine⟨(M.take i.toNat++[x])++M.drop i.toNat,si i,?_,?_⟩
 ·have p1:((M.take i.toNat++[x])++M.drop i.toNat).Perm (x::(M.take i.toNat++M.drop i.toNat)):=by
   rw[List.append_assoc]
   exact List.perm_middle
  rw[List.take_append_drop] at p1
  exact p1.trans (List.perm_append_singleton x M).symm
 ·have rx:D.lst [Zab true x]=Zac [x]:=rfl
  generalize (M.length:Int)=N at *
  generalize Zac L=TL at *
  generalize Zac M=TM at *
  generalize Zac (M.take i.toNat)=T1 at *
  generalize Zac (M.drop i.toNat)=T2 at *
  generalize Zac (M.take i.toNat++[x])=T3 at *
  generalize Zac ((M.take i.toNat++[x])++M.drop i.toNat)=T4 at *
  rw[<- rx] at a1
  generalize Zab true x=tx at *
  generalize scr ns=S at *
  simp[ZcI,ZaA,e,ln,lp,hi,s1,s2,g,a1,a2]
theorem Zn7{Γ:Gam}{S TL TM:D}{at_ N:Int}{RL:List D}{s4 s5:Sl}(ln:biD .len [TL]=.ok (.int N))(rg:ZaB 0 N=.ok RL)(e:ZdH (ZcI Γ 4 ZaA) RL [sh S,si at_,sh TL,sh (.lst []),none,none]=.next [sh S,si at_,sh TL,sh TM,s4,s5]):ZaE.run Γ [S,.int at_,TL]=.ok TM:=by
 have e1:evSs Γ [sh S,si at_,sh TL,none,none,none] ZaE.body=ZgD Γ (.cons (.ret (.var 3)) .nil) (ZdH (ZcI Γ 4 ZaA) RL [sh S,si at_,sh TL,sh (.lst []),none,none]):=by
  simp[ZaE,ln,rg]
 show O.ans false (evSs Γ [sh S,si at_,sh TL,none,none,none] ZaE.body)=_
 rw[e1,e]
 simp
theorem Zny{Γ:Gam}{ns:List Int}(hm:Zfp Γ 228 ns)(at_:Int)(L:List R3)(ha:0<=at_)(hL:L.length<=60):∃ M:List R3,M.Perm L/\ZaE.run Γ [scr ns,.int at_,Zac L]=.ok (Zac M):=by
 have lp:=ZdN (body:=ZcI Γ 4 ZaA) (fun n ρ=>∃ (M:List R3) (s4 s5:Sl),M.Perm (L.take n)/\ρ=[sh (scr ns),si at_,sh (Zac L),sh (Zac M),s4,s5]) (Zfb 0 L.length) 0 [sh (scr ns),si at_,sh (Zac L),sh (Zac []),none,none] ⟨[],none,none,by simp,rfl⟩ (by
  rintro n y hy ρ ⟨M,s4,s5,pm,rfl⟩
  obtain⟨hn,rfl⟩:=ZfH hy
  rw[Nat.zero_add] at pm
  rw[Int.zero_add,Nat.zero_add]
  have hx:L[n]?=some L[n]:=List.getElem?_eq_getElem hn
  obtain⟨M',v5,pm',e⟩:=Zn8 (s4:=s4) (s5:=s5) hm ha hx (M:=M) (by rw[pm.length_eq];simp;omega)
  refine⟨_,e,M',_,_,?_,rfl⟩
  rw[List.take_succ,hx]
  exact pm'.trans (pm.append_right _))
 obtain⟨ρ',e,M,s4,s5,pm,rfl⟩:=lp
 rw[Nat.zero_add,ZbI,List.take_length] at pm
 refine⟨M,pm,?_⟩
 have ln:biD .len [Zac L]=.ok (.int (L.length:Int)):=ZhN L
 have rg:ZaB 0 (L.length:Int)=.ok (Zfb 0 ((L.length:Int)-0).toNat):=Zf2 (by decide) (by decide) (by omega) (by omega)
 rw[Int.sub_zero,Int.toNat_natCast] at rg
 have e0:Zac []=.lst []:=rfl
 rw[e0] at e
 generalize (L.length:Int)=N at *
 generalize Zfb 0 L.length=RL at *
 generalize Zac L=TL at *
 generalize Zac M=TM at *
 generalize scr ns=S at *
 exact Zn7 ln rg e
theorem Zgl{g:D->R Bool}{f:D->R D}:∀ (xs:List R3),(∀ x∈xs,g (Zab true x)=.ok true/\f (Zab true x)=.ok (.bl true))->∃ Y,Zal g f (xs.map (Zab true))=.ok Y/\Zd1 Y=.ok true
 | [],_=>⟨[],rfl,rfl⟩
 | x::xs,h=>by
  obtain⟨h1,h2⟩:=h x (List.mem_cons_self ..)
  obtain⟨Y,i1,i2⟩:=Zgl xs fun y hy=>h y (List.mem_cons_of_mem _ hy)
  refine⟨.bl true::Y,?_,?_⟩
  ·show (g (Zab true x)).bind _=_
   rw[h1,R.bind_ok,if_pos rfl,h2,R.bind_ok,show Zal g f (List.map _ xs)=_ from i1]
   rfl
  ·show (Zej (.bl true)).bind _=_
   rw[show Zej (.bl true)=.ok true from rfl,R.bind_ok,i2]
   rfl
def ZpC(Γ:Gam):Prop:=∀ (p:Int) (C:C6) (L:List R3) (a b c A B P U A' B' P' U':R3),GoodR p a b c->Zap p (nine a b c)=some 1->InC p C->Zap p C.l=some 1->Whl p C->(∀ x,x∈L↔NF p x/\vI C x%p=0)->Fb p C A B P U->Fb p C A' B' P' U'->Led p a b c A B P U A' B' P' U'->Γ.F 294 [.int p,Za7 C,Zac L,Zac [A,B,U],Zac [A',B',U']]=.ok (Zax a b c)
theorem Znv{Γ:Gam}(hk:ZkD Γ)(hi:ZkE Γ)(hs:ZkC Γ)(hl:ZfP Γ)(p:Int)(C:C6)(L:List R3)(a b c A B P U A' B' P' U':R3)(T:GoodR p a b c)(l1:Zap p (nine a b c)=some 1)(iC:InC p C)(lC:Zap p C.l=some 1)(wC:Whl p C)(hL:∀ x,x∈L↔NF p x/\vI C x%p=0)(fC:Fb p C A B P U)(fE:Fb p C A' B' P' U')(Ld:Led p a b c A B P U A' B' P' U'):Zbo.run Γ [.int p,Za7 C,Zac L,Zac [A,B,U],Zac [A',B',U']]=.ok (Zax a b c):=by
 have hp:=T.p4
 have e1:=hk p C a b c A B P U A' B' P' U' T l1 iC wC fC fE Ld
 have e2:=hi p a b c hp.pos T.ia T.ib T.ic l1
 have kp:=kept T wC fC fE Ld
 have e3:=hs p C a b c T iC lC kp
 have b3:∀ {r},In3 p r->B3 r:=fun h=>(ZbR hp h).b3 (by decide)
 have ld:∀ x,NF p x->Γ.F 289 [.int p,Zax a b c,Zab true x]=.ok (Zab true (nrm p (ap a b c x))):=fun x nx=>hl p true true true a b c x T (b3 nx.1) ⟨1,nx.2⟩
 have t0:nrm p (ap a b c A)=A':=Zdr hp (Zaw hp T.nz fC.nA).1 fE.nA ((Zaw hp T.nz fC.nA).2.trans hp (Ld.h0.symm hp))
 have t1:nrm p (ap a b c B)=B':=Zdr hp (Zaw hp T.nz fC.nB).1 fE.nB ((Zaw hp T.nz fC.nB).2.trans hp (Ld.h1.symm hp))
 have t2:nrm p (ap a b c U)=U':=Zdr hp (Zaw hp T.nz fC.nU).1 fE.nU ((Zaw hp T.nz fC.nU).2.trans hp (Ld.h3.symm hp))
 have d0:=ld A fC.nA
 have d1:=ld B fC.nB
 have d2:=ld U fC.nU
 rw[t0] at d0
 rw[t1] at d1
 rw[t2] at d2
 obtain⟨Y,cp,al⟩:=Zgl (g:=cG Γ [si p,sh (Za7 C),sh (Zac L),sh (Zac [A,B,U]),sh (Zac [A',B',U']),sh (.lst [Zac [A,B,U],Zac [A',B',U']]),sh (Zax a b c),sh (Zab true U),sh (Zab true U'),none] 9 Zcc) (f:=cF Γ [si p,sh (Za7 C),sh (Zac L),sh (Zac [A,B,U]),sh (Zac [A',B',U']),sh (.lst [Zac [A,B,U],Zac [A',B',U']]),sh (Zax a b c),sh (Zab true U),sh (Zab true U'),none] 9 Zbh) L fun x hx=>⟨rfl,by
  have nx:=((hL x).mp hx).1
  have e:=ld x nx
  have i:=Zeo (nrm p (ap a b c x)) L
  have mm:nrm p (ap a b c x)∈L:=(hL _).mpr ⟨(Zaw hp T.nz nx).1,(ZiR hp (Zaw hp T.nz nx).2).mpr ((ZrE hp kp x).mpr ((hL x).mp hx).2)⟩
  rw[decide_eq_true mm] at i
  generalize Zab true (nrm p (ap a b c x))=y at *
  generalize Zac L=TL at *
  generalize Zac [A,B,U]=R3 at *
  generalize Zac [A',B',U']=R4 at *
  generalize Zab true x=tx at *
  generalize Zab true U=tu at *
  generalize Zab true U'=tu' at *
  generalize Zax a b c=R7 at *
  generalize Za7 C=cC at *
  simp[cF,Zbh,e,i]⟩
 have g1:biD .list [Zac [A,B,U]]=.ok (Zac [A,B,U]):=rfl
 have g2:biD .list [Zac [A',B',U']]=.ok (Zac [A',B',U']):=rfl
 have f1:flD 5 (.lst [Zac [A,B,U],Zac [A',B',U']])=true:=rfl
 have f2:=ZfK 5 _ f1
 have sq1:ZaF (Zac [A,B,U])=.ok [Zab true A,Zab true B,Zab true U]:=rfl
 have sq2:ZaF (Zac [A',B',U'])=.ok [Zab true A',Zab true B',Zab true U']:=rfl
 have sq3:ZaF (Zac L)=.ok (L.map (Zab true)):=rfl
 obtain⟨h1,h2⟩:=Zgg A'
 obtain⟨h3,h4⟩:=Zgg B'
 obtain⟨h5,h6⟩:=Zgg U'
 have i0:Zbc (.lst [Zac [A,B,U],Zac [A',B',U']]) (.int 0)=.ok (Zac [A,B,U]):=rfl
 have i1:Zbc (.lst [Zac [A,B,U],Zac [A',B',U']]) (.int 1)=.ok (Zac [A',B',U']):=rfl
 clear ld kp
 generalize L.map (Zab true)=LM at *
 generalize Zac L=TL at *
 generalize Zac [A,B,U]=R3 at *
 generalize Zac [A',B',U']=R4 at *
 generalize Zab true A=ta at *
 generalize Zab true B=tb at *
 generalize Zab true U=tu at *
 generalize Zab true A'=ta' at *
 generalize Zab true B'=tb' at *
 generalize Zab true U'=tu' at *
 generalize Zax a b c=R7 at *
 generalize Za7 C=cC at *
 simp[Zbo,Df.run,Zaf,g1,g2,i0,i1,e1,e2,e3,f1,f2,sq1,sq2,sq3,ZfT,ZdH,ZcI,Zj5,Zcd,ZbB,d0,d1,d2,h1,h2,h3,h4,h5,h6,cp,al]
theorem ZhI{p:Int}{C:C6}{a b c:R3}(hp:P4 p)(z:Zaa a b c%p≠0)(h:PrC p C (pb C0p (bk0 a b c) (bk1 a b c) (bk2 a b c)))(y:R3):y∈((ZcQ p).map fun x=>nrm p (ap a b c x))↔NF p y/\vI C y%p=0:=by
 rw[ZhH hp z]
 constructor
 ·intro hy
  obtain⟨x,hx,rfl⟩:=List.mem_map.mp hy
  obtain⟨nx,vx⟩:=(Zdo hp x).mp hx
  exact⟨(Zaw hp z nx).1,(Zme hp z h nx).mpr vx⟩
 ·rintro⟨ny,vy⟩
  have zB:Zaa (bk0 a b c) (bk1 a b c) (bk2 a b c)%p≠0:=by rw[ZcF];exact Zae hp z z
  have hb:=Zf9 hp z ny
  have nx:=(Zaw hp zB ny).1
  refine List.mem_map.mpr ⟨nrm p (ap (bk0 a b c) (bk1 a b c) (bk2 a b c) y),(Zdo hp _).mpr ⟨nx,?_⟩,hb⟩
  rw[<- Zme hp z h nx,hb]
  exact vy
theorem Zn4{p:Int}{a b c:R3}(hp:P4 p)(z:Zaa a b c%p≠0):((ZcQ p).map fun x=>nrm p (ap a b c x)).Nodup:=by
 rw[ZhH hp z]
 refine Zf6 (Zlo hp) fun x hx y hy e=>?_
 have h1:=Zb8 hp z ((Zdo hp x).mp hx).1
 have h2:=Zb8 hp z ((Zdo hp y).mp hy).1
 rw[<- h1,<- h2,e]
theorem ZhJ{p:Int}(hp:P4 p):4<=(ZcQ p).length/\(ZcQ p).length<=60:=by
 rcases hp with rfl|rfl|rfl|rfl<;>decide +kernel
theorem Zfw{Γ:Gam}(hj:Zfq Γ){p:Int}{C:C6}{a b c:R3}{M:List R3}(hp:P4 p)(z:Zaa a b c%p≠0)(w:Whl p C)(h:PrC p C (pb C0p (bk0 a b c) (bk1 a b c) (bk2 a b c)))(pm:M.Perm ((ZcQ p).map fun x=>nrm p (ap a b c x))):∃ A B P U,slD (Zac M) none (some 3)=.ok (Zac [A,B,U])/\Fb p C A B P U:=by
  have ln:=pm.length_eq
  rw[List.length_map] at ln
  have w4:=(ZhJ hp).1
  have nd:=pm.nodup_iff.mpr (Zn4 hp z)
  have mem:∀ x∈M,x∈ZfR p C:=fun x hx=>by
    obtain⟨n,v⟩:=(ZhI hp z h x).mp (pm.mem_iff.mp hx)
    exact List.mem_filter.mpr ⟨(Za6 hp).mpr n,decide_eq_true v⟩
  have zB:Zaa (bk0 a b c) (bk1 a b c) (bk2 a b c)%p≠0:=by rw[ZcF];exact Zae hp z z
  match M,ln,nd,mem with
  | [],q,_,_=>exact absurd q (by simp;omega)
  | [_],q,_,_=>exact absurd q (by simp;omega)
  | [_,_],q,_,_=>exact absurd q (by simp;omega)
  | A::B::U::rest,_,nd,mem =>
    simp only[List.nodup_cons,List.mem_cons,not_or] at nd
    obtain⟨⟨n1,n2,_⟩,⟨n3,_⟩,_⟩:=nd
    obtain⟨P,f⟩:=Zw6 hj hp zB w (Zx7 hp h) (mem A (by simp)) (mem B (by simp)) (mem U (by simp)) n1 n2 n3
    exact⟨A,B,P,U,sl3 A B U rest,f⟩
noncomputable def ZcW:E:=(.bl true)
noncomputable def ZaK:E:=(.sl (.call 251 (.cons (.var 0) (.cons (.bin .Add (.bin .Mult (.int 20) (.var 10)) (.int 10)) (.cons (.var 4) .nil)))) .non (.int 3))
noncomputable def ZeN:Df:=⟨11,false,(.cons (.asg 1 false (.call 229 (.cons (.var 0) .nil))) (.cons (.asg 2 false (.call 250 (.cons (.var 1) (.cons (.var 0) (.cons (.int 1) .nil))))) (.cons (.asg 3 false (.call 292 (.cons (.var 1) (.cons (.var 2) .nil)))) (.cons (.asg 4 false (.call 290 (.cons (.var 1) (.cons (.var 2) .nil)))) (.cons (.asg 5 false (.comp ZaK 10 (.rng (.int 3)) ZcW)) (.cons (.asg 6 false (.call 294 (.cons (.var 1) (.cons (.var 3) (.cons (.var 4) (.cons (.idx (.var 5) (.int 0)) (.cons (.idx (.var 5) (.int 1)) .nil))))))) (.cons (.asg 7 false (.call 294 (.cons (.var 1) (.cons (.var 3) (.cons (.var 4) (.cons (.idx (.var 5) (.int 1)) (.cons (.idx (.var 5) (.int 2)) .nil))))))) (.cons (.asg 8 false (.call 294 (.cons (.var 1) (.cons (.var 3) (.cons (.var 4) (.cons (.idx (.var 5) (.int 0)) (.cons (.idx (.var 5) (.int 2)) .nil))))))) (.cons (.asg 9 false (.call 294 (.cons (.var 1) (.cons (.var 3) (.cons (.var 4) (.cons (.idx (.var 5) (.int 1)) (.cons (.idx (.var 5) (.int 0)) .nil))))))) (.cons (.ife (.or (.cons (.cmp .Is (.var 6) .non) (.cons (.cmp .Is (.var 7) .non) (.cons (.cmp .Is (.var 8) .non) (.cons (.cmp .Is (.var 9) .non) .nil))))) (.cons (.ret (.bl false)) .nil) .nil) (.cons (.ife (.cmp .NotEq (.call 291 (.cons (.var 1) (.cons (.call 279 (.cons (.var 1) (.cons (.var 7) (.cons (.var 6) .nil)))) .nil))) (.var 8)) (.cons (.ret (.bl false)) .nil) .nil) (.cons (.ret (.cmp .Eq (.call 291 (.cons (.var 1) (.cons (.call 279 (.cons (.var 1) (.cons (.var 9) (.cons (.var 6) .nil)))) .nil))) (.tup (.cons (.tup (.cons (.int 1) (.cons (.int 0) (.cons (.int 0) .nil)))) (.cons (.tup (.cons (.int 0) (.cons (.int 1) (.cons (.int 0) .nil)))) (.cons (.tup (.cons (.int 0) (.cons (.int 0) (.cons (.int 1) .nil)))) .nil)))))) .nil))))))))))))⟩
structure H82 (Γ:Gam) (ns:List Int):Prop where
 prime:∃ p,P4 p/\Γ.F 229 [scr ns]=.ok (.int p)
 tb:ZpB Γ ns
 cv:ZpE Γ
 ov:Zs6 Γ
 join:Zfq Γ
 rt:ZpC Γ
 ord:ZpD Γ ns
 pr:ZeW Γ
 tf:ZpA Γ
section
variable {Γ:Gam} {ns:List Int} {p:Int}
theorem Zr8(h:H82 Γ ns):ZeN.run Γ [scr ns]=.ok (.bl true):=by
 obtain⟨p,hp,e1⟩:=h.prime
 have p0:=hp.pos
 obtain⟨a,b,c,G,e2⟩:=h.tb p 1 hp (by decide)
 obtain⟨C,iC,lC,pC,wC,e3⟩:=h.cv p a b c G
 have e4:=h.ov p a b c G
 have hL:=ZhI hp G.nz pC
 have ll:((ZcQ p).map fun x=>nrm p (ap a b c x)).length<=60:=by rw[List.length_map];exact(ZhJ hp).2
 obtain⟨M0,pm0,o0⟩:=h.ord 10 _ (by decide) ll
 obtain⟨M1,pm1,o1⟩:=h.ord 30 _ (by decide) ll
 obtain⟨M2,pm2,o2⟩:=h.ord 50 _ (by decide) ll
 obtain⟨A0,B0,P0,U0,s0,f0⟩:=Zfw h.join hp G.nz wC pC pm0
 obtain⟨A1,B1,P1,U1,s1,f1⟩:=Zfw h.join hp G.nz wC pC pm1
 obtain⟨A2,B2,P2,U2,s2,f2⟩:=Zfw h.join hp G.nz wC pC pm2
 obtain⟨x0,x1,x2,Gx,Lx⟩:=Zez hp f0.gen
 obtain⟨y0,y1,y2,Gy,Ly⟩:=Zez hp f1.gen
 obtain⟨z0,z1,z2,Gz,Lz⟩:=Zez hp f2.gen
 obtain⟨m0,m1,m2,Gm,lm,Lm⟩:=Zon hp Gx Gy Lx Ly
 obtain⟨n0,n1,n2,Gn,lnn,Ln⟩:=Zon hp Gy Gz Ly Lz
 obtain⟨k0,k1,k2,Gk,lk,Lk⟩:=Zon hp Gy Gx Ly Lx
 have R1:=h.rt p C _ m0 m1 m2 A0 B0 P0 U0 A1 B1 P1 U1 Gm lm iC lC wC hL f0 f1 Lm
 have R2:=h.rt p C _ n0 n1 n2 A1 B1 P1 U1 A2 B2 P2 U2 Gn lnn iC lC wC hL f1 f2 Ln
 have R4:=h.rt p C _ k0 k1 k2 A1 B1 P1 U1 A0 B0 P0 U0 Gk lk iC lC wC hL f1 f0 Lk
 have b3:∀ {r},In3 p r->B3 r:=fun h=>(ZbR hp h).b3 (by decide)
 have prod:∀ {u0 u1 u2:R3} {A B P U A' B' P' U':R3},GoodR p u0 u1 u2->Fb p C A0 B0 P0 U0->Fb p C A' B' P' U'->Led p u0 u1 u2 A1 B1 P1 U1 A' B' P' U'->∃ v0 v1 v2 W,Γ.F 279 [.int p,Zax u0 u1 u2,Zax m0 m1 m2]=.ok W/\Γ.F 291 [.int p,W]=.ok (Zax v0 v1 v2)/\GoodR p v0 v1 v2/\Zap p (nine v0 v1 v2)=some 1/\Led p v0 v1 v2 A0 B0 P0 U0 A' B' P' U':=fun {u0 u1 u2 A B P U A' B' P' U'} Gu fa fb Lu=>by
  have q1:=h.pr p true true true true u0 u1 u2 m0 m1 m2 p0 (b3 Gu.ia) (b3 Gu.ib) (b3 Gu.ic) (b3 Gm.ia) (b3 Gm.ib) (b3 Gm.ic)
  have zR:Zaa (mlR p u0 m0 m1 m2) (mlR p u1 m0 m1 m2) (mlR p u2 m0 m1 m2)%p≠0:=ZeF ((ZbK (Zis p u0 m0 m1 m2) (Zis p u1 m0 m1 m2) (Zis p u2 m0 m1 m2)).trans (Cg.of (Zmv u0 u1 u2 m0 m1 m2))) (Zae hp Gu.nz Gm.nz)
  obtain⟨l,t,el,it,tz,gd,l1⟩:=ZcN hp zR
  have q2:=h.tf p false false _ _ _ l t hp el it
  have fc:∀ r,CgR p (fmR p t (mlR p r m0 m1 m2)) (Zah t (rm r m0 m1 m2)):=fun r=>(Zbd p t _).trans (CgR.sc Cg.rfl (Zis p r m0 m1 m2))
  exact⟨_,_,_,_,q1,q2,gd,l1,ZjQ hp tz (fc u0) (fc u1) (fc u2) Lm Lu⟩
 obtain⟨v0,v1,v2,W,w1,w2,Gv,lv,Lv⟩:=prod (A:=A0) (B:=A0) (P:=A0) (U:=A0) Gn f0 f2 Ln
 obtain⟨u0,u1,u2,V,w3,w4,Gu,lu,Lu⟩:=prod (A:=A0) (B:=A0) (P:=A0) (U:=A0) Gk f0 f0 Lk
 have R3:=h.rt p C _ v0 v1 v2 A0 B0 P0 U0 A2 B2 P2 U2 Gv lv iC lC wC hL f0 f2 Lv
 have I1:=h.rt p C _ u0 u1 u2 A0 B0 P0 U0 A0 B0 P0 U0 Gu lu iC lC wC hL f0 f0 Lu
 obtain⟨gi,li⟩:=ZjW hp
 have I2:=h.rt p C _ e0R e1R e2R A0 B0 P0 U0 A0 B0 P0 U0 gi li iC lC wC hL f0 f0 (ZrQ hp)
 have I3:Zax u0 u1 u2=Zax e0R e1R e2R:=R.ok.inj (I1.symm.trans I2)
 rw[I3] at w4
 obtain⟨q1,q2⟩:=Zmr v0 v1 v2
 obtain⟨q3,q4⟩:=Zmr e0R e1R e2R
 have q7:Zax e0R e1R e2R=.tup [.tup [.int 1,.int 0,.int 0],.tup [.int 0,.int 1,.int 0],.tup [.int 0,.int 0,.int 1]]:=rfl
 rw[q7] at w4 q3 q4
 have t1:Zbt .Is (Zax m0 m1 m2) .non=.ok (.bl false):=rfl
 have t2:Zbt .Is (Zax n0 n1 n2) .non=.ok (.bl false):=rfl
 have t3:Zbt .Is (Zax v0 v1 v2) .non=.ok (.bl false):=rfl
 have t4:Zbt .Is (Zax k0 k1 k2) .non=.ok (.bl false):=rfl
 clear prod I1 I2 I3 hL
 generalize Zac ((ZcQ p).map fun x=>nrm p (ap a b c x))=OO at *
 generalize Zax m0 m1 m2=TM at *
 generalize Zax n0 n1 n2=TN at *
 generalize Zax v0 v1 v2=TV at *
 generalize Zax k0 k1 k2=TK at *
 generalize Zac M0=N0 at *
 generalize Zac M1=N1 at *
 generalize Zac M2=N2 at *
 generalize Zac [A0,B0,U0]=L0 at *
 generalize Zac [A1,B1,U1]=L1 at *
 generalize Zac [A2,B2,U2]=L2 at *
 generalize Za7 C=cC at *
 generalize ZaI a b c=RR at *
 generalize scr ns=S at *
 have rg:ZaB 0 3=.ok [.int 0,.int 1,.int 2]:=rfl
 have g:∀ x,cG Γ [sh S,si p,sh RR,sh cC,sh OO,none,none,none,none,none,none] 10 ZcW x=.ok true:=fun _=>rfl
 have c0:cF Γ [sh S,si p,sh RR,sh cC,sh OO,none,none,none,none,none,none] 10 ZaK (.int 0)=.ok L0:=by simp[cF,ZaK,o0,s0,show Zba 20 0=true from rfl]
 have c1:cF Γ [sh S,si p,sh RR,sh cC,sh OO,none,none,none,none,none,none] 10 ZaK (.int 1)=.ok L1:=by simp[cF,ZaK,o1,s1,show Zba 20 1=true from rfl]
 have c2:cF Γ [sh S,si p,sh RR,sh cC,sh OO,none,none,none,none,none,none] 10 ZaK (.int 2)=.ok L2:=by simp[cF,ZaK,o2,s2,show Zba 20 2=true from rfl]
 have cp:Zal (cG Γ [sh S,si p,sh RR,sh cC,sh OO,none,none,none,none,none,none] 10 ZcW) (cF Γ [sh S,si p,sh RR,sh cC,sh OO,none,none,none,none,none,none] 10 ZaK) [.int 0,.int 1,.int 2]=.ok [L0,L1,L2]:=by
  simp[Zal,g,c0,c1,c2]
 have i0:Zbc (.lst [L0,L1,L2]) (.int 0)=.ok L0:=rfl
 have i1:Zbc (.lst [L0,L1,L2]) (.int 1)=.ok L1:=rfl
 have i2:Zbc (.lst [L0,L1,L2]) (.int 2)=.ok L2:=rfl
 simp[ZeN,Df.run,Zaf,e1,e2,e3,e4,rg,cp,i0,i1,i2,R1,R2,R3,R4,t1,t2,t3,t4,w1,w2,w3,w4,q1,q2,q3,q4]
end
noncomputable def Zzi:Nat->List Nat:=fun _=>[]
noncomputable def Zzg:Nat->List D->R Ex:=fun _ _=>.bad
noncomputable def Q82:Prg:=⟨true,fun
 | 1=>Zko
 | 9=>ZbD
 | 17=>Zc5
 | 23=>ZeO
 | 57=>Zkq
 | 61=>ZeL
 | 65=>Za9
 | 109=>Zbq
 | 104=>ZeP
 | 91=>ZeJ
 | 78=>ZdS
 | 98=>Zb2
 | 92=>Zpw
 | 105=>Zg7
 | 106=>ZcT
 | 122=>ZdW
 | 126=>Zg3
 | 131=>Zcj
 | 136=>ZdV
 | 132=>Zg5
 | 133=>Zg4
 | 110=>ZfN
 | 111=>Zcr
 | 112=>Zbr
 | 147=>Zdl
 | 148=>Zck
 | 149=>Zkp
 | 275=>Zg6
 | 150=>Zc7
 | 286=>ZbV
 | 287=>ZdC
 | 228=>Zbp
 | 229=>ZbY
 | 288=>Zcn
 | 232=>Zb1
 | 233=>ZeM
 | 250=>ZbW
 | 289=>ZcV
 | 290=>ZbE
 | 251=>ZaE
 | 236=>ZbX
 | 237=>ZcX
 | 279=>Zbu
 | 280=>ZdU
 | 291=>ZaY
 | 292=>Zb0
 | 293=>ZbZ
 | 294=>Zbo
 | 295=>ZeN
 | _=>⟨0,false,.nil⟩,fun _=>.non,Zzi,Zzg⟩
theorem ZwE(ns:List Int):(gam Q82 10).F 295 [scr ns]=.ok (.bl true):=by
 have rs:∀ n,ZdF (gam Q82 (n+1)):=fun n p m hp=>Zar (ZqO _ p m hp)
 have mi:∀ n,Zfp (gam Q82 (n+1)) 228 ns:=fun n k hk=>let ⟨m,m0,e⟩:=ZqU _ ns k hk;⟨m,m0,Zar e⟩
 have tu:∀ n,ZeV (gam Q82 (n+2)):=fun n p m hp z=>let ⟨t,t1,t2,t3,e⟩:=Zjh (rs n) p m hp z;⟨t,t1,t2,t3,Zar e⟩
 have fo:∀ n,ZeY (gam Q82 (n+3)):=fun n p b xs l t hp e it=>Zar (ZnF (rs (n+1)) (tu n) hp e it)
 have me:∀ n,ZeX (gam Q82 (n+2)):=fun n p q a b c hp ha hb hc=>Zar (ZnB (rs n) p q a b c hp ha hb hc)
 have tf:∀ n,Zgy (gam Q82 (n+4)):=fun n p t q a b c hp ha hb hc z l u e it=>Zar (ZqM (me (n+1)) (fo n) p t q a b c hp ha hb hc z l u e it)
 have co:∀ n,Zgz (gam Q82 (n+1)):=fun n t q a b c=>Zar (ZqX _ t q a b c)
 have su:∀ n,Zh7 (gam Q82 (n+2)):=fun n p t q q' a b c x hp ha hb hc hx=>Zar (ZqN (rs n) p t q q' a b c x hp ha hb hc hx)
 have cr:∀ n,ZkH (gam Q82 (n+2)):=fun n a b c ha hb hc n1 n2 n3=>Zar (ZnL (fun a b ha hb ne=>Zar (Zjj _ a b ha hb ne)) a b c ha hb hc n1 n2 n3)
 have ba:∀ n,Zia (gam Q82 (n+5)):=fun n p a b c hp ha hb hc z l u e it=>Zar (ZqZ (cr (n+2)) (co (n+3)) (tf n) p a b c hp ha hb hc z l u e it)
 have af:∀ n,ZkL (gam Q82 (n+5)):=fun n p x y z a b c hp hx hy hz ha hb hc nz l u e it=>Zar (ZnN (co (n+3)) (su (n+2)) (tf n) p x y z a b c hp hx hy hz ha hb hc nz l u e it)
 have ft:∀ n,Zzc (gam Q82 (n+5)):=fun n p a b c d hp ha hb hc hd z l u e it=>Zar (ZzA (me (n+2)) (fun k a h0 h1=>Zar (Zlc _ k a h0 h1)) (co (n+3)) (tf n) p a b c d hp ha hb hc hd z l u e it)
 have fi:∀ n,Zh9 (gam Q82 (n+3)):=fun n p a b c d hp ha hb hc hd h=>by
  have e:=ZnH (me n) p a b c d hp ha hb hc hd h
  generalize ZaX a b c d=F at e ⊢
  show Zdj true (Za9.run (gam Q82 (n+2)) [.int p,F])=.ok .non
  rw[e]
  rfl
 have ask:∀ n,Zs7 (gam Q82 (n+4)):=fun n p a b c d hp ha hb hc hd h=>by
  have e:=Zv4 (fi n) p a b c d hp ha hb hc hd h
  generalize ZaX a b c d=F at e ⊢
  show Zdj true (Zbq.run (gam Q82 (n+3)) [.int p,F])=.ok .non
  rw[e]
  rfl
 have mv:∀ n,ZkA (gam Q82 (n+6)):=fun n {p a b c f0 f1 f2 f3 g0 g1 g2 g3} gT l1 fr fr' L=>by
  obtain⟨⟨d0,n0,h0⟩,⟨d1,n1,h1⟩,⟨d2,n2,h2⟩,⟨d3,n3,h3⟩⟩:=L
  have e:=ZnA (ask (n+1)) (ft n) (ba n) (af n) gT.p4 gT.ia gT.ib gT.ic gT.nz l1 fr.i0 fr.i1 fr.i2 fr.i3 fr.gen fr'.i0 fr'.i1 fr'.i2 fr'.i3 n0 n1 n2 n3 h0 h1 h2 h3
  generalize ZaX f0 f1 f2 f3=F at e ⊢
  generalize ZaX g0 g1 g2 g3=G at e ⊢
  generalize Zax a b c=T at e ⊢
  show Zdj true (Zbr.run (gam Q82 (n+5)) [.int p,F,G])=.ok T
  rw[e]
  rfl
 have tw:∀ n,ZfO (gam Q82 (n+2)):=fun n p C hp=>Zar (Zns (rs n) p C hp)
 have wh:∀ n,Zh6 (gam Q82 (n+3)):=fun n p C hp iC z=>Zar (Zla (tw n) (me n) p C hp iC z)
 have aw:∀ n,ZkJ (gam Q82 (n+4)):=fun n p C hp iC z=>Zar (Zq0 (wh n) p C hp iC z)
 have pt:∀ n,ZmH (gam Q82 (n+5)):=fun n p C hp iC z=>let ⟨a,b,c,h,e⟩:=ZqP (aw n) (tw (n+2)) (tf n) p C hp iC z;⟨a,b,c,h,Zar e⟩
 have ld:∀ n,ZmJ (gam Q82 (n+4)):=fun n p a b c f g i l=>let ⟨y,h1,h2,h3,e⟩:=ZqV (su (n+1)) (fo n) p a b c f g i l;⟨y,h1,h2,h3,Zar e⟩
 have pl:∀ n,Zhd (gam Q82 (n+6)):=fun n=>Zwe fun p C x hp iC z ix lx=>let ⟨y,h1,h2,h3,e⟩:=ZqQ (pt n) (ba n) (ld (n+1)) p C x hp iC z ix lx;⟨y,h1,h2,h3,Zar e⟩
 have jo:∀ n,Zfq (gam Q82 (n+4)):=fun n p a b hp ia ib la lb ne=>let ⟨y,h1,h2,h3,e⟩:=ZqW (fun a b ha hb ne=>Zar (Zjj _ a b ha hb ne)) (fo n) p a b hp ia ib la lb ne;⟨y,h1,h2,h3,Zar e⟩
 have va:∀ n,Zhb (gam Q82 (n+2)):=fun n p C x hp iC ix=>Zar (Znr (rs n) p C x hp iC ix)
 have fr:∀ n,ZkG (gam Q82 (n+7)):=fun n p C A B P U hp iC w h=>by
  have e:=ZnJ (jo (n+2)) (pl n) p C A B P U hp iC w h
  generalize ZaX A B P U=F at e ⊢
  generalize Zac [A,B,U]=G at e ⊢
  show Zdj true (Zc7.run (gam Q82 (n+6)) [.int p,Za7 C,G])=_
  rw[e]
  rfl
 have mx:∀ n,ZmI (gam Q82 (n+3)):=fun n p C x y hp iC ix iy=>Zar (ZqT (tw n) (su n) p C x y hp iC ix iy)
 have cf:∀ n,ZmK (gam Q82 (n+4)):=fun n p b xs l t hp e it=>Zar (ZqY (rs (n+2)) (fo n) hp e it)
 have mo:∀ n,ZkB (gam Q82 (n+6)):=fun n p C a b c iC lC T=>let ⟨D,h1,h2,h3,e⟩:=Znz (ba n) (co (n+4)) (va (n+3)) (mx (n+2)) (cf (n+1)) p C a b c iC lC T;⟨D,h1,h2,h3,Zar e⟩
 have ks:∀ n,ZkC (gam Q82 (n+7)):=fun n p C a b c T iC lC h=>Zar (ZnC (mo n) p C a b c T iC lC h)
 have ap:∀ n,ZkK (gam Q82 (n+3)):=fun n p C A B P U hp iC h=>by
  have e:=ZnM (va n) p C A B P U hp iC h
  generalize Zac [A,B,U]=G at e ⊢
  show Zdj true (ZbV.run (gam Q82 (n+2)) [.int p,Za7 C,G])=_
  rw[e]
  rfl
 have kp:∀ n,ZkD (gam Q82 (n+8)):=fun n p C a b c A B P U A' B' P' U' T l1 iC wC fC fE L=>by
  have e:=ZnD (aw (n+3)) (ap (n+4)) (fr n) (mv (n+1)) p C a b c A B P U A' B' P' U' T l1 iC wC fC fE L
  generalize Zax a b c=F at e ⊢
  generalize Zac [A,B,U]=G at e ⊢
  generalize Zac [A',B',U']=G' at e ⊢
  show Zdj true (ZdC.run (gam Q82 (n+7)) [.int p,Za7 C,G,G'])=_
  rw[e]
  rfl
 have fm:∀ n,ZfQ (gam Q82 (n+1)):=fun n p b xs l t hp e it=>Zar (ZnG _ hp e it)
 have sm:∀ n,Zh8 (gam Q82 (n+1)):=fun n p q q' a x p0 ha hx=>Zar (Zlb _ p q q' a x p0 ha hx)
 have le:∀ n,ZfP (gam Q82 (n+2)):=fun n p t q q' a b c x G hx lx=>Zar (Zld (sm n) (fm n) p t q q' a b c x G hx lx)
 have bk:∀ n,ZgA (gam Q82 (n+2)):=fun n p t q a b c p0 ha hb hc=>Zar (Zjk (fun p q q' a x p0 ha hx=>Zar (Zlf _ p q q' a x p0 ha hx)) p t q a b c p0 ha hb hc)
 have pr:∀ n,ZeW (gam Q82 (n+1)):=fun n p t q t' q' a b c x y z p0 ha hb hc hx hy hz=>Zar (Zji _ p t q t' q' a b c x y z p0 ha hb hc hx hy hz)
 have re:∀ n,Zhc (gam Q82 (n+1)):=fun n p xs hx=>Zar (Znw _ p xs hx)
 have fd:∀ n,ZkF (gam Q82 (n+2)):=fun n p xs p0 hx l1=>Zar (ZnI (re n) p xs p0 hx l1)
 have it:∀ n,ZkE (gam Q82 (n+3)):=fun n p a b c p0 ha hb hc l1=>Zar (ZnE (re (n+1)) (fd n) p a b c p0 ha hb hc l1)
 have h:H82 (gam Q82 9) ns:=by
  refine⟨?_,fun p at_ hp ha=>?_,fun p a b c G=>?_,fun p a b c G=>?_,jo 5,fun p C L a b c A B P U A' B' P' U' T l1 iC lC wC hL fC fE Ld=>?_,fun at_ L ha hL=>?_,pr 8,fun p t q a b c l u hp e it=>Zar (Znt (fm 7) p t q a b c l u hp e it)⟩
  ·obtain⟨p,hp,e⟩:=Znx (mi 7)
   exact⟨p,hp,Zar e⟩
  ·obtain⟨a,b,c,g,e⟩:=Znu (mi 7) p at_ hp ha
   exact⟨a,b,c,g,Zar e⟩
  ·obtain⟨C,h1,h2,h3,h4,e⟩:=ZnK (bk 6) (pr 7) (fm 7) p a b c G
   exact⟨C,h1,h2,h3,h4,Zar e⟩
  ·have e:=ZqR (le 6) p a b c G
   generalize Zac ((ZcQ p).map fun x=>nrm p (OvC.ap a b c x))=F at e ⊢
   show Zdj true (ZbE.run (gam Q82 8) [.int p,ZaI a b c])=_
   rw[e]
   rfl
  ·have e:=Znv (kp 0) (it 5) (ks 1) (le 6) p C L a b c A B P U A' B' P' U' T l1 iC lC wC hL fC fE Ld
   generalize Zax a b c=F at e ⊢
   generalize Zac [A,B,U]=G at e ⊢
   generalize Zac [A',B',U']=G' at e ⊢
   generalize Zac L=G2 at e ⊢
   show Zdj true (Zbo.run (gam Q82 8) [.int p,Za7 C,G2,G,G'])=_
   rw[e]
   rfl
  ·obtain⟨M,pm,e⟩:=Zny (mi 7) at_ L ha hL
   refine⟨M,pm,?_⟩
   generalize Zac L=G2 at e ⊢
   generalize Zac M=G3 at e ⊢
   show Zdj true (ZaE.run (gam Q82 8) [scr ns,.int at_,G2])=_
   rw[e]
   rfl
 exact Zar (Zr8 h)
end OvC
end
namespace OvC
structure Eleven (P:Prop) where
 (α1 α2 α3 α4 α5 α6 α7 α8 α9 α10 α11:Type)
 (l1 r1:PySem.World->α1)
 (l2 r2:PySem.World->α2)
 (l3 r3:PySem.World->α3)
 (l4 r4:PySem.World->α4)
 (l5 r5:PySem.World->α5)
 (l6 r6:PySem.World->α6)
 (l7 r7:PySem.World->α7)
 (l8 r8:PySem.World->α8)
 (l9 r9:PySem.World->α9)
 (l10 r10:PySem.World->α10)
 (l11 r11:PySem.World->α11)
 go:(∀ w,l1 w=r1 w)->(∀ w,l2 w=r2 w)->(∀ w,l3 w=r3 w)->(∀ w,l4 w=r4 w)->(∀ w,l5 w=r5 w)->(∀ w,l6 w=r6 w)->(∀ w,l7 w=r7 w)->(∀ w,l8 w=r8 w)->(∀ w,l9 w=r9 w)->(∀ w,l10 w=r10 w)->(∀ w,l11 w=r11 w)->P
theorem map_pair{σ α β:Type}{A:σ->α}{B:σ->β}{r:Option σ}{a:α}{b:β}(h1:Option.map A r=some a)(h2:Option.map B r=some b):Option.map (fun s=>(A s,B s)) r=some (a,b):=by
 cases r with
 | none=>cases h1
 | some s=>cases h1;cases h2;rfl
theorem map_take{σ α:Type}{B:σ->List α}{r:Option σ}{v:List α}(n:Nat)(h1:Option.map (fun s=>(B s).take n) r=some (v.take n))(h2:Option.map (fun s=>(B s).drop n) r=some (v.drop n)):Option.map B r=some v:=by
 cases r with
 | none=>cases h1
 | some s =>
  have e1:(B s).take n=v.take n:=by injection h1
  have e2:(B s).drop n=v.drop n:=by injection h2
  show some (B s)=some v
  rw[<- List.take_append_drop n (B s),<- List.take_append_drop n v,e1,e2]
end OvC
namespace OvC
open PySem PySem.Spec PyProof.Rows Ov L2
noncomputable def tp82(i:Nat):Stmt:=PySem.Challenge.pw_ovalfield_k82_three_points_led.main.body.getD i (.Pass ⟨0,0,0,0⟩)
noncomputable def Zr5:List (Str×Nat×Nat):=([("rest", 1,2),("turned_over", 9,2),("one_form", 17,2),("crossed", 23,2),("join", 57,3),("measure", 61,4),("first_three", 65,2),("ask_no_three", 109,2),("columns", 104,1),("sums_by", 91,3),("table_of", 78,2),("crossed_rows", 98,1),("led", 92,3),("after", 105,3),("table_back", 106,2),("curve_of", 122,2),("value", 126,3),("twice_table", 131,2),("is_whole", 136,2),("mixed", 132,4),("moved", 133,3),("scaled", 110,2),("frame_table", 111,2),("frame_move", 112,3),("ask_whole", 147,2),("polar_table", 148,2),("pole", 149,3),("keeps", 275,3),("frame_on", 150,3),("ask_points", 286,3)]:List (Str×Nat×Nat))++([("keeping", 287,4),("_law_mixed", 228,2),("_law_prime", 229,1),("_law_form", 288,2),("_law_cross", 232,3),("_law_sum", 233,3),("_law_table", 250,3),("_law_led", 289,3),("_law_oval", 290,2),("_law_order", 251,3),("_law_rests", 236,3),("_law_formed", 237,3),("_law_product", 279,3),("_law_back", 280,2),("_law_table_form", 291,2),("_law_curve", 292,2),("_law_is_table", 293,2),("_law_right", 294,5),("law", 295,1)]:List (Str×Nat×Nat))
noncomputable def Zy6:List Str:=["all", "any", "bool", "enumerate", "int", "isinstance", "len", "list", "range", "sum", "tuple", "zip"]
noncomputable def ZqI:List (Str×Nat):=[]
noncomputable def Zr7:List (Str×Nat):=[]
noncomputable def ZrU:List (Str×Nat):=[]
noncomputable abbrev C82(h:Bool)(ps N:List Str)(i d:Nat):Bool:=Ziz 80 h Zr5 Zy6 ZqI Zr7 ZrU ps N (tp82 i) (Q82.defs d)
theorem Zsz:C82 false ["p", "n"] ["p", "n"] 12 1=true:=by decide +kernel
theorem Zsy:C82 false ["p", "n"] ["p", "n", "turned"] 13 9=true:=by decide +kernel
theorem Zsx:C82 false ["p", "numbers"] ["p", "numbers", "rests", "first", "factor", "#5", "#6"] 15 17=true:=by decide +kernel
theorem Zsw:C82 false ["one", "other"] ["one", "other"] 16 23=true:=by decide +kernel
theorem Zsv:C82 false ["p", "one", "other"] ["p", "one", "other"] 18 57=true:=by decide +kernel
theorem Zsu:C82 false ["p", "one", "other", "third"] ["p", "one", "other", "third"] 19 61=true:=by decide +kernel
theorem Zst:C82 false ["p", "points"] ["p", "points", "i", "one", "j", "k"] 20 65=true:=by decide +kernel
theorem Zss:C82 false ["p", "points"] ["p", "points", "three"] 21 109=true:=by decide +kernel
theorem Zsr:C82 false ["rows"] ["rows"] 23 104=true:=by decide +kernel
theorem Zsq:C82 false ["p", "rows", "numbers"] ["p", "rows", "numbers", "#3"] 24 91=true:=by decide +kernel
theorem Zpu:C82 false ["p", "rows"] ["p", "rows", "nine"] 25 78=true:=by decide +kernel
theorem Zpt:C82 false ["table"] ["table"] 26 98=true:=by decide +kernel
theorem Zps:C82 false ["p", "table", "point"] ["p", "table", "point"] 27 92=true:=by decide +kernel
theorem Zpr:C82 false ["p", "one", "other"] ["p", "one", "other", "sides", "#4"] 28 105=true:=by decide +kernel
theorem Zpq:C82 false ["p", "table"] ["p", "table"] 29 106=true:=by decide +kernel
theorem Zpp:C82 false ["p", "numbers"] ["p", "numbers", "rests", "#3"] 31 122=true:=by decide +kernel
theorem Zpo:C82 false ["p", "curve", "point"] ["p", "curve", "point", "squares", "products"] 32 126=true:=by decide +kernel
theorem Zpn:C82 false ["p", "curve"] ["p", "curve"] 33 131=true:=by decide +kernel
theorem Zpm:C82 false ["p", "curve"] ["p", "curve", "rows"] 34 136=true:=by decide +kernel
theorem Zpl:C82 false ["p", "curve", "one", "other"] ["p", "curve", "one", "other", "sums"] 35 132=true:=by decide +kernel
theorem Zpk:C82 false ["p", "curve", "table"] ["p", "curve", "table", "sides", "squares", "products", "#6"] 36 133=true:=by decide +kernel
theorem Zpj:C82 false ["factor", "point"] ["factor", "point", "#2"] 38 110=true:=by decide +kernel
theorem Zpi:C82 false ["p", "four"] ["p", "four", "sides"] 39 111=true:=by decide +kernel
theorem Zph:C82 false ["p", "four", "goals"] ["p", "four", "goals"] 40 112=true:=by decide +kernel
theorem Zpg:C82 false ["p", "curve"] ["p", "curve"] 42 147=true:=by decide +kernel
theorem Zpf:C82 false ["p", "curve"] ["p", "curve"] 43 148=true:=by decide +kernel
theorem Zpe:C82 false ["p", "curve", "line"] ["p", "curve", "line"] 44 149=true:=by decide +kernel
theorem Zpd:C82 false ["p", "curve", "table"] ["p", "curve", "table"] 46 275=true:=by decide +kernel
theorem Zpc:C82 false ["p", "curve", "three"] ["p", "curve", "three"] 47 150=true:=by decide +kernel
theorem Zpb:C82 false ["p", "curve", "points"] ["p", "curve", "points", "place", "point"] 48 286=true:=by decide +kernel
theorem Zpa:C82 false ["p", "curve", "three", "goals"] ["p", "curve", "three", "goals"] 49 287=true:=by decide +kernel
theorem Zo9:C82 false ["_law_script", "_law_k"] ["_law_script", "_law_k", "_law_cell"] 51 228=true:=by decide +kernel
theorem Zo8:C82 false ["_law_script"] ["_law_script"] 52 229=true:=by decide +kernel
theorem Zo7:C82 false ["_law_p", "_law_numbers"] ["_law_p", "_law_numbers", "_law_rests_here", "_law_first", "_law_back_here", "#5", "#6", "#7", "#8"] 53 288=true:=by decide +kernel
theorem Zo6:C82 false ["_law_p", "_law_one", "_law_other"] ["_law_p", "_law_one", "_law_other", "_law_x", "_law_y", "_law_z"] 55 232=true:=by decide +kernel
theorem Zo5:C82 false ["_law_p", "_law_one", "_law_other"] ["_law_p", "_law_one", "_law_other"] 56 233=true:=by decide +kernel
theorem Zo4:C82 false ["_law_p", "_law_script", "_law_at"] ["_law_p", "_law_script", "_law_at", "_law_rows", "_law_k", "_law_number", "_law_i", "_law_j", "_law_many", "#9", "#10", "#11"] 59 250=true:=by decide +kernel
theorem Zo3:C82 false ["_law_p", "_law_rows", "_law_point_here"] ["_law_p", "_law_rows", "_law_point_here", "#3"] 60 289=true:=by decide +kernel
theorem Zo2:C82 false ["_law_p", "_law_rows"] ["_law_p", "_law_rows", "_law_points", "_law_t"] 61 290=true:=by decide +kernel
theorem Zo1:C82 false ["_law_script", "_law_at", "_law_things"] ["_law_script", "_law_at", "_law_things", "_law_told", "_law_k", "_law_spot"] 62 251=true:=by decide +kernel
theorem Zo0:C82 false ["_law_p", "_law_found", "_law_many"] ["_law_p", "_law_found", "_law_many", "#3"] 63 236=true:=by decide +kernel
theorem ZoZ:C82 false ["_law_p", "_law_found", "_law_many"] ["_law_p", "_law_found", "_law_many", "#3"] 64 237=true:=by decide +kernel
theorem ZoY:C82 false ["_law_p", "_law_one", "_law_other"] ["_law_p", "_law_one", "_law_other", "_law_rows", "_law_row", "#5", "#6"] 65 279=true:=by decide +kernel
theorem ZoX:C82 false ["_law_p", "_law_rows"] ["_law_p", "_law_rows", "_law_a", "_law_b", "_law_c", "_law_columns", "#6", "#7"] 66 280=true:=by decide +kernel
theorem ZoW:C82 false ["_law_p", "_law_rows"] ["_law_p", "_law_rows", "_law_nine"] 67 291=true:=by decide +kernel
theorem ZoV:C82 false ["_law_p", "_law_rows"] ["_law_p", "_law_rows", "_law_back_here", "_law_turned", "_law_made", "_law_half", "#6", "#7"] 68 292=true:=by decide +kernel
theorem ZoU:C82 false ["_law_p", "_law_found"] ["_law_p", "_law_found", "#2"] 69 293=true:=by decide +kernel
theorem ZoT:C82 false ["_law_p", "_law_curve_here", "_law_points", "_law_three_here", "_law_goals"] ["_law_p", "_law_curve_here", "_law_points", "_law_three_here", "_law_goals", "_law_handed", "_law_found", "_law_point_here", "_law_goal", "#9"] 70 294=true:=by decide +kernel
theorem Zkk:C82 false ["_law_script"] ["_law_script", "_law_p", "_law_rows", "_law_curve_here", "_law_points", "_law_lists", "_law_one", "_law_other", "_law_whole", "_law_back_here", "#10"] 71 295=true:=by decide +kernel
set_option maxHeartbeats 0 in
theorem all82{l:PySem.W.OpenLaw}{w:World}{K:PySem.W.Frag}{h:Heap}{mg:Str->Option Value}{fa f0 f1 f2 f3 f4 f5 f6 f7 f8 f9 f10 f11 f12 f13 f14 f15 f16 f17 f18 f19 f20 f21 f22 f23 f24 f25 f26 f27 f28 f29 f30 f31 f32 f33 f34 f35 f36 f37 f38 f39 f40 f41 f42 f43 f44 f45 f46 f47 f48:Addr}(X:K.In h)(G:h.Ns mainGlobals mg)(hfa:mg "law" = some (.ref fa))
    (a0:FnI K f0 "rest" (tp82 12))
    (a1:FnI K f1 "turned_over" (tp82 13))
    (a2:FnI K f2 "one_form" (tp82 15))
    (a3:FnI K f3 "crossed" (tp82 16))
    (a4:FnI K f4 "join" (tp82 18))
    (a5:FnI K f5 "measure" (tp82 19))
    (a6:FnI K f6 "first_three" (tp82 20))
    (a7:FnI K f7 "ask_no_three" (tp82 21))
    (a8:FnI K f8 "columns" (tp82 23))
    (a9:FnI K f9 "sums_by" (tp82 24))
    (a10:FnI K f10 "table_of" (tp82 25))
    (a11:FnI K f11 "crossed_rows" (tp82 26))
    (a12:FnI K f12 "led" (tp82 27))
    (a13:FnI K f13 "after" (tp82 28))
    (a14:FnI K f14 "table_back" (tp82 29))
    (a15:FnI K f15 "curve_of" (tp82 31))
    (a16:FnI K f16 "value" (tp82 32))
    (a17:FnI K f17 "twice_table" (tp82 33))
    (a18:FnI K f18 "is_whole" (tp82 34))
    (a19:FnI K f19 "mixed" (tp82 35))
    (a20:FnI K f20 "moved" (tp82 36))
    (a21:FnI K f21 "scaled" (tp82 38))
    (a22:FnI K f22 "frame_table" (tp82 39))
    (a23:FnI K f23 "frame_move" (tp82 40))
    (a24:FnI K f24 "ask_whole" (tp82 42))
    (a25:FnI K f25 "polar_table" (tp82 43))
    (a26:FnI K f26 "pole" (tp82 44))
    (a27:FnI K f27 "keeps" (tp82 46))
    (a28:FnI K f28 "frame_on" (tp82 47))
    (a29:FnI K f29 "ask_points" (tp82 48))
    (a30:FnI K f30 "keeping" (tp82 49))
    (a31:FnI K f31 "_law_mixed" (tp82 51))
    (a32:FnI K f32 "_law_prime" (tp82 52))
    (a33:FnI K f33 "_law_form" (tp82 53))
    (a34:FnI K f34 "_law_cross" (tp82 55))
    (a35:FnI K f35 "_law_sum" (tp82 56))
    (a36:FnI K f36 "_law_table" (tp82 59))
    (a37:FnI K f37 "_law_led" (tp82 60))
    (a38:FnI K f38 "_law_oval" (tp82 61))
    (a39:FnI K f39 "_law_order" (tp82 62))
    (a40:FnI K f40 "_law_rests" (tp82 63))
    (a41:FnI K f41 "_law_formed" (tp82 64))
    (a42:FnI K f42 "_law_product" (tp82 65))
    (a43:FnI K f43 "_law_back" (tp82 66))
    (a44:FnI K f44 "_law_table_form" (tp82 67))
    (a45:FnI K f45 "_law_curve" (tp82 68))
    (a46:FnI K f46 "_law_is_table" (tp82 69))
    (a47:FnI K f47 "_law_right" (tp82 70))
    (a48:FnI K f48 "law" (tp82 71))
    (z0:PySem.W.nsIn K mainGlobals "all" = some none) (z1:PySem.W.nsIn K mainGlobals "any" = some none) (z2:PySem.W.nsIn K mainGlobals "bool" = some none) (z3:PySem.W.nsIn K mainGlobals "enumerate" = some none) (z4:PySem.W.nsIn K mainGlobals "int" = some none) (z5:PySem.W.nsIn K mainGlobals "isinstance" = some none) (z6:PySem.W.nsIn K mainGlobals "len" = some none) (z7:PySem.W.nsIn K mainGlobals "list" = some none) (z8:PySem.W.nsIn K mainGlobals "range" = some none) (z9:PySem.W.nsIn K mainGlobals "sum" = some none) (z10:PySem.W.nsIn K mainGlobals "tuple" = some none) (z11:PySem.W.nsIn K mainGlobals "zip" = some none) :
    ∃ fd:FuncData,(∀ (s:Shared) (v:Value),BindsTo s fd ⟨[v],[]⟩ [("_law_script", v)])/\∀ base:Heap,K.In base->base.Ns mainGlobals mg->FnOk l.prog w K mg base (CXR l.prog w) 10 fa fd ["_law_script"] (Zlv K):=by
  obtain⟨_,F,e⟩:=a48;obtain⟨_,_,_,_,_,_,_,_,_,rfl,_,_⟩:=F.ex
  cases hfa.symm.trans (PySem.W.mg_of X G e)
  have T:Tab K mg (fun _=>none) Zr5 Zy6 ZqI Zr7 ZrU Q82 80:=⟨ZmT fun _ _=>rfl,all_cons (PySem.W.mg_none_of X G z0) (all_cons (PySem.W.mg_none_of X G z1) (all_cons (PySem.W.mg_none_of X G z2) (all_cons (PySem.W.mg_none_of X G z3) (all_cons (PySem.W.mg_none_of X G z4) (all_cons (PySem.W.mg_none_of X G z5) (all_cons (PySem.W.mg_none_of X G z6) (all_cons (PySem.W.mg_none_of X G z7) (all_cons (PySem.W.mg_none_of X G z8) (all_cons (PySem.W.mg_none_of X G z9) (all_cons (PySem.W.mg_none_of X G z10) (all_cons (PySem.W.mg_none_of X G z11) (Zg9)))))))))))),Zg9,all_cons (Ze0 2 1 X G a0 rfl Zsz fun _ _ _ _ _ _ _ _=>rfl) (all_cons (Ze0 2 9 X G a1 rfl Zsy fun _ _ _ _ _ _ _ _=>rfl) (all_cons (Ze0 2 17 X G a2 rfl Zsx fun _ _ _ _ _ _ _ _=>rfl) (all_cons (Ze0 2 23 X G a3 rfl Zsw fun _ _ _ _ _ _ _ _=>rfl) (all_cons (Zfy 3 57 X G a4 rfl Zsv fun _ _ _ _ _ _ _ _ _=>rfl) (all_cons (Zv0 4 61 X G a5 rfl Zsu fun _ _ _ _ _ _ _ _ _ _=>rfl) (all_cons (Ze0 2 65 X G a6 rfl Zst fun _ _ _ _ _ _ _ _=>rfl) (all_cons (Ze0 2 109 X G a7 rfl Zss fun _ _ _ _ _ _ _ _=>rfl) (all_cons (ZtD 1 104 X G a8 rfl Zsr fun _ _ _ _ _ _ _=>rfl) (all_cons (Zfy 3 91 X G a9 rfl Zsq fun _ _ _ _ _ _ _ _ _=>rfl) (all_cons (Ze0 2 78 X G a10 rfl Zpu fun _ _ _ _ _ _ _ _=>rfl) (all_cons (ZtD 1 98 X G a11 rfl Zpt fun _ _ _ _ _ _ _=>rfl) (all_cons (Zfy 3 92 X G a12 rfl Zps fun _ _ _ _ _ _ _ _ _=>rfl) (all_cons (Zfy 3 105 X G a13 rfl Zpr fun _ _ _ _ _ _ _ _ _=>rfl) (all_cons (Ze0 2 106 X G a14 rfl Zpq fun _ _ _ _ _ _ _ _=>rfl) (all_cons (Ze0 2 122 X G a15 rfl Zpp fun _ _ _ _ _ _ _ _=>rfl) (all_cons (Zfy 3 126 X G a16 rfl Zpo fun _ _ _ _ _ _ _ _ _=>rfl) (all_cons (Ze0 2 131 X G a17 rfl Zpn fun _ _ _ _ _ _ _ _=>rfl) (all_cons (Ze0 2 136 X G a18 rfl Zpm fun _ _ _ _ _ _ _ _=>rfl) (all_cons (Zv0 4 132 X G a19 rfl Zpl fun _ _ _ _ _ _ _ _ _ _=>rfl) (all_cons (Zfy 3 133 X G a20 rfl Zpk fun _ _ _ _ _ _ _ _ _=>rfl) (all_cons (Ze0 2 110 X G a21 rfl Zpj fun _ _ _ _ _ _ _ _=>rfl) (all_cons (Ze0 2 111 X G a22 rfl Zpi fun _ _ _ _ _ _ _ _=>rfl) (all_cons (Zfy 3 112 X G a23 rfl Zph fun _ _ _ _ _ _ _ _ _=>rfl) (all_cons (Ze0 2 147 X G a24 rfl Zpg fun _ _ _ _ _ _ _ _=>rfl) (all_cons (Ze0 2 148 X G a25 rfl Zpf fun _ _ _ _ _ _ _ _=>rfl) (all_cons (Zfy 3 149 X G a26 rfl Zpe fun _ _ _ _ _ _ _ _ _=>rfl) (all_cons (Zfy 3 275 X G a27 rfl Zpd fun _ _ _ _ _ _ _ _ _=>rfl) (all_cons (Zfy 3 150 X G a28 rfl Zpc fun _ _ _ _ _ _ _ _ _=>rfl) (all_cons (Zfy 3 286 X G a29 rfl Zpb fun _ _ _ _ _ _ _ _ _=>rfl) (all_cons (Zv0 4 287 X G a30 rfl Zpa fun _ _ _ _ _ _ _ _ _ _=>rfl) (all_cons (Ze0 2 228 X G a31 rfl Zo9 fun _ _ _ _ _ _ _ _=>rfl) (all_cons (ZtD 1 229 X G a32 rfl Zo8 fun _ _ _ _ _ _ _=>rfl) (all_cons (Ze0 2 288 X G a33 rfl Zo7 fun _ _ _ _ _ _ _ _=>rfl) (all_cons (Zfy 3 232 X G a34 rfl Zo6 fun _ _ _ _ _ _ _ _ _=>rfl) (all_cons (Zfy 3 233 X G a35 rfl Zo5 fun _ _ _ _ _ _ _ _ _=>rfl) (all_cons (Zfy 3 250 X G a36 rfl Zo4 fun _ _ _ _ _ _ _ _ _=>rfl) (all_cons (Zfy 3 289 X G a37 rfl Zo3 fun _ _ _ _ _ _ _ _ _=>rfl) (all_cons (Ze0 2 290 X G a38 rfl Zo2 fun _ _ _ _ _ _ _ _=>rfl) (all_cons (Zfy 3 251 X G a39 rfl Zo1 fun _ _ _ _ _ _ _ _ _=>rfl) (all_cons (Zfy 3 236 X G a40 rfl Zo0 fun _ _ _ _ _ _ _ _ _=>rfl) (all_cons (Zfy 3 237 X G a41 rfl ZoZ fun _ _ _ _ _ _ _ _ _=>rfl) (all_cons (Zfy 3 279 X G a42 rfl ZoY fun _ _ _ _ _ _ _ _ _=>rfl) (all_cons (Ze0 2 280 X G a43 rfl ZoX fun _ _ _ _ _ _ _ _=>rfl) (all_cons (Ze0 2 291 X G a44 rfl ZoW fun _ _ _ _ _ _ _ _=>rfl) (all_cons (Ze0 2 292 X G a45 rfl ZoV fun _ _ _ _ _ _ _ _=>rfl) (all_cons (Ze0 2 293 X G a46 rfl ZoU fun _ _ _ _ _ _ _ _=>rfl) (all_cons (Zzz 5 294 X G a47 rfl ZoT fun _ _ _ _ _ _ _ _ _ _ _=>rfl) (all_cons (ZtD 1 295 X G ⟨_,F,e⟩ rfl Zkk fun _ _ _ _ _ _ _=>rfl) (Zg9)))))))))))))))))))))))))))))))))))))))))))))))))⟩
  exact⟨_,fun s v=>.of_eq rfl,fun base _ _=>law_fn (Zmw T (Zi0 T 9) F rfl Zkk) ZwE⟩
theorem walk82{l:PySem.W.OpenLaw}{q:Program}{loose:List Str}{XP:(Str->Option Value)->Heap->Prop}{YP:World->Heap->Prop}{d:DefRec}{K:Params->PySem.W.Frag}(hn:l.most=some 63)(hdf:d.params.defaults=[])
  (hY:∀ (w:World) (h:Heap),YP w h->(K w.params).In h)
  (F:∀ (w:World) (mg:Str->Option Value) (fa:Addr) (h:Heap),(K w.params).In h->h.Ns mainGlobals mg->mg d.name=some (.ref fa) ->
   ∃ fd:FuncData,(∀ (s:Shared) (u:Value),BindsTo s fd ⟨[u],[]⟩ [("_law_script", u)])/\∀ base:Heap,(K w.params).In base->base.Ns mainGlobals mg->FnOk l.prog w (K w.params) mg base (CXR l.prog w) 10 fa fd ["_law_script"] (Zlv (K w.params))) :
  PySem.W.WalkO q loose XP YP l.row.toRowW d [] (fun f vs=>PySem.call f vs) :=
 L2.walk_of (n:=63) (k:=10) (x := "_law_script") (CX:=fun w=>CXR l.prog w) (sp:=fun w=>Zlv (K w.params)) hn (by decide) hdf ⟨rfl,by decide,by decide⟩ hY F (fun _ H a ns hl _ hS=>⟨a,ns,rfl,hl,hS,fun _ _ z=>z⟩) fun _ _ _ _ _ z=>Zsi z
end OvC
open PySem PySem.W PyProof.Rows
noncomputable def OvC.view82:PySem.Program:={ PySem.Challenge.pw_ovalfield_k82_three_points_led with main:={ PySem.Challenge.pw_ovalfield_k82_three_points_led.main with body:=[OvC.tp82 1,OvC.tp82 2,OvC.tp82 3,OvC.tp82 4,OvC.tp82 5,OvC.tp82 6,OvC.tp82 7,OvC.tp82 8,OvC.tp82 9,OvC.tp82 10,OvC.tp82 12,OvC.tp82 13,OvC.tp82 15,OvC.tp82 16,OvC.tp82 18,OvC.tp82 19,OvC.tp82 20,OvC.tp82 21,OvC.tp82 23,OvC.tp82 24,OvC.tp82 25,OvC.tp82 26,OvC.tp82 27,OvC.tp82 28,OvC.tp82 29,OvC.tp82 31,OvC.tp82 32,OvC.tp82 33,OvC.tp82 34,OvC.tp82 35,OvC.tp82 36,OvC.tp82 38,OvC.tp82 39,OvC.tp82 40,OvC.tp82 42,OvC.tp82 43,OvC.tp82 44,OvC.tp82 46,OvC.tp82 47,OvC.tp82 48,OvC.tp82 49,OvC.tp82 51,OvC.tp82 52,OvC.tp82 53,OvC.tp82 54,OvC.tp82 55,OvC.tp82 56,OvC.tp82 57,OvC.tp82 58,OvC.tp82 59,OvC.tp82 60,OvC.tp82 61,OvC.tp82 62,OvC.tp82 63,OvC.tp82 64,OvC.tp82 65,OvC.tp82 66,OvC.tp82 67,OvC.tp82 68,OvC.tp82 69,OvC.tp82 70,OvC.tp82 71] } }
set_option hygiene false
local macro_rules | `(tactic| o_head $H)=>`(tactic| refine holds_open (q:=OvC.view82) (loose:=[]) (Xt:=fun s=>xlAt OvC.view82 [] s&&recOk (RowW.records (OpenRow.toRowW (PySem.Challenge.rw_ovalfield_k82_three_points_led.row))) s) (XP:=XL OvC.view82 []) (Yf:=Hook.obs $H) (Ya:=Hook.val $H) (YP:=Hook.says $H) (N:=7764) ?hl (Hook.of $H) (Hook.keeps $H) (fun s e=>xl_of s (Bool.and_eq_true_iff.mp e).1) XL.keeps (by rfl) (by rfl) (by rfl) (fun s e=>recFacts_of (Bool.and_eq_true_iff.mp e).2) (by rfl) (by first|assumption|decide +kernel) (by decide +kernel) ⟨rfl,rfl,rfl,rfl,rfl,by decide +kernel⟩ ?hw ?hc)
set_option maxRecDepth 100000 in
set_option maxHeartbeats 0 in
noncomputable def OvC.hold82:OvC.Eleven PySem.Challenge.rw_ovalfield_k82_three_points_led.Holds:=by
 refine' ⟨_,_,_,_,_,_,_,_,_,_,_,_,_,_,_,_,_,_,_,_,_,_,_,_,_,_,_,_,_,_,_,_,_,fun g1 g2 g3 g4 g5 g6 g7 g8 g9 g10 g11=>_⟩
 rotate_right
 w_on;refine holds_law (by decide +kernel) fun said=>?_;k_head
 (case hl=>intro w;refine OvC.map_pair ?p1 (OvC.map_take 100 ?p2 ?p3);(case p1=>rw[PySem.W.Fast.te4187177175401517315];unfold PySem.W.Fast.tw4187177175401517315 openGood;refine OvC.map_pair ?q1 (OvC.map_pair ?q2 (OvC.map_pair ?q3 (OvC.map_pair ?q4 (OvC.map_pair ?q5 (OvC.map_pair ?q6 (OvC.map_pair ?q7 (OvC.map_pair ?q8 ?q9)))))));(case q1=>unfold openEnds fencedOpening topFrom;rw[PySem.W.Fast.te10274390034422433532,PySem.W.Fast.te14364793385576792824,PySem.W.Fast.te1435165496053646825,PySem.W.Fast.te14289696077712309145,PySem.W.Fast.te14082659384304107361];exact g1 w);(case q2=>unfold openEnds fencedOpening topFrom;rw[PySem.W.Fast.te10274390034422433532,PySem.W.Fast.te14364793385576792824,PySem.W.Fast.te1435165496053646825,PySem.W.Fast.te14289696077712309145,PySem.W.Fast.te14082659384304107361];exact g2 w);(case q3=>unfold openEnds fencedOpening topFrom;rw[PySem.W.Fast.te10274390034422433532,PySem.W.Fast.te14364793385576792824,PySem.W.Fast.te1435165496053646825,PySem.W.Fast.te14289696077712309145,PySem.W.Fast.te14082659384304107361];exact g3 w);(case q4=>unfold openEnds fencedOpening topFrom;rw[PySem.W.Fast.te10274390034422433532,PySem.W.Fast.te14364793385576792824,PySem.W.Fast.te1435165496053646825,PySem.W.Fast.te14289696077712309145,PySem.W.Fast.te14082659384304107361];exact g4 w);(case q5=>unfold openEnds fencedOpening topFrom;rw[PySem.W.Fast.te10274390034422433532,PySem.W.Fast.te14364793385576792824,PySem.W.Fast.te1435165496053646825,PySem.W.Fast.te14289696077712309145,PySem.W.Fast.te14082659384304107361];exact g5 w);(case q6=>unfold openEnds fencedOpening topFrom;rw[PySem.W.Fast.te10274390034422433532,PySem.W.Fast.te14364793385576792824,PySem.W.Fast.te1435165496053646825,PySem.W.Fast.te14289696077712309145,PySem.W.Fast.te14082659384304107361];exact g6 w);(case q7=>unfold openEnds fencedOpening topFrom;rw[PySem.W.Fast.te10274390034422433532,PySem.W.Fast.te14364793385576792824,PySem.W.Fast.te1435165496053646825,PySem.W.Fast.te14289696077712309145,PySem.W.Fast.te14082659384304107361];exact g7 w);(case q8=>unfold openEnds fencedOpening topFrom;rw[PySem.W.Fast.te10274390034422433532,PySem.W.Fast.te14364793385576792824,PySem.W.Fast.te1435165496053646825,PySem.W.Fast.te14289696077712309145,PySem.W.Fast.te14082659384304107361];exact g8 w);(case q9=>unfold openEnds fencedOpening topFrom;rw[PySem.W.Fast.te10274390034422433532,PySem.W.Fast.te14364793385576792824,PySem.W.Fast.te1435165496053646825,PySem.W.Fast.te14289696077712309145,PySem.W.Fast.te14082659384304107361];exact g9 w);skip);(case p2=>unfold openEnds fencedOpening topFrom;rw[PySem.W.Fast.te10274390034422433532,PySem.W.Fast.te14364793385576792824,PySem.W.Fast.te1435165496053646825,PySem.W.Fast.te14289696077712309145,PySem.W.Fast.te14082659384304107361];exact g10 w);(case p3=>unfold openEnds fencedOpening topFrom;rw[PySem.W.Fast.te10274390034422433532,PySem.W.Fast.te14364793385576792824,PySem.W.Fast.te1435165496053646825,PySem.W.Fast.te14289696077712309145,PySem.W.Fast.te14082659384304107361];exact g11 w))
 (case hw=>w_witness2)
 k_fill
 refine OvC.walk82 (l:=PySem.Challenge.rw_ovalfield_k82_three_points_led) rfl rfl (fun w h Y=>PySem.W.kIn_of Y) ?F
 case F =>
  intro w mg fa h KX G hmg
  refine' OvC.all82 KX G hmg ?a0 ?a1 ?a2 ?a3 ?a4 ?a5 ?a6 ?a7 ?a8 ?a9 ?a10 ?a11 ?a12 ?a13 ?a14 ?a15 ?a16 ?a17 ?a18 ?a19 ?a20 ?a21 ?a22 ?a23 ?a24 ?a25 ?a26 ?a27 ?a28 ?a29 ?a30 ?a31 ?a32 ?a33 ?a34 ?a35 ?a36 ?a37 ?a38 ?a39 ?a40 ?a41 ?a42 ?a43 ?a44 ?a45 ?a46 ?a47 ?a48 ?z0 ?z1 ?z2 ?z3 ?z4 ?z5 ?z6 ?z7 ?z8 ?z9 ?z10 ?z11
  case a0|a1|a2|a3|a4|a5|a6|a7|a8|a9|a10|a11|a12|a13|a14|a15|a16|a17|a18|a19|a20|a21|a22|a23|a24|a25|a26|a27|a28|a29|a30|a31|a32|a33|a34|a35|a36|a37|a38|a39|a40|a41|a42|a43|a44|a45|a46|a47|a48=>(refine' Ov.fni ?a ?l ?c ?k;(case a=>k_is);(case l=>k_is);(case c=>k_is);(case k=>k_is))
  (case z0=>k_is)
  (case z1=>k_is)
  (case z2=>k_is)
  (case z3=>k_is)
  (case z4=>k_is)
  (case z5=>k_is)
  (case z6=>k_is)
  (case z7=>k_is)
  (case z8=>k_is)
  (case z9=>k_is)
  (case z10=>k_is)
  (case z11=>k_is)
theorem OvC.reck82_1(w:PySem.World):OvC.hold82.l1 w=OvC.hold82.r1 w:=by kernel_rfl
theorem OvC.reck82_2(w:PySem.World):OvC.hold82.l2 w=OvC.hold82.r2 w:=by kernel_rfl
theorem OvC.reck82_3(w:PySem.World):OvC.hold82.l3 w=OvC.hold82.r3 w:=by kernel_rfl
theorem OvC.reck82_4(w:PySem.World):OvC.hold82.l4 w=OvC.hold82.r4 w:=by kernel_rfl
theorem OvC.reck82_5(w:PySem.World):OvC.hold82.l5 w=OvC.hold82.r5 w:=by kernel_rfl
theorem OvC.reck82_6(w:PySem.World):OvC.hold82.l6 w=OvC.hold82.r6 w:=by kernel_rfl
theorem OvC.reck82_7(w:PySem.World):OvC.hold82.l7 w=OvC.hold82.r7 w:=by kernel_rfl
theorem OvC.reck82_8(w:PySem.World):OvC.hold82.l8 w=OvC.hold82.r8 w:=by kernel_rfl
theorem OvC.reck82_9(w:PySem.World):OvC.hold82.l9 w=OvC.hold82.r9 w:=by kernel_rfl
theorem OvC.reck82_10(w:PySem.World):OvC.hold82.l10 w=OvC.hold82.r10 w:=by kernel_rfl
theorem OvC.reck82_11(w:PySem.World):OvC.hold82.l11 w=OvC.hold82.r11 w:=by kernel_rfl
theorem PySem.Challenge.cw_ovalfield_k82_three_points_led_holds : PySem.Challenge.rw_ovalfield_k82_three_points_led.Holds := by
 exact OvC.hold82.go OvC.reck82_1 OvC.reck82_2 OvC.reck82_3 OvC.reck82_4 OvC.reck82_5 OvC.reck82_6 OvC.reck82_7 OvC.reck82_8 OvC.reck82_9 OvC.reck82_10 OvC.reck82_11
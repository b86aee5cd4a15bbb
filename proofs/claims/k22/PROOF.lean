import PyProof.Rows.All
import Wide.All
import OpenK.AllK
import Wide.FinOn
import PyProof.EqAt
import KE.KSortTup
import PyProof.EqKinds
import PyProof.TupleCall
import Lean
import PySem.Challenge.RW_ovalfield_k22_points_led
set_option Elab.async false
set_option linter.all false
set_option maxRecDepth 100000
set_option maxHeartbeats 4000000
open Option renaming some→Aa,none→Af,bind_eq_some_iff→CD,map_some→Dh,getD_none→N6
open _root_ renaming List→Ab,Int→Ae,Nat→Ag,Option→Al,Bool→An,if_pos→AE,if_neg→AF,False→AW,decide_eq_true_eq→A2,Array→A6,beq_iff_eq→A7,String→Ca,beq_eq_false_iff_ne→Cb,decide_eq_false→Ck,beq_self_eq_true→DH,Decidable→DI,True→E2,if_true→Fj,Unit→FQ,bne_iff_ne→Gs,if_false→Hq,not_or→Hr,of_decide_eq_true→W9
open Bool renaming true→Ac,false→Ad,and_eq_true→Am,false_ne_true→Ap,not_eq_true'→Bh,or_eq_true→CH,eq_iff_iff→EX,and_false→E9,and_true→Nt
open PySem renaming Value→Ah,Addr→Ai,Str→Aj,Shared→Ak,Expr→Ao,wpAny_bind→Aq,starEach→At,wpAny→Ay,Obj→AA,Program→AB,Heap→AC,Pos→AH,World→AI,wpAny_pure→AJ,Around→AK,mainGlobals→AU,cLine→A3,Stmt→Bb,binaryOp→Bi,compareOp→Bs,FuncData→Bu,Scope→Bw,wpAny_mono→By,wpAny_truthy_bool→Bz,mem_of_lookup→BA,Env→BF,backTo→BN,foldedSetIterable→BO,bootBuiltins→BV,assignEach→BW,cellsFrom→B1,Tok→B9,tupleKind_room_in1→Ci,wpAny_newObj_type→Cs,sysModules→Cv,swapsWith→Cw,NameKind→Cz,CmpOp→CP,wpAny_holding→C3,sliceBounds→C7,wpAny_field→C8,wpAny_passesOwn→Dj,sizeLine_eq→Dy,GenState→DB,PassesOwn→DL,letOwnedTupleGo→DV,Keyword→D6,codeAny→D8,atKey→Ef,pushCells→Eg,rawInt→Eh,wpAny_Call_Name_kw→Ei,behindInMarks→Em,swapsWithSole→En,BindsTo→Ez,callerA→EA,IsPart→EH,Operator→EI,Paired→EJ,pushCells_keeps→E0,OsState→Fb,dictSetDefault→Fc,isTrue→Fd,newFunctionEnv→Fe,notedBy→Ff,standAt→Fh,wpAny_setField→Fi,Drawn→Fk,bindC→Fl,bindL→Fm,builtinsNs→Fn,entryOfKey→Fo,numAt→Fp,attributeBase→FE,swappedStores→FF,wpAny_standAt→FG,call_meetsIn→FK,codeAny_mono→FL,concat_meets→FM,lastMarks→FN,noteFrame→FO,seqIndex_neg→FP,Model→FX,getItem→FY,setItem→FZ,keywordEach→F3,seqIndex_of→F4,Result→Go,call→Gq,wpAny_Name→Gr,IntMulOk→GV,Params→GW,backToKw→GX,bindArgs→GY,intItems→GZ,noFill_tuple_add→OA,recursionLimit→OB,slot_list_getitem→OC,wpAny_assign_Name→OD,wpAny_callSpecial?_slot→OE,wpAny_comprehension_free→OF,wpAny_dictEntries→OG,wpAny_execs_nil→OH,wpAny_pyIter_list→OI
open List renaming mem_cons_of_mem→Ar,mem_cons_self→Au,size_toArray→AD,mem_cons→AM,getElem?_eq_some_iff→AT,mem_append_right→AV,length_set→AX,mem_singleton→A9,map_cons→Bj,getElem?_set_ne→Bl,getElem?_set_self→Bm,lookup_cons→Bo,getElem?_eq_getElem→BK,length_map→BR,length_append→B0,append_nil→B6,range→B7,mem_range→Cc,getD_eq_getElem?_getD→Cm,isEmpty_eq_false_iff→Ct,getElem?_map→CO,mem_map→CS,getElem?_append_left→De,mem_append→Dg,getElem?_set_self'→Do,length_cons→DA,find?_cons→DM,mem_filter→DN,nodup_cons→DO,toArray→DP,filterMap_cons→D2,getElem_of_mem→D3,replicate→D5,all_cons→El,filter_cons→ED,getElem_mem→EE,length_take→EF,map_nil→EG,of_mem_zip→EY,all_eq_true→NC,any_cons→ND,any_eq_true→NE,contains_eq_mem→NG,drop_eq_getElem_cons→NH,drop_eq_nil_of_le→NI,forIn_nil→NJ,getElem?_append_right→NK,getElem?_replicate→NL,length→NM,length_drop→NN,length_replicate→NO,length_singleton→NP,lookup→NQ,map_append→NR,map_map→NS,mem_append_left→NT,mem_of_getElem?→NU,nodup_nil→NV,not_mem_nil→NW,reverse_cons→NX,set_set→NY
open Nat renaming lt_of_lt_of_le→Av,le_refl→AG,lt_irrefl→A5,ne_of_lt→Bt,le_trans→BL,ble→C4,ble_eq_true_of_le→DJ,le_of_lt→DQ,pow_le_pow_right→DR,lt_succ_of_lt→Ev,zero_le→F2,le_of_ble_eq_true→NZ,lt_succ_self→N2,min_self→N3,ne_of_gt→N4,not_lt→N5
open PySem.Heap renaming get?_push_of_some→Aw,lt_size→Az,get?_push_size→A8,get?_update_other→BU,get?_update_self→Cj,size_push→Dm,SameBut→DS,get?_none_of_le→DT
open Int renaming emod_eq_of_lt→Ax,emod_emod_of_dvd→A1,emod_lt_of_pos→A4,emod_nonneg→Bc,mul_emod→Bk,dvd_refl→BJ,mul_comm→Ch,one_mul→Ee,mul_assoc→Ej,zero_emod→Ek,mul_one→E1,sub_zero→FI,le_refl→F0,mul_pos→F1,add_emod→Nw,le_trans→Nx,mul_zero→Ny,sub_emod→Nz,toNat_of_nonneg→NA,zero_add→NB
open PySem.NameKind renaming cell→Be,free→Cn
open PySem.W renaming mg_none_of→Bx,nsIn→BM,keepIn→Cd,fnOf→CA,findIn→CU,OpenLaw→Dx,codeIn→D7,methodObj→Ew,mg_of→FD,WalkO→Ou,cellsFrom_some→Ow,kIn_of→Ox,kitOne→Oy,subIn→Oz
open Option.some renaming inj→BS,injEq→Dp
open PySem.Builtin.Slice renaming slicePlaces→Cu,sliceAdjust→Di,sliceApplied→Oc
open PySem.Builtin.Tuple renaming tupleExact→Cy
open False renaming elim→CI
open ForInStep renaming yield→CJ
open PySem.Obj renaming data_mapFields→CK,mapFields→Dz,isFreed_of_fields→DK,mapSeq→Ey,data_mapDictKeys→Oj
open PySem.Value renaming none→CM,ref→EZ,bool→Oo,int→Op,str→Oq
open Prod renaming ext→CN
open Classical renaming choose_spec→CQ,choose→Nu
open PySem.Str renaming ofString→CT
open PyProof.Rows renaming callWith_type1→CY,envOfC→C2,AllBare→Dl,subscriptTail_builtinR→Dw,IntsAre→Fa,IsTup→Gn,boot_list→N7,boot_tuple→N8,slicePart_none→N9,slot_tuple_getitem→Oa
open Ne renaming symm→C5
open Array renaming length_toList→C9,toList→FH,getElem?_eq_getElem→Nr
open PySem.SeqAt renaming EqAt→DU,RcNeAt→FJ,RcAt→Gp
open PySem.Heap.SameBut renaming update→D4
open Sum renaming inl→EB,inr→EC
open NeZero renaming ne→GQ
open PyProof.Rows.IsTup renaming new→GR
open PySem.Data renaming cell→GS,seq→GU
open Function renaming comp_def→Nv
open PySem.Builtin.Int renaming intBits→Ob
open PySem.Calls renaming Name_function_global→Od
open PySem.EntryCells renaming newEntry→Oe
open PySem.F renaming args_tuple_add_2→Of,entry_tuple_add→Og,slot_dict_len→Oh,slot_tuple_add→Oi
open PySem.Paired renaming length→Ol
open PySem.SeqAt.EqAt renaming of_refs→Om,same→On
open PySem.W.WData renaming int→Os
open PySem.W.WShape renaming has→Ot
abbrev Fg:=PySem.W.Frag
set_option genSizeOfSpec false
-- CHANGE: your row's module here, as the last of these rows
namespace L2
open PySem PySem.Spec PyProof.Rows
noncomputable abbrev Key := Sum Ae Aj
noncomputable def ME : Key -> Ah -> An
 |.inl k, v => Value.isInt k v
 |.inr x, v => Value.isStrOf x v
noncomputable def WV(w : AI) : Key -> Ae
 |.inl k => hashInt k
 |.inr x => hashStr w x
theorem Ft : ∀{k : Key}{v : Ah}, ME k v = Ac -> (∃ i t, k = EB i /\ v = Op i t) \/ (∃ x t, k = EC x /\ v = Oq x t)
 |.inl i, v, h => by
  obtain⟨t, e⟩ := Value.isInt_shape (k := i) (v := v) h;exact .inl ⟨i, t, rfl, e⟩
 |.inr x, v, h => by
  obtain⟨t, e⟩ := Value.isStrOf_shape (x := x) (v := v) h;exact .inr ⟨x, t, rfl, e⟩
theorem Tw(a b : Ae) : decide ((EB a : Key) = EB b) = (a==b) := by
 by_cases e : a = b
 ·subst e;simp
 ·have h : ¬ (EB a : Key) = EB b := fun q => e (Sum.inl.inj q)
  rw[Ck h];exact(Cb.mpr e).symm
theorem Tt(a b : Aj) : decide ((EC a : Key) = EC b) = decide (a = b) := by
 by_cases e : a = b
 ·subst e;simp
 ·have h : ¬ (EC a : Key) = EC b := fun q => e (Sum.inr.inj q)
  rw[Ck h, Ck e]
theorem Tv(a : Ae)(b : Aj) : decide ((EB a : Key) = EC b) = Ad := Ck (fun q => nomatch q)
theorem Tu(a : Aj)(b : Ae) : decide ((EC a : Key) = EB b) = Ad := Ck (fun q => nomatch q)
noncomputable def Jk(prog : AB)(w : AI) : PySem.KeyKind prog w Key where
 is := ME
 hash := WV w
 inj := fun v a b ha hb => by
  rcases Ft ha with ⟨i, t, rfl, rfl⟩|⟨x, t, rfl, rfl⟩
  ·rcases Ft hb with ⟨j, u, rfl, e⟩|⟨y, u, rfl, e⟩
   ·injection e with e1 _;rw[e1]
   ·exact nomatch e
  ·rcases Ft hb with ⟨j, u, rfl, e⟩|⟨y, u, rfl, e⟩
   ·exact nomatch e
   ·injection e with e1 _;rw[e1]
 byValue := fun k v h => by
  rcases Ft h with ⟨i, t, rfl, rfl⟩|⟨x, t, rfl, rfl⟩ <;> rfl
 pyHash := fun hv h => by
  rcases Ft hv with ⟨i, t, rfl, rfl⟩|⟨x, t, rfl, rfl⟩
  ·exact wpAny_pyHash_int h
  ·exact wpAny_pyHash_str h
 eqBool := fun hu hv h => by
  rcases Ft hu with ⟨i, t, rfl, rfl⟩|⟨x, t, rfl, rfl⟩
  ·rcases Ft hv with ⟨j, u, rfl, rfl⟩|⟨y, u, rfl, rfl⟩
   ·rw[Tw]at h;exact wpAny_eqBool_int h
   ·rw[Tv]at h;exact SeqAt.EqAt.int_str i t y u _ _ _ _ h
  ·rcases Ft hv with ⟨j, u, rfl, rfl⟩|⟨y, u, rfl, rfl⟩
   ·rw[Tu]at h;exact SeqAt.EqAt.str_int x t j u _ _ _ _ h
   ·rw[Tt]at h;exact wpAny_eqBool_str h
 «strs» := fun k x t v h => by
  rcases Ft h with ⟨i, u, rfl, e⟩|⟨y, u, rfl, e⟩
  ·exact nomatch e
  ·injection e with e1 _
   subst e1;cases v <;> rfl
end L2
namespace L2
open PySem PySem.Spec PyProof.Rows
variable{us:Ab Ah}{a b it:Ai}{P:AB}{h:AC}{o:AA}{g':A6 DB}{t' i j k n:Ag}{d':Fk}{ch fp:Ab Ai}{x qual:Aj}{M:FX}{u:Ah}{Q:FQ -> Ak -> Prop}{e tg:Ao}{s:Ak}{pos:AH}{pI:Ab (Ai × AA)}{es:Ab Ao}{body:Ab Bb}{f:Ah -> Ah -> Sem Ah}{g:Ae -> Ae -> Ae}{op op':CP}{fd:Bu}{ps:Ab Aj}{scope:Bw}
inductive V where
 |non|bl (b : An)|int (i : Ae)|str (x : Aj)|byt (b : A6 UInt8)|flt (b : UInt64)|ref (a : Ai)|ty (n : Ca)
 deriving DecidableEq
variable{xs vs:Ab V}{v y:V}
def AZ : V -> Ah -> Prop
 |.non, u => u = CM
 |.bl b, u => u = Oo b
 |.int i, u => ∃ t, u = Op i t
 |.str x, u => ∃ t, u = Oq x t
 |.byt b, u => ∃ t, u = Value.bytes b t
 |.flt b, u => ∃ t, u = Value.float b t
 |.ref a, u => u = EZ a
 |.ty n, u => u = Value.type n
noncomputable abbrev AN : Ab V -> Ab Ah -> Prop := EJ AZ
theorem AN.length(r : AN xs us) : xs.length = us.length := Ol r
theorem AN.get : ∀{xs : Ab V}{us : Ab Ah}{i : Ag}{x : V}, AN xs us -> xs[i]? = Aa x -> ∃ u, us[i]? = Aa u /\ AZ x u
 |_, _, _, _, .nil, e => by simp at e
 |_, _, 0, _, .cons r _, e => by simp at e;subst e;exact⟨_, rfl, r⟩
 |_, _, i+1, x, .cons _ t, e => by
  obtain⟨u, h1, h2⟩ := AN.get (i := i) (x := x) t (by simpa using e)
  exact⟨u, by simpa using h1, h2⟩
theorem AN.set{x : V}{u : Ah}(r : AZ x u) : ∀{xs : Ab V}{us : Ab Ah}(i : Ag), AN xs us -> AN (xs.set i x) (us.set i u)
 |_, _, _, .nil => .nil
 |_, _, 0, .cons _ t => .cons r t
 |_, _, i+1, .cons q t => .cons q (AN.set r i t)
theorem AN.append : ∀{xs ys : Ab V}{us ws : Ab Ah}, AN xs us -> AN ys ws -> AN (xs++ys) (us++ws)
 |_, _, _, _, .nil, s => s
 |_, _, _, _, .cons r t, s => .cons r (AN.append t s)
theorem AN.take : ∀{xs : Ab V}{us : Ab Ah}(n : Ag), AN xs us -> AN (xs.take n) (us.take n)
 |_, _, 0, _ => .nil
 |_, _, _+1, .nil => .nil
 |_, _, n+1, .cons r t => .cons r (AN.take n t)
theorem AN.drop : ∀{xs : Ab V}{us : Ab Ah}(n : Ag), AN xs us -> AN (xs.drop n) (us.drop n)
 |_, _, 0, r => r
 |_, _, _+1, .nil => .nil
 |_, _, n+1, .cons _ t => AN.drop n t
def No : Al V -> Al Ah -> Prop
 |some v, Aa u => AZ v u
 |none, Af => E2
 |_, _ => AW
noncomputable def KV{κ : Type} : Ab (κ × V) -> Ab (κ × Ah) -> Prop := EJ fun(p : κ × V)(q : κ × Ah) => p.1 = q.1 /\ AZ p.2 q.2
noncomputable def kV : Key -> V
 |.inl i => .int i
 |.inr x => .str x
inductive HO where
 /-- a list -/
 |lst (xs : Ab V)
 /-- a tuple (never changes) -/
 |tup (xs : Ab V)
 /-- a dict whose keys are ints and texts;one whose keys are tuples of ints and texts (the empty one is both) -/
 |dK (kvs : Ab (Key × V))|dT (kvs : Ab (Ab Key × V))
 /-- a set of ints: its members, its size -/
 |set (S : Ae -> An) (n : Ag)
 /-- an instance of the class at C, its dict at dx, its attributes -/
 |ins (C dx : Ai) (fs : Ab (Aj × V))
 /-- the dict of the instance at x -/
 |own (x : Ai)
 /-- the dict of an exception -/
 |xd (fs : Ab (Aj × V))
 /-- a bound method, f of x -/
 |met (f x : Ai)
 /-- a range object lo, lo+1, .. below hi -/
 |rng (lo hi : Ae)
 /-- a thing that is known to the object (the script;a dict while a loop walks it): read, never written while it is so -/
 |frz (o : AA) (u : HO)
 /-- a code object's table -/
 |tbl (ps : A6 Ah)
 /-- any other thing, by what is Ac of its one object (a def of one's own: SetO a S n := HO.ext fun h => ..) -/
 |ext (φ : AC -> Prop)
noncomputable abbrev Hp := Ai -> Al HO
variable{H:Hp}
noncomputable def upd(H : Hp)(a : Ai)(o : HO) : Hp := fun b => if b = a then Aa o else H b
theorem Fs{o:HO} : upd H a o a = Aa o := by unfold upd;rw[AE rfl]
theorem B8{o:HO}(h : b ≠ a) : upd H a o b = H b := by unfold upd;rw[AF h]
theorem DD{o:HO}(h : H a = Aa o)(h' : H b = Af) : a ≠ b := by
 intro e;subst e;rw[h]at h';cases h'
section
variable(P : AB)(w : AI)
def ObjOk(H : Hp)(h : AC)(a : Ai) : HO -> Prop
  |.lst xs => xs.length <= sizeLine /\ ∃(its : Ab Ah)(n : Ag), AN xs its /\ h.get? a = Aa { cls := .type "list", data := .seq its.toArray n }
  |.tup xs => xs.length <= sizeLine /\ ∃ its : Ab Ah, AN xs its /\ Gn h a its.toArray
  |.dK kvs => kvs.length <= sizeLine /\ (a==Cv) = Ad /\ ∃ vs, KV kvs vs /\ h.DictOf (Jk P w) a vs
  |.dT kvs => kvs.length <= sizeLine /\ (a==Cv) = Ad /\ ∃ xs : Ab (Ab Key × Ai × Ah),
      EJ (fun(p : Ab Key × V)(q : Ab Key × Ai × Ah) => p.1 = q.1 /\ H q.2.1 = Aa (.tup (p.1.map kV)) /\ AZ p.2 q.2.2) kvs xs /\
      ∃ o es ep, h.get? a = Aa o /\ o.ExactDict /\ o.data = .dict es ep /\ es.toList = xs.map (Fo (tupleKind (Jk P w))) /\ (xs.map (·.1)).Nodup
  |.set S n => h.SetOf (intKind P w) a S n
  |.ins C dx fs => H dx = Aa (.own a) /\ fs.length <= 1000 /\ dx ≠ a /\ h.get? a = Aa (PySem.W.instObj C dx) /\
      ∃ mA, h.Ns1 dx mA /\ (∀ f, No (fs.lookup f) (mA f)) /\ PySem.Within mA (fs.map (·.1))
  |.own _ => ∃ o, h.get? a = Aa o
  |.xd fs => ∃ mA, h.Ns1 a mA /\ ∀ f, No (fs.lookup f) (mA f)
  |.rng lo hi => ∃ t u v, h.get? a = Aa { cls := .type "range", data := .fields #[.int lo t, .int hi u, .int 1 v] }
  |.frz o u => h.get? a = Aa o /\ ObjOk H h a u
  |.tbl ps => h.get? a = Aa {cls := .none, data := .fields ps}
  |.met f x => h.get? a = Aa (Ew (.ref f) (.ref x))
  |.ext φ => φ h /\ (∃ o, h.get? a = Aa o) /\ ∀ h1 h2 : AC, φ h1 -> (∀ o, h1.get? a = Aa o -> h2.get? a = Aa o) -> φ h2
noncomputable def HOk(H : Hp)(h : AC) : Prop := ∀ a o, H a = Aa o -> ObjOk P w H h a o
end
section
variable{P : AB}{w : AI}{H H' : Hp}{h h' : AC}{a : Ai}{o : HO}
theorem ObjOk.lt(x : ObjOk P w H h a o) : a<h.objs.size := by
 cases o with
 |lst xs => obtain⟨_, _, _, _, e⟩ := x;exact Az e
 |tup xs => obtain⟨_, _, _, p⟩ := x;exact p.lt
 |dK kvs => obtain⟨_, _, _, _, o, _, _, e, _⟩ := x;exact Az e
 |dT kvs => obtain⟨_, _, _, _, o, _, _, e, _⟩ := x;exact Az e
 |set S n => obtain⟨o, _, _, _, e, _⟩ := x;exact Az e
 |ins C dx fs => obtain⟨_, _, _, e, _⟩ := x;exact Az e
 |own y => obtain⟨_, e⟩ := x;exact Az e
 |xd fs => obtain⟨_, ⟨_, _, _, e, _⟩, _⟩ := x;exact Az e
 |rng lo hi => obtain⟨_, _, _, e⟩ := x;exact Az e
 |frz ob u => obtain⟨e, _⟩ := x;exact Az e
 |tbl ps => exact Az (show h.get? a = Aa _ from x)
 |met f y => exact Az (show h.get? a = Aa _ from x)
 |ext φ => obtain⟨_, ⟨_, e⟩, _⟩ := x;exact Az e
theorem EJ.mapP{α β : Type}{F G : α -> β -> Prop} : ∀{l₁ : Ab α}{l₂ : Ab β}, EJ F l₁ l₂ -> (∀ a b, F a b -> G a b) -> EJ G l₁ l₂
 |_, _, .nil, _ => .nil
 |_, _, .cons r t, f => .cons (f _ _ r) (EJ.mapP t f)
theorem ObjOk.stay(x : ObjOk P w H h a o)(k : ∀ b u, (b = a \/ H b = Aa (.own a)) -> h.get? b = Aa u -> h'.get? b = Aa u)(ho : ∀ b, H b = Aa (.own a) -> H' b = Aa (.own a))(ht : ∀ b xs, H b = Aa (.tup xs) -> H' b = Aa (.tup xs)) : ObjOk P w H' h' a o := by
 induction o with
 |lst xs => obtain⟨z, its, n, r, e⟩ := x;exact⟨z, its, n, r, k _ _ (.inl rfl) e⟩
 |tup xs => obtain⟨z, its, r, ob, e, c⟩ := x;exact⟨z, its, r, ob, k _ _ (.inl rfl) e, c⟩
 |dK kvs => obtain⟨z, y, vs, r, ob, es, ep, e, c⟩ := x;exact⟨z, y, vs, r, ob, es, ep, k _ _ (.inl rfl) e, c⟩
 |dT kvs=>
  obtain⟨z, y, xs, r, ob, es, ep, e, c⟩ := x;exact⟨z, y, xs, EJ.mapP r fun p q z => ⟨z.1, ht _ _ z.2.1, z.2.2⟩, ob, es, ep, k _ _ (.inl rfl) e, c⟩
 |set S n => obtain⟨ob, es, ep, t, e, c⟩ := x;exact⟨ob, es, ep, t, k _ _ (.inl rfl) e, c⟩
 |ins C dx fs=>
  obtain⟨d, z, ne, e, mA, ⟨od, es, ep, e2, c⟩, r⟩ := x;exact⟨ho _ d, z, ne, k _ _ (.inl rfl) e, mA, ⟨od, es, ep, k _ _ (.inr d) e2, c⟩, r⟩
 |own y => obtain⟨ob, e⟩ := x;exact⟨ob, k _ _ (.inl rfl) e⟩
 |xd fs => obtain⟨mA, ⟨od, es, ep, e, c⟩, r⟩ := x;exact⟨mA, ⟨od, es, ep, k _ _ (.inl rfl) e, c⟩, r⟩
 |rng lo hi => obtain⟨t, u, v, e⟩ := x;exact⟨t, u, v, k _ _ (.inl rfl) e⟩
 |frz ob u ih => obtain⟨e, q⟩ := x;exact⟨k _ _ (.inl rfl) e, ih q⟩
 |tbl ps=>
  have e : h.get? a = Aa {cls := .none, data := .fields ps} := x;show h'.get? a = Aa {cls := .none, data := .fields ps};exact k a _ (.inl rfl) e
 |met f y=>
  have e : h.get? a = Aa (Ew (.ref f) (.ref y)) := x;show h'.get? a = Aa (Ew (.ref f) (.ref y));exact k a _ (.inl rfl) e
 |ext φ => obtain⟨p, ⟨o, e⟩, st⟩ := x;exact⟨st _ _ p fun o q => k _ _ (.inl rfl) q, ⟨o, k _ _ (.inl rfl) e⟩, st⟩
theorem HOk.lt(x : HOk P w H h)(e : H a = Aa o) : a<h.objs.size := (x a o e).lt
theorem HOk.fresh(x : HOk P w H h)(e : h.objs.size <= a) : H a = Af := by
 cases q : H a with
 |none => rfl
 |some u => exact absurd (Av (x.lt q) e) (A5 _)
theorem HOk.kept(x : HOk P w H h)(k : ∀ b u, h.get? b = Aa u -> h'.get? b = Aa u) : HOk P w H h' := fun a o e=>
 (x a o e).stay (fun b u _ q => k b u q) (fun _ q => q) fun _ _ q => q
theorem HOk.laid(x : HOk P w H h)(k : ∀ b u, h.get? b = Aa u -> h'.get? b = Aa u)(hp : h.objs.size <= a)(new : ObjOk P w (upd H a o) h' a o) : HOk P w (upd H a o) h' := fun b u e => by
 have hn := x.fresh hp;by_cases hb : b = a
 ·subst hb;rw[Fs]at e;cases e;exact new
 ·rw[B8 hb]at e;exact(x b u e).stay (fun c v _ q => k c v q) (fun c q => by rw[B8 (DD q hn)];exact q) fun c xs q => by rw[B8 (DD q hn)];exact q
end
noncomputable def Rd(H : Hp)(a : Ai)(u : HO) : Prop := H a = Aa u \/ ∃ o, H a = Aa (.frz o u)
theorem Rd.ok{w : AI}{u:HO}(r : Rd H a u)(x : HOk P w H h) : ObjOk P w H h a u := by
 rcases r with r|⟨o, r⟩
 ·exact x a u r
 ·obtain⟨_, q⟩ := x a _ r;exact q
def Mut : Al HO -> Prop
 |some (.lst _) => E2
 |some (.dK _) => E2
 |some (.dT _) => E2
 |some (.set _ _) => E2
 |some (.ins _ _ _) => E2
 |some (.ext _) => E2
 |_ => AW
section
variable{P : AB}{w : AI}{H : Hp}{h h' : AC}{x e : Ai}{o' : HO}
theorem HOk.write(ok : HOk P w H h)(mu : Mut (H x))(he : e = x \/ H e = Aa (.own x))(k : ∀ b u, b ≠ e -> h.get? b = Aa u -> h'.get? b = Aa u)(heo : ∃ u, h'.get? e = Aa u)(new : ObjOk P w (upd H x o') h' x o') : HOk P w (upd H x o') h' := fun b u q => by
 have nown : ∀ c y, H c = Aa (.own y) -> c ≠ x := fun c y r z => by subst z;rw[r]at mu;exact mu
 have ntup : ∀ c xs, H c = Aa (.tup xs) -> c ≠ x := fun c xs r z => by subst z;rw[r]at mu;exact mu
 by_cases hb : b = x
 ·subst hb;rw[Fs]at q;cases q;exact new
 ·rw[B8 hb]at q;by_cases hbe : b = e
  ·have q' : H b = Aa (.own x) := by
    rcases he with z|z
    ·exact absurd (hbe.trans z) hb
    ·rw[hbe];exact z
   rw[q]at q';cases q';obtain⟨v, hv⟩ := heo;exact⟨v, by rw[hbe];exact hv⟩
  ·refine(ok b u q).stay (fun c v hc r => k c v ?_ r) (fun c r => by rw[B8 (nown c b r)];exact r) fun c xs r => by rw[B8 (ntup c xs r)];exact r
   rcases hc with rfl|hc
   ·exact hbe
   ·rintro rfl;rcases he with z|z
    ·exact nown c b hc z
    ·rw[hc]at z;cases z;exact hb rfl
end
structure Un (fs ex : Ab Ai) (H H' : Hp) (h h' : AC) : Prop where
 keep : ∀ b o, h.get? b = Aa o -> H b = Af -> b ∉ fs -> b ∉ ex -> h'.get? b = Aa o
 slot : ∀ b o, h.get? b = Aa o -> H b = Af -> b ∈ fs -> b ∉ ex -> ∃ sl, h'.get? b = Aa {o with slots := sl}
 free : ∀ b o, h.get? b = Aa o -> H b = Af -> b ∉ ex -> H' b = Af
 there : ∀ b o, h.get? b = Aa o -> b ∉ ex -> ∃ o', h'.get? b = Aa o'
 tups : ∀ b xs, H b = Aa (.tup xs) -> H' b = Aa (.tup xs)
 frzs : ∀ b o u, H b = Aa (.frz o u) -> H' b = Aa (.frz o u)
 tbls : ∀ b ps, H b = Aa (.tbl ps) -> ∃ more, H' b = Aa (.tbl (ps++more))
section
variable{fs fs' ex ex' : Ab Ai}{H H1 H2 : Hp}{h h1 h2 h' : AC}{a x e : Ai}{o : HO}
theorem Un.any(u : Un fs ex H H1 h h1){ob:AA}(q : h.get? b = Aa ob)(n : H b = Af)(hx : b ∉ ex) : ∃ sl, h1.get? b = Aa {ob with slots := sl} := by
 by_cases hb : b ∈ fs
 ·exact u.slot b ob q n hb hx
 ·exact⟨ob.slots, u.keep b ob q n hb hx⟩
theorem Un.kept(k : ∀ b u, h.get? b = Aa u -> h'.get? b = Aa u) : Un fs ex H H h h':=
 ⟨fun b ob q _ _ _ => k b ob q, fun b ob q _ _ _ => ⟨ob.slots, k b ob q⟩, fun _ _ _ n _ => n, fun b ob q _ => ⟨ob, k b ob q⟩, fun _ _ q => q, fun _ _ _ q => q, fun _ ps q => ⟨#[], by rw[q];simp⟩⟩
theorem Un.refl : Un fs ex H H h h := Un.kept fun _ _ q => q
theorem Un.laid(k : ∀ b u, h.get? b = Aa u -> h'.get? b = Aa u)(hp : h.objs.size <= a)(hn : H a = Af) : Un fs ex H (upd H a o) h h' where
 keep := fun b u q _ _ _ => k b u q
 slot := fun b u q _ _ _ => ⟨u.slots, k b u q⟩
 free := fun b u q n _ => by rw[B8 (Bt (Av (Az q) hp))];exact n
 there := fun b u q _ => ⟨u, k b u q⟩
 tups := fun b xs q => by rw[B8 (DD q hn)];exact q
 frzs := fun b u xs q => by rw[B8 (DD q hn)];exact q
 tbls := fun b ps q => ⟨#[], by rw[B8 (DD q hn), q];simp⟩
theorem Un.write(mu : Mut (H x))(he : e = x \/ H e = Aa (.own x))(k : ∀ b u, b ≠ e -> h.get? b = Aa u -> h'.get? b = Aa u)(heo : ∃ u, h'.get? e = Aa u) : Un fs ex H (upd H x o) h h' := by
 have hx : ∀ b, H b = Af -> b ≠ x := fun b n z => by subst z;rw[n]at mu;exact mu
 have hb : ∀ b, H b = Af -> b ≠ e := fun b n z => by
  subst z;rcases he with r|r
  ·exact hx b n r
  ·rw[n]at r;cases r
 have hm : ∀ b u, H b = Aa u -> ¬ Mut (Aa u) -> b ≠ x := fun b u q nm z => by subst z;rw[q]at mu;exact nm mu
 refine⟨fun b u q n _ _ => k b u (hb b n) q, fun b u q n _ _ => ⟨u.slots, k b u (hb b n) q⟩, fun b u q n _ => by rw[B8 (hx b n)];exact n, fun b u q _ => ?_,
  fun b xs q => by rw[B8 (hm b _ q fun z => z)];exact q, fun b u xs q => by rw[B8 (hm b _ q fun z => z)];exact q, fun b ps q => ⟨#[], by rw[B8 (hm b _ q fun z => z), q];simp⟩⟩
 by_cases hbe : b = e
 ·subst hbe;exact heo
 ·exact⟨u, k b u hbe q⟩
end
noncomputable def trk(h : AC)(H : Hp) : Ab Ai := (B7 h.objs.size).filter fun a => (H a).isSome
noncomputable def Fu(h : AC)(H : Hp) : AC := PySem.W.hideAll h (trk h H)
theorem Pn(h : AC)(H : Hp) : (Fu h H).objs.size = h.objs.size := PySem.W.hideAll_size _ _
theorem PC(e : h.get? b = Aa o)(n : H b = Af) : (Fu h H).get? b = Aa o:=
 PySem.W.hideAll_get _ e fun hm => by
  have q : (H b).isSome = Ac := (DN.mp hm).2;rw[n]at q;simp at q
theorem QP(e : (Fu h H).get? b = Aa o) : h.get? b = Aa o /\ H b = Af := by
 have e' : h.get? b = Aa o := PySem.W.of_hideAll (trk h H) e;refine⟨e', ?_⟩;cases q : H b with
 |none => rfl
 |some x=>
  have hm : b ∈ trk h H := DN.mpr ⟨Cc.mpr (Az e'), by simp[q]⟩
  have z : (Fu h H).get? b = Af := PySem.W.hideAll_none (trk h H) hm;rw[z]at e;cases e
noncomputable def RY(g h : AC)(L : Ai) : Ab (Ai × AA) := (B7 h.objs.size).filterMap fun a => if a = L \/ (g.get? a).isSome = Ac then Af else (h.get? a).map fun o => (a, o)
noncomputable def rest(g h : AC)(L d : Ai) : Ab (Ai × AA) := (RY g h L).filter fun p => decide (p.1 ≠ d)
structure Mod (K : Fg) (mg : Aj -> Al Ah) (base : AC) : Prop where
 kin : K.In base
 glob : base.Ns AU mg
 blt : ∃ mb, base.Ns Fn mb /\ ∀ x : Aj, x ≠ "__name__" -> mb x = BV x
 nolimit : base.NoLimit
structure Cx where
 prog : AB
 w : AI
 K : Fg
 mg : Aj -> Al Ah
 base : AC
 A : AK
 N : Ab Aj
 s₀ : Ak
 H₀ : Hp
 env : BF
 outer : Ab BF
 stack : Ab BF
 ex : Ab Ai
 fn : Aj -> An
 calm : An
 pn : Ab (Ai × AA)
 xe : Ah -> Ak -> Prop
variable{X:Cx}
noncomputable def frs(l : Ab BF) : Ab Ai := l.filterMap (·.frame)
noncomputable abbrev Cx.fs(X : Cx) : Ab Ai := frs X.outer
noncomputable def Vis(sc : Bw)(x : Aj) : Prop := sc.names.lookup x = Aa .local \/ sc.names.lookup x = Aa .cell \/ sc.names.lookup x = Aa .free
noncomputable def Loc(sc : Bw)(x : Aj) : Prop := sc.names.lookup x = Aa .local \/ sc.names.lookup x = Aa .cell
noncomputable def W6(env : BF)(h : AC)(m : Aj -> Al Ah)(x : Aj)(u : Ah) : Prop:=
 (env.kindOf x = Aa .local /\ m x = Aa u) \/ ((env.kindOf x = Aa .cell \/ env.kindOf x = Aa .free) /\ ∃ c, env.cells.lookup x = Aa c /\ h.IsCell c (Aa u))
structure Cx.Ok (X : Cx) : Prop where
 mod : Mod X.K X.mg X.base
 kind : X.env.scope.kind = .function
 glob : X.env.globals = AU
 blt : X.env.builtins = Fn
 above : X.s₀.heap.objs.size <= X.env.locals
 inj : ∀ x y c, X.env.cells.lookup x = Aa c -> X.env.cells.lookup y = Aa c -> x = y
 has : ∀ x, (X.env.kindOf x = Aa .cell \/ X.env.kindOf x = Aa .free) -> ∃ c, X.env.cells.lookup x = Aa c
 cab : ∀ x c, X.fn x = Ac -> X.env.cells.lookup x = Aa c -> X.s₀.heap.objs.size <= c
 hd : X.calm = Ac -> X.A.handled = Af
 frames : X.A.frames = Aa X.stack
 stk : X.stack = X.outer \/ (X.stack = X.env::X.outer /\ X.env.frame = Aa X.env.locals)
 exf : ∀ b ∈ X.ex, b ≠ X.env.locals /\ ∀ x c, X.env.cells.lookup x = Aa c -> c ≠ b
 bs : ∀ b o, X.base.get? b = Aa o -> X.s₀.heap.get? b = Aa o /\ X.H₀ b = Af
 bsz : X.base.objs.size <= X.s₀.heap.objs.size
 noex : ∀ b o, X.base.get? b = Aa o -> b ∉ X.ex
 exfs : ∀ b ∈ X.ex, b ∉ X.fs
 funs : X.s₀.heap.FunFrames X.base X.outer
 frf : ∀ b ∈ X.fs, X.H₀ b = Af
structure Inv (X : Cx) (pI : Ab (Ai × AA)) (σ : Ab (Al V)) (H : Hp) (s : Ak) : Prop where
 ok : X.Ok
 os : s.os = X.s₀.os
 bare : Dl s.gens
 base : Un X.fs X.ex X.H₀ H X.s₀.heap s.heap
 loc : ∃ m, s.heap.Ns X.env.locals m /\ ∀(i : Ag)(x : Aj)(v : V), X.N[i]? = Aa x -> σ[i]? = Aa (Aa v) -> Vis X.env.scope x -> ∃ u, AZ v u /\ W6 X.env s.heap m x u
 cell : ∀ x c, X.env.cells.lookup x = Aa c -> ∃ v, s.heap.IsCell c v
 free : H X.env.locals = Af
 freeC : ∀ x c, X.env.cells.lookup x = Aa c -> H c = Af
 pin : ∀ p ∈ X.pn++pI, s.heap.get? p.1 = Aa p.2 /\ H p.1 = Af /\ p.1 ≠ X.env.locals /\ p.1 ∉ X.fs /\ ∀ v, p.2.data ≠ .cell v
 hok : HOk X.prog X.w H s.heap
 len : σ.length = X.N.length
section
variable{X : Cx}{pI : Ab (Ai × AA)}{σ : Ab (Al V)}{H H' : Hp}{s : Ak}{h' : AC}
theorem Cx.Ok.nofr(ok : X.Ok)(e : X.base.get? b = Aa o) : b ∉ X.fs := fun hb => by
 have := (ok.funs.mem hb).1;rw[e]at this;cases this
theorem Inv.bs(I : Inv X pI σ H s) : ∀ b o, X.base.get? b = Aa o -> s.heap.get? b = Aa o /\ H b = Af := fun b o e=>
 ⟨I.base.keep b o (I.ok.bs b o e).1 (I.ok.bs b o e).2 (I.ok.nofr e) (I.ok.noex b o e), I.base.free b o (I.ok.bs b o e).1 (I.ok.bs b o e).2 (I.ok.noex b o e)⟩
theorem Inv.bk(I : Inv X pI σ H s) : ∀ b o, X.base.get? b = Aa o -> s.heap.get? b = Aa o := fun b o e => (I.bs b o e).1
theorem Inv.mod(I : Inv X pI σ H s) : Mod X.K X.mg X.base := I.ok.mod
theorem Inv.kIn(I : Inv X pI σ H s) : X.K.In s.heap := I.ok.mod.kin.keeps I.bk
theorem Inv.lt(I : Inv X pI σ H s) : X.env.locals<s.heap.objs.size := let ⟨_, hn, _⟩ := I.loc;hn.lt
theorem Inv.sz(I : Inv X pI σ H s) : X.s₀.heap.objs.size <= s.heap.objs.size := BL I.ok.above (DQ I.lt)
theorem Inv.nofs(I : Inv X pI σ H s)(h : s.heap.objs.size <= a) : a ∉ X.fs := fun hb => by
 obtain⟨_, o, ho, _⟩ := I.ok.funs.mem hb;exact absurd (Av (Az ho) (BL I.sz h)) (A5 _)
theorem Inv.cne(I : Inv X pI σ H s) : ∀ x c, X.env.cells.lookup x = Aa c -> c ≠ X.env.locals := fun x c e z => by
 obtain⟨v, o, ho, hd⟩ := I.cell x c e;obtain⟨m, ⟨o', es, ep, ho', hd', _⟩, _⟩ := I.loc;rw[z, ho']at ho;cases ho;rw[hd']at hd;cases hd
theorem Inv.funs(I : Inv X pI σ H s) : s.heap.FunFrames X.base X.outer := by
 have all : ∀(l : Ab BF), (∀ b ∈ frs l, b ∈ X.fs) -> X.s₀.heap.FunFrames X.base l -> s.heap.FunFrames X.base l := by
  intro l
  induction l with
  |nil => intro _ _;trivial
  |cons env r ih=>
   intro hs hl;obtain⟨hk, ⟨L, o, hf, hn, ho, hd⟩, hr⟩ := hl;have hL : L ∈ X.fs := hs L (by unfold frs;rw[D2, hf];exact Au)
   obtain⟨sl, e⟩ := I.base.slot L o ho (I.ok.frf L hL) hL fun z => I.ok.exfs L z hL
   exact⟨hk, ⟨L, _, hf, hn, e, hd⟩, ih (fun b hb => hs b (by unfold frs;rw[D2, hf];exact Ar _ hb)) hr⟩
 exact all X.outer (fun _ hb => hb) I.ok.funs
theorem Inv.stack(I : Inv X pI σ H s) : s.heap.FunFrames X.base X.stack := by
 rcases I.ok.stk with e|⟨e, hf⟩
 ·rw[e];exact I.funs
 ·rw[e];obtain⟨m, hn, _⟩ := I.loc;refine .cons (by rw[I.ok.kind];decide) hf hn ?_ I.funs
  exact DT (BL I.ok.bsz I.ok.above)
theorem Inv.stkSub(I : Inv X pI σ H s) : ∀ b ∈ frs X.stack, b ∈ X.env.locals::X.fs := fun b hb => by
 rcases I.ok.stk with e|⟨e, hf⟩
 ·rw[e]at hb;exact Ar _ hb
 ·rw[e]at hb;unfold frs at hb;rw[D2, hf]at hb;exact hb
theorem Inv.stkFree(I : Inv X pI σ H s) : ∀ b ∈ frs X.stack, H b = Af := fun b hb => by
 rcases AM.mp (I.stkSub b hb) with e|hb
 ·rw[e];exact I.free
 ·obtain⟨_, o, ho, _⟩ := I.ok.funs.mem hb;exact I.base.free b o ho (I.ok.frf b hb) fun z => I.ok.exfs b z hb
theorem Inv.step(I : Inv X pI σ H s)(hch : ∀ b ∈ ch, (b ∈ X.ex \/ X.s₀.heap.objs.size <= b) /\ b ≠ X.env.locals /\ (∀ x c, X.env.cells.lookup x = Aa c -> c ≠ b) /\ ∀ p ∈ X.pn++pI, p.1 ≠ b)(keep : ∀ b o, b ≠ X.env.locals -> b ∉ X.fs -> b ∉ ch -> s.heap.get? b = Aa o -> H b = Af -> h'.get? b = Aa o)(slot : ∀ b o, b ≠ X.env.locals -> b ∈ X.fs -> b ∉ ch -> s.heap.get? b = Aa o -> H b = Af -> ∃ sl, h'.get? b = Aa {o with slots := sl})(free : ∀ b o, b ∉ ch -> s.heap.get? b = Aa o -> H b = Af -> H' b = Af)(there : ∀ b o, b ∉ ch -> s.heap.get? b = Aa o -> ∃ o', h'.get? b = Aa o')(tups : ∀ b xs, H b = Aa (.tup xs) -> H' b = Aa (.tup xs))(frzs : ∀ b o u, H b = Aa (.frz o u) -> H' b = Aa (.frz o u))(tbls : ∀ b ps, H b = Aa (.tbl ps) -> ∃ more, H' b = Aa (.tbl (ps++more)))(ns : ∀ m, s.heap.Ns X.env.locals m -> h'.Ns X.env.locals m)(hok : HOk X.prog X.w H' h')(hg : Dl g'):Inv X pI σ H' {s with heap := h',gens := g',drawn := d',toks := t'} := by
 have neL : ∀ b o, X.s₀.heap.get? b = Aa o -> b ≠ X.env.locals := fun b o e => Bt (Av (Az e) I.ok.above)
 have neC : ∀ b o, X.s₀.heap.get? b = Aa o -> b ∉ X.ex -> b ∉ ch := fun b o e hx hb => by
  rcases (hch b hb).1 with z|z
  ·exact hx z
  ·exact absurd (Av (Az e) z) (A5 _)
 have cellK : ∀ x c, X.env.cells.lookup x = Aa c -> ∀ v, s.heap.IsCell c v -> h'.IsCell c v := fun x c e v ⟨o, ho, hd⟩ => by
  have nch : c ∉ ch := fun z => (hch c z).2.2.1 x c e rfl
  by_cases hc : c ∈ X.fs
  ·obtain⟨sl, q⟩ := slot c o (I.cne x c e) hc nch ho (I.freeC x c e);exact⟨_, q, hd⟩
  ·exact⟨o, keep c o (I.cne x c e) hc nch ho (I.freeC x c e), hd⟩
 refine⟨I.ok, I.os, hg, ⟨fun b o e n hb hx => ?_, fun b o e n hb hx => ?_, fun b o e n hx => ?_, fun b o e hx => ?_, fun b xs e => tups b xs (I.base.tups b xs e), fun b o xs e => frzs b o xs (I.base.frzs b o xs e), fun b ps e => ?_⟩, ?_, fun x c e => ?_, ?_, fun x c e => ?_, fun p hp => ?_, hok, I.len⟩
 ·exact keep b o (neL b o e) hb (neC b o e hx) (I.base.keep b o e n hb hx) (I.base.free b o e n hx)
 ·obtain⟨sl, e1⟩ := I.base.slot b o e n hb hx;obtain⟨sl', e2⟩ := slot b _ (neL b o e) hb (neC b o e hx) e1 (I.base.free b o e n hx);exact⟨sl', e2⟩
 ·obtain⟨o', e1⟩ := I.base.there b o e hx;exact free b o' (neC b o e hx) e1 (I.base.free b o e n hx)
 ·obtain⟨o', e1⟩ := I.base.there b o e hx;exact there b o' (neC b o e hx) e1
 ·obtain⟨m1, e1⟩ := I.base.tbls b ps e;obtain⟨m2, e2⟩ := tbls b _ e1;exact⟨m1++m2, by rw[e2, Array.append_assoc]⟩
 ·obtain⟨m, hn, hl⟩ := I.loc;refine⟨m, ns m hn, fun i x v e1 e2 e3 => ?_⟩
  obtain⟨u, r, l⟩ := hl i x v e1 e2 e3;refine⟨u, r, ?_⟩;rcases l with l|⟨k, c, e, z⟩
  ·exact .inl l
  ·exact .inr ⟨k, c, e, cellK x c e _ z⟩
 ·obtain⟨v, z⟩ := I.cell x c e;exact⟨v, cellK x c e v z⟩
 ·obtain⟨m, ⟨o, _, _, ho, _⟩, _⟩ := I.loc;exact free _ o (fun z => (hch _ z).2.1 rfl) ho I.free
 ·obtain⟨v, o, ho, hd⟩ := I.cell x c e;exact free c o (fun z => (hch c z).2.2.1 x c e rfl) ho (I.freeC x c e)
 ·obtain⟨e, n, ne, nf, d⟩ := I.pin p hp;have nch : p.1 ∉ ch := fun z => (hch p.1 z).2.2.2 p hp rfl
  exact⟨keep p.1 p.2 ne nf nch e n, free p.1 p.2 nch e n, ne, nf, d⟩
theorem Inv.un(I : Inv X pI σ H s)(u : Un X.fs [] H H' s.heap h')(hok : HOk X.prog X.w H' h') : Inv X pI σ H' {s with heap := h', toks := t'} := by
 obtain⟨m, ⟨o, es, ep, ho, r⟩, _⟩ := id I.loc;obtain⟨sl, hL⟩ := u.any ho I.free (by simp)
 exact I.step (g' := s.gens) (d' := s.drawn) (ch := []) (fun _ z => nomatch z) (fun b o _ hb _ e n => u.keep b o e n hb (by simp)) (fun b o _ hb _ e n => u.slot b o e n hb (by simp)) (fun b o _ e n => u.free b o e n (by simp)) (fun b o _ e => u.there b o e (by simp)) u.tups u.frzs u.tbls (fun m' hm => by
  obtain⟨o', es', ep', ho', r'⟩ := hm;rw[ho]at ho';cases ho';exact⟨_, es', ep', hL, r'⟩) hok I.bare
theorem Inv.call(I : Inv X pI σ H s)(u : Un (frs X.stack) ch H H' s.heap h')(hok : HOk X.prog X.w H' h')(hg : Dl g')(hch : ∀ b ∈ ch, (b ∈ X.ex \/ X.s₀.heap.objs.size <= b) /\ b ≠ X.env.locals /\ (∀ x c, X.env.cells.lookup x = Aa c -> c ≠ b) /\ ∀ p ∈ X.pn++pI, p.1 ≠ b):Inv X pI σ H' {s with heap := h',gens := g',drawn := d',toks := t'} := by
 obtain⟨m, ⟨o, es, ep, ho, r⟩, _⟩ := id I.loc;obtain⟨sl, hL⟩ := u.any ho I.free fun z => (hch _ z).2.1 rfl
 exact I.step (ch := ch) hch (fun b o hL hb hc e n => u.keep b o e n (fun z => (AM.mp (I.stkSub b z)).elim hL hb) hc) (fun b o _ _ hc e n => u.any e n hc) (fun b o hc e n => u.free b o e n hc) (fun b o hc e => u.there b o e hc) u.tups u.frzs u.tbls (fun m' hm => by
  obtain⟨o', es', ep', ho', r'⟩ := hm;rw[ho]at ho';cases ho';exact⟨_, es', ep', hL, r'⟩) hok hg
theorem Inv.turned(I : Inv X pI σ H s)(k : ∀ b o, b ≠ it -> s.heap.get? b = Aa o -> h'.get? b = Aa o)(hn : H it = Af)(hL : it ≠ X.env.locals)(h1 : it ∈ X.ex \/ X.s₀.heap.objs.size <= it)(h2 : ∀ x c, X.env.cells.lookup x = Aa c -> c ≠ it)(h3 : ∀ p ∈ X.pn++pI, p.1 ≠ it) : Inv X pI σ H {s with heap := h', toks := t'} := by
 have nit : ∀ b u, H b = Aa u -> b ≠ it := fun b u e z => by rw[z, hn]at e;cases e
 refine I.step (g' := s.gens) (d' := s.drawn) (ch := [it]) (fun b hb => ?_) (fun b o _ _ hc e _ => k b o (fun z => hc (by simp[z])) e) (fun b o _ _ hc e _ => ⟨o.slots, k b o (fun z => hc (by simp[z])) e⟩) (fun _ _ _ _ n => n)
  (fun b o hc e => ⟨o, k b o (fun z => hc (by simp[z])) e⟩) (fun _ _ e => e) (fun _ _ _ e => e) (fun b ps e => ⟨#[], by rw[e];simp⟩) (fun m hm => ?_) (fun b u e => ?_) I.bare
 ·have e : b = it := by simpa using hb
  subst e;exact⟨h1, hL, h2, h3⟩
 ·obtain⟨o, es, ep, ho, r⟩ := hm;exact⟨o, es, ep, k _ o (C5 hL) ho, r⟩
 ·refine(I.hok b u e).stay (fun c v hc q => k c v ?_ q) (fun _ q => q) fun _ _ q => q
  rcases hc with z|z
  ·rw[z];exact nit b u e
  ·exact nit c _ z
theorem Inv.tok(I : Inv X pI σ H s)(t : Ag) : Inv X pI σ H {s with toks := t} := I.un (h' := s.heap) (t' := t) Un.refl I.hok
theorem Inv.kept{t' : Ag}(I : Inv X pI σ H s)(k : ∀ b u, s.heap.get? b = Aa u -> h'.get? b = Aa u) : Inv X pI σ H {s with heap := h', toks := t'} := I.un (Un.kept k) (I.hok.kept k)
theorem Inv.laid{a : Ai}{o : HO}{t' : Ag}(I : Inv X pI σ H s)(k : ∀ b u, s.heap.get? b = Aa u -> h'.get? b = Aa u)(hp : s.heap.objs.size <= a)(new : ObjOk X.prog X.w (upd H a o) h' a o):Inv X pI σ (upd H a o) {s with heap := h',toks := t'} := I.un (Un.laid k hp (I.hok.fresh hp)) (I.hok.laid k hp new)
theorem Inv.write{x e : Ai}{o : HO}{t' : Ag}(I : Inv X pI σ H s)(mu : Mut (H x))(he : e = x \/ H e = Aa (.own x))(k : ∀ b u, b ≠ e -> s.heap.get? b = Aa u -> h'.get? b = Aa u)(heo : ∃ u, h'.get? e = Aa u)(new : ObjOk X.prog X.w (upd H x o) h' x o) : Inv X pI σ (upd H x o) {s with heap := h', toks := t'} := I.un (Un.write mu he k heo) (I.hok.write mu he k heo new)
theorem Inv.pins_of{pins':Ab (Ai × AA)}(I : Inv X pI σ H s)(h : ∀ p ∈ pins', s.heap.get? p.1 = Aa p.2 /\ H p.1 = Af /\ p.1 ≠ X.env.locals /\ p.1 ∉ X.fs /\ ∀ v, p.2.data ≠ .cell v) : Inv X pins' σ H s:=
 ⟨I.ok, I.os, I.bare, I.base, I.loc, I.cell, I.free, I.freeC, fun p hp => (Dg.mp hp).elim (fun z => I.pin p (NT _ z)) (h p), I.hok, I.len⟩
theorem Ld{N : Ab Aj}(hN : N.Nodup)(a : N[i]? = Aa x)(b : N[j]? = Aa x) : i = j := by
 obtain⟨h1, e1⟩ := AT.mp a;obtain⟨h2, e2⟩ := AT.mp b;exact(List.getElem_inj hN).mp (e1.trans e2.symm)
theorem K8{A : AK}{E : Ah -> Ak -> Prop}(I : Inv X pI σ H s)(hN : X.N.Nodup)(hi : X.N[i]? = Aa x)(hx : Loc X.env.scope x)(r : AZ v u)(h : ∀ s', Inv X pI (σ.set i (Aa v)) H s' -> (∃ a, DS a s.heap s'.heap /\ (a = X.env.locals \/ X.env.cells.lookup x = Aa a)) -> Q () s')(hf : X.fn x = Ac \/ X.env.scope.names.lookup x = Aa .local := by first|exact .inl rfl|exact .inr rfl|assumption) : Ay M A (storeName X.env x u) Q E s := by
 obtain⟨m, hn, hl⟩ := id I.loc;have hcls : (X.env.scope.kind==.class||(X.env.scope.kind==.module&&X.env.locals != X.env.globals)) = Ad := by rw[I.ok.kind];rfl
 have hiσ : i<σ.length := by rw[I.len];exact(AT.mp hi).1
 have cne := I.cne;have tracked : ∀{a : Ai}{h' : AC}, (∃ o, s.heap.get? a = Aa o /\ H a = Af) -> DS a s.heap h' -> HOk X.prog X.w H h' := fun {a h'} ha hs b ob e => by
  obtain⟨_, _, hfree⟩ := ha;refine(I.hok b ob e).stay (fun c w' hc q => (hs.2 c ?_).trans q) (fun _ q => q) fun _ _ q => q
  rintro rfl;rcases hc with rfl|hc
  ·rw[hfree]at e;cases e
  ·rw[hfree]at hc;cases hc
 rcases hx with hk|hk
 ·refine wpAny_storeName_local hk hn (fun h' hn' hs => ?_) hcls
  obtain⟨oL, _, _, hoL, _⟩ := id hn;refine h _ ⟨I.ok, I.os, I.bare, ⟨fun b o e n hb hx => ?_, fun b o e n hb hx => ?_, I.base.free, fun b o e hx => ?_, I.base.tups, I.base.frzs, I.base.tbls⟩, ⟨_, hn', fun j y v' e1 e2 e3 => ?_⟩, fun y c e => ?_, I.free, I.freeC, fun p hp => ?_, tracked ⟨oL, hoL, I.free⟩ hs, by simpa using I.len⟩ ⟨_, hs, .inl rfl⟩
  ·exact(hs.2 b (Bt (Av (Az e) I.ok.above))).trans (I.base.keep b o e n hb hx)
  ·obtain⟨sl, e1⟩ := I.base.slot b o e n hb hx;exact⟨sl, (hs.2 b (Bt (Av (Az e) I.ok.above))).trans e1⟩
  ·obtain⟨o', e1⟩ := I.base.there b o e hx;exact⟨o', (hs.2 b (Bt (Av (Az e) I.ok.above))).trans e1⟩
  ·by_cases hj : j = i
   ·subst hj;rw[hi]at e1;cases e1;rw[Bm hiσ]at e2;cases e2;exact⟨u, r, .inl ⟨hk, by simp⟩⟩
   ·rw[Bl (C5 hj)]at e2;obtain⟨u', r', q⟩ := hl j y v' e1 e2 e3;refine⟨u', r', ?_⟩;rcases q with ⟨k, e⟩|⟨k, c, e, z⟩
    ·refine .inl ⟨k, ?_⟩;have : y ≠ x := fun e => hj (Ld hN e1 (e ▸ hi))
     simp[this, e]
    ·exact .inr ⟨k, c, e, z.sameBut hs (cne y c e)⟩
  ·obtain⟨w', z⟩ := I.cell y c e;exact⟨w', z.sameBut hs (cne y c e)⟩
  ·obtain⟨e, n, ne, nf, d⟩ := I.pin p hp;exact⟨(hs.2 p.1 ne).trans e, n, ne, nf, d⟩
 ·have hfn : X.fn x = Ac := by
   rcases hf with z|z
   ·exact z
   ·rw[z]at hk;cases hk
  obtain⟨c, hc⟩ := I.ok.has x (.inl hk);obtain⟨w', z⟩ := I.cell x c hc;refine wpAny_storeName_cell I.ok.kind hk hc z (fun h' hc' hs => ?_)
  obtain⟨oc, hoc, hocd⟩ := id z;refine h {s with heap := h'} ⟨I.ok, I.os, I.bare, ⟨fun b o e n hb hx => ?_, fun b o e n hb hx => ?_, I.base.free, fun b o e hx => ?_, I.base.tups, I.base.frzs, I.base.tbls⟩, ⟨m, hn.sameBut hs (C5 (cne x c hc)), fun j y v' e1 e2 e3 => ?_⟩, fun y c' e => ?_, I.free, I.freeC, fun p hp => ?_, tracked ⟨oc, hoc, I.freeC x c hc⟩ hs, by simpa using I.len⟩ ⟨c, hs, .inr hc⟩
  ·exact(hs.2 b (Bt (Av (Az e) (I.ok.cab x c hfn hc)))).trans (I.base.keep b o e n hb hx)
  ·obtain⟨sl, e1⟩ := I.base.slot b o e n hb hx;exact⟨sl, (hs.2 b (Bt (Av (Az e) (I.ok.cab x c hfn hc)))).trans e1⟩
  ·obtain⟨o', e1⟩ := I.base.there b o e hx;exact⟨o', (hs.2 b (Bt (Av (Az e) (I.ok.cab x c hfn hc)))).trans e1⟩
  ·by_cases hj : j = i
   ·subst hj;rw[hi]at e1;cases e1;rw[Bm hiσ]at e2;cases e2;exact⟨u, r, .inr ⟨.inl hk, c, hc, hc'⟩⟩
   ·rw[Bl (C5 hj)]at e2;obtain⟨u', r', q⟩ := hl j y v' e1 e2 e3;refine⟨u', r', ?_⟩;rcases q with q|⟨k, c', e, z'⟩
    ·exact .inl q
    ·refine .inr ⟨k, c', e, z'.sameBut hs ?_⟩;rintro rfl;exact hj (Ld hN e1 (I.ok.inj _ _ _ e hc ▸ hi))
  ·by_cases hcc : c' = c
   ·subst hcc;exact⟨_, hc'⟩
   ·obtain⟨w2, z2⟩ := I.cell y c' e;exact⟨w2, z2.sameBut hs hcc⟩
  ·obtain⟨e, n, ne, nf, d⟩ := I.pin p hp;refine⟨(hs.2 p.1 ?_).trans e, n, ne, nf, d⟩;intro q;rw[q, hoc]at e;have q' : oc = p.2 := BS e;exact d w' (by rw[<-q'];exact hocd)
theorem Lp{A : AK}{E : Ah -> Ak -> Prop}(I : Inv X pI σ H s)(hN : X.N.Nodup)(hi : X.N[i]? = Aa x)(hx : Loc X.env.scope x)(r : AZ v u)(h : ∀ s', Inv X pI (σ.set i (Aa v)) H s' -> Q () s')(hf : X.fn x = Ac \/ X.env.scope.names.lookup x = Aa .local := by first|exact .inl rfl|exact .inr rfl|assumption) : Ay M A (storeName X.env x u) Q E s:=
 K8 I hN hi hx r (fun s' I' _ => h s' I') hf
theorem Inv.call'{s':Ak}(I : Inv X pI σ H s)(ho : s'.os = s.os)(u : Un (frs X.stack) ch H H' s.heap s'.heap)(hok : HOk X.prog X.w H' s'.heap)(hg : Dl s'.gens)(hch : ∀ b ∈ ch, (b ∈ X.ex \/ X.s₀.heap.objs.size <= b) /\ b ≠ X.env.locals /\ (∀ x c, X.env.cells.lookup x = Aa c -> c ≠ b) /\ ∀ p ∈ X.pn++pI, p.1 ≠ b) : Inv X pI σ H' s' := by
 obtain⟨h', g', d', t', o'⟩ := s';have e : o' = s.os := ho;subst e;exact I.call (g' := g') (t' := t') (d' := d') u hok hg hch
end
noncomputable abbrev XK := Ah -> Al Ai -> Hp -> Prop
noncomputable abbrev St := Ab (Al V)
variable{σ:St}
noncomputable abbrev VK := V -> Hp -> Prop
noncomputable abbrev TE := St -> Hp -> VK -> Prop
variable{te:TE}
noncomputable abbrev TT := St -> Hp -> (An -> Hp -> Prop) -> Prop
noncomputable abbrev TA := St -> Hp -> (Ab V -> Hp -> Prop) -> Prop
variable{ta:TA}
structure Ends where
 nx : St -> Hp -> Prop
 rt : VK
 bk : St -> Hp -> Prop := fun _ _ => AW
 ct : St -> Hp -> Prop := fun _ _ => AW
noncomputable abbrev TS := Ends -> St -> Hp -> Prop
noncomputable def EP(X : Cx)(pI : Ab (Ai × AA))(σ : St)(Q : VK)(u : Ah)(s' : Ak) : Prop := ∃ v H', Inv X pI σ H' s' /\ AZ v u /\ Q v H'
noncomputable def TP(X : Cx)(pI : Ab (Ai × AA))(σ : St)(Q : An -> Hp -> Prop)(b : An)(s' : Ak) : Prop := ∃ H', Inv X pI σ H' s' /\ Q b H'
noncomputable def AP(X : Cx)(pI : Ab (Ai × AA))(σ : St)(Q : Ab V -> Hp -> Prop)(us : Ab Ah)(s' : Ak) : Prop := ∃ vs H', Inv X pI σ H' s' /\ AN vs us /\ Q vs H'
noncomputable def SP(X : Cx)(pI : Ab (Ai × AA))(D : Ends)(f : Flow)(s' : Ak) : Prop:=
  match f with
  |.next => ∃ σ' H', Inv X pI σ' H' s' /\ D.nx σ' H'
  |.brk => ∃ σ' H', Inv X pI σ' H' s' /\ D.bk σ' H'
  |.cont => ∃ σ' H', Inv X pI σ' H' s' /\ D.ct σ' H'
  |.ret u => ∃ v σ' H', Inv X pI σ' H' s' /\ AZ v u /\ D.rt v H'
noncomputable def PE(X : Cx)(e : Ao)(t : TE) : Prop:=
 ∀(pI : Ab (Ai × AA))(s : Ak)(σ : St)(H : Hp)(Q : VK), Inv X pI σ H s -> t σ H Q -> Ay (model X.prog X.w) X.A (eval e X.env) (EP X pI σ Q) X.xe s
noncomputable def PT(X : Cx)(e : Ao)(t : TT) : Prop:=
 ∀(pI : Ab (Ai × AA))(s : Ak)(σ : St)(H : Hp)(Q : An -> Hp -> Prop), Inv X pI σ H s -> t σ H Q -> Ay (model X.prog X.w) X.A (Fd e X.env (eval e X.env)) (TP X pI σ Q) X.xe s
noncomputable def PW(X : Cx)(e : Ao)(t : TT) : Prop:=
 ∀(whole : Sem Ah)(pI : Ab (Ai × AA))(s : Ak)(σ : St)(H : Hp)(Q : An -> Hp -> Prop), Inv X pI σ H s -> t σ H Q -> Ay (model X.prog X.w) X.A (Fd e X.env whole) (TP X pI σ Q) X.xe s
theorem PW.pt{t:TT}(h : PW X e t) : PT X e t := h _
noncomputable def PA(X : Cx)(es : Ab Ao)(t : TA) : Prop:=
 ∀(pos : AH)(pI : Ab (Ai × AA))(s : Ak)(σ : St)(H : Hp)(Q : Ab V -> Hp -> Prop), Inv X pI σ H s -> t σ H Q -> Ay (model X.prog X.w) X.A (spliced (BN pos (At es X.env))) (AP X pI σ Q) X.xe s
noncomputable def PS(X : Cx)(st : Bb)(t : TS) : Prop:=
 ∀(pI : Ab (Ai × AA))(s : Ak)(σ : St)(H : Hp)(D : Ends), Inv X pI σ H s -> t D σ H -> Ay (model X.prog X.w) X.A (exec st X.env) (SP X pI D) X.xe s
noncomputable def PSs(X : Cx)(st : Ab Bb)(t : TS) : Prop:=
 ∀(pI : Ab (Ai × AA))(s : Ak)(σ : St)(H : Hp)(D : Ends), Inv X pI σ H s -> t D σ H -> Ay (model X.prog X.w) X.A (execs st X.env) (SP X pI D) X.xe s
theorem thn{α:Type}{t : Sem α}{Q Q' : α -> Ak -> Prop}{A : AK}{E : Ah -> Ak -> Prop}(h : Ay M A t Q E s)(hQ : ∀ a s, Q a s -> Q' a s) : Ay M A t Q' E s := By h hQ fun _ _ x => x
section
variable{X : Cx}
noncomputable def Fx(i : Ag) : TE := fun σ H Q => ∃ v, σ[i]? = Aa (Aa v) /\ Q v H
noncomputable def tC(v : V) : TE := fun _ H Q => Q v H
theorem TZ(hN : X.N[i]? = Aa x)(hv : Vis X.env.scope x)(hd : (x==("__debug__" : Aj)) = Ad := by decide)(hcd : (x==("__classdict__" : Aj)) = Ad := by decide) : PE X (.Name x pos) (Fx i) := by
 intro pI s σ H Q I h;obtain⟨v, e, h⟩ := h;obtain⟨m, hn, hl⟩ := I.loc;obtain⟨u, r, l⟩ := hl i x v hN e hv;have fin : EP X pI σ Q u s := ⟨v, H, I, r, h⟩;rcases l with ⟨hk, hm⟩|⟨hk, c, hc, hcell⟩
 ·exact Gr (wpAny_loadName_local I.ok.kind hk hn hm fin) hd
 ·rcases hk with hk|hk
  ·exact Gr (wpAny_loadName_cell I.ok.kind hk hc hcell fin) hd
  ·exact Gr (wpAny_loadName_free I.ok.kind hk hc hcell fin hcd) hd
theorem T8{i j pos} : PE X (.Constant (.int i) j pos) (tC (.int i)) := fun _ _ _ H _ I h => wpAny_Constant_int ⟨.int i, H, I.tok _, ⟨_, rfl⟩, h⟩
theorem V2{b j pos} : PE X (.Constant (.bool b) j pos) (tC (.bl b)) := fun _ _ _ H _ I h => Constant_bool ⟨.bl b, H, I, rfl, h⟩
theorem T6{j pos} : PE X (.Constant .none j pos) (tC .non) := fun _ _ _ H _ I h => Constant_none ⟨.non, H, I, rfl, h⟩
theorem T3{x j pos} : PE X (.Constant (.str x) j pos) (tC (.str x)) := fun _ _ _ H _ I h => Calls.Constant_str ⟨.str x, H, I.tok _, ⟨_, rfl⟩, h⟩
noncomputable def Gl(X : Cx)(x : Aj) : Prop := X.env.kindOf x = Aa .globalImplicit
theorem R6{E : Ah -> Ak -> Prop}{Q:Ah -> Ak -> Prop}(I : Inv X pI σ H s)(hg : Gl X x)(hm : X.mg x = Aa u)(h : Q u s)(hd : (x==("__debug__" : Aj)) = Ad := by decide) : Ay (model X.prog X.w) X.A (eval (.Name x pos) X.env) Q E s:=
 Od I.ok.kind hg (Calls.loadGlobal_global (by rw[I.ok.glob];exact I.mod.glob.keeps I.bk) hm h) hd
theorem Hd{E : Ah -> Ak -> Prop}{Q:Ah -> Ak -> Prop}(I : Inv X pI σ H s)(hg : Gl X x)(hm : X.mg x = Af)(hv : BV x = Aa u)(h : Q u s)(hn : x ≠ "__name__" := by decide)(hd : (x==("__debug__" : Aj)) = Ad := by decide) : Ay (model X.prog X.w) X.A (eval (.Name x pos) X.env) Q E s := by
 obtain⟨mb, h1, h2⟩ := I.mod.blt;exact Od I.ok.kind hg (Calls.loadGlobal_builtin (by rw[I.ok.glob];exact I.mod.glob.keeps I.bk) hm (by rw[I.ok.blt];exact h1.keeps I.bk) ((h2 x hn).trans hv) h) hd
theorem Q9(hg : Gl X x)(hm : X.mg x = Af)(hv : BV x = Aa u)(r : AZ v u)(hn : x ≠ "__name__" := by decide)(hd : (x==("__debug__" : Aj)) = Ad := by decide) : PE X (.Name x pos) (tC v):=
 fun _ _ _ H _ I h => Hd I hg hm hv ⟨v, H, I, r, h⟩ hn hd
variable{a b : Ao}{ta tb : TE}{pos : AH}
variable{tA tB' : TT}{rest : Ab Ao}
noncomputable def WN(t u : TT) : TT := fun σ H Q => t σ H fun c H1 => if c = Ac then u σ H1 Q else Q Ad H1
noncomputable def tOr(t u : TT) : TT := fun σ H Q => t σ H fun c H1 => if c = Ac then Q Ac H1 else u σ H1 Q
noncomputable def WI(t : TT) : TT := fun σ H Q => t σ H fun c H1 => Q (!c) H1
theorem QY(ha : PT X a tA) : PW X (.BoolOp .And [a] pos) tA := by
 intro wh pI s σ H Q I h;refine isTrue_and (thn (ha pI s σ H Q I h) fun c s1 e => ?_)
 cases c with
 |true => exact isTrue_and_nil e
 |false => exact e
theorem TM(ha : PT X a tA) : PW X (.BoolOp .Or [a] pos) tA := by
 intro wh pI s σ H Q I h;refine isTrue_or (thn (ha pI s σ H Q I h) fun c s1 e => ?_)
 cases c with
 |false => exact isTrue_or_nil e
 |true => exact e
theorem TN(ha : PT X a tA)(hb : PW X (.BoolOp .And (b::rest) pos) tB') : PW X (.BoolOp .And (a::b::rest) pos) (WN tA tB') := by
 intro wh pI s σ H Q I h;refine isTrue_and (thn (ha pI s σ H _ I h) fun c s1 ⟨H1, I1, q1⟩ => ?_)
 cases c with
 |true => exact hb wh pI s1 σ H1 Q I1 q1
 |false => exact⟨H1, I1, q1⟩
theorem U9(ha : PT X a tA)(hb : PW X (.BoolOp .Or (b::rest) pos) tB') : PW X (.BoolOp .Or (a::b::rest) pos) (tOr tA tB') := by
 intro wh pI s σ H Q I h;refine isTrue_or (thn (ha pI s σ H _ I h) fun c s1 ⟨H1, I1, q1⟩ => ?_)
 cases c with
 |true => exact⟨H1, I1, q1⟩
 |false => exact hb wh pI s1 σ H1 Q I1 q1
theorem TR(ha : PT X a tA) : PT X (.UnaryOp .Not a pos) (WI tA) := by
 intro pI s σ H Q I h;exact isTrue_not (ha pI s σ H (fun c H1 => Q (!c) H1) I h)
noncomputable def UR(ta tb : TE) : TE := fun σ H Q => ta σ H fun x H1 => ∃ c, x = .bl c /\ if c = Ac then tb σ H1 Q else Q (.bl Ad) H1
noncomputable def WH(ta tb : TE) : TE := fun σ H Q => ta σ H fun x H1 => ∃ c, x = .bl c /\ if c = Ac then Q (.bl Ac) H1 else tb σ H1 Q
noncomputable def UM(ta : TE) : TE := fun σ H Q => ta σ H fun x H1 => ∃ c, x = .bl c /\ Q (.bl (!c)) H1
theorem T4{op}{t:TE}(h : PE X a t) : PE X (.BoolOp op [a] pos) t := fun pI s σ H Q I hw => BoolOp_one (h pI s σ H Q I hw)
theorem T9(ha : PE X a ta)(hb : PE X (.BoolOp .And (b::rest) pos) tb) : PE X (.BoolOp .And (a::b::rest) pos) (UR ta tb) := by
 intro pI s σ H Q I h;refine BoolOp_and (thn (ha pI s σ H _ I h) fun v s1 ⟨x, H1, I1, r1, q1⟩ => ?_)
 obtain⟨c, rfl, q1⟩ := q1;cases r1;refine Bz ?_;cases c with
 |true => exact hb pI s1 σ H1 Q I1 q1
 |false => exact⟨.bl Ad, H1, I1, rfl, q1⟩
theorem V0(ha : PE X a ta)(hb : PE X (.BoolOp .Or (b::rest) pos) tb) : PE X (.BoolOp .Or (a::b::rest) pos) (WH ta tb) := by
 intro pI s σ H Q I h;refine BoolOp_or (thn (ha pI s σ H _ I h) fun v s1 ⟨x, H1, I1, r1, q1⟩ => ?_)
 obtain⟨c, rfl, q1⟩ := q1;cases r1;refine Bz ?_;cases c with
 |false => exact hb pI s1 σ H1 Q I1 q1
 |true => exact⟨.bl Ac, H1, I1, rfl, q1⟩
theorem T5(ha : PE X a ta) : PE X (.UnaryOp .Not a pos) (UM ta) := by
 intro pI s σ H Q I h;refine UnaryOp_ (thn (ha pI s σ H _ I h) fun v s1 ⟨x, H1, I1, r1, q1⟩ => ?_)
 obtain⟨c, rfl, q1⟩ := q1;cases r1;exact not_of (Bz ⟨.bl (!c), H1, I1, rfl, q1⟩)
end
noncomputable def SqL(K : Fg)(H : Hp)(a : Ai)(xs : Ab V) : Prop:=
 Rd H a (.lst xs) \/
  ∃(o : AA)(its : A6 Ah)(n : Ag), K.lookup a = Aa o /\ o.cls = .type "list" /\ o.dict = Af /\ o.data = .seq its n /\ its.size <= sizeLine /\ AN xs its.toList
noncomputable def SqT(K : Fg)(H : Hp)(a : Ai)(xs : Ab V) : Prop:=
 Rd H a (.tup xs) \/
  ∃(o : AA)(its : A6 Ah)(n : Ag), K.lookup a = Aa o /\ o.cls = .type "tuple" /\ o.data = .seq its n /\ its.size <= sizeLine /\ AN xs its.toList
noncomputable def W1 : Ah -> Al V
 |.none => Aa .non
 |.bool b => Aa (.bl b)
 |.int i _ => Aa (.int i)
 |.str x _ => Aa (.str x)
 |.bytes b _ => Aa (.byt b)
 |.float b _ => Aa (.flt b)
 |.ref a => Aa (.ref a)
 |.type n => Aa (.ty n)
 |_ => Af
theorem AZ.abs{x:V}(r : AZ x u) : W1 u = Aa x := by
 cases x with
 |non => cases r;rfl
 |bl _ => cases r;rfl
 |int _ => obtain⟨t, rfl⟩ := r;rfl
 |str _ => obtain⟨t, rfl⟩ := r;rfl
 |byt _ => obtain⟨t, rfl⟩ := r;rfl
 |flt _ => obtain⟨t, rfl⟩ := r;rfl
 |ref _ => cases r;rfl
 |ty _ => cases r;rfl
theorem AZ.inj{x:V}(r : AZ x u)(q : AZ y u) : x = y := BS (r.abs.symm.trans q.abs)
theorem AN.inj : ∀{xs ys : Ab V}{us : Ab Ah}, AN xs us -> AN ys us -> xs = ys
 |_, _, _, .nil, .nil => rfl
 |_, _, _, .cons r t, .cons r' t' => by rw[r.inj r', AN.inj t t']
section
variable{X : Cx}{pI : Ab (Ai × AA)}{σ : St}{H : Hp}{s : Ak}{a : Ai}{xs ys : Ab V}
theorem SqL.of{K : Fg}(h : H a = Aa (.lst xs)) : SqL K H a xs := .inl (.inl h)
theorem SqT.of{K : Fg}(h : H a = Aa (.tup xs)) : SqT K H a xs := .inl (.inl h)
theorem Inv.list(I : Inv X pI σ H s)(h : SqL X.K H a xs) : ∃ its : Ab Ah, AN xs its /\ PlainL s.heap a its.toArray /\ xs.length <= sizeLine := by
 rcases h with h|⟨o, its, n, hk, hc, hd, hs, hz, r⟩
 ·obtain⟨z, its, n, r, e⟩ := h.ok I.hok;exact⟨its, r, ⟨_, n, e, rfl, rfl, rfl⟩, z⟩
 ·refine⟨its.toList, r, ⟨o, n, I.kIn a o hk, hc, hd, by simpa using hs⟩, ?_⟩
  have e := r.length;simp only[C9]at e;omega
theorem Inv.tuple(I : Inv X pI σ H s)(h : SqT X.K H a xs) : ∃ its : Ab Ah, AN xs its /\ Gn s.heap a its.toArray /\ xs.length <= sizeLine := by
 rcases h with h|⟨o, its, n, hk, hc, hs, hz, r⟩
 ·obtain⟨z, its, r, p⟩ := h.ok I.hok;exact⟨its, r, p, z⟩
 ·refine⟨its.toList, r, ⟨o, I.kIn a o hk, hc, n, by simpa using hs⟩, ?_⟩
  have e := r.length;simp only[C9]at e;omega
theorem Inv.list_inj(I : Inv X pI σ H s)(h : SqL X.K H a xs)(h' : SqL X.K H a ys) : xs = ys := by
 obtain⟨its, r, ⟨o, n, e, _, _, d⟩, _⟩ := I.list h;obtain⟨its', r', ⟨o', n', e', _, _, d'⟩, _⟩ := I.list h';rw[e]at e';cases e';rw[d]at d'
 injection d' with d1 _
 have : its = its' := by simpa using congrArg FH d1
 subst this;exact r.inj r'
theorem Inv.tuple_inj(I : Inv X pI σ H s)(h : SqT X.K H a xs)(h' : SqT X.K H a ys) : xs = ys := by
 obtain⟨its, r, ⟨o, e, _, n, d⟩, _⟩ := I.tuple h;obtain⟨its', r', ⟨o', e', _, n', d'⟩, _⟩ := I.tuple h';rw[e]at e';cases e';rw[d]at d'
 injection d' with d1 _
 have : its = its' := by simpa using congrArg FH d1
 subst this;exact r.inj r'
end
noncomputable abbrev Cx.wish(X : Cx)(E : Ah -> Ak -> Prop) : Cx := {X with xe := E}
noncomputable abbrev Cx.nox(X : Cx) : Cx := X.wish fun _ _ => AW
theorem Cx.Ok.wish(ok : X.Ok)(E : Ah -> Ak -> Prop) : (X.wish E).Ok:=
 ⟨ok.mod, ok.kind, ok.glob, ok.blt, ok.above, ok.inj, ok.has, ok.cab, ok.hd, ok.frames, ok.stk, ok.exf, ok.bs, ok.bsz, ok.noex, ok.exfs, ok.funs, ok.frf⟩
theorem Cx.Ok.unwish{E : Ah -> Ak -> Prop}(ok : (X.wish E).Ok) : X.Ok:=
 ⟨ok.mod, ok.kind, ok.glob, ok.blt, ok.above, ok.inj, ok.has, ok.cab, ok.hd, ok.frames, ok.stk, ok.exf, ok.bs, ok.bsz, ok.noex, ok.exfs, ok.funs, ok.frf⟩
section
variable{X : Cx}{pI : Ab (Ai × AA)}{σ : St}{H : Hp}{s : Ak}{E : Ah -> Ak -> Prop}
theorem Inv.wish(I : Inv X pI σ H s)(E : Ah -> Ak -> Prop) : Inv (X.wish E) pI σ H s := ⟨I.ok.wish E, I.os, I.bare, I.base, I.loc, I.cell, I.free, I.freeC, I.pin, I.hok, I.len⟩
theorem Inv.unwish(I : Inv (X.wish E) pI σ H s) : Inv X pI σ H s := ⟨I.ok.unwish, I.os, I.bare, I.base, I.loc, I.cell, I.free, I.freeC, I.pin, I.hok, I.len⟩
theorem SP.unwish{D : Ends}{f : Flow}{s' : Ak}(h : SP (X.wish E) pI D f s') : SP X pI D f s' := by
 cases f with
 |next => obtain⟨σ', H', I, q⟩ := h;exact⟨σ', H', I.unwish, q⟩
 |brk => obtain⟨σ', H', I, q⟩ := h;exact⟨σ', H', I.unwish, q⟩
 |cont => obtain⟨σ', H', I, q⟩ := h;exact⟨σ', H', I.unwish, q⟩
 |ret u => obtain⟨v, σ', H', I, r, q⟩ := h;exact⟨v, σ', H', I.unwish, r, q⟩
theorem PSs.nox{st:Ab Bb}{t:TS}(h : PSs X.nox st t) : PSs X st t := fun pI s σ H D I hw=>
 By (h pI s σ H D (I.wish _) hw) (fun _ _ q => q.unwish) fun _ _ z => CI z
end
section
variable{X : Cx}{st : Bb}{rest : Ab Bb}{t u : TS}{e : Ao}{te : TE}{pos : AH}
noncomputable def UN : TS := fun D σ H => D.nx σ H
noncomputable def WZ(t u : TS) : TS := fun D σ H => t {D with nx := u D} σ H
theorem Q2 : PSs X [] UN := fun _ _ σ H _ I h => OH ⟨σ, H, I, h⟩
theorem PZ(h1 : PS X st t)(h2 : PSs X rest u) : PSs X (st::rest) (WZ t u) := by
 intro pI s σ H D I h;refine wpAny_execs_cons (thn (h1 pI s σ H {D with nx := u D} I h) fun f s1 q => ?_)
 cases f with
 |next=>
  obtain⟨σ', H', I', q⟩ := q;exact h2 pI s1 σ' H' D I' q
 |ret v => exact q
 |brk => exact q
 |cont => exact q
theorem Inv.quiet(I : Inv X pI σ H s) : interactive X.env = Ad := by simp[interactive, I.ok.kind]
noncomputable def UO(te : TE) : TS := fun D σ H => te σ H fun _ H1 => D.nx σ H1
theorem Lz(he : PE X e te)(hs : Cw e Af pos.line X.env = pure Ad := by rfl) : PS X (.Expr e pos) (UO te) := by
 intro pI s σ H D I h;exact wpAny_Expr_any (thn (he pI s σ H _ I h) fun v s1 ⟨x, H1, I1, r1, q1⟩ => ⟨σ, H1, I1, q1⟩) I.quiet hs
noncomputable def WG(te : TE) : TS := fun D σ H => te σ H D.rt
theorem Jt(he : PE X e te) : PS X (.Return (Aa e) pos) (WG te) := by
 intro pI s σ H D I h;exact wpAny_Return_some (thn (he pI s σ H _ I h) fun v s1 ⟨x, H1, I1, r1, q1⟩ => ⟨x, σ, H1, I1, r1, q1⟩)
noncomputable def WL(c : TT)(t u : TS) : TS := fun D σ H => c σ H fun b H1 => if b = Ac then t D σ H1 else u D σ H1
theorem Vb{c:Ao}{a b:Ab Bb}{tc:TT}(hc : PT X c tc)(ha : PSs X a t)(hb : PSs X b u) : PS X (.If c a b pos) (WL tc t u) := by
 intro pI s σ H D I h;refine wpAny_If (thn (hc pI s σ H _ I h) fun d s1 ⟨H1, I1, q1⟩ => ?_)
 cases d with
 |true => exact ha pI s1 σ H1 D I1 q1
 |false => exact hb pI s1 σ H1 D I1 q1
end
noncomputable abbrev TG := V -> St -> Hp -> (St -> Hp -> Prop) -> Prop
noncomputable abbrev TGs := Ab V -> St -> Hp -> (St -> Hp -> Prop) -> Prop
noncomputable def PG(X : Cx)(target : Ao)(t : TG) : Prop:=
 ∀(pI : Ab (Ai × AA))(s : Ak)(σ : St)(H : Hp)(v : V)(u : Ah)(Q : St -> Hp -> Prop), Inv X pI σ H s -> AZ v u -> t v σ H Q ->
  Ay (model X.prog X.w) X.A (assign target X.env u) (fun _ s' => ∃ σ' H', Inv X pI σ' H' s' /\ Q σ' H') X.xe s
noncomputable def PGs(X : Cx)(ts : Ab Ao)(t : TGs) : Prop:=
 ∀(pI : Ab (Ai × AA))(s : Ak)(σ : St)(H : Hp)(vs : Ab V)(us : Ab Ah)(Q : St -> Hp -> Prop), Inv X pI σ H s -> AN vs us -> t vs σ H Q ->
  Ay (model X.prog X.w) X.A (assignInOrder ((BW ts X.env).map (·.2)) us) (fun _ s' => ∃ σ' H', Inv X pI σ' H' s' /\ Q σ' H') X.xe s
noncomputable abbrev Ij := V -> V -> V -> Hp -> (Hp -> Prop) -> Prop
noncomputable def J5(X : Cx)(t : Ij) : Prop:=
 ∀(pI : Ab (Ai × AA))(s : Ak)(σ : St)(H : Hp)(o i v : V)(ov iv u : Ah)(Q : Hp -> Prop), Inv X pI σ H s -> AZ o ov -> AZ i iv -> AZ v u -> t o i v H Q ->
  Ay (model X.prog X.w) X.A (FZ ov iv u) (fun _ s' => ∃ H', Inv X pI σ H' s' /\ Q H') X.xe s
section
variable{X : Cx}{pos : AH}
noncomputable def Er(i : Ag) : TG := fun v σ H Q => Q (σ.set i (Aa v)) H
theorem HI(hN : X.N.Nodup)(hi : X.N[i]? = Aa x)(hx : Loc X.env.scope x)(hf : X.fn x = Ac \/ X.env.scope.names.lookup x = Aa .local := by first|exact .inl rfl|exact .inr rfl|assumption) : PG X (.Name x pos) (Er i) := by
 intro pI s σ H v u Q I r h;exact OD (Lp I hN hi hx r (fun s' I' => ⟨_, H, I', h⟩) hf)
noncomputable def Hl : TGs := fun vs σ H Q => vs = [] /\ Q σ H
noncomputable def Hg(t : TG)(u : TGs) : TGs := fun vs σ H Q => ∃ v r, vs = v::r /\ t v σ H fun σ' H' => u r σ' H' Q
theorem Q6 : PGs X [] Hl := by
 intro pI s σ H vs us Q I r h;obtain⟨e, h⟩ := h;subst e;cases r;exact assignInOrder_nil ⟨σ, H, I, h⟩
theorem P1{t:TG}{u:TGs}(h1 : PG X e t)(h2 : PGs X es u)(hs : (BW (e::es) X.env).map (·.2) = assign e X.env::(BW es X.env).map (·.2) := by rfl) : PGs X (e::es) (Hg t u) := by
 intro pI s σ H vs us Q I r h;obtain⟨v, vr, e1, h⟩ := h;subst e1;cases r with
 |cons r rr=>
  rw[hs];refine assignInOrder_cons (thn (h1 pI s σ H _ _ _ I r h) fun _ s1 ⟨σ1, H1, I1, q1⟩ => ?_)
  exact h2 pI s1 σ1 H1 _ _ Q I1 rr q1
noncomputable def JZ(K : Fg)(n : Ag)(t : TGs) : TG := fun v σ H Q => ∃ a xs, v = .ref a /\ SqT K H a xs /\ xs.length = n /\ t xs σ H Q
theorem TY{t:TGs}(hc : X.calm = Ac)(h : PGs X es t)(hn : (BW es X.env).length = n := by rfl)(hst : (BW es X.env).findIdx? (·.1) = Af := by rfl) : PG X (.Tuple es k pos) (JZ X.K n t) := by
 intro pI s σ H v u Q I r hw;obtain⟨a, xs, e1, hq, hl, hw⟩ := hw;subst e1;cases r;obtain⟨its, rv, ht, hz⟩ := I.tuple hq;refine assign_Tuple_tuple (I.ok.hd hc) ht (by simp[hn, <-hl, rv.length]) hst fun h' hx => ?_
 have I1 : Inv X pI σ H {s with heap := h'} := I.kept (t' := s.toks) fun b o e => hx b o (Bt (Az e)) e
 exact h pI _ σ H xs _ Q I1 (by simpa using rv) hw
noncomputable def WE(to ti : TE)(t : Ij) : TG := fun v σ H Q => to σ H fun o H1 => ti σ H1 fun i H2 => t o i v H2 fun H3 => Q σ H3
theorem Ml{o i:Ao}{to ti:TE}{t:Ij}(ho : PE X o to)(hi : PE X i ti)(hs : J5 X t)(ha : ∀ v, assign (.Subscript o i pos) X.env v = (do
   let ov <-holding [v] (eval o X.env)
   let iv <-holding [v, ov] (eval i X.env)
   Fh pos
   holding [v, ov, iv] (FZ ov iv v)
   release [v, ov, iv] []) := by intro _;rfl) : PG X (.Subscript o i pos) (WE to ti t) := by
 intro pI s σ H v u Q I r h;rw[ha];refine Aq (C3 (thn (ho pI s σ H _ I h) fun ov s1 ⟨x, H1, I1, r1, q1⟩ => ?_))
 refine Aq (C3 (thn (hi pI s1 σ H1 _ I1 q1) fun iv s2 ⟨y, H2, I2, r2, q2⟩ => ?_))
 refine Aq (FG (Aq (C3 (thn (hs pI s2 σ H2 x y v ov iv u _ I2 r1 r2 r q2) fun _ s3 ⟨H3, I3, q3⟩ => ?_))))
 exact wpAny_release ⟨σ, H3, I3, q3⟩
noncomputable def Ic(te : TE)(g : TG) : TS := fun D σ H => te σ H fun x H1 => g x σ H1 D.nx
theorem Mk{g:TG}(he : PE X e te)(hg : PG X tg g)(hs : En [tg] e pos.line X.env = pure Ad := by rfl)(hw : FF [tg] e X.env = pure Af := by rfl)(h1 : (BW [tg] X.env).map (·.2) = [assign tg X.env] := by rfl) : PS X (.Assign [tg] e pos) (Ic te g) := by
 intro pI s σ H D I h;refine wpAny_Assign_stores (thn (he pI s σ H _ I h) fun v s1 ⟨x, H1, I1, r1, q1⟩ => ?_) hs hw
 rw[h1];exact thn (hg pI s1 σ H1 x v _ I1 r1 q1) fun _ s2 q => q
theorem Mj{pos':AH}(hN : X.N.Nodup)(hi : X.N[i]? = Aa x)(hx : Loc X.env.scope x)(he : PE X e te)(hs : Cw e (Aa (.Name x pos')) pos.line X.env = pure Ad := by rfl)(hf : X.fn x = Ac \/ X.env.scope.names.lookup x = Aa .local := by first|exact .inl rfl|exact .inr rfl|assumption):PS X (.Assign [.Name x pos'] e pos) (Ic te (Er i)) := by
 intro pI s σ H D I h;refine wpAny_Assign_Name (thn (he pI s σ H _ I h) fun v s1 ⟨y, H1, I1, r1, q1⟩ => ?_) hs
 exact Lp I1 hN hi hx r1 (fun s2 I2 => ⟨_, H1, I2, q1⟩) hf
end
section
variable{X : Cx}{pos : AH}
end
structure It where
 go : Ag -> Hp -> Prop
 yld : Ag -> Hp -> V -> Hp -> Prop
 stop : Ag -> Hp -> Prop
noncomputable def E8(X : Cx)(pI : Ab (Ai × AA))(H : Hp)(b : Ai) : Prop:=
 H b = Af /\ b ≠ X.env.locals /\ b ∉ X.fs /\ (b ∈ X.ex \/ X.s₀.heap.objs.size <= b) /\ (∀ x c, X.env.cells.lookup x = Aa c -> c ≠ b) /\ ∀ p ∈ X.pn++pI, p.1 ≠ b
theorem Inv.fpOk{H':Hp}(I : Inv X pI σ H s)(hb : s.heap.objs.size <= b)(hn : H' b = Af) : E8 X pI H' b := by
 refine⟨hn, N4 (Av I.lt hb), I.nofs hb, .inr (BL I.sz hb), fun x c e z => ?_, fun p hp z => ?_⟩
 ·obtain⟨v, q⟩ := I.cell x c e;exact absurd (Av q.lt (by rw[z];exact hb)) (A5 _)
 ·exact absurd (Av (Az (I.pin p hp).1) (by rw[z];exact hb)) (A5 _)
structure Turn (P : AB) (w : AI) (K : Fg) (tg : Ao) (J : It) (fp : Ab Ai) (it : Ai) (tn : Ag -> AC -> Prop) : Prop where
 mem : it ∈ fp
 obj : ∀ i h, tn i h -> ∀ b ∈ fp, ∃ o, h.get? b = Aa o /\ ∀ v, o.data ≠ .cell v
 keep : ∀ i h h', tn i h -> (∀ b ∈ fp, ∀ o, h.get? b = Aa o -> h'.get? b = Aa o) -> tn i h'
 item : ∀(X : Cx), X.prog = P -> X.w = w -> X.K = K -> X.calm = Ac -> ∀(i : Ag)(pI : Ab (Ai × AA))(s : Ak)(σ : St)(H : Hp)(E : Ah -> Ak -> Prop), Inv X pI σ H s -> (∀ b ∈ fp, E8 X pI H b) -> tn i s.heap -> J.go i H ->
  Ay (model P w) X.A (pyNext (.ref it)) (fun r s1 => ∃ u, r = Aa u /\
   Ay (model P w) X.A (DV tg (.ref it) u) (fun _ s2 => ∃ x H', Inv X pI σ H' s2 /\ AZ x u /\ J.yld i H x H' /\ tn (i+1) s2.heap /\ ∀ b ∈ fp, H' b = Af) E s1) E s
 done : ∀(X : Cx), X.prog = P -> X.w = w -> X.K = K -> X.calm = Ac -> ∀(i : Ag)(pI : Ab (Ai × AA))(s : Ak)(σ : St)(H : Hp)(E : Ah -> Ak -> Prop), Inv X pI σ H s -> (∀ b ∈ fp, E8 X pI H b) -> tn i s.heap -> J.stop i H ->
  Ay (model P w) X.A (pyNext (.ref it)) (fun r s1 => r = Af /\ Inv X pI σ H s1) E s
 self : ∀(A : AK)(i : Ag)(s : Ak)(Q : Ah -> Ak -> Prop)(E : Ah -> Ak -> Prop), tn i s.heap -> Q (.ref it) s -> Ay (model P w) A (pyIter (.ref it)) Q E s
noncomputable abbrev TI := St -> Hp -> (It -> Hp -> Prop) -> Prop
noncomputable def PIE(X : Cx)(pI : Ab (Ai × AA))(σ : St)(tg : Ao)(R : It -> Hp -> Prop)(itv : Ah)(s2 : Ak) : Prop:=
 ∃(it : Ai)(fp : Ab Ai)(tn : Ag -> AC -> Prop)(J : It)(H' : Hp), itv = .ref it /\ Inv X pI σ H' s2 /\ Turn X.prog X.w X.K tg J fp it tn /\ tn 0 s2.heap /\ (∀ b ∈ fp, E8 X pI H' b) /\ R J H'
noncomputable def PI(X : Cx)(tg iter : Ao)(wi : TI) : Prop:=
 ∀(pI : Ab (Ai × AA))(s : Ak)(σ : St)(H : Hp)(R : It -> Hp -> Prop), Inv X pI σ H s -> wi σ H R ->
  Ay (model X.prog X.w) X.A (eval iter X.env) (fun v s1 => Ay (model X.prog X.w) X.A (pyIter v) (PIE X pI σ tg R) X.xe s1) X.xe s
theorem JT{A : AK}{E : Ah -> Ak -> Prop}{n:Ca}{vs:A6 Ah}(ho : s.heap.get? it = Aa o)(hc : o.cls = .type n)(hd : o.data = .fields vs)(hn : ["enumerate", "zip", "dict_itemiterator", "dict_reverseitemiterator", "odict_iterator", "itertools.zip_longest", "itertools.pairwise"].contains n = Ad)(hQ : Q () s) : Ay M A (DV tg (.ref it) u) Q E s := by
  unfold DV;cases tg <;> first
    |exact AJ hQ
    | (cases u <;> first
        |exact AJ hQ
        | (refine Aq (wpAny_load ho ?_)
           rw[hc, hd];show Ay M A (if (["enumerate", "zip", "dict_itemiterator", "dict_reverseitemiterator", "odict_iterator", "itertools.zip_longest", "itertools.pairwise"].contains n&&vs[0]? == Aa (Eh _)) = Ac then _ else _) Q E s
           rw[AF (by intro h;rw[hn, Bool.false_and]at h;cases h)]
           exact AJ hQ))
noncomputable def Itl(K : Fg)(a : Ai) : It:=
 ⟨fun i H => ∃ xs x, SqL K H a xs /\ xs[i]? = Aa x, fun i H x H' => H' = H /\ ∀ xs, SqL K H a xs -> xs[i]? = Aa x, fun i H => ∃ xs, SqL K H a xs /\ xs.length <= i⟩
noncomputable def Itt(K : Fg)(a : Ai) : It:=
 ⟨fun i H => ∃ xs x, SqT K H a xs /\ xs[i]? = Aa x, fun i H x H' => H' = H /\ ∀ xs, SqT K H a xs -> xs[i]? = Aa x, fun i H => ∃ xs, SqT K H a xs /\ xs.length <= i⟩
noncomputable def Itr(lo : Ae)(n : Ag) : It := ⟨fun i _ => i<n, fun i H x H' => H' = H /\ x = .int (lo+i), fun i _ => n <= i⟩
theorem Ps{w : AI}{K : Fg}(a it : Ai) : Turn P w K tg (Itl K a) [it] it (fun i h => h.IsListIter it a i) where
 mem := by simp
 obj := fun i h st b hb => by
  have e : b = it := by simpa using hb
  subst e;obtain⟨o, e, c, d⟩ := st;exact⟨o, e, fun v z => by rw[d]at z;cases z⟩
 keep := fun i h h' st k => st.at fun o e => k it (by simp) o e
 item := by
  intro X hP hw hK hc i pI s σ H E I hf st hg;subst hP hw hK;obtain⟨xs, x, hq, hx⟩ := hg;obtain⟨its, rv, p, hz⟩ := I.list hq;obtain⟨u, hu, ru⟩ := rv.get hx;obtain⟨f0, f1, f2, f3, f4, f5⟩ := hf it (by simp)
  refine wpAny_pyNext_list_item st p.isList (x := u) (by simpa using hu) fun h' st' sb => ?_
  have I1 : Inv X pI σ H {s with heap := h'} := I.turned (t' := s.toks) (fun b o hb e => (sb.2 b hb).trans e) f0 f1 f3 f4 f5
  obtain⟨o, e, c, d⟩ := id st';exact⟨u, rfl, JT (s := {s with heap := h'}) e c d (by decide) ⟨x, H, I1, ru, ⟨rfl, fun ys hy => by rw[I.list_inj hy hq];exact hx⟩, st', fun b hb => (hf b hb).1⟩⟩
 done := by
  intro X hP hw hK hc i pI s σ H E I hf st hg;subst hP hw hK;obtain⟨xs, hq, hx⟩ := hg;obtain⟨its, rv, p, hz⟩ := I.list hq;obtain⟨f0, f1, f2, f3, f4, f5⟩ := hf it (by simp)
  have hl := rv.length;exact wpAny_pyNext_list_end (I.ok.hd hc) st p.isList (by simp;omega) fun h' eb => ⟨rfl, I.turned (t' := s.toks) (fun b o hb e => eb b o hb e) f0 f1 f3 f4 f5⟩
 self := fun _ _ _ _ _ st h => wpAny_pyIter_listiter st h
theorem O2{w : AI}{K : Fg}(a it : Ai) : Turn P w K tg (Itt K a) [it] it (fun i h => h.IsTupleIter it a i) where
 mem := by simp
 obj := fun i h st b hb => by
  have e : b = it := by simpa using hb
  subst e;obtain⟨o, e, c, d⟩ := st;exact⟨o, e, fun v z => by rw[d]at z;cases z⟩
 keep := fun i h h' st k => st.at fun o e => k it (by simp) o e
 item := by
  intro X hP hw hK hc i pI s σ H E I hf st hg;subst hP hw hK;obtain⟨xs, x, hq, hx⟩ := hg;obtain⟨its, rv, p, hz⟩ := I.tuple hq;obtain⟨u, hu, ru⟩ := rv.get hx;obtain⟨f0, f1, f2, f3, f4, f5⟩ := hf it (by simp)
  refine wpAny_pyNext_tuple_item st (show s.heap.IsTuple a its.toArray from p) (x := u) (by simpa using hu) fun h' st' sb => ?_
  have I1 : Inv X pI σ H {s with heap := h'} := I.turned (t' := s.toks) (fun b o hb e => (sb.2 b hb).trans e) f0 f1 f3 f4 f5
  obtain⟨o, e, c, d⟩ := id st';exact⟨u, rfl, JT (s := {s with heap := h'}) e c d (by decide) ⟨x, H, I1, ru, ⟨rfl, fun ys hy => by rw[I.tuple_inj hy hq];exact hx⟩, st', fun b hb => (hf b hb).1⟩⟩
 done := by
  intro X hP hw hK hc i pI s σ H E I hf st hg;subst hP hw hK;obtain⟨xs, hq, hx⟩ := hg;obtain⟨its, rv, p, hz⟩ := I.tuple hq;obtain⟨f0, f1, f2, f3, f4, f5⟩ := hf it (by simp)
  have hl := rv.length;exact wpAny_pyNext_tuple_end (I.ok.hd hc) st (show s.heap.IsTuple a its.toArray from p) (by simp;omega) fun h' eb => ⟨rfl, I.turned (t' := s.toks) (fun b o hb e => eb b o hb e) f0 f1 f3 f4 f5⟩
 self := fun _ _ _ _ _ st h => wpAny_pyIter_tupleiter st h
theorem O3{w : AI}{K : Fg}(it : Ai)(lo : Ae)(n : Ag) : Turn P w K tg (Itr lo n) [it] it (fun i h => IsRangeIter h it (lo+(i : Ag)*1) ((n : Ae)-(i : Ag)) 1) where
 mem := by simp
 obj := fun i h st b hb => by
  have e : b = it := by simpa using hb
  subst e;exact⟨_, st, fun v z => by
   have z' : Data.fields _ = GS v := z;cases z'⟩
 keep := fun i h h' st k => k it (by simp) _ st
 item := by
  intro X hP hw hK hc i pI s σ H E I hf st hg;subst hP hw hK;obtain⟨f0, f1, f2, f3, f4, f5⟩ := hf it (by simp)
  have W := Walks.range (prog := X.prog) (w := X.w) (I.ok.hd hc) it lo 1 n;refine W.item i s _ _ hg st fun v h' tk hv st' kk => ?_
  obtain⟨t, rfl⟩ := hv;have I1 : Inv X pI σ H {s with heap := h', toks := tk} := I.turned (fun b o hb e => kk b o (by simpa using hb) e) f0 f1 f3 f4 f5
  refine⟨_, rfl, JT (s := {s with heap := h', toks := tk}) (n := "range_iterator") st' rfl rfl (by decide) ⟨.int (lo+i), H, I1, ⟨t, ?_⟩, ⟨rfl, rfl⟩, st', fun b hb => (hf b hb).1⟩⟩
  rw[E1]
 done := by
  intro X hP hw hK hc i pI s σ H E I hf st hg;subst hP hw hK;obtain⟨f0, f1, f2, f3, f4, f5⟩ := hf it (by simp)
  exact wpAny_pyNext_range_end (I.ok.hd hc) st (by have : n <= i := hg;omega) fun h' eb => ⟨rfl, I.turned (t' := s.toks) (fun b o hb e => eb b o hb e) f0 f1 f3 f4 f5⟩
 self := fun _ _ _ _ _ st h => wpAny_pyIter_rangeiter st h
section
variable{X : Cx}{tg : Ao}
theorem K9{R : It -> Hp -> Prop}{E : Ah -> Ak -> Prop}{lo hi:Ae}{t u v:B9}{tk:Ag}(I : Inv X pI σ H s)(h1 : -(2 ^ 62) <= lo)(h2 : lo<2 ^ 62)(h3 : -(2 ^ 62) <= hi)(h4 : hi<2 ^ 62)(q : R (Itr lo (hi-lo).toNat) H) : Ay (model X.prog X.w) X.A (pyIter (.ref s.heap.objs.size)) (PIE X pI σ tg R) E { s with heap := s.heap.push { cls := .type "range", data := .fields #[.int lo t, .int hi u, .int 1 v] }, toks := tk } := by
 refine wpAny_pyIter_range (IsRange.new ..) (small_one h1 h2 h3 h4) ?_;have I1 : Inv X pI σ H { s with heap := s.heap.push { cls := .type "range", data := .fields #[.int lo t, .int hi u, .int 1 v] }, toks := tk } := I.kept fun b o e => Aw _ e
 refine⟨(s.heap.push { cls := .type "range", data := .fields #[.int lo t, .int hi u, .int 1 v] }).objs.size, [(s.heap.push { cls := .type "range", data := .fields #[.int lo t, .int hi u, .int 1 v] }).objs.size], _, _, H, rfl,
  I1.kept (t' := tk) fun b o e => Aw _ e, O3 _ lo (hi-lo).toNat, ?_, fun b hb => ?_, q⟩
 ·have e1 : lo+((0 : Ag) : Ae)*1 = lo := by simp
  have e2 : (((hi-lo).toNat : Ag) : Ae)-((0 : Ag) : Ae) = Builtin.Range.rangeSize lo hi 1 := by rw[rangeSize_one];split <;> omega
  show IsRangeIter _ _ (lo+((0 : Ag) : Ae)*1) ((((hi-lo).toNat : Ag) : Ae)-((0 : Ag) : Ae)) 1;rw[e1, e2];exact A8 _ rfl
 ·have e : b = (s.heap.push { cls := .type "range", data := .fields #[.int lo t, .int hi u, .int 1 v] }).objs.size := by simpa using hb
  subst e;exact I1.fpOk (AG _) (I1.hok.fresh (AG _))
noncomputable def VW(ta : TA) : TI := fun σ H R => ta σ H fun vs H1 => ∃ j : Ae, vs = [.int j] /\ -(2 ^ 62) <= j /\ j<2 ^ 62 /\ R (Itr 0 j.toNat) H1
noncomputable def VV(ta : TA) : TI := fun σ H R => ta σ H fun vs H1 => ∃ i j : Ae, vs = [.int i, .int j] /\ (-(2 ^ 62) <= i /\ i<2 ^ 62 /\ -(2 ^ 62) <= j /\ j<2 ^ 62) /\ R (Itr i (j-i).toNat) H1
theorem Pd{a:Ao}{p:AH}(hg : Gl X "range")(hm : X.mg "range" = Af)(ha : PA X [a] ta)(hs : At [a] X.env = [(Ad, eval a X.env)] := by rfl) : PI X tg (.Call (.Name "range" p) [a] [] pos) (VW ta) := by
 intro pI s σ H R I h;refine Call_ (Hd I hg hm boot_range (CY (thn (ha pos pI s σ H _ I h) fun us s1 ⟨vs, H1, I1, r1, q1⟩ => ?_) hs rfl))
 obtain⟨j, e, q1, q2, q⟩ := q1;subst e;cases r1 with
 |cons r rr=>
  cases rr;obtain⟨t, rfl⟩ := r;exact call_range_1 (K9 I1 (by omega) (by omega) q1 q2 (by simpa using q))
theorem Pc{a b:Ao}{p:AH}(hg : Gl X "range")(hm : X.mg "range" = Af)(ha : PA X [a, b] ta)(hs : At [a, b] X.env = [(Ad, eval a X.env), (Ad, eval b X.env)] := by rfl)(hs2 : At [b] X.env = [(Ad, eval b X.env)] := by rfl):
  PI X tg (.Call (.Name "range" p) [a, b] [] pos) (VV ta) := by
 intro pI s σ H R I h;refine Call_ (Hd I hg hm boot_range (CY (thn (ha pos pI s σ H _ I h) fun us s1 ⟨vs, H1, I1, r1, q1⟩ => ?_) (by rw[hs, hs2]) (by rw[hs2];rfl)))
 obtain⟨i, j, e, ⟨q1, q2, q3, q4⟩, q⟩ := q1;subst e;cases r1 with
 |cons r rr=>
  cases rr with
  |cons r' rr=>
   cases rr;obtain⟨t, rfl⟩ := r;obtain⟨t', rfl⟩ := r';exact call_range_2 (K9 I1 q1 q2 q3 q4 q)
noncomputable def WM(wi : TI)(g : TG)(tb : TS) : TS := fun D σ H => wi σ H fun J H1 => ∃ W : Ag -> Ag -> St -> Hp -> Prop, (∃ m, W 0 m σ H1) /\ ∀ i m σ H, W i m σ H ->
 (J.stop i H /\ D.nx σ H) \/ (J.go i H /\ ∃ N : St -> Hp -> Prop, (∀ σ' H', N σ' H' -> ∃ m', m'<m /\ W (i+1) m' σ' H') /\ ∀ x H', J.yld i H x H' -> g x σ H' fun σ2 H2 => tb {D with nx := N, ct := N, bk := D.nx} σ2 H2)
noncomputable def Gc(fp : Ab Ai)(h : AC) : Ab (Ai × AA) := fp.filterMap fun b => (h.get? b).map fun o => (b, o)
theorem HA(hb : b ∈ fp)(e : h.get? b = Aa o) : (b, o) ∈ Gc fp h := List.mem_filterMap.mpr ⟨b, hb, by rw[e];rfl⟩
theorem KJ{p:Ai × AA}(hp : p ∈ Gc fp h) : p.1 ∈ fp /\ h.get? p.1 = Aa p.2 := by
 obtain⟨b, hb, e⟩ := List.mem_filterMap.mp hp;cases q : h.get? b with
 |none => rw[q]at e;cases e
 |some o=>
  rw[q]at e;have e' : (b, o) = p := BS e;subst e';exact⟨hb, q⟩
theorem Inv.pinned(I : Inv X pI σ H s)(hf : ∀ b ∈ fp, E8 X pI H b)(ho : ∀ b ∈ fp, ∃ o, s.heap.get? b = Aa o /\ ∀ v, o.data ≠ .cell v) : Inv X (pI++Gc fp s.heap) σ H s:=
 I.pins_of fun p hp => (Dg.mp hp).elim (fun z => I.pin p (AV _ z)) fun z => by
  obtain⟨hb, e⟩ := KJ z;obtain⟨f0, f1, f2, _⟩ := hf p.1 hb;obtain⟨o, e', d⟩ := ho p.1 hb;rw[e]at e';cases e';exact⟨e, f0, f1, f2, d⟩
theorem Inv.unpinned{pl:Ab (Ai × AA)}(I : Inv X (pI++pl) σ H s) : Inv X pI σ H s := I.pins_of fun p hp => I.pin p (AV _ (NT _ hp))
theorem TU{iter:Ao}{wi:TI}{g:TG}{tb:TS}(hp : DL (model X.prog X.w) X.A X.env X.xe)(hc : X.calm = Ac)(hi : PI X tg iter wi)(hg : PG X tg g)(hb : PSs X body tb)(hs : ∀ x, BO iter X.env x = pure x := by intro _;rfl) : PS X (.For tg iter body [] pos) (WM wi g tb) := by
 intro pI s σ H D I h;refine wpAny_For (thn (hi pI s σ H _ I h) fun v s1 h1 => thn h1 fun itv s2 h2 => ?_) hs
 obtain⟨it, fp, tn, J, H2, e, I2, T, st2, f2, W, ⟨m0, w0⟩, turn⟩ := h2;subst e
 -- what stays Ac of the iterator's objects through the loop
 have stat : ∀{H' : Hp}, (∀ b ∈ fp, H' b = Af) -> ∀ b ∈ fp, E8 X pI H' b := fun hn b hb => ⟨hn b hb, (f2 b hb).2⟩
 refine codeAny_forLoop_any (fun n s' => ∃ i σ' H', Inv X pI σ' H' s' /\ tn i s'.heap /\ (∀ b ∈ fp, H' b = Af) /\ W i n σ' H') ?_ m0 ⟨0, σ, H2, I2, st2, fun b hb => (f2 b hb).1, w0⟩
 rintro n s3 ⟨i, σ3, H3, I3, st3, fr3, w3⟩;rcases turn i n σ3 H3 w3 with ⟨stop, qn⟩|⟨go, N, hN, step⟩
 ·refine Dj hp (thn (T.done X rfl rfl rfl hc i pI s3 σ3 H3 X.xe I3 (stat fr3) st3 stop) fun r s4 ⟨hr, I4⟩ => ?_)
  subst hr;exact OH ⟨σ3, H3, I4, qn⟩
 ·refine Dj hp (thn (T.item X rfl rfl rfl hc i pI s3 σ3 H3 X.xe I3 (stat fr3) st3 go) fun r s4 ⟨u, hr, h4⟩ => ?_)
  subst hr;refine Dj hp (thn h4 fun _ s5 ⟨x, H5, I5, r5, y5, st5, fr5⟩ => ?_)
  have I5' := I5.pinned (stat fr5) (T.obj _ _ st5);refine Dj hp (thn (hg _ s5 σ3 H5 x u _ I5' r5 (step x H5 y5)) fun _ s6 ⟨σ6, H6, I6, q6⟩ => ?_)
  refine Dj hp (thn (hb _ s6 σ6 H6 _ I6 q6) fun f s7 q7 => ?_)
  have again : ∀{σ7 : St}{H7 : Hp}, Inv X (pI++Gc fp s5.heap) σ7 H7 s7 -> N σ7 H7 -> ∃ m, m<n /\ ∃ i σ' H', Inv X pI σ' H' s7 /\ tn i s7.heap /\ (∀ b ∈ fp, H' b = Af) /\ W i m σ' H' := fun {σ7 H7} I7 n7 => by
   obtain⟨m', hm, w7⟩ := hN σ7 H7 n7;refine⟨m', hm, i+1, σ7, H7, I7.unpinned, T.keep _ _ _ st5 fun b hb o e => (I7.pin (b, o) (AV _ (AV _ (HA hb e)))).1, fun b hb => ?_, w7⟩
   obtain⟨o, e, d⟩ := T.obj _ _ st5 b hb;exact(I7.pin (b, o) (AV _ (AV _ (HA hb e)))).2.1
  cases f with
  |next => obtain⟨σ7, H7, I7, n7⟩ := q7;exact again I7 n7
  |cont => obtain⟨σ7, H7, I7, n7⟩ := q7;exact again I7 n7
  |brk => obtain⟨σ7, H7, I7, q7⟩ := q7;exact⟨σ7, H7, I7.unpinned, q7⟩
  |ret v => obtain⟨x7, σ7, H7, I7, r7, q7⟩ := q7;exact⟨x7, σ7, H7, I7.unpinned, r7, q7⟩
end
noncomputable abbrev R2 := V -> V -> Hp -> VK -> Prop
variable{r r':R2}
noncomputable def OpR(X : Cx)(f : Ah -> Ah -> Sem Ah)(r : R2) : Prop:=
 ∀(pI : Ab (Ai × AA))(s : Ak)(σ : St)(H : Hp)(x y : V)(v u : Ah)(Q : VK), Inv X pI σ H s -> AZ x v -> AZ y u -> r x y H Q ->
  Ay (model X.prog X.w) X.A (f v u) (EP X pI σ Q) X.xe s
noncomputable def ET(X : Cx)(f : Ah)(r : Ab V -> Hp -> VK -> Prop) : Prop:=
 ∀(pI : Ab (Ai × AA))(s : Ak)(σ : St)(H : Hp)(xs : Ab V)(us : Ab Ah)(Q : VK), Inv X pI σ H s -> AN xs us -> r xs H Q ->
  Ay (model X.prog X.w) X.A (call f us) (EP X pI σ Q) X.xe s
noncomputable def W3(X : Cx)(r : V -> Hp -> (An -> Hp -> Prop) -> Prop) : Prop:=
 ∀(pI : Ab (Ai × AA))(s : Ak)(σ : St)(H : Hp)(x : V)(v : Ah)(Q : An -> Hp -> Prop), Inv X pI σ H s -> AZ x v -> r x H Q ->
  Ay (model X.prog X.w) X.A (truthy v) (TP X pI σ Q) X.xe s
noncomputable def tOp(r : R2)(ta tb : TE) : TE := fun σ H Q => ta σ H fun x H1 => tb σ H1 fun y H2 => r x y H2 Q
noncomputable def rI(C : Ae -> Ae -> Prop)(g : Ae -> Ae -> V) : R2 := fun x y H Q => ∃ i j, x = .int i /\ y = .int j /\ C i j /\ Q (g i j) H
noncomputable def rI0(g : Ae -> Ae -> V) : R2 := fun x y H Q => ∃ i j, x = .int i /\ y = .int j /\ Q (g i j) H
section
variable{X : Cx}{a b c : Ao}{ta tb tc : TE}{pos : AH}
theorem Ka(ha : PE X a ta)(hb : PE X b tb){R : V -> V -> Hp -> Prop}(I : Inv X pI σ H s)(h : ta σ H fun x H1 => tb σ H1 fun y H2 => R x y H2){Q:Ah -> Ak -> Prop}(hf : ∀ v u s2 x y H2, Inv X pI σ H2 s2 -> AZ x v -> AZ y u -> R x y H2 -> Ay (model X.prog X.w) X.A (f v u) Q X.xe s2):Ay (model X.prog X.w) X.A (eval a X.env) (fun v s₁ =>Ay (model X.prog X.w) X.A (eval b X.env) (fun u s₂ =>Ay (model X.prog X.w) X.A (f v u) Q X.xe s₂) X.xe s₁) X.xe s := by
 refine thn (ha pI s σ H _ I h) fun v s1 ⟨x, H1, I1, r1, q1⟩ => ?_
 refine thn (hb pI s1 σ H1 _ I1 q1) fun u s2 ⟨y, H2, I2, r2, q2⟩ => ?_
 exact hf v u s2 x y H2 I2 r1 r2 q2
theorem MG{op:EI}(ho : OpR X (Bi op) r)(ha : PE X a ta)(hb : PE X b tb) : PE X (.BinOp a op b pos) (tOp r ta tb) := by
 intro pI s σ H Q I h;exact wpAny_BinOp (Ka ha hb I h fun v u s2 x y H2 I2 rx ry q => ho pI s2 σ H2 x y v u Q I2 rx ry q)
theorem opI{C:Ae -> Ae -> Prop}(rule : ∀(i j : Ae)(t u : B9)(s : Ak)(Q : Ah -> Ak -> Prop)(E : Ah -> Ak -> Prop), C i j -> Q (.int (g i j) s.toks) {s with toks := s.toks+1} -> Ay (model X.prog X.w) X.A (f (.int i t) (.int j u)) Q E s):OpR X f (rI C fun i j =>.int (g i j)) := by
 intro pI s σ H x y v u Q I rx ry h;obtain⟨i, j, rfl, rfl, hc, q⟩ := h;obtain⟨t, rfl⟩ := rx;obtain⟨t', rfl⟩ := ry;exact rule i j t t' s _ _ hc ⟨.int (g i j), H, I.tok _, ⟨_, rfl⟩, q⟩
theorem M0(rule : ∀(i j : Ae)(t u : B9)(s : Ak)(Q : Ah -> Ak -> Prop)(E : Ah -> Ak -> Prop), Q (.int (g i j) s.toks) {s with toks := s.toks+1} -> Ay (model X.prog X.w) X.A (f (.int i t) (.int j u)) Q E s):OpR X f (rI0 fun i j =>.int (g i j)) := by
 intro pI s σ H x y v u Q I rx ry h;obtain⟨i, j, rfl, rfl, q⟩ := h;obtain⟨t, rfl⟩ := rx;obtain⟨t', rfl⟩ := ry;exact rule i j t t' s _ _ ⟨.int (g i j), H, I.tok _, ⟨_, rfl⟩, q⟩
theorem Ih{g:Ae -> Ae -> An}(rule : ∀(i j : Ae)(t u : B9)(s : Ak)(Q : Ah -> Ak -> Prop)(E : Ah -> Ak -> Prop), Q (.bool (g i j)) s -> Ay (model X.prog X.w) X.A (f (.int i t) (.int j u)) Q E s):OpR X f (rI0 fun i j =>.bl (g i j)) := by
 intro pI s σ H x y v u Q I rx ry h;obtain⟨i, j, rfl, rfl, q⟩ := h;obtain⟨t, rfl⟩ := rx;obtain⟨t', rfl⟩ := ry;exact rule i j t t' s _ _ ⟨.bl (g i j), H, I, rfl, q⟩
noncomputable def W8(i j : Ae) : Prop := 0<j /\ j<1073741824
noncomputable def W7(i j : Ae) : Prop := 0 <= j /\ j <= 1000000 /\ i.natAbs<2 ^ 64
noncomputable def Il(i j : Ae) : Prop := (-(2 ^ 64)<i /\ i<2 ^ 64) \/ (-(2 ^ 64)<j /\ j<2 ^ 64)
theorem Il.ok{i j:Ae}(h : Il i j) : GV i j := by
 rcases h with ⟨h1, h2⟩|⟨h1, h2⟩
 ·exact .of_left (intBits_le_64 h1 h2)
 ·exact .of_right (intBits_le_64 h1 h2)
theorem Tl : OpR X (Bi .Add) (rI0 fun i j => .int (i+j)) := M0 fun _ _ _ _ _ _ _ q => add_int q
theorem Ub : OpR X (Bi .Sub) (rI0 fun i j => .int (i-j)) := M0 fun _ _ _ _ _ _ _ q => sub_int q
theorem QM : OpR X (Bi .FloorDiv) (rI W8 fun i j => .int (i / j)) := opI fun i j _ _ _ _ _ hc q => by
 have h1 : (0 : Ae)<j := hc.1;have h2 : j<1073741824 := hc.2;exact floordiv_int (by omega) (by rw[Int.fdiv_eq_ediv_of_nonneg i (by omega)];exact q) (.inl (PyProof.noPylong_small (by omega)))
theorem Tj : OpR X (Bi .Mod) (rI (fun _ j => 0<j) fun i j => .int (i%j)) := opI fun i j _ _ _ _ _ hc q => by
 have h1 : (0 : Ae)<j := hc;exact mod_int' (by omega) (by rw[Int.fmod_eq_emod_of_nonneg i (by omega)];exact q)
theorem Ti : OpR X (Bi .Pow) (rI W7 fun i j => .int (i ^ j.toNat)) := opI fun _ _ _ _ _ _ _ hc q => pow_int_small hc.1 hc.2.1 hc.2.2 q
end
section
variable{X : Cx}{a b c : Ao}{ta tb tc : TE}{pos : AH}
theorem L0{Q:VK}{k k':An}(I : Inv X pI σ H s)(q : Q (.bl k) H)(e : k = k') : EP X pI σ Q (.bool k') s := by
 subst e;exact⟨.bl k, H, I, rfl, q⟩
theorem V5 : OpR X (Bs .Lt) (rI0 fun i j => .bl (decide (i<j))) := Ih fun _ _ _ _ _ _ _ q => lt_int q
theorem V6 : OpR X (Bs .LtE) (rI0 fun i j => .bl (decide (i <= j))) := Ih fun _ _ _ _ _ _ _ q => le_int q
theorem V7 : OpR X (Bs .Gt) (rI0 fun i j => .bl (decide (j<i))) := Ih fun _ _ _ _ _ _ _ q => gt_int q
theorem V8 : OpR X (Bs .GtE) (rI0 fun i j => .bl (decide (j <= i))) := Ih fun _ _ _ _ _ _ _ q => ge_int q
theorem Tk : OpR X (Bs .Is) (fun x y H Q => y = .non /\ Q (.bl (decide (x = .non))) H) := by
 intro pI s σ H x y v u Q I rx ry h;obtain⟨rfl, q⟩ := h;cases ry;refine is_none_gen (L0 I q ?_);cases x <;> first
  |(cases rx;rfl)
  |(obtain⟨t, rfl⟩ := rx;rfl)
theorem QK : OpR X (Bs .IsNot) (fun x y H Q => y = .non /\ Q (.bl (!decide (x = .non))) H) := by
 intro pI s σ H x y v u Q I rx ry h;obtain⟨rfl, q⟩ := h;cases ry;refine isnot_none_gen (L0 I q ?_);cases x <;> first
  |(cases rx;rfl)
  |(obtain⟨t, rfl⟩ := rx;rfl)
theorem Q8(ho : OpR X (Bs op) r)(ha : PE X a ta)(hb : PE X b tb)(hm : Em op b = Ad) : PE X (.Compare a [op] [b] pos) (tOp r ta tb) := by
 intro pI s σ H Q I h;exact wpAny_Compare1 (Ka ha hb I h fun v u s2 x y H2 I2 rx ry q => ho pI s2 σ H2 x y v u Q I2 rx ry q) hm
noncomputable def Mu(t : TE) : TT := fun σ H Q => t σ H fun x H' => ∃ k, x = .bl k /\ Q k H'
theorem Q1(ho : OpR X (Bs op) r)(ha : PE X a ta)(hb : PE X b tb)(hm : Em op b = Ad) : PT X (.Compare a [op] [b] pos) (Mu (tOp r ta tb)) := by
 intro pI s σ H Q I h;refine wpAny_isTrue_Compare1 (thn (ha pI s σ H _ I h) fun v s1 ⟨x, H1, I1, r1, q1⟩ => thn (hb pI s1 σ H1 _ I1 q1) fun u s2 ⟨y, H2, I2, r2, q2⟩=>
  thn (ho pI s2 σ H2 x y v u _ I2 r1 r2 q2) fun c s3 ⟨z, H3, I3, r3, k, e, q3⟩ => ?_) hm
 subst e;cases r3;exact Bz ⟨H3, I3, q3⟩
noncomputable def Mc(r r' : R2)(ta tb tc : TE) : TE := fun σ H Q => ta σ H fun x H1 => tb σ H1 fun y H2 => r x y H2 fun z H3 => ∃ k, z = .bl k /\
 (if k = Ac then tc σ H3 fun w' H4 => r' y w' H4 Q else Q (.bl Ad) H3)
theorem P3(ho : OpR X (Bs op) r)(ho' : OpR X (Bs op') r')(ha : PE X a ta)(hb : PE X b tb)(hc : PE X c tc)(hm : FN [op, op'] [b, c] = Ad := by with_unfolding_all rfl) : PE X (.Compare a [op, op'] [b, c] pos) (Mc r r' ta tb tc) := by
 intro pI s σ H Q I h;refine Compare_chain (thn (ha pI s σ H _ I h) fun v s1 ⟨x, H1, I1, r1, q1⟩ => chain_link (thn (hb pI s1 σ H1 _ I1 q1) fun u s2 ⟨y, H2, I2, r2, q2⟩=>
  thn (ho pI s2 σ H2 x y v u _ I2 r1 r2 q2) fun d s3 ⟨z, H3, I3, r3, k, e, q3⟩ => ?_)) hm
 subst e;cases r3;refine Bz ?_;cases k with
 |false => exact ite_ff ⟨.bl Ad, H3, I3, rfl, q3⟩
 |true => exact ite_tt (chain_last (thn (hc pI s3 σ H3 _ I3 q3) fun w' s4 ⟨z', H4, I4, r4, q4⟩ => ho' pI s4 σ H4 y z' u w' Q I4 r2 r4 q4))
theorem PY(ho : OpR X (Bs op) r)(ho' : OpR X (Bs op') r')(ha : PE X a ta)(hb : PE X b tb)(hc : PE X c tc)(hm : FN [op, op'] [b, c] = Ad := by with_unfolding_all rfl) : PT X (.Compare a [op, op'] [b, c] pos) (Mu (Mc r r' ta tb tc)) := by
 intro pI s σ H Q I h;refine isTrue_chain (thn (ha pI s σ H _ I h) fun v s1 ⟨x, H1, I1, r1, q1⟩ => test_link (thn (hb pI s1 σ H1 _ I1 q1) fun u s2 ⟨y, H2, I2, r2, q2⟩=>
  thn (ho pI s2 σ H2 x y v u _ I2 r1 r2 q2) fun d s3 ⟨z, H3, I3, r3, k, e, q3⟩ => ?_)) hm
 subst e;cases r3;refine Bz ?_;cases k with
 |false=>
  obtain⟨k', e', q'⟩ := q3;cases e';exact ite_ff ⟨H3, I3, q'⟩
 |true=>
  refine ite_tt (test_last (thn (hc pI s3 σ H3 _ I3 q3) fun w' s4 ⟨z', H4, I4, r4, q4⟩ => thn (ho' pI s4 σ H4 y z' u w' _ I4 r2 r4 q4) fun d' s5 ⟨z2, H5, I5, r5, k2, e2, q5⟩ => ?_))
  subst e2;cases r5;exact Bz ⟨H5, I5, q5⟩
noncomputable def Nn(K : Fg)(x : V)(H : Hp)(k : An) : Prop:=
  match x with
  |.non => k = Ad
  |.bl b => k = b
  |.int i => k = (i != 0)
  |.str y => y.length <= sizeLine /\ k = ((y.length : Ae) != 0)
  |.byt y => y.size <= sizeLine /\ k = ((y.size : Ae) != 0)
  |.ref p => (∃ xs, SqL K H p xs /\ k = !xs.isEmpty) \/ (∃ xs, SqT K H p xs /\ k = !xs.isEmpty) \/ ∃ kvs, H p = Aa (.dK kvs) /\ k = !kvs.isEmpty
  |_ => AW
theorem OX{κ:Type}{kvs : Ab (κ × V)}{vs : Ab (κ × Ah)}(r : KV kvs vs) : (!vs.isEmpty) = !kvs.isEmpty := by
 cases r <;> rfl
theorem Ko{its:Ab Ah}(r : AN xs its) : (!its.toArray.isEmpty) = !xs.isEmpty := by
 cases r <;> simp
theorem Ge : (sizeLine : Ag)<2 ^ 63 := by rw[Dy];decide
theorem S4 : W3 X (fun x H Q => ∃ k, Nn X.K x H k /\ Q k H) := by
 intro pI s σ H x v Q I rx h;obtain⟨k, e, q⟩ := h;have hl := Ge;have hs : sizeLine = 16777216 := Dy;cases x with
 |non=>
  cases rx;have e' : k = Ad := e;subst e';exact truthy_none ⟨H, I, q⟩
 |bl b=>
  cases rx;have e' : k = b := e;subst e';exact Bz ⟨H, I, q⟩
 |int i=>
  obtain⟨t, rfl⟩ := rx;have e' : k = (i != 0) := e;subst e';exact PySem.P.truthy_int ⟨H, I, q⟩
 |str y=>
  obtain⟨t, rfl⟩ := rx;obtain⟨hy, e'⟩ : y.length <= sizeLine /\ k = ((y.length : Ae) != 0) := e;subst e';exact PySem.P.truthy_str (by omega) ⟨H, I.tok _, q⟩
 |byt y=>
  obtain⟨t, rfl⟩ := rx;obtain⟨hy, e'⟩ : y.size <= sizeLine /\ k = ((y.size : Ae) != 0) := e;subst e';exact PySem.W.truthy_bytes (by omega) ⟨H, I.tok _, q⟩
 |ref p=>
  cases rx;have e' : (∃ xs, SqL X.K H p xs /\ k = !xs.isEmpty) \/ (∃ xs, SqT X.K H p xs /\ k = !xs.isEmpty) \/ ∃ kvs, H p = Aa (.dK kvs) /\ k = !kvs.isEmpty := e;rcases e' with ⟨xs, hx, e'⟩|⟨xs, hx, e'⟩|⟨kvs, hx, e'⟩
  ·subst e';obtain⟨its, r, pl, hz⟩ := I.list hx;have hlen := r.length;exact wpAny_truthy_list pl.isList (by simp only[AD];omega) ⟨H, I.tok _, by rw[Ko r];exact q⟩
  ·subst e';obtain⟨its, r, pl, hz⟩ := I.tuple hx;have hlen := r.length;exact truthy_tuple pl (by simp only[AD];omega) ⟨H, I.tok _, by rw[Ko r];exact q⟩
  ·subst e';obtain⟨hz, hS, vs, r, m⟩ : kvs.length <= sizeLine /\ (p==Cv) = Ad /\ ∃ vs, KV kvs vs /\ s.heap.DictOf (Jk X.prog X.w) p vs := I.hok p _ hx;have hlen : kvs.length = vs.length := Ol r;exact wpAny_truthy_dict hS m (by omega) ⟨H, I.tok _, by rw[OX r];exact q⟩
 |_ => exact(show AW from e).elim
theorem PX(ha : PE X a ta)(he : ∀ whole, Fd a X.env whole = (do let v <-whole;Fh a.pos;holding [v] (truthy v))):PT X a (fun σ H Q =>ta σ H fun x H' =>∃ k,Nn X.K x H' k/\Q k H') := by
 intro pI s σ H Q I h;exact isTrue_plain (thn (ha pI s σ H _ I h) fun v s1 ⟨x, H1, I1, r1, q1⟩ => S4 pI s1 σ H1 x v Q I1 r1 q1) (he _)
theorem OT : OpR X (Bi .Add) (fun x y H Q => ∃ i j, x = .str i /\ y = .str j /\ i.length+j.length <= sizeLine /\ Q (.str (i++j)) H) := by
 intro pI s σ H x y v u Q I rx ry h;obtain⟨i, j, rfl, rfl, hz, q⟩ := h;obtain⟨t, rfl⟩ := rx;obtain⟨t', rfl⟩ := ry;exact add_str (fun t' tk => ⟨.str (i++j), H, I.tok _, ⟨_, rfl⟩, q⟩) hz
theorem GJ{x:V}(r : AN [x] us) : ∃ u, us = [u] /\ AZ x u := by
 cases r with
 |cons r1 r2 => cases r2;exact⟨_, rfl, r1⟩
theorem JF{x:V}(r : AN [x, y] us) : ∃ u w', us = [u, w'] /\ AZ x u /\ AZ y w' := by
 cases r with
 |cons r1 r2=>
  cases r2 with
  |cons r3 r4 => cases r4;exact⟨_, _, rfl, r1, r3⟩
theorem Qc(hc : X.calm = Ac) : ET X (.builtin "max") (fun xs H Q => ∃ i j, xs = [.int i, .int j] /\ Q (.int (if j > i then j else i)) H) := by
 intro pI s σ H xs us Q I r h;obtain⟨i, j, rfl, q⟩ := h;obtain⟨u, w', rfl, ⟨t, rfl⟩, ⟨t', rfl⟩⟩ := JF r;refine max_two_ints (I.ok.hd hc) fun h' tk k => ⟨_, H, I.kept k, ?_, q⟩
 by_cases hj : j > i
 ·rw[AE hj, AE hj];exact⟨_, rfl⟩
 ·rw[AF hj, AF hj];exact⟨_, rfl⟩
theorem Qb(hc : X.calm = Ac) : ET X (.builtin "min") (fun xs H Q => ∃ i j, xs = [.int i, .int j] /\ Q (.int (if j<i then j else i)) H) := by
 intro pI s σ H xs us Q I r h;obtain⟨i, j, rfl, q⟩ := h;obtain⟨u, w', rfl, ⟨t, rfl⟩, ⟨t', rfl⟩⟩ := JF r;refine min_two_ints (I.ok.hd hc) fun h' tk k => ⟨_, H, I.kept k, ?_, q⟩
 by_cases hj : j<i
 ·rw[AE hj, AE hj];exact⟨_, rfl⟩
 ·rw[AF hj, AF hj];exact⟨_, rfl⟩
end
section
variable{prog : AB}{w : AI}{A : AK}{E : Ah -> Ak -> Prop}{s : Ak}{K : Fg}{x dx C f : Ai}{mA : Aj -> Al Ah}{name : Aj}{v : Ah}
end
section
variable{P : AB}{w : AI}{H H' : Hp}{h h' : AC}{a C dx : Ai}{fs fs' : Ab (Aj × V)}
end
section
variable{X : Cx}{pI : Ab (Ai × AA)}{σ : St}{H : Hp}{s : Ak}{a C dx : Ai}{fs : Ab (Aj × V)}{f : Aj}{v : V}{A : AK}{E : Ah -> Ak -> Prop}
end
section
variable{X : Cx}{o e value : Ao}{f : Aj}{pos pos' tpos : AH}{ta tv : TE}
end
section
variable{X : Cx}{pI : Ab (Ai × AA)}{σ : St}{H : Hp}{s : Ak}{A : AK}{E : Ah -> Ak -> Prop}{Q : Ah -> Ak -> Prop}{c : Ah}{b : An}
end
structure Room (k : Ag) (A : AK) : Prop where
 hd : A.handled = Af
 dp : A.depth+3*k+5<OB
 un : A.units+16*k+200<A3
 gd : A.guards = Aa []
theorem Room.mono{A : AK}(r : Room k A)(h : j <= k) : Room j A := ⟨r.hd, by have := r.dp;omega, by have := r.un;omega, r.gd⟩
theorem Room.deeper{A : AK}(r : Room (k+1) A)(env : BF) : Room k (A.deeper env):=
 ⟨r.hd, by have := r.dp;show A.depth+1+3*k+5<_;omega, by have := r.un;show A.units+3+16*k+200<_;omega, r.gd⟩
theorem Room.depth{A : AK}(r : Room k A) : A.depth<OB := by have := r.dp;omega
theorem Room.units{A : AK}(r : Room k A) : A.units+64<A3 := by have := r.un;omega
noncomputable def WJ : TA := fun _ H Q => Q [] H
noncomputable def UP(ta : TE)(tr : TA) : TA := fun σ H Q => ta σ H fun x H1 => tr σ H1 fun xs H2 => Q (x::xs) H2
section
variable{X : Cx}{e : Ao}{es : Ab Ao}{te : TE}{t : TA}{pos : AH}
theorem Gd : PA X [] WJ := fun _ _ _ _ H Q I h => Calls.spliced_nil ⟨[], H, I, .nil, h⟩
theorem EL(ha : PE X e te)(hr : PA X es t)(hs : At (e::es) X.env = (Ad, eval e X.env)::At es X.env := by rfl) : PA X (e::es) (UP te t) := by
 intro pos pI s σ H Q I h;rw[hs];show Ay _ _ (spliced ((Ad, eval e X.env)::BN pos (At es X.env))) _ _ s;refine Calls.spliced_cons (thn (ha pI s σ H _ I h) fun u s1 ⟨x, H1, I1, r1, q1⟩ => ?_)
 exact thn (hr pos pI s1 σ H1 _ I1 q1) fun us s2 ⟨xs, H2, I2, r2, q2⟩ => ⟨x::xs, H2, I2, .cons r1 r2, q2⟩
noncomputable def WY(t : TA) : TE := fun σ H Q => t σ H fun xs H1 => xs.length <= sizeLine /\ ∀ p, H1 p = Af -> Q (.ref p) (upd H1 p (.tup xs))
noncomputable def WK(t : TA) : TE := fun σ H Q => t σ H fun xs H1 => xs.length <= sizeLine /\ ∀ p, H1 p = Af -> Q (.ref p) (upd H1 p (.lst xs))
theorem T2{x1}(h : PA X es t) : PE X (.Tuple es x1 pos) (WY t) := by
 intro pI s σ H Q I hq;refine wpAny_Tuple_spliced (thn (h pos pI s σ H _ I hq) fun us s1 ⟨xs, H1, I1, r, z, q⟩ => ⟨by rw[<-r.length];exact z, ?_⟩)
 have hf : H1 s1.heap.objs.size = Af := I1.hok.fresh (AG _);refine⟨.ref s1.heap.objs.size, upd H1 s1.heap.objs.size (.tup xs), I1.laid (t' := s1.toks) (fun b u e => Aw _ e) (AG _) ?_, rfl, q _ hf⟩
 exact⟨z, us, r, ⟨_, A8 _ rfl, rfl, _, rfl⟩⟩
theorem T7(h : PA X es t) : PE X (.List es pos) (WK t) := by
 intro pI s σ H Q I hq;refine wpAny_List_spliced (thn (h pos pI s σ H _ I hq) fun us s1 ⟨xs, H1, I1, r, z, q⟩ => ⟨by rw[<-r.length];exact z, ?_⟩)
 have hf : H1 s1.heap.objs.size = Af := I1.hok.fresh (AG _);refine⟨.ref s1.heap.objs.size, upd H1 s1.heap.objs.size (.lst xs), I1.laid (t' := s1.toks) (fun b u e => Aw _ e) (AG _) ?_, rfl, q _ hf⟩
 exact⟨z, us, 0, r, A8 _ rfl⟩
end
noncomputable abbrev Sp := Ab V -> Hp -> VK -> XK -> Prop
variable{sp:Sp}
noncomputable abbrev CXT := Ab BF -> Hp -> Ak -> XK -> Ah -> Ak -> Prop
variable{CX:CXT}
structure Env0 (P : AB) (w : AI) (K : Fg) (mg : Aj -> Al Ah) (base : AC) (A : AK) (outer : Ab BF) (s : Ak) (H : Hp) : Prop where
 frames : A.frames = Aa outer
 mod : Mod K mg base
 bs : ∀ b o, base.get? b = Aa o -> s.heap.get? b = Aa o /\ H b = Af
 bsz : base.objs.size <= s.heap.objs.size
 funs : s.heap.FunFrames base outer
 frf : ∀ b ∈ frs outer, H b = Af
 hok : HOk P w H s.heap
 bare : Dl s.gens
noncomputable def CE(outer : Ab BF)(P : AB)(w : AI)(H : Hp)(s : Ak)(Q : VK)(u : Ah)(s' : Ak) : Prop:=
 ∃ v H', s'.os = s.os /\ Dl s'.gens /\ Un (frs outer) [] H H' s.heap s'.heap /\ HOk P w H' s'.heap /\ AZ v u /\ Q v H'
noncomputable def CR(CX : CXT)(outer : Ab BF)(P : AB)(w : AI)(H : Hp)(s : Ak)(Q : VK)(E : XK)(r : Go)(s' : Ak) : Prop:=
  match r with
  |.ok (.ret u) => CE outer P w H s Q u s'
  |.ok _ => AW
  |.error e => CX outer H s E e s'
structure FnOk (P : AB) (w : AI) (K : Fg) (mg : Aj -> Al Ah) (base : AC) (CX : CXT) (k : Ag) (f : Ai) (fd : Bu) (ps : Ab Aj) (sp : Sp) : Prop where
 len : ∀ vs H Q E, sp vs H Q E -> vs.length = ps.length
 run : ∀(A : AK)(outer : Ab BF)(s : Ak)(H : Hp)(args : Args)(us : Ab Ah)(vs : Ab V)(Q : VK)(E : XK), Room k A -> Env0 P w K mg base A outer s H -> Ez s fd args (ps.zip us) -> AN vs us -> sp vs H Q E ->
  D8 (model P w) A (.call (.ref f) args) (CR CX outer P w H s Q E) s
theorem FnOk.imp{w : AI}{K : Fg}{mg : Aj -> Al Ah}{base : AC}{f:Ai}{sp':Sp}(F : FnOk P w K mg base CX k f fd ps sp)(h : ∀ vs H Q E, sp' vs H Q E -> sp vs H Q E) : FnOk P w K mg base CX k f fd ps sp':=
 ⟨fun vs H Q E q => F.len vs H Q E (h _ _ _ _ q), fun A outer s H args us vs Q E hr he hb hv hs => F.run A outer s H args us vs Q E hr he hb hv (h _ _ _ _ hs)⟩
section
variable{X : Cx}{pI : Ab (Ai × AA)}{σ : St}{H : Hp}{s s' : Ak}
theorem Inv.env0(I : Inv X pI σ H s) : Env0 X.prog X.w X.K X.mg X.base X.A X.stack s H:=
 ⟨I.ok.frames, I.ok.mod, I.bs, BL I.ok.bsz I.sz, I.stack, I.stkFree, I.hok, I.bare⟩
theorem Inv.after{Q:VK}(I : Inv X pI σ H s)(h : CE X.stack X.prog X.w H s Q u s') : EP X pI σ Q u s' := by
 obtain⟨v, H', os, bare, un, hok, r, q⟩ := h;obtain⟨hh, g, d, t, os'⟩ := s';obtain rfl : os' = s.os := os;exact⟨v, H', I.call (h' := hh) (g' := g) (d' := d) (t' := t) (ch := []) un hok bare (fun b z => absurd z (by simp)), r, q⟩
end
noncomputable def UQ(sp : Sp)(dvs : Ab V)(E : XK)(t : TA) : TE := fun σ H Q => t σ H fun vs H1 => sp (vs++dvs) H1 Q E
noncomputable def EU(K : Fg)(fd : Bu)(ps : Ab Aj)(ds : Ab Ah) : Prop:=
 ∀(s : Ak)(us : Ab Ah), K.In s.heap -> (us++ds).length = ps.length -> Ez s fd ⟨us, []⟩ (ps.zip (us++ds))
theorem EU.all{K : Fg}(h : ∀ us : Ab Ah, us.length = ps.length -> GY fd ⟨us, []⟩ = pure (ps.zip us)) : EU K fd ps [] := fun s us _ hl => by
 rw[B6]at hl ⊢;exact .of_eq (h us hl)
noncomputable def GI(CX : CXT)(X : Cx)(E : XK) : Prop := ∀(pI : Ab (Ai × AA))(σ : St)(H : Hp)(s : Ak)(e : Ah)(s' : Ak), Inv X pI σ H s -> CX X.stack H s E e s' -> X.xe e s'
section
variable{X : Cx}{CX : CXT}{k : Ag}{f C : Ai}{fd : Bu}{ps : Ab Aj}{sp : Sp}{dvs : Ab V}{ds : Ab Ah}{E : XK}{x m : Aj}{p pos apos : AH}{e o : Ao}{es : Ab Ao}{ta : TE}{t : TA}
theorem So{Q:VK}(F : FnOk X.prog X.w X.K X.mg X.base CX k f fd ps sp)(hr : Room k X.A)(hb : EU X.K fd ps ds)(hd : AN dvs ds)(hx : GI CX X E)(I : Inv X pI σ H s)(r : AN vs us)(h : sp (vs++dvs) H Q E) : Ay (model X.prog X.w) X.A (call (.ref f) us) (EP X pI σ Q) X.xe s := by
 have r2 : AN (vs++dvs) (us++ds) := r.append hd;have hl : (us++ds).length = ps.length := by rw[<-r2.length];exact F.len _ _ _ _ h
 refine wpAny_call (FL (F.run X.A X.stack s H ⟨us, []⟩ (us++ds) (vs++dvs) Q E hr I.env0 (hb s us I.kIn hl) r2 h) fun r s' hq => ?_)
 cases r with
 |error e => exact hx pI σ H s e s' I hq
 |ok fl=>
  cases fl with
  |ret u => exact I.after hq
  |next => exact CI hq
  |brk => exact CI hq
  |cont => exact CI hq
theorem LA(F : FnOk X.prog X.w X.K X.mg X.base CX k f fd ps sp)(hr : Room k X.A)(hg : Gl X x)(hm : X.mg x = Aa (.ref f))(hk : Cd X.K (.ref f) = Ac)(hb : EU X.K fd ps ds)(hd : AN dvs ds)(hx : GI CX X E)(ha : PA X (e::es) t)(hdb : (x==("__debug__" : Aj)) = Ad := by decide)(he : At (e::es) X.env = (Ad, eval e X.env)::At es X.env := by rfl)(hpl : (BN pos (At es X.env)).any (·.1) = Ad := by rfl):PE X (.Call (.Name x p) (e::es) [] pos) (UQ sp dvs E t) := by
 intro pI s σ H Q I h;refine Ei (R6 I hg hm ?_ hdb);refine PySem.W.callWith_K (h₀ := X.base) I.ok.mod.kin hk (thn (ha pos pI s σ H _ I h) fun us s1 ⟨vs, H1, I1, r, q⟩ => ⟨I1.kIn, ?_⟩) he hpl
 exact So F hr hb hd hx I1 r q
end
section
variable{X : Cx}{CX : CXT}{k : Ag}{f C : Ai}{fd : Bu}{ps ks : Ab Aj}{sp : Sp}{E : XK}{x m : Aj}{p pos apos kpos : AH}{e o : Ao}{es : Ab Ao}{kws : Ab D6}{te ta : TE}{t tk : TA}{nm : Al Aj}
variable{g : Ab Ah -> Ab Ah -> Ab Ah}{gV : Ab V -> Ab V -> Ab V}
end
structure FnScope (N P : Ab Aj) (sc : Bw) : Prop where
 kind : sc.kind = .function
 co : sc.isCoroutine = Ad
 gen : sc.isGenerator = Ad
 nd : N.Nodup
 pre : N.take P.length = P
 par : ∀ x ∈ P, sc.names.lookup x = Aa .local \/ sc.names.lookup x = Aa .cell
 nofree : ∀ y ∈ sc.names, y.2 ≠ .free
theorem KZ{kindOf : Aj -> Al Cz}{x : Aj} : ∀{binds : Ab (Aj × Ah)}{m : Aj -> Al Ah}, (∀ v, (x, v) ∉ binds) -> Fm kindOf binds m x = m x
 |[], _, _ => rfl
 |(n, v)::r, m, h => by
  unfold Fm;rw[KZ fun w hw => h w (Ar _ hw)]
  split
  ·have : x ≠ n := by rintro rfl;exact h v Au
   simp[this]
  ·rfl
theorem KA{kindOf : Aj -> Al Cz}{x : Aj} : ∀{binds : Ab (Aj × Ah)}{m : Aj -> Al Ah}, (∀ v, (x, v) ∉ binds) -> Fl kindOf binds m x = m x
 |[], _, _ => rfl
 |(n, v)::r, m, h => by
  unfold Fl;rw[KA fun w hw => h w (Ar _ hw)]
  split
  ·rfl
  ·have : x ≠ n := by rintro rfl;exact h v Au
   simp[this]
theorem Kz{kindOf : Aj -> Al Cz}{x : Aj}{v : Ah} :∀{P :Ab Aj}{vs :Ab Ah}{i :Ag}{m :Aj->Al Ah},P.Nodup->P[i]? = Aa x->vs[i]? = Aa v->kindOf x = Aa .local->Fm kindOf (P.zip vs) m x = Aa v
 |[], _, _, _, _, h, _, _ => by simp at h
 |_::_, [], _, _, _, _, h, _ => by simp at h
 |p::P, w::vs, 0, m, nd, h1, h2, hk => by
  simp at h1 h2;subst h1;subst h2;show Fm kindOf ((p, w)::P.zip vs) m p = _;unfold Fm;rw[KZ fun v hv => (DO.mp nd).1 (EY hv).1, AE hk]
  simp
 |p::P, w::vs, i+1, m, nd, h1, h2, hk => by
  show Fm kindOf ((p, w)::P.zip vs) m x = _;unfold Fm;exact Kz (i := i) (DO.mp nd).2 (by simpa using h1) (by simpa using h2) hk
theorem KB{kindOf : Aj -> Al Cz}{x : Aj}{v : Ah} :∀{P :Ab Aj}{vs :Ab Ah}{i :Ag}{m :Aj->Al Ah},P.Nodup->P[i]? = Aa x->vs[i]? = Aa v->kindOf x ≠ Aa .local->Fl kindOf (P.zip vs) m x = Aa v
 |[], _, _, _, _, h, _, _ => by simp at h
 |_::_, [], _, _, _, _, h, _ => by simp at h
 |p::P, w::vs, 0, m, nd, h1, h2, hk => by
  simp at h1 h2;subst h1;subst h2;show Fl kindOf ((p, w)::P.zip vs) m p = _;unfold Fl;rw[KA fun v hv => (DO.mp nd).1 (EY hv).1, AF hk]
  simp
 |p::P, w::vs, i+1, m, nd, h1, h2, hk => by
  show Fl kindOf ((p, w)::P.zip vs) m x = _;unfold Fl;exact KB (i := i) (DO.mp nd).2 (by simpa using h1) (by simpa using h2) hk
noncomputable def start(N : Ab Aj)(vs : Ab V) : St := vs.map Aa++D5 (N.length-vs.length) Af
noncomputable def Ec(CX : CXT)(P : AB)(w : AI)(K : Fg)(mg : Aj -> Al Ah)(base : AC)(N : Ab Aj)(qual : Aj)(scope : Bw)(f : Ai)(cd : Ah)(A : AK)(outer : Ab BF)(s : Ak)(H : Hp)(E : XK) : Cx where
 prog := P
 w := w
 K := K
 mg := mg
 base := base
 A := A.deeper (C2 qual scope s.heap.objs.size f cd)
 N := N
 s₀ := s
 H₀ := H
 env := C2 qual scope s.heap.objs.size f cd
 outer := outer
 stack := C2 qual scope s.heap.objs.size f cd::outer
 ex := []
 calm := Ac
 fn := fun _ => Ac
 pn := []
 xe := fun e s' => Ay (model P w) (A.deeper (C2 qual scope s.heap.objs.size f cd)) (leaving (C2 qual scope s.heap.objs.size f cd) e) (fun _ s'' => CX outer H s E e s'') (fun e' s'' => CX outer H s E e' s'') s'
theorem Ll{sc:Bw}(h : sc.names.lookup x = Aa .cell) : ∃ c, (B1 n sc.names []).lookup x = Aa c := by
 have q := Ow sc.names n [] (.inl h);exact Option.isSome_iff_exists.mp q
theorem Pl{w : AI}{K : Fg}{mg : Aj -> Al Ah}{base : AC}{N ps : Ab Aj}{f:Ai}{cd:Ah}{A : AK}{outer : Ab BF}{s1:Ak}{E : XK}(S : FnScope N ps scope)(hd : A.handled = Af)(e0 : Env0 P w K mg base A outer s H)(hl : vs.length = ps.length)(r : AN vs us)(x : InCallC s s.heap.objs.size (Fm (C2 qual scope s.heap.objs.size f cd).kindOf (ps.zip us) fun _ => Af) (B1 (s.heap.objs.size+1) scope.names []) (Fl (C2 qual scope s.heap.objs.size f cd).kindOf (ps.zip us) fun _ => Af) s1):Inv (Ec CX P w K mg base N qual scope f cd A outer s H E) [] (start N vs) H s1 := by
 have hpl : ps.length <= N.length := by have := congrArg NM S.pre;rw[EF]at this;omega
 obtain⟨h1, tk, rfl, hk⟩ := x.done;have noA : ∀ b : Ai, b ∉ (Ec CX P w K mg base N qual scope f cd A outer s H E).ex := fun b z => absurd (show b ∈ ([] : Ab Ai) from z) (by simp)
 refine⟨⟨e0.mod, S.kind, rfl, rfl, AG _, fun y z c h1 h2 => ?_, fun y hy => ?_, fun y c _ h => ?_, fun _ => hd, Around.frames_deeper e0.frames, .inr ⟨rfl, rfl⟩, fun b z => absurd z (noA b), e0.bs, e0.bsz, fun b _ _ => noA b, fun b z => absurd z (noA b), e0.funs, e0.frf⟩,
  rfl, e0.bare, Un.kept hk, ⟨_, x.toInCall.ns, fun i y v h1 h2 h3 => ?_⟩, fun y c h => ⟨_, x.cell y c h⟩, e0.hok.fresh (AG _), fun y c h => ?_, fun p hp => absurd (show p ∈ ([] : Ab (Ai × AA)) from hp) (by simp), e0.hok.kept hk, ?_⟩
 ·exact name_of_addr x.apart (BA h1) (BA h2)
 ·have hy : scope.names.lookup y = Aa .cell \/ scope.names.lookup y = Aa .free := hy;rcases hy with hy|hy
  ·exact Ll hy
  ·exact absurd rfl (S.nofree _ (BA hy))
 ·exact DQ (x.above y c (BA h))
 ·have hi : i<vs.length := by
   unfold start at h2;by_cases hi : i<vs.length
   ·exact hi
   ·rw[NK (by simpa using hi)]at h2
    rw[NL]at h2;split at h2 <;> cases h2
  have ha : vs[i]? = Aa v := by
   unfold start at h2;rw[De (by simpa using hi), CO]at h2
   cases e : vs[i]? with
   |none => rw[e]at h2;cases h2
   |some a => rw[e]at h2;cases h2;rfl
  obtain⟨u, hu, rv⟩ := r.get ha;have hp : ps[i]? = Aa y := by
   rw[<-S.pre, List.getElem?_take_of_lt (by omega)];exact h1
  have ndP : ps.Nodup := by rw[<-S.pre];exact S.nd.sublist (List.take_sublist _ _)
  refine⟨u, rv, ?_⟩;rcases S.par y (NU hp) with k|k
  ·exact .inl ⟨k, Kz ndP hp hu k⟩
  ·obtain⟨c, e⟩ := Ll (n := s.heap.objs.size+1) k;refine .inr ⟨.inl k, c, e, ?_⟩;have q := x.cell y c e;rw[KB ndP hp hu (by show scope.names.lookup y ≠ _;rw[k];decide)]at q
   exact q
 ·exact e0.hok.fresh (DQ (x.above y c (BA h)))
 ·unfold start;show _ = N.length;rw[B0, BR, NO];omega
theorem MM{w : AI}{K : Fg}{mg : Aj -> Al Ah}{base : AC}{f:Ai}{name:Aj}{params:Arguments}{dV kV doc pm cdv ct oc : Ah}{an od:Al Ai}{osl:A6 (Al Ah)}{N ps : Ab Aj}(lk : K.lookup f = Aa ⟨oc, od, .func (CA name qual params body scope dV kV doc pm an cdv ct), osl⟩)(hcd : D7 K cdv qual = Ac)(S : FnScope N ps scope)(len : ∀ vs H Q E, sp vs H Q E -> vs.length = ps.length)(hbody : ∀(A : AK)(outer : Ab BF)(s : Ak)(H : Hp)(vs : Ab V)(Q : VK)(E : XK), Room k (A.deeper (C2 qual scope s.heap.objs.size f cdv)) -> sp vs H Q E ->
   ∃ t, PSs (Ec CX P w K mg base N qual scope f cdv A outer s H E) body t /\ t {nx := fun _ H' => Q .non H', rt := Q} (start N vs) H):FnOk P w K mg base CX (k+1) f (CA name qual params body scope dV kV doc pm an cdv ct) ps sp := by
 refine⟨len, fun A outer s H args us vs Q E hr e0 hb r hsp => ?_⟩
 have hl := len _ _ _ _ hsp;have KX : K.In s.heap := e0.mod.kin.keeps fun b o e => (e0.bs b o e).1
 have lim : s.heap.NoLimit := e0.mod.nolimit.keeps fun b o e => (e0.bs b o e).1
 have hkind : ∀ y ∈ ps.zip us, scope.names.lookup y.1 = Aa .local \/ (scope.names.lookup y.1 = Aa .cell /\ ((B1 (s.heap.objs.size+1) scope.names []).lookup y.1).isSome = Ac) := fun ⟨n, v⟩ hy => by
  rcases S.par n (EY hy).1 with q|q
  ·exact .inl q
  ·exact .inr ⟨q, Ow _ _ _ (.inl q)⟩
 refine codeAny_call_function hr.depth (KX _ _ lk) rfl S.co S.gen rfl (PySem.W.codeRec_of KX hcd) (hb _ _ _ _ ?_);refine wpAny_newFunctionEnv_cells S.kind hkind fun env he s1 x => ?_
 subst he;refine⟨lim.keeps x.toInCall.keep, codeAny_func ?_⟩;obtain⟨t, ht, hq⟩ := hbody A outer s H vs Q E (hr.deeper _) hsp;have I : Inv (Ec CX P w K mg base N qual scope f cdv A outer s H E) [] (start N vs) H s1 := Pl S hr.hd e0 hl r x;refine By (ht [] s1 (start N vs) H _ I hq) (fun fl s' hs => ?_) fun e s' hs => hs
 have fin : ∀{σ' : St}{H' : Hp}{v : V}{u : Ah}, Inv (Ec CX P w K mg base N qual scope f cdv A outer s H E) [] σ' H' s' -> AZ v u -> Q v H' -> CE outer P w H s Q u s':=
  fun {σ' H' v u} J rv q => ⟨v, H', J.os, J.bare, J.base, J.hok, rv, q⟩
 cases fl with
 |ret u=>
  obtain⟨v, σ', H', J, rv, q⟩ := hs;exact fin J rv q
 |next=>
  obtain⟨σ', H', J, q⟩ := hs;exact fin (v := V.non) (u := CM) J rfl q
 |brk=>
  obtain⟨_, _, _, q⟩ := hs;exact CI q
 |cont=>
  obtain⟨_, _, _, q⟩ := hs;exact CI q
section
variable{X : Cx}{x : Aj}{p pos : AH}{e : Ao}{es : Ab Ao}{t : TA}{id T : Ca}{r : Ab V -> Hp -> VK -> Prop}
noncomputable def tCB(r : Ab V -> Hp -> VK -> Prop)(t : TA) : TE := fun σ H Q => t σ H fun vs H1 => r vs H1 Q
theorem La(hc : ET X (.builtin id) r)(hg : Gl X x)(hm : X.mg x = Af)(hv : BV x = Aa (.builtin id))(ha : PA X (e::es) t)(hn : x ≠ "__name__" := by decide)(hdb : (x==("__debug__" : Aj)) = Ad := by decide)(he : At (e::es) X.env = (Ad, eval e X.env)::At es X.env := by rfl)(hpl : (BN pos (At es X.env)).any (·.1) = Ad := by rfl) : PE X (.Call (.Name x p) (e::es) [] pos) (tCB r t) := by
 intro pI s σ H Q I h;refine Ei (Hd I hg hm hv ?_ hn hdb);exact PyProof.Rows.callWith_builtin1 (thn (ha pos pI s σ H _ I h) fun us s1 ⟨vs, H1, I1, r1, q1⟩ => hc pI s1 σ H1 vs us Q I1 r1 q1) he hpl
theorem KI(hc : ET X (.type T) r)(hg : Gl X x)(hm : X.mg x = Af)(hv : BV x = Aa (.type T))(ha : PA X (e::es) t)(hn : x ≠ "__name__" := by decide)(hdb : (x==("__debug__" : Aj)) = Ad := by decide)(he : At (e::es) X.env = (Ad, eval e X.env)::At es X.env := by rfl)(hpl : (BN pos (At es X.env)).any (·.1) = Ad := by rfl) : PE X (.Call (.Name x p) (e::es) [] pos) (tCB r t) := by
 intro pI s σ H Q I h;refine Ei (Hd I hg hm hv ?_ hn hdb);exact CY (thn (ha pos pI s σ H _ I h) fun us s1 ⟨vs, H1, I1, r1, q1⟩ => hc pI s1 σ H1 vs us Q I1 r1 q1) he hpl
end
end L2
namespace HT
open PySem PyProof.Rows
variable{t sl:Ai}{Q:Ah -> Ak -> Prop}{vl vu:Ah}{lo hi:Al Ae}
section
open PySem.SeqAt
open PySem.AutoSeq1 (wpAny_loadPart')
open PySem.MeetsSeq PySem.MeetsSeq2 PySem.MeetsSeq3
end
section
variable{prog : AB}{w : AI}{A : AK}{E : Ah -> Ak -> Prop}{s : Ak}
theorem cat_tup{b:Ai}{vs ws:Ab Ah}(ht : Gn s.heap t vs.toArray)(hb : Gn s.heap b ws.toArray)(hv : vs ≠ [])(h1 : ws = [] -> Q (.ref t) s)(h2 : ws ≠ [] -> Q (.ref s.heap.objs.size) { s with heap := s.heap.push { cls := .type "tuple", data := .seq (vs++ws).toArray } })(hsz : vs.length+ws.length <= sizeLine) : Ay (model prog w) A (Bi .Add (.ref t) (.ref b)) Q E s := by
 obtain⟨⟨cls, dd, data, sl⟩, ho, hc, n, hd⟩ := id ht;obtain⟨⟨cls2, dd2, data2, sl2⟩, ho2, hc2, n2, hd2⟩ := id hb;simp only at hc hd hc2 hd2;subst hc hd hc2 hd2;have e : vs.toArray++ws.toArray = (vs++ws).toArray := by simp
 by_cases hw : ws = []
 ·exact FM ⟨_, ho, rfl⟩ ⟨_, ho2, rfl⟩ OA seq_tuple_add Oi Og (Of _ _)
   (tuple_addW1 t b vs.toArray ws.toArray n n2 dd dd2 sl sl2 (by simpa using hv) (by simp[hw])) ⟨ho, ho2, h1 hw⟩
 ·refine FM ⟨_, ho, rfl⟩ ⟨_, ho2, rfl⟩ OA seq_tuple_add Oi Og (Of _ _)
   (tuple_addW2 t b vs.toArray ws.toArray n n2 dd dd2 sl sl2 (by simpa using hv) (by simpa using hw) (by rw[AD, AD];exact hsz)) ⟨ho, ho2, ?_⟩
  rw[e];exact h2 hw
noncomputable def sIx(n d : Ag) : Al Ae -> Ag
 |none => d
 |some v => if v<0 then (v+(n : Ae)).toNat else min v.toNat n
theorem Sk(n d : Ag)(hd : d <= n)(o : Al Ae) : sIx n d o <= n := by
 cases o with
 |none => exact hd
 |some v=>
  show (if v<0 then (v+(n : Ae)).toNat else min v.toNat n) <= n
  by_cases hv : v<0
  ·rw[AE hv];omega
  ·rw[AF hv];exact Nat.min_le_right _ _
theorem Ly(v : Ae)(n d : Ag) : (if v<0 then max (v+(n : Ae)) 0 else min v (n : Ae)) = ((sIx n d (Aa v) : Ag) : Ae) := by
 show (if v<0 then max (v+(n : Ae)) 0 else min v (n : Ae)) = (((if v<0 then (v+(n : Ae)).toNat else min v.toNat n) : Ag) : Ae)
 by_cases hv : v<0
 ·simp only[AE hv];omega
 ·simp only[AF hv];omega
theorem Po(lo hi : Al Ae)(n : Ag) : Di lo hi 1 (n : Ae) = (((sIx n 0 lo : Ag) : Ae), ((sIx n n hi : Ag) : Ae)) := by
 have h1 : ¬ ((1 : Ae)<0) := by omega
 unfold Di;simp only[h1, Hq];refine CN ?_ ?_
 ·cases lo with
  |none => rfl
  |some v => exact Ly v n 0
 ·cases hi with
  |none => rfl
  |some v => exact Ly v n n
theorem OS(i j : Ag) : Cu (i : Ae) (j : Ae) 1 = j-i := by
 unfold Cu;have h1 : (1 : Ae) > 0 := by omega
 simp only[h1, Fj, Int.ediv_one];split <;> omega
theorem Kk{v:Ah}{o:Al Ae}{Q:Al Ae -> Ak -> Prop}(p : EH v o)(h : Q o s) : Ay (model prog w) A (Builtin.Slice.slicePartIndex v) Q E s := by
 cases p with
 |none => exact N9 h
 |int i t => exact slicePart_int h
theorem OM{n:Ag}{Q:Ae × Ae × Ag -> Ak -> Prop}(hs : s.heap.IsSliceOf sl vl vu .none)(pl : EH vl lo)(pu : EH vu hi)(h : Q (((sIx n 0 lo : Ag) : Ae), 1, sIx n n hi-sIx n 0 lo) s) : Ay (model prog w) A (Oc (.ref sl) (pure (n : Ae))) Q E s := by
 obtain⟨os, hos, hcs, hds⟩ := id hs;unfold Oc Builtin.Slice.sliceFields;refine Aq (Aq (C8 hos hds (x := vl) rfl (Aq (C8 hos hds (x := vu) rfl (Aq (C8 hos hds (x := .none) rfl (AJ ?_)))))));refine Aq (N9 ?_);show Ay _ _ (if ((1 : Ae)==0) = Ac then _ else _) _ _ s
 rw[AF (by decide)]
 refine Aq (Kk pl (Aq (Kk pu (Aq (AJ ?_)))));show Ay _ _ (match Di lo hi 1 (n : Ae) with|(lo, hi) => pure (lo, (1 : Ae), Cu lo hi 1)) _ _ s
 rw[Po lo hi n];show Ay _ _ (pure (((sIx n 0 lo : Ag) : Ae), (1 : Ae), Cu ((sIx n 0 lo : Ag) : Ae) ((sIx n n hi : Ag) : Ae) 1)) _ _ s;rw[OS];exact AJ h
theorem P0(xs : A6 Ah)(i k : Ag) : ((B7 k).filterMap fun(m : Ag) => xs[((i : Ae)+(m : Ae)*1).toNat]?).toArray = ((xs.toList.drop i).take k).toArray := by
 have e : (fun(m : Ag) => xs[((i : Ae)+(m : Ae)*1).toNat]?) = fun m => xs[i+m]? := by
  funext m
  have : ((i : Ae)+(m : Ae)*1).toNat = i+m := by omega
  rw[this]
 rw[e];have := pick_run xs i k;rw[List.filterMap_map]at this;have e2 : ((fun x => xs[x]?) ∘ fun x => i+x) = fun m => xs[i+m]? := rfl
 rw[e2]at this;rw[this]
theorem getItem_tuple_cut{items:A6 Ah}(ht : Gn s.heap t items)(hs : s.heap.IsSliceOf sl vl vu .none)(pl : EH vl lo)(pu : EH vu hi)(hw : ¬ (sIx items.size 0 lo = 0 /\ sIx items.size items.size hi = items.size))(h : Q (.ref s.heap.objs.size) { s with heap := s.heap.push { cls := .type "tuple", data := .seq ((items.toList.drop (sIx items.size 0 lo)).take (sIx items.size items.size hi-sIx items.size 0 lo)).toArray } })(hsz : items.size <= sizeLine) : Ay (model prog w) A (FY (.ref t) (.ref sl)) Q E s := by
 have htake : sizeOk (.seq ((items.toList.drop (sIx items.size 0 lo)).take (sIx items.size items.size hi-sIx items.size 0 lo)).toArray) := by
  show ((items.toList.drop (sIx items.size 0 lo)).take (sIx items.size items.size hi-sIx items.size 0 lo)).toArray.size <= sizeLine;rw[AD, EF, NN, C9];omega
 have hj : sIx items.size items.size hi <= items.size := Sk _ _ (AG _) hi;obtain⟨os, hos, hcs, hds⟩ := id hs;have hTs : s.TypeIs (.ref sl) "slice" := ⟨os, hos, hcs⟩;unfold FY
 try with_reducible refine C3 ?_
 first|refine Aq (AJ ?_)|skip
 refine Aq (wpAny_sequenceKey ht.typeIs (by decide) ?_)
 refine Aq (OE (name := CT "__getitem__") ht.typeIs Oa
  (wpAny_call_entry Oa ht.typeIs entry_tuple_getitem ?_ (args_tuple_getitem _ _)))
 show Ay _ _ (Builtin.Tuple.tupleItemsOf (.ref t) >>= _) _ _ s;refine Aq (tupleItemsOf_ ht ?_);refine Aq (wpAny_typeOf hTs ?_);rw[AE (by decide)]
 refine Aq (OM hs pl pu ?_);have hno : ¬ ((((sIx items.size 0 lo : Ag) : Ae)==0&&(1 : Ae)==1&&(sIx items.size items.size hi-sIx items.size 0 lo)==items.size) = Ac) := by
  intro q;rw[Am, Am]at q;have q1 : ((sIx items.size 0 lo : Ag) : Ae) = 0 := eq_of_beq q.1.1;have q2 : sIx items.size items.size hi-sIx items.size 0 lo = items.size := eq_of_beq q.2;exact hw ⟨by omega, by omega⟩
 show Ay _ _ (if (((sIx items.size 0 lo : Ag) : Ae)==0&&(1 : Ae)==1&&(sIx items.size items.size hi-sIx items.size 0 lo)==items.size) = Ac then _ else _) _ _ s
 rw[AF hno, P0]
 first
  |exact Aq (m := Cy _) (Cs (AJ ⟨_, rfl, AJ h⟩) htake)
  |exact Aq (m := Cy _) (Cs (Aq (AJ (AJ ⟨_, rfl, AJ h⟩))) htake)
  |exact Aq (Aq (m := Cy _) (Cs (AJ (AJ ⟨_, rfl, AJ h⟩)) htake))
  |exact Aq (Aq (m := Cy _) (Cs (AJ ⟨_, rfl, AJ h⟩) htake))
end
end HT
namespace L2
open PySem PySem.Spec PyProof.Rows
variable{xs:Ab V}{us its its':Ab Ah}{n t':Ag}{i:Ae}{pI:Ab (Ai × AA)}{σ:St}{H:Hp}{s:Ak}{p:Ai}
noncomputable abbrev TO := St -> Hp -> (Al Ae -> Hp -> Prop) -> Prop
noncomputable def PO(X : Cx)(e : Al Ao)(t : TO) : Prop:=
 ∀(pI : Ab (Ai × AA))(s : Ak)(σ : St)(H : Hp)(Q : Al Ae -> Hp -> Prop), Inv X pI σ H s -> t σ H Q ->
  Ay (model X.prog X.w) X.A (evalPart e X.env) (fun u s' => ∃ o H', Inv X pI σ H' s' /\ EH u o /\ Q o H') X.xe s
noncomputable def Qu : TO := fun _ H Q => Q Af H
noncomputable def UL(t : TE) : TO := fun σ H Q => t σ H fun x H1 => ∃ i, x = .int i /\ Q (Aa i) H1
section
variable{X : Cx}{e : Ao}{te : TE}{lo hi : Al Ao}{tl th : TO}{pos p2 : AH}
theorem Q5 : PO X Af Qu := by
 intro pI s σ H Q I h;rw[evalPart_none];exact AJ ⟨Af, H, I, .none, h⟩
theorem Q4(h : PE X e te) : PO X (Aa e) (UL te) := by
 intro pI s σ H Q I hw;rw[evalPart_some];refine thn (h pI s σ H _ I hw) fun u s1 ⟨x, H1, I1, r1, q1⟩ => ?_
 obtain⟨i, rfl, q⟩ := q1;obtain⟨t, rfl⟩ := r1;exact⟨Aa i, H1, I1, .int i t, q⟩
noncomputable def SlR(X : Cx)(r : V -> Al Ae -> Al Ae -> Hp -> VK -> Prop) : Prop:=
 ∀(pI : Ab (Ai × AA))(s : Ak)(σ : St)(H : Hp)(x : V)(v vl vu : Ah)(lo hi : Al Ae)(sl : Ai)(Q : VK), Inv X pI σ H s -> AZ x v -> s.heap.IsSliceOf sl vl vu .none -> EH vl lo -> EH vu hi -> r x lo hi H Q ->
  ∃ T id, typeLookup (.type T) "__getitem__" = pure (Aa (.builtin id)) /\ s.TypeIs v T /\ Ay (model X.prog X.w) X.A (FY v (.ref sl)) (EP X pI σ Q) X.xe s
noncomputable def tSl(r : V -> Al Ae -> Al Ae -> Hp -> VK -> Prop)(te : TE)(tl th : TO) : TE := fun σ H Q => te σ H fun x H1 => tl σ H1 fun l H2 => th σ H2 fun u H3 => r x l u H3 Q
theorem P2{r:V -> Al Ae -> Al Ae -> Hp -> VK -> Prop}(hr : SlR X r)(he : PE X e te)(hl : PO X lo tl)(hu : PO X hi th) : PE X (.Subscript e (.Slice lo hi Af p2) pos) (tSl r te tl th) := by
 intro pI s σ H Q I h;refine Subscript_ (thn (he pI s σ H _ I h) fun v s1 ⟨x, H1, I1, r1, q1⟩ => ?_)
 refine wpAny_Slice (thn (hl pI s1 σ H1 _ I1 q1) fun vl s2 ⟨l, H2, I2, pl, q2⟩ => thn (hu pI s2 σ H2 _ I2 q2) fun vu s3 ⟨u, H3, I3, pu, q3⟩ => ?_)
 rw[evalPart_none];refine AJ ?_;have I4 : Inv X pI σ H3 { s3 with heap := s3.heap.push { cls := .type "slice", data := .fields #[vl, vu, .none] } } := I3.kept (t' := s3.toks) fun b ob q => Aw _ q
 obtain⟨T, id, hT, ht, hg⟩ := hr pI { s3 with heap := s3.heap.push { cls := .type "slice", data := .fields #[vl, vu, .none] } } σ H3 x v vl vu l u s3.heap.objs.size Q I4 r1 (Heap.IsSliceOf.new ..) pl pu q3
 show Ay (model X.prog X.w) X.A (subscriptTail e (.Slice lo hi Af p2) v (.ref s3.heap.objs.size)) (EP X pI σ Q) X.xe { s3 with heap := s3.heap.push { cls := .type "slice", data := .fields #[vl, vu, .none] } }
 exact tail_any (ops := [.ref s3.heap.objs.size, v]) ht hT hg (by with_unfolding_all rfl)
noncomputable def FV(xs : Ab V)(lo hi : Al Ae) : Ab V := (xs.drop (HT.sIx xs.length 0 lo)).take (HT.sIx xs.length xs.length hi-HT.sIx xs.length 0 lo)
theorem Ks(xs : Ab V)(lo hi : Al Ae) : (FV xs lo hi).length <= xs.length := by
 unfold FV;rw[EF, NN];omega
noncomputable def MV(K : Fg) : V -> Al Ae -> Al Ae -> Hp -> VK -> Prop := fun x lo hi H Q => ∃ a xs, x = .ref a /\ SqT K H a xs /\
 ¬ (HT.sIx xs.length 0 lo = 0 /\ HT.sIx xs.length xs.length hi = xs.length) /\ ∀ p, H p = Af -> Q (.ref p) (upd H p (.tup (FV xs lo hi)))
theorem SG : SlR X (MV X.K) := by
 intro pI s σ H x v vl vu lo hi sl Q I rx hs pl pu h;obtain⟨a, xs, rfl, hx, hw, q⟩ := h;cases rx;obtain⟨its, r, ht, hz⟩ := I.tuple hx;have hlen : its.toArray.size = xs.length := by rw[AD];exact r.length.symm
 refine⟨"tuple", _, PyProof.Rows.slot_tuple_getitem.lookup, ht.typeIs, ?_⟩;refine HT.getItem_tuple_cut ht hs pl pu (by rw[hlen];exact hw) ?_ (by rw[hlen];exact hz)
 rw[hlen];refine⟨.ref s.heap.objs.size, _, I.laid (t' := s.toks) (o := .tup (FV xs lo hi)) (fun b ob q => Aw _ q) (AG _) ?_, rfl, q _ (I.hok.fresh (AG _))⟩
 exact⟨BL (Ks xs lo hi) hz, _, (r.drop (HT.sIx xs.length 0 lo)).take (HT.sIx xs.length xs.length hi-HT.sIx xs.length 0 lo), GR _ _⟩
noncomputable def U7(K : Fg) : R2 := fun x y H Q => ∃ a b xs ys, x = .ref a /\ y = .ref b /\ SqT K H a xs /\ SqT K H b ys /\ xs ≠ [] /\ xs.length+ys.length <= sizeLine /\
 (ys = [] -> Q (.ref a) H) /\ (ys ≠ [] -> ∀ p, H p = Af -> Q (.ref p) (upd H p (.tup (xs++ys))))
theorem AN.nil_iff(r : AN xs us) : us = [] ↔ xs = [] := by
 cases r with
 |nil => simp
 |cons _ _ => simp
theorem QN : OpR X (Bi .Add) (U7 X.K) := by
 intro pI s σ H x y v u Q I rx ry h;obtain⟨a, b, xs, ys, rfl, rfl, ha, hb, hx, hz, q1, q2⟩ := h;cases rx;cases ry;obtain⟨its, r1, p1, _⟩ := I.tuple ha;obtain⟨its2, r2, p2, _⟩ := I.tuple hb;refine HT.cat_tup p1 p2 (fun z => hx (r1.nil_iff.mp z)) (fun z => ⟨.ref a, H, I, rfl, q1 (r2.nil_iff.mp z)⟩) (fun z => ?_) (by rw[<-r1.length, <-r2.length];exact hz)
 refine⟨.ref s.heap.objs.size, _, I.laid (t' := s.toks) (o := .tup (xs++ys)) (fun b ob q => Aw _ q) (AG _) ?_, rfl, q2 (fun w => z (r2.nil_iff.mpr w)) _ (I.hok.fresh (AG _))⟩
 exact⟨by rw[B0];exact hz, _, r1.append r2, GR _ _⟩
end
noncomputable def ixN(n : Ag)(i : Ae) : Al Ag := if 0 <= i then (if i<n then Aa i.toNat else Af) else if -(n : Ae) <= i then Aa (i+n).toNat else Af
noncomputable def atI{α : Type}(xs : Ab α)(i : Ae) : Al α := (ixN xs.length i).bind fun j => xs[j]?
theorem LH{j:Ag}(h : ixN n i = Aa j) : seqIndex? i n = Aa j /\ j<n /\ -(n : Ae) <= i /\ i<n := by
 unfold ixN at h;by_cases h0 : 0 <= i
 ·rw[AE h0]at h;by_cases h1 : i<n
  ·rw[AE h1]at h;have e : i.toNat = j := BS h;exact⟨by rw[F4 h0 h1, e], by omega, by omega, h1⟩
  ·rw[AF h1]at h;cases h
 ·rw[AF h0]at h;by_cases h1 : -(n : Ae) <= i
  ·rw[AE h1]at h;have e : (i+n).toNat = j := BS h;exact⟨by rw[FP (by omega) h1, e], by omega, h1, by omega⟩
  ·rw[AF h1]at h;cases h
theorem LV{α:Type}{xs : Ab α}{v : α}(h : atI xs i = Aa v) : ∃ j, seqIndex? i xs.length = Aa j /\ xs[j]? = Aa v /\ j<xs.length /\ -(xs.length : Ae) <= i /\ i<xs.length := by
 unfold atI at h;cases e : ixN xs.length i with
 |none => rw[e]at h;cases h
 |some j=>
  rw[e]at h;obtain⟨h1, h2, h3, h4⟩ := LH e;exact⟨j, h1, h, h2, h3, h4⟩
noncomputable def Js(b : Ao) : Prop := ∀ o i, subscripted b Ad o i = operate [o, i] (FY o i)
noncomputable def IxR(X : Cx)(r : R2) : Prop:=
 ∀(value slice : Ao)(pI : Ab (Ai × AA))(s : Ak)(σ : St)(H : Hp)(x y : V)(v u : Ah)(Q : VK), Inv X pI σ H s -> AZ x v -> AZ y u -> r x y H Q ->
  subscripted slice Ad v u = operate [v, u] (FY v u) -> Ay (model X.prog X.w) X.A (subscriptTail value slice v u) (EP X pI σ Q) X.xe s
noncomputable def MtR(X : Cx)(id : Ca)(r : V -> Ab V -> Hp -> VK -> Prop) : Prop:=
 ∀(pI : Ab (Ai × AA))(s : Ak)(σ : St)(H : Hp)(x : V)(xs : Ab V)(v : Ah)(us : Ab Ah)(Q : VK), Inv X pI σ H s -> AZ x v -> AN xs us -> r x xs H Q ->
  Ay (model X.prog X.w) X.A (call (.builtin id) (v::us)) (EP X pI σ Q) X.xe s
section
variable{X : Cx}{a b : Ao}{ta tb : TE}{pos : AH}
theorem IxR.or{r r':R2}(h : IxR X r)(h' : IxR X r') : IxR X (fun x y H Q => r x y H Q \/ r' x y H Q) := by
 intro value slice pI s σ H x y v u Q I rx ry q hs;rcases q with q|q
 ·exact h value slice pI s σ H x y v u Q I rx ry q hs
 ·exact h' value slice pI s σ H x y v u Q I rx ry q hs
theorem V1{r:R2}(hr : IxR X r)(ha : PE X a ta)(hb : PE X b tb)(hs : Js b) : PE X (.Subscript a b pos) (tOp r ta tb) := by
 intro pI s σ H Q I h;exact Subscript_ (Ka ha hb I h fun v u s2 x y H2 I2 rx ry q => hr a b pI s2 σ H2 x y v u Q I2 rx ry q (hs _ _))
noncomputable def MY(K : Fg) : R2 := fun x y H Q => ∃ p xs i v, x = .ref p /\ y = .int i /\ SqL K H p xs /\ atI xs i = Aa v /\ Q v H
noncomputable def MX(K : Fg) : R2 := fun x y H Q => ∃ p xs i v, x = .ref p /\ y = .int i /\ SqT K H p xs /\ atI xs i = Aa v /\ Q v H
theorem R8 : IxR X (MY X.K) := by
 intro value slice pI s σ H x y v u Q I rx ry h hs;obtain⟨p, xs, i, z, rfl, rfl, hq, he, q⟩ := h;cases rx;obtain⟨t, rfl⟩ := ry;obtain⟨its, r, pl, hz⟩ := I.list hq;obtain⟨j, h1, h2, h3, h4, h5⟩ := LV he;obtain⟨w, ew, rw'⟩ := r.get h2;have hl := r.length;have hn := Ge;have fin : EP X pI σ Q w s := ⟨z, H, I, rw', q⟩;by_cases h0 : 0 <= i
 ·have hj : i.toNat = j := by
   rw[F4 h0 h5]at h1;exact BS h1
  exact item_listR pl.isList h0 (by omega) (by rw[hj];simpa using ew) fin hs
 ·have hj : (i+(its.toArray.size : Ae)).toNat = j := by
   rw[FP (by omega) h4]at h1
   rw[AD, <-hl];exact BS h1
  exact Dw (x := w) pl.isList.typeIs OC.lookup
   (wpAny_getItem_list_neg (Q := fun r s' => r = w /\ EP X pI σ Q r s') pl.isList (by omega) (by rw[AD] <;> omega) (by omega) (by rw[hj];simpa using ew) ⟨rfl, fin⟩) hs
theorem Tx : IxR X (MX X.K) := by
 intro value slice pI s σ H x y v u Q I rx ry h hs;obtain⟨p, xs, i, z, rfl, rfl, hq, he, q⟩ := h;cases rx;obtain⟨t, rfl⟩ := ry;obtain⟨its, r, pl, hz⟩ := I.tuple hq;obtain⟨j, h1, h2, h3, h4, h5⟩ := LV he;obtain⟨w, ew, rw'⟩ := r.get h2;have hl := r.length;have hn := Ge;have fin : EP X pI σ Q w s := ⟨z, H, I, rw', q⟩;exact Dw (x := w) pl.typeIs slot_tuple_getitem.lookup
  (getItem_tuple (j := j) (Q := fun r s' => r = w /\ EP X pI σ Q r s') pl (by omega) (by omega) (by rw[AD, <-hl];exact h1) (by simpa using ew) ⟨rfl, fin⟩) hs
theorem OU(its : Ab Ah)(n j : Ag)(u : Ah) : Ey (·.setIfInBounds j u) { cls := .type "list", data := .seq its.toArray n } = { cls := .type "list", data := .seq (its.set j u).toArray n } := by
 simp[Ey]
theorem Inv.lst(I : Inv X pI σ H s)(h : H p = Aa (.lst xs)):
  ∃(its : Ab Ah)(n : Ag), AN xs its /\ s.heap.get? p = Aa { cls := .type "list", data := .seq its.toArray n } /\ xs.length <= sizeLine := by
 obtain⟨z, its, n, r, e⟩ := I.hok p _ h;exact⟨its, n, r, e, z⟩
theorem Inv.lstUpd{ys:Ab V}{n':Ag}{f:AA -> AA}(I : Inv X pI σ H s)(h : H p = Aa (.lst xs))(ho : s.heap.get? p = Aa { cls := .type "list", data := .seq its.toArray n })(hf : f { cls := .type "list", data := .seq its.toArray n } = { cls := .type "list", data := .seq its'.toArray n' })(r : AN ys its')(hz : ys.length <= sizeLine)(t : Ag):Inv X pI σ (upd H p (.lst ys)) {s with heap := s.heap.update p f,toks := t} := by
 have e : (s.heap.update p f).get? p = Aa { cls := .type "list", data := .seq its'.toArray n' } := by
  rw[Cj f ho (by rw[hf] <;> rfl), hf]
 refine I.write (x := p) (e := p) (by rw[h];trivial) (.inl rfl) (fun b u hb q => (BU _ _ (C5 hb)).trans q) ⟨_, e⟩ ?_
 exact⟨hz, its', n', r, e⟩
noncomputable def U5 : V -> V -> V -> Hp -> (Hp -> Prop) -> Prop := fun o i v H Q => ∃ p xs k j, o = .ref p /\ i = .int k /\ H p = Aa (.lst xs) /\ ixN xs.length k = Aa j /\ Q (upd H p (.lst (xs.set j v)))
theorem PJ : J5 X U5 := by
 intro pI s σ H o i v ov iv u Q I ro ri rv h;obtain⟨p, xs, k, j, rfl, rfl, hp, hj, q⟩ := h;cases ro;obtain⟨t, rfl⟩ := ri;obtain⟨its, n, r, ho, hz⟩ := I.lst hp;obtain⟨h1, h2, h3, h4⟩ := LH hj;have hl := r.length;have hn := Ge;have I' : Inv X pI σ (upd H p (.lst (xs.set j v))) {s with heap := s.heap.update p (Ey (·.setIfInBounds j u))}:=
  I.lstUpd hp ho (OU its n j u) (r.set rv j) (by rw[AX];exact hz) s.toks
 by_cases h0 : 0 <= k
 ·have hk : k.toNat = j := by
   rw[F4 h0 h4]at h1;exact BS h1
  exact PySem.W.ki_setAt ho h0 (by omega) (by rw[AD, <-hl];exact h4) (by rw[hk];exact⟨_, I', q⟩)
 ·have hk : (k+(its.toArray.size : Ae)).toNat = j := by
   rw[FP (by omega) h3]at h1
   rw[AD, <-hl];exact BS h1
  exact PySem.W.ki_setBack ho (by omega) (by rw[AD, <-hl];exact h3) (by omega) (by rw[hk];exact⟨_, I', q⟩)
theorem ON(lo hi : Al Ae)(n : Ag) : (C7 lo hi Af n).1 = ((HT.sIx n 0 lo : Ag) : Ae) /\ (C7 lo hi Af n).2.1 = ((HT.sIx n n hi : Ag) : Ae) /\ (C7 lo hi Af n).2.2 = 1 := by
 refine⟨?_, ?_, rfl⟩
 ·cases lo with
  |none => simp[C7, HT.sIx]
  |some i=>
   simp only[C7, HT.sIx, N6, show (1 : Ae) > 0 by decide, Fj]
   by_cases h : i<0
   ·simp only[h, Fj] <;> omega
   ·simp only[h, Hq] <;> omega
 ·cases hi with
  |none => simp[C7, HT.sIx]
  |some i=>
   simp only[C7, HT.sIx, N6, show (1 : Ae) > 0 by decide, Fj]
   by_cases h : i<0
   ·simp only[h, Fj] <;> omega
   ·simp only[h, Hq] <;> omega
theorem OP(its : Ab Ah)(lo hi : Al Ae) : slicePick its.toArray lo hi Af = ((its.drop (HT.sIx its.length 0 lo)).take (HT.sIx its.length its.length hi-HT.sIx its.length 0 lo)).toArray := by
 obtain⟨h1, h2, h3⟩ := ON lo hi its.toArray.size;unfold slicePick;rw[h1, h2, h3];simp only[sliceRange_one, pick_run, AD] <;> rfl
noncomputable def MW(K : Fg) : V -> Al Ae -> Al Ae -> Hp -> VK -> Prop := fun x lo hi H Q => ∃ a xs, x = .ref a /\ SqL K H a xs /\ ∀ p, H p = Af -> Q (.ref p) (upd H p (.lst (FV xs lo hi)))
theorem Rx : SlR X (MW X.K) := by
 intro pI s σ H x v vl vu lo hi sl Q I rx hs pl pu h;obtain⟨a, xs, rfl, hx, q⟩ := h;cases rx;obtain⟨its, r, ht, hz⟩ := I.list hx;have hlen := r.length;refine⟨"list", _, OC.lookup, ht.isList.typeIs, ?_⟩;refine wpAny_getItem_list_slice ht.isList hs pl pu .none (by simp) ?_ (by rw[AD] <;> omega)
 rw[OP, <-hlen];refine⟨.ref s.heap.objs.size, _, I.laid (t' := s.toks) (o := .lst (FV xs lo hi)) (fun b ob q => Aw _ q) (AG _) ?_, rfl, q _ (I.hok.fresh (AG _))⟩
 exact⟨BL (Ks xs lo hi) hz, _, 0, (r.drop (HT.sIx xs.length 0 lo)).take (HT.sIx xs.length xs.length hi-HT.sIx xs.length 0 lo), A8 _ rfl⟩
theorem Kw : ET X (.builtin "len") (fun xs H Q => ∃ p ys, xs = [.ref p] /\ (SqL X.K H p ys \/ SqT X.K H p ys) /\ Q (.int ys.length) H) := by
 intro pI s σ H xs us Q I r h;obtain⟨p, ys, rfl, hq, q⟩ := h;obtain⟨u, rfl, rx⟩ := GJ r;cases rx;have hn := Ge;rcases hq with hq|hq
 ·obtain⟨its, r', pl, hz⟩ := I.list hq;have hlen := r'.length;exact Calls.call_len_list pl.isList (by simp only[AD] <;> omega) ⟨.int ys.length, H, I.tok _, ⟨s.toks+1, by rw[AD, hlen]⟩, q⟩
 ·obtain⟨its, r', pl, hz⟩ := I.tuple hq;have hlen := r'.length;exact len_tuple pl (by simp only[AD] <;> omega) ⟨.int ys.length, H, I.tok _, ⟨s.toks+1, by rw[AD, hlen]⟩, q⟩
theorem OO : ET X (.builtin "len") (fun xs H Q => ∃ z, xs = [.str z] /\ z.length <= sizeLine /\ Q (.int z.length) H) := by
 intro pI s σ H xs us Q I r h;obtain⟨z, rfl, hz, q⟩ := h;obtain⟨u, rfl, t, rfl⟩ := GJ r;have hn := Ge;exact len_str (by omega) ⟨.int z.length, H, I.tok _, ⟨_, rfl⟩, q⟩
theorem Kv : ET X (.type "list") (fun xs H Q => ∃ p ys, xs = [.ref p] /\ (SqL X.K H p ys \/ SqT X.K H p ys) /\ ∀ l, H l = Af -> Q (.ref l) (upd H l (.lst ys))) := by
 intro pI s σ H xs us Q I r h;obtain⟨p, ys, rfl, hq, q⟩ := h;obtain⟨u, rfl, rx⟩ := GJ r;cases rx;have fin : ∀(its : Ab Ah), AN ys its -> ys.length <= sizeLine -> ∀(h' : AC)(c' : Ag), (∀ b o', s.heap.get? b = Aa o' -> h'.get? b = Aa o') ->
   h'.get? s.heap.objs.size = Aa { cls := .type "list", dict := Af, data := .seq its.toArray c', slots := #[] } -> EP X pI σ Q (.ref s.heap.objs.size) {s with heap := h'} := fun its r' hz h' c' kp e=>
  ⟨.ref s.heap.objs.size, _, I.laid (t' := s.toks) kp (AG _) (show ObjOk X.prog X.w _ h' _ (.lst ys) from ⟨hz, its, c', r', e⟩), rfl, q _ (I.hok.fresh (AG _))⟩
 rcases hq with hq|hq
 ·obtain⟨its, r', pl, hz⟩ := I.list hq;have hlen := r'.length;obtain⟨o, ho, hc, n, hd⟩ := pl.isList;exact call_list_seq p (.inl rfl) ho hc hd (fun h' c' kp e => fin its r' hz h' c' kp e) (by simp only[AD] <;> omega)
 ·obtain⟨its, r', pl, hz⟩ := I.tuple hq;have hlen := r'.length;obtain⟨o, ho, hc, n, hd⟩ := pl;exact call_list_seq p (.inr rfl) ho hc hd (fun h' c' kp e => fin its r' hz h' c' kp e) (by simp only[AD] <;> omega)
theorem Kc : ET X (.type "tuple") (fun xs H Q => ∃ p ys, xs = [.ref p] /\ ((SqL X.K H p ys /\ ∀ l, H l = Af -> Q (.ref l) (upd H l (.tup ys))) \/ (SqT X.K H p ys /\ Q (.ref p) H))) := by
 intro pI s σ H xs us Q I r h;obtain⟨p, ys, rfl, h⟩ := h;obtain⟨u, rfl, rx⟩ := GJ r;cases rx;rcases h with ⟨hq, q⟩|⟨hq, q⟩
 ·obtain⟨its, r', pl, hz⟩ := I.list hq;have hlen := r'.length;refine call_tuple_list pl.isList (fun h' kp => ?_) (by simp only[AD] <;> omega)
  have I1 : Inv X pI σ H {s with heap := h'} := I.kept (t' := s.toks) kp
  have I2 : Inv X pI σ (upd H h'.objs.size (.tup ys)) { s with heap := h'.push { cls := .type "tuple", data := .seq its.toArray } }:=
   I1.laid (t' := s.toks) (fun b o e => Aw _ e) (AG _) (show ObjOk X.prog X.w _ _ _ (.tup ys) from ⟨hz, its, r', GR _ _⟩)
  exact⟨.ref h'.objs.size, _, I2, rfl, q _ (I1.hok.fresh (AG _))⟩
 ·obtain⟨its, r', pl, hz⟩ := I.tuple hq;exact call_tuple_same pl ⟨.ref p, H, I, rfl, q⟩
variable{o e : Ao}{es : Ab Ao}{to : TE}{t : TA}{name : Aj}{apos cpos : AH}{T id : Ca}{r : V -> Ab V -> Hp -> VK -> Prop}
/- xs.append(e), list.index on a module's tuple .. are MtR facts of 06m -/
end
theorem AN.one : ∀{x : V}{us : Ab Ah}, AN [x] us -> ∃ u, us = [u] /\ AZ x u
 |_, _, .cons r .nil => ⟨_, rfl, r⟩
theorem AN.zero : ∀{us : Ab Ah}, AN [] us -> us = []
 |_, .nil => rfl
theorem AN.eraseIdx : ∀{xs : Ab V}{us : Ab Ah}(i : Ag), AN xs us -> AN (xs.eraseIdx i) (us.eraseIdx i)
 |_, _, _, .nil => .nil
 |_, _, 0, .cons _ t => t
 |_, _, i+1, .cons r t => .cons r (AN.eraseIdx i t)
theorem AN.reverse(h : AN xs us) : AN xs.reverse us.reverse := by
 induction h with
 |nil => exact .nil
 |cons r t ih => rw[NX, NX];exact AN.append ih (.cons r .nil)
section
variable{X : Cx}{pI : Ab (Ai × AA)}{σ : St}{H : Hp}{s : Ak}{l b : Ai}{xs ys zs : Ab V}
theorem Inv.lset{f:A6 Ah -> A6 Ah}(I : Inv X pI σ H s)(hH : H l = Aa (.lst xs))(e : s.heap.get? l = Aa { cls := .type "list", data := .seq its.toArray n })(hf : f its.toArray = its'.toArray)(hv : AN ys its')(hz : ys.length <= sizeLine):Inv X pI σ (upd H l (.lst ys)) {s with heap := s.heap.update l (Ey f),toks := t'} := by
 have q := PySem.IsL.update e f;rw[hf]at q;refine I.write (x := l) (e := l) (by rw[hH];exact trivial) (.inl rfl) (fun b' u hb hu => (BU s.heap (Ey f) (C5 hb)).trans hu) ⟨_, q⟩ ?_
 exact⟨hz, its', _, hv, q⟩
theorem Inv.lnew(I : Inv X pI σ H s)(hv : AN ys its)(hz : ys.length <= sizeLine):
  Inv X pI σ (upd H s.heap.objs.size (.lst ys)) { s with heap := s.heap.push { cls := .type "list", data := .seq its.toArray }, toks := t' }:=
 I.laid (fun _ _ q => Aw _ q) (AG _) ⟨hz, its, 0, hv, A8 _ rfl⟩
theorem Inv.fresh(I : Inv X pI σ H s) : H s.heap.objs.size = Af := I.hok.fresh (AG _)
end
section
variable{X : Cx}
end
section
variable{prog : AB}{w : AI}{A : AK}{E : Ah -> Ak -> Prop}{s : Ak}
set_option maxRecDepth 100000 in
end
section
variable{X : Cx}
end
end L2
namespace Att
open PySem PySem.W PySem.Calls PyProof.Rows
variable{P:GW}{h:AC}{l:Dx}{n:Ag}
theorem OL : ∀(ns : Ab Ae)(vs : Ab Ah), WellAll P h vs (ns.map Os) -> Fa vs ns := by
 intro ns
 induction ns with
 |nil=>
  intro vs w;rw[EG]at w;cases w;exact .nil
 |cons n ns ih=>
  intro vs w;rw[Bj]at w;cases w with
  |cons a b=>
   cases a;exact .cons _ _ (ih _ b)
theorem Pw(hn : l.most = Aa n){args:Ab WData}{vals:Ab Ah}(hpre : l.row.toRowW.claim.pre args = Ac)(hwl : WellAll P h vals args):
  ∃ a vs ns, vals = [EZ a] /\ args = [WData.list (ns.map Os)] /\ h.get? a = Aa { cls := .type "list", data := .seq vs.toArray } /\ Fa vs ns /\ ns.length <= n := by
 have hsh : WShape.hasAll [] args [.list .int] = Ac := (pre_splitW hpre).1;have hc : l.pre.holds [] {args := args} = Ac := (pre_splitW hpre).2;obtain⟨d, r, rfl, h1, h2⟩ := hasAllW_cons hsh;obtain rfl := hasAllW_nil h2;obtain⟨xs, rfl, h3⟩ := hasW_list h1;obtain⟨ns, rfl⟩ := items_int h3;have hlen : ns.length <= n := by
  unfold OpenLaw.pre at hc;have h4 : (WTm.not (.lt (.lit (.int (n : Ae))) (.len (.arg 0)))).holds [] {args := [.list (ns.map .int)]} = Ac := by
   have h4 := (holds_andW hc).1;rw[hn]at h4;exact h4
  have h5 := condW_of h4 (w_not (w_lt w_lit (w_len_list (w_arg rfl))));rw[BR]at h5;refine Nat.le_of_not_lt fun q => ?_
  have q' : (n : Ae)<((ns.length : Ag) : Ae) := by omega
  first
   |(rw[decide_eq_true q']at h5;exact absurd h5 (by decide))
   |(simp at h5;omega)
 cases hwl with
 |cons w1 w2=>
  cases w2;cases w1 with
  |list ho hall => exact⟨_, _, ns, rfl, rfl, ho, OL ns _ hall, hlen⟩
theorem Pb(l : Dx)(args : Ab WData) : l.row.toRowW.claim.post args (.bool Ac) args = Ac:=
 postW_of (r := l.row.toRowW) (X := (Ac==Ac))
  (show Ot [] (.bool Ac) .bool = Ac by first|rfl|decide|simp[Ot, WShape.arms, WShape.armsAll])
  (show (WTm.eq .res (.lit (.bool Ac))).value [] {args := args, res := Aa (.bool Ac), after := args} = Aa (.bool (Ac==Ac)) from w_eq_bool (w_res rfl) w_lit) rfl
theorem attach_call{q:AB}{loose:Ab Aj}{XP:(Aj -> Al Ah) -> AC -> Prop}{YP:AI -> AC -> Prop}{d:DefRec}(hn : l.most = Aa n)(hdf : d.params.defaults = [])(call : ∀(w : AI)(s₀ s₁ : Ak)(mg mb : Aj -> Al Ah)(fa : Ai)(o : AA)(pm cd doc : Ah)(a : Ai)(vs : Ab Ah)(ns : Ab Ae),
   Ground q loose [] XP w s₀ mg mb s₁.heap -> YP w s₁.heap ->
   s₁.heap.get? fa = Aa o -> o.data = .func (docDef d.name d.params d.body d.scope pm cd doc) -> s₁.heap.CodeRec cd d.name -> mg d.name = Aa (.ref fa) ->
   s₁.heap.get? a = Aa { cls := .type "list", data := .seq vs.toArray } -> Fa vs ns -> ns.length <= n -> s₁.gens = #[] ->
   D8 (model l.prog w) EA (.call (.ref fa) ⟨[.ref a], []⟩) (fun r s' => r = .ok (.ret (.bool Ac)) /\ OldK s₁.heap s'.heap /\ s'.os = s₁.os /\ Dl s'.gens) s₁):WalkO q loose XP YP l.row.toRowW d [] (fun f vs =>Gq f vs) := by
 intro w s₀ s₁ mg mb G Y fa o pm cd doc dV kV ho hd hcd hD hmg hg args vals as hpre hlay hrd hwl hlo;obtain rfl : dV = .none := Dflts.none hD hdf;obtain rfl : kV = .none := Dflts.noKw hD;obtain⟨a, vs, ns, rfl, rfl, hobj, hints, hlen⟩ := Pw hn hpre hwl;refine enter_call (FL (call w s₀ s₁ mg mb fa o pm cd doc a vs ns G Y ho (fd_plain hd) hcd hmg hobj hints hlen hg) fun r s' hq => ?_)
 obtain⟨rfl, h2, h3, h4⟩ := hq;exact⟨.inl ⟨.bool Ac, .bool Ac, [], rfl, fun _ => rfl, .bool Ac, Pb l _, fun _ => ⟨List.Pairwise.nil, fun _ hm => (nomatch hm)⟩⟩, h2, h3, h4⟩
section
variable{prog : AB}{w : AI}{A : AK}{E : Ah -> Ak -> Prop}{s : Ak}{K : Frag}
end
end Att
namespace L2
open PySem PySem.Spec PyProof.Rows
variable{k:Ag}{x:Aj}
theorem K7 : ∀{vs : Ab Ah}{ns : Ab Ae}, Fa vs ns -> AN (ns.map V.int) vs
 |_, _, .nil => .nil
 |_, _, .cons n t h => .cons ⟨t, rfl⟩ (K7 h)
noncomputable def J6(H : Hp) : Prop := ∀ b, H b = Af \/ ∃ o xs, H b = Aa (.frz o (.lst xs))
theorem P9{P:AB}{w:AI}{K:Fg}{mg mb:Aj -> Al Ah}{CX:CXT}{fa a:Ai}{fd:Bu}{sp:Sp}{s₁:Ak}{vs:Ab Ah}{ns:Ab Ae}(KX : K.In s₁.heap)(hns : s₁.heap.Ns AU mg)(hb : s₁.heap.Ns Fn mb)(hbb : ∀ x : Aj, x ≠ "__name__" -> mb x = BV x)(hlim : s₁.heap.NoLimit)(hg : s₁.gens = #[])(ha : s₁.heap.get? a = Aa { cls := .type "list", data := .seq vs.toArray })(hi : Fa vs ns)(hl : ns.length <= sizeLine)(hr : Room k EA)(F : ∀ base : AC, K.In base -> base.Ns AU mg -> FnOk P w K mg base CX k fa fd [x] sp)(hbind : ∀(s : Ak)(u : Ah), Ez s fd ⟨[u], []⟩ [(x, u)])(hsp : ∀ H : Hp, J6 H -> SqL K H a (ns.map V.int) -> sp [.ref a] H (fun v _ => v = .bl Ac) fun _ _ _ => AW)(hCX : ∀ H e s', CX [] H s₁ (fun _ _ _ => AW) e s' -> AW):D8 (model P w) EA (.call (.ref fa) ⟨[.ref a],[]⟩) (fun r s' =>r = .ok (.ret (.bool Ac))/\OldK s₁.heap s'.heap/\s'.os = s₁.os/\Dl s'.gens) s₁ := by
 have rv := K7 hi;have lenV := hi.length
 -- from an abstract heap in which nothing but the script may be tracked
 have core : ∀ H : Hp, J6 H -> SqL K H a (ns.map V.int) -> HOk P w H s₁.heap -> (∀ b, H b ≠ Af -> b = a) -> (H a ≠ Af -> K.lookup a = Af) ->
   D8 (model P w) EA (.call (.ref fa) ⟨[.ref a], []⟩) (fun r s' => r = .ok (.ret (.bool Ac)) /\ OldK s₁.heap s'.heap /\ s'.os = s₁.os /\ Dl s'.gens) s₁ := by
  intro H hO hS hok hA hK;have base_of : ∀{b : Ai}{o : AA}, s₁.heap.get? b = Aa o -> H b = Af -> (Fu s₁.heap H).get? b = Aa o := fun e n => PC e n
  have noA : ∀{b : Ai}{o : AA}{es : A6 DictEntry}{ep : Ag}, s₁.heap.get? b = Aa o -> o.data = .dict es ep -> H b = Af := fun {b o es ep} e d => by
   cases q : H b with
   |none => rfl
   |some u=>
    have e' : b = a := hA b (by rw[q];simp)
    subst e';rw[ha]at e;cases e;have d' : GU vs.toArray _ = Data.dict es ep := d;cases d'
  have nsK : ∀{b : Ai}{m : Aj -> Al Ah}, s₁.heap.Ns b m -> (Fu s₁.heap H).Ns b m := fun {b m} ⟨o, es, ep, e, d, r⟩ => ⟨o, es, ep, base_of e (noA e d), d, r⟩
  have hKb : K.In (Fu s₁.heap H) := fun b o e => base_of (KX b o e) (by
   cases q : H b with
   |none => rfl
   |some u=>
    have e' : b = a := hA b (by rw[q];simp)
    subst e';rw[hK (by rw[q];simp)]at e;cases e)
  have hM : Mod K mg (Fu s₁.heap H) := ⟨hKb, nsK hns, ⟨mb, nsK hb, hbb⟩, let ⟨mc, h1, h2⟩ := hlim;⟨mc, nsK h1, h2⟩⟩
  have e0 : Env0 P w K mg (Fu s₁.heap H) EA [] s₁ H := ⟨rfl, hM, fun b o e => QP e, Nat.le_of_eq (Pn _ _), trivial, fun b hb => absurd (show b ∈ ([] : Ab Ai) from hb) (by simp), hok, .of_eq hg⟩
  refine FL ((F _ hKb (nsK hns)).run EA [] s₁ H ⟨[.ref a], []⟩ [.ref a] [.ref a] _ _ hr e0 (hbind s₁ (.ref a)) (.cons rfl .nil) (hsp H hO hS)) fun r s' h => ?_
  cases r with
  |error e => exact(hCX H e s' h).elim
  |ok fl=>
   cases fl with
   |next => exact CI h
   |brk => exact CI h
   |cont => exact CI h
   |ret u=>
    obtain⟨v, H', os, bare, un, hok', r', q⟩ := h;have q' : v = .bl Ac := q;subst q';obtain rfl : u = Oo Ac := r';refine⟨rfl, OldK.of_keep fun b o e => ?_, os, bare⟩
    cases q : H b with
    |none => exact un.keep b o e q (by intro z;exact absurd (show b ∈ ([] : Ab Ai) from z) (by simp)) (by simp)
    |some u=>
     rcases hO b with z|⟨ob, xs, z⟩
     ·rw[q]at z;cases z
     ·have z2 := un.frzs b ob _ z;obtain⟨e1, _⟩ := hok b _ z;obtain⟨e2, _⟩ := hok' b _ z2;rw[e]at e1;cases e1;exact e2
 cases hk : K.lookup a with
 |some o=>
  -- the script is one of the module's own objects
  have e := KX a o hk;rw[ha]at e;cases e;refine core (fun _ => Af) (fun _ => .inl rfl) (.inr ⟨_, vs.toArray, _, hk, rfl, rfl, rfl, by rw[AD, lenV];exact hl, by simpa using rv⟩) (fun b u z => by have z' : (Af : Al HO) = Aa u := z;cases z') (fun b z => absurd rfl z) fun z => absurd rfl z
 |none=>
  refine core (fun b => if b = a then Aa (.frz { cls := .type "list", data := .seq vs.toArray } (.lst (ns.map V.int))) else Af) (fun b => ?_) (.inl (.inr ⟨{ cls := .type "list", data := .seq vs.toArray }, AE rfl⟩)) (fun b u z => ?_) (fun b z => ?_) fun _ => hk
  ·by_cases hb : b = a
   ·exact .inr ⟨_, _, AE hb⟩
   ·exact .inl (AF hb)
  ·by_cases hb : b = a
   ·have z' := (AE hb).symm.trans z;cases z';subst hb;exact⟨ha, by rw[BR];exact hl, vs, _, rv, ha⟩
   ·have z' := (AF hb).symm.trans z;cases z'
  ·by_cases hb : b = a
   ·exact hb
   ·exact absurd (AF hb) z
noncomputable abbrev KOf{K : Fg}{h : AC}(_ : K.In h) : Fg := K
theorem walk_of{l:Dx}{n:Ag}{q:AB}{loose:Ab Aj}{XP:(Aj -> Al Ah) -> AC -> Prop}{YP:AI -> AC -> Prop}{d:DefRec}{K:GW -> Fg}{CX:AI -> CXT}{sp:AI -> Sp}(hn : l.most = Aa n)(hn2 : n <= sizeLine)(hdf : d.params.defaults = [])(hr : Room k EA)(hY : ∀(w : AI)(h : AC), YP w h -> (K w.params).In h)(F : ∀(w : AI)(mg : Aj -> Al Ah)(fa : Ai)(h : AC), (K w.params).In h -> h.Ns AU mg -> mg d.name = Aa (.ref fa) ->
   ∃ fd : Bu, (∀(s : Ak)(u : Ah), Ez s fd ⟨[u], []⟩ [(x, u)]) /\
    ∀ base : AC, (K w.params).In base -> base.Ns AU mg -> FnOk l.prog w (K w.params) mg base (CX w) k fa fd [x] (sp w))(hsp : ∀(w : AI)(H : Hp)(a : Ai)(ns : Ab Ae), ns.length <= n -> J6 H -> SqL (K w.params) H a (ns.map V.int) -> sp w [.ref a] H (fun v _ => v = .bl Ac) fun _ _ _ => AW)(hCX : ∀(w : AI)(H : Hp)(s : Ak)(e : Ah)(s' : Ak), CX w [] H s (fun _ _ _ => AW) e s' -> AW):Ou q loose XP YP l.row.toRowW d [] (fun f vs =>Gq f vs) := by
 refine Att.attach_call hn hdf fun w s₀ s₁ mg mb fa o pm cd doc a vs ns G Y ho hd hcd hmg hobj hints hlen hg => ?_
 have KX := hY w _ Y;obtain⟨fd, hb, hF⟩ := F w mg fa _ KX G.T.g hmg;exact P9 KX G.T.g G.T.b G.T.builtins G.T.nolimit hg hobj hints (BL hlen hn2) hr hF hb (fun H hO hS => hsp w H a ns hlen hO hS) fun H e s' => hCX w H s₁ e s'
end L2
/- THE LAST THEOREM (shape;LID, My.* are yours):
   My.Adr: a structure of the addresses that your layer names (classes, functions);My.Txt K t: a structure (Prop) of the equations over K;
   My.txt_mk : {K} {implicit addresses ..} (e1 : nsIn K AU "law" = Aa (Aa (.ref f))) (e2 : K.lookup f = Aa ⟨oc, od, .func (fnOf "law" "law" params body scope dV kV doc pm an cdv ct), sl⟩) (e3 : codeIn K cdv "law" = Ac) .. : ∃ t, My.Txt K t
set_option maxRecDepth 100000 in
set_option maxHeartbeats 0 in
theorem PySem.Challenge.cw_LID_holds : PySem.Challenge.rw_LID.Holds := by
 w_on;o_law;k_head;(case hw => w_witness2)
 k_fill
 refine L2.walk_of (l := PySem.Challenge.rw_LID) (n := 63) (k := 40) (x := "script") (CX := fun w => ..) (sp := fun _ => My.sp_law) rfl (by decide) rfl ⟨rfl, by decide, by decide⟩ (fun w h Y => Ox Y) ?F ?S ?C
 case F=>
  intro w mg fa h KX G hmg;have T : ∃ t, My.Txt (L2.KOf KX) t := by
   dsimp only[L2.KOf]                          -- K must stand as «<heap const> w.params» for k_is
   refine' My.txt_mk ?e1 ?e2 ?e3 ..
   (case e1 => PySem.W.k_is)                    -- in the order: a name -> its address -> its object -> its parts
   (case e2 => PySem.W.k_is)
   ..
  obtain⟨t, T⟩ := T;have e0 := hmg.symm.trans (FD KX G T.law);cases e0                                       -- fa is the law's own address
  exact⟨_, fun s u => .of_eq rfl, fun base kb nb => My.law_fn T kb nb⟩     -- if «.of_eq rfl» comes too early: refine' ⟨_, ?b, fun base kb nb => My.law_fn T kb nb⟩;exact fun s u => .of_eq rfl
 case S => exact fun w H a ns hl hO hS => ..
 case C => exact ..
(the tactic k_is has no namespace: write k_is) -/
namespace L2
open PySem PySem.Spec PyProof.Rows
noncomputable def GF(s : Bb) : Arguments := match s with
  |.FunctionDef _ a _ _ _ _ _ _ _ _ => a
  |_ => {posonlyargs := [], args := [], vararg := Af, kwonlyargs := [], kw_defaults := [], kwarg := Af, defaults := []}
noncomputable def EM(s : Bb) : Ab Bb := match s with
  |.FunctionDef _ _ b _ _ _ _ _ _ _ => b
  |_ => []
noncomputable def Dk(s : Bb) : Bw := match s with
  |.FunctionDef _ _ _ _ _ _ sc _ _ _ => sc
  |_ => {kind := .function, names := [], isGenerator := Ad, isCoroutine := Ad}
noncomputable abbrev CX0 : CXT := fun _ _ _ _ _ _ => AW
structure Fun (K : Fg) (x qual : Aj) (st : Bb) (f : Ai) (fd : Bu) : Prop where
 ex : ∃(oc : Ah)(od : Al Ai)(kV doc pm : Ah)(an : Al Ai)(cdv ct : Ah)(osl : A6 (Al Ah)),
  fd = CA x qual (GF st) (EM st) (Dk st) .none kV doc pm an cdv ct /\ K.lookup f = Aa ⟨oc, od, .func fd, osl⟩ /\ D7 K cdv qual = Ac
 kp : Cd K (.ref f) = Ac
section
variable{P : AB}{w : AI}{K : Fg}{mg : Aj -> Al Ah}{base : AC}
theorem Fun.ok{x qual : Aj}{st : Bb}{f : Ai}{fd : Bu}{N ps : Ab Aj}{k : Ag}{sp : Sp}(F : Fun K x qual st f fd)(S : FnScope N ps (Dk st))(len : ∀ vs H Q E, sp vs H Q E -> vs.length = ps.length)(hbody : ∀(cdv : Ah)(A : AK)(outer : Ab BF)(s : Ak)(H : Hp)(vs : Ab V)(Q : VK)(E : XK), Room k (A.deeper (C2 qual (Dk st) s.heap.objs.size f cdv)) -> sp vs H Q E ->
   ∃ t, PSs (Ec CX0 P w K mg base N qual (Dk st) f cdv A outer s H E).nox (EM st) t /\ t {nx := fun _ H' => Q .non H', rt := Q} (start N vs) H) : FnOk P w K mg base CX0 (k+1) f fd ps sp := by
 obtain⟨oc, od, kV, doc, pm, an, cdv, ct, osl, rfl, lk, hcd⟩ := F.ex;refine MM lk hcd S len fun A outer s H vs Q E hr hsp => ?_
 obtain⟨t, h, q⟩ := hbody cdv A outer s H vs Q E hr hsp;exact⟨t, h.nox, q⟩
theorem Fun.binds{x qual : Aj}{st : Bb}{f : Ai}{fd : Bu}{ps : Ab Aj}(F : Fun K x qual st f fd)(h : ∀(kV doc pm : Ah)(an : Al Ai)(cdv ct : Ah)(us : Ab Ah), us.length = ps.length -> GY (CA x qual (GF st) (EM st) (Dk st) .none kV doc pm an cdv ct) ⟨us, []⟩ = pure (ps.zip us)) : EU K fd ps [] := by
 obtain⟨oc, od, kV, doc, pm, an, cdv, ct, osl, rfl, lk, hcd⟩ := F.ex;exact .all (h kV doc pm an cdv ct)
theorem Th{x qual : Aj}{st : Bb}{f : Ai}{oc : Ah}{od an : Al Ai}{osl : A6 (Al Ah)}{kV doc pm cdv ct : Ah}(l : K.lookup f = Aa ⟨oc, od, .func (CA x qual (GF st) (EM st) (Dk st) .none kV doc pm an cdv ct), osl⟩)(c : D7 K cdv qual = Ac)(k : Cd K (.ref f) = Ac) : Fun K x qual st f (CA x qual (GF st) (EM st) (Dk st) .none kV doc pm an cdv ct) := ⟨⟨oc, od, kV, doc, pm, an, cdv, ct, osl, rfl, l, c⟩, k⟩
end
section
variable{X : Cx}
end
noncomputable def As(H H' : Hp) : Prop := ∀ b o, H b = Aa o -> H' b = Aa o
theorem As.refl(H : Hp) : As H H := fun _ _ h => h
theorem As.trans{H H1 H2 : Hp}(a : As H H1)(b : As H1 H2) : As H H2 := fun c o h => b c o (a c o h)
theorem As.free{H H' : Hp}(e : As H H'){l : Ai}(h : H' l = Af) : H l = Af := by
 cases q : H l with
 |none => rfl
 |some o=>
  rw[e l o q]at h;cases h
end L2
section
namespace Ov
open PySem
variable{α β:Type}
inductive D where
 |non|bl (b : An)|int (i : Ae)|str (x : Aj)|tup (ds : Ab D)|lst (ds : Ab D)
 |obj (c : Ag) (fs : Ab (Aj × D))|exc (c : Ag) (fs : Ab (Aj × D))|dic (kvs : Ab (Ab Ae × D))
 deriving Inhabited
structure Ex where
 c : Ag
 fs : Ab (Aj × D)
 deriving Inhabited
inductive R (α : Type) where
 |ok (a : α)|exn (x : Ex)|bad
 deriving Inhabited
noncomputable def R.bind{α β : Type}(r : R α)(f : α -> R β) : R β := match r with
  |.ok a => f a
  |.exn x => .exn x
  |.bad => .bad
@[simp]theorem R.bind_ok(a : α)(f : α -> R β) : (R.ok a).bind f = f a := rfl
@[simp]theorem R.bind_exn(x : Ex)(f : α -> R β) : (R.exn x : R α).bind f = .exn x := rfl
@[simp]theorem R.bind_bad(f : α -> R β) : (R.bad : R α).bind f = .bad := rfl
theorem R.bind_assoc{γ:Type}(r : R α)(f : α -> R β)(g : β -> R γ) : (r.bind f).bind g = r.bind fun a => (f a).bind g := by cases r <;> rfl
noncomputable def B2(n : Ag) : An := C4 n 1000000
noncomputable def BG(i j : Ae) : An := (decide (-(18446744073709551616 : Ae)<i)&&decide (i<18446744073709551616))||(decide (-(18446744073709551616 : Ae)<j)&&decide (j<18446744073709551616))
noncomputable def FR(i j : Ae) : An := decide (i.natAbs<2 ^ 2000)&&decide (j.natAbs<2 ^ 2000)
noncomputable def BP : EI -> D -> D -> R D
 |.Add, .int i, .int j => .ok (.int (i+j))
 |.Sub, .int i, .int j => .ok (.int (i-j))
 |.Mult, .int i, .int j => if (BG i j||FR i j) = Ac then .ok (.int (i*j)) else .bad
 |.FloorDiv, .int i, .int j => if 0<j /\ j<1073741824 then .ok (.int (i / j)) else .bad
 |.Mod, .int i, .int j => if 0<j then .ok (.int (i%j)) else .bad
 |.Pow, .int i, .int j => if (0 <= j /\ j <= 1000000) /\ (-(18446744073709551616 : Ae)<i /\ i<18446744073709551616) then .ok (.int (i ^ j.toNat)) else .bad
 |.Add, .str x, .str y => if B2 (x.length+y.length) = Ac then .ok (.str (x++y)) else .bad
 |.Add, .lst x, .lst y => if B2 (x.length+y.length) = Ac then .ok (.lst (x++y)) else .bad
 |.Add, .tup x, .tup y => if (!x.isEmpty&&B2 (x.length+y.length)) = Ac then .ok (.tup (x++y)) else .bad
 |_, _, _ => .bad
noncomputable def unD : UnaryOp -> D -> R D
 |.USub, .int i => .ok (.int (-i))
 |_, _ => .bad
noncomputable def b2i(b : An) : Ae := if b = Ac then 1 else 0
mutual
noncomputable def eqD : D -> D -> An
 |.non, .non => Ac
 |.bl a, .bl b => a==b
 |.bl a, .int j => b2i a==j
 |.int i, .bl b => i==b2i b
 |.int i, .int j => i==j
 |.str x, .str y => x==y
 |.tup xs, .tup ys => eqDs xs ys
 |.lst xs, .lst ys => eqDs xs ys
 |_, _ => Ad
noncomputable def eqDs : Ab D -> Ab D -> An
 |[], [] => Ac
 |x::xs, y::ys => eqD x y&&eqDs xs ys
 |_, _ => Ad
end
noncomputable def flD : Ag -> D -> An
 |_, .non => Ac
 |_, .bl _ => Ac
 |_, .int _ => Ac
 |_, .str _ => Ac
 |n+1, .tup xs => xs.all (flD n)
 |n+1, .lst xs => xs.all (flD n)
 |_, _ => Ad
noncomputable def Cp : D -> Al (Ab Ae)
 |.tup ds => keyDs ds
 |_ => Af
where keyDs : Ab D -> Al (Ab Ae)
 |[] => Aa []
 |.int i::r => (keyDs r).map (i :: ·)
 |_ => Af
noncomputable def ltD : Ag -> D -> D -> An
 |0, .int i, .int j => decide (i<j)
 |n+1, .tup xs, .tup ys => ltDs (ltD n) xs ys
 |_, _, _ => Ad
where ltDs (lt : D -> D -> An) : Ab D -> Ab D -> An
 |[], [] => Ad
 |[], _::_ => Ac
 |_::_, [] => Ad
 |x::xs, y::ys => if eqD x y = Ac then ltDs lt xs ys else lt x y
noncomputable def rkD : Ag -> D -> An
 |0, .int _ => Ac
 |n+1, .tup xs => xs.all (rkD n)
 |_, _ => Ad
noncomputable def M4(lt : D -> D -> An)(x : D) : Ab D -> Ab D
 |[] => [x]
 |y::ys => if lt y x = Ac then y::M4 lt x ys else x::y::ys
noncomputable def Mr(lt : D -> D -> An) : Ab D -> Ab D
 |[] => []
 |x::xs => M4 lt x (Mr lt xs)
noncomputable def M1 : Ab D -> An
 |[] => Ac
 |x::xs => xs.all (fun y => !eqD x y)&&M1 xs
noncomputable def Nl : Ab D -> An
 |[] => Ac
 |[_] => Ac
 |x::y::r => ltD 1 x y&&Nl (y::r)
noncomputable def LK(xs : Ab D) : R (Ab D) := if (xs.all (fun d => rkD 1 d && !eqD d (.tup []))&&M1 xs&&(decide (xs.length<64)||(Nl xs&&decide (xs.length <= 1000)))) = Ac then .ok (Mr (ltD 1) xs) else .bad
noncomputable def Bg : CP -> D -> D -> R D
  |.Eq, x, y => if (flD 5 x&&flD 5 y) = Ac then .ok (.bl (eqD x y)) else .bad
  |.NotEq, x, y => if (flD 5 x&&flD 5 y) = Ac then .ok (.bl (!eqD x y)) else .bad
  |.Lt, .int i, .int j => .ok (.bl (decide (i<j)))
  |.LtE, .int i, .int j => .ok (.bl (decide (i <= j)))
  |.Gt, .int i, .int j => .ok (.bl (decide (j<i)))
  |.GtE, .int i, .int j => .ok (.bl (decide (j <= i)))
  |.In, x, .lst ys => if (flD 5 x&&ys.all (flD 5)) = Ac then .ok (.bl (ys.any fun y => eqD y x)) else .bad
  |.In, x, .dic kvs => match Cp x with
    |some k => .ok (.bl (kvs.any fun p => p.1==k))
    |none => .bad
  |.In, x, .tup ys => if (flD 5 x&&ys.all (flD 5)) = Ac then .ok (.bl (ys.any fun y => eqD y x)) else .bad
  |.NotIn, x, .lst ys => if (flD 5 x&&ys.all (flD 5)) = Ac then .ok (.bl (!ys.any fun y => eqD y x)) else .bad
  |.NotIn, x, .dic kvs => match Cp x with
    |some k => .ok (.bl (!kvs.any fun p => p.1==k))
    |none => .bad
  |.NotIn, x, .tup ys => if (flD 5 x&&ys.all (flD 5)) = Ac then .ok (.bl (!ys.any fun y => eqD y x)) else .bad
  |.Is, .non, .non => .ok (.bl Ac)
  |.Is, .bl _, .non => .ok (.bl Ad)
  |.Is, .int _, .non => .ok (.bl Ad)
  |.Is, .str _, .non => .ok (.bl Ad)
  |.Is, .tup _, .non => .ok (.bl Ad)
  |.Is, .lst _, .non => .ok (.bl Ad)
  |.Is, .obj _ _, .non => .ok (.bl Ad)
  |.Is, .bl a, .bl b => .ok (.bl (a==b))
  |.IsNot, .bl a, .bl b => .ok (.bl (!(a==b)))
  |.IsNot, .non, .non => .ok (.bl Ad)
  |.IsNot, .bl _, .non => .ok (.bl Ac)
  |.IsNot, .int _, .non => .ok (.bl Ac)
  |.IsNot, .str _, .non => .ok (.bl Ac)
  |.IsNot, .tup _, .non => .ok (.bl Ac)
  |.IsNot, .lst _, .non => .ok (.bl Ac)
  |.IsNot, .obj _ _, .non => .ok (.bl Ac)
  |_, _, _ => .bad
noncomputable def Bq : D -> R An
 |.non => .ok Ad
 |.bl b => .ok b
 |.int i => .ok (i != 0)
 |.str x => if B2 x.length = Ac then .ok (x.length != 0) else .bad
 |.tup xs => .ok (!xs.isEmpty)
 |.lst xs => .ok (!xs.isEmpty)
 |_ => .bad
noncomputable def plD(n : Ag)(i : Ae) : Al Ag := if 0 <= i then (if i<n then Aa i.toNat else Af) else if -(n : Ae) <= i then Aa (i+n).toNat else Af
noncomputable def CB(xs : Ab D)(i : Ae) : R D := match plD xs.length i with
  |some k => match xs[k]? with
    |some d => .ok d
    |none => .bad
  |none => .bad
noncomputable def Dq(kvs : Ab (Ab Ae × D))(k : Ab Ae) : Al D := (kvs.find? fun p => p.1==k).map (·.2)
noncomputable def DW(kvs : Ab (Ab Ae × D))(k : Ab Ae)(v : D) : Ab (Ab Ae × D) := if (kvs.any fun p => p.1==k) = Ac then kvs.map (fun p => if (p.1==k) = Ac then (k, v) else p) else kvs++[(k, v)]
noncomputable def JQ : D -> R (Ab (Ab Ae × D))
 |.dic kvs => .ok kvs
 |_ => .bad
noncomputable def C0(d : D) : R (Ab Ae) := match Cp d with
  |some k => .ok k
  |none => .bad
noncomputable def E6 : D -> D -> R D
  |.lst xs, .int i => CB xs i
  |.tup xs, .int i => CB xs i
  |.dic kvs, k => match (Cp k).bind (Dq kvs) with
    |some d => .ok d
    |none => .bad
  |_, _ => .bad
noncomputable def C1 : D -> R Ae
 |.int i => .ok i
 |_ => .bad
noncomputable def Cr : D -> R An
 |.bl b => .ok b
 |_ => .bad
noncomputable def Db : D -> R (Ab D)
 |.lst xs => .ok xs
 |.tup xs => .ok xs
 |_ => .bad
noncomputable def JO : D -> R (Ab D)
 |.lst xs => .ok xs
 |_ => .bad
inductive BI where
 |len|abs|max|min|int|list|tuple|all|any|sum|sorted|str|count|stp|lset|tmin|tmax|tlt|rvs
 deriving DecidableEq, Inhabited
inductive Ki where
 |int|bool|str|list|tuple|verr|cls (c : Ag)
 deriving DecidableEq, Inhabited
mutual
inductive E where
 |non|bl (b : An)|int (i : Ae)|str (x : Aj)
 |var (i : Ag)|glob (g : Ag)
 |bin (op : EI) (a b : E)|un (op : UnaryOp) (a : E)|no (a : E)
 |and (es : Es)|or (es : Es)
 |cmp (op : CP) (a b : E)|cmp2 (op op' : CP) (a b c : E)
 |ite (c a b : E)
 |call (f : Ag) (as : Es)|bi (b : BI) (as : Es)
 |isi (a : E) (ks : Ab Ki)
 |idx (a i : E)|sl (a lo hi : E)
 |tup (es : Es)|lst (es : Es)
 |comp (elt : E) (t : Ag) (it : I) (c : E)|compT (elt : E) (ts : Ab Ag) (it : I) (c : E)|tupI (it : I)
 /-- d.get(k, x) -/
 |dget (i : Ag) (k x : E)
 |fld (o : E) (f : Aj)
inductive Es where
 |nil|cons (e : E) (es : Es)
inductive I where
 |e (a : E)|rng (a : E)|rng2 (a b : E)|zip (a b : E)|zip3 (a b c : E)|enm (a : E)
end
noncomputable abbrev Sl := Al (D × An)
noncomputable abbrev Rho := Ab Sl
structure Gam where
 F : Ag -> Ab D -> R D
 G : Ag -> D
 up : Ag -> Ab Ag
 /-- the defs whose answer is a new list -/
 fr : Ag -> An
 /-- what is raised: the class, what it is made of -/
 xn : Ag -> Ab D -> R Ex
noncomputable def Dc(lo : Ae)(n : Ag) : Ab D := (B7 n).map fun(k : Ag) => D.int (lo+(k : Ae))
noncomputable def CF(lo hi : Ae) : R (Ab D) := if (-(4611686018427387904 : Ae) <= lo /\ lo<4611686018427387904) /\ (-(4611686018427387904 : Ae) <= hi /\ hi<4611686018427387904) /\ hi-lo<1000000 then .ok (Dc lo (hi-lo).toNat) else .bad
noncomputable def kiD(up : Ag -> Ab Ag) : Ki -> D -> An
 |.int, .int _ => Ac
 |.int, .bl _ => Ac
 |.bool, .bl _ => Ac
 |.str, .str _ => Ac
 |.list, .lst _ => Ac
 |.tuple, .tup _ => Ac
 |.cls c, .obj k _ => (up k).contains c
 |.cls c, .exc k _ => (up k).contains c
 |.verr, .exc _ _ => Ac
 |_, _ => Ad
noncomputable def Dd : Ki -> An
 |.cls _ => Ac
 |.verr => Ac
 |_ => Ad
noncomputable def EV(up : Ag -> Ab Ag)(ks : Ab Ki)(x : D) : R D := match x with
  |.obj _ _ => .bad
  |.exc _ _ => if ks.all Dd = Ac then .ok (.bl (ks.any fun k => kiD up k x)) else .bad
  |.dic _ => .bad
  |_ => if ks.any Dd = Ac then .bad else .ok (.bl (ks.any fun k => kiD up k x))
noncomputable def D1 : D -> R An
 |.non => .ok Ad
 |.bl b => .ok b
 |.int i => .ok (i != 0)
 |_ => .bad
noncomputable def Et : Ab D -> R An
 |[] => .ok Ac
 |x::r => (D1 x).bind fun b => (Et r).bind fun c => .ok (b&&c)
noncomputable def FS : Ab D -> R An
 |[] => .ok Ad
 |x::r => (D1 x).bind fun b => (FS r).bind fun c => .ok (b||c)
noncomputable def Hk : Ae -> Ab D -> R Ae
 |a, [] => .ok a
 |a, .int i::r => Hk (a+i) r
 |_, _ => .bad
noncomputable def JV : Ab D -> Ab D -> Ab D
 |x::xs, y::ys => .tup [x, y]::JV xs ys
 |_, _ => []
noncomputable def Mt : Ab D -> Ab D -> Ab D -> Ab D
 |x::xs, y::ys, z::zs => .tup [x, y, z]::Mt xs ys zs
 |_, _, _ => []
noncomputable def Ms(x y z : D) : R (Ab D) := (Db x).bind fun xs => (Db y).bind fun ys => (Db z).bind fun zs => if 0<xs.length /\ xs.length <= 1000 /\ ys.length = xs.length /\ zs.length = xs.length then .ok (Mt xs ys zs) else .bad
noncomputable def J9 : Ae -> Ab D -> Ab D
 |_, [] => []
 |i, x::xs => .tup [.int i, x]::J9 (i+1) xs
noncomputable def nlD : Ag -> D -> An
 |_, .non => Ac
 |_, .bl _ => Ac
 |_, .int _ => Ac
 |_, .str _ => Ac
 |n+1, .tup xs => xs.all (nlD n)
 |_, _ => Ad
noncomputable def GN(fr : An) : D -> An
 |.lst ds => fr&&ds.all (nlD 5)
 |d => nlD 5 d
noncomputable def FT : Ab D -> Al (Ab Ae)
 |[] => Aa []
 |.int i::r => (FT r).map (i :: ·)
 |_ => Af
noncomputable def E5(i : Ae) : Ab Ae -> Ae
 |[] => i
 |j::r => E5 (if j<i then j else i) r
noncomputable def pk2(k n : Ag) : Ab Ag := (B7 ((n-min k n+1) / 2)).map fun j => min k n+2*j
noncomputable def Nd(k : Ag)(xs : Ab D) : Ab D := (pk2 k xs.length).filterMap fun i => xs[i]?
noncomputable def ddS(acc : Ab Ae)(x : Ae) : Ab Ae := if acc.any (· == x) = Ac then acc else acc++[x]
noncomputable def ddN(is : Ab Ae) : Ag := (is.foldl ddS []).length
noncomputable def MD(xs : Ab D) : R D := match FT xs with
  |some is => if C4 is.length 4000 = Ac then .ok (.int (ddN is)) else .bad
  |none => .bad
noncomputable def mmD(mx : An)(x y : D) : R D := if [x, y].all (fun d => rkD 1 d && !eqD d (.tup [])) = Ac then .ok (if (if mx = Ac then ltD 1 x y else ltD 1 y x) = Ac then y else x) else .bad
noncomputable def M9(x y : D) : R D := if [x, y].all (fun d => rkD 1 d && !eqD d (.tup [])) = Ac then .ok (.bl (ltD 1 x y)) else .bad
noncomputable def biD : BI -> Ab D -> R D
  |.len, [.lst xs] => .ok (.int xs.length)
  |.len, [.tup xs] => .ok (.int xs.length)
  |.len, [.str x] => if B2 x.length = Ac then .ok (.int x.length) else .bad
  |.abs, [.int i] => .ok (.int (if i<0 then -i else i))
  |.max, [.int i, .int j] => .ok (.int (if i<j then j else i))
  |.min, [.int i, .int j] => .ok (.int (if j<i then j else i))
  |.min, [.lst xs] => match FT xs with
    |some (i::is) => .ok (.int (E5 i is))
    |_ => .bad
  |.int, [.int i] => .ok (.int i)
  |.int, [.bl b] => .ok (.int (b2i b))
  |.list, [.lst xs] => .ok (.lst xs)
  |.list, [.tup xs] => .ok (.lst xs)
  |.tuple, [.lst xs] => .ok (.tup xs)
  |.tuple, [.tup xs] => .ok (.tup xs)
  |.all, [.lst xs] => (Et xs).bind fun b => .ok (.bl b)
  |.any, [.lst xs] => (FS xs).bind fun b => .ok (.bl b)
  |.any, [.tup xs] => (FS xs).bind fun b => .ok (.bl b)
  |.sum, [.lst xs] => (Hk 0 xs).bind fun i => .ok (.int i)
  |.sum, [.tup xs] => (Hk 0 xs).bind fun i => .ok (.int i)
  |.sorted, [.lst xs] => (LK xs).bind fun ys => .ok (.lst ys)
  |.count, [.lst xs, x] => if (flD 5 x&&xs.all (flD 5)) = Ac then .ok (.int ((xs.filter fun y => eqD y x).length : Ag)) else .bad
  |.len, [.dic kvs] => if B2 kvs.length = Ac then .ok (.int kvs.length) else .bad
  |.stp, [.lst xs, .int k] => .ok (.lst (Nd k.toNat xs))
  |.lset, [.lst xs] => MD xs
  |.tmin, [x, y] => mmD Ad x y
  |.tmax, [x, y] => mmD Ac x y
  |.tlt, [x, y] => M9 x y
  |.rvs, [.lst xs] => .ok (.lst xs.reverse)
  |_, _ => .bad
noncomputable def slE(c : E)(d : D) : R (Al Ae) := match c with
  |.non => .ok Af
  |_ => (C1 d).bind fun i => .ok (Aa i)
noncomputable def Fv(n d : Ag) : Al Ae -> Ag
 |none => d
 |some i => if i<0 then (i+n).toNat else min i.toNat n
noncomputable def GM(xs : Ab D)(lo hi : Al Ae) : Ab D := (xs.drop (Fv xs.length 0 lo)).take (Fv xs.length xs.length hi-Fv xs.length 0 lo)
noncomputable def slD : D -> Al Ae -> Al Ae -> R D
 |.lst xs, l, h => .ok (.lst (GM xs l h))
 |.tup xs, l, h => if (Fv xs.length 0 l==0&&Fv xs.length xs.length h==xs.length) = Ac then .bad else .ok (.tup (GM xs l h))
 |_, _, _ => .bad
noncomputable def MS : D -> Aj -> R D
  |.exc _ fs, f => match fs.lookup f with
    |some d => .ok d
    |none => .bad
  |_, _ => .bad
noncomputable def Ds(ρ : Rho)(i : Ag) : R D := match ρ[i]? with
  |some (Aa (d, Ad)) => .ok d
  |_ => .bad
noncomputable def Bf(ρ : Rho)(i : Ag) : R D := match ρ[i]? with
  |some (Aa (d, _)) => .ok d
  |_ => .bad
noncomputable def shE(ρ : Rho) : E -> An
  | .var i => (match ρ[i]? with
    |some (Aa (_, Ac)) => Ad
    | _ => Ac)
  |_ => Ac
noncomputable def FW(ρ : Rho) : Es -> An
 |.nil => Ac
 |.cons e es => shE ρ e&&FW ρ es
noncomputable def Eo : Ab Ag -> Ab D -> Rho -> Al Rho
 |[], [], ρ => Aa ρ
 |t::ts, d::ds, ρ => Eo ts ds (ρ.set t (Aa (d, Ad)))
 |_, _, _ => Af
noncomputable def Ep(ts : Ab Ag)(d : D)(ρ : Rho) : R Rho := match d with
  | .tup xs => (match Eo ts xs ρ with
    |some ρ' => .ok ρ'
    | none => .bad)
  |_ => .bad
noncomputable def Ib(ts : Ab Ag)(d : D)(ρ : Rho) : R Rho := match d with
  | .lst xs => (match Eo ts xs ρ with
    |some ρ' => .ok ρ'
    | none => .bad)
  |d => Ep ts d ρ
noncomputable def Br(g : D -> R An)(f : D -> R D) : Ab D -> R (Ab D)
 |[] => .ok []
 |x::xs => (g x).bind fun b => if b = Ac then (f x).bind fun y => (Br g f xs).bind fun ys => .ok (y::ys) else Br g f xs
noncomputable def noX{α : Type} : R α -> R α
 |.ok a => .ok a
 |_ => .bad
noncomputable def top(ρ : Rho)(e : E)(r : R D) : R D := match e with
  |.var i => Bf ρ i
  |_ => r
mutual
noncomputable def evE(Γ : Gam)(ρ : Rho) : E -> R D
 |.non => .ok .non
 |.bl b => .ok (.bl b)
 |.int i => .ok (.int i)
 |.str x => .ok (.str x)
 |.var i => Ds ρ i
 |.glob g => .ok (Γ.G g)
 |.bin op a b => (top ρ a (evE Γ ρ a)).bind fun x => (top ρ b (evE Γ ρ b)).bind fun y => BP op x y
 |.un op a => (top ρ a (evE Γ ρ a)).bind fun x => unD op x
 |.no a => (top ρ a (evE Γ ρ a)).bind fun x => (Cr x).bind fun b => .ok (.bl (!b))
 |.and es => evN Γ ρ es
 |.or es => evO Γ ρ es
 |.cmp op a b => (top ρ a (evE Γ ρ a)).bind fun x => (top ρ b (evE Γ ρ b)).bind fun y => Bg op x y
 |.cmp2 op op' a b c => (top ρ a (evE Γ ρ a)).bind fun x => (top ρ b (evE Γ ρ b)).bind fun y => (Bg op x y).bind fun z => (Cr z).bind fun k => if k = Ac then (top ρ c (evE Γ ρ c)).bind fun u => Bg op' y u else .ok (.bl Ad)
 |.ite c a b => (top ρ c (evE Γ ρ c)).bind fun x => (Bq x).bind fun k => if k = Ac then evE Γ ρ a else evE Γ ρ b
 |.call f as => (evB Γ ρ as).bind fun xs => (Γ.F f xs).bind fun d => if FW ρ as = Ac then .ok d else if GN (Γ.fr f) d = Ac then .ok d else .bad
 |.bi b as => (evB Γ ρ as).bind fun xs => biD b xs
 |.isi a ks => (top ρ a (evE Γ ρ a)).bind fun x => EV Γ.up ks x
 |.idx a i => (top ρ a (evE Γ ρ a)).bind fun x => (top ρ i (evE Γ ρ i)).bind fun y => E6 x y
 |.sl a lo hi => (top ρ a (evE Γ ρ a)).bind fun x => (top ρ lo (evE Γ ρ lo)).bind fun l => (slE lo l).bind fun l' => (top ρ hi (evE Γ ρ hi)).bind fun h => (slE hi h).bind fun h' => slD x l' h'
 |.tup es => (evA Γ ρ es).bind fun xs => .ok (.tup xs)
 |.lst es => (evA Γ ρ es).bind fun xs => .ok (.lst xs)
 |.comp elt t it c => (evI Γ ρ it).bind fun xs => (noX (Br (fun x => (top (ρ.set t (Aa (x, Ad))) c (evE Γ (ρ.set t (Aa (x, Ad))) c)).bind Bq) (fun x => evE Γ (ρ.set t (Aa (x, Ad))) elt) xs)).bind fun ys => .ok (.lst ys)
 |.compT elt ts it c => (evI Γ ρ it).bind fun xs => (noX (Br (fun x => (Ep ts x ρ).bind fun ρ' => (top ρ' c (evE Γ ρ' c)).bind Bq) (fun x => (Ep ts x ρ).bind fun ρ' => evE Γ ρ' elt) xs)).bind fun ys => .ok (.lst ys)
 |.tupI it => (evI Γ ρ it).bind fun xs => .ok (.tup xs)
 |.dget i k x => (Bf ρ i).bind fun d => (JQ d).bind fun kvs => (top ρ k (evE Γ ρ k)).bind fun a => (C0 a).bind fun j => (evE Γ ρ x).bind fun y => .ok ((Dq kvs j).getD y)
 |.fld o f => (top ρ o (evE Γ ρ o)).bind fun x => MS x f
noncomputable def evN(Γ : Gam)(ρ : Rho) : Es -> R D
 |.nil => .bad
 |.cons e .nil => evE Γ ρ e
 |.cons e (.cons e' es) => (evE Γ ρ e).bind fun x => (Cr x).bind fun c => if c = Ac then evN Γ ρ (.cons e' es) else .ok (.bl Ad)
noncomputable def evO(Γ : Gam)(ρ : Rho) : Es -> R D
 |.nil => .bad
 |.cons e .nil => evE Γ ρ e
 |.cons e (.cons e' es) => (evE Γ ρ e).bind fun x => (Cr x).bind fun c => if c = Ac then .ok (.bl Ac) else evO Γ ρ (.cons e' es)
noncomputable def evA(Γ : Gam)(ρ : Rho) : Es -> R (Ab D)
 |.nil => .ok []
 |.cons e es => (evE Γ ρ e).bind fun x => (evA Γ ρ es).bind fun xs => .ok (x::xs)
noncomputable def evB(Γ : Gam)(ρ : Rho) : Es -> R (Ab D)
 |.nil => .ok []
 |.cons e es => (top ρ e (evE Γ ρ e)).bind fun x => (evB Γ ρ es).bind fun xs => .ok (x::xs)
noncomputable def evI(Γ : Gam)(ρ : Rho) : I -> R (Ab D)
 |.e a => (evE Γ ρ a).bind Db
 |.rng a => (top ρ a (evE Γ ρ a)).bind fun x => (C1 x).bind fun j => CF 0 j
 |.rng2 a b => (top ρ a (evE Γ ρ a)).bind fun x => (top ρ b (evE Γ ρ b)).bind fun y => (C1 x).bind fun i => (C1 y).bind fun j => CF i j
 |.zip a b => (evE Γ ρ a).bind fun x => (evE Γ ρ b).bind fun y => (Db x).bind fun xs => (Db y).bind fun ys => .ok (JV xs ys)
 |.zip3 a b c => (evE Γ ρ a).bind fun x => (evE Γ ρ b).bind fun y => (evE Γ ρ c).bind fun z => Ms x y z
 |.enm a => (evE Γ ρ a).bind fun x => (Db x).bind fun xs => .ok (J9 0 xs)
end
noncomputable def Du(Γ : Gam) : E -> An
 |.lst _ => Ac
 |.comp _ _ _ _ => Ac
 |.compT _ _ _ _ => Ac
 |.bin .Add _ _ => Ac
 |.bi .list _ => Ac
 |.bi .sorted _ => Ac
 |.sl _ _ _ => Ac
 |.call f _ => Γ.fr f
 |_ => Ad
mutual
inductive S where
 |pass
 /-- x = e;fresh: x alone holds the new list -/
 |asg (i : Ag) (fresh : An) (e : E)
 /-- a, b, .. = e -/
 |asgT (ts : Ab Ag) (e : E)
 |expr (e : E)
 |ret (e : E)|retN
 |ife (c : E) (a b : Ss)
 |fors (t : Ag) (it : I) (body : Ss)
 |forT (ts : Ab Ag) (it : I) (body : Ss)
 |whl (c : E) (body : Ss)
 /-- raise C(e, ..) -/
 |rais (c : Ag) (as : Es)
 /-- try: body except C as x: h -/
 |tryx (body : Ss) (c : Ag) (x : Ag) (h : Ss)
 /-- .. except C as x: h, except C' as x: h', else: els -/
 |try2 (body : Ss) (c : Ag) (x : Ag) (h : Ss) (c' : Ag) (h' els : Ss)
 /-- x.append(e), x.extend(e), x.insert(k, e), x.reverse(), x.clear() -/
 |app (i : Ag) (e : E)|ext (i : Ag) (e : E)|ins (i : Ag) (k e : E)|rev (i : Ag)|clr (i : Ag)
 /-- d = {}, d[k] = e, d.setdefault(k, e) -/
 |dnw (i : Ag)|dput (i : Ag) (k e : E)|dsd (i : Ag) (k e : E)
 /-- x[k] = e -/
 |put (i : Ag) (k e : E)
 /-- x[k], x[l] = x[l], x[k] -/
 |swp (i k l : Ag)
 /-- x.append(y.pop(e)) -/
 |apop (j i : Ag) (e : E)
 |brk|cont
 /-- nothing: from here on x is no longer changed -/
 |rel (i : Ag)
inductive Ss where
 |nil|cons (s : S) (ss : Ss)
end
inductive O where
 |next (ρ : Rho)|ret (d : D) (fr : An)|brk (ρ : Rho)|cont (ρ : Rho)|exn (x : Ex) (ρ : Rho)|bad
 deriving Inhabited
noncomputable def O.of{α : Type}(ρ : Rho)(r : R α)(f : α -> O) : O := match r with
  |.ok a => f a
  |.exn x => .exn x ρ
  |.bad => .bad
@[simp]theorem O.of_ok(ρ : Rho)(a : α)(f : α -> O) : O.of ρ (.ok a) f = f a := rfl
@[simp]theorem O.of_exn(ρ : Rho)(x : Ex)(f : α -> O) : O.of ρ (.exn x : R α) f = .exn x ρ := rfl
@[simp]theorem O.of_bad(ρ : Rho)(f : α -> O) : O.of ρ (.bad : R α) f = .bad := rfl
noncomputable def E7(Γ : Gam)(ρ : Rho)(i : I) : R (Ab D) := evI Γ ρ i
noncomputable def CC(ρ : Rho)(i : Ag) : R (Ab D) := match ρ[i]? with
  |some (Aa (.lst xs, Ac)) => .ok xs
  |_ => .bad
noncomputable def Eb(ρ : Rho)(i : Ag) : R (Ab (Ab Ae × D)) := match ρ[i]? with
  |some (Aa (.dic xs, Ac)) => .ok xs
  |_ => .bad
noncomputable def Mw : Ag := 4096
noncomputable def O.seq(o : O)(f : Rho -> O) : O := match o with
  |.next ρ => f ρ
  |.ret d b => .ret d b
  |.brk ρ => .brk ρ
  |.cont ρ => .cont ρ
  |.exn x ρ => .exn x ρ
  |.bad => .bad
noncomputable def O.turn(o : O)(f : Rho -> O) : O := match o with
  |.next ρ => f ρ
  |.cont ρ => f ρ
  |.brk ρ => .next ρ
  |.ret d b => .ret d b
  |.exn x ρ => .exn x ρ
  |.bad => .bad
noncomputable def CG(body : D -> Rho -> O) : Ab D -> Rho -> O
 |[], ρ => .next ρ
 |x::xs, ρ => (body x ρ).turn (CG body xs)
noncomputable def JX(c : Rho -> R An)(body : Rho -> O) : Ag -> Rho -> O
 |0, _ => .bad
 |n+1, ρ => O.of ρ (c ρ) fun b => if b = Ac then (body ρ).turn (JX c body n) else .next ρ
noncomputable def MF(ρ : Rho)(k : Ag) : R Ae := (Ds ρ k).bind C1
noncomputable def WO(ρ : Rho)(d : D)(i k l : Ag) : O := match d with
  |.tup [x, y] => O.of ρ (CC ρ i) fun xs => O.of ρ (MF ρ k) fun a => O.of ρ (MF ρ l) fun b => match plD xs.length a, plD xs.length b with
    |some m, Aa n => .next (ρ.set i (Aa (.lst ((xs.set m x).set n y), Ac)))
    |_, _ => .bad
  |_ => .bad
noncomputable def apD(ρ : Rho)(j i : Ag)(ys xs : Ab D)(n : Ae) : O := match plD xs.length n with
  | some m => (match xs[m]? with
    |some d => if (j != i&&(B2 xs.length&&B2 (ys.length+1))) = Ac then .next ((ρ.set i (Aa (.lst (xs.eraseIdx m), Ac))).set j (Aa (.lst (ys++[d]), Ac))) else .bad
    | none => .bad)
  |none => .bad
noncomputable def hdO(i : Ag)(y : Ex)(ρ' : Rho)(fh : Rho -> O) : O := match fh (ρ'.set i (Aa (.exc y.c y.fs, Ad))) with
  |.next ρ'' => .next (ρ''.set i Af)
  |.ret d f => .ret d f
  |_ => .bad
mutual
noncomputable def evS(Γ : Gam)(ρ : Rho) : S -> O
  |.pass => .next ρ
  | .asg i fresh e => O.of ρ (evE Γ ρ e) fun d => if fresh = Ac then (if Du Γ e = Ac then (match d with
      |.lst xs => .next (ρ.set i (Aa (.lst xs, Ac)))
      | _ => .bad) else .bad) else .next (ρ.set i (Aa (d, Ad)))
  |.asgT ts e => O.of ρ (evE Γ ρ e) fun d => O.of ρ (Ib ts d ρ) fun ρ' => .next ρ'
  |.expr e => O.of ρ (evE Γ ρ e) fun _ => .next ρ
  |.ret e => O.of ρ (top ρ e (evE Γ ρ e)) fun d => .ret d (Du Γ e||(match e with | .var i => (match ρ[i]? with|some (Aa (_, o)) => o|_ => Ad)|_ => Ad))
  |.retN => .ret .non Ad
  |.ife c a b => O.of ρ ((top ρ c (evE Γ ρ c)).bind Bq) fun k => if k = Ac then evSs Γ ρ a else evSs Γ ρ b
  |.fors t it body => O.of ρ (E7 Γ ρ it) fun xs => CG (fun x ρ' => evSs Γ (ρ'.set t (Aa (x, Ad))) body) xs ρ
  |.forT ts it body => O.of ρ (E7 Γ ρ it) fun xs => CG (fun x ρ' => O.of ρ' (Ep ts x ρ') fun ρ'' => evSs Γ ρ'' body) xs ρ
  |.whl c body => JX (fun ρ' => (top ρ' c (evE Γ ρ' c)).bind Bq) (fun ρ' => evSs Γ ρ' body) Mw ρ
  |.rais c as => O.of ρ (noX (evA Γ ρ as)) fun xs => O.of ρ (Γ.xn c xs) fun x => .exn x ρ
  |.tryx body c x h => match evSs Γ ρ body with
      | .exn y ρ' => if (Γ.up y.c).contains c = Ac then (match evSs Γ (ρ'.set x (Aa (.exc y.c y.fs, Ad))) h with
          |.next ρ'' => .next (ρ''.set x Af)
          |.ret d f => .ret d f
          | _ => .bad) else .bad
      |o => o
  |.try2 body c x h c' h' els => match evSs Γ ρ body with
      |.exn y ρ' => if (Γ.up y.c).contains c = Ac then hdO x y ρ' (fun r => evSs Γ r h) else if (Γ.up y.c).contains c' = Ac then hdO x y ρ' (fun r => evSs Γ r h') else .bad
      |.next ρ' => evSs Γ ρ' els
      |o => o
  |.app i e => O.of ρ (CC ρ i) fun xs => O.of ρ (evE Γ ρ e) fun d => if B2 (xs.length+1) = Ac then .next (ρ.set i (Aa (.lst (xs++[d]), Ac))) else .bad
  |.ext i e => O.of ρ (CC ρ i) fun xs => O.of ρ (evE Γ ρ e) fun d => O.of ρ (JO d) fun ys => if B2 (xs.length+ys.length) = Ac then .next (ρ.set i (Aa (.lst (xs++ys), Ac))) else .bad
  |.ins i k e => O.of ρ (CC ρ i) fun xs => O.of ρ ((top ρ k (evE Γ ρ k)).bind C1) fun j => O.of ρ (evE Γ ρ e) fun d => if (B2 (xs.length+1)&&decide (0 <= j)&&decide (j <= xs.length)) = Ac then .next (ρ.set i (Aa (.lst (xs.take j.toNat++d::xs.drop j.toNat), Ac))) else .bad
  |.rev i => O.of ρ (CC ρ i) fun xs => .next (ρ.set i (Aa (.lst xs.reverse, Ac)))
  |.clr i => O.of ρ (CC ρ i) fun _ => .next (ρ.set i (Aa (.lst [], Ac)))
  |.dnw i => .next (ρ.set i (Aa (.dic [], Ac)))
  |.dput i k e => O.of ρ (evE Γ ρ e) fun d => O.of ρ (Eb ρ i) fun xs => O.of ρ ((top ρ k (evE Γ ρ k)).bind C0) fun j => if B2 (xs.length+1) = Ac then .next (ρ.set i (Aa (.dic (DW xs j d), Ac))) else .bad
  |.dsd i k e => O.of ρ (Eb ρ i) fun xs => O.of ρ ((top ρ k (evE Γ ρ k)).bind C0) fun j => O.of ρ (evE Γ ρ e) fun d => if B2 (xs.length+1) = Ac then .next (ρ.set i (Aa (.dic (if (xs.any fun p => p.1==j) = Ac then xs else DW xs j d), Ac))) else .bad
  |.put i k e => O.of ρ (evE Γ ρ e) fun d => O.of ρ (CC ρ i) fun xs => O.of ρ ((top ρ k (evE Γ ρ k)).bind C1) fun j => match plD xs.length j with
      |some n => .next (ρ.set i (Aa (.lst (xs.set n d), Ac)))
      |none => .bad
  |.swp i k l => O.of ρ (evE Γ ρ (.tup (.cons (.idx (.var i) (.var l)) (.cons (.idx (.var i) (.var k)) .nil)))) fun d => WO ρ d i k l
  |.apop j i e => O.of ρ (CC ρ j) fun ys => O.of ρ (CC ρ i) fun xs => O.of ρ (evE Γ ρ e) fun d => O.of ρ (C1 d) fun n => apD ρ j i ys xs n
  |.brk => .brk ρ
  |.cont => .cont ρ
  |.rel i => match ρ[i]? with
      |some (Aa (d, Ac)) => .next (ρ.set i (Aa (d, Ad)))
      |_ => .next ρ
noncomputable def evSs(Γ : Gam)(ρ : Rho) : Ss -> O
 |.nil => .next ρ
 |.cons s ss => (evS Γ ρ s).seq fun ρ' => evSs Γ ρ' ss
end
structure Df where
 n : Ag
 fr : An
 body : Ss
noncomputable def BY(n : Ag)(ds : Ab D) : Rho := ds.map (fun d => Aa (d, Ad))++D5 (n-ds.length) Af
noncomputable def isL : D -> An
 |.lst _ => Ac
 |.dic _ => Ac
 |_ => Ad
noncomputable def O.ans(fr : An)(o : O) : R D := match o with
  |.ret d b => if (fr&&(!b&&isL d)) = Ac then .bad else .ok d
  |.next _ => if fr = Ac then .bad else .ok .non
  |.exn x _ => .exn x
  |_ => .bad
noncomputable def Df.run(Γ : Gam)(f : Df)(ds : Ab D) : R D := (evSs Γ (BY f.n ds) f.body).ans f.fr
structure Prg where
 xs : An
 defs : Ag -> Df
 G : Ag -> D
 up : Ag -> Ab Ag
 xn : Ag -> Ab D -> R Ex
noncomputable def DY(xs : An)(r : R D) : R D := match xs with
  |true => r
  |false => noX r
noncomputable def gam(P : Prg) : Ag -> Gam
 |0 => ⟨fun _ _ => .bad, P.G, P.up, fun i => (P.defs i).fr, P.xn⟩
 |n+1 => ⟨fun i ds => DY P.xs ((P.defs i).run (gam P n) ds), P.G, P.up, fun i => (P.defs i).fr, P.xn⟩
end Ov
end
section
namespace Ov
open PySem
variable{α β:Type}{lo hi:Ae}{n:Ag}{x:D}
section
variable(Γ : Gam)(ρ : Rho)
@[simp]theorem Zrj : evE Γ ρ .non = .ok .non := rfl
@[simp]theorem Ztf(b) : evE Γ ρ (.bl b) = .ok (.bl b) := rfl
@[simp]theorem Zrn(b) : evE Γ ρ (.int b) = .ok (.int b) := rfl
@[simp]theorem Zri(b) : evE Γ ρ (.str b) = .ok (.str b) := rfl
@[simp]theorem Zrg(i) : evE Γ ρ (.var i) = Ds ρ i := rfl
@[simp]theorem Zn5(i) : evE Γ ρ (.glob i) = .ok (Γ.G i) := rfl
@[simp]theorem Zrr(op a b) : evE Γ ρ (.bin op a b) = (top ρ a (evE Γ ρ a)).bind fun x => (top ρ b (evE Γ ρ b)).bind fun y => BP op x y := rfl
@[simp]theorem Ztb(op a) : evE Γ ρ (.un op a) = (top ρ a (evE Γ ρ a)).bind fun x => unD op x := rfl
@[simp]theorem Zte(a) : evE Γ ρ (.no a) = (top ρ a (evE Γ ρ a)).bind fun x => (Cr x).bind fun b => .ok (.bl (!b)) := rfl
@[simp]theorem Zrs(es) : evE Γ ρ (.and es) = evN Γ ρ es := rfl
@[simp]theorem Ztd(es) : evE Γ ρ (.or es) = evO Γ ρ es := rfl
@[simp]theorem Zrc(e) : evN Γ ρ (.cons e .nil) = evE Γ ρ e := rfl
@[simp]theorem ZnY(e e' es) : evN Γ ρ (.cons e (.cons e' es)) = (evE Γ ρ e).bind fun x => (Cr x).bind fun c => if c = Ac then evN Γ ρ (.cons e' es) else .ok (.bl Ad) := rfl
@[simp]theorem Zrb(e) : evO Γ ρ (.cons e .nil) = evE Γ ρ e := rfl
@[simp]theorem ZnX(e e' es) : evO Γ ρ (.cons e (.cons e' es)) = (evE Γ ρ e).bind fun x => (Cr x).bind fun c => if c = Ac then .ok (.bl Ac) else evO Γ ρ (.cons e' es) := rfl
@[simp]theorem Zrq(op a b) : evE Γ ρ (.cmp op a b) = (top ρ a (evE Γ ρ a)).bind fun x => (top ρ b (evE Γ ρ b)).bind fun y => Bg op x y := rfl
@[simp]theorem Zn8(op op' a b c) : evE Γ ρ (.cmp2 op op' a b c) = (top ρ a (evE Γ ρ a)).bind fun x => (top ρ b (evE Γ ρ b)).bind fun y => (Bg op x y).bind fun z => (Cr z).bind fun k => if k = Ac then (top ρ c (evE Γ ρ c)).bind fun u => Bg op' y u else .ok (.bl Ad) := rfl
@[simp]theorem Zrl(c a b) : evE Γ ρ (.ite c a b) = (top ρ c (evE Γ ρ c)).bind fun x => (Bq x).bind fun k => if k = Ac then evE Γ ρ a else evE Γ ρ b := rfl
@[simp]theorem Zn9(f as) : evE Γ ρ (.call f as) = (evB Γ ρ as).bind fun xs => (Γ.F f xs).bind fun d => if FW ρ as = Ac then .ok d else if GN (Γ.fr f) d = Ac then .ok d else .bad := rfl
@[simp]theorem Ztg(f as) : evE Γ ρ (.bi f as) = (evB Γ ρ as).bind fun xs => biD f xs := rfl
@[simp]theorem Zrm(a ks) : evE Γ ρ (.isi a ks) = (top ρ a (evE Γ ρ a)).bind fun x => EV Γ.up ks x := rfl
@[simp]theorem Zro(a i) : evE Γ ρ (.idx a i) = (top ρ a (evE Γ ρ a)).bind fun x => (top ρ i (evE Γ ρ i)).bind fun y => E6 x y := rfl
@[simp]theorem Ztc(a lo hi) : evE Γ ρ (.sl a lo hi) = (top ρ a (evE Γ ρ a)).bind fun x => (top ρ lo (evE Γ ρ lo)).bind fun l => (slE lo l).bind fun l' => (top ρ hi (evE Γ ρ hi)).bind fun h => (slE hi h).bind fun h' => slD x l' h' := rfl
@[simp]theorem Zrh(es) : evE Γ ρ (.tup es) = (evA Γ ρ es).bind fun xs => .ok (.tup xs) := rfl
@[simp]theorem Zrk(es) : evE Γ ρ (.lst es) = (evA Γ ρ es).bind fun xs => .ok (.lst xs) := rfl
noncomputable def cG(Γ : Gam)(ρ : Rho)(t : Ag)(c : E) : D -> R An := fun x => (top (ρ.set t (Aa (x, Ad))) c (evE Γ (ρ.set t (Aa (x, Ad))) c)).bind Bq
noncomputable def cF(Γ : Gam)(ρ : Rho)(t : Ag)(elt : E) : D -> R D := fun x => evE Γ (ρ.set t (Aa (x, Ad))) elt
noncomputable def mkL(r : R (Ab D)) : R D := (noX r).bind fun ys => .ok (.lst ys)
@[simp]theorem ZsL(ys) : mkL (.ok ys) = .ok (.lst ys) := rfl
@[simp]theorem Zn7(elt t it c) : evE Γ ρ (.comp elt t it c) = (evI Γ ρ it).bind fun xs => mkL (Br (cG Γ ρ t c) (cF Γ ρ t elt) xs) := rfl
noncomputable def cGT(Γ : Gam)(ρ : Rho)(ts : Ab Ag)(c : E) : D -> R An := fun x => (Ep ts x ρ).bind fun ρ' => (top ρ' c (evE Γ ρ' c)).bind Bq
noncomputable def cFT(Γ : Gam)(ρ : Rho)(ts : Ab Ag)(elt : E) : D -> R D := fun x => (Ep ts x ρ).bind fun ρ' => evE Γ ρ' elt
@[simp]theorem Zmh(elt ts it c) : evE Γ ρ (.compT elt ts it c) = (evI Γ ρ it).bind fun xs => mkL (Br (cGT Γ ρ ts c) (cFT Γ ρ ts elt) xs) := rfl
@[simp]theorem Zn4(it) : evE Γ ρ (.tupI it) = (evI Γ ρ it).bind fun xs => .ok (.tup xs) := rfl
@[simp]theorem Zn6(i k x) : evE Γ ρ (.dget i k x) = (Bf ρ i).bind fun d => (JQ d).bind fun kvs => (top ρ k (evE Γ ρ k)).bind fun a => (C0 a).bind fun j => (evE Γ ρ x).bind fun y => .ok ((Dq kvs j).getD y) := rfl
@[simp]theorem Zrp(o f) : evE Γ ρ (.fld o f) = (top ρ o (evE Γ ρ o)).bind fun x => MS x f := rfl
@[simp]theorem Zru : evA Γ ρ .nil = .ok [] := rfl
@[simp]theorem Lj(e es) : evA Γ ρ (.cons e es) = (evE Γ ρ e).bind fun x => (evA Γ ρ es).bind fun xs => .ok (x::xs) := rfl
@[simp]theorem Zrt : evB Γ ρ .nil = .ok [] := rfl
@[simp]theorem Li(e es) : evB Γ ρ (.cons e es) = (top ρ e (evE Γ ρ e)).bind fun x => (evB Γ ρ es).bind fun xs => .ok (x::xs) := rfl
@[simp]theorem Zt8(a) : evI Γ ρ (.e a) = (evE Γ ρ a).bind Db := rfl
@[simp]theorem Zre(a) : evI Γ ρ (.rng a) = (top ρ a (evE Γ ρ a)).bind fun x => (C1 x).bind fun j => CF 0 j := rfl
@[simp]theorem Zn3(a b) : evI Γ ρ (.rng2 a b) = (top ρ a (evE Γ ρ a)).bind fun x => (top ρ b (evE Γ ρ b)).bind fun y => (C1 x).bind fun i => (C1 y).bind fun j => CF i j := rfl
@[simp]theorem Zrd(a b) : evI Γ ρ (.zip a b) = (evE Γ ρ a).bind fun x => (evE Γ ρ b).bind fun y => (Db x).bind fun xs => (Db y).bind fun ys => .ok (JV xs ys) := rfl
@[simp]theorem Zn2(a b c) : evI Γ ρ (.zip3 a b c) = (evE Γ ρ a).bind fun x => (evE Γ ρ b).bind fun y => (evE Γ ρ c).bind fun z => Ms x y z := rfl
@[simp]theorem Zrf(a) : evI Γ ρ (.enm a) = (evE Γ ρ a).bind fun x => (Db x).bind fun xs => .ok (J9 0 xs) := rfl
@[simp]theorem ZnZ(a b) : E7 Γ ρ (.zip a b) = evI Γ ρ (.zip a b) := rfl
@[simp]theorem Zmf(a b c) : E7 Γ ρ (.zip3 a b c) = evI Γ ρ (.zip3 a b c) := rfl
@[simp]theorem Zn1(a) : E7 Γ ρ (.enm a) = evI Γ ρ (.enm a) := rfl
@[simp]theorem Zta(a) : E7 Γ ρ (.e a) = (evE Γ ρ a).bind Db := rfl
@[simp]theorem Zn0(a) : E7 Γ ρ (.rng a) = evI Γ ρ (.rng a) := rfl
@[simp]theorem Zmg(a b) : E7 Γ ρ (.rng2 a b) = evI Γ ρ (.rng2 a b) := rfl
variable(r : R D)
@[simp]theorem Zow(i) : top ρ (.var i) r = Bf ρ i := rfl
@[simp]theorem Zoz : top ρ .non r = r := rfl
@[simp]theorem Zsi(b) : top ρ (.bl b) r = r := rfl
@[simp]theorem ZoD(b) : top ρ (.int b) r = r := rfl
@[simp]theorem Zoy(b) : top ρ (.str b) r = r := rfl
@[simp]theorem Zng(b) : top ρ (.glob b) r = r := rfl
@[simp]theorem ZoH(op a b) : top ρ (.bin op a b) r = r := rfl
@[simp]theorem Zse(op a) : top ρ (.un op a) r = r := rfl
@[simp]theorem Zsh(a) : top ρ (.no a) r = r := rfl
@[simp]theorem ZoI(a) : top ρ (.and a) r = r := rfl
@[simp]theorem Zsg(a) : top ρ (.or a) r = r := rfl
@[simp]theorem ZoG(op a b) : top ρ (.cmp op a b) r = r := rfl
@[simp]theorem Znj(op op' a b c) : top ρ (.cmp2 op op' a b c) r = r := rfl
@[simp]theorem ZoB(a b c) : top ρ (.ite a b c) r = r := rfl
@[simp]theorem Znk(a b) : top ρ (.call a b) r = r := rfl
@[simp]theorem Zsj(a b) : top ρ (.bi a b) r = r := rfl
@[simp]theorem ZoC(a b) : top ρ (.isi a b) r = r := rfl
@[simp]theorem ZoE(a b) : top ρ (.idx a b) r = r := rfl
@[simp]theorem Zsf(a b c) : top ρ (.sl a b c) r = r := rfl
@[simp]theorem Zox(a) : top ρ (.tup a) r = r := rfl
@[simp]theorem ZoA(a) : top ρ (.lst a) r = r := rfl
@[simp]theorem Zni(a b c d) : top ρ (.comp a b c d) r = r := rfl
@[simp]theorem ZoF(a b) : top ρ (.fld a b) r = r := rfl
@[simp]theorem Zko(a b c d) : top ρ (.compT a b c d) r = r := rfl
@[simp]theorem Znf(a) : top ρ (.tupI a) r = r := rfl
@[simp]theorem Znh(i k x) : top ρ (.dget i k x) r = r := rfl
end
@[simp]theorem Zki(x : D × An)(ρ : Rho) : Bf (Aa x::ρ) 0 = .ok x.1 := rfl
@[simp]theorem Zkj(x : D)(ρ : Rho) : Ds (Aa (x, Ad)::ρ) 0 = .ok x := rfl
@[simp]theorem Zj1(x : Sl)(ρ : Rho)(i : Ag)[NeZero i] : Bf (x::ρ) i = Bf ρ (i-1) := by
 obtain⟨j, rfl⟩ : ∃ j, i = j+1 := ⟨i-1, by have := GQ i;omega⟩
 rfl
@[simp]theorem Zj2(x : Sl)(ρ : Rho)(i : Ag)[NeZero i] : Ds (x::ρ) i = Ds ρ (i-1) := by
 obtain⟨j, rfl⟩ : ∃ j, i = j+1 := ⟨i-1, by have := GQ i;omega⟩
 rfl
noncomputable def shV(ρ : Rho)(i : Ag) : An := match ρ[i]? with
    |some (Aa (_, Ac)) => Ad
    |_ => Ac
@[simp]theorem Znn(x : D)(b : An)(ρ : Rho) : shV (Aa (x, b)::ρ) 0 = !b := by cases b <;> rfl
@[simp]theorem ZkI(ρ : Rho) : shV (Af::ρ) 0 = Ac := rfl
@[simp]theorem ZkJ(x : Sl)(ρ : Rho)(i : Ag)[NeZero i] : shV (x::ρ) i = shV ρ (i-1) := by
 obtain⟨j, rfl⟩ : ∃ j, i = j+1 := ⟨i-1, by have := GQ i;omega⟩
 rfl
section
variable(ρ : Rho)
@[simp]theorem Zo4(i) : shE ρ (.var i) = shV ρ i := rfl
@[simp]theorem Zo7 : shE ρ .non = Ac := rfl
@[simp]theorem Zsy(b) : shE ρ (.bl b) = Ac := rfl
@[simp]theorem Zpb(b) : shE ρ (.int b) = Ac := rfl
@[simp]theorem Zo6(b) : shE ρ (.str b) = Ac := rfl
@[simp]theorem Znq(b) : shE ρ (.glob b) = Ac := rfl
@[simp]theorem Zpf(op a b) : shE ρ (.bin op a b) = Ac := rfl
@[simp]theorem Zsu(op a) : shE ρ (.un op a) = Ac := rfl
@[simp]theorem Zsx(a) : shE ρ (.no a) = Ac := rfl
@[simp]theorem Zpg(a) : shE ρ (.and a) = Ac := rfl
@[simp]theorem Zsw(a) : shE ρ (.or a) = Ac := rfl
@[simp]theorem Zpe(op a b) : shE ρ (.cmp op a b) = Ac := rfl
@[simp]theorem Znt(op op' a b c) : shE ρ (.cmp2 op op' a b c) = Ac := rfl
@[simp]theorem Zo9(a b c) : shE ρ (.ite a b c) = Ac := rfl
@[simp]theorem Znu(a b) : shE ρ (.call a b) = Ac := rfl
@[simp]theorem Zsz(a b) : shE ρ (.bi a b) = Ac := rfl
@[simp]theorem Zpa(a b) : shE ρ (.isi a b) = Ac := rfl
@[simp]theorem Zpc(a b) : shE ρ (.idx a b) = Ac := rfl
@[simp]theorem Zsv(a b c) : shE ρ (.sl a b c) = Ac := rfl
@[simp]theorem Zo5(a) : shE ρ (.tup a) = Ac := rfl
@[simp]theorem Zo8(a) : shE ρ (.lst a) = Ac := rfl
@[simp]theorem Zns(a b c d) : shE ρ (.comp a b c d) = Ac := rfl
@[simp]theorem ZkK(a b c d) : shE ρ (.compT a b c d) = Ac := rfl
@[simp]theorem Znp(a) : shE ρ (.tupI a) = Ac := rfl
@[simp]theorem Znr(i k x) : shE ρ (.dget i k x) = Ac := rfl
@[simp]theorem Zpd(a b) : shE ρ (.fld a b) = Ac := rfl
@[simp]theorem Zno : FW ρ .nil = Ac := rfl
@[simp]theorem Pv(e es) : FW ρ (.cons e es) = (shE ρ e&&FW ρ es) := rfl
end
@[simp]theorem Zj3(ρ : Rho) : Eo [] [] ρ = Aa ρ := rfl
@[simp]theorem Ziq(t ts d ds)(ρ : Rho) : Eo (t::ts) (d::ds) ρ = Eo ts ds (ρ.set t (Aa (d, Ad))) := rfl
@[simp]theorem ZmN(ts ds)(ρ : Rho) : Ib ts (.lst ds) ρ = match Eo ts ds ρ with
  |some ρ' => .ok ρ'
  |none => .bad := rfl
@[simp]theorem ZmM(ts ds)(ρ : Rho) : Ib ts (.tup ds) ρ = Ep ts (.tup ds) ρ := rfl
@[simp]theorem OZ(ts ds)(ρ : Rho) : Ep ts (.tup ds) ρ = match Eo ts ds ρ with
  |some ρ' => .ok ρ'
  |none => .bad := rfl
@[simp]theorem Zoh(c : Prop)[DI c](a b : R α)(f : α -> R β) : (if c then a else b).bind f = if c then a.bind f else b.bind f := by split <;> rfl
@[simp]theorem ZsJ(ρ : Rho)(c : Prop)[DI c](a b : R α)(f : α -> O) : O.of ρ (if c then a else b) f = if c then O.of ρ a f else O.of ρ b f := by split <;> rfl
@[simp]theorem Zql(ρ : Rho)(a : R α)(g : α -> R β)(f : β -> O) : O.of ρ (a.bind g) f = O.of ρ a fun x => O.of ρ (g x) f := by cases a <;> rfl
@[simp]theorem Zpi(c : Prop)[DI c](a b : O)(f : Rho -> O) : O.seq (if c then a else b) f = if c then a.seq f else b.seq f := by split <;> rfl
@[simp]theorem Zm5(c : Prop)[DI c](a b : O)(f : Rho -> O) : O.turn (if c then a else b) f = if c then a.turn f else b.turn f := by split <;> rfl
@[simp]theorem ZrV(fr : An)(c : Prop)[DI c](a b : O) : O.ans fr (if c then a else b) = if c then a.ans fr else b.ans fr := by split <;> rfl
@[simp]theorem Znv(ρ f) : O.seq (.next ρ) f = f ρ := rfl
@[simp]theorem Zph(d b f) : O.seq (.ret d b) f = .ret d b := rfl
@[simp]theorem Zpk(ρ f) : O.seq (.brk ρ) f = .brk ρ := rfl
@[simp]theorem Znw(ρ f) : O.seq (.cont ρ) f = .cont ρ := rfl
@[simp]theorem Zpj(x ρ f) : O.seq (.exn x ρ) f = .exn x ρ := rfl
@[simp]theorem Zpl(f) : O.seq .bad f = .bad := rfl
@[simp]theorem Zkk(ρ f) : O.turn (.next ρ) f = f ρ := rfl
@[simp]theorem Zm4(d b f) : O.turn (.ret d b) f = .ret d b := rfl
@[simp]theorem Zm7(ρ f) : O.turn (.brk ρ) f = .next ρ := rfl
@[simp]theorem Zkl(ρ f) : O.turn (.cont ρ) f = f ρ := rfl
@[simp]theorem Zm6(x ρ f) : O.turn (.exn x ρ) f = .exn x ρ := rfl
@[simp]theorem Zm8(f) : O.turn .bad f = .bad := rfl
@[simp]theorem Zoj(ρ) : O.ans Ad (.next ρ) = .ok .non := rfl
@[simp]theorem ZrU(d b) : O.ans Ad (.ret d b) = .ok d := rfl
@[simp]theorem Zoi(d b) : O.ans Ac (.ret d b) = if (!b&&isL d) = Ac then .bad else .ok d := rfl
@[simp]theorem ZqK(d) : isL (.lst d) = Ac := rfl
@[simp]theorem ZqJ(d) : isL (.tup d) = Ad := rfl
@[simp]theorem ZqL(d) : isL (.int d) = Ad := rfl
@[simp]theorem ZrW(fr x ρ) : O.ans fr (.exn x ρ) = .exn x := rfl
@[simp]theorem ZrX(fr) : O.ans fr .bad = .bad := rfl
@[simp]theorem Ztq(i j : Ae) : BP .Add (.int i) (.int j) = .ok (.int (i+j)) := rfl
@[simp]theorem Zsp(i j : Ae) : BP .Sub (.int i) (.int j) = .ok (.int (i-j)) := rfl
@[simp]theorem To(i j : Ae) : BP .Mult (.int i) (.int j) = if (BG i j||FR i j) = Ac then .ok (.int (i*j)) else .bad := rfl
@[simp]theorem Sf(i j : Ae) : BP .FloorDiv (.int i) (.int j) = if 0<j /\ j<1073741824 then .ok (.int (i / j)) else .bad := rfl
@[simp]theorem Tq(i j : Ae) : BP .Mod (.int i) (.int j) = if 0<j then .ok (.int (i%j)) else .bad := rfl
@[simp]theorem TW(i j : Ae) : BP .Pow (.int i) (.int j) = if (0 <= j /\ j <= 1000000) /\ (-(18446744073709551616 : Ae)<i /\ i<18446744073709551616) then .ok (.int (i ^ j.toNat)) else .bad := rfl
@[simp]theorem Us(x y : Aj) : BP .Add (.str x) (.str y) = if B2 (x.length+y.length) = Ac then .ok (.str (x++y)) else .bad := rfl
@[simp]theorem L8(x y : Ab D) : BP .Add (.lst x) (.lst y) = if B2 (x.length+y.length) = Ac then .ok (.lst (x++y)) else .bad := rfl
@[simp]theorem Ur(x y : Ab D) : BP .Add (.tup x) (.tup y) = if (!x.isEmpty&&B2 (x.length+y.length)) = Ac then .ok (.tup (x++y)) else .bad := rfl
@[simp]theorem ZtS(i : Ae) : unD .USub (.int i) = .ok (.int (-i)) := rfl
@[simp]theorem WA(x y : D) : Bg .Eq x y = if (flD 5 x&&flD 5 y) = Ac then .ok (.bl (eqD x y)) else .bad := rfl
@[simp]theorem Wd(x y : D) : Bg .NotEq x y = if (flD 5 x&&flD 5 y) = Ac then .ok (.bl (!eqD x y)) else .bad := rfl
@[simp]theorem ZtT(i j : Ae) : Bg .Lt (.int i) (.int j) = .ok (.bl (decide (i<j))) := rfl
@[simp]theorem ZtW(i j : Ae) : Bg .LtE (.int i) (.int j) = .ok (.bl (decide (i <= j))) := rfl
@[simp]theorem Zt5(i j : Ae) : Bg .Gt (.int i) (.int j) = .ok (.bl (decide (j<i))) := rfl
@[simp]theorem Zt6(i j : Ae) : Bg .GtE (.int i) (.int j) = .ok (.bl (decide (j <= i))) := rfl
@[simp]theorem WD(x : D)(ys : Ab D) : Bg .In x (.lst ys) = if (flD 5 x&&ys.all (flD 5)) = Ac then .ok (.bl (ys.any fun y => eqD y x)) else .bad := rfl
@[simp]theorem WC(x : D)(ys : Ab D) : Bg .In x (.tup ys) = if (flD 5 x&&ys.all (flD 5)) = Ac then .ok (.bl (ys.any fun y => eqD y x)) else .bad := rfl
@[simp]theorem Wb(x : D)(ys : Ab D) : Bg .NotIn x (.lst ys) = if (flD 5 x&&ys.all (flD 5)) = Ac then .ok (.bl (!ys.any fun y => eqD y x)) else .bad := rfl
@[simp]theorem Wa(x : D)(ys : Ab D) : Bg .NotIn x (.tup ys) = if (flD 5 x&&ys.all (flD 5)) = Ac then .ok (.bl (!ys.any fun y => eqD y x)) else .bad := rfl
@[simp]theorem ZsW : Bg .Is .non .non = .ok (.bl Ac) := rfl
@[simp]theorem ZsY(i) : Bg .Is (.int i) .non = .ok (.bl Ad) := rfl
@[simp]theorem ZsV(i) : Bg .Is (.tup i) .non = .ok (.bl Ad) := rfl
@[simp]theorem ZsX(i) : Bg .Is (.lst i) .non = .ok (.bl Ad) := rfl
@[simp]theorem ZtZ(a b) : Bg .Is (.bl a) (.bl b) = .ok (.bl (a==b)) := rfl
@[simp]theorem ZsT(a b) : Bg .IsNot (.bl a) (.bl b) = .ok (.bl (!(a==b))) := rfl
@[simp]theorem Zqz : Bg .IsNot .non .non = .ok (.bl Ad) := rfl
@[simp]theorem ZqB(i) : Bg .IsNot (.int i) .non = .ok (.bl Ac) := rfl
@[simp]theorem Zqy(i) : Bg .IsNot (.tup i) .non = .ok (.bl Ac) := rfl
@[simp]theorem ZqA(i) : Bg .IsNot (.lst i) .non = .ok (.bl Ac) := rfl
@[simp]theorem ZrA(i j : Ae) : eqD (.int i) (.int j) = (i==j) := rfl
@[simp]theorem Zth(i j : An) : eqD (.bl i) (.bl j) = (i==j) := rfl
@[simp]theorem Zrx(i j : Aj) : eqD (.str i) (.str j) = (i==j) := rfl
@[simp]theorem Zrw(i j : Ab D) : eqD (.tup i) (.tup j) = eqDs i j := rfl
@[simp]theorem Zrz(i j : Ab D) : eqD (.lst i) (.lst j) = eqDs i j := rfl
@[simp]theorem Zry : eqD .non .non = Ac := rfl
@[simp]theorem Zju(i) : eqD .non (.int i) = Ad := rfl
@[simp]theorem Zjv(i) : eqD (.int i) .non = Ad := rfl
@[simp]theorem Zoa : eqDs [] [] = Ac := rfl
@[simp]theorem IQ(x y : D)(xs ys : Ab D) : eqDs (x::xs) (y::ys) = (eqD x y&&eqDs xs ys) := rfl
@[simp]theorem ZqY(n)(i : Ae) : flD n (.int i) = Ac := by cases n <;> rfl
@[simp]theorem Zs9(n)(i : An) : flD n (.bl i) = Ac := by cases n <;> rfl
@[simp]theorem ZqW(n)(i : Aj) : flD n (.str i) = Ac := by cases n <;> rfl
@[simp]theorem ZqX(n) : flD n .non = Ac := by cases n <;> rfl
@[simp]theorem ZnB(i) : flD 5 (.tup i) = i.all (flD 4) := rfl
@[simp]theorem ZnG(i) : flD 5 (.lst i) = i.all (flD 4) := rfl
@[simp]theorem ZnC(i) : flD 4 (.tup i) = i.all (flD 3) := rfl
@[simp]theorem ZnH(i) : flD 4 (.lst i) = i.all (flD 3) := rfl
@[simp]theorem ZnD(i) : flD 3 (.tup i) = i.all (flD 2) := rfl
@[simp]theorem ZnI(i) : flD 3 (.lst i) = i.all (flD 2) := rfl
@[simp]theorem ZnE(i) : flD 2 (.tup i) = i.all (flD 1) := rfl
@[simp]theorem ZnJ(i) : flD 2 (.lst i) = i.all (flD 1) := rfl
@[simp]theorem ZnF(i) : flD 1 (.tup i) = i.all (flD 0) := rfl
@[simp]theorem ZnK(i) : flD 1 (.lst i) = i.all (flD 0) := rfl
@[simp]theorem Zou(b) : Bq (.bl b) = .ok b := rfl
@[simp]theorem Znc(i) : Bq (.int i) = .ok (i != 0) := rfl
@[simp]theorem Znb(i) : Bq (.lst i) = .ok (!i.isEmpty) := rfl
@[simp]theorem Zm9(i) : Bq (.tup i) = .ok (!i.isEmpty) := rfl
@[simp]theorem Zna : Bq .non = .ok Ad := rfl
@[simp]theorem Zov(b) : D1 (.bl b) = .ok b := rfl
@[simp]theorem Zne(i) : D1 (.int i) = .ok (i != 0) := rfl
@[simp]theorem Znd : D1 .non = .ok Ad := rfl
@[simp]theorem ZmV : Et [] = .ok Ac := rfl
@[simp]theorem Je(x r) : Et (x::r) = (D1 x).bind fun b => (Et r).bind fun c => .ok (b&&c) := rfl
@[simp]theorem ZmU : FS [] = .ok Ad := rfl
@[simp]theorem Zkd(x r) : FS (x::r) = (D1 x).bind fun b => (FS r).bind fun c => .ok (b||c) := rfl
@[simp]theorem ZrI(b)(d) : DY b (.ok d) = .ok d := by cases b <;> rfl
@[simp]theorem Zoc(b) : DY b .bad = .bad := by cases b <;> rfl
@[simp]theorem Zob(x) : DY Ac (.exn x) = .exn x := rfl
@[simp]theorem Zj9(r) : DY Ad r = noX r := rfl
@[simp]theorem Zqm(a : α) : noX (.ok a) = .ok a := rfl
@[simp]theorem Zqo : noX (.bad : R α) = .bad := rfl
@[simp]theorem Zqn(x) : noX (.exn x : R α) = .bad := rfl
@[simp]theorem ZrS(b) : Cr (.bl b) = .ok b := rfl
@[simp]theorem Qd(b) : C1 (.int b) = .ok b := rfl
@[simp]theorem ZmQ(b) : JO (.lst b) = .ok b := rfl
@[simp]theorem ZmP(b) : Db (.lst b) = .ok b := rfl
@[simp]theorem ZmO(b) : Db (.tup b) = .ok b := rfl
@[simp]theorem VU(xs i) : E6 (.lst xs) (.int i) = CB xs i := rfl
@[simp]theorem VT(xs i) : E6 (.tup xs) (.int i) = CB xs i := rfl
@[simp]theorem ZtV(xs) : biD .len [.lst xs] = .ok (.int xs.length) := rfl
@[simp]theorem ZtU(xs) : biD .len [.tup xs] = .ok (.int xs.length) := rfl
@[simp]theorem Zuc(i) : biD .abs [.int i] = .ok (.int (if i<0 then -i else i)) := rfl
@[simp]theorem ZsN(i j) : biD .max [.int i, .int j] = .ok (.int (if i<j then j else i)) := rfl
@[simp]theorem ZsM(i j) : biD .min [.int i, .int j] = .ok (.int (if j<i then j else i)) := rfl
@[simp]theorem Zt0(i) : biD .int [.int i] = .ok (.int i) := rfl
@[simp]theorem Zt1(i) : biD .int [.bl i] = .ok (.int (b2i i)) := rfl
@[simp]theorem ZsS(i) : biD .list [.lst i] = .ok (.lst i) := rfl
@[simp]theorem ZsR(i) : biD .list [.tup i] = .ok (.lst i) := rfl
@[simp]theorem Zot(i) : biD .tuple [.lst i] = .ok (.tup i) := rfl
@[simp]theorem Zos(i) : biD .tuple [.tup i] = .ok (.tup i) := rfl
@[simp]theorem Wy(i) : biD .all [.lst i] = (Et i).bind fun b => .ok (.bl b) := rfl
@[simp]theorem Zub(i) : biD .any [.lst i] = (FS i).bind fun b => .ok (.bl b) := rfl
@[simp]theorem Zua(i) : biD .any [.tup i] = (FS i).bind fun b => .ok (.bl b) := rfl
@[simp]theorem ZtK(i) : biD .sum [.lst i] = (Hk 0 i).bind fun b => .ok (.int b) := rfl
@[simp]theorem ZtJ(i) : biD .sum [.tup i] = (Hk 0 i).bind fun b => .ok (.int b) := rfl
@[simp]theorem Znm(i) : biD .sorted [.lst i] = (LK i).bind fun b => .ok (.lst b) := rfl
@[simp]theorem ZtL(xs k) : biD .stp [.lst xs, .int k] = .ok (.lst (Nd k.toNat xs)) := rfl
@[simp]theorem ZtP(xs) : biD .rvs [.lst xs] = .ok (.lst xs.reverse) := rfl
@[simp]theorem ZsP(xs) : biD .lset [.lst xs] = MD xs := rfl
@[simp]theorem Zsk(x y) : biD .tmin [x, y] = mmD Ad x y := rfl
@[simp]theorem Ztx(x y) : biD .tlt [x, y] = M9 x y := rfl
@[simp]theorem Zsl(x y) : biD .tmax [x, y] = mmD Ac x y := rfl
@[simp]theorem ZrL(xs x) : biD .count [.lst xs, x] = if (flD 5 x&&xs.all (flD 5)) = Ac then .ok (.int ((xs.filter fun y => eqD y x).length : Ag)) else .bad := rfl
@[simp]theorem WQ(xs lo hi) : slD (.tup xs) lo hi = if (Fv xs.length 0 lo==0&&Fv xs.length xs.length hi==xs.length) = Ac then .bad else .ok (.tup (GM xs lo hi)) := rfl
@[simp]theorem Zul(xs lo hi) : slD (.lst xs) lo hi = .ok (.lst (GM xs lo hi)) := rfl
@[simp]theorem Zo1(d) : slE .non d = .ok Af := rfl
@[simp]theorem Zo2(k i) : slE (.int k) (.int i) = .ok (Aa i) := rfl
@[simp]theorem Zo0(k i) : slE (.var k) (.int i) = .ok (Aa i) := rfl
@[simp]theorem Zo3(op a b i) : slE (.bin op a b) (.int i) = .ok (Aa i) := rfl
@[simp]theorem Zss(op a i) : slE (.un op a) (.int i) = .ok (Aa i) := rfl
@[simp]theorem Zst(b as i) : slE (.bi b as) (.int i) = .ok (Aa i) := rfl
@[simp]theorem ZqE(up ks) : EV up ks .non = if ks.any Dd = Ac then .bad else .ok (.bl (ks.any fun k => kiD up k .non)) := rfl
@[simp]theorem ZsU(up ks b) : EV up ks (.bl b) = if ks.any Dd = Ac then .bad else .ok (.bl (ks.any fun k => kiD up k (.bl b))) := rfl
@[simp]theorem ZqG(up ks b) : EV up ks (.int b) = if ks.any Dd = Ac then .bad else .ok (.bl (ks.any fun k => kiD up k (.int b))) := rfl
@[simp]theorem ZqD(up ks b) : EV up ks (.str b) = if ks.any Dd = Ac then .bad else .ok (.bl (ks.any fun k => kiD up k (.str b))) := rfl
@[simp]theorem ZqC(up ks b) : EV up ks (.tup b) = if ks.any Dd = Ac then .bad else .ok (.bl (ks.any fun k => kiD up k (.tup b))) := rfl
@[simp]theorem ZqF(up ks b) : EV up ks (.lst b) = if ks.any Dd = Ac then .bad else .ok (.bl (ks.any fun k => kiD up k (.lst b))) := rfl
@[simp]theorem ZqH(up ks c f) : EV up ks (.exc c f) = if ks.all Dd = Ac then .ok (.bl (ks.any fun k => kiD up k (.exc c f))) else .bad := rfl
@[simp]theorem Zof(c) : Dd (.cls c) = Ac := rfl
@[simp]theorem Zmq : Dd .verr = Ac := rfl
@[simp]theorem Zoe : Dd .int = Ad := rfl
@[simp]theorem Zms : Dd .bool = Ad := rfl
@[simp]theorem Zod : Dd .str = Ad := rfl
@[simp]theorem Zmr : Dd .list = Ad := rfl
@[simp]theorem Zkb : Dd .tuple = Ad := rfl
@[simp]theorem Zj6(up i) : kiD up .int (.int i) = Ac := rfl
@[simp]theorem Zj5(up) : kiD up .int .non = Ad := rfl
@[simp]theorem Zjj(up i) : kiD up .bool (.int i) = Ad := rfl
@[simp]theorem Zj4(up i) : kiD up .int (.tup i) = Ad := rfl
@[simp]theorem Zj8(up i) : kiD up .bool (.bl i) = Ac := rfl
@[simp]theorem Zji(up) : kiD up .bool .non = Ad := rfl
@[simp]theorem Zjh(up i) : kiD up .list (.lst i) = Ac := rfl
@[simp]theorem ZhC(up i) : kiD up .tuple (.tup i) = Ac := rfl
@[simp]theorem ZhD(up) : kiD up .tuple .non = Ad := rfl
@[simp]theorem Zj7(up c k f) : kiD up (.cls c) (.exc k f) = (up k).contains c := rfl
@[simp]theorem Zjg(up k f) : kiD up .verr (.exc k f) = Ac := rfl
theorem Jh{xs:Ab D}{i:Ae}{d:D}(h0 : 0 <= i)(h : xs[i.toNat]? = Aa d) : CB xs i = .ok d := by
 unfold CB plD;obtain⟨h1, _⟩ := AT.mp h;rw[AE h0, AE (by omega)]
 dsimp only;rw[h]
section
variable(Γ : Gam)(ρ : Rho)
@[simp]theorem ZnL : evSs Γ ρ .nil = .next ρ := rfl
noncomputable def DF(Γ : Gam)(ss : Ss)(o : O) : O := o.seq fun ρ' => evSs Γ ρ' ss
@[simp]theorem Zmd(s ss) : evSs Γ ρ (.cons s ss) = DF Γ ss (evS Γ ρ s) := rfl
@[simp]theorem ZqR(ss) : DF Γ ss (.next ρ) = evSs Γ ρ ss := rfl
@[simp]theorem Zs0(ss d b) : DF Γ ss (.ret d b) = .ret d b := rfl
@[simp]theorem Zs4(ss) : DF Γ ss (.brk ρ) = .brk ρ := rfl
@[simp]theorem ZqS(ss) : DF Γ ss (.cont ρ) = .cont ρ := rfl
@[simp]theorem Zs3(ss x) : DF Γ ss (.exn x ρ) = .exn x ρ := rfl
@[simp]theorem Zs5(ss) : DF Γ ss .bad = .bad := rfl
@[simp]theorem Zs2(ss)(c : Prop)[DI c](a b : O) : DF Γ ss (if c then a else b) = if c then DF Γ ss a else DF Γ ss b := by split <;> rfl
@[simp]theorem Zs1(o : O) : DF Γ .nil o = o := by cases o <;> rfl
noncomputable def Cq(Γ : Gam)(t : Ag)(body : Ss) : D -> Rho -> O := fun x ρ' => evSs Γ (ρ'.set t (Aa (x, Ad))) body
noncomputable def whC(Γ : Gam)(c : E) : Rho -> R An := fun ρ' => (top ρ' c (evE Γ ρ' c)).bind Bq
noncomputable def whB(Γ : Gam)(body : Ss) : Rho -> O := fun ρ' => evSs Γ ρ' body
noncomputable def MR(Γ : Gam)(t : Ag)(body : Ss)(ρ : Rho)(r : R (Ab D)) : O := O.of ρ r fun xs => CG (Cq Γ t body) xs ρ
@[simp]theorem ZqV(t body xs) : MR Γ t body ρ (.ok xs) = CG (Cq Γ t body) xs ρ := rfl
@[simp]theorem ZnQ : evS Γ ρ .pass = .next ρ := rfl
@[simp]theorem Zq9(i e) : evS Γ ρ (.asg i Ad e) = O.of ρ (evE Γ ρ e) fun d => .next (ρ.set i (Aa (d, Ad))) := rfl
@[simp]theorem ZnT(e) : evS Γ ρ (.expr e) = O.of ρ (evE Γ ρ e) fun _ => .next ρ := rfl
@[simp]theorem Zq2(e) : evS Γ ρ (.ret e) = O.of ρ (top ρ e (evE Γ ρ e)) fun d => .ret d (Du Γ e||(match e with | .var i => (match ρ[i]? with|some (Aa (_, o)) => o|_ => Ad)|_ => Ad)) := rfl
@[simp]theorem ZnO : evS Γ ρ .retN = .ret .non Ad := rfl
@[simp]theorem Zq3(c a b) : evS Γ ρ (.ife c a b) = O.of ρ ((top ρ c (evE Γ ρ c)).bind Bq) fun k => if k = Ac then evSs Γ ρ a else evSs Γ ρ b := rfl
@[simp]theorem ZnR(t it body) : evS Γ ρ (.fors t it body) = MR Γ t body ρ (E7 Γ ρ it) := rfl
noncomputable def Mz(Γ : Gam)(ts : Ab Ag)(body : Ss) : D -> Rho -> O := fun x ρ' => O.of ρ' (Ep ts x ρ') fun ρ'' => evSs Γ ρ'' body
noncomputable def Mx(Γ : Gam)(ts : Ab Ag)(body : Ss)(ρ : Rho)(r : R (Ab D)) : O := O.of ρ r fun xs => CG (Mz Γ ts body) xs ρ
@[simp]theorem ZnA(t body xs) : Mx Γ t body ρ (.ok xs) = CG (Mz Γ t body) xs ρ := rfl
@[simp]theorem ZnS(t it body) : evS Γ ρ (.forT t it body) = Mx Γ t body ρ (E7 Γ ρ it) := rfl
@[simp]theorem ZnW(ts e) : evS Γ ρ (.asgT ts e) = O.of ρ (evE Γ ρ e) fun d => O.of ρ (Ib ts d ρ) fun ρ' => .next ρ' := rfl
theorem QD(i e) : evS Γ ρ (.asg i Ac e) = O.of ρ (evE Γ ρ e) fun d => if Du Γ e = Ac then (match d with
      |.lst xs => .next (ρ.set i (Aa (.lst xs, Ac)))
      | _ => .bad) else .bad := rfl
noncomputable def setF(ρ : Rho)(i : Ag) : D -> O
 |.lst xs => .next (ρ.set i (Aa (.lst xs, Ac)))
 |_ => .bad
@[simp]theorem ZsA(i xs) : setF ρ i (.lst xs) = .next (ρ.set i (Aa (.lst xs, Ac))) := rfl
@[simp]theorem Zme(i e) : evS Γ ρ (.asg i Ac e) = O.of ρ (evE Γ ρ e) fun d => if Du Γ e = Ac then setF ρ i d else .bad := by
 rw[QD]
 congr 1
@[simp]theorem Zra(i e) : evS Γ ρ (.app i e) = O.of ρ (CC ρ i) fun xs => O.of ρ (evE Γ ρ e) fun d => if B2 (xs.length+1) = Ac then .next (ρ.set i (Aa (.lst (xs++[d]), Ac))) else .bad := rfl
@[simp]theorem Zq4(i e) : evS Γ ρ (.ext i e) = O.of ρ (CC ρ i) fun xs => O.of ρ (evE Γ ρ e) fun d => O.of ρ (JO d) fun ys => if B2 (xs.length+ys.length) = Ac then .next (ρ.set i (Aa (.lst (xs++ys), Ac))) else .bad := rfl
@[simp]theorem ZnU(i k e) : evS Γ ρ (.dput i k e) = O.of ρ (evE Γ ρ e) fun d => O.of ρ (Eb ρ i) fun xs => O.of ρ ((top ρ k (evE Γ ρ k)).bind C0) fun j => if B2 (xs.length+1) = Ac then .next (ρ.set i (Aa (.dic (DW xs j d), Ac))) else .bad := rfl
@[simp]theorem Zq5(i k e) : evS Γ ρ (.dsd i k e) = O.of ρ (Eb ρ i) fun xs => O.of ρ ((top ρ k (evE Γ ρ k)).bind C0) fun j => O.of ρ (evE Γ ρ e) fun d => if B2 (xs.length+1) = Ac then .next (ρ.set i (Aa (.dic (if (xs.any fun p => p.1==j) = Ac then xs else DW xs j d), Ac))) else .bad := rfl
@[simp]theorem Zq6(i) : evS Γ ρ (.dnw i) = .next (ρ.set i (Aa (.dic [], Ac))) := rfl
@[simp]theorem Zq1(i) : evS Γ ρ (.rev i) = O.of ρ (CC ρ i) fun xs => .next (ρ.set i (Aa (.lst xs.reverse, Ac))) := rfl
@[simp]theorem Zq7(i) : evS Γ ρ (.clr i) = O.of ρ (CC ρ i) fun _ => .next (ρ.set i (Aa (.lst [], Ac))) := rfl
theorem Jl(i k e) : evS Γ ρ (.put i k e) = O.of ρ (evE Γ ρ e) fun d => O.of ρ (CC ρ i) fun xs => O.of ρ ((top ρ k (evE Γ ρ k)).bind C1) fun j => match plD xs.length j with
      |some n => .next (ρ.set i (Aa (.lst (xs.set n d), Ac)))
      |none => .bad := rfl
@[simp]theorem ZnM(body c x h) : evS Γ ρ (.tryx body c x h) = match evSs Γ ρ body with
      | .exn y ρ' => if (Γ.up y.c).contains c = Ac then (match evSs Γ (ρ'.set x (Aa (.exc y.c y.fs, Ad))) h with
          |.next ρ'' => .next (ρ''.set x Af)
          |.ret d f => .ret d f
          | _ => .bad) else .bad
      |o => o := rfl
@[simp]theorem ZnN(body c x h c' h' els) : evS Γ ρ (.try2 body c x h c' h' els) = match evSs Γ ρ body with
      |.exn y ρ' => if (Γ.up y.c).contains c = Ac then hdO x y ρ' (fun r => evSs Γ r h) else if (Γ.up y.c).contains c' = Ac then hdO x y ρ' (fun r => evSs Γ r h') else .bad
      |.next ρ' => evSs Γ ρ' els
      |o => o := rfl
@[simp]theorem Zq0(c body) : evS Γ ρ (.whl c body) = JX (whC Γ c) (whB Γ body) Mw ρ := rfl
@[simp]theorem ZnP(c as) : evS Γ ρ (.rais c as) = O.of ρ (noX (evA Γ ρ as)) fun xs => O.of ρ (Γ.xn c xs) fun x => .exn x ρ := rfl
@[simp]theorem Zq8 : evS Γ ρ .brk = .brk ρ := rfl
@[simp]theorem ZnV : evS Γ ρ .cont = .cont ρ := rfl
end
end Ov
namespace Ov
open PySem
theorem Lg{body : D -> Rho -> O}(P : Rho -> Prop) : ∀(xs : Ab D)(ρ : Rho), P ρ -> (∀ x ∈ xs, ∀ ρ, P ρ -> ∃ ρ', body x ρ = .next ρ' /\ P ρ') -> ∃ ρ', CG body xs ρ = .next ρ' /\ P ρ'
 |[], ρ, h, _ => ⟨ρ, rfl, h⟩
 |x::xs, ρ, h, k => by
  obtain⟨ρ1, e1, h1⟩ := k x Au ρ h;obtain⟨ρ2, e2, h2⟩ := Lg P xs ρ1 h1 fun y hy => k y (Ar _ hy)
  exact⟨ρ2, by show (body x ρ).turn _ = _;rw[e1];exact e2, h2⟩
theorem Py(h1 : 0 <= lo)(h2 : lo<1000000)(h3 : 0 <= hi)(h4 : hi<1000000) : CF lo hi = .ok (Dc lo (hi-lo).toNat) := by
 unfold CF;rw[AE (by omega)]
theorem KG(h3 : 0 <= hi)(h4 : hi<1000000) : CF 0 hi = .ok (Dc 0 hi.toNat) := by
 rw[Py (by omega) (by omega) h3 h4, FI]
theorem P8(h : x ∈ Dc lo n) : ∃ k : Ag, k<n /\ x = .int (lo+(k : Ae)) := by
 obtain⟨k, hk, e⟩ := CS.mp h;exact⟨k, Cc.mp hk, e.symm⟩
theorem Iz(lo : Ae)(n : Ag) : (Dc lo n).length = n := by simp[Dc]
theorem PD{i:Ag}(h : (Dc lo n)[i]? = Aa x) : i<n /\ x = .int (lo+(i : Ae)) := by
 have hl := (AT.mp h).1;rw[Iz]at hl;unfold Dc at h;rw[CO, List.getElem?_range hl]at h;cases h;exact⟨hl, rfl⟩
noncomputable def Ss.take : Ag -> Ss -> Ss
 |0, _ => .nil
 |_, .nil => .nil
 |n+1, .cons s ss => .cons s (ss.take n)
noncomputable def Ss.drop : Ag -> Ss -> Ss
 |0, ss => ss
 |_, .nil => .nil
 |n+1, .cons _ ss => ss.drop n
theorem Lh(Γ : Gam) : ∀(n : Ag)(ss : Ss)(ρ : Rho), evSs Γ ρ ss = DF Γ (ss.drop n) (evSs Γ ρ (ss.take n))
 |0, _, _ => rfl
 |_+1, .nil, _ => rfl
 |n+1, .cons s ss, ρ => by
  show (evS Γ ρ s).seq (fun ρ' => evSs Γ ρ' ss) = DF Γ (ss.drop n) ((evS Γ ρ s).seq fun ρ' => evSs Γ ρ' (ss.take n))
  cases evS Γ ρ s with
  |next ρ' => exact Lh Γ n ss ρ'
  |_ => rfl
end Ov
end
section
namespace Ov
noncomputable def xfD : Ag -> D -> An
 |0, .int i => decide (0 <= i)&&decide (i<100)
 |n+1, .tup ds => C4 ds.length 8&&ds.all (xfD n)
 |_, _ => Ad
end Ov
end
section
namespace OvC
open PySem Ov PyProof.Rows
variable{j i:Ae}
noncomputable abbrev scr(ns : Ab Ae) : D := .lst (ns.map .int)
noncomputable abbrev sh(d : D) : Sl := Aa (d, Ad)
noncomputable abbrev si(i : Ae) : Sl := Aa (.int i, Ad)
theorem MQ{P:Ag -> Prop}(h0 : P 0)(h1 : P 1)(h2 : P 2)(h3 : P 3) : P (j%4).toNat := by
 have : (j%4).toNat = 0 \/ (j%4).toNat = 1 \/ (j%4).toNat = 2 \/ (j%4).toNat = 3 := by omega
 rcases this with e|e|e|e <;> rw[e] <;> assumption
noncomputable def P4(p : Ae) : Prop := p = 3 \/ p = 5 \/ p = 7 \/ p = 11
noncomputable def pr4(j : Ae) : Ae := [3, 5, 7, 11].getD (j%4).toNat 0
theorem TV(j) : P4 (pr4 j) := by
 unfold pr4;exact MQ (P := fun j => P4 ([3, 5, 7, 11].getD j 0)) (.inl rfl) (.inr (.inl rfl)) (.inr (.inr (.inl rfl))) (.inr (.inr (.inr rfl)))
theorem P4.pos{p}(h : P4 p) : 0<p := by rcases h with rfl|rfl|rfl|rfl <;> decide
theorem P4.lo{p}(h : P4 p) : 3 <= p := by rcases h with rfl|rfl|rfl|rfl <;> decide
theorem P4.hi{p}(h : P4 p) : p <= 11 := by rcases h with rfl|rfl|rfl|rfl <;> decide
theorem PF(j : Ae) : CB [.int 3, .int 5, .int 7, .int 11] (j%4) = .ok (.int (pr4 j)) := by
 have h := MQ (P := fun j => [D.int 3, D.int 5, D.int 7, D.int 11][j]? = Aa (D.int ([3, 5, 7, 11].getD j 0))) (j := j) rfl rfl rfl rfl
 exact Jh (by omega) h
theorem D9(h0 : -18446744073709551616<i)(h1 : i<18446744073709551616) : BG i j = Ac := by simp[BG];left;exact⟨h0, h1⟩
theorem E3(h0 : -18446744073709551616<j)(h1 : j<18446744073709551616) : BG i j = Ac := by simp[BG];right;exact⟨h0, h1⟩
noncomputable def JC : Df := ⟨2, Ad, (.cons (.ret (.bin .Mod (.var 1) (.var 0))) .nil)⟩
noncomputable def Ha(Γ : Gam) : Prop := ∀ p n : Ae, 0<p -> Γ.F 1 [.int p, .int n] = .ok (.int (n%p))
theorem Su(Γ : Gam)(p n : Ae)(h : 0<p) : JC.run Γ [.int p, .int n] = .ok (.int (n%p)) := by simp[JC, Df.run, BY, h]
end OvC
end
namespace Ov
open PySem PySem.Spec PyProof.Rows L2
variable{A A' B:Ai -> Prop}{H H' H1 H0:Hp}{p a ka b l q:Ai}{xs vs:Ab V}{k' k:Ab Ae}{v:V}{d:D}{o:HO}{K:Fg}{ρ:Rho}{σ:L2.St}{i n j:Ag}{Rp Rq:Hp -> V -> D -> Prop}{r:R D}{Q:VK}{X:Cx}{e c tg iter elt:Ao}{t' tt:TT}{x:Ex}{g:D -> D -> R D}{op op':CP}{h' h:AC}{es:Ab (Ab Ae × Ai × V)}{ys:Ab (Ab Ae × Ai × Ah)}{y u:Ah}{pos p2 pos' pos2 spos:AH}{pI:Ab (Ai × AA)}{s:Ak}{its its2:Ab Ah}{items2:A6 Ah}{fs fi:Rho -> R (Ab D)}{Q':Al Ae -> Hp -> Prop}{T:Ca}{f fc:Rho -> R An}{α:Type}{Fz:Ai -> HO -> Prop}{D':Ends}{lo hi:Ae}{as:D -> Rho -> R Rho}{up:Ag -> Ab Ag}{scope:Bw}{env:BF}{cl:Ab (Aj × Ai)}{N':Ab Aj}{ts:Ab Ag}{fp:Ab Ai}{ifs:Ab Ao}{te:TE}{J:It}{wi:TI}{t:An}
noncomputable abbrev ClA := Ag -> Al Ai
variable{CL:ClA}
noncomputable def KL(K : Fg)(a : Ai)(xs : Ab V) : Prop := ∃(o : AA)(its : A6 Ah)(n : Ag), K.lookup a = Aa o /\ o.cls = .type "list" /\ o.dict = Af /\ o.data = .seq its n /\ its.size <= sizeLine /\ AN xs its.toList
noncomputable def KT(K : Fg)(a : Ai)(xs : Ab V) : Prop := ∃(o : AA)(its : A6 Ah)(n : Ag), K.lookup a = Aa o /\ o.cls = .type "tuple" /\ o.data = .seq its n /\ its.size <= sizeLine /\ AN xs its.toList
noncomputable abbrev TK(P : AB)(w : AI) : HeapKind P w (Ab Ae) := tupleKind (intKind P w)
noncomputable def DZ(P : AB)(w : AI)(a : Ai)(xs : Ab (Ab Ae × Ai × Ah))(h : AC) : Prop := (a==Cv) = Ad /\ ∃ o es ep, h.get? a = Aa o /\ o.ExactDict /\ o.data = .dict es ep /\ es.toList = xs.map (Fo (TK P w)) /\ (xs.map (·.1)).Nodup
inductive ValE : Ab (Ab Ae × Ai × V) -> Ab (Ab Ae × Ai × Ah) -> Prop
 |nil : ValE [] []
 |cons {k : Ab Ae} {a : Ai} {v : V} {y : Ah} {xs : Ab (Ab Ae × Ai × V)} {ys : Ab (Ab Ae × Ai × Ah)} : AZ v y -> ValE xs ys -> ValE ((k, a, v)::xs) ((k, a, y)::ys)
noncomputable def B5(a : Ai)(xs : Ab (Ab Ae × Ai × V)) : AC -> Prop := fun h => ∃ ys, ValE xs ys /\ ∀ P w, DZ P w a ys h
noncomputable def Cf(K : Fg)(H : Hp)(A : Ai -> Prop)(a : Ai)(k : Ab Ae) : Prop := ∃ xs, (¬ A a \/ KT K a xs) /\ SqT K H a xs /\ xs = k.map V.int
section
variable(K : Fg)(CL : ClA)(H : Hp)(A : Ai -> Prop)
mutual
def Rep : V -> D -> Prop
 |v, .non => v = .non
 |v, .bl b => v = .bl b
 |v, .int i => v = .int i
 |v, .str x => v = .str x
 |v, .tup ds => ∃ a xs, v = .ref a /\ (¬ A a \/ KT K a xs) /\ SqT K H a xs /\ Reps xs ds
 |v, .lst ds => ∃ a xs, v = .ref a /\ (¬ A a \/ KL K a xs) /\ SqL K H a xs /\ Reps xs ds
 |v, .obj c fs => ∃ a C dx vs, v = .ref a /\ ¬ A a /\ CL c = Aa C /\ H a = Aa (.ins C dx vs) /\ Repf vs fs
 |v, .dic kvs => ∃ a es, v = .ref a /\ ¬ A a /\ H a = Aa (.ext (B5 a es)) /\ Repk es kvs
 |v, .exc c fs => ∃ a C φ, v = .ref a /\ ¬ A a /\ CL c = Aa C /\ H a = Aa (.ext φ) /\ (∀ h, φ h -> ∃ o, h.get? a = Aa o /\ o.cls = .ref C) /\ (fs = [] \/ ∃ dx vs, ¬ A dx /\ H dx = Aa (.xd vs) /\ Repf vs fs /\ ∀ h, φ h -> ∃ o, h.get? a = Aa o /\ o.dict = Aa dx /\ ∃ us, o.data = .fields us)
def Reps : Ab V -> Ab D -> Prop
 |[], [] => E2
 |v::vs, d::ds => Rep v d /\ Reps vs ds
 |_, _ => AW
def Repf : Ab (Aj × V) -> Ab (Aj × D) -> Prop
 |[], [] => E2
 |v::vs, d::ds => Repp v d /\ Repf vs ds
 |_, _ => AW
def Repp : Aj × V -> Aj × D -> Prop
 |v, (n, d) => v.1 = n /\ Rep v.2 d
def Repk : Ab (Ab Ae × Ai × V) -> Ab (Ab Ae × D) -> Prop
 |[], [] => E2
 |v::vs, d::ds => Repe v d /\ Repk vs ds
 |_, _ => AW
def Repe : Ab Ae × Ai × V -> Ab Ae × D -> Prop
 |v, (k, d) => v.1 = k /\ Cf K H A v.2.1 k /\ Rep v.2.2 d
end
noncomputable def BQ(a : Ai)(o : HO)(d : D) : Prop := (∃ xs ds, o = .lst xs /\ d = .lst ds /\ Reps K CL H A xs ds) \/ ∃ es kvs, o = .ext (B5 a es) /\ d = .dic kvs /\ Repk K CL H A es kvs
noncomputable def BH(v : V)(d : D) : Prop := Rep K CL H A v d \/ ∃ a o, v = .ref a /\ H a = Aa o /\ BQ K CL H A a o d
end
noncomputable def OwK(a : Ai)(o : HO) : Prop := (∃ xs, o = .lst xs) \/ ∃ es, o = .ext (B5 a es)
noncomputable def Kp(A : Ai -> Prop)(H H' : Hp) : Prop := ∀ b o, H b = Aa o -> ¬ A b -> H' b = Aa o
noncomputable def AOk(H : Hp)(A : Ai -> Prop) : Prop := ∀ a, A a -> ∃ o, H a = Aa o /\ OwK a o
theorem Kp.of(h : As H H') : Kp A H H' := fun b o e _ => h b o e
theorem AOk.same(h : AOk H A)(s : As H H') : AOk H' A := fun a ha => let ⟨xs, e, k⟩ := h a ha;⟨xs, s _ _ e, k⟩
theorem AOk.new(h : AOk H A)(e : H p = Af) : ¬ A p := fun ha => by
 obtain⟨xs, q, _⟩ := h p ha;rw[e]at q;cases q
section
variable{K : Fg}{CL : ClA}{H H' : Hp}{A B : Ai -> Prop}
theorem Mq{u:HO}(k : Kp A H H')(na : ¬ A a)(h : Rd H a u) : Rd H' a u := by
 rcases h with h|⟨o, h⟩
 ·exact .inl (k _ _ h na)
 ·exact .inr ⟨o, k _ _ h na⟩
theorem Jz(k : Kp A H H')(na : ¬ A a \/ KL K a xs)(h : SqL K H a xs) : SqL K H' a xs := na.elim (fun na => h.imp (Mq k na) id) .inr
theorem HR(k : Kp A H H')(na : ¬ A a \/ KT K a xs)(h : SqT K H a xs) : SqT K H' a xs := na.elim (fun na => h.imp (Mq k na) id) .inr
theorem Cf.kp(k : Kp A H H')(h : Cf K H A a k') : Cf K H' A a k' := by
 obtain⟨xs, na, s, e⟩ := h;exact⟨xs, na, HR k na s, e⟩
theorem Cf.sub(k : ∀ a, B a -> A a)(h : Cf K H A a k') : Cf K H B a k' := by
 obtain⟨xs, na, s, e⟩ := h;exact⟨xs, na.imp (fun na z => na (k _ z)) id, s, e⟩
theorem Cf.wide(hp : ∀ a, B a -> A a \/ H a = Af)(h : Cf K H A a k') : Cf K H B a k' := by
 obtain⟨xs, na, s, e⟩ := h;refine⟨xs, ?_, s, e⟩;rcases s with s|s
 ·refine na.imp (fun na z => (hp _ z).elim na fun e => ?_) id
  rcases s with s|⟨o, s⟩ <;> rw[e]at s <;> cases s
 ·exact .inr s
mutual
theorem Rep.kp(k : Kp A H H') : ∀{v : V}(d : D), Rep K CL H A v d -> Rep K CL H' A v d
 |_, .non, h => h
 |_, .bl _, h => h
 |_, .int _, h => h
 |_, .str _, h => h
 |_, .dic kvs, h => by
  obtain⟨a, es, e, na, s, r⟩ := h;exact⟨a, es, e, na, k _ _ s na, Repk.kp k kvs r⟩
 |_, .tup ds, h => by
  obtain⟨a, xs, e, na, s, r⟩ := h;exact⟨a, xs, e, na, by first|exact HR k na s|exact Jz k na s, Reps.kp k ds r⟩
 |_, .lst ds, h => by
  obtain⟨a, xs, e, na, s, r⟩ := h;exact⟨a, xs, e, na, by first|exact HR k na s|exact Jz k na s, Reps.kp k ds r⟩
 |_, .obj c fs, h => by
  obtain⟨a, C, dx, vs, e, na, c, s, r⟩ := h;exact⟨a, C, dx, vs, e, na, c, k _ _ s na, Repf.kp k fs r⟩
 |_, .exc c fs, h => by
  obtain⟨a, C, φ, e, na, c, s, p, q⟩ := h;refine⟨a, C, φ, e, na, c, k _ _ s na, p, q.imp id ?_⟩;rintro⟨dx, vs, nx, s2, r, z⟩;exact⟨dx, vs, nx, k _ _ s2 nx, Repf.kp k fs r, z⟩
theorem Reps.kp(k : Kp A H H') : ∀{vs : Ab V}(ds : Ab D), Reps K CL H A vs ds -> Reps K CL H' A vs ds
 |[], [], h => h
 |_::_, d::ds, h => ⟨Rep.kp k d h.1, Reps.kp k ds h.2⟩
 |[], _::_, h => h.elim
 |_::_, [], h => h.elim
theorem Repf.kp(k : Kp A H H') : ∀{vs : Ab (Aj × V)}(ds : Ab (Aj × D)), Repf K CL H A vs ds -> Repf K CL H' A vs ds
 |[], [], h => h
 |_::_, d::ds, h => ⟨Repp.kp k d h.1, Repf.kp k ds h.2⟩
 |[], _::_, h => h.elim
 |_::_, [], h => h.elim
theorem Repp.kp(k : Kp A H H') : ∀{v : Aj × V}(d : Aj × D), Repp K CL H A v d -> Repp K CL H' A v d
 |_, (_, d), h => ⟨h.1, Rep.kp k d h.2⟩
theorem Repk.kp(k : Kp A H H') : ∀{vs : Ab (Ab Ae × Ai × V)}(ds : Ab (Ab Ae × D)), Repk K CL H A vs ds -> Repk K CL H' A vs ds
 |[], [], h => h
 |_::_, d::ds, h => ⟨Repe.kp k d h.1, Repk.kp k ds h.2⟩
 |[], _::_, h => h.elim
 |_::_, [], h => h.elim
theorem Repe.kp(k : Kp A H H') : ∀{v : Ab Ae × Ai × V}(d : Ab Ae × D), Repe K CL H A v d -> Repe K CL H' A v d
 |_, (_, d), h => ⟨h.1, Cf.kp k h.2.1, Rep.kp k d h.2.2⟩
end
mutual
theorem Rep.sub(k : ∀ a, B a -> A a) : ∀{v : V}(d : D), Rep K CL H A v d -> Rep K CL H B v d
 |_, .non, h => h
 |_, .bl _, h => h
 |_, .int _, h => h
 |_, .str _, h => h
 |_, .dic kvs, h => by
  obtain⟨a, es, e, na, s, r⟩ := h;exact⟨a, es, e, fun z => na (k _ z), s, Repk.sub k kvs r⟩
 |_, .tup ds, h => by
  obtain⟨a, xs, e, na, s, r⟩ := h;exact⟨a, xs, e, na.imp (fun na z => na (k _ z)) id, s, Reps.sub k ds r⟩
 |_, .lst ds, h => by
  obtain⟨a, xs, e, na, s, r⟩ := h;exact⟨a, xs, e, na.imp (fun na z => na (k _ z)) id, s, Reps.sub k ds r⟩
 |_, .obj c fs, h => by
  obtain⟨a, C, dx, vs, e, na, c, s, r⟩ := h;exact⟨a, C, dx, vs, e, fun z => na (k _ z), c, s, Repf.sub k fs r⟩
 |_, .exc c fs, h => by
  obtain⟨a, C, φ, e, na, c, s, p, q⟩ := h;refine⟨a, C, φ, e, fun z => na (k _ z), c, s, p, q.imp id ?_⟩
  rintro⟨dx, vs, nx, s2, r, z⟩;exact⟨dx, vs, fun z => nx (k _ z), s2, Repf.sub k fs r, z⟩
theorem Reps.sub(k : ∀ a, B a -> A a) : ∀{vs : Ab V}(ds : Ab D), Reps K CL H A vs ds -> Reps K CL H B vs ds
 |[], [], h => h
 |_::_, d::ds, h => ⟨Rep.sub k d h.1, Reps.sub k ds h.2⟩
 |[], _::_, h => h.elim
 |_::_, [], h => h.elim
theorem Repf.sub(k : ∀ a, B a -> A a) : ∀{vs : Ab (Aj × V)}(ds : Ab (Aj × D)), Repf K CL H A vs ds -> Repf K CL H B vs ds
 |[], [], h => h
 |_::_, d::ds, h => ⟨Repp.sub k d h.1, Repf.sub k ds h.2⟩
 |[], _::_, h => h.elim
 |_::_, [], h => h.elim
theorem Repp.sub(k : ∀ a, B a -> A a) : ∀{v : Aj × V}(d : Aj × D), Repp K CL H A v d -> Repp K CL H B v d
 |_, (_, d), h => ⟨h.1, Rep.sub k d h.2⟩
theorem Repk.sub(k : ∀ a, B a -> A a) : ∀{vs : Ab (Ab Ae × Ai × V)}(ds : Ab (Ab Ae × D)), Repk K CL H A vs ds -> Repk K CL H B vs ds
 |[], [], h => h
 |_::_, d::ds, h => ⟨Repe.sub k d h.1, Repk.sub k ds h.2⟩
 |[], _::_, h => h.elim
 |_::_, [], h => h.elim
theorem Repe.sub(k : ∀ a, B a -> A a) : ∀{v : Ab Ae × Ai × V}(d : Ab Ae × D), Repe K CL H A v d -> Repe K CL H B v d
 |_, (_, d), h => ⟨h.1, Cf.sub k h.2.1, Rep.sub k d h.2.2⟩
end
mutual
theorem Rep.wide(hp : ∀ a, B a -> A a \/ H a = Af) : ∀{v : V}(d : D), Rep K CL H A v d -> Rep K CL H B v d
 |_, .non, h => h
 |_, .bl _, h => h
 |_, .int _, h => h
 |_, .str _, h => h
 |_, .dic kvs, h => by
  obtain⟨a, es, e, na, s, r⟩ := h;exact⟨a, es, e, (fun z => (hp _ z).elim na fun e => by rw[e]at s;cases s), s, Repk.wide hp kvs r⟩
 |_, .tup ds, h => by
  obtain⟨a, xs, e, na, s, r⟩ := h;refine⟨a, xs, e, ?_, s, Reps.wide hp ds r⟩;rcases s with s|s
  ·refine na.imp (fun na z => (hp _ z).elim na fun e => ?_) id
   rcases s with s|⟨o, s⟩ <;> rw[e]at s <;> cases s
  ·exact .inr s
 |_, .lst ds, h => by
  obtain⟨a, xs, e, na, s, r⟩ := h;refine⟨a, xs, e, ?_, s, Reps.wide hp ds r⟩;rcases s with s|s
  ·refine na.imp (fun na z => (hp _ z).elim na fun e => ?_) id
   rcases s with s|⟨o, s⟩ <;> rw[e]at s <;> cases s
  ·exact .inr s
 |_, .obj c fs, h => by
  obtain⟨a, C, dx, vs, e, na, c, s, r⟩ := h;exact⟨a, C, dx, vs, e, (fun z => (hp _ z).elim na fun e => by rw[e]at s;cases s), c, s, Repf.wide hp fs r⟩
 |_, .exc c fs, h => by
  obtain⟨a, C, φ, e, na, c, s, p, q⟩ := h;refine⟨a, C, φ, e, (fun z => (hp _ z).elim na fun e => by rw[e]at s;cases s), c, s, p, q.imp id ?_⟩
  rintro⟨dx, vs, nx, s2, r, z⟩;exact⟨dx, vs, (fun z => (hp _ z).elim nx fun e => by rw[e]at s2;cases s2), s2, Repf.wide hp fs r, z⟩
theorem Reps.wide(hp : ∀ a, B a -> A a \/ H a = Af) : ∀{vs : Ab V}(ds : Ab D), Reps K CL H A vs ds -> Reps K CL H B vs ds
 |[], [], h => h
 |_::_, d::ds, h => ⟨Rep.wide hp d h.1, Reps.wide hp ds h.2⟩
 |[], _::_, h => h.elim
 |_::_, [], h => h.elim
theorem Repf.wide(hp : ∀ a, B a -> A a \/ H a = Af) : ∀{vs : Ab (Aj × V)}(ds : Ab (Aj × D)), Repf K CL H A vs ds -> Repf K CL H B vs ds
 |[], [], h => h
 |_::_, d::ds, h => ⟨Repp.wide hp d h.1, Repf.wide hp ds h.2⟩
 |[], _::_, h => h.elim
 |_::_, [], h => h.elim
theorem Repp.wide(hp : ∀ a, B a -> A a \/ H a = Af) : ∀{v : Aj × V}(d : Aj × D), Repp K CL H A v d -> Repp K CL H B v d
 |_, (_, d), h => ⟨h.1, Rep.wide hp d h.2⟩
theorem Repk.wide(hp : ∀ a, B a -> A a \/ H a = Af) : ∀{vs : Ab (Ab Ae × Ai × V)}(ds : Ab (Ab Ae × D)), Repk K CL H A vs ds -> Repk K CL H B vs ds
 |[], [], h => h
 |_::_, d::ds, h => ⟨Repe.wide hp d h.1, Repk.wide hp ds h.2⟩
 |[], _::_, h => h.elim
 |_::_, [], h => h.elim
theorem Repe.wide(hp : ∀ a, B a -> A a \/ H a = Af) : ∀{v : Ab Ae × Ai × V}(d : Ab Ae × D), Repe K CL H A v d -> Repe K CL H B v d
 |_, (_, d), h => ⟨h.1, Cf.wide hp h.2.1, Rep.wide hp d h.2.2⟩
end
theorem Rep.same(s : As H H')(h : Rep K CL H A v d) : Rep K CL H' A v d := Rep.kp (Kp.of s) d h
theorem Reps.same{v:Ab V}{d:Ab D}(s : As H H')(h : Reps K CL H A v d) : Reps K CL H' A v d := Reps.kp (Kp.of s) d h
theorem BQ.map(f : ∀{vs : Ab V}{ds : Ab D}, Reps K CL H A vs ds -> Reps K CL H' A' vs ds)(g : ∀{vs : Ab (Ab Ae × Ai × V)}{ds : Ab (Ab Ae × D)}, Repk K CL H A vs ds -> Repk K CL H' A' vs ds)(h : BQ K CL H A a o d) : BQ K CL H' A' a o d:=
 h.imp (fun ⟨xs, ds, e1, e2, r⟩ => ⟨xs, ds, e1, e2, f r⟩) fun ⟨xs, ds, e1, e2, r⟩ => ⟨xs, ds, e1, e2, g r⟩
theorem BQ.kp{a : Ai}{o : HO}{d : D}(k : Kp A H H')(h : BQ K CL H A a o d) : BQ K CL H' A a o d := h.map (Reps.kp k _) (Repk.kp k _)
theorem BQ.sub{a : Ai}{o : HO}{d : D}(k : ∀ a, B a -> A a)(h : BQ K CL H A a o d) : BQ K CL H B a o d := h.map (Reps.sub k _) (Repk.sub k _)
theorem BQ.wide{a : Ai}{o : HO}{d : D}(k : ∀ a, B a -> A a \/ H a = Af)(h : BQ K CL H A a o d) : BQ K CL H B a o d := h.map (Reps.wide k _) (Repk.wide k _)
theorem BQ.same(s : As H H')(h : BQ K CL H A a o d) : BQ K CL H' A a o d := h.kp (Kp.of s)
theorem BQ.owk(h : BQ K CL H A a o d) : OwK a o := h.imp (fun ⟨xs, _, e, _⟩ => ⟨xs, e⟩) fun ⟨xs, _, e, _⟩ => ⟨xs, e⟩
theorem BQ.lst{ds : Ab D}(h : Reps K CL H A xs ds) : BQ K CL H A a (.lst xs) (.lst ds) := .inl ⟨xs, ds, rfl, rfl, h⟩
theorem BQ.dic{xs:Ab (Ab Ae × Ai × V)}{ds : Ab (Ab Ae × D)}(h : Repk K CL H A xs ds) : BQ K CL H A a (.ext (B5 a xs)) (.dic ds) := .inr ⟨xs, ds, rfl, rfl, h⟩
theorem BQ.lst_of{ds : Ab D}(h : BQ K CL H A a o (.lst ds)) : ∃ xs, o = .lst xs /\ Reps K CL H A xs ds := by
 rcases h with ⟨xs, ds', e, e2, r⟩|⟨_, _, _, e, _⟩
 ·cases e2;exact⟨xs, e, r⟩
 ·cases e
theorem BQ.dic_of{ds : Ab (Ab Ae × D)}(h : BQ K CL H A a o (.dic ds)) : ∃ xs, o = .ext (B5 a xs) /\ Repk K CL H A xs ds := by
 rcases h with ⟨_, _, _, e, _⟩|⟨xs, ds', e, e2, r⟩
 ·cases e
 ·cases e2;exact⟨xs, e, r⟩
theorem BH.same{v : V}{d : D}(s : As H H')(h : BH K CL H A v d) : BH K CL H' A v d := by
 rcases h with h|⟨a, o, e, q, r⟩
 ·exact .inl (h.same s)
 ·exact .inr ⟨a, o, e, s _ _ q, r.same s⟩
theorem Reps.length : ∀{vs : Ab V}{ds : Ab D}, Reps K CL H A vs ds -> vs.length = ds.length
 |[], [], _ => rfl
 |_::_, _::_, h => congrArg (· + 1) (Reps.length h.2)
 |[], _::_, h => h.elim
 |_::_, [], h => h.elim
theorem Reps.append : ∀{vs ws : Ab V}{ds es : Ab D}, Reps K CL H A vs ds -> Reps K CL H A ws es -> Reps K CL H A (vs++ws) (ds++es)
 |[], _, [], _, _, h => h
 |_::_, _, _::_, _, h, g => ⟨h.1, Reps.append h.2 g⟩
 |[], _, _::_, _, h, _ => h.elim
 |_::_, _, [], _, h, _ => h.elim
theorem Reps.get : ∀{vs : Ab V}{ds : Ab D}{i : Ag}{d : D}, Reps K CL H A vs ds -> ds[i]? = Aa d -> ∃ v, vs[i]? = Aa v /\ Rep K CL H A v d
 |[], [], _, _, _, e => by simp at e
 |v::_, _::_, 0, _, h, e => by simp at e;subst e;exact⟨v, rfl, h.1⟩
 |_::_, _::_, i+1, _, h, e => by
  obtain⟨v, q, r⟩ := Reps.get (i := i) h.2 (by simpa using e)
  exact⟨v, by simpa using q, r⟩
 |[], _::_, _, _, h, _ => h.elim
 |_::_, [], _, _, h, _ => h.elim
theorem Reps.take : ∀{vs : Ab V}{ds : Ab D}(n : Ag), Reps K CL H A vs ds -> Reps K CL H A (vs.take n) (ds.take n)
 |_, _, 0, _ => trivial
 |[], [], _+1, _ => trivial
 |_::_, _::_, n+1, h => ⟨h.1, Reps.take n h.2⟩
 |[], _::_, _+1, h => h.elim
 |_::_, [], _+1, h => h.elim
theorem Reps.drop : ∀{vs : Ab V}{ds : Ab D}(n : Ag), Reps K CL H A vs ds -> Reps K CL H A (vs.drop n) (ds.drop n)
 |_, _, 0, h => h
 |[], [], _+1, _ => trivial
 |_::_, _::_, n+1, h => Reps.drop n h.2
 |[], _::_, _+1, h => h.elim
 |_::_, [], _+1, h => h.elim
theorem Reps.set{x : V}{e : D}(r : Rep K CL H A x e) : ∀{vs : Ab V}{ds : Ab D}(n : Ag), Reps K CL H A vs ds -> Reps K CL H A (vs.set n x) (ds.set n e)
 |[], [], _, _ => trivial
 |_::_, _::_, 0, h => ⟨r, h.2⟩
 |_::_, _::_, n+1, h => ⟨h.1, Reps.set r n h.2⟩
 |[], _::_, _, h => h.elim
 |_::_, [], _, h => h.elim
end
structure Good (K : Fg) (CL : ClA) (A : Ai -> Prop) (ρ : Rho) (σ : L2.St) (H : Hp) : Prop where
 sh : ∀(i : Ag)(d : D), ρ[i]? = Aa (Aa (d, Ad)) -> ∃ v, σ[i]? = Aa (Aa v) /\ Rep K CL H A v d
 ow : ∀(i : Ag)(d : D), ρ[i]? = Aa (Aa (d, Ac)) -> ∃ a o, σ[i]? = Aa (Aa (.ref a)) /\ A a /\ H a = Aa o /\ BQ K CL H A a o d
 len : ρ.length = σ.length
theorem Good.same{K : Fg}{CL : ClA}{A : Ai -> Prop}{ρ : Rho}{σ : L2.St}{H H' : Hp}(g : Good K CL A ρ σ H)(s : As H H') : Good K CL A ρ σ H':=
 ⟨fun i d e => let ⟨v, q, r⟩ := g.sh i d e;⟨v, q, r.same s⟩, fun i d e => let ⟨a, o, q, na, h, r⟩ := g.ow i d e;⟨a, o, q, na, s _ _ h, r.same s⟩, g.len⟩
theorem Good.owL(g : Good K CL A ρ σ H){ds : Ab D}(e : ρ[i]? = Aa (Aa (.lst ds, Ac))) : ∃ a xs ds', σ[i]? = Aa (Aa (.ref a)) /\ D.lst ds = .lst ds' /\ A a /\ H a = Aa (.lst xs) /\ Reps K CL H A xs ds' := by
 obtain⟨a, o, q, na, h, r⟩ := g.ow i _ e;obtain⟨xs, rfl, r'⟩ := r.lst_of;exact⟨a, xs, ds, q, rfl, na, h, r'⟩
theorem Good.owK(g : Good K CL A ρ σ H){ds : Ab (Ab Ae × D)}(e : ρ[i]? = Aa (Aa (.dic ds, Ac))) : ∃ a xs, σ[i]? = Aa (Aa (.ref a)) /\ A a /\ H a = Aa (.ext (B5 a xs)) /\ Repk K CL H A xs ds := by
 obtain⟨a, o, q, na, h, r⟩ := g.ow i _ e;obtain⟨xs, rfl, r'⟩ := r.dic_of;exact⟨a, xs, q, na, h, r'⟩
noncomputable abbrev XW := Ex -> Hp -> Prop
variable{W:XW}
noncomputable def AQ(Rp : Hp -> V -> D -> Prop)(W : XW)(H : Hp)(r : R D)(Q : VK) : Prop := match r with
  |.ok d => ∀ v H', As H H' -> Rp H' v d -> Q v H'
  |.exn x => ∀ H', As H H' -> W x H'
  |.bad => AW
noncomputable def ES(Rp : Hp -> Ab V -> Ab D -> Prop)(W : XW)(H : Hp)(r : R (Ab D))(Q : Ab V -> Hp -> Prop) : Prop := match r with
  |.ok d => ∀ v H', As H H' -> Rp H' v d -> Q v H'
  |.exn x => ∀ H', As H H' -> W x H'
  |.bad => AW
noncomputable def BZ(W : XW)(H : Hp)(r : R An)(Q : An -> Hp -> Prop) : Prop := match r with
  |.ok b => ∀ H', As H H' -> Q b H'
  |.exn x => ∀ H', As H H' -> W x H'
  |.bad => AW
theorem AQ.same(s : As H H')(h : AQ Rp W H r Q) : AQ Rp W H' r Q := by
 cases r with
 |ok d => exact fun v H2 s2 q => h v H2 (s.trans s2) q
 |exn x => exact fun H2 s2 => h H2 (s.trans s2)
 |bad => exact h
theorem BZ.same{r:R An}{Q:An -> Hp -> Prop}(s : As H H')(h : BZ W H r Q) : BZ W H' r Q := by
 cases r with
 |ok d => exact fun H2 s2 => h H2 (s.trans s2)
 |exn x => exact fun H2 s2 => h H2 (s.trans s2)
 |bad => exact h
theorem AQ.bind{f:D -> R D}{Q':VK}(h : AQ Rq W H (r.bind f) Q)(k : ∀ d v H', r = .ok d -> As H H' -> Rp H' v d -> AQ Rq W H' (f d) Q -> Q' v H') : AQ Rp W H r Q' := by
 cases r with
 |ok d => exact fun v H2 s2 q => k d v H2 rfl s2 q (AQ.same s2 h)
 |exn x => exact h
 |bad => exact h
section
variable(X : Cx)(CL : ClA)(W : XW)
noncomputable def SE(e : Ao)(f : Rho -> R D) : Prop := ∀ A, PE X e (fun σ H Q => AOk H A /\ ∃ ρ, Good X.K CL A ρ σ H /\ AQ (fun H => Rep X.K CL H A) W H (f ρ) Q)
noncomputable def ST(e : Ao)(f : Rho -> R D) : Prop := ∀ A, PE X e (fun σ H Q => AOk H A /\ ∃ ρ, Good X.K CL A ρ σ H /\ AQ (fun H => BH X.K CL H A) W H (f ρ) Q)
noncomputable def SB(e : Ao)(f : Rho -> R An) : Prop := ∀ A, PT X e (fun σ H Q => AOk H A /\ ∃ ρ, Good X.K CL A ρ σ H /\ BZ W H (f ρ) Q)
noncomputable def SA(es : Ab Ao)(f : Rho -> R (Ab D)) : Prop := ∀ A, PA X es (fun σ H Q => AOk H A /\ ∃ ρ, Good X.K CL A ρ σ H /\ ES (fun H => Reps X.K CL H A) W H (f ρ) Q)
end
theorem PE.weak{t t':TE}(h : PE X e t)(k : ∀ σ H Q, t' σ H Q -> t σ H Q) : PE X e t' := fun pI s σ H Q I q => h pI s σ H Q I (k _ _ _ q)
theorem PT.weak{t:TT}(h : PT X e t)(k : ∀ σ H Q, t' σ H Q -> t σ H Q) : PT X e t' := fun pI s σ H Q I q => h pI s σ H Q I (k _ _ _ q)
theorem PA.weak{e:Ab Ao}{t t':TA}(h : PA X e t)(k : ∀ σ H Q, t' σ H Q -> t σ H Q) : PA X e t' := fun pos pI s σ H Q I q => h pos pI s σ H Q I (k _ _ _ q)
noncomputable def OpD(X : Cx)(CL : ClA)(W : XW)(f : Ah -> Ah -> Sem Ah)(g : D -> D -> R D) : Prop:=
 ∀ A, OpR X f (fun x y H Q => AOk H A /\ ∃ dx dy, BH X.K CL H A x dx /\ BH X.K CL H A y dy /\ AQ (fun H => Rep X.K CL H A) W H (g dx dy) Q)
section
variable{X : Cx}{CL : ClA}{W : XW}{a b c : Ao}{fa fb fc : Rho -> R D}{pos : AH}
theorem SE.st(h : SE X CL W a fa) : ST X CL W a fa := fun A => PE.weak (h A) fun σ H Q ⟨hA, ρ, g, p⟩ => ⟨hA, ρ, g, by
 cases e : fa ρ with
 |ok d => rw[e]at p;exact fun v H' s r => p v H' s (.inl r)
 |exn x => rw[e]at p;exact p
 | bad => rw[e]at p;exact p⟩
theorem SE.congr{f g:Rho -> R D}(h : SE X CL W a f)(e : ∀ ρ, g ρ = f ρ) : SE X CL W a g := fun A => PE.weak (h A) fun σ H Q ⟨hA, ρ, q, p⟩ => ⟨hA, ρ, q, by rw[<-e];exact p⟩
theorem HZ(h : PE X a (tC v))(r : ∀ H A, AOk H A -> Rep X.K CL H A v d) : SE X CL W a (fun _ => .ok d) := fun A => PE.weak h fun σ H Q ⟨hA, ρ, g, p⟩ => p v H (As.refl H) (r H A hA)
theorem SR{i j} : SE X CL W (.Constant (.int i) j pos) (fun _ => .ok (.int i)) := HZ T8 fun _ _ _ => rfl
theorem VD{b j} : SE X CL W (.Constant (.bool b) j pos) (fun _ => .ok (.bl b)) := HZ V2 fun _ _ _ => rfl
theorem SN{j} : SE X CL W (.Constant .none j pos) (fun _ => .ok .non) := HZ T6 fun _ _ _ => rfl
theorem SL{x j} : SE X CL W (.Constant (.str x) j pos) (fun _ => .ok (.str x)) := HZ T3 fun _ _ _ => rfl
theorem QC(h : Ds ρ i = .ok d) : ρ[i]? = Aa (Aa (d, Ad)) := by
 unfold Ds at h;split at h
 ·rename_i e;cases h;exact e
 ·cases h
theorem LJ(h : Bf ρ i = .ok d) : ∃ o, ρ[i]? = Aa (Aa (d, o)) := by
 unfold Bf at h;split at h
 ·rename_i e;cases h;exact⟨_, e⟩
 ·cases h
theorem Qg(h : Ds ρ i = .exn x) : AW := by
 unfold Ds at h;split at h <;> cases h
theorem Lo(h : Bf ρ i = .exn x) : AW := by
 unfold Bf at h;split at h <;> cases h
theorem SJ(h : PE X a (Fx i)) : SE X CL W a (fun ρ => Ds ρ i) := fun A => PE.weak h fun σ H Q ⟨hA, ρ, g, p⟩ => by
 dsimp only at p;cases e : Ds ρ i with
 |ok d=>
  rw[e]at p;obtain⟨v, q, r⟩ := g.sh i d (QC e);exact⟨v, q, p v H (As.refl H) r⟩
 |exn x => exact(Qg e).elim
 |bad => rw[e]at p;exact p.elim
theorem Md(h : PE X a (Fx i)) : ST X CL W a (fun ρ => Bf ρ i) := fun A => PE.weak h fun σ H Q ⟨hA, ρ, g, p⟩ => by
 dsimp only at p;cases e : Bf ρ i with
 |ok d=>
  rw[e]at p;obtain⟨o, e⟩ := LJ e;cases o with
  |false=>
   obtain⟨v, q, r⟩ := g.sh i d e;exact⟨v, q, p v H (As.refl H) (.inl r)⟩
  |true=>
   obtain⟨x, o, q, ha, hh, r⟩ := g.ow i d e;exact⟨_, q, p _ H (As.refl H) (.inr ⟨x, o, rfl, hh, r⟩)⟩
 |exn x => exact(Lo e).elim
 |bad => rw[e]at p;exact p.elim
theorem op2(h : AOk H A /\ ∃ ρ, Good X.K CL A ρ σ H /\ AQ Rq W H ((fa ρ).bind fun x => (fb ρ).bind fun y => g x y) Q):AOk H A/\∃ ρ,Good X.K CL A ρ σ H/\AQ (fun H =>BH X.K CL H A) W H (fa ρ) (fun x H1 =>AOk H1 A/\∃ ρ,Good X.K CL A ρ σ H1/\AQ (fun H =>BH X.K CL H A) W H1 (fb ρ) (fun y H2=>AOk H2 A/\∃ dx dy,BH X.K CL H2 A x dx/\BH X.K CL H2 A y dy/\AQ Rq W H2 (g dx dy) Q)) := by
 obtain⟨hA, ρ, gd, p⟩ := h;refine⟨hA, ρ, gd, AQ.bind p fun dx x H1 _ s1 r1 p1 => ⟨hA.same s1, ρ, gd.same s1, AQ.bind p1 fun dy y H2 _ s2 r2 p2 => ⟨(hA.same s1).same s2, dx, dy, r1.same s2, r2, p2⟩⟩⟩
theorem Mh{op:EI}(ho : OpD X CL W (Bi op) g)(ha : ST X CL W a fa)(hb : ST X CL W b fb) : SE X CL W (.BinOp a op b pos) (fun ρ => (fa ρ).bind fun x => (fb ρ).bind fun y => g x y):=
 fun A => PE.weak (MG (ho A) (ha A) (hb A)) fun σ H Q h => op2 h
theorem SV(ho : OpD X CL W (Bs op) g)(ha : ST X CL W a fa)(hb : ST X CL W b fb)(hm : Em op b = Ad) : SE X CL W (.Compare a [op] [b] pos) (fun ρ => (fa ρ).bind fun x => (fb ρ).bind fun y => g x y):=
 fun A => PE.weak (Q8 (ho A) (ha A) (hb A) hm) fun σ H Q h => op2 h
theorem BH.int_of{i:Ae}(h : BH K CL H A v (.int i)) : v = .int i := by
 rcases h with h|⟨_, _, _, _, ⟨_, _, _, e, _⟩|⟨_, _, _, e, _⟩⟩
 ·exact h
 ·cases e
 ·cases e
theorem BH.str_of{i:Aj}(h : BH K CL H A v (.str i)) : v = .str i := by
 rcases h with h|⟨_, _, _, _, ⟨_, _, _, e, _⟩|⟨_, _, _, e, _⟩⟩
 ·exact h
 ·cases e
 ·cases e
theorem BH.bl_of{i:An}(h : BH K CL H A v (.bl i)) : v = .bl i := by
 rcases h with h|⟨_, _, _, _, ⟨_, _, _, e, _⟩|⟨_, _, _, e, _⟩⟩
 ·exact h
 ·cases e
 ·cases e
theorem BH.non_of(h : BH K CL H A v .non) : v = .non := by
 rcases h with h|⟨_, _, _, _, ⟨_, _, _, e, _⟩|⟨_, _, _, e, _⟩⟩
 ·exact h
 ·cases e
 ·cases e
theorem BH.lst_of{K : Fg}{H : Hp}{A : Ai -> Prop}{v : V}{ds : Ab D}(h : BH K CL H A v (.lst ds)) : ∃ a xs, v = .ref a /\ SqL K H a xs /\ Reps K CL H A xs ds := by
 rcases h with ⟨a, xs, e, _, s, r⟩|⟨a, o, rfl, s, r⟩
 ·exact⟨a, xs, e, s, r⟩
 ·obtain⟨xs, rfl, r'⟩ := r.lst_of;exact⟨a, xs, rfl, SqL.of s, r'⟩
theorem BH.dic_of{K : Fg}{H : Hp}{A : Ai -> Prop}{v : V}{ds : Ab (Ab Ae × D)}(h : BH K CL H A v (.dic ds)) : ∃ a es, v = .ref a /\ H a = Aa (.ext (B5 a es)) /\ Repk K CL H A es ds := by
 rcases h with ⟨a, xs, e, _, s, r⟩|⟨a, o, rfl, s, r⟩
 ·exact⟨a, xs, e, s, r⟩
 ·obtain⟨xs, rfl, r'⟩ := r.dic_of;exact⟨a, xs, rfl, s, r'⟩
theorem BH.tup_of{ds : Ab D}(h : BH K CL H A v (.tup ds)) : ∃ a xs, v = .ref a /\ (¬ A a \/ KT K a xs) /\ SqT K H a xs /\ Reps K CL H A xs ds := by
 rcases h with ⟨a, xs, e, n, s, r⟩|⟨_, _, _, _, ⟨_, _, _, e, _⟩|⟨_, _, _, e, _⟩⟩
 ·exact⟨a, xs, e, n, s, r⟩
 ·cases e
 ·cases e
theorem R0{i j:Ae}(h : BG i j = Ac) : Il i j := by
 unfold BG at h;simp only[CH, Am, A2]at h;unfold Il;omega
theorem LS{a : Ae}(h : a.natAbs<2 ^ 2000) : Ob a <= 2 ^ 20 := by
 unfold Ob;split
 ·omega
 ·rename_i hz;have h0 : a.natAbs ≠ 0 := by intro z;exact hz (by rw[Int.natAbs_eq_zero.mp z];rfl)
  have := (Nat.log2_lt h0).mpr h;omega
theorem QQ{i j:Ae}(h : (BG i j||FR i j) = Ac) : GV i j := by
 rcases Bool.or_eq_true_iff.mp h with h|h
 ·exact(R0 h).ok
 ·unfold FR at h;rw[Am, A2, A2]at h;exact .of_bits (LS h.1) (LS h.2)
theorem QL : OpR X (Bi .Mult) (rI GV fun i j => .int (i*j)) := opI fun _ _ _ _ _ _ _ hc q => mul_int q hc
theorem Fq(h : B2 n = Ac) : n <= sizeLine := by
 unfold B2 at h;rw[Dy];have := NZ h;omega
theorem LG{ds : Ab D}(hA : AOk H A)(hp : H p = Af)(r : Reps K CL H A xs ds) : Rep K CL (upd H p (.lst xs)) A (.ref p) (.lst ds):=
 ⟨p, xs, rfl, .inl (hA.new hp), SqL.of Fs, r.same fun b o e => by rw[B8 (DD e hp)];exact e⟩
theorem HL{ds : Ab D}(hA : AOk H A)(hp : H p = Af)(r : Reps K CL H A xs ds) : Rep K CL (upd H p (.tup xs)) A (.ref p) (.tup ds):=
 ⟨p, xs, rfl, .inl (hA.new hp), SqT.of Fs, r.same fun b o e => by rw[B8 (DD e hp)];exact e⟩
theorem Ea(h : H p = Af)(o : HO) : As H (upd H p o) := fun b u q => by rw[B8 (DD q h)];exact q
noncomputable def U8(K : Fg) : R2 := fun x y H Q => ∃ l b xs zs, x = .ref l /\ y = .ref b /\ SqL K H l xs /\ SqL K H b zs /\ xs.length+zs.length <= sizeLine /\ ∀ p, H p = Af -> Q (.ref p) (upd H p (.lst (xs++zs)))
end
section
variable{P : AB}{w : AI}{a : Ai}{xs : Ab (Ab Ae × Ai × Ah)}{h : AC}
theorem DZ.of(d : DZ P w a xs h)(k : ∀ x ∈ xs, (TK P w).is h x.1 x.2.1) : h.DictOfH (TK P w) a xs := by
 obtain⟨_, o, es, ep, h1, h2, h3, h4, h5⟩ := d;exact⟨o, es, ep, h1, h2, h3, h4, k, h5⟩
theorem DZ.to(hs : (a==Cv) = Ad)(d : h.DictOfH (TK P w) a xs) : DZ P w a xs h := by
 obtain⟨o, es, ep, h1, h2, h3, h4, k, h5⟩ := d;exact⟨hs, o, es, ep, h1, h2, h3, h4, h5⟩
theorem DZ.keep(d : DZ P w a xs h)(k : ∀ o, h.get? a = Aa o -> h'.get? a = Aa o) : DZ P w a xs h' := by
 obtain⟨hs, o, es, ep, h1, r⟩ := d;exact⟨hs, o, es, ep, k o h1, r⟩
theorem DZ.any(d : DZ P w a xs h) : ∀ P w, DZ P w a xs h := fun _ _ => d
theorem B5.keep{h' : AC}{es : Ab (Ab Ae × Ai × V)}(d : B5 a es h)(k : ∀ o, h.get? a = Aa o -> h'.get? a = Aa o) : B5 a es h' := let ⟨ys, v, d⟩ := d;⟨ys, v, fun P w => (d P w).keep k⟩
theorem ValE.length(v : ValE es ys) : es.length = ys.length := by
 induction v with
 |nil => rfl
 |cons _ _ ih => exact congrArg (· + 1) ih
theorem Pj : ∀{k : Ab Ae}{its : Ab Ah}, AN (k.map V.int) its -> ItemsAre (intKind P w) k its := by
 intro k
 induction k with
 |nil => intro its v;cases v;exact .nil
 |cons i k ih=>
  intro its v;cases v with
  |cons v1 v2=>
   obtain⟨t, rfl⟩ := v1;exact .cons (intKind_is _ _ _ _) (ih v2)
end
section
variable{K : Fg}{CL : ClA}{H : Hp}{A : Ai -> Prop}
theorem PB : ∀{ds : Ab D}{k : Ab Ae}{xs : Ab V}, Cp.keyDs ds = Aa k -> Reps K CL H A xs ds -> xs = k.map V.int := by
 intro ds
 induction ds with
 |nil=>
  intro k xs e r;cases e;cases xs with
  |nil => rfl
  |cons => exact r.elim
 |cons d ds ih=>
  intro k xs e r;cases xs with
  |nil => exact r.elim
  |cons x xs=>
   cases d with
   |int i=>
    have e' : (Cp.keyDs ds).map (i :: ·) = Aa k := e;cases e1 : Cp.keyDs ds with
    |none => rw[e1]at e';cases e'
    |some k'=>
     rw[e1]at e';cases e';have ex : x = .int i := r.1;rw[ex, ih e1 r.2];rfl
   |_ => exact nomatch (show Af = Aa k from e)
theorem QS(r : Rep K CL H A v d)(e : Cp d = Aa k) : ∃ a, v = .ref a /\ Cf K H A a k := by
 cases d with
 |tup ds=>
  obtain⟨a, xs, ev, na, sq, rs⟩ := r;exact⟨a, ev, xs, na, sq, PB e rs⟩
 |_ => exact nomatch (show Af = Aa k from e)
theorem Gw(r : BH K CL H A v d)(e : Cp d = Aa k) : ∃ a, v = .ref a /\ Cf K H A a k := by
 rcases r with r|⟨_, _, _, _, ⟨_, _, _, rfl, _⟩|⟨_, _, _, rfl, _⟩⟩
 ·exact QS r e
 ·exact nomatch (show Af = Aa k from e)
 ·exact nomatch (show Af = Aa k from e)
theorem Repk.length : ∀{es : Ab (Ab Ae × Ai × V)}{kvs : Ab (Ab Ae × D)}, Repk K CL H A es kvs -> es.length = kvs.length
 |[], [], _ => rfl
 |_::_, _::_, h => congrArg (· + 1) (Repk.length h.2)
 |[], _::_, h => h.elim
 |_::_, [], h => h.elim
theorem Gb(v : ValE es ys)(k : Ab Ae) :∀{kvs :Ab (Ab Ae × D)},Repk K CL H A es kvs->(Ef ys k = Af/\Dq kvs k = Af/\(kvs.any fun p =>p.1==k) = Ad)\/∃ p x d,Ef ys k = Aa p/\Dq kvs k = Aa d/\(kvs.any fun p =>p.1==k) = Ac/\AZ x p.2/\Rep K CL H A x d := by
 induction v with
 |nil=>
  intro kvs r;cases kvs with
  |nil => exact .inl ⟨rfl, rfl, rfl⟩
  |cons => exact r.elim
 | @cons k' a x y xs ys rv _ ih=>
  intro kvs r;cases kvs with
  |nil => exact r.elim
  |cons q kvs=>
   obtain⟨k2, d⟩ := q;obtain⟨⟨e1, _, rd⟩, r2⟩ := r;cases (show k' = k2 from e1)
   by_cases hk : k' = k
   ·refine .inr ⟨(a, y), x, d, ?_, ?_, ?_, rv, rd⟩
    ·simp[Ef, hk]
    ·simp[Dq, hk]
    ·simp[hk]
   ·have h0 : (k' == k) = Ad := Cb.mpr hk;rcases ih r2 with ⟨z1, z2, z3⟩|⟨p, x', d', z1, z2, z3, z4⟩
    ·refine .inl ⟨?_, ?_, ?_⟩
     ·simpa [Ef, DM, hk] using z1
     ·simpa [Dq, DM, h0] using z2
     ·rw[ND, z3];simp[h0]
    ·refine .inr ⟨p, x', d', ?_, ?_, ?_, z4⟩
     ·simpa [Ef, DM, hk] using z1
     ·simpa [Dq, DM, h0] using z2
     ·rw[ND, z3];simp
theorem LP(v : ValE es ys){x:V}(kr : Cf K H A ka k)(rx : AZ x y)(rd : Rep K CL H A x d) :∀{kvs :Ab (Ab Ae × D)},Repk K CL H A es kvs->∃ es',ValE es' (ys++[(k,ka,y)])/\Repk K CL H A es' (kvs++[(k,d)]) := by
 induction v with
 |nil=>
  intro kvs r;cases kvs with
  |nil => exact⟨[(k, ka, x)], .cons rx .nil, ⟨rfl, kr, rd⟩, trivial⟩
  |cons => exact r.elim
 | @cons k' a x y xs ys rv _ ih=>
  intro kvs r;cases kvs with
  |nil => exact r.elim
  |cons q kvs=>
   obtain⟨es', h1, h2⟩ := ih r.2;exact⟨(k', a, x)::es', .cons rv h1, r.1, h2⟩
theorem QR(v : ValE es ys){x:V}(rx : AZ x y)(rd : Rep K CL H A x d) :∀{kvs :Ab (Ab Ae × D)},Repk K CL H A es kvs->∃ es',ValE es' (ys.map (putAt k y))/\Repk K CL H A es' (kvs.map fun p =>if (p.1==k) = Ac then (k,d) else p) := by
 induction v with
 |nil=>
  intro kvs r;cases kvs with
  |nil => exact⟨[], .nil, trivial⟩
  |cons => exact r.elim
 | @cons k' a x' y' xs ys rv _ ih=>
  intro kvs r;cases kvs with
  |nil => exact r.elim
  |cons q kvs=>
   obtain⟨es', h1, h2⟩ := ih r.2;obtain⟨k2, d'⟩ := q;obtain⟨⟨e1, kr, rd'⟩, r2⟩ := r;cases (show k' = k2 from e1)
   by_cases hk : k' = k
   ·refine⟨(k', a, x)::es', ?_, ?_⟩
    ·rw[Bj, show putAt k y (k', a, y') = (k', a, y) from AE hk]
     exact .cons rx h1
    ·rw[Bj, AE (show ((k' == k) = Ac) from A7.mpr hk)]
     exact⟨⟨hk, hk ▸ kr, rd⟩, h2⟩
   ·refine⟨(k', a, x')::es', ?_, ?_⟩
    ·rw[Bj, show putAt k y (k', a, y') = (k', a, y') from AF hk]
     exact .cons rv h1
    ·rw[Bj, AF (show ¬ ((k' == k) = Ac) from fun z => hk (A7.mp z))]
     exact⟨⟨rfl, kr, rd'⟩, h2⟩
theorem RH(v : ValE es ys){x:V}(kr : Cf K H A ka k)(rx : AZ x y)(rd : Rep K CL H A x d){kvs:Ab (Ab Ae × D)}(r : Repk K CL H A es kvs):∃ es',ValE es' (storedH ys k ka y)/\Repk K CL H A es' (DW kvs k d) := by
 unfold DW;rcases Gb v k r with ⟨z1, _, z3⟩|⟨p, _, _, z1, _, z3, _⟩
 ·rw[storedH_new z1, AF (by rw[z3];exact Ap)]
  exact LP v kr rx rd r
 ·rw[storedH_old z1, AE z3];exact QR v rx rd r
end
section
variable{X : Cx}{pI : Ab (Ai × AA)}{σ : L2.St}{H : Hp}{s : Ak}{a ka : Ai}{k : Ab Ae}{CL : ClA}{A : Ai -> Prop}{es : Ab (Ab Ae × Ai × V)}{kvs : Ab (Ab Ae × D)}
theorem F7(I : Inv X pI σ H s)(r : Cf X.K H A ka k) : (TK X.prog X.w).is s.heap k ka := by
 obtain⟨xs, _, sq, rfl⟩ := r;obtain⟨its, vs, ⟨o, ho, hc, n, hd⟩, _⟩ := I.tuple sq;exact⟨o, its.toArray, n, ho, hc, hd, Pj vs⟩
theorem R7(I : Inv X pI σ H s)(v : ValE es ys) : ∀{kvs : Ab (Ab Ae × D)}, Repk X.K CL H A es kvs -> ∀ x ∈ ys, (TK X.prog X.w).is s.heap x.1 x.2.1 := by
 induction v with
 |nil => intro kvs r x hx;cases hx
 | @cons k' a x y xs ys rv _ ih=>
  intro kvs r z hz;cases kvs with
  |nil => exact r.elim
  |cons q kvs=>
   obtain⟨k2, d⟩ := q;obtain⟨⟨e1, kr, rd⟩, r2⟩ := r;cases (show k' = k2 from e1)
   rcases AM.mp hz with rfl|hz
   ·exact F7 I kr
   ·exact ih r2 z hz
theorem dic_of(I : Inv X pI σ H s)(hH : H a = Aa (.ext (B5 a es)))(r : Repk X.K CL H A es kvs) : ∃ ys, ValE es ys /\ (a==Cv) = Ad /\ s.heap.DictOfH (TK X.prog X.w) a ys := by
 obtain⟨ys, ve, d⟩ := (I.hok a _ hH).1;have d := d X.prog X.w;exact⟨ys, ve, d.1, d.of (R7 I ve r)⟩
theorem Sh{x:V}{v:Ah}{Q:FQ -> Ak -> Prop}{E : Ah -> Ak -> Prop}(hu : X.A.units+1<A3)(I : Inv X pI σ H s)(hH : H a = Aa (.ext (B5 a es)))(r : Repk X.K CL H A es kvs)(hk : Cf X.K H A ka k)(rx : AZ x v)(rd : Rep X.K CL H A x d)(hz : kvs.length <= sizeLine)(q : ∀ s' es', Repk X.K CL H A es' (DW kvs k d) -> Inv X pI σ (upd H a (.ext (B5 a es'))) s' -> Q () s') : Ay (model X.prog X.w) X.A (FZ (.ref a) (.ref ka) v) Q E s := by
 obtain⟨ys, ve, hs, m⟩ := dic_of I hH r;obtain⟨es', ve', r'⟩ := RH ve hk rx rd r;refine wpAny_setItem_heap (knd := TK X.prog X.w) (hsz := by rw[<-ve.length, r.length];exact hz) (Ci hu) (F7 I hk) m fun h' m sb => q _ es' r' ?_
 obtain⟨o, _, _, h1, _⟩ := id m;exact I.write (x := a) (e := a) (by rw[hH];exact trivial) (.inl rfl) (fun b u hb hu => (sb.2 b hb).trans hu) ⟨o, h1⟩ ⟨⟨_, ve', (DZ.to hs m).any⟩, ⟨o, h1⟩, fun h1 h2 d k => d.keep k⟩
theorem Ux{Q:Ah -> Ak -> Prop}{E : Ah -> Ak -> Prop}(hu : X.A.units+1<A3)(I : Inv X pI σ H s)(hH : H a = Aa (.ext (B5 a es)))(r : Repk X.K CL H A es kvs)(hk : Cf X.K H A ka k)(q : ∀ s', Inv X pI σ H s' -> Q (.bool (kvs.any fun p => p.1==k)) s') : Ay (model X.prog X.w) X.A (Bs .In (.ref ka) (.ref a)) Q E s := by
 obtain⟨ys, ve, hs, m⟩ := dic_of I hH r;refine wpAny_in_heap (knd := TK X.prog X.w) (Ci hu) (F7 I hk) hs m ?_;have e : (Ef ys k).isSome = (kvs.any fun p => p.1==k) := by
  rcases Gb ve k r with ⟨z1, _, z3⟩|⟨p, _, _, z1, _, z3, _⟩ <;> rw[z1, z3] <;> rfl
 rw[e];exact q _ (I.kept fun b o e => e)
theorem Si{Q:Ah -> Ak -> Prop}{E : Ah -> Ak -> Prop}(hu : X.A.units+1<A3)(I : Inv X pI σ H s)(hH : H a = Aa (.ext (B5 a es)))(r : Repk X.K CL H A es kvs)(hk : Cf X.K H A ka k)(q : ∀ s', Inv X pI σ H s' -> Q (.bool (!(kvs.any fun p => p.1==k))) s') : Ay (model X.prog X.w) X.A (Bs .NotIn (.ref ka) (.ref a)) Q E s := by
 obtain⟨ys, ve, hs, m⟩ := dic_of I hH r;refine wpAny_notIn_heap (knd := TK X.prog X.w) (Ci hu) (F7 I hk) hs m ?_;have e : (Ef ys k).isSome = (kvs.any fun p => p.1==k) := by
  rcases Gb ve k r with ⟨z1, _, z3⟩|⟨p, _, _, z1, _, z3, _⟩ <;> rw[z1, z3] <;> rfl
 rw[e];exact q _ (I.kept fun b o e => e)
theorem O9(d : Ai)(hd : (d==Cv) = Ad) : MeetsIn X.prog X.w (Builtin.«dict.__len__» ⟨[.ref d], []⟩) (fun _ R s => ∃ ys, s.heap.DictOfH (TK X.prog X.w) d ys /\ R (.ok (.ret (.int ys.length s.toks))) {s with toks := s.toks+1}):=
 .of_wp fun A R s ⟨ys, hm, h⟩ => by
  obtain⟨o, es, ep, ho, hc, hdat, hk, _, _⟩ := hm;show Ay _ _ (dictSize d >>= _) _ _ s;unfold dictSize;refine Aq (Aq (OG ho hdat (AJ ?_)));show Ay _ _ (Builtin.Dict.pendingCount d >>= _) _ _ s;refine Aq (wpAny_pendingCount_other hd ?_);refine wpAny_ret_mkInt ?_;have : es.size = ys.length := by rw[<-C9, hk, BR]
  rw[Nat.add_zero, this];exact h
theorem RJ{Q:Ah -> Ak -> Prop}{E : Ah -> Ak -> Prop}(I : Inv X pI σ H s)(hH : H a = Aa (.ext (B5 a es)))(r : Repk X.K CL H A es kvs)(hz : kvs.length <= sizeLine)(q : ∀ s' t, Inv X pI σ H s' -> Q (.int kvs.length t) s') : Ay (model X.prog X.w) X.A (call (.builtin "len") [.ref a]) Q E s := by
 obtain⟨ys, ve, hs, m⟩ := dic_of I hH r;have el : ys.length = kvs.length := by rw[<-ve.length, r.length]
 have hf : (ys.length : Ae)<2 ^ 63 := by have := Ge;omega
 refine Calls.call_function_entry kind_len plain_len entry_len (args_len1 _) ?_;unfold Builtin.«len»;refine Aq (m := oneArg "len" _) (AJ ?_);refine Aq (m := callSpecial? (.ref a) (CT "__len__")) (OE (name := CT "__len__") m.typeIs Oh
  (FK Oh m.typeIs F.entry_dict_len (F.args_dict_len_1 _) (O9 a hs) ⟨ys, m, ?_⟩))
 show Ay _ _ _ _ _ {s with toks := s.toks+1}
 refine Aq (C3 (AJ ?_));refine Aq (wpAny_letGo ?_);show Ay _ _ (if ((ys.length : Ag) : Ae)<0 then _ else _) _ _ _
 rw[AF (by omega)]
 show Ay _ _ (if ((ys.length : Ag) : Ae) ≥ 2 ^ 63 then _ else _) _ _ _
 rw[AF (by omega)]
 refine Aq (wpAny_mkInt (AJ ⟨_, rfl, ?_⟩));rw[el];exact q _ _ (I.kept fun b o e => e)
theorem Sj : PE X (.Dict [] [] pos) (fun _ H Q => ∀ a, H a = Af -> Q (.ref a) (upd H a (.ext (B5 a [])))) := fun pI s σ H Q I h => by
 have big : Cv<s.heap.objs.size := Nat.lt_trans (by decide) (I.mod.glob.keeps I.bk).lt
 have at0 : (s.heap.push { cls := .type "dict", data := .dict #[] }).get? s.heap.objs.size = Aa { cls := .type "dict", data := .dict #[] } := A8 _ rfl;refine wpAny_Dict_empty ⟨.ref s.heap.objs.size, _, I.laid (a := s.heap.objs.size) (t' := s.toks) (fun _ _ q => Aw _ q) (AG _) ?_, rfl, h _ (I.hok.fresh (AG _))⟩
 exact⟨⟨[], .nil, DZ.any (P := X.prog) (w := X.w) ⟨Cb.mpr (C5 (Bt big)), _, #[], 0, at0, ⟨rfl, rfl, rfl⟩, rfl, rfl, NV⟩⟩, ⟨_, at0⟩, fun h1 h2 d k => d.keep k⟩
noncomputable def MZ(K : Fg)(CL : ClA)(A : Ai -> Prop) : R2 := fun x y H Q => ∃ a ka es kvs k d, x = .ref a /\ y = .ref ka /\ H a = Aa (.ext (B5 a es)) /\ Repk K CL H A es kvs /\ Cf K H A ka k /\ Dq kvs k = Aa d /\ ∀ v, Rep K CL H A v d -> Q v H
theorem Tz(hu : X.A.units+1<A3) : IxR X (MZ X.K CL A) := by
 intro value slice pI s σ H x y v u Q I rx ry h hs;obtain⟨a, ka, es, kvs, k, d, rfl, rfl, hH, r, hk, hp, q⟩ := h;cases rx;cases ry;obtain⟨ys, ve, _, m⟩ := dic_of I hH r;rcases Gb ve k r with ⟨_, z2, _⟩|⟨p, x, d', z1, z2, _, z4, z5⟩
 ·rw[hp]at z2;cases z2
 ·rw[hp]at z2;cases z2;exact Dw m.typeIs slot_dict_getitem.lookup (wpAny_getItem_heap (knd := TK X.prog X.w) (Q := fun r s' => r = p.2 /\ EP X pI σ Q r s') (Ci hu) (F7 I hk) m z1 ⟨rfl, x, H, I.kept fun b o e => e, z4, q x z5⟩) hs
end
section
variable{X : Cx}{CL : ClA}{W : XW}
theorem LF : OpR X (Bi .Add) (U8 X.K) := by
 intro pI s σ H x y v u Q I rx ry h;obtain⟨l, b, xs, zs, rfl, rfl, hH, hB, hz, q⟩ := h;cases rx;cases ry;obtain⟨its, r, ⟨o, n, e, c, dd, dt⟩, z⟩ := I.list hH;obtain⟨its2, r2, ⟨o2, n2, e2, c2, dd2, dt2⟩, z2⟩ := I.list hB;have hl := r.length;have hl2 := r2.length;obtain⟨cls, dd0, data, sl⟩ := o;obtain⟨cls2, dd02, data2, sl2⟩ := o2;simp only at c dd dt c2 dd2 dt2;subst c dd dt c2 dd2 dt2;have ea : its.toArray++its2.toArray = (its++its2).toArray := by simp
 refine FM ⟨_, e, rfl⟩ ⟨_, e2, rfl⟩ noFill_list_add seq_list_add PySem.F.slot_list_add PySem.F.entry_list_add (PySem.F.args_list_add_2 _ _) (list_addW l b its.toArray its2.toArray n n2 Af Af sl sl2 (by simp;omega)) ⟨e, e2, ?_⟩
 rw[ea];exact⟨.ref _, _, I.lnew (t' := s.toks) (r.append r2) (by rw[B0];omega), rfl, q _ I.fresh⟩
theorem LD : OpD X CL W (Bi .Add) (BP .Add) := by
 intro A pI s σ H x y v u Q I rx ry ⟨hA, dx, dy, hx, hy, p⟩;cases dx with
 |int i=>
  cases dy with
  |int j=>
   have ex := hx.int_of;have ey := hy.int_of
   subst ex ey;exact Tl pI s σ H _ _ v u Q I rx ry ⟨i, j, rfl, rfl, p _ H (As.refl H) rfl⟩
  |_ => exact p.elim
 |str i=>
  cases dy with
  |str j=>
   have ex := hx.str_of;have ey := hy.str_of
   subst ex ey;simp only[Us]at p;split at p
   ·rename_i h;exact OT pI s σ H _ _ v u Q I rx ry ⟨i, j, rfl, rfl, Fq h, p _ H (As.refl H) rfl⟩
   ·exact p.elim
  |_ => exact p.elim
 |lst ds=>
  cases dy with
  |lst es=>
   obtain⟨a, xs, rfl, s1, r1⟩ := hx.lst_of;obtain⟨b, ys, rfl, s2, r2⟩ := hy.lst_of;simp only[L8]at p;split at p
   ·rename_i h;refine LF pI s σ H _ _ v u Q I rx ry ⟨a, b, xs, ys, rfl, rfl, s1, s2, by rw[r1.length, r2.length];exact Fq h, fun q hq => ?_⟩
    exact p _ _ (Ea hq _) (LG hA hq (r1.append r2))
   ·exact p.elim
  |_ => exact p.elim
 |tup ds=>
  cases dy with
  |tup es=>
   obtain⟨a, xs, rfl, na1, s1, r1⟩ := hx.tup_of;obtain⟨b, ys, rfl, _, s2, r2⟩ := hy.tup_of;simp only[Ur]at p;split at p
   ·rename_i h;simp only[Am]at h;refine QN pI s σ H _ _ v u Q I rx ry ⟨a, b, xs, ys, rfl, rfl, s1, s2, ?_, by rw[r1.length, r2.length];exact Fq h.2, fun hy0 => ?_, fun _ q hq => ?_⟩
    ·rintro rfl;cases ds with
     |nil => cases h.1
     |cons _ _ => exact r1.elim
    ·subst hy0;cases es with
     |nil => rw[B6]at p;exact p _ H (As.refl H) ⟨a, xs, rfl, na1, s1, r1⟩
     |cons _ _ => exact r2.elim
    ·exact p _ _ (Ea hq _) (HL hA hq (r1.append r2))
   ·exact p.elim
  |_ => exact p.elim
 |_ => exact p.elim
theorem HJ{op:EI}{C:Ae -> Ae -> Prop}{g:Ae -> Ae -> Ae}(ho : OpR X (Bi op) (rI C fun i j => .int (g i j)))(hg : ∀ dx dy, (∃ i j, dx = .int i /\ dy = .int j /\ ((C i j /\ BP op dx dy = .ok (.int (g i j))) \/ BP op dx dy = .bad)) \/ BP op dx dy = .bad) : OpD X CL W (Bi op) (BP op) := by
 intro A pI s σ H x y v u Q I rx ry ⟨hA, dx, dy, hx, hy, p⟩;rcases hg dx dy with ⟨i, j, rfl, rfl, ⟨c, e⟩|e⟩|e
 ·have ex := hx.int_of;have ey := hy.int_of
  subst ex ey;rw[e]at p;exact ho pI s σ H _ _ v u Q I rx ry ⟨i, j, rfl, rfl, c, p _ H (As.refl H) rfl⟩
 ·rw[e]at p;exact p.elim
 ·rw[e]at p;exact p.elim
theorem Rc : OpD X CL W (Bi .Sub) (BP .Sub) := by
 intro A pI s σ H x y v u Q I rx ry ⟨hA, dx, dy, hx, hy, p⟩;cases dx with
 |int i=>
  cases dy with
  |int j=>
   have ex := hx.int_of;have ey := hy.int_of
   subst ex ey;exact Ub pI s σ H _ _ v u Q I rx ry ⟨i, j, rfl, rfl, p _ H (As.refl H) rfl⟩
  |_ => exact p.elim
 |_ => exact p.elim
theorem Rg : OpD X CL W (Bi .Mult) (BP .Mult) := HJ QL fun dx dy => by
 cases dx with
 |int i=>
  cases dy with
  |int j=>
   refine .inl ⟨i, j, rfl, rfl, ?_⟩;rw[To];split
   ·rename_i h;exact .inl ⟨QQ h, rfl⟩
   ·exact .inr rfl
  |_ => exact .inr rfl
 |_ => exact .inr rfl
theorem P6 : OpD X CL W (Bi .FloorDiv) (BP .FloorDiv) := HJ QM fun dx dy => by
 cases dx with
 |int i=>
  cases dy with
  |int j=>
   refine .inl ⟨i, j, rfl, rfl, ?_⟩;rw[Sf];split
   ·rename_i h;exact .inl ⟨h, rfl⟩
   ·exact .inr rfl
  |_ => exact .inr rfl
 |_ => exact .inr rfl
theorem Rh : OpD X CL W (Bi .Mod) (BP .Mod) := HJ Tj fun dx dy => by
 cases dx with
 |int i=>
  cases dy with
  |int j=>
   refine .inl ⟨i, j, rfl, rfl, ?_⟩;rw[Tq];split
   ·rename_i h;exact .inl ⟨h, rfl⟩
   ·exact .inr rfl
  |_ => exact .inr rfl
 |_ => exact .inr rfl
theorem Re : OpD X CL W (Bi .Pow) (BP .Pow) := HJ Ti fun dx dy => by
 cases dx with
 |int i=>
  cases dy with
  |int j=>
   refine .inl ⟨i, j, rfl, rfl, ?_⟩;rw[TW];split
   ·rename_i h;exact .inl ⟨⟨h.1.1, h.1.2, by omega⟩, rfl⟩
   ·exact .inr rfl
  |_ => exact .inr rfl
 |_ => exact .inr rfl
theorem LC(op : EI) : OpD X CL W (Bi op) (BP op) := by
 cases op with
 |Add => exact LD
 |Sub => exact Rc
 |Mult => exact Rg
 |FloorDiv => exact P6
 |Mod => exact Rh
 |Pow => exact Re
 |_=>
  intro A pI s σ H x y v u Q I rx ry ⟨hA, dx, dy, hx, hy, p⟩;cases dx <;> cases dy <;> exact p.elim
noncomputable abbrev A0 : Ai -> Prop := fun _ => AW
theorem BH.plain(h : BH K CL H A v d) : Rep K CL H A0 v d := by
 rcases h with h|⟨a, o, rfl, e, ⟨xs, ds, rfl, rfl, r⟩|⟨es, ds, rfl, rfl, r⟩⟩
 ·exact Rep.sub (fun _ z => z.elim) d h
 ·exact⟨a, xs, rfl, .inl fun z => z.elim, SqL.of e, Reps.sub (fun _ z => z.elim) ds r⟩
 ·exact⟨a, es, rfl, fun z => z.elim, e, Repk.sub (fun _ z => z.elim) ds r⟩
mutual
theorem QE : ∀(n : Ag)(d : D), flD n d = Ac -> eqD d d = Ac
 |_, .non, _ => rfl
 |_, .bl b, _ => by simp
 |_, .int i, _ => by simp
 |_, .str x, _ => by simp
 |n+1, .tup ds, h => by
  show eqDs ds ds = Ac;exact eqDs_refl n ds h
 |n+1, .lst ds, h => by
  show eqDs ds ds = Ac;exact eqDs_refl n ds h
 |0, .tup ds, h => by cases h
 |0, .lst ds, h => by cases h
 |n, .obj _ _, h => by cases n <;> cases h
 |n, .exc _ _, h => by cases n <;> cases h
 |n, .dic _, h => by cases n <;> cases h
theorem eqDs_refl : ∀(n : Ag)(ds : Ab D), ds.all (flD n) = Ac -> eqDs ds ds = Ac
 |_, [], _ => rfl
 |n, d::ds, h => by
  simp only[El, Am]at h;simp only[IQ, Am];exact⟨QE n d h.1, eqDs_refl n ds h.2⟩
end
theorem K6{ys:Ab V}(I : Inv X pI σ H s)(h : SqL X.K H a xs)(h' : SqT X.K H a ys) : AW := by
 obtain⟨its, r, ⟨o, n, e, c, _, _⟩, _⟩ := I.list h;obtain⟨its', r', ⟨o', e', c', _⟩, _⟩ := I.tuple h';rw[e]at e';cases e';rw[c]at c'
 injection c' with z
 exact absurd z (by decide)
mutual
theorem HH{pI : Ab (Ai × AA)}{σ : L2.St}{H : Hp}{s : Ak}(I : Inv X pI σ H s) : ∀(n : Ag)(d e : D){v : V}, flD n d = Ac -> flD n e = Ac -> Rep X.K CL H A0 v d -> Rep X.K CL H A0 v e -> d = e
 |n, .tup ds, e, v, hd, he, r, q => by
  obtain⟨a, xs, rfl, _, s1, r1⟩ := r;cases e with
  |tup es=>
   obtain⟨b, ys, e, _, s2, r2⟩ := q;cases e;have z := I.tuple_inj s1 s2;subst z;cases n with
   |zero => cases hd
   |succ n => rw[reps_inj I n ds es hd he r1 r2]
  |lst es=>
   obtain⟨b, ys, e, _, s2, r2⟩ := q;cases e;exact(K6 I s2 s1).elim
  |obj => cases n <;> cases he
  |exc => cases n <;> cases he
  |dic => cases n <;> cases he
  |_ => cases q
 |n, .lst ds, e, v, hd, he, r, q => by
  obtain⟨a, xs, rfl, _, s1, r1⟩ := r;cases e with
  |lst es=>
   obtain⟨b, ys, e, _, s2, r2⟩ := q;cases e;have z := I.list_inj s1 s2;subst z;cases n with
   |zero => cases hd
   |succ n => rw[reps_inj I n ds es hd he r1 r2]
  |tup es=>
   obtain⟨b, ys, e, _, s2, r2⟩ := q;cases e;exact(K6 I s1 s2).elim
  |obj => cases n <;> cases he
  |exc => cases n <;> cases he
  |dic => cases n <;> cases he
  |_ => cases q
 |n, .obj _ _, e, v, hd, he, r, q => by cases n <;> cases hd
 |n, .exc _ _, e, v, hd, he, r, q => by cases n <;> cases hd
 |n, .dic _, e, v, hd, he, r, q => by cases n <;> cases hd
 |n, .non, e, v, hd, he, r, q => by
  cases r;cases e with
  |tup => obtain⟨_, _, z, _⟩ := q;cases z
  |lst => obtain⟨_, _, z, _⟩ := q;cases z
  |obj => cases n <;> cases he
  |exc => cases n <;> cases he
  |dic => cases n <;> cases he
  |_ => cases q <;> rfl
 |n, .bl b, e, v, hd, he, r, q => by
  cases r;cases e with
  |tup => obtain⟨_, _, z, _⟩ := q;cases z
  |lst => obtain⟨_, _, z, _⟩ := q;cases z
  |obj => cases n <;> cases he
  |exc => cases n <;> cases he
  |dic => cases n <;> cases he
  |_ => cases q <;> rfl
 |n, .int b, e, v, hd, he, r, q => by
  cases r;cases e with
  |tup => obtain⟨_, _, z, _⟩ := q;cases z
  |lst => obtain⟨_, _, z, _⟩ := q;cases z
  |obj => cases n <;> cases he
  |exc => cases n <;> cases he
  |dic => cases n <;> cases he
  |_ => cases q <;> rfl
 |n, .str b, e, v, hd, he, r, q => by
  cases r;cases e with
  |tup => obtain⟨_, _, z, _⟩ := q;cases z
  |lst => obtain⟨_, _, z, _⟩ := q;cases z
  |obj => cases n <;> cases he
  |exc => cases n <;> cases he
  |dic => cases n <;> cases he
  |_ => cases q <;> rfl
theorem reps_inj{pI : Ab (Ai × AA)}{σ : L2.St}{H : Hp}{s : Ak}(I : Inv X pI σ H s) : ∀(n : Ag)(ds es : Ab D){xs : Ab V}, ds.all (flD n) = Ac -> es.all (flD n) = Ac -> Reps X.K CL H A0 xs ds -> Reps X.K CL H A0 xs es -> ds = es
 |_, [], [], _, _, _, _, _ => rfl
 |n, d::ds, e::es, x::xs, hd, he, r, q => by
  simp only[El, Am]at hd he;rw[HH I n d e hd.1 he.1 r.1 q.1, reps_inj I n ds es hd.2 he.2 r.2 q.2]
 |_, [], _::_, [], _, _, _, q => q.elim
 |_, [], _::_, _::_, _, _, r, _ => r.elim
 |_, _::_, [], [], _, _, r, _ => r.elim
 |_, _::_, [], _::_, _, _, _, q => q.elim
 |_, _::_, _::_, [], _, _, r, _ => r.elim
end
theorem G7 : ∀{ds es : Ab D}, ds.length ≠ es.length -> eqDs ds es = Ad
 |[], [], h => absurd rfl h
 |[], _::_, _ => rfl
 |_::_, [], _ => rfl
 |d::ds, e::es, h => by
  simp only[IQ, G7 (ds := ds) (es := es) (by simpa using h), E9]
theorem Kf(n : Ag)(f : Ag -> An) : (B7 (n+1)).all f = (f 0&&(B7 n).all fun j => f (j+1)) := by
 rw[List.range_succ_eq_map, El, List.all_map];rfl
theorem G8 : ∀{ds es : Ab D}, ds.length = es.length -> eqDs ds es = (B7 ds.length).all fun j => eqD (ds.getD j .non) (es.getD j .non)
 |[], [], _ => rfl
 |d::ds, e::es, h => by
  rw[IQ, G8 (ds := ds) (es := es) (by simpa using h), DA, Kf]
  rfl
 |[], _::_, h => by cases h
 |_::_, [], h => by cases h
theorem Ga{ds : Ab D}(r : Reps K CL H A0 xs ds)(rv : AN xs its)(h : j<its.length):∃ x,Rep K CL H A0 x (ds.getD j .non)/\AZ x its[j] := by
 have e1 := rv.length;have e2 := r.length;have hd : ds[j]? = Aa (ds.getD j .non) := by
  rw[Cm, BK (by omega)];rfl
 obtain⟨x, hx, q⟩ := r.get hd;obtain⟨u, hu, ru⟩ := rv.get hx;refine⟨x, q, ?_⟩;rw[BK h]at hu;cases hu;exact ru
theorem F6{ds : Ab D}(h : ds.all (flD n) = Ac)(j : Ag) : flD n (ds.getD j .non) = Ac := by
 rw[Cm];cases e : ds[j]? with
 |none => cases n <;> rfl
 |some d => exact List.all_eq_true.mp h d (NU e)
noncomputable def BE(B : AK)(s : Ak)(u t : Ah)(k : An) : Prop := Gp B s u t k /\ DU B s u t k /\ FJ B s u t (!k)
section
variable{B : AK}{s : Ak}
open SeqAt
theorem Vj : BE B s .none .none Ac := ⟨RcAt.none_none, EqAt.same _, RcNeAt.none_none⟩
theorem U3(a b : An) : BE B s (.bool a) (.bool b) (a==b) := ⟨RcAt.bool_bool _ _, EqAt.bool_bool _ _, RcNeAt.bool_bool _ _⟩
theorem Vm(b : An) : BE B s .none (.bool b) Ad := ⟨RcAt.none_bool _, EqAt.none_bool _, RcNeAt.none_bool _⟩
theorem VA(b : An) : BE B s (.bool b) .none Ad := ⟨RcAt.bool_none _, EqAt.bool_none _, RcNeAt.bool_none _⟩
theorem Vw(a : Ae)(t : B9)(b : Ae)(u : B9) : BE B s (.int a t) (.int b u) (a==b) := ⟨RcAt.int_int _ _ _ _, EqAt.int_int _ _ _ _, RcNeAt.int_int _ _ _ _⟩
theorem Vc(a : Aj)(t : B9)(b : Aj)(u : B9) : BE B s (.str a t) (.str b u) (a==b) := ⟨RcAt.str_str _ _ _ _, EqAt.str_str _ _ _ _, RcNeAt.str_str _ _ _ _⟩
theorem Vt(a : Ae)(t : B9)(b : Aj)(u : B9) : BE B s (.int a t) (.str b u) Ad := ⟨RcAt.int_str _ _ _ _, EqAt.int_str _ _ _ _, RcNeAt.int_str _ _ _ _⟩
theorem Vf(a : Aj)(t : B9)(b : Ae)(u : B9) : BE B s (.str a t) (.int b u) Ad := ⟨RcAt.str_int _ _ _ _, EqAt.str_int _ _ _ _, RcNeAt.str_int _ _ _ _⟩
theorem Vl(b : Ae)(u : B9) : BE B s .none (.int b u) Ad := ⟨RcAt.none_int _ _, EqAt.none_int _ _, RcNeAt.none_int _ _⟩
theorem Vu(b : Ae)(u : B9) : BE B s (.int b u) .none Ad := ⟨RcAt.int_none _ _, EqAt.int_none _ _, RcNeAt.int_none _ _⟩
theorem Vi(b : Aj)(u : B9) : BE B s .none (.str b u) Ad := ⟨RcAt.none_str _ _, EqAt.none_str _ _, RcNeAt.none_str _ _⟩
theorem Vd(b : Aj)(u : B9) : BE B s (.str b u) .none Ad := ⟨RcAt.str_none _ _, EqAt.str_none _ _, RcNeAt.str_none _ _⟩
theorem U2(a : An)(b : Ae)(u : B9) : BE B s (.bool a) (.int b u) (b2i a==b) := ⟨RcAt.bool_int _ _ _, EqAt.bool_int _ _ _, RcNeAt.bool_int _ _ _⟩
theorem Vx(a : An)(b : Ae)(u : B9) : BE B s (.int b u) (.bool a) (b==b2i a) := ⟨RcAt.int_bool _ _ _, EqAt.int_bool _ _ _, RcNeAt.int_bool _ _ _⟩
theorem Vz(a : An)(b : Aj)(u : B9) : BE B s (.bool a) (.str b u) Ad := ⟨RcAt.bool_str _ _ _, EqAt.bool_str _ _ _, RcNeAt.bool_str _ _ _⟩
theorem Vg(a : An)(b : Aj)(u : B9) : BE B s (.str b u) (.bool a) Ad := ⟨RcAt.str_bool _ _ _, EqAt.str_bool _ _ _, RcNeAt.str_bool _ _ _⟩
variable{l : Ai}{items : A6 Ah}
theorem Vp(h : s.heap.IsList l items)(hu : B.units<A3) : BE B s (.ref l) .none Ad := ⟨RcAt.list_none h hu, EqAt.list_none h hu, RcNeAt.list_none h hu⟩
theorem Vk(h : s.heap.IsList l items)(hu : B.units<A3) : BE B s .none (.ref l) Ad := ⟨RcAt.none_list h hu, EqAt.none_list h hu, RcNeAt.none_list h hu⟩
theorem Vr(b : An)(h : s.heap.IsList l items)(hu : B.units<A3) : BE B s (.ref l) (.bool b) Ad := ⟨RcAt.list_bool b h hu, EqAt.list_bool b h hu, RcNeAt.list_bool b h hu⟩
theorem VB(b : An)(h : s.heap.IsList l items)(hu : B.units<A3) : BE B s (.bool b) (.ref l) Ad := ⟨RcAt.bool_list b h hu, EqAt.bool_list b h hu, RcNeAt.bool_list b h hu⟩
theorem Vq(b : Ae)(u : B9)(h : s.heap.IsList l items)(hu : B.units<A3) : BE B s (.ref l) (.int b u) Ad := ⟨RcAt.list_int b u h hu, EqAt.list_int b u h hu, RcNeAt.list_int b u h hu⟩
theorem Vv(b : Ae)(u : B9)(h : s.heap.IsList l items)(hu : B.units<A3) : BE B s (.int b u) (.ref l) Ad := ⟨RcAt.int_list b u h hu, EqAt.int_list b u h hu, RcNeAt.int_list b u h hu⟩
theorem Vo(b : Aj)(u : B9)(h : s.heap.IsList l items)(hu : B.units<A3) : BE B s (.ref l) (.str b u) Ad := ⟨RcAt.list_str b u h hu, EqAt.list_str b u h hu, RcNeAt.list_str b u h hu⟩
theorem Ve(b : Aj)(u : B9)(h : s.heap.IsList l items)(hu : B.units<A3) : BE B s (.str b u) (.ref l) Ad := ⟨RcAt.str_list b u h hu, EqAt.str_list b u h hu, RcNeAt.str_list b u h hu⟩
theorem VM(h : s.heap.IsTuple l items)(hu : B.units<A3) : BE B s (.ref l) .none Ad := ⟨RcAt.tuple_none h hu, EqAt.tuple_none h hu, RcNeAt.tuple_none h hu⟩
theorem Vh(h : s.heap.IsTuple l items)(hu : B.units<A3) : BE B s .none (.ref l) Ad := ⟨RcAt.none_tuple h hu, EqAt.none_tuple h hu, RcNeAt.none_tuple h hu⟩
theorem VP(b : An)(h : s.heap.IsTuple l items)(hu : B.units<A3) : BE B s (.ref l) (.bool b) Ad := ⟨RcAt.tuple_bool b h hu, EqAt.tuple_bool b h hu, RcNeAt.tuple_bool b h hu⟩
theorem Vy(b : An)(h : s.heap.IsTuple l items)(hu : B.units<A3) : BE B s (.bool b) (.ref l) Ad := ⟨RcAt.bool_tuple b h hu, EqAt.bool_tuple b h hu, RcNeAt.bool_tuple b h hu⟩
theorem VO(b : Ae)(u : B9)(h : s.heap.IsTuple l items)(hu : B.units<A3) : BE B s (.ref l) (.int b u) Ad := ⟨RcAt.tuple_int b u h hu, EqAt.tuple_int b u h hu, RcNeAt.tuple_int b u h hu⟩
theorem Vs(b : Ae)(u : B9)(h : s.heap.IsTuple l items)(hu : B.units<A3) : BE B s (.int b u) (.ref l) Ad := ⟨RcAt.int_tuple b u h hu, EqAt.int_tuple b u h hu, RcNeAt.int_tuple b u h hu⟩
theorem VL(b : Aj)(u : B9)(h : s.heap.IsTuple l items)(hu : B.units<A3) : BE B s (.ref l) (.str b u) Ad := ⟨RcAt.tuple_str b u h hu, EqAt.tuple_str b u h hu, RcNeAt.tuple_str b u h hu⟩
theorem VQ(b : Aj)(u : B9)(h : s.heap.IsTuple l items)(hu : B.units<A3) : BE B s (.str b u) (.ref l) Ad := ⟨RcAt.str_tuple b u h hu, EqAt.str_tuple b u h hu, RcNeAt.str_tuple b u h hu⟩
theorem Vn(h : s.heap.IsList l items)(h2 : s.heap.IsTuple b items2)(hu : B.units<A3) : BE B s (.ref l) (.ref b) Ad := ⟨RcAt.list_tuple h h2 hu, EqAt.list_tuple h h2 hu, RcNeAt.list_tuple h h2 hu⟩
theorem VN(h : s.heap.IsTuple l items)(h2 : s.heap.IsList b items2)(hu : B.units<A3) : BE B s (.ref l) (.ref b) Ad := ⟨RcAt.tuple_list h h2 hu, EqAt.tuple_list h h2 hu, RcNeAt.tuple_list h h2 hu⟩
end
end
section
variable{X : Cx}{CL : ClA}{W : XW}
theorem GE{its:A6 Ah}(x : PlainL h a its) : h.IsList a its := let ⟨o, n, e, c, _, d⟩ := x;⟨o, e, c, n, d⟩
noncomputable def W4(X : Cx)(CL : ClA)(H : Hp)(s : Ak)(d : D)(u : Ah) : Prop := match d with
  |.non => u = .none
  |.bl b => u = .bool b
  |.int i => ∃ t, u = .int i t
  |.str x => ∃ t, u = .str x t
  |.tup ds => ∃ a xs its, u = .ref a /\ Reps X.K CL H A0 xs ds /\ AN xs its /\ s.heap.IsTuple a its.toArray
  |.lst ds => ∃ a xs its, u = .ref a /\ Reps X.K CL H A0 xs ds /\ AN xs its /\ s.heap.IsList a its.toArray
  |_ => AW
theorem LN(I : Inv X pI σ H s)(hd : flD n d = Ac)(r : Rep X.K CL H A0 v d)(q : AZ v u) : W4 X CL H s d u := by
 cases d with
 |non => cases r;exact q
 |bl b => cases r;exact q
 |int b => cases r;exact q
 |str b => cases r;exact q
 |tup ds=>
  obtain⟨a, xs, rfl, _, sq, r⟩ := r;obtain⟨its, rv, p, _⟩ := I.tuple sq;cases q;exact⟨a, xs, its, rfl, r, rv, p⟩
 |lst ds=>
  obtain⟨a, xs, rfl, _, sq, r⟩ := r;obtain⟨its, rv, p, _⟩ := I.list sq;cases q;exact⟨a, xs, its, rfl, r, rv, GE p⟩
 |obj => cases n <;> cases hd
 |exc => cases n <;> cases hd
 |dic => cases n <;> cases hd
theorem RG{B:AK}{ds es : Ab D}(hl : s.heap.IsList l its.toArray)(hb : s.heap.IsList b its2.toArray)(e1 : its.length = ds.length)(e2 : its2.length = es.length)(hu : B.units<A3)(hs : l = b -> eqDs ds es = Ac)(he : ∀ j (h1 : j<its.length) (h2 : j<its2.length), DU B.in1 s its[j] its2[j] (eqD (ds.getD j .non) (es.getD j .non))) : BE B s (.ref l) (.ref b) (eqDs ds es) := by
 have rc : Gp B s (.ref l) (.ref b) (eqDs ds es) := by
  by_cases hz : its.length = its2.length
  ·have q := SeqAt.RcAt.lists (e := fun j => eqD (ds.getD j .non) (es.getD j .non)) hl hb (by simpa using hz) hu (fun j h1 h2 => by simpa using he j (by simpa using h1) (by simpa using h2))
   rw[G8 (by omega)]
   have e : its.toArray.size = ds.length := by simpa using e1
   rw[e]at q;exact q
  ·rw[G7 (by omega)]
   exact SeqAt.RcAt.lists_lengths hl hb (by simpa using hz) hu
 have ne : FJ B s (.ref l) (.ref b) (!eqDs ds es) := by
  by_cases hz : its.length = its2.length
  ·have q := SeqAt.RcNeAt.lists (e := fun j => eqD (ds.getD j .non) (es.getD j .non)) hl hb (by simpa using hz) hu (fun j h1 h2 => by simpa using he j (by simpa using h1) (by simpa using h2))
   rw[G8 (by omega)]
   have e : its.toArray.size = ds.length := by simpa using e1
   rw[e]at q;exact q
  ·rw[G7 (by omega)]
   exact SeqAt.RcNeAt.lists_lengths hl hb (by simpa using hz) hu
 refine⟨rc, ?_, ne⟩;by_cases hlb : l = b
 ·rw[hs hlb, hlb];exact On _
 ·exact Om hlb rc
theorem RF{B:AK}{ds es : Ab D}(hl : s.heap.IsTuple l its.toArray)(hb : s.heap.IsTuple b its2.toArray)(e1 : its.length = ds.length)(e2 : its2.length = es.length)(hu : B.units<A3)(hs : l = b -> eqDs ds es = Ac)(he : ∀ j (h1 : j<its.length) (h2 : j<its2.length), DU B.in1 s its[j] its2[j] (eqD (ds.getD j .non) (es.getD j .non))) : BE B s (.ref l) (.ref b) (eqDs ds es) := by
 have rc : Gp B s (.ref l) (.ref b) (eqDs ds es) := by
  have q := SeqAt.RcAt.tuples (e := fun j => eqD (ds.getD j .non) (es.getD j .non)) hl hb hu (fun j h1 h2 => by simpa using he j (by simpa using h1) (by simpa using h2))
  have e : its.toArray.size = ds.length := by simpa using e1
  have e' : its2.toArray.size = es.length := by simpa using e2
  rw[e, e']at q;by_cases hz : ds.length = es.length
  ·rw[G8 hz];rw[hz, N3, DH, Nt]at q;rw[hz];exact q
  ·rw[G7 hz];rw[Cb.mpr hz, E9]at q;exact q
 have ne : FJ B s (.ref l) (.ref b) (!eqDs ds es) := by
  have q := SeqAt.RcNeAt.tuples (e := fun j => eqD (ds.getD j .non) (es.getD j .non)) hl hb hu (fun j h1 h2 => by simpa using he j (by simpa using h1) (by simpa using h2))
  have e : its.toArray.size = ds.length := by simpa using e1
  have e' : its2.toArray.size = es.length := by simpa using e2
  rw[e, e']at q;by_cases hz : ds.length = es.length
  ·rw[G8 hz];rw[hz, N3, DH, Nt]at q;rw[hz];exact q
  ·rw[G7 hz];rw[Cb.mpr hz, E9]at q;exact q
 refine⟨rc, ?_, ne⟩;by_cases hlb : l = b
 ·rw[hs hlb, hlb];exact On _
 ·exact Om hlb rc
theorem Hf{pI : Ab (Ai × AA)}{σ : L2.St}{H : Hp}{s : Ak}(I : Inv X pI σ H s) :∀(n :Ag)(d e :D)(v w' :V)(u t :Ah)(B :AK),flD n d = Ac->flD n e = Ac->Rep X.K CL H A0 v d->Rep X.K CL H A0 w' e->AZ v u->AZ w' t->B.units+n<A3->BE B s u t (eqD d e)
  |n, d, e, v, w', u, t, B, hd, he, r, q, rv, rw', hu => by
    have hu0 : B.units<A3 := by omega
    have sd := LN I hd r rv;have se := LN I he q rw'
    match d, e, sd, se with
    |.non, .non, s1, s2 => cases s1;cases s2;exact Vj
    |.non, .bl b, s1, s2 => cases s1;cases s2;exact Vm b
    |.non, .int b, s1, s2 => cases s1;obtain⟨_, rfl⟩ := s2;exact Vl b _
    |.non, .str b, s1, s2 => cases s1;obtain⟨_, rfl⟩ := s2;exact Vi b _
    |.non, .tup es, s1, s2 => cases s1;obtain⟨_, _, _, rfl, _, _, p⟩ := s2;exact Vh p hu0
    |.non, .lst es, s1, s2 => cases s1;obtain⟨_, _, _, rfl, _, _, p⟩ := s2;exact Vk p hu0
    |.bl a, .non, s1, s2 => cases s1;cases s2;exact VA a
    |.bl a, .bl b, s1, s2 => cases s1;cases s2;exact U3 a b
    |.bl a, .int b, s1, s2 => cases s1;obtain⟨_, rfl⟩ := s2;exact U2 a b _
    |.bl a, .str b, s1, s2 => cases s1;obtain⟨_, rfl⟩ := s2;exact Vz a b _
    |.bl a, .tup es, s1, s2 => cases s1;obtain⟨_, _, _, rfl, _, _, p⟩ := s2;exact Vy a p hu0
    |.bl a, .lst es, s1, s2 => cases s1;obtain⟨_, _, _, rfl, _, _, p⟩ := s2;exact VB a p hu0
    |.int a, .non, s1, s2 => obtain⟨_, rfl⟩ := s1;cases s2;exact Vu a _
    |.int a, .bl b, s1, s2 => obtain⟨_, rfl⟩ := s1;cases s2;exact Vx b a _
    |.int a, .int b, s1, s2 => obtain⟨_, rfl⟩ := s1;obtain⟨_, rfl⟩ := s2;exact Vw a _ b _
    |.int a, .str b, s1, s2 => obtain⟨_, rfl⟩ := s1;obtain⟨_, rfl⟩ := s2;exact Vt a _ b _
    |.int a, .tup es, s1, s2 => obtain⟨_, rfl⟩ := s1;obtain⟨_, _, _, rfl, _, _, p⟩ := s2;exact Vs a _ p hu0
    |.int a, .lst es, s1, s2 => obtain⟨_, rfl⟩ := s1;obtain⟨_, _, _, rfl, _, _, p⟩ := s2;exact Vv a _ p hu0
    |.str a, .non, s1, s2 => obtain⟨_, rfl⟩ := s1;cases s2;exact Vd a _
    |.str a, .bl b, s1, s2 => obtain⟨_, rfl⟩ := s1;cases s2;exact Vg b a _
    |.str a, .int b, s1, s2 => obtain⟨_, rfl⟩ := s1;obtain⟨_, rfl⟩ := s2;exact Vf a _ b _
    |.str a, .str b, s1, s2 => obtain⟨_, rfl⟩ := s1;obtain⟨_, rfl⟩ := s2;exact Vc a _ b _
    |.str a, .tup es, s1, s2 => obtain⟨_, rfl⟩ := s1;obtain⟨_, _, _, rfl, _, _, p⟩ := s2;exact VQ a _ p hu0
    |.str a, .lst es, s1, s2 => obtain⟨_, rfl⟩ := s1;obtain⟨_, _, _, rfl, _, _, p⟩ := s2;exact Ve a _ p hu0
    |.tup ds, .non, s1, s2 => cases s2;obtain⟨_, _, _, rfl, _, _, p⟩ := s1;exact VM p hu0
    |.tup ds, .bl b, s1, s2 => cases s2;obtain⟨_, _, _, rfl, _, _, p⟩ := s1;exact VP b p hu0
    |.tup ds, .int b, s1, s2 => obtain⟨_, rfl⟩ := s2;obtain⟨_, _, _, rfl, _, _, p⟩ := s1;exact VO b _ p hu0
    |.tup ds, .str b, s1, s2 => obtain⟨_, rfl⟩ := s2;obtain⟨_, _, _, rfl, _, _, p⟩ := s1;exact VL b _ p hu0
    |.tup ds, .lst es, s1, s2 => obtain⟨_, _, _, rfl, _, _, p⟩ := s1;obtain⟨_, _, _, rfl, _, _, p2⟩ := s2;exact VN p p2 hu0
    |.lst ds, .non, s1, s2 => cases s2;obtain⟨_, _, _, rfl, _, _, p⟩ := s1;exact Vp p hu0
    |.lst ds, .bl b, s1, s2 => cases s2;obtain⟨_, _, _, rfl, _, _, p⟩ := s1;exact Vr b p hu0
    |.lst ds, .int b, s1, s2 => obtain⟨_, rfl⟩ := s2;obtain⟨_, _, _, rfl, _, _, p⟩ := s1;exact Vq b _ p hu0
    |.lst ds, .str b, s1, s2 => obtain⟨_, rfl⟩ := s2;obtain⟨_, _, _, rfl, _, _, p⟩ := s1;exact Vo b _ p hu0
    |.lst ds, .tup es, s1, s2 => obtain⟨_, _, _, rfl, _, _, p⟩ := s1;obtain⟨_, _, _, rfl, _, _, p2⟩ := s2;exact Vn p p2 hu0
    |.tup ds, .tup es, s1, s2=>
      match n, hd, he, hu with
      |n+1, hd, he, hu=>
        obtain⟨a, xs, its, rfl, r1, v1, p1⟩ := s1;obtain⟨b, ys, its2, rfl, r2, v2, p2⟩ := s2;have l1 := v1.length;have l2 := r1.length;have l3 := v2.length;have l4 := r2.length
        refine RF p1 p2 (by omega) (by omega) hu0 (fun hab => ?_) fun j h1 h2 => ?_
        · have e1 : v = .ref a := AZ.inj rv rfl;have e2 : w' = .ref b := AZ.inj rw' rfl;subst e1 e2 hab;have z := HH I (n+1) _ _ hd he r q
          injection z with z
          rw[z];exact eqDs_refl n es he
        · obtain⟨x, rx, qx⟩ := Ga r1 v1 h1;obtain⟨y, ry, qy⟩ := Ga r2 v2 h2;exact(Hf I n _ _ x y _ _ B.in1 (F6 hd j) (F6 he j) rx ry qx qy (by show B.units+1+n<A3;omega)).2.1
    |.lst ds, .lst es, s1, s2=>
      match n, hd, he, hu with
      |n+1, hd, he, hu=>
        obtain⟨a, xs, its, rfl, r1, v1, p1⟩ := s1;obtain⟨b, ys, its2, rfl, r2, v2, p2⟩ := s2;have l1 := v1.length;have l2 := r1.length;have l3 := v2.length;have l4 := r2.length
        refine RG p1 p2 (by omega) (by omega) hu0 (fun hab => ?_) fun j h1 h2 => ?_
        · have e1 : v = .ref a := AZ.inj rv rfl;have e2 : w' = .ref b := AZ.inj rw' rfl;subst e1 e2 hab;have z := HH I (n+1) _ _ hd he r q
          injection z with z
          rw[z];exact eqDs_refl n es he
        · obtain⟨x, rx, qx⟩ := Ga r1 v1 h1;obtain⟨y, ry, qy⟩ := Ga r2 v2 h2;exact(Hf I n _ _ x y _ _ B.in1 (F6 hd j) (F6 he j) rx ry qx qy (by show B.units+1+n<A3;omega)).2.1
    |.obj _ _, _, s1, _ => exact s1.elim
    |.exc _ _, _, s1, _ => exact s1.elim
    |.dic _, _, s1, _ => exact s1.elim
    |_, .obj _ _, _, s2 => exact s2.elim
    |_, .exc _ _, _, s2 => exact s2.elim
    |_, .dic _, _, s2 => exact s2.elim
end
section
variable{X : Cx}{CL : ClA}{W : XW}
theorem HP(I : Inv X pI σ H s){ds : Ab D}(B : AK)(hd : flD n d = Ac)(hs : ds.all (flD n) = Ac)(r : Reps X.K CL H A0 xs ds)(rv : AN xs its)(q : Rep X.K CL H A0 v d)(qv : AZ v u)(hu : B.units+n<A3):∃ e :Ah->An,(∀ y,y ∈ its.toArray->DU B s y u (e y))/\its.toArray.any e = ds.any fun y =>eqD y d := by
 have l1 := rv.length;have l2 := r.length
 have key : ∀ y, y ∈ its -> ∃ k : An, DU B s y u k /\ ∀ j (h : j<its.length), its[j] = y -> eqD (ds.getD j .non) d = k := fun y hy => by
  obtain⟨j, hj, rfl⟩ := D3 hy;obtain⟨x, rx, qx⟩ := Ga r rv hj;refine⟨eqD (ds.getD j .non) d, (Hf I n _ _ x v _ _ B (F6 hs j) hd rx q qx qv hu).2.1, fun j' hj' e => ?_⟩
  obtain⟨x', rx', qx'⟩ := Ga r rv hj';rw[e]at qx';have z := AZ.inj qx qx';subst z;rw[HH I n _ _ (F6 hs j') (F6 hs j) rx' rx]
 have key2 : ∀ y, ∃ k : An, y ∈ its -> DU B s y u k /\ ∀ j (h : j<its.length), its[j] = y -> eqD (ds.getD j .non) d = k := fun y => by
  by_cases hy : y ∈ its
  ·obtain⟨k, hk⟩ := key y hy;exact⟨k, fun _ => hk⟩
  ·exact⟨Ac, fun h => absurd h hy⟩
 refine⟨fun y => Nu (key2 y), fun y hy => (CQ (key2 y) (by simpa using hy)).1, ?_⟩
 rw[EX];simp only[List.any_toArray, NE];constructor
 ·rintro⟨y, hy, hk⟩;obtain⟨j, hj, rfl⟩ := D3 hy;have z := (CQ (key2 its[j]) hy).2 j hj rfl;rw[hk]at z;refine⟨ds.getD j .non, ?_, z⟩;rw[Cm, BK (by omega)]
  exact EE _
 ·rintro⟨y, hy, hk⟩;obtain⟨j, hj, rfl⟩ := D3 hy;have hj' : j<its.length := by omega
  refine⟨its[j], EE _, ?_⟩;have z := (CQ (key2 its[j]) (EE _)).2 j hj' rfl;rw[<-z, Cm, BK hj];exact hk
theorem HF{g:Ae -> Ae -> An}(ho : OpR X (Bs op) (rI0 fun i j => .bl (g i j)))(hg : ∀ dx dy, (∃ i j, dx = .int i /\ dy = .int j /\ Bg op dx dy = .ok (.bl (g i j))) \/ Bg op dx dy = .bad) : OpD X CL W (Bs op) (Bg op) := by
 intro A pI s σ H x y v u Q I rx ry ⟨hA, dx, dy, hx, hy, p⟩;rcases hg dx dy with ⟨i, j, rfl, rfl, e⟩|e
 ·have ex := hx.int_of;have ey := hy.int_of
  subst ex ey;rw[e]at p;exact ho pI s σ H _ _ v u Q I rx ry ⟨i, j, rfl, rfl, p _ H (As.refl H) rfl⟩
 ·rw[e]at p;exact p.elim
theorem LX{x:V}(h : BH X.K CL H A x d)(hd : d ≠ .non) : x ≠ .non := by
 rintro rfl;have h := h.plain;cases d with
 |non => exact hd rfl
 |tup => obtain⟨_, _, e, _⟩ := h;cases e
 |lst => obtain⟨_, _, e, _⟩ := h;cases e
 |obj => obtain⟨_, _, _, _, e, _⟩ := h;cases e
 |exc => obtain⟨_, _, _, e, _⟩ := h;cases e
 |dic => obtain⟨_, _, e, _⟩ := h;cases e
 |_ => cases h
theorem Gv(hu : X.A.units+64<A3)(op : CP) : OpD X CL W (Bs op) (Bg op) := by
 cases op with
 |Eq=>
  intro A pI s σ H x y v u Q I rx ry ⟨hA, dx, dy, hx, hy, p⟩;rw[WA]at p;split at p
  ·rename_i h;simp only[Am]at h;exact(Hf I 5 dx dy x y v u X.A h.1 h.2 hx.plain hy.plain rx ry (by omega)).1 X.prog X.w X.xe _ ⟨.bl _, H, I, rfl, p _ H (As.refl H) rfl⟩
  ·exact p.elim
 |NotEq=>
  intro A pI s σ H x y v u Q I rx ry ⟨hA, dx, dy, hx, hy, p⟩;rw[Wd]at p;split at p
  ·rename_i h;simp only[Am]at h;exact(Hf I 5 dx dy x y v u X.A h.1 h.2 hx.plain hy.plain rx ry (by omega)).2.2 X.prog X.w X.xe _ ⟨.bl _, H, I, rfl, p _ H (As.refl H) rfl⟩
  ·exact p.elim
 |Lt => exact HF V5 fun dx dy => by cases dx <;> cases dy <;> first|exact .inl ⟨_, _, rfl, rfl, rfl⟩|exact .inr rfl
 |LtE => exact HF V6 fun dx dy => by cases dx <;> cases dy <;> first|exact .inl ⟨_, _, rfl, rfl, rfl⟩|exact .inr rfl
 |Gt => exact HF V7 fun dx dy => by cases dx <;> cases dy <;> first|exact .inl ⟨_, _, rfl, rfl, rfl⟩|exact .inr rfl
 |GtE => exact HF V8 fun dx dy => by cases dx <;> cases dy <;> first|exact .inl ⟨_, _, rfl, rfl, rfl⟩|exact .inr rfl
 |In=>
  intro A pI s σ H x y v u Q I rx ry ⟨hA, dx, dy, hx, hy, p⟩;cases dy with
  |lst es=>
   rw[WD]at p;split at p
   ·rename_i h;simp only[Am]at h;obtain⟨a, xs, e, _, sq, r⟩ := hy.plain;subst e;cases ry;obtain⟨its, rv, pl, _⟩ := I.list sq;obtain⟨e, he, ha⟩ := HP I (n := 5) X.A.in1 h.1 h.2 r rv hx.plain rx (by show X.A.units+1+5<A3;omega)
    refine SeqAt.in_listAt e (GE pl) he ?_;rw[ha];exact⟨.bl _, H, I, rfl, p _ H (As.refl H) rfl⟩
   ·exact p.elim
  |tup es=>
   rw[WC]at p;split at p
   ·rename_i h;simp only[Am]at h;obtain⟨a, xs, e, _, sq, r⟩ := hy.plain;subst e;cases ry;obtain⟨its, rv, pl, _⟩ := I.tuple sq;obtain⟨e, he, ha⟩ := HP I (n := 5) X.A.in1 h.1 h.2 r rv hx.plain rx (by show X.A.units+1+5<A3;omega)
    refine SeqAt.in_tupleAt e pl he ?_;rw[ha];exact⟨.bl _, H, I, rfl, p _ H (As.refl H) rfl⟩
   ·exact p.elim
  |dic kvs=>
   obtain⟨a, es, rfl, hH, rk⟩ := hy.dic_of;have p' : AQ (fun H => Rep X.K CL H A) W H (match Cp dx with|some k => .ok (.bl (kvs.any fun p => p.1==k))|none => .bad) Q := p
   cases ek : Cp dx with
   |none => rw[ek]at p';exact p'.elim
   |some k=>
    rw[ek]at p';obtain⟨ka, rfl, hk⟩ := Gw hx ek;cases rx;cases ry;exact Ux (by omega) I hH rk hk fun s' I' => ⟨.bl _, H, I', rfl, p' _ H (As.refl H) rfl⟩
  |_ => cases dx <;> exact p.elim
 |NotIn=>
  intro A pI s σ H x y v u Q I rx ry ⟨hA, dx, dy, hx, hy, p⟩;cases dy with
  |lst es=>
   rw[Wb]at p;split at p
   ·rename_i h;simp only[Am]at h;obtain⟨a, xs, e, _, sq, r⟩ := hy.plain;subst e;cases ry;obtain⟨its, rv, pl, _⟩ := I.list sq;obtain⟨e, he, ha⟩ := HP I (n := 5) X.A.in1 h.1 h.2 r rv hx.plain rx (by show X.A.units+1+5<A3;omega)
    refine SeqAt.notIn_listAt e (GE pl) he ?_;rw[ha];exact⟨.bl _, H, I, rfl, p _ H (As.refl H) rfl⟩
   ·exact p.elim
  |tup es=>
   rw[Wa]at p;split at p
   ·rename_i h;simp only[Am]at h;obtain⟨a, xs, e, _, sq, r⟩ := hy.plain;subst e;cases ry;obtain⟨its, rv, pl, _⟩ := I.tuple sq;obtain⟨e, he, ha⟩ := HP I (n := 5) X.A.in1 h.1 h.2 r rv hx.plain rx (by show X.A.units+1+5<A3;omega)
    refine SeqAt.notIn_tupleAt e pl he ?_;rw[ha];exact⟨.bl _, H, I, rfl, p _ H (As.refl H) rfl⟩
   ·exact p.elim
  |dic kvs=>
   obtain⟨a, es, rfl, hH, rk⟩ := hy.dic_of;have p' : AQ (fun H => Rep X.K CL H A) W H (match Cp dx with|some k => .ok (.bl (!kvs.any fun p => p.1==k))|none => .bad) Q := p
   cases ek : Cp dx with
   |none => rw[ek]at p';exact p'.elim
   |some k=>
    rw[ek]at p';obtain⟨ka, rfl, hk⟩ := Gw hx ek;cases rx;cases ry;exact Si (by omega) I hH rk hk fun s' I' => ⟨.bl _, H, I', rfl, p' _ H (As.refl H) rfl⟩
  |_ => cases dx <;> exact p.elim
 |Is=>
  intro A pI s σ H x y v u Q I rx ry ⟨hA, dx, dy, hx, hy, p⟩;cases dy with
  |non=>
   have ey := hy.non_of;subst ey;refine Tk pI s σ H _ _ v u Q I rx ry ⟨rfl, ?_⟩;cases dx with
   |non=>
    have ex := hx.non_of;subst ex;exact p _ H (As.refl H) rfl
   |exc => exact p.elim
   |dic => exact p.elim
   |_ => rw[Ck (LX hx (by simp))];exact p _ H (As.refl H) rfl
  |bl b=>
   cases dx with
   |bl a=>
    have ey := hy.bl_of;have ex := hx.bl_of;subst ex ey;cases rx;cases ry;refine wpAny_is_plain rfl ⟨.bl (a==b), H, I, ?_, p _ H (As.refl H) rfl⟩;cases a <;> cases b <;> rfl
   |_ => exact p.elim
  |_ => cases dx <;> exact p.elim
 |IsNot=>
  intro A pI s σ H x y v u Q I rx ry ⟨hA, dx, dy, hx, hy, p⟩;cases dy with
  |non=>
   have ey := hy.non_of;subst ey;refine QK pI s σ H _ _ v u Q I rx ry ⟨rfl, ?_⟩;cases dx with
   |non=>
    have ex := hx.non_of;subst ex;exact p _ H (As.refl H) rfl
   |exc => exact p.elim
   |dic => exact p.elim
   |_ => rw[Ck (LX hx (by simp))];exact p _ H (As.refl H) rfl
  |bl b=>
   cases dx with
   |bl a=>
    have ey := hy.bl_of;have ex := hx.bl_of;subst ex ey;cases rx;cases ry;refine wpAny_isNot_plain rfl ⟨.bl (!(a==b)), H, I, ?_, p _ H (As.refl H) rfl⟩;cases a <;> cases b <;> rfl
   |_ => exact p.elim
  |_ => cases dx <;> exact p.elim
end
section
variable{X : Cx}{CL : ClA}{W : XW}{a b c : Ao}{fa fb fc : Rho -> R D}{pos : AH}
theorem BZ.bind{f:D -> R An}{Q:An -> Hp -> Prop}{Q':VK}(h : BZ W H (r.bind f) Q)(k : ∀ d v H', r = .ok d -> As H H' -> Rp H' v d -> BZ W H' (f d) Q -> Q' v H') : AQ Rp W H r Q' := by
 cases r with
 |ok d => exact fun v H2 s2 q => k d v H2 rfl s2 q (BZ.same s2 h)
 |exn x => exact h
 |bad => exact h
theorem BZ.bindB{r:R An}{f:An -> R An}{Q:An -> Hp -> Prop}{Q':An -> Hp -> Prop}(h : BZ W H (r.bind f) Q)(k : ∀ b H', r = .ok b -> As H H' -> BZ W H' (f b) Q -> Q' b H') : BZ W H r Q' := by
 cases r with
 |ok d => exact fun H2 s2 => k d H2 rfl s2 (BZ.same s2 h)
 |exn x => exact h
 |bad => exact h
theorem ES.bind{Rp:Hp -> Ab V -> Ab D -> Prop}{r:R (Ab D)}{f:Ab D -> R D}{Q':Ab V -> Hp -> Prop}(h : AQ Rq W H (r.bind f) Q)(k : ∀ d v H', r = .ok d -> As H H' -> Rp H' v d -> AQ Rq W H' (f d) Q -> Q' v H') : ES Rp W H r Q' := by
 cases r with
 |ok d => exact fun v H2 s2 q => k d v H2 rfl s2 q (AQ.same s2 h)
 |exn x => exact h
 |bad => exact h
theorem Hz{f:An -> R D}(h : AQ Rq W H ((Cr d).bind f) Q) : ∃ c, d = .bl c /\ AQ Rq W H (f c) Q := by
 cases d with
 |bl c => exact⟨c, rfl, h⟩
 |_ => exact h.elim
theorem SM(ha : ST X CL W a fa) : SE X CL W (.UnaryOp .Not a pos) (fun ρ => (fa ρ).bind fun x => (Cr x).bind fun b => .ok (.bl (!b))) := fun A => PE.weak (T5 (ha A)) fun σ H Q ⟨hA, ρ, g, p⟩ => ⟨hA, ρ, g, AQ.bind p fun d v H1 _ s1 r1 p1 => by
 obtain⟨c, rfl, p2⟩ := Hz p1;exact⟨c, r1.bl_of, p2 _ H1 (As.refl H1) rfl⟩⟩
theorem Mg{op}(ha : SE X CL W a fa) : SE X CL W (.BoolOp op [a] pos) fa := fun A => T4 (ha A)
theorem SY{rest : Ab Ao}(ha : SE X CL W a fa)(hb : SE X CL W (.BoolOp .And (b::rest) pos) fb) : SE X CL W (.BoolOp .And (a::b::rest) pos) (fun ρ => (fa ρ).bind fun x => (Cr x).bind fun c => if c = Ac then fb ρ else .ok (.bl Ad)):=
 fun A => PE.weak (T9 (ha A) (hb A)) fun σ H Q ⟨hA, ρ, g, p⟩ => ⟨hA, ρ, g, AQ.bind p fun d v H1 _ s1 r1 p1 => by
  obtain⟨c, rfl, p2⟩ := Hz p1;refine⟨c, r1, ?_⟩;cases c with
  |true => exact⟨hA.same s1, ρ, g.same s1, p2⟩
  | false => exact p2 _ H1 (As.refl H1) rfl⟩
theorem VC{rest : Ab Ao}(ha : SE X CL W a fa)(hb : SE X CL W (.BoolOp .Or (b::rest) pos) fb) : SE X CL W (.BoolOp .Or (a::b::rest) pos) (fun ρ => (fa ρ).bind fun x => (Cr x).bind fun c => if c = Ac then .ok (.bl Ac) else fb ρ):=
 fun A => PE.weak (V0 (ha A) (hb A)) fun σ H Q ⟨hA, ρ, g, p⟩ => ⟨hA, ρ, g, AQ.bind p fun d v H1 _ s1 r1 p1 => by
  obtain⟨c, rfl, p2⟩ := Hz p1;refine⟨c, r1, ?_⟩;cases c with
  |false => exact⟨hA.same s1, ρ, g.same s1, p2⟩
  | true => exact p2 _ H1 (As.refl H1) rfl⟩
theorem PK(hu : X.A.units+64<A3)(ha : ST X CL W a fa)(hb : ST X CL W b fb)(hc : ST X CL W c fc)(hm : FN [op, op'] [b, c] = Ad):SE X CL W (.Compare a [op,op'] [b,c] pos) (fun ρ =>(fa ρ).bind fun x =>(fb ρ).bind fun y =>(Bg op x y).bind fun z =>(Cr z).bind fun k =>if k = Ac then (fc ρ).bind fun u =>Bg op' y u else .ok (.bl Ad)):=
 fun A => PE.weak (P3 (Gv hu op A) (Gv hu op' A) (ha A) (hb A) (hc A) hm) fun σ H Q ⟨hA, ρ, g, p⟩ => ⟨hA, ρ, g, AQ.bind p fun dx x H1 _ s1 r1 p1 => ⟨hA.same s1, ρ, g.same s1, AQ.bind p1 fun dy y H2 _ s2 r2 p2=>
  ⟨(hA.same s1).same s2, dx, dy, r1.same s2, r2, AQ.bind p2 fun dz z H3 _ s3 r3 p3 => by
   obtain⟨k, rfl, p4⟩ := Hz p3;refine⟨k, r3, ?_⟩;cases k with
   |false => exact p4 _ H3 (As.refl H3) rfl
   | true => exact⟨((hA.same s1).same s2).same s3, ρ, ((g.same s1).same s2).same s3, AQ.bind p4 fun du u H4 _ s4 r4 p5 => ⟨(((hA.same s1).same s2).same s3).same s4, dy, du, (r2.same s3).same s4, r4, p5⟩⟩⟩⟩⟩
theorem Sd{xs:Ab D}{i:Ae}(h : CB xs i = .ok d) : ∃ k, plD xs.length i = Aa k /\ xs[k]? = Aa d := by
 unfold CB at h;split at h
 ·rename_i k e;split at h
  ·rename_i d' e';cases h;exact⟨k, e, e'⟩
  ·cases h
 ·cases h
theorem Lf{xs:Ab D}{i:Ae}(h : CB xs i = .exn x) : AW := by
 unfold CB at h;split at h
 ·split at h <;> cases h
 ·cases h
theorem LU{ds : Ab D}{i:Ae}(r : Reps K CL H A xs ds)(h : CB ds i = .ok d) : ∃ v, atI xs i = Aa v /\ Rep K CL H A v d := by
 obtain⟨k, e, q⟩ := Sd h;obtain⟨v, hv, rv⟩ := r.get q;refine⟨v, ?_, rv⟩;unfold atI;have : ixN xs.length i = Aa k := by rw[r.length];exact e
 rw[this];exact hv
theorem SU(hu : X.A.units+64<A3)(hs : Js b)(ha : ST X CL W a fa)(hb : ST X CL W b fb) : SE X CL W (.Subscript a b pos) (fun ρ => (fa ρ).bind fun x => (fb ρ).bind fun y => E6 x y):=
 fun A => PE.weak (V1 (r := fun x y H Q => (MY X.K x y H Q \/ MX X.K x y H Q) \/ MZ X.K CL A x y H Q) ((R8.or Tx).or (Tz (by omega))) (ha A) (hb A) hs) fun σ H Q h => by
  obtain⟨hA, ρ, g, h⟩ := op2 h;refine⟨hA, ρ, g, ?_⟩;cases e : fa ρ with
  |bad => rw[e]at h;exact h
  |exn x => rw[e]at h;exact h
  |ok dx0=>
   rw[e]at h;intro x H1 s1 r1;obtain⟨hA1, ρ1, g1, h1⟩ := h x H1 s1 r1;refine⟨hA1, ρ1, g1, ?_⟩;cases e1 : fb ρ1 with
   |bad => rw[e1]at h1;exact h1
   |exn x => rw[e1]at h1;exact h1
   |ok dy0=>
    rw[e1]at h1;intro y H2 s2 r2;obtain⟨hA2, dx, dy, rx, ry, p⟩ := h1 y H2 s2 r2;cases dy with
    |int i=>
     have ey := ry.int_of;subst ey;cases dx with
     |lst ds=>
      obtain⟨q, xs, rfl, sq, r⟩ := rx.lst_of;rw[VU]at p;cases e2 : CB ds i with
      |ok d=>
       rw[e2]at p;obtain⟨v, hv, rv⟩ := LU r e2;exact .inl (.inl ⟨q, xs, i, v, rfl, rfl, sq, hv, p v H2 (As.refl H2) rv⟩)
      |exn x => exact(Lf e2).elim
      |bad => rw[e2]at p;exact p.elim
     |tup ds=>
      obtain⟨q, xs, rfl, _, sq, r⟩ := rx.tup_of;rw[VT]at p;cases e2 : CB ds i with
      |ok d=>
       rw[e2]at p;obtain⟨v, hv, rv⟩ := LU r e2;exact .inl (.inr ⟨q, xs, i, v, rfl, rfl, sq, hv, p v H2 (As.refl H2) rv⟩)
      |exn x => exact(Lf e2).elim
      |bad => rw[e2]at p;exact p.elim
     |_ => exact p.elim
    |tup es=>
     cases dx with
     |dic kvs=>
      have p' : AQ (fun H => Rep X.K CL H A) W H2 (match (Cp (.tup es)).bind (Dq kvs) with|some d => .ok d|none => .bad) Q := p
      cases ek : Cp (.tup es) with
      |none => rw[ek]at p';exact p'.elim
      |some k=>
       rw[ek]at p';have p2 : AQ (fun H => Rep X.K CL H A) W H2 (match Dq kvs k with|some d => .ok d|none => .bad) Q := p'
       cases eg : Dq kvs k with
       |none => rw[eg]at p2;exact p2.elim
       |some d=>
        rw[eg]at p2;obtain⟨a, es', rfl, hH, rk⟩ := rx.dic_of;obtain⟨ka, rfl, hk⟩ := Gw ry ek;exact .inr ⟨a, ka, es', kvs, k, d, rfl, rfl, hH, rk, hk, eg, fun v rv => p2 v H2 (As.refl H2) rv⟩
     |_ => exact p.elim
    |_ => cases dx <;> exact p.elim
theorem S2 : SA X CL W [] (fun _ => .ok []) := fun A => PA.weak Gd fun σ H Q ⟨hA, ρ, g, p⟩ => p [] H (As.refl H) trivial
theorem RE{es:Ab Ao}(ha : SE X CL W a fa)(hs : SA X CL W es fs)(hst : At (a::es) X.env = (Ad, eval a X.env)::At es X.env) : SA X CL W (a::es) (fun ρ => (fa ρ).bind fun x => (fs ρ).bind fun xs => .ok (x::xs)):=
 fun A => PA.weak (EL (ha A) (hs A) hst) fun σ H Q ⟨hA, ρ, g, p⟩ => by
  dsimp only at p;refine⟨hA, ρ, g, ?_⟩;cases e : fa ρ with
  |bad => rw[e]at p;exact p
  |exn x => rw[e]at p;exact p
  |ok d=>
   rw[e]at p;intro v H1 s1 r1;refine⟨hA.same s1, ρ, g.same s1, ?_⟩;cases e1 : fs ρ with
   |bad => rw[R.bind_ok, e1]at p;exact p
   |exn x => rw[R.bind_ok, e1]at p;exact fun H2 s2 => p H2 (s1.trans s2)
   |ok ds=>
    rw[R.bind_ok, e1]at p;exact fun vs H2 s2 r2 => p (v::vs) H2 (s1.trans s2) ⟨r1.same s2, r2⟩
theorem SK{es:Ab Ao}{k:Ag}(hs : SA X CL W es fs)(hz : ∀ ρ ds, fs ρ = .ok ds -> ds.length <= 100000) : SE X CL W (.Tuple es k pos) (fun ρ => (fs ρ).bind fun xs => .ok (.tup xs)):=
 fun A => PE.weak (T2 (hs A)) fun σ H Q ⟨hA, ρ, g, p⟩ => ⟨hA, ρ, g, ES.bind p fun ds vs H1 e s1 r1 p1 => ⟨by
  rw[r1.length, Dy];have := hz ρ ds e;omega, fun q hq => p1 _ _ (Ea hq _) (HL (hA.same s1) hq r1)⟩⟩
noncomputable def Gg(W : XW)(H : Hp)(r : R (Al Ae))(Q : Al Ae -> Hp -> Prop) : Prop := match r with
  |.ok o => ∀ H', As H H' -> Q o H'
  |.exn x => ∀ H', As H H' -> W x H'
  |.bad => AW
theorem Gg.bind{r:R (Al Ae)}{f:Al Ae -> R D}(h : AQ Rq W H (r.bind f) Q)(k : ∀ o H', r = .ok o -> As H H' -> AQ Rq W H' (f o) Q -> Q' o H') : Gg W H r Q' := by
 cases r with
 |ok d => exact fun H2 s2 => k d H2 rfl s2 (AQ.same s2 h)
 |exn x => exact h
 |bad => exact h
noncomputable def SO(X : Cx)(CL : ClA)(W : XW)(e : Al Ao)(f : Rho -> R (Al Ae)) : Prop := ∀ A, PO X e (fun σ H Q => AOk H A /\ ∃ ρ, Good X.K CL A ρ σ H /\ Gg W H (f ρ) Q)
theorem PO.weak{e:Al Ao}{t t':TO}(h : PO X e t)(k : ∀ σ H Q, t' σ H Q -> t σ H Q) : PO X e t' := fun pI s σ H Q I q => h pI s σ H Q I (k _ _ _ q)
theorem Rw : SO X CL W Af (fun _ => .ok Af) := fun A => PO.weak Q5 fun σ H Q ⟨hA, ρ, g, p⟩ => p H (As.refl H)
theorem Rv(ha : ST X CL W a fa) : SO X CL W (Aa a) (fun ρ => (fa ρ).bind fun d => (C1 d).bind fun i => .ok (Aa i)) := fun A => PO.weak (Q4 (ha A)) fun σ H Q ⟨hA, ρ, g, p⟩ => by
 dsimp only at p;refine⟨hA, ρ, g, ?_⟩;cases e : fa ρ with
 |bad => rw[e]at p;exact p
 |exn x => rw[e]at p;exact p
 |ok d=>
  rw[e]at p;intro v H1 s1 r1;cases d with
  |int i => exact⟨i, r1.int_of, p H1 s1⟩
  |_ => exact p.elim
theorem Lu{ds : Ab D}(lo hi : Al Ae)(r : Reps K CL H A xs ds) : Reps K CL H A (FV xs lo hi) (GM ds lo hi) := by
 unfold FV GM;have e : ∀ d o, HT.sIx xs.length d o = Fv ds.length d o := fun d o => by rw[r.length];cases o <;> rfl
 rw[e, e, r.length];exact(r.drop _).take _
end
section
variable{X : Cx}{CL : ClA}{W : XW}{a b c : Ao}{fa fb fc : Rho -> R D}{pos : AH}
def DE(K : Fg)(CL : ClA)(H : Hp)(A : Ai -> Prop) : Ab V -> Ab D -> Prop
 |[], [] => E2
 |v::vs, d::ds => BH K CL H A v d /\ DE K CL H A vs ds
 |_, _ => AW
theorem DE.same{K : Fg}{H H' : Hp}{A : Ai -> Prop}(s : As H H') : ∀{vs : Ab V}{ds : Ab D}, DE K CL H A vs ds -> DE K CL H' A vs ds
 |[], [], h => h
 |_::_, _::_, h => ⟨h.1.same s, DE.same s h.2⟩
 |[], _::_, h => h.elim
 |_::_, [], h => h.elim
theorem DE.one(h : DE K CL H A vs [d]) : ∃ v, vs = [v] /\ BH K CL H A v d := by
 cases vs with
 |nil => exact h.elim
 |cons v vs=>
  cases vs with
  |nil => exact⟨v, rfl, h.1⟩
  |cons => exact h.2.elim
theorem DE.two{e:D}(h : DE K CL H A vs [d, e]) : ∃ v w', vs = [v, w'] /\ BH K CL H A v d /\ BH K CL H A w' e := by
 cases vs with
 |nil => exact h.elim
 |cons v vs=>
  cases vs with
  |nil => exact h.2.elim
  |cons w' vs=>
   cases vs with
   |nil => exact⟨v, w', rfl, h.1, h.2.1⟩
   |cons => exact h.2.2.elim
noncomputable def SAT(X : Cx)(CL : ClA)(W : XW)(es : Ab Ao)(f : Rho -> R (Ab D)) : Prop := ∀ A, PA X es (fun σ H Q => AOk H A /\ ∃ ρ, Good X.K CL A ρ σ H /\ ES (fun H => DE X.K CL H A) W H (f ρ) Q)
theorem RD : SAT X CL W [] (fun _ => .ok []) := fun A => PA.weak Gd fun σ H Q ⟨hA, ρ, g, p⟩ => p [] H (As.refl H) trivial
theorem PM{es:Ab Ao}(ha : ST X CL W a fa)(hs : SAT X CL W es fs)(hst : At (a::es) X.env = (Ad, eval a X.env)::At es X.env) : SAT X CL W (a::es) (fun ρ => (fa ρ).bind fun x => (fs ρ).bind fun xs => .ok (x::xs)):=
 fun A => PA.weak (EL (ha A) (hs A) hst) fun σ H Q ⟨hA, ρ, g, p⟩ => by
  dsimp only at p;refine⟨hA, ρ, g, ?_⟩;cases e : fa ρ with
  |bad => rw[e]at p;exact p
  |exn x => rw[e]at p;exact p
  |ok d=>
   rw[e]at p;intro v H1 s1 r1;refine⟨hA.same s1, ρ, g.same s1, ?_⟩;cases e1 : fs ρ with
   |bad => rw[R.bind_ok, e1]at p;exact p
   |exn x => rw[R.bind_ok, e1]at p;exact fun H2 s2 => p H2 (s1.trans s2)
   |ok ds=>
    rw[R.bind_ok, e1]at p;exact fun vs H2 s2 r2 => p (v::vs) H2 (s1.trans s2) ⟨r1.same s2, r2⟩
noncomputable def Gh(X : Cx)(CL : ClA)(W : XW)(f : Ah)(g : Ab D -> R D) : Prop := ∀ A, ET X f (fun xs H Q => AOk H A /\ ∃ ds, DE X.K CL H A xs ds /\ AQ (fun H => Rep X.K CL H A) W H (g ds) Q)
theorem HS{x:Aj}{id:Ca}{p:AH}{es:Ab Ao}{g:Ab D -> R D}(hc : Gh X CL W (.builtin id) g)(hg : Gl X x)(hm : X.mg x = Af)(hv : BV x = Aa (.builtin id))(ha : SAT X CL W (e::es) fs)(hn : x ≠ "__name__")(hdb : (x==("__debug__" : Aj)) = Ad)(he : At (e::es) X.env = (Ad, eval e X.env)::At es X.env)(hpl : ∀ pos, (BN pos (At es X.env)).any (·.1) = Ad):SE X CL W (.Call (.Name x p) (e::es) [] pos) (fun ρ =>(fs ρ).bind g) := fun A => PE.weak (La (hc A) hg hm hv (ha A) hn hdb he (hpl _)) fun σ H Q ⟨hA, ρ, gd, q⟩ => ⟨hA, ρ, gd, ES.bind q fun ds vs H1 _ s1 r1 p1 => ⟨hA.same s1, ds, r1, p1⟩⟩
theorem SX{x:Aj}{p:AH}{es:Ab Ao}{g:Ab D -> R D}(hc : Gh X CL W (.type T) g)(hg : Gl X x)(hm : X.mg x = Af)(hv : BV x = Aa (.type T))(ha : SAT X CL W (e::es) fs)(hn : x ≠ "__name__")(hdb : (x==("__debug__" : Aj)) = Ad)(he : At (e::es) X.env = (Ad, eval e X.env)::At es X.env)(hpl : ∀ pos, (BN pos (At es X.env)).any (·.1) = Ad):SE X CL W (.Call (.Name x p) (e::es) [] pos) (fun ρ =>(fs ρ).bind g) := fun A => PE.weak (KI (hc A) hg hm hv (ha A) hn hdb he (hpl _)) fun σ H Q ⟨hA, ρ, gd, q⟩ => ⟨hA, ρ, gd, ES.bind q fun ds vs H1 _ s1 r1 p1 => ⟨hA.same s1, ds, r1, p1⟩⟩
theorem Uj : Gh X CL W (.builtin "len") (biD .len) := by
  intro A pI s σ H xs us Q I r ⟨hA, ds, rs, p⟩
  match ds, rs, p with
  |[.lst es], rs, p=>
    obtain⟨v, rfl, rv⟩ := rs.one;obtain⟨q, ys, rfl, sq, ry⟩ := rv.lst_of;exact Kw pI s σ H _ us Q I r ⟨q, ys, rfl, .inl sq, p _ H (As.refl H) (by rw[ry.length];rfl)⟩
  |[.tup es], rs, p=>
    obtain⟨v, rfl, rv⟩ := rs.one;obtain⟨q, ys, rfl, _, sq, ry⟩ := rv.tup_of;exact Kw pI s σ H _ us Q I r ⟨q, ys, rfl, .inr sq, p _ H (As.refl H) (by rw[ry.length];rfl)⟩
  |[.str x], rs, p=>
    obtain⟨v, rfl, rv⟩ := rs.one;have e := rv.str_of;subst e;have p' : AQ (fun H => Rep X.K CL H A) W H (if B2 x.length = Ac then .ok (.int x.length) else .bad) Q := p
    split at p'
    · rename_i h;exact OO pI s σ H _ us Q I r ⟨x, rfl, Fq h, p' _ H (As.refl H) rfl⟩
    · exact p'.elim
  |[], _, p => exact p.elim
  |[.non], _, p => exact p.elim
  |[.bl _], _, p => exact p.elim
  |[.int _], _, p => exact p.elim
  |[.obj _ _], _, p => exact p.elim
  |[.exc _ _], _, p => exact p.elim
  |[.dic kvs], rs, p=>
    obtain⟨v, rfl, rv⟩ := rs.one;have p' : AQ (fun H => Rep X.K CL H A) W H (if B2 kvs.length = Ac then .ok (.int kvs.length) else .bad) Q := p
    split at p'
    · rename_i h;obtain⟨a, es, rfl, hH, rk⟩ := rv.dic_of;cases r with
      |cons r1 r2=>
        cases r1;cases r2;exact RJ I hH rk (Fq h) fun s' t I' => ⟨.int _, H, I', ⟨t, rfl⟩, p' _ H (As.refl H) rfl⟩
    · exact p'.elim
  |x::_::_, _, p => cases x <;> exact p.elim
theorem Ph(ds : Ab D) : (∃ i j, ds = [.int i, .int j]) \/ biD .max ds = .bad := by
  match ds with
  |[.int i, .int j] => exact .inl ⟨i, j, rfl⟩
  |[] => exact .inr rfl
  |[x] => cases x <;> exact .inr rfl
  |x::y::z::r => cases x <;> cases y <;> exact .inr rfl
  |[x, .non] => cases x <;> exact .inr rfl
  |[x, .bl _] => cases x <;> exact .inr rfl
  |[x, .str _] => cases x <;> exact .inr rfl
  |[x, .tup _] => cases x <;> exact .inr rfl
  |[x, .lst _] => cases x <;> exact .inr rfl
  |[x, .obj _ _] => cases x <;> exact .inr rfl
  |[x, .exc _ _] => cases x <;> exact .inr rfl
  |[x, .dic _] => cases x <;> exact .inr rfl
  |[.non, .int _] => exact .inr rfl
  |[.bl _, .int _] => exact .inr rfl
  |[.str _, .int _] => exact .inr rfl
  |[.tup _, .int _] => exact .inr rfl
  |[.lst _, .int _] => exact .inr rfl
  |[.obj _ _, .int _] => exact .inr rfl
  |[.exc _ _, .int _] => exact .inr rfl
  |[.dic _, .int _] => exact .inr rfl
theorem KM : ∀(is : Ab Ae)(i : Ae), E5 i is ∈ i::is /\ ∀ a ∈ i::is, E5 i is <= a
 |[], i => ⟨Au, fun a h => by rw[A9]at h;rw[h];exact F0 _⟩
 |j::r, i => by
  obtain⟨h1, h2⟩ := KM r (if j<i then j else i)
  refine⟨?_, fun a h => ?_⟩
  ·show E5 (if j<i then j else i) r ∈ _
   rcases AM.mp h1 with e|e
   ·rw[e];split
    ·exact Ar _ Au
    ·exact Au
   ·exact Ar _ (Ar _ e)
  ·show E5 (if j<i then j else i) r <= a
   have h0 := h2 _ Au;rcases AM.mp h with e|e
   ·subst e;refine Nx h0 ?_;split <;> omega
   ·rcases AM.mp e with e|e
    ·subst e;refine Nx h0 ?_;split <;> omega
    ·exact h2 a (Ar _ e)
theorem K0 : ∀{is : Ab Ae}{its : Ab Ah}, AN (is.map V.int) its -> ∃ xs : A6 (Ae × B9), its.toArray = GZ xs /\ xs.toList.map (·.1) = is
 |[], _, h => by cases h;exact⟨#[], by simp[GZ], rfl⟩
 |i::is, _, h => by
  cases h with
  |cons h1 h2=>
   obtain⟨t, rfl⟩ := h1;obtain⟨xs, e1, e2⟩ := K0 h2;refine⟨((i, t)::xs.toList).toArray, ?_, ?_⟩
   ·apply Array.toList_inj.mp
    have e1' := congrArg FH e1;simp[GZ]at e1' ⊢;exact e1'
   ·simp[e2]
theorem Qa(hc : X.calm = Ac) : ET X (.builtin "min") (fun xs H Q => ∃ a i is, xs = [.ref a] /\ SqL X.K H a ((i::is).map V.int) /\ Q (.int (E5 i is)) H) := by
 intro pI s σ H xs us Q I r h;obtain⟨a, i, is, rfl, sq, q⟩ := h;obtain⟨u, rfl, ru⟩ := GJ r;cases ru;obtain⟨its, rv, pl, hz⟩ := I.list sq;obtain⟨ys, e1, e2⟩ := K0 rv;have hsz : 0<ys.size := by
  have := congrArg NM e2;simp at this;omega
 have hl := pl.isList;rw[e1]at hl;refine min_intList (I.ok.hd hc) hl hsz fun v h' tk hv hk => ?_
 obtain⟨t, rfl⟩ := intItems_at hv;obtain⟨h1, h2⟩ := argBest_lt (Fp ys) (ys.size-1);have nm : ∀ j, j<ys.size -> Fp ys j ∈ i::is := fun j hj => by
  rw[<-e2];unfold Fp;rw[Nr hj];simp only[Dh, Option.getD_some];exact CS.mpr ⟨ys[j], by simp, rfl⟩
 have nx : ∀ x ∈ i::is, ∃ j, j<ys.size /\ Fp ys j = x := fun x hx => by
  rw[<-e2]at hx;obtain⟨y, hy, rfl⟩ := CS.mp hx;obtain⟨j, hj, ej⟩ := Array.mem_iff_getElem.mp (Array.mem_toList_iff.mp hy);refine⟨j, hj, ?_⟩;unfold Fp;rw[Nr hj, ej];rfl
 obtain⟨m1, m2⟩ := KM is i;have em : Fp ys (argBest (fun i j => decide (Fp ys i<Fp ys j)) (ys.size-1)) = E5 i is := by
  refine Int.le_antisymm ?_ (m2 _ (nm _ (by omega)))
  obtain⟨j, hj, ej⟩ := nx _ m1;rw[<-ej];exact h2 j (by omega)
 rw[em];exact⟨.int (E5 i is), H, I.kept hk, ⟨_, rfl⟩, q⟩
theorem K1{K : Fg}{CL : ClA}{H : Hp}{A : Ai -> Prop} : ∀{es : Ab D}{is : Ab Ae}{ys : Ab V}, FT es = Aa is -> Reps K CL H A ys es -> ys = is.map V.int
 |[], _, [], h, _ => by cases h;rfl
 |[], _, _::_, _, r => r.elim
 |_::_, _, [], _, r => r.elim
 |e::es, is, y::ys, h, r => by
  cases e with
  |int i=>
   have h' : (FT es).map (i :: ·) = Aa is := h;cases e2 : FT es with
   |none => rw[e2]at h';cases h'
   |some js=>
    rw[e2]at h';cases h';have ih := K1 e2 r.2;have e1 : y = .int i := r.1;rw[ih, e1];rfl
  |_ => cases h
theorem Pf(ds : Ab D)(hl : ∀ es, ds ≠ [.lst es]) : (∃ i j, ds = [.int i, .int j]) \/ biD .min ds = .bad := by
  match ds with
  |[.int i, .int j] => exact .inl ⟨i, j, rfl⟩
  |[] => exact .inr rfl
  |[x] => cases x <;> first|exact .inr rfl|exact absurd rfl (hl _)
  |x::y::z::r => cases x <;> cases y <;> exact .inr rfl
  |[x, .non] => cases x <;> exact .inr rfl
  |[x, .bl _] => cases x <;> exact .inr rfl
  |[x, .str _] => cases x <;> exact .inr rfl
  |[x, .tup _] => cases x <;> exact .inr rfl
  |[x, .lst _] => cases x <;> exact .inr rfl
  |[x, .obj _ _] => cases x <;> exact .inr rfl
  |[x, .exc _ _] => cases x <;> exact .inr rfl
  |[x, .dic _] => cases x <;> exact .inr rfl
  |[.non, .int _] => exact .inr rfl
  |[.bl _, .int _] => exact .inr rfl
  |[.str _, .int _] => exact .inr rfl
  |[.tup _, .int _] => exact .inr rfl
  |[.lst _, .int _] => exact .inr rfl
  |[.obj _ _, .int _] => exact .inr rfl
  |[.exc _ _, .int _] => exact .inr rfl
  |[.dic _, .int _] => exact .inr rfl
theorem Ui(hc : X.calm = Ac) : Gh X CL W (.builtin "max") (biD .max) := by
 intro A pI s σ H xs us Q I r ⟨hA, ds, rs, p⟩;rcases Ph ds with ⟨i, j, rfl⟩|e
 ·obtain⟨v, w', rfl, rv, rw'⟩ := rs.two;have e1 := rv.int_of;have e2 := rw'.int_of
  subst e1 e2;exact Qc hc pI s σ H _ us Q I r ⟨i, j, rfl, p _ H (As.refl H) rfl⟩
 ·rw[e]at p;exact p.elim
theorem Uh(hc : X.calm = Ac) : Gh X CL W (.builtin "min") (biD .min) := by
  intro A pI s σ H xs us Q I r ⟨hA, ds, rs, p⟩;by_cases hls : ∃ es, ds = [.lst es]
  · obtain⟨es, rfl⟩ := hls;obtain⟨v, rfl, rv⟩ := rs.one;obtain⟨a, ys, rfl, sq, ry⟩ := rv.lst_of;have p' : AQ (Rep X.K CL · A) W H (match FT es with
      |some (i::is) => R.ok (.int (E5 i is))
      | _ => .bad) Q := p
    cases e1 : FT es with
    |none => rw[e1]at p';exact p'.elim
    |some is=>
      cases is with
      |nil => rw[e1]at p';exact p'.elim
      |cons i is=>
        rw[e1]at p';have ey := K1 e1 ry;subst ey;exact Qa hc pI s σ H _ us Q I r ⟨a, i, is, rfl, sq, p' _ H (As.refl H) rfl⟩
  rcases Pf ds (fun es z => hls ⟨es, z⟩) with ⟨i, j, rfl⟩|e
  · obtain⟨v, w', rfl, rv, rw'⟩ := rs.two;have e1 := rv.int_of;have e2 := rw'.int_of
    subst e1 e2;exact Qb hc pI s σ H _ us Q I r ⟨i, j, rfl, p _ H (As.refl H) rfl⟩
  · rw[e]at p;exact p.elim
theorem QG : Gh X CL W (.type "tuple") (biD .tuple) := by
  intro A pI s σ H xs us Q I r ⟨hA, ds, rs, p⟩
  match ds, rs, p with
  |[.lst es], rs, p=>
    obtain⟨v, rfl, rv⟩ := rs.one;obtain⟨q, ys, rfl, sq, ry⟩ := rv.lst_of;exact Kc pI s σ H _ us Q I r ⟨q, ys, rfl, .inl ⟨sq, fun l hl => p _ _ (Ea hl _) (HL hA hl ry)⟩⟩
  |[.tup es], rs, p=>
    obtain⟨v, rfl, rv⟩ := rs.one;obtain⟨q, ys, rfl, na, sq, ry⟩ := rv.tup_of;exact Kc pI s σ H _ us Q I r ⟨q, ys, rfl, .inr ⟨sq, p _ H (As.refl H) ⟨q, ys, rfl, na, sq, ry⟩⟩⟩
  |[], _, p => exact p.elim
  |[.non], _, p => exact p.elim
  |[.bl _], _, p => exact p.elim
  |[.int _], _, p => exact p.elim
  |[.str _], _, p => exact p.elim
  |[.obj _ _], _, p => exact p.elim
  |[.exc _ _], _, p => exact p.elim
  |[.dic _], rs, p => first|exact p.elim|(obtain⟨v, rfl, rv⟩ := rs.one;exact rv.plain.elim)
  |x::_::_, _, p => cases x <;> exact p.elim
end
section
variable{X : Cx}{CL : ClA}{W : XW}{a b c : Ao}{fa fb fc : Rho -> R D}{pos : AH}
theorem SB.congr{g:Rho -> R An}(h : SB X CL W a f)(e : ∀ ρ, g ρ = f ρ) : SB X CL W a g := fun A => PT.weak (h A) fun σ H Q ⟨hA, ρ, q, p⟩ => ⟨hA, ρ, q, by rw[<-e];exact p⟩
theorem S0(ha : SB X CL W a f) : SB X CL W (.UnaryOp .Not a pos) (fun ρ => (f ρ).bind fun b => .ok (!b)) := fun A => PT.weak (TR (ha A)) fun σ H Q ⟨hA, ρ, g, p⟩ => ⟨hA, ρ, g, BZ.bindB p fun b H1 _ s1 p1 => p1 H1 (As.refl H1)⟩
noncomputable def SW(X : Cx)(CL : ClA)(W : XW)(e : Ao)(f : Rho -> R An) : Prop := ∀ A, PW X e (fun σ H Q => AOk H A /\ ∃ ρ, Good X.K CL A ρ σ H /\ BZ W H (f ρ) Q)
theorem PW.weak{t:TT}(h : PW X e t)(k : ∀ σ H Q, t' σ H Q -> t σ H Q) : PW X e t' := fun wh pI s σ H Q I q => h wh pI s σ H Q I (k _ _ _ q)
theorem SW.sb(h : SW X CL W a f) : SB X CL W a f := fun A => PW.pt (h A)
theorem SW.congr{g:Rho -> R An}(h : SW X CL W a f)(e : ∀ ρ, g ρ = f ρ) : SW X CL W a g := fun A => PW.weak (h A) fun σ H Q ⟨hA, ρ, q, p⟩ => ⟨hA, ρ, q, by rw[<-e];exact p⟩
theorem Ri(ha : SB X CL W a f) : SW X CL W (.BoolOp .And [a] pos) f := fun A => QY (ha A)
theorem S6(ha : SB X CL W a f) : SW X CL W (.BoolOp .Or [a] pos) f := fun A => TM (ha A)
theorem S7{g:Rho -> R An}{rest : Ab Ao}(ha : SB X CL W a f)(hb : SW X CL W (.BoolOp .And (b::rest) pos) g) : SW X CL W (.BoolOp .And (a::b::rest) pos) (fun ρ => (f ρ).bind fun c => if c = Ac then g ρ else .ok Ad):=
 fun A => PW.weak (TN (ha A) (hb A)) fun σ H Q ⟨hA, ρ, gd, p⟩ => ⟨hA, ρ, gd, BZ.bindB p fun c H1 _ s1 p1 => by
  cases c with
  |true => exact⟨hA.same s1, ρ, gd.same s1, p1⟩
  | false => exact p1 H1 (As.refl H1)⟩
theorem US{g:Rho -> R An}{rest : Ab Ao}(ha : SB X CL W a f)(hb : SW X CL W (.BoolOp .Or (b::rest) pos) g) : SW X CL W (.BoolOp .Or (a::b::rest) pos) (fun ρ => (f ρ).bind fun c => if c = Ac then .ok Ac else g ρ):=
 fun A => PW.weak (U9 (ha A) (hb A)) fun σ H Q ⟨hA, ρ, gd, p⟩ => ⟨hA, ρ, gd, BZ.bindB p fun c H1 _ s1 p1 => by
  cases c with
  |false => exact⟨hA.same s1, ρ, gd.same s1, p1⟩
  | true => exact p1 H1 (As.refl H1)⟩
theorem S1(ho : OpD X CL W (Bs op) g)(ha : ST X CL W a fa)(hb : ST X CL W b fb)(hm : Em op b = Ad) : SB X CL W (.Compare a [op] [b] pos) (fun ρ => (fa ρ).bind fun x => (fb ρ).bind fun y => (g x y).bind Cr):=
 fun A => PT.weak (Q1 (ho A) (ha A) (hb A) hm) fun σ H Q ⟨hA, ρ, gd, p⟩ => ⟨hA, ρ, gd, BZ.bind p fun dx x H1 _ s1 r1 p1 => ⟨hA.same s1, ρ, gd.same s1, BZ.bind p1 fun dy y H2 _ s2 r2 p2=>
  ⟨(hA.same s1).same s2, dx, dy, r1.same s2, r2, BZ.bind p2 fun dz z H3 _ s3 r3 p3 => by
   cases dz with
   |bl k => exact⟨k, r3, p3 H3 (As.refl H3)⟩
   | _ => exact p3.elim⟩⟩⟩
theorem PL(hu : X.A.units+64<A3)(ha : ST X CL W a fa)(hb : ST X CL W b fb)(hc : ST X CL W c fc)(hm : FN [op, op'] [b, c] = Ad):SB X CL W (.Compare a [op,op'] [b,c] pos) (fun ρ =>(fa ρ).bind fun x =>(fb ρ).bind fun y =>(Bg op x y).bind fun z =>(Cr z).bind fun k =>if k = Ac then (fc ρ).bind fun u =>(Bg op' y u).bind Cr else .ok Ad):=
  fun A => PT.weak (PY (Gv hu op A) (Gv hu op' A) (ha A) (hb A) (hc A) hm) fun σ H Q ⟨hA, ρ, g, p⟩ => ⟨hA, ρ, g, BZ.bind p fun dx x H1 _ s1 r1 p1 => ⟨hA.same s1, ρ, g.same s1, BZ.bind p1 fun dy y H2 _ s2 r2 p2=>
    ⟨(hA.same s1).same s2, dx, dy, r1.same s2, r2, BZ.bind p2 fun dz z H3 _ s3 r3 p3 => by
      cases dz with
      |bl k=>
        refine⟨k, r3, ?_⟩;cases k with
        |false => exact⟨Ad, rfl, p3 H3 (As.refl H3)⟩
        | true => exact⟨((hA.same s1).same s2).same s3, ρ, ((g.same s1).same s2).same s3, BZ.bind p3 fun du u H4 _ s4 r4 p5 => ⟨(((hA.same s1).same s2).same s3).same s4, dy, du, (r2.same s3).same s4, r4, BZ.bind p5 fun dv v H5 _ s5 r5 p6 => by
            cases dv with
            |bl k' => exact⟨k', r5, p6 H5 (As.refl H5)⟩
            | _ => exact p6.elim⟩⟩
      | _ => exact p3.elim⟩⟩⟩
theorem SZ(ha : ST X CL W a fa)(he : ∀ whole, Fd a X.env whole = (do let v <-whole;Fh a.pos;holding [v] (truthy v))) : SB X CL W a (fun ρ => (fa ρ).bind Bq):=
 fun A => PT.weak (PX (ha A) he) fun σ H Q ⟨hA, ρ, g, p⟩ => ⟨hA, ρ, g, BZ.bind p fun d v H1 _ s1 r1 p1 => by
  cases d with
  |non=>
   have e := r1.non_of;subst e;exact⟨Ad, rfl, p1 H1 (As.refl H1)⟩
  |bl b=>
   have e := r1.bl_of;subst e;exact⟨b, rfl, p1 H1 (As.refl H1)⟩
  |int i=>
   have e := r1.int_of;subst e;exact⟨_, rfl, p1 H1 (As.refl H1)⟩
  |str x=>
   have e := r1.str_of;subst e;have p2 : BZ W H1 (if B2 x.length = Ac then .ok (x.length != 0) else .bad) Q := p1
   split at p2
   ·rename_i h;refine⟨_, ⟨Fq h, rfl⟩, ?_⟩;have e : ((x.length : Ae) != 0) = (x.length != 0) := by
     rw[EX];simp
    rw[e];exact p2 H1 (As.refl H1)
   ·exact p2.elim
  |tup ds=>
   obtain⟨q, xs, rfl, _, sq, r⟩ := r1.tup_of;refine⟨_, .inr (.inl ⟨xs, sq, rfl⟩), ?_⟩;have e : xs.isEmpty = ds.isEmpty := by
    have := r.length;cases xs <;> cases ds <;> first|rfl|cases this
   rw[e];exact p1 H1 (As.refl H1)
  |lst ds=>
   obtain⟨q, xs, rfl, sq, r⟩ := r1.lst_of;refine⟨_, .inl ⟨xs, sq, rfl⟩, ?_⟩;have e : xs.isEmpty = ds.isEmpty := by
    have := r.length;cases xs <;> cases ds <;> first|rfl|cases this
   rw[e];exact p1 H1 (As.refl H1)
  | _ => exact p1.elim⟩
noncomputable def W2(K : Fg)(CL : ClA)(H : Hp)(A : Ai -> Prop)(cls : Ah)(dx : Al Ai)(x : Ex) : Prop:=
 ∃ C, CL x.c = Aa C /\ cls = .ref C /\ (x.fs = [] \/ ∃ d vs, dx = Aa d /\ ¬ A d /\ H d = Aa (.xd vs) /\ Repf K CL H A vs x.fs)
noncomputable def ER(K : Fg)(CL : ClA)(H : Hp)(cls : Ah)(dx : Al Ai)(x : Ex) : Prop := ∀ A, AOk H A -> W2 K CL H A cls dx x
end
noncomputable def Bp(B : Ai -> Prop)(ρ : Rho)(σ : L2.St) : Ai -> Prop := fun a => B a \/ ∃(j : Ag)(d : D), ρ[j]? = Aa (Aa (d, Ac)) /\ σ[j]? = Aa (Aa (.ref a))
structure Sx (K : Fg) (CL : ClA) (Fz : Ai -> HO -> Prop) (B : Ai -> Prop) (ρ : Rho) (σ : L2.St) (H : Hp) : Prop where
 good : Good K CL (Bp B ρ σ) ρ σ H
 aok : AOk H (Bp B ρ σ)
 new : ∀(j : Ag)(d : D)(a : Ai), ρ[j]? = Aa (Aa (d, Ac)) -> σ[j]? = Aa (Aa (.ref a)) -> (∀ o, ¬ Fz a o) /\ ¬ B a
 dis : ∀(i j : Ag)(d e : D)(a : Ai), ρ[i]? = Aa (Aa (d, Ac)) -> ρ[j]? = Aa (Aa (e, Ac)) -> σ[i]? = Aa (Aa (.ref a)) -> σ[j]? = Aa (Aa (.ref a)) -> i = j
 same : ∀ b o, Fz b o -> H b = Aa o
 len : ρ.length = σ.length
noncomputable def BB(K : Fg)(CL : ClA)(Fz : Ai -> HO -> Prop)(B : Ai -> Prop)(W : XW)(o : O)(D : Ends) : Prop := match o with
  |.next ρ => ∀ σ H, Sx K CL Fz B ρ σ H -> D.nx σ H
  |.brk ρ => ∀ σ H, Sx K CL Fz B ρ σ H -> D.bk σ H
  |.cont ρ => ∀ σ H, Sx K CL Fz B ρ σ H -> D.ct σ H
  |.ret d fr => ∀ v H, (∀ b o, Fz b o -> H b = Aa o) -> Rep K CL H B v d -> (fr = Ac -> ∀ ds, d = .lst ds -> ∃ a xs, v = .ref a /\ (∀ o, ¬ Fz a o) /\ H a = Aa (.lst xs) /\ Reps K CL H (fun b => B b \/ b = a) xs ds) -> D.rt v H
  |.exn x _ => ∀ H, (∀ b o, Fz b o -> H b = Aa o) -> W x H
  |.bad => AW
section
variable{K : Fg}{CL : ClA}{Fz Fy : Ai -> HO -> Prop}{B : Ai -> Prop}{ρ : Rho}{σ : L2.St}{H H' : Hp}
theorem Sx.mono(k : ∀ b o, Fz b o -> Fy b o)(x : Sx K CL Fy B ρ σ H) : Sx K CL Fz B ρ σ H := ⟨x.good, x.aok, fun j d a h1 h2 => ⟨fun o z => (x.new j d a h1 h2).1 o (k _ _ z), (x.new j d a h1 h2).2⟩, x.dis, fun b o z => x.same b o (k _ _ z), x.len⟩
theorem Sx.grow(x : Sx K CL Fz B ρ σ H)(s : As H H') : Sx K CL Fz B ρ σ H' := ⟨x.good.same s, x.aok.same s, x.new, x.dis, fun b o z => s _ _ (x.same b o z), x.len⟩
theorem BX{l : Ab α}{v : α}(h : i ≠ j) : (l.set i v)[j]? = l[j]? := by rw[Bl h]
theorem EO{l : Ab α}{v w' : α}(h : (l.set i v)[i]? = Aa w') : w' = v := by
 rw[Do]at h;cases e : l[i]? with
 |none => rw[e]at h;cases h
 |some x => rw[e]at h;cases h;rfl
theorem Sx.set(x : Sx K CL Fz B ρ σ H){v : V}{d : D}(i : Ag)(r : Rep K CL H (Bp B ρ σ) v d) : Sx K CL Fz B (ρ.set i (Aa (d, Ad))) (σ.set i (Aa v)) H := by
 have own : ∀(j : Ag)(e : D), (ρ.set i (Aa (d, Ad)))[j]? = Aa (Aa (e, Ac)) -> i ≠ j /\ ρ[j]? = Aa (Aa (e, Ac)) := fun j e h => by
  by_cases hj : i = j
  ·subst hj;have := EO h;cases this
  ·exact⟨hj, by rw[BX hj]at h;exact h⟩
 have sub : ∀ a, Bp B (ρ.set i (Aa (d, Ad))) (σ.set i (Aa v)) a -> Bp B ρ σ a := fun a h => by
  rcases h with h|⟨j, e, h1, h2⟩
  ·exact .inl h
  ·obtain⟨hj, h1⟩ := own j e h1;rw[BX hj]at h2;exact .inr ⟨j, e, h1, h2⟩
 refine⟨⟨fun j e h => ?_, fun j e h => ?_, by rw[AX, AX];exact x.len⟩, fun a h => x.aok a (sub a h), fun j e a h1 h2 => ?_, fun j k e f a h1 h2 h3 h4 => ?_, x.same, by rw[AX, AX];exact x.len⟩
 ·by_cases hj : i = j
  ·subst hj;have e1 := EO h;cases e1;refine⟨v, ?_, Rep.sub sub _ r⟩;have hl : i<σ.length := by
    rw[<-x.len];have := (AT.mp h).1;simpa using this
   rw[Bm hl]
  ·rw[BX hj]at h;obtain⟨w', q, rw'⟩ := x.good.sh j e h;exact⟨w', by rw[BX hj];exact q, Rep.sub sub _ rw'⟩
 ·obtain⟨hj, h1⟩ := own j e h;obtain⟨a, o, q, ha, hh, rr⟩ := x.good.ow j e h1;exact⟨a, o, by rw[BX hj];exact q, .inr ⟨j, e, h, by rw[BX hj];exact q⟩, hh, rr.sub sub⟩
 ·obtain⟨hj, h1⟩ := own j e h1;rw[BX hj]at h2;exact x.new j e a h1 h2
 ·obtain⟨hj, h1⟩ := own j e h1;obtain⟨hk, h2⟩ := own k f h2;rw[BX hj]at h3;rw[BX hk]at h4;exact x.dis j k e f a h1 h2 h3 h4
end
section
variable{X : Cx}{CL : ClA}{W : XW}{pos : AH}{e : Ao}{fe : Rho -> R D}
noncomputable def SS(X : Cx)(CL : ClA)(W : XW)(st : Bb)(f : Rho -> O) : Prop := ∀ Fz B, PS X st (fun D σ H => ∃ ρ, Sx X.K CL Fz B ρ σ H /\ BB X.K CL Fz B W (f ρ) D)
noncomputable def SSs(X : Cx)(CL : ClA)(W : XW)(st : Ab Bb)(f : Rho -> O) : Prop := ∀ Fz B, PSs X st (fun D σ H => ∃ ρ, Sx X.K CL Fz B ρ σ H /\ BB X.K CL Fz B W (f ρ) D)
theorem PS.weak{e : Bb}{t t':TS}(h : PS X e t)(k : ∀ D σ H, t' D σ H -> t D σ H) : PS X e t' := fun pI s σ H D I q => h pI s σ H D I (k _ _ _ q)
theorem PSs.weak{e : Ab Bb}{t t':TS}(h : PSs X e t)(k : ∀ D σ H, t' D σ H -> t D σ H) : PSs X e t' := fun pI s σ H D I q => h pI s σ H D I (k _ _ _ q)
theorem BB.ex{f:D -> O}(x : Sx X.K CL Fz B ρ σ H)(h : BB X.K CL Fz B W (O.of ρ r f) D')(k : ∀ d v H', r = .ok d -> As H H' -> Rp H' v d -> Sx X.K CL Fz B ρ σ H' -> BB X.K CL Fz B W (f d) D' -> Q v H') : AQ Rp W H r Q := by
 cases r with
 |ok d => exact fun v H' s r => k d v H' rfl s r (x.grow s) h
 |exn y => exact fun H' s => h H' fun b o z => s _ _ (x.same b o z)
 |bad => exact h
theorem BB.exB{r:R An}{f:An -> O}{Q:An -> Hp -> Prop}(x : Sx X.K CL Fz B ρ σ H)(h : BB X.K CL Fz B W (O.of ρ r f) D')(k : ∀ b H', r = .ok b -> As H H' -> Sx X.K CL Fz B ρ σ H' -> BB X.K CL Fz B W (f b) D' -> Q b H') : BZ W H r Q := by
 cases r with
 |ok d => exact fun H' s => k d H' rfl s (x.grow s) h
 |exn y => exact fun H' s => h H' fun b o z => s _ _ (x.same b o z)
 |bad => exact h
theorem Rs(he : SE X CL W e fe)(hs : Cw e Af pos.line X.env = pure Ad) : SS X CL W (.Expr e pos) (fun ρ => O.of ρ (fe ρ) fun _ => .next ρ) := fun Fz B pI s σ H D I ⟨ρ, x, p⟩=>
 Lz (he (Bp B ρ σ)) hs pI s σ H D I ⟨x.aok, ρ, x.good, BB.ex x p fun d v H' _ s r x' q => q σ H' x'⟩
theorem Ro(he : SE X CL W e fe) : SS X CL W (.Return (Aa e) pos) (fun ρ => O.of ρ (fe ρ) fun d => .ret d Ad) := fun Fz B pI s σ H D I ⟨ρ, x, p⟩=>
 Jt (he (Bp B ρ σ)) pI s σ H D I ⟨x.aok, ρ, x.good, BB.ex x p fun d v H' _ s r x' q => q v H' x'.same (Rep.sub (fun a h => .inl h) _ r) fun z => nomatch z⟩
theorem UZ{a b:Ab Bb}{fa fb:Rho -> O}(hc : SB X CL W c fc)(ha : SSs X CL W a fa)(hb : SSs X CL W b fb) : SS X CL W (.If c a b pos) (fun ρ => O.of ρ (fc ρ) fun k => if k = Ac then fa ρ else fb ρ) := fun Fz B pI s σ H D I ⟨ρ, x, p⟩=>
 Vb (hc (Bp B ρ σ)) (ha Fz B) (hb Fz B) pI s σ H D I ⟨x.aok, ρ, x.good, BB.exB x p fun k H' _ s x' q => by
  cases k with
  |true => exact⟨ρ, x', q⟩
  | false => exact⟨ρ, x', q⟩⟩
theorem Rm : SSs X CL W [] (fun ρ => .next ρ) := fun Fz B => PSs.weak Q2 fun D σ H ⟨ρ, x, p⟩ => p σ H x
theorem Qj{st : Bb}{rest : Ab Bb}{f g:Rho -> O}(h1 : SS X CL W st f)(h2 : SSs X CL W rest g) : SSs X CL W (st::rest) (fun ρ => (f ρ).seq g) := fun Fz B => PSs.weak (PZ (h1 Fz B) (h2 Fz B)) fun D σ H ⟨ρ, x, p⟩ => ⟨ρ, x, by
 dsimp only at p;cases e : f ρ with
 |next ρ' => rw[e]at p;exact fun σ' H' x' => ⟨ρ', x', p⟩
 |ret d b => rw[e]at p;exact p
 |brk ρ' => rw[e]at p;exact p
 |cont ρ' => rw[e]at p;exact p
 |exn y ρ' => rw[e]at p;exact p
 | bad => rw[e]at p;exact p⟩
end
noncomputable def Gk(K : Fg)(CL : ClA)(A : Ai -> Prop)(ds : Ab D)(J : It)(H1 : Hp) : Prop := ∀ H, Kp A H1 H -> ∀ i : Ag, (ds.length <= i -> J.stop i H) /\ ∀ d, ds[i]? = Aa d -> J.go i H /\ ∀ x H', J.yld i H x H' -> As H H' /\ ∀ B, (∀ a, B a -> A a \/ H1 a = Af) -> AOk H B -> Rep K CL H' B x d
noncomputable def Dr(K : Fg)(CL : ClA)(A : Ai -> Prop)(W : XW)(H : Hp)(r : R (Ab D))(Q : It -> Hp -> Prop) : Prop := match r with
  |.ok ds => ∀ J H', As H H' -> Gk K CL A ds J H' -> ds.length <= sizeLine -> Q J H'
  |.exn x => ∀ H', As H H' -> W x H'
  |.bad => AW
noncomputable def SI(X : Cx)(CL : ClA)(W : XW)(tg iter : Ao)(f : Rho -> R (Ab D)) : Prop := ∀ A, PI X tg iter (fun σ H R => AOk H A /\ ∃ ρ, Good X.K CL A ρ σ H /\ Dr X.K CL A W H (f ρ) R)
theorem PI.weak{t t':TI}(h : PI X tg e t)(k : ∀ σ H Q, t' σ H Q -> t σ H Q) : PI X tg e t' := fun pI s σ H Q I q => h pI s σ H Q I (k _ _ _ q)
section
variable{X : Cx}{CL : ClA}{W : XW}{pos p : AH}{tg e a b : Ao}{fe fa fb : Rho -> R D}
theorem Dr.ex{f:D -> R (Ab D)}{Q:It -> Hp -> Prop}{Q':VK}(h : Dr X.K CL A W H (r.bind f) Q)(k : ∀ d v H', r = .ok d -> As H H' -> Rp H' v d -> Dr X.K CL A W H' (f d) Q -> Q' v H') : AQ Rp W H r Q' := by
  cases r with
  | ok d => exact fun v H' s q => k d v H' rfl s q (by
      have h' : Dr X.K CL A W H (f d) Q := h;cases e : f d with
      |ok ds => rw[e]at h';exact fun J H2 s2 y z => h' J H2 (s.trans s2) y z
      |exn y => rw[e]at h';exact fun H2 s2 => h' H2 (s.trans s2)
      | bad => rw[e]at h';exact h')
  |exn y => exact h
  |bad => exact h
theorem KD{x:V}(r : Rep K CL H1 A x d)(k : Kp A H1 H)(hB : ∀ a, B a -> A a \/ H1 a = Af) : Rep K CL H B x d := by
 have r1 : Rep K CL H1 (fun a => A a \/ B a) x d := Rep.wide (fun a ha => ha.elim .inl (hB a)) _ r
 have r2 : Rep K CL H (fun a => A a \/ B a) x d := Rep.kp (fun b o e na => k b o e fun z => na (.inl z)) _ r1
 exact Rep.sub (fun a ha => .inr ha) _ r2
theorem O1{ds : Ab D}(na : ¬ A q \/ KL K q xs)(s : SqL K H q xs)(r : Reps K CL H A xs ds) : Gk K CL A ds (Itl K q) H := fun H' k i => by
 have s' := Jz k na s;refine⟨fun h => ⟨xs, s', by rw[r.length];exact h⟩, fun d hd => ?_⟩
 obtain⟨v, hv, rv⟩ := r.get hd;exact⟨⟨xs, v, s', hv⟩, fun x H2 ⟨e, y⟩ => by
  subst e;have := y xs s';rw[hv]at this;cases this;exact⟨As.refl _, fun B hB _ => KD rv k hB⟩⟩
theorem Qf{ds : Ab D}(na : ¬ A q \/ KT K q xs)(s : SqT K H q xs)(r : Reps K CL H A xs ds) : Gk K CL A ds (Itt K q) H := fun H' k i => by
 have s' := HR k na s;refine⟨fun h => ⟨xs, s', by rw[r.length];exact h⟩, fun d hd => ?_⟩
 obtain⟨v, hv, rv⟩ := r.get hd;exact⟨⟨xs, v, s', hv⟩, fun x H2 ⟨e, y⟩ => by
  subst e;have := y xs s';rw[hv]at this;cases this;exact⟨As.refl _, fun B hB _ => KD rv k hB⟩⟩
theorem Ln(lo : Ae)(n : Ag) : Gk K CL A (Dc lo n) (Itr lo n) H := fun H' k i => by
 refine⟨fun h => by rw[Iz]at h;exact h, fun d hd => ?_⟩
 obtain⟨h1, rfl⟩ := PD hd;exact⟨h1, fun x H2 ⟨e, y⟩ => by
  subst e y;exact⟨As.refl _, fun _ _ _ => rfl⟩⟩
theorem TX{l:Ao}{tl:TE}(hl : PE X l tl) : PI X tg l (fun σ H R => tl σ H fun x H1 => (∃ a, x = .ref a /\ (∃ xs, SqL X.K H1 a xs /\ (xs.length <= sizeLine -> R (Itl X.K a) H1))) \/ ∃ a, x = .ref a /\ (∃ xs, SqT X.K H1 a xs /\ (xs.length <= sizeLine -> R (Itt X.K a) H1))) := by
 intro pI s σ H R I h;refine thn (hl pI s σ H _ I h) fun v s1 ⟨x, H1, I1, r1, q1⟩ => ?_
 rcases q1 with ⟨a, e, xs, hq, q⟩|⟨a, e, xs, hq, q⟩
 ·subst e;cases r1;obtain⟨its, rv, p, hz⟩ := I1.list hq;refine OI p.isList ?_;refine⟨s1.heap.objs.size, [s1.heap.objs.size], _, _, H1, rfl, I1.kept (t' := s1.toks) fun b o e => Aw _ e, Ps a _, ⟨_, A8 _ rfl, rfl, rfl⟩, fun b hb => ?_, q hz⟩
  have e : b = s1.heap.objs.size := by simpa using hb
  subst e;exact I1.fpOk (AG _) (I1.hok.fresh (AG _))
 ·subst e;cases r1;obtain⟨its, rv, p, hz⟩ := I1.tuple hq;refine wpAny_pyIter_tuple (show s1.heap.IsTuple a its.toArray from p) ?_
  refine⟨s1.heap.objs.size, [s1.heap.objs.size], _, _, H1, rfl, I1.kept (t' := s1.toks) fun b o e => Aw _ e, O2 a _, ⟨_, A8 _ rfl, rfl, rfl⟩, fun b hb => ?_, q hz⟩
  have e : b = s1.heap.objs.size := by simpa using hb
  subst e;exact I1.fpOk (AG _) (I1.hok.fresh (AG _))
theorem WR(he : SE X CL W e fe) : SI X CL W tg e (fun ρ => (fe ρ).bind Db) := fun A => PI.weak (TX (he A)) fun σ H R ⟨hA, ρ, g, p⟩ => ⟨hA, ρ, g, Dr.ex p fun d v H1 _ s1 r1 p1 => by
 cases d with
 |lst ds=>
  obtain⟨q, xs, rfl, na, sq, r⟩ := r1;exact .inl ⟨q, rfl, xs, sq, fun hz => p1 _ H1 (As.refl H1) (O1 na sq r) (by rw[<-r.length];exact hz)⟩
 |tup ds=>
  obtain⟨q, xs, rfl, na, sq, r⟩ := r1;exact .inr ⟨q, rfl, xs, sq, fun hz => p1 _ H1 (As.refl H1) (Qf na sq r) (by rw[<-r.length];exact hz)⟩
 | _ => exact p1.elim⟩
theorem KF{ds : Ab D}(h : CF lo hi = .ok ds) : (-(2 ^ 62) <= lo /\ lo<2 ^ 62) /\ (-(2 ^ 62) <= hi /\ hi<2 ^ 62) /\ ds = Dc lo (hi-lo).toNat /\ (Dc lo (hi-lo).toNat).length <= sizeLine := by
 unfold CF at h;split at h
 ·rename_i q;cases h;exact⟨by omega, by omega, rfl, by rw[Iz, Dy];omega⟩
 ·cases h
theorem Km(h : CF lo hi = .exn x) : AW := by
 unfold CF at h;split at h <;> cases h
theorem SH(ha : ST X CL W a fa)(hg : Gl X "range")(hm : X.mg "range" = Af)(hs : At [a] X.env = [(Ad, eval a X.env)]) : SI X CL W tg (.Call (.Name "range" p) [a] [] pos) (fun ρ => (fa ρ).bind fun x => (C1 x).bind fun j => CF 0 j):=
 fun A => PI.weak (Pd hg hm (EL (ha A) Gd hs) hs) fun σ H R ⟨hA, ρ, g, q⟩ => ⟨hA, ρ, g, Dr.ex q fun d v H1 _ s1 r1 p1 => by
  cases d with
  |int j=>
   have e := r1.int_of;subst e;have p2 : Dr X.K CL A W H1 (CF 0 j) R := p1;cases e2 : CF 0 j with
   |ok ds=>
    rw[e2]at p2;obtain⟨_, h2, rfl, hz⟩ := KF e2;exact⟨j, rfl, h2.1, h2.2, p2 _ H1 (As.refl H1) (by rw[FI];exact Ln 0 j.toNat) hz⟩
   |exn y => exact(Km e2).elim
   |bad => rw[e2]at p2;exact p2.elim
  | _ => exact p1.elim⟩
theorem Ry(ha : ST X CL W a fa)(hb : ST X CL W b fb)(hg : Gl X "range")(hm : X.mg "range" = Af)(hs : At [a, b] X.env = [(Ad, eval a X.env), (Ad, eval b X.env)])(hs2 : At [b] X.env = [(Ad, eval b X.env)]):
  SI X CL W tg (.Call (.Name "range" p) [a, b] [] pos) (fun ρ => (fa ρ).bind fun x => (fb ρ).bind fun y => (C1 x).bind fun i => (C1 y).bind fun j => CF i j):=
 fun A => PI.weak (Pc hg hm (EL (ha A) (EL (hb A) Gd hs2) (by rw[hs, hs2])) hs hs2) fun σ H R ⟨hA, ρ, g, q⟩ => ⟨hA, ρ, g, Dr.ex q fun d v H1 _ s1 r1 p1 => ⟨hA.same s1, ρ, g.same s1, Dr.ex p1 fun d2 v2 H2 _ s2 r2 p2 => by
  cases d with
  |int i=>
   cases d2 with
   |int j=>
    have e := r1.int_of;have e' := r2.int_of
    subst e e';have p3 : Dr X.K CL A W H2 (CF i j) R := p2;cases e2 : CF i j with
    |ok ds=>
     rw[e2]at p3;obtain⟨h1, h2, rfl, hz⟩ := KF e2;exact⟨i, j, rfl, ⟨h1.1, h1.2, h2.1, h2.2⟩, p3 _ H2 (As.refl H2) (Ln _ _) hz⟩
    |exn y => exact(Km e2).elim
    |bad => rw[e2]at p3;exact p3.elim
   |_ => exact p2.elim
  | _ => exact p2.elim⟩⟩
theorem BB.exI{r:R (Ab D)}{f:Ab D -> O}{Q:It -> Hp -> Prop}(x : Sx X.K CL Fz B ρ σ H)(h : BB X.K CL Fz B W (O.of ρ r f) D')(k : ∀ ds J H', r = .ok ds -> As H H' -> Gk X.K CL A ds J H' -> ds.length <= sizeLine -> Sx X.K CL Fz B ρ σ H' -> BB X.K CL Fz B W (f ds) D' -> Q J H') : Dr X.K CL A W H r Q := by
 cases r with
 |ok d => exact fun J H' s y z => k d J H' rfl s y z (x.grow s) h
 |exn y => exact fun H' s => h H' fun b o z => s _ _ (x.same b o z)
 |bad => exact h
theorem BB.turn{Fy:Ai -> HO -> Prop}{o:O}{g:Rho -> O}{N:L2.St -> Hp -> Prop}(hf : ∀ b q, Fz b q -> Fy b q)(h : BB K CL Fz B W (o.turn g) D')(k : ∀ ρ' σ' H', Sx K CL Fy B ρ' σ' H' -> BB K CL Fz B W (g ρ') D' -> N σ' H'):BB K CL Fy B W o {D' with nx := N,ct := N,bk := D'.nx} := by
 cases o with
 |next ρ' => exact fun σ' H' x => k ρ' σ' H' x h
 |cont ρ' => exact fun σ' H' x => k ρ' σ' H' x h
 |brk ρ' => exact fun σ' H' x => h σ' H' (x.mono hf)
 |ret d b => exact fun v H' s r n => h v H' (fun b o z => s b o (hf b o z)) r fun z ds e => let ⟨a, xs, h1, h2, h3⟩ := n z ds e;⟨a, xs, h1, fun o q => h2 o (hf a o q), h3⟩
 |exn y ρ' => exact fun H' s => h H' (fun b o z => s b o (hf b o z))
 |bad => exact h
noncomputable def DX(ts : Ab Ag)(ρ : Rho) : Rho := ts.foldl (fun ρ t => ρ.set t Af) ρ
noncomputable def GT(K : Fg)(CL : ClA)(as : D -> Rho -> R Rho)(g : TG) : Prop := ∀ Fz B ρ σ H v d ρ' Q, Sx K CL Fz B ρ σ H -> Rep K CL H (Bp B ρ σ) v d -> as d ρ = .ok ρ' -> (∀ σ', Sx K CL Fz B ρ' σ' H -> Q σ' H) -> g v σ H Q
theorem Sa(i : Ag) : GT K CL (fun d ρ => .ok (ρ.set i (Aa (d, Ad)))) (Er i) := fun Fz B ρ σ H v d ρ' Q x r e k => by
 cases e;exact k _ (x.set i r)
theorem LZ{K : Fg}{Fz : Ai -> HO -> Prop}{B : Ai -> Prop}{H : Hp} : ∀(ts : Ab Ag)(ds : Ab D)(vs : Ab V)(ρ ρ' : Rho)(σ : L2.St)(Q : L2.St -> Hp -> Prop), Sx K CL Fz B ρ σ H -> Reps K CL H (Bp B ρ σ) vs ds -> Eo ts ds ρ = Aa ρ' -> (∀ σ', Sx K CL Fz B ρ' σ' H -> Q σ' H) -> (ts.foldr (fun t u => Hg (Er t) u) Hl) vs σ H Q
 |[], [], [], ρ, ρ', σ, Q, x, _, e, k => by
  cases e;exact⟨rfl, k σ x⟩
 |t::ts, d::ds, v::vs, ρ, ρ', σ, Q, x, r, e, k => by
  refine⟨v, vs, rfl, LZ ts ds vs _ ρ' _ Q (x.set t r.1) (Reps.sub (fun a ha => ?_) ds r.2) e k⟩
  rcases ha with ha|⟨j, c, h1, h2⟩
  ·exact .inl ha
  ·by_cases hj : t = j
   ·subst hj;have := EO h1;cases this
   ·rw[BX hj]at h1 h2;exact .inr ⟨j, c, h1, h2⟩
 |[], _::_, _, _, _, _, _, _, _, e, _ => by cases e
 |_::_, [], _, _, _, _, _, _, _, e, _ => by cases e
 |[], [], _::_, _, _, _, _, _, r, _, _ => r.elim
 |_::_, _::_, [], _, _, _, _, _, r, _, _ => r.elim
theorem Kl : ∀(ts : Ab Ag)(ds : Ab D)(ρ ρ' : Rho), Eo ts ds ρ = Aa ρ' -> ds.length = ts.length
 |[], [], _, _, _ => rfl
 |_::ts, _::ds, _, _, e => congrArg (· + 1) (Kl ts ds _ _ e)
 |[], _::_, _, _, e => by cases e
 |_::_, [], _, _, e => by cases e
theorem TD(ts : Ab Ag) : GT K CL (Ep ts) (JZ K ts.length (ts.foldr (fun t u => Hg (Er t) u) Hl)) := fun Fz B ρ σ H v d ρ' Q x r e k => by
 cases d with
 |tup ds=>
  obtain⟨a, xs, rfl, na, sq, rs⟩ := r;rw[OZ]at e;cases e2 : Eo ts ds ρ with
  |none => rw[e2]at e;cases e
  |some ρ2=>
   rw[e2]at e;cases e;exact⟨a, xs, rfl, sq, by rw[rs.length];exact Kl _ _ _ _ e2, LZ ts ds xs ρ _ σ Q x rs e2 k⟩
 |_ => cases e
theorem Me{body:Ab Bb}{fbd:Rho -> O}{g:TG}(hp : DL (model X.prog X.w) X.A X.env X.xe)(hc : X.calm = Ac)(hGT : GT X.K CL as g)(hg : PG X tg g)(hit : SI X CL W tg iter fi)(hb : SSs X CL W body fbd)(hs : ∀ x, BO iter X.env x = pure x)(hax : ∀ d ρ x, as d ρ ≠ .exn x):SS X CL W (.For tg iter body [] pos) (fun ρ =>O.of ρ (fi ρ) fun xs =>CG (fun x ρ' =>O.of ρ' (as x ρ') fbd) xs ρ) := fun Fz B pI s σ H D I ⟨ρ, x, p⟩ => by
 refine TU hp hc (hit (Bp B ρ σ)) hg (tb := fun D σ H => ∃ Fy, (fun D σ H => ∃ ρ, Sx X.K CL Fy B ρ σ H /\ BB X.K CL Fy B W (fbd ρ) D) D σ H) (fun pI s σ H D I ⟨Fy, q⟩ => hb Fy B pI s σ H D I q) hs pI s σ H D I ⟨x.aok, ρ, x.good, BB.exI x p fun ds J H1 _ s1 y _ x1 q => ?_⟩
 let Fy : Ai -> HO -> Prop := fun b o => H1 b = Aa o /\ ¬ ∃(j : Ag)(d : Ov.D), ρ[j]? = Aa (Aa (d, Ac)) /\ σ[j]? = Aa (Aa (.ref b))
 have hfy : ∀ b o, Fz b o -> Fy b o := fun b o z => ⟨x1.same b o z, fun ⟨j, d, h1, h2⟩ => (x1.new j d b h1 h2).1 o z⟩
 have xy : Sx X.K CL Fy B ρ σ H1 := ⟨x1.good, x1.aok, fun j d a h1 h2 => ⟨fun o z => z.2 ⟨j, d, h1, h2⟩, (x1.new j d a h1 h2).2⟩, x1.dis, fun b o z => z.1, x1.len⟩
 refine⟨fun k m σ' H' => m = ds.length-k /\ k <= ds.length /\ ∃ ρ', Sx X.K CL Fy B ρ' σ' H' /\ BB X.K CL Fz B W (CG (fun x ρ' => O.of ρ' (as x ρ') fbd) (ds.drop k) ρ') D, ⟨ds.length, by simp, F2 _, ρ, xy, q⟩, ?_⟩
 rintro k m σ' H' ⟨rfl, hk, ρ', x', q'⟩;have kp : Kp (Bp B ρ σ) H1 H' := fun b o e na => x'.same b o ⟨e, fun z => na (.inr z)⟩
 obtain⟨yst, ygo⟩ := y H' kp k;by_cases hlt : k<ds.length
 ·have hd : ds[k]? = Aa ds[k] := BK hlt;obtain⟨hgo, hyl⟩ := ygo _ hd;refine .inr ⟨hgo, fun σ'' H'' => ∃ ρ'', Sx X.K CL Fy B ρ'' σ'' H'' /\ BB X.K CL Fz B W (CG (fun x ρ' => O.of ρ' (as x ρ') fbd) (ds.drop (k+1)) ρ'') D, fun σ'' H'' z => ⟨ds.length-(k+1), by omega, rfl, hlt, z⟩, fun v H2 hv => ?_⟩
  obtain⟨e2, rv⟩ := hyl v H2 hv;rw[NH hlt]at q';have q2 : BB X.K CL Fz B W ((O.of ρ' (as ds[k] ρ') fbd).turn (CG (fun x ρ' => O.of ρ' (as x ρ') fbd) (ds.drop (k+1)))) D := q'
  have rv' : Rep X.K CL H2 (Bp B ρ' σ') v ds[k] := rv _ (fun a ha => by
    rcases ha with ha|⟨j, d, h1, h2⟩
    ·exact .inl (.inl ha)
    ·cases e : H1 a with
     |none => exact .inr rfl
     |some o=>
      by_cases ho : ∃(j : Ag)(d : Ov.D), ρ[j]? = Aa (Aa (d, Ac)) /\ σ[j]? = Aa (Aa (.ref a))
      ·exact .inl (.inr ho)
      ·exact absurd ⟨e, ho⟩ ((x'.new j d a h1 h2).1 o)) x'.aok
  cases ea : as ds[k] ρ' with
  |bad => rw[ea]at q2;exact q2.elim
  |exn z => exact absurd ea (hax _ _ z)
  |ok ρ2=>
   rw[ea, O.of_ok]at q2;exact hGT Fy B ρ' σ' H2 v ds[k] ρ2 _ (x'.grow e2) rv' ea fun σ3 x3 => ⟨Fy, ρ2, x3, BB.turn hfy q2 fun ρ3 σ3 H3 x3 q3 => ⟨ρ3, x3, q3⟩⟩
 ·have hk' : ds.length <= k := by omega
  rw[NI hk']at q';exact .inl ⟨yst hk', q' σ' H' (x'.mono hfy)⟩
end
section
variable{X : Cx}{CL : ClA}{W : XW}{a b c : Ao}{fa fb fc : Rho -> R D}{pos : AH}
noncomputable def tyK : Ki -> Al Ca
 |.int => Aa "int"
 |.bool => Aa "bool"
 |.str => Aa "str"
 |.list => Aa "list"
 |.tuple => Aa "tuple"
 |_ => Af
noncomputable def Ju : D -> An
 |.obj _ _ => Ad
 |.exc _ _ => Ad
 |.dic _ => Ad
 |_ => Ac
theorem TB{k:Ki}{Q:Ah -> Ak -> Prop}{E : Ah -> Ak -> Prop}(I : Inv X pI σ H s)(r : BH X.K CL H A v d)(q : AZ v u)(hT : tyK k = Aa T)(hd : Ju d = Ac)(h : ∀ s', Inv X pI σ H s' -> Q (.bool (kiD up k d)) s'):
  Ay (model X.prog X.w) X.A (call (.builtin "isinstance") [u, .type T]) Q E s := by
 have r' := r.plain;have it := fun t => h _ (I.tok t)
 cases d with
 |obj => cases hd
 |exc => cases hd
 |dic => cases hd
 |non=>
  cases r';cases q;cases k <;> simp only[tyK]at hT <;> cases hT
  ·exact IsiPair.NoneType_int (it _)
  ·exact IsiPair.NoneType_bool (it _)
  ·exact IsiPair.NoneType_str (it _)
  ·exact IsiPair.NoneType_list (it _)
  ·exact IsiPair.NoneType_tuple (it _)
 |bl b=>
  cases r';cases q;cases k <;> simp only[tyK]at hT <;> cases hT
  ·exact IsiPair.bool_int (h _ I)
  ·exact IsiPair.bool_bool (h _ I)
  ·exact IsiPair.bool_str (it _)
  ·exact IsiPair.bool_list (it _)
  ·exact IsiPair.bool_tuple (it _)
 |int i=>
  cases r';obtain⟨t, rfl⟩ := q;cases k <;> simp only[tyK]at hT <;> cases hT
  ·exact IsiPair.int_int (h _ I)
  ·exact IsiPair.int_bool (it _)
  ·exact IsiPair.int_str (it _)
  ·exact IsiPair.int_list (it _)
  ·exact IsiPair.int_tuple (it _)
 |str x=>
  cases r';obtain⟨t, rfl⟩ := q;cases k <;> simp only[tyK]at hT <;> cases hT
  ·exact IsiPair.str_int (it _)
  ·exact IsiPair.str_bool (it _)
  ·exact IsiPair.str_str (h _ I)
  ·exact IsiPair.str_list (it _)
  ·exact IsiPair.str_tuple (it _)
 |tup ds=>
  obtain⟨p, xs, rfl, _, sq, rr⟩ := r';obtain⟨its, rv, pt, _⟩ := I.tuple sq;cases q;have pt' : s.heap.IsTuple p its.toArray := pt;cases k <;> simp only[tyK]at hT <;> cases hT
  ·exact IsiPair.isTuple_int pt' (fun _ _ e => e) (it _)
  ·exact IsiPair.isTuple_bool pt' (fun _ _ e => e) (it _)
  ·exact IsiPair.isTuple_str pt' (fun _ _ e => e) (it _)
  ·exact IsiPair.isTuple_list pt' (fun _ _ e => e) (it _)
  ·exact IsiPair.isTuple_tuple pt' (fun _ _ e => e) (h _ I)
 |lst ds=>
  obtain⟨p, xs, rfl, _, sq, rr⟩ := r';obtain⟨its, rv, pl, _⟩ := I.list sq;cases q;have pt' : s.heap.IsList p its.toArray := GE pl;cases k <;> simp only[tyK]at hT <;> cases hT
  ·exact IsiPair.isList_int pt' (fun _ _ e => e) (it _)
  ·exact IsiPair.isList_bool pt' (fun _ _ e => e) (it _)
  ·exact IsiPair.isList_str pt' (fun _ _ e => e) (it _)
  ·exact IsiPair.isList_list pt' (fun _ _ e => e) (h _ I)
  ·exact IsiPair.isList_tuple pt' (fun _ _ e => e) (it _)
theorem Pk{k:Ki}(hT : tyK k = Aa T)(p : AQ Rp W H (EV up [k] d) Q) : Ju d = Ac /\ AQ Rp W H (.ok (.bl (kiD up k d))) Q := by
 cases k <;> simp only[tyK]at hT <;> cases hT <;> cases d <;> first|exact p.elim|exact⟨rfl, by simpa using p⟩
theorem SQ{k:Ki}{x:Aj}{p:AH}(hT : tyK k = Aa T)(hg : Gl X "isinstance")(hm : X.mg "isinstance" = Af)(hg2 : Gl X x)(hm2 : X.mg x = Af)(hv : BV x = Aa (.type T))(hn : x ≠ "__name__")(hdb : (x==("__debug__" : Aj)) = Ad)(ha : ST X CL W a fa)(he : At [a, .Name x p2] X.env = (Ad, eval a X.env)::At [.Name x p2] X.env) : SE X CL W (.Call (.Name "isinstance" p) [a, .Name x p2] [] pos) (fun ρ => (fa ρ).bind fun x => EV up [k] x) := fun A=>
 PE.weak (La (r := fun xs H Q => ∃ y d, xs = [y, .ty T] /\ BH X.K CL H A y d /\ Ju d = Ac /\ Q (.bl (kiD up k d)) H) (fun pI s σ H xs us Q I r ⟨y, d, e, ry, hd, q⟩ => by
   subst e;obtain⟨u, w', rfl, r1, r2⟩ := JF r;cases r2;exact TB I ry r1 hT hd fun s' I' => ⟨.bl _, H, I', rfl, q⟩)
  hg hm boot_isinstance (EL (ha A) (EL (Q9 (v := .ty T) hg2 hm2 hv rfl hn hdb) Gd rfl) he) (by decide) (by decide) he rfl) fun σ H Q ⟨hA, ρ, g, q⟩ => ⟨hA, ρ, g, AQ.bind q fun d v H1 _ s1 r1 p1 => by
   obtain⟨hd, p2⟩ := Pk hT p1;exact⟨v, d, rfl, r1, hd, p2 _ H1 (As.refl H1) rfl⟩⟩
theorem Qm{b : An}{A':AK}{E : Ah -> Ak -> Prop}{Q:An -> Ak -> Prop}{prog:AB}{w:AI}(r : Rep X.K CL H A v d)(q : AZ v u)(h : D1 d = .ok b)(hq : Q b s) : Ay (model prog w) A' (truthy u) Q E s := by
 cases d with
 |non=>
  cases r;cases q;cases h;exact truthy_none hq
 |bl k=>
  cases r;cases q;cases h;exact Bz hq
 |int i=>
  cases r;obtain⟨t, rfl⟩ := q;cases h;exact truthy_int hq
 |_ => cases h
theorem Kt : ∀{ds : Ab D}{b : An}, Et ds = .ok b -> (∀ j, j<ds.length -> ∃ c, D1 (ds.getD j .non) = .ok c) /\ b = (B7 ds.length).all fun j => match D1 (ds.getD j .non) with
  |.ok c => c
  |_ => Ad
 |[], b, h => by cases h;exact⟨fun j hj => absurd hj (Nat.not_lt_zero _), rfl⟩
 |d::ds, b, h => by
  rw[Je]at h;cases e : D1 d with
  |bad => rw[e]at h;cases h
  |exn x => rw[e]at h;cases h
  |ok c=>
   rw[e, R.bind_ok]at h;cases e2 : Et ds with
   |bad => rw[e2]at h;cases h
   |exn x => rw[e2]at h;cases h
   |ok c2=>
    rw[e2, R.bind_ok]at h;cases h;obtain⟨h1, h2⟩ := Kt e2;refine⟨fun j hj => ?_, ?_⟩
    ·cases j with
     |zero => exact⟨c, e⟩
     |succ j => exact h1 j (by simpa using hj)
    ·rw[DA, Kf, h2];show (c&&_) = ((match D1 d with | .ok c => c|_ => Ad)&&_)
     rw[e];rfl
theorem RX{ds : Ab D}(r : Reps X.K CL H A0 xs ds)(rv : AN xs its){v:Ah}(h : its.toArray[j]? = Aa v) : j<ds.length /\ ∃ x, Rep X.K CL H A0 x (ds.getD j .non) /\ AZ x v := by
 have h' : its[j]? = Aa v := by simpa using h
 obtain⟨hj, e⟩ := AT.mp h';obtain⟨x, rx, q⟩ := Ga r rv hj;have l1 := rv.length;have l2 := r.length
 exact⟨by omega, x, rx, by rw[<-e];exact q⟩
theorem Wi{o:AA}(k : ∀ b q, b ∉ [h.objs.size] -> (h.push o).get? b = Aa q -> h'.get? b = Aa q) : ∀ b q, h.get? b = Aa q -> h'.get? b = Aa q := fun b q e => k b q (by
 intro z;have := A9.mp z;rw[this]at e;exact absurd (Az e) (A5 _)) (Aw _ e)
theorem Uk(hc : X.calm = Ac) : Gh X CL W (.builtin "all") (biD .all) := by
  intro A pI s σ H xs us Q I r ⟨hA, ds, rs, p⟩
  match ds, rs, p with
  |[.lst es], rs, p=>
    obtain⟨v, rfl, rv⟩ := rs.one;obtain⟨q, ys, e, _, sq, ry⟩ := rv.plain;subst e;obtain⟨u, rfl, ru⟩ := GJ r;cases ru;rw[Wy]at p;cases e1 : Et es with
    |bad => rw[e1]at p;exact p.elim
    |exn x=>
      exfalso
      have : ∀(es : Ab D) x, Et es ≠ .exn x := by
        intro es
        induction es with
        |nil => intro x h;cases h
        |cons d ds ih=>
          intro x h;rw[Je]at h;cases e : D1 d with
          |bad => rw[e]at h;cases h
          |exn y => cases d <;> cases e
          |ok c=>
            rw[e, R.bind_ok]at h;cases e2 : Et ds with
            |bad => rw[e2]at h;cases h
            |exn y => exact ih y e2
            |ok c2 => rw[e2]at h;cases h
      exact this es x e1
    |ok b=>
      rw[e1, R.bind_ok]at p;obtain⟨h1, h2⟩ := Kt e1;obtain⟨its, rvv, pl, _⟩ := I.list sq;have hlt : q<s.heap.objs.size := by obtain⟨o, n, e, _⟩ := pl;exact Az e
      have hl : its.toArray.size = es.length := by rw[AD, <-rvv.length, ry.length]
      refine call_all_walk (OI (GE pl) ⟨s.heap.objs.size, _, _, _, _, _, (fun j => match D1 (es.getD j .non) with | .ok c => c|_ => Ad), rfl, Walks.list (A := X.A.in1) (I.ok.hd hc) s.heap.objs.size q (Bt hlt) its.toArray, ⟨⟨_, A8 _ rfl, rfl, rfl⟩, (GE pl).push _⟩, fun j v s' Q' E' hv hQ => ?_, fun h' tk k => ?_⟩)
      · obtain⟨hj, x, rx, qx⟩ := RX ry rvv hv;obtain⟨c, ec⟩ := h1 j hj;exact Qm rx qx ec (by dsimp only at hQ;rw[ec]at hQ;exact hQ)
      · rw[hl, <-h2];exact⟨.bl b, H, I.kept (Wi k), rfl, p _ H (As.refl H) rfl⟩
  |[], _, p => exact p.elim
  |[.non], _, p => exact p.elim
  |[.bl _], _, p => exact p.elim
  |[.int _], _, p => exact p.elim
  |[.str _], _, p => exact p.elim
  |[.tup _], _, p => exact p.elim
  |[.obj _ _], _, p => exact p.elim
  |[.exc _ _], _, p => exact p.elim
  |[.dic _], _, p => exact p.elim
  |x::_::_, _, p => cases x <;> exact p.elim
end
section
variable(K : Fg)(CL : ClA)
noncomputable def Wk(H0 : Hp)(A : Ai -> Prop)(H : Hp)(v : V)(d : D) : Prop := ∀ ds, d = .lst ds -> ∃ a xs, v = .ref a /\ H0 a = Af /\ H a = Aa (.lst xs) /\ Reps K CL H (fun b => A b \/ b = a) xs ds
noncomputable def CW(fr : An)(H0 : Hp)(A : Ai -> Prop)(H : Hp)(v : V)(d : D) : Prop := Rep K CL H A v d /\ (fr = Ac -> Wk K CL H0 A H v d)
end
section
variable{X : Cx}{CL : ClA}{W : XW}{a b c : Ao}{fa fb fc : Rho -> R D}{pos : AH}
noncomputable def SC(X : Cx)(CL : ClA)(W : XW)(fr : An)(e : Ao)(f : Rho -> R D) : Prop := ∀ A, PE X e (fun σ H Q => AOk H A /\ ∃ ρ, Good X.K CL A ρ σ H /\ AQ (CW X.K CL fr H A) W H (f ρ) Q)
theorem SC.se{fr : An}(h : SC X CL W fr a fa) : SE X CL W a fa := fun A => PE.weak (h A) fun σ H Q ⟨hA, ρ, g, p⟩ => ⟨hA, ρ, g, by
 cases e : fa ρ with
 |ok d => rw[e]at p;exact fun v H' s r => p v H' s r.1
 |exn x => rw[e]at p;exact p
 | bad => rw[e]at p;exact p⟩
theorem SE.sc(h : SE X CL W a fa) : SC X CL W Ad a fa := fun A => PE.weak (h A) fun σ H Q ⟨hA, ρ, g, p⟩ => ⟨hA, ρ, g, by
 cases e : fa ρ with
 |ok d => rw[e]at p;exact fun v H' s r => p v H' s ⟨r, fun z => nomatch z⟩
 |exn x => rw[e]at p;exact p
 | bad => rw[e]at p;exact p⟩
theorem SC.congr{fr : An}{f g:Rho -> R D}(h : SC X CL W fr a f)(e : ∀ ρ, g ρ = f ρ) : SC X CL W fr a g := fun A => PE.weak (h A) fun σ H Q ⟨hA, ρ, q, p⟩ => ⟨hA, ρ, q, by rw[<-e];exact p⟩
theorem Gx{ds : Ab D}(s : As H0 H)(hA : AOk H A)(hp : H p = Af)(r : Reps K CL H A xs ds) : CW K CL Ac H0 A (upd H p (.lst xs)) (.ref p) (.lst ds):=
 ⟨LG hA hp r, fun _ ds' e => by
  cases e;exact⟨p, xs, rfl, s.free hp, Fs, (Reps.wide (fun a ha => ha.imp id fun e => by rw[e];exact hp) _ r).same (Ea hp _)⟩⟩
theorem LQ{fr : An}(r : Rep K CL H A v d)(h : ∀ ds, d ≠ .lst ds) : CW K CL fr H0 A H v d := ⟨r, fun _ ds e => absurd e (h ds)⟩
theorem Sz{es:Ab Ao}(hs : SA X CL W es fs)(hz : ∀ ρ ds, fs ρ = .ok ds -> ds.length <= 100000) : SC X CL W Ac (.List es pos) (fun ρ => (fs ρ).bind fun xs => .ok (.lst xs)):=
 fun A => PE.weak (T7 (hs A)) fun σ H Q ⟨hA, ρ, g, p⟩ => ⟨hA, ρ, g, ES.bind p fun ds vs H1 e s1 r1 p1 => ⟨by
  rw[r1.length, Dy];have := hz ρ ds e;omega, fun q hq => p1 _ _ (Ea hq _) (Gx s1 (hA.same s1) hq r1)⟩⟩
theorem AQ.bindF{fr : An}{f:D -> R D}{Q':VK}(h : AQ (CW K CL fr H A) W H (r.bind f) Q)(k : ∀ d v H', r = .ok d -> As H H' -> Rp H' v d -> AQ (CW K CL fr H A) W H' (f d) Q -> Q' v H') : AQ Rp W H r Q' := by
 cases r with
 |ok d => exact fun v H2 s2 q => k d v H2 rfl s2 q (AQ.same s2 h)
 |exn x => exact h
 |bad => exact h
theorem ES.bindF{Rp:Hp -> Ab V -> Ab D -> Prop}{r:R (Ab D)}{f:Ab D -> R D}{Q':Ab V -> Hp -> Prop}(h : AQ Rq W H (r.bind f) Q)(k : ∀ d v H', r = .ok d -> As H H' -> Rp H' v d -> AQ Rq W H' (f d) Q -> Q' v H') : ES Rp W H r Q' := by
 cases r with
 |ok d => exact fun v H2 s2 q => k d v H2 rfl s2 q (AQ.same s2 h)
 |exn x => exact h
 |bad => exact h
theorem Gg.bindF{r:R (Al Ae)}{f:Al Ae -> R D}(h : AQ Rq W H (r.bind f) Q)(k : ∀ o H', r = .ok o -> As H H' -> AQ Rq W H' (f o) Q -> Q' o H') : Gg W H r Q' := by
 cases r with
 |ok d => exact fun H2 s2 => k d H2 rfl s2 (AQ.same s2 h)
 |exn x => exact h
 |bad => exact h
theorem U0{lo hi:Al Ao}{fl fh:Rho -> R (Al Ae)}(ha : ST X CL W a fa)(hl : SO X CL W lo fl)(hh : SO X CL W hi fh) : SC X CL W Ac (.Subscript a (.Slice lo hi Af p2) pos) (fun ρ => (fa ρ).bind fun x => (fl ρ).bind fun l => (fh ρ).bind fun h => slD x l h):=
 fun A => PE.weak (P2 (r := fun x l h H Q => MW X.K x l h H Q \/ MV X.K x l h H Q) (fun pI s σ H x v vl vu lo hi sl Q I rx hs pl pu h => h.elim (Rx pI s σ H x v vl vu lo hi sl Q I rx hs pl pu) (SG pI s σ H x v vl vu lo hi sl Q I rx hs pl pu)) (ha A) (hl A) (hh A)) fun σ H Q ⟨hA, ρ, g, p⟩ => ⟨hA, ρ, g, AQ.bindF p fun dx x H1 _ s1 r1 p1 => ⟨hA.same s1, ρ, g.same s1, Gg.bindF p1 fun l H2 _ s2 p2 => ⟨(hA.same s1).same s2, ρ, (g.same s1).same s2, Gg.bindF p2 fun h H3 _ s3 p3 => by
  cases dx with
  |lst ds=>
   obtain⟨q, xs, rfl, sq, r⟩ := ((r1.same s2).same s3).lst_of;exact .inl ⟨q, xs, rfl, sq, fun t ht => p3 _ _ (Ea ht _) (Gx ((s1.trans s2).trans s3) (((hA.same s1).same s2).same s3) ht (Lu l h r))⟩
  |tup ds=>
   obtain⟨q, xs, rfl, _, sq, r⟩ := ((r1.same s2).same s3).tup_of;rw[WQ]at p3;split at p3
   ·exact p3.elim
   ·rename_i hw;refine .inr ⟨q, xs, rfl, sq, ?_, fun t ht => p3 _ _ (Ea ht _) (LQ (HL (((hA.same s1).same s2).same s3) ht (Lu l h r)) (by intro _ z;cases z))⟩
    rintro⟨h1, h2⟩;refine hw ?_;have e : ∀ d o, HT.sIx xs.length d o = Fv ds.length d o := fun d o => by rw[r.length];cases o <;> rfl
    rw[e]at h1 h2;rw[r.length]at h2;simp[h1, h2]
  | _ => exact p3.elim⟩⟩⟩
noncomputable def OpN(X : Cx)(CL : ClA)(W : XW)(f : Ah -> Ah -> Sem Ah)(g : D -> D -> R D) : Prop:=
 ∀ A H0, OpR X f (fun x y H Q => As H0 H /\ AOk H A /\ ∃ dx dy, BH X.K CL H A x dx /\ BH X.K CL H A y dy /\ AQ (CW X.K CL Ac H0 A) W H (g dx dy) Q)
theorem Rb : OpN X CL W (Bi .Add) (BP .Add) := by
 intro A H0 pI s σ H x y v u Q I rx ry ⟨s0, hA, dx, dy, hx, hy, p⟩;have key : (∀ ds, dx ≠ .lst ds) -> EP X pI σ Q = EP X pI σ Q -> Ay (model X.prog X.w) X.A (Bi .Add v u) (EP X pI σ Q) X.xe s := fun hd _ => by
  refine LD (W := W) A pI s σ H x y v u Q I rx ry ⟨hA, dx, dy, hx, hy, ?_⟩;cases e : BP .Add dx dy with
  |bad => rw[e]at p;exact p
  |exn x => rw[e]at p;exact p
  |ok d=>
   rw[e]at p;refine fun v' H' s' r' => p v' H' s' (LQ r' fun ds z => ?_)
   subst z;cases dx with
   |lst ds => exact hd _ rfl
   |_ => cases dy <;> first|(cases e;done)|(simp only[BP]at e;split at e <;> cases e)
 cases dx with
 |lst ds=>
  cases dy with
  |lst es=>
   obtain⟨a, xs, rfl, s1, r1⟩ := hx.lst_of;obtain⟨b, ys, rfl, s2, r2⟩ := hy.lst_of;simp only[L8]at p;split at p
   ·rename_i h;refine LF pI s σ H _ _ v u Q I rx ry ⟨a, b, xs, ys, rfl, rfl, s1, s2, by rw[r1.length, r2.length];exact Fq h, fun q hq => ?_⟩
    exact p _ _ (Ea hq _) (Gx s0 hA hq (r1.append r2))
   ·exact p.elim
  |_ => exact p.elim
 |_ => exact key (by intro _ z;cases z) rfl
theorem SF(ha : ST X CL W a fa)(hb : ST X CL W b fb) : SC X CL W Ac (.BinOp a .Add b pos) (fun ρ => (fa ρ).bind fun x => (fb ρ).bind fun y => BP .Add x y):=
 fun A pI s σ H Q I h => by
  obtain⟨hA, ρ, g, p⟩ := h;exact MG (Rb (W := W) A H) (ha A) (hb A) pI s σ H Q I ⟨hA, ρ, g, AQ.bindF p fun dx x H1 _ s1 r1 p1 => ⟨hA.same s1, ρ, g.same s1, AQ.bind (Rq := CW X.K CL Ac H A) p1 fun dy y H2 _ s2 r2 p2 => ⟨s1.trans s2, (hA.same s1).same s2, dx, dy, r1.same s2, r2, p2⟩⟩⟩
noncomputable def MI(X : Cx)(CL : ClA)(W : XW)(f : Ah)(g : Ab D -> R D) : Prop := ∀ A H0, ET X f (fun xs H Q => As H0 H /\ AOk H A /\ ∃ ds, DE X.K CL H A xs ds /\ AQ (CW X.K CL Ac H0 A) W H (g ds) Q)
theorem RO : MI X CL W (.type "list") (biD .list) := by
  intro A H0 pI s σ H xs us Q I r ⟨s0, hA, ds, rs, p⟩
  match ds, rs, p with
  |[.lst es], rs, p=>
    obtain⟨v, rfl, rv⟩ := rs.one;obtain⟨q, ys, rfl, sq, ry⟩ := rv.lst_of;exact Kv pI s σ H _ us Q I r ⟨q, ys, rfl, .inl sq, fun l hl => p _ _ (Ea hl _) (Gx s0 hA hl ry)⟩
  |[.tup es], rs, p=>
    obtain⟨v, rfl, rv⟩ := rs.one;obtain⟨q, ys, rfl, _, sq, ry⟩ := rv.tup_of;exact Kv pI s σ H _ us Q I r ⟨q, ys, rfl, .inr sq, fun l hl => p _ _ (Ea hl _) (Gx s0 hA hl ry)⟩
  |[], _, p => exact p.elim
  |[.non], _, p => exact p.elim
  |[.bl _], _, p => exact p.elim
  |[.int _], _, p => exact p.elim
  |[.str _], _, p => exact p.elim
  |[.obj _ _], _, p => exact p.elim
  |[.exc _ _], _, p => exact p.elim
  |[.dic _], _, p => exact p.elim
  |x::_::_, _, p => cases x <;> exact p.elim
theorem SD{x:Aj}{p:AH}{es:Ab Ao}{g:Ab D -> R D}(hc : MI X CL W (.type T) g)(hg : Gl X x)(hm : X.mg x = Af)(hv : BV x = Aa (.type T))(ha : SAT X CL W (e::es) fs)(hn : x ≠ "__name__")(hdb : (x==("__debug__" : Aj)) = Ad)(he : At (e::es) X.env = (Ad, eval e X.env)::At es X.env)(hpl : ∀ pos, (BN pos (At es X.env)).any (·.1) = Ad):SC X CL W Ac (.Call (.Name x p) (e::es) [] pos) (fun ρ =>(fs ρ).bind g) := fun A pI s σ H Q I ⟨hA, ρ, gd, q⟩=>
 KI (hc A H) hg hm hv (ha A) hn hdb he (hpl _) pI s σ H Q I ⟨hA, ρ, gd, ES.bindF q fun ds vs H1 _ s1 r1 p1 => ⟨s1, hA.same s1, ds, r1, p1⟩⟩
mutual
theorem MB{K : Fg}{H : Hp}{A : Ai -> Prop}(hA : AOk H A) : ∀(n : Ag)(d : D){v : V}, nlD n d = Ac -> Rep K CL H A0 v d -> Rep K CL H A v d
 |_, .non, _, _, h => h
 |_, .bl _, _, _, h => h
 |_, .int _, _, _, h => h
 |_, .str _, _, _, h => h
 |0, .tup _, _, hn, _ => by cases hn
 |n+1, .tup ds, _, hn, h => by
  obtain⟨a, xs, e, _, s, r⟩ := h;refine⟨a, xs, e, ?_, s, nls_up hA n ds hn r⟩;rcases s with s|s
  ·refine .inl fun z => ?_
   obtain⟨u, q, ⟨ys, rfl⟩|⟨ys, rfl⟩⟩ := hA a z <;> rcases s with s|⟨o, s⟩ <;> rw[q]at s <;> cases s
  ·exact .inr s
 |n, .lst _, _, hn, _ => by cases n <;> cases hn
 |n, .obj _ _, _, hn, _ => by cases n <;> cases hn
 |n, .exc _ _, _, hn, _ => by cases n <;> cases hn
 |n, .dic _, _, hn, _ => by cases n <;> cases hn
theorem nls_up{K : Fg}{H : Hp}{A : Ai -> Prop}(hA : AOk H A) : ∀(n : Ag)(ds : Ab D){vs : Ab V}, ds.all (nlD n) = Ac -> Reps K CL H A0 vs ds -> Reps K CL H A vs ds
 |_, [], [], _, h => h
 |n, d::ds, _::_, hn, h => by
  simp only[El, Am]at hn;exact⟨MB hA n d hn.1 h.1, nls_up hA n ds hn.2 h.2⟩
 |_, [], _::_, _, h => h.elim
 |_, _::_, [], _, h => h.elim
end
theorem UE{fr : An}(hA0 : AOk H0 A)(s : As H0 H)(hc : GN fr d = Ac)(r : CW K CL fr H0 A0 H v d) : CW K CL fr H0 A H v d := by
 have hA := hA0.same s;cases d with
 |lst ds=>
  have hc' : (fr&&ds.all (nlD 5)) = Ac := hc;rw[Am]at hc';obtain⟨a, xs, e, h0, h1, rs⟩ := r.2 hc'.1 ds rfl;have hA2 : AOk H (fun b => A b \/ b = a) := fun b hb => hb.elim (hA b) fun e => by rw[e];exact⟨_, h1, .inl ⟨xs, rfl⟩⟩
  have rs' := nls_up hA2 5 ds hc'.2 (Reps.sub (fun _ z => z.elim) _ rs)
  refine⟨⟨a, xs, e, .inl (hA0.new h0), SqL.of h1, Reps.sub (fun _ z => .inl z) _ rs'⟩, fun _ ds' e' => ?_⟩
  cases e';exact⟨a, xs, e, h0, h1, rs'⟩
 |_ => exact⟨MB hA 5 _ hc r.1, fun _ _ z => nomatch z⟩
noncomputable def spD(K : Fg)(CL : ClA)(n : Ag)(fr : An)(F : Ab D -> R D) : Sp := fun vs H Q E => ∃(ds : Ab D)(A : Ai -> Prop), vs.length = n /\ AOk H A /\ Reps K CL H A vs ds /\ (match F ds with
  |.ok d => ∀ v H', As H H' -> CW K CL fr H A H' v d -> Q v H'
  |.exn x => ∀ cls dx H', As H H' -> ER K CL H' cls dx x -> E cls dx H'
  | .bad => AW)
noncomputable def EKW(K : Fg)(CL : ClA)(A : Ai -> Prop)(W : XW) : XK := fun cls dx H' => ∃ x, ER K CL H' cls dx x /\ W x H'
theorem DE.plain{K : Fg}{H : Hp}{A : Ai -> Prop} : ∀{vs : Ab V}{ds : Ab D}, DE K CL H A vs ds -> Reps K CL H A0 vs ds
 |[], [], h => trivial
 |_::_, _::_, h => ⟨h.1.plain, DE.plain h.2⟩
 |[], _::_, h => h.elim
 |_::_, [], h => h.elim
theorem RC{CX:CXT}{k:Ag}{fr : An}{f:Ai}{fd:Bu}{ps:Ab Aj}{F:Ab D -> R D}{x:Aj}{p:AH}{es:Ab Ao}{ft:Rho -> R (Ab D)}{sh : Rho -> An}(G : FnOk X.prog X.w X.K X.mg X.base CX k f fd ps (spD X.K CL n fr F))(hr : Room k X.A)(hg : Gl X x)(hm : X.mg x = Aa (.ref f))(hk : Cd X.K (.ref f) = Ac)(hb : EU X.K fd ps [])(hx : ∀ A, GI CX X (EKW X.K CL A W))(ha : SA X CL W (e::es) fs)(hat : SAT X CL W (e::es) ft)(hst : ∀ ρ, sh ρ = Ac -> ft ρ = fs ρ)(hn : ∀ ρ ds, ft ρ = .ok ds -> ds.length = n)(hdb : (x==("__debug__" : Aj)) = Ad)(he : At (e::es) X.env = (Ad, eval e X.env)::At es X.env)(hpl : ∀ pos, (BN pos (At es X.env)).any (·.1) = Ad):SC X CL W fr (.Call (.Name x p) (e::es) [] pos) (fun ρ =>(ft ρ).bind fun ds =>(F ds).bind fun d =>if sh ρ = Ac then .ok d else if GN fr d = Ac then .ok d else .bad) := fun A pI s σ H Q I ⟨hA, ρ, gd, q⟩ => by
 dsimp only at q;by_cases hs : sh ρ = Ac
 ·rw[hst ρ hs]at q;refine LA G hr hg hm hk hb .nil (hx A) (ha A) hdb he (hpl _) pI s σ H Q I ⟨hA, ρ, gd, ?_⟩;cases e1 : fs ρ with
  |bad => rw[e1]at q;exact q
  |exn y => rw[e1]at q;exact q
  |ok ds=>
   rw[e1]at q;intro vs H1 s1 r1;refine⟨ds, A, by rw[B6, r1.length];exact hn ρ ds (by rw[hst ρ hs];exact e1), hA.same s1, by rw[B6];exact r1, ?_⟩
   have q' : AQ (CW X.K CL fr H A) W H ((F ds).bind fun d => if sh ρ = Ac then .ok d else if GN fr d = Ac then .ok d else .bad) Q := q
   cases e2 : F ds with
   |ok d=>
    rw[e2, R.bind_ok, AE hs]at q';exact fun v H2 s2 r2 => q' v H2 (s1.trans s2) ⟨r2.1, fun z ds' e' => let ⟨a, xs, z1, z2, z3⟩ := r2.2 z ds' e';⟨a, xs, z1, s1.free z2, z3⟩⟩
   |exn y => rw[e2]at q';exact fun cls dx H2 s2 xr => ⟨y, xr, q' H2 (s1.trans s2)⟩
   |bad => rw[e2]at q';exact q'.elim
 ·refine LA G hr hg hm hk hb .nil (hx A0) (hat A) hdb he (hpl _) pI s σ H Q I ⟨hA, ρ, gd, ?_⟩;cases e1 : ft ρ with
  |bad => rw[e1]at q;exact q
  |exn y => rw[e1]at q;exact q
  |ok ds=>
   rw[e1]at q;intro vs H1 s1 r1;refine⟨ds, A0, by rw[B6, r1.plain.length];exact hn ρ ds e1, fun _ z => z.elim, by rw[B6];exact r1.plain, ?_⟩
   have q' : AQ (CW X.K CL fr H A) W H ((F ds).bind fun d => if sh ρ = Ac then .ok d else if GN fr d = Ac then .ok d else .bad) Q := q
   cases e2 : F ds with
   |ok d=>
    rw[e2, R.bind_ok, AF hs]at q';split at q'
    ·rename_i hc;exact fun v H2 s2 r2 => q' v H2 (s1.trans s2) (UE hA (s1.trans s2) hc ⟨r2.1, fun z ds' e' => let ⟨a, xs, z1, z2, z3⟩ := r2.2 z ds' e';⟨a, xs, z1, s1.free z2, z3⟩⟩)
    ·exact q'.elim
   |exn y => rw[e2]at q';exact fun cls dx H2 s2 xr => ⟨y, xr, q' H2 (s1.trans s2)⟩
   |bad => rw[e2]at q';exact q'.elim
end
theorem Ja(env : BF) : ∀(ns : Ab (Aj × Cz))(acc : Ab (Aj × Ai)), (∀ x ∈ ns, x.2 = .free -> ∃ c, env.cells.lookup x.1 = Aa c) -> (∀ x c, acc.lookup x = Aa c -> env.cells.lookup x = Aa c) ->
  ∃ cl, (forIn ns acc fun(x : Aj × Cz)(cs : Ab (Aj × Ai)) => (if (x.2==.free) = Ac then do let c <-cellOf env x.1;pure (CJ ((x.1, c)::cs)) else pure (CJ cs) : Sem (ForInStep (Ab (Aj × Ai))))) = pure cl /\
   (∀ x c, cl.lookup x = Aa c -> env.cells.lookup x = Aa c) /\ (∀ x, ((x, Cn) ∈ ns \/ ∃ c, acc.lookup x = Aa c) -> ∃ c, cl.lookup x = Aa c)
 |[], acc, _, h2 => ⟨acc, by rw[NJ], h2, fun x hx => hx.elim (fun z => nomatch z) id⟩
 |(n, k)::r, acc, h1, h2 => by
  rw[List.forIn_cons];by_cases hk : k = .free
  ·subst hk;obtain⟨c, hc⟩ := h1 (n, .free) Au rfl;obtain⟨cl, e, p, q⟩ := Ja env r ((n, c)::acc) (fun x hx => h1 x (Ar _ hx)) (fun x d hd => by
    rw[Bo]at hd;split at hd
    ·rename_i hx;cases hd;rw[eq_of_beq hx];exact hc
    ·exact h2 x d hd)
   refine⟨cl, ?_, p, fun x hx => q x ?_⟩
   ·have e1 : cellOf env n = pure c := by unfold cellOf;dsimp only at hc;rw[hc]
    rw[AE (by rfl), e1]
    exact e
   ·rcases hx with hx|⟨d, hd⟩
    ·rcases AM.mp hx with z|z
     ·cases z;exact .inr ⟨c, by simp[Bo]⟩
     ·exact .inl z
    ·by_cases hxn : x = n
     ·exact .inr ⟨c, by subst hxn;simp[Bo]⟩
     ·exact .inr ⟨d, by rw[Bo];rw[Cb.mpr hxn];exact hd⟩
  ·obtain⟨cl, e, p, q⟩ := Ja env r acc (fun x hx => h1 x (Ar _ hx)) h2
   refine⟨cl, ?_, p, fun x hx => q x ?_⟩
   ·rw[AF (by simpa using hk)]
    exact e
   ·rcases hx with hx|hx
    ·rcases AM.mp hx with z|z
     ·cases z;exact absurd rfl hk
     ·exact .inl z
    ·exact .inr hx
theorem K3(h : ∀ x ∈ scope.names, x.2 = .free -> ∃ c, env.cells.lookup x.1 = Aa c):∃ cl,closureFor scope env = pure cl/\(∀ x c,cl.lookup x = Aa c->env.cells.lookup x = Aa c)/\∀ x,(x,Cn) ∈ scope.names->∃ c,cl.lookup x = Aa c := by
 obtain⟨cl, e, p, q⟩ := Ja env scope.names [] h (fun x c z => by simp at z)
 refine⟨cl, ?_, p, fun x hx => q x (.inl hx)⟩
 unfold closureFor
 first
  |exact e
  |(simp only[bind_pure];exact e)
  |(rw[show (forIn scope.names ([] : Ab (Aj × Ai)) _ : Sem _) = pure cl from e];rfl)
theorem IR :∀(names :Ab (Aj × Cz))(h :AC)(acc :Ab (Aj × Ai))(x :Aj)(c :Ai),(B1 h.objs.size names acc).lookup x = Aa c->acc.lookup x = Aa c\/((x,Be) ∈ names/\h.objs.size <= c/\(Eg h names).IsCell c Af)
 |[], _, _, _, _, e => .inl e
 |(n, k)::r, h, acc, x, c, e => by
  unfold B1 at e;unfold Eg;by_cases hk : (k==Be) = Ac
  ·rw[AE hk]at e ⊢;have hs : h.objs.size+1 = (h.push { cls := .type "cell", data := .cell Af }).objs.size := (Dm ..).symm;rw[hs]at e;rcases IR r _ _ x c e with q|⟨q1, q2, q3⟩
   ·rw[Bo]at q;cases hx : x==n with
    |true=>
     rw[hx]at q;cases q;refine .inr ⟨?_, AG _, ?_⟩
     ·rw[eq_of_beq hx, eq_of_beq hk];exact Au
     ·exact⟨_, E0 r _ _ _ (A8 _ rfl), rfl⟩
    |false => rw[hx]at q;exact .inl q
   ·exact .inr ⟨Ar _ q1, by omega, q3⟩
  ·rw[AF hk]at e ⊢;rcases IR r h acc x c e with q|⟨q1, q2, q3⟩
   ·exact .inl q
   ·exact .inr ⟨Ar _ q1, q2, q3⟩
theorem IS :∀(names :Ab (Aj × Cz))(h :AC)(acc :Ab (Aj × Ai)),(∀ x y c,acc.lookup x = Aa c->acc.lookup y = Aa c->x = y)->(∀ x c,acc.lookup x = Aa c->c<h.objs.size)->∀ x y c,(B1 h.objs.size names acc).lookup x = Aa c->(B1 h.objs.size names acc).lookup y = Aa c->x = y
 |[], _, _, i, _, x, y, c, e1, e2 => i x y c e1 e2
 |(n, k)::r, h, acc, i, b, x, y, c, e1, e2 => by
  unfold B1 at e1 e2;by_cases hk : (k==Be) = Ac
  ·rw[AE hk]at e1 e2;have hs : h.objs.size+1 = (h.push { cls := .type "cell", data := .cell Af }).objs.size := (Dm ..).symm;rw[hs]at e1 e2;have look : ∀ z d, NQ z ((n, h.objs.size)::acc) = Aa d -> (z = n /\ d = h.objs.size) \/ (z ≠ n /\ acc.lookup z = Aa d) := fun z d q => by
    rw[Bo]at q;cases hx : z==n with
    |true => rw[hx]at q;cases q;exact .inl ⟨eq_of_beq hx, rfl⟩
    |false => rw[hx]at q;exact .inr ⟨fun e => by rw[e]at hx;simp at hx, q⟩
   refine IS r _ _ (fun z z' d q q' => ?_) (fun z d q => ?_) x y c e1 e2
   ·rcases look z d q with ⟨rfl, q1⟩|⟨_, q1⟩ <;> rcases look z' d q' with ⟨rfl, q2⟩|⟨_, q2⟩
    ·rfl
    ·exact absurd (b _ _ q2) (by rw[q1];exact A5 _)
    ·exact absurd (b _ _ q1) (by rw[q2];exact A5 _)
    ·exact i _ _ _ q1 q2
   ·rw[<-hs];rcases look z d q with ⟨_, q1⟩|⟨_, q1⟩
    ·rw[q1];exact N2 _
    ·exact Ev (b _ _ q1)
  ·rw[AF hk]at e1 e2;exact IS r h acc i b x y c e1 e2
theorem Jc : ∀(names : Ab (Aj × Cz))(n : Ag)(acc : Ab (Aj × Ai))(x : Aj), (x, Be) ∉ names -> (B1 n names acc).lookup x = acc.lookup x
 |[], _, _, _, _ => rfl
 |(m, k)::r, n, acc, x, hx => by
  unfold B1;have hr : (x, Be) ∉ r := fun z => hx (Ar _ z)
  by_cases hk : (k==Be) = Ac
  ·rw[AE hk, Jc r _ _ x hr, Bo];cases q : x==m with
   |true => exact absurd (by rw[eq_of_beq q, eq_of_beq hk];exact Au) hx
   |false => rfl
  ·rw[AF hk];exact Jc r n acc x hr
theorem IT(n0 : Ag) : ∀(names : Ab (Aj × Cz))(n : Ag)(acc : Ab (Aj × Ai))(x : Aj), n0 <= n -> ((x, Be) ∈ names \/ ∃ c, acc.lookup x = Aa c /\ n0 <= c) -> ∃ c, (B1 n names acc).lookup x = Aa c /\ n0 <= c
 |[], _, _, _, _, h => h.elim (fun z => nomatch z) id
 |(m, k)::r, n, acc, x, hn, h => by
  unfold B1;by_cases hk : (k==Be) = Ac
  ·rw[AE hk];refine IT n0 r _ _ x (by omega) ?_
   by_cases hx : (x==m) = Ac
   ·exact .inr ⟨n, by rw[Bo, hx], hn⟩
   ·rcases h with h|⟨c, h, hc⟩
    ·rcases AM.mp h with z|z
     ·cases z;simp at hx
     ·exact .inl z
    ·exact .inr ⟨c, by rw[Bo];simp only[hx];exact h, hc⟩
  ·rw[AF hk];refine IT n0 r _ _ x hn (h.imp (fun h => ?_) id)
   rcases AM.mp h with z|z
   ·cases z;simp at hk
   ·exact z
theorem OK{M:FX}{A:AK}{E : Ah -> Ak -> Prop}{globals:Ai}{qual:Aj}{Q:BF -> Ak -> Prop}(hQ : Q (newEnv scope s.heap.objs.size globals (B1 (s.heap.objs.size+1) scope.names cl) qual Af .none (Aa env) Fn) { s with heap := Eg (s.heap.push { cls := .type "dict", data := .dict #[] }) scope.names }):Ay M A (Fe scope globals cl [] qual Af .none (Aa env)) Q E s := by
 simp only[Fe, Option.isSome_some, Fj];refine Aq (wpAny_alloc ?_);refine Aq (wpAny_layCells _ (fun name kind cells => by cases hkc : kind==Be <;> simp[hkc]) _ _ _ _ ?_)
 rw[show ({ s with heap := s.heap.push { cls := .type "dict", data := .dict #[] } } : Ak).heap.objs.size = s.heap.objs.size+1 from Dm ..]
 rw[NJ];exact Aq (AJ (AJ hQ))
noncomputable def cxC(X : Cx)(scope : Bw)(cl : Ab (Aj × Ai))(C : Ai)(N' : Ab Aj)(s₀ : Ak)(H₀ : Hp)(fp : Ab Ai) : Cx where
 prog := X.prog
 w := X.w
 K := X.K
 mg := X.mg
 base := X.base
 A := X.A
 N := N'
 s₀ := s₀
 H₀ := H₀
 env := compEnvC scope cl C X.env
 outer := X.stack
 stack := X.stack
 ex := fp
 fn := fun x => scope.names.lookup x==Aa Be
 calm := X.calm
 pn := []
 xe := fun _ _ => AW
theorem Hw{env : BF} :∀{names :Ab (Aj × Cz)}{x :Aj}{k :Cz},(names.map fun (n,k) =>if (k==Cn&&env.scope.kind==.function&&env.kindOf n==Aa .cell) then (n,Be) else (n,k)).lookup x = Aa k->names.lookup x = Aa k\/(k = .cell/\names.lookup x = Aa .free)
 |[], _, _, h => by simp at h
 |(n, j)::r, x, k, h => by
  have ih := @Hw env r x k;have h' : NQ x ((if (j==Cn&&env.scope.kind==.function&&env.kindOf n==Aa .cell) = Ac then (n, Be) else (n, j))::(r.map fun (n, k) => if (k==Cn&&env.scope.kind==.function&&env.kindOf n==Aa .cell) then (n, Be) else (n, k))) = Aa k := h
  by_cases hc : (j==Cn&&env.scope.kind==.function&&env.kindOf n==Aa .cell) = Ac
  ·rw[AE hc]at h';rw[Bo]at h' ⊢;cases hx : x==n with
   |true=>
    rw[hx]at h';cases h';simp only[Am]at hc;exact .inr ⟨rfl, by rw[eq_of_beq hc.1.1]⟩
   |false => rw[hx]at h';exact ih h'
  ·rw[AF hc]at h';rw[Bo]at h' ⊢;cases hx : x==n with
   |true => rw[hx]at h';exact .inl h'
   |false => rw[hx]at h';exact ih h'
structure BlockOk (X : Cx) (scope : Bw) (N' : Ab Aj) (ts : Ab Ag) : Prop where
 kind : scope.kind = .function
 uniq : ∀ y ∈ scope.names, scope.names.lookup y.1 = Aa y.2
 names : ∀ y ∈ scope.names, y.2 = .local -> scope.names.lookup y.1 = Aa .local
 free : ∀ y ∈ scope.names, y.2 = .free -> X.env.scope.names.lookup y.1 = Aa .cell \/ X.env.scope.names.lookup y.1 = Aa .free
 len : N'.length = X.N.length
 same : ∀ i x, N'[i]? = Aa x -> scope.names.lookup x = Aa .free -> i ∉ ts -> X.N[i]? = Aa x
 loc : ∀ i x, N'[i]? = Aa x -> (scope.names.lookup x = Aa .local \/ scope.names.lookup x = Aa .cell) -> i ∈ ts
structure BCells (X : Cx) (scope : Bw) (cl : Ab (Aj × Ai)) (C : Ai) (h : AC) : Prop where
 own : ∀ x c, cl.lookup x = Aa c -> X.env.cells.lookup x = Aa c \/ (scope.names.lookup x = Aa .cell /\ C<c /\ h.IsCell c Af)
 inj : ∀ x y c, cl.lookup x = Aa c -> cl.lookup y = Aa c -> x = y
 has : ∀ x, scope.names.lookup x = Aa .cell -> ∃ c, cl.lookup x = Aa c /\ C<c
 fr : ∀ x, (x, Cn) ∈ scope.names -> ∃ c, cl.lookup x = Aa c /\ X.env.cells.lookup x = Aa c
section
variable{X : Cx}{pI : Ab (Ai × AA)}{σ : L2.St}{H : Hp}{s : Ak}
noncomputable def hideT(ts : Ab Ag)(σ : L2.St) : L2.St := ts.foldl (fun σ t => σ.set t Af) σ
theorem IM : ∀(ts : Ab Ag)(σ : L2.St), (hideT ts σ).length = σ.length
 |[], _ => rfl
 |t::ts, σ => by show (hideT ts (σ.set t Af)).length = _;rw[IM ts, AX]
theorem KP : ∀(ts : Ab Ag)(σ : L2.St){i : Ag}{v : V}, (hideT ts σ)[i]? = Aa (Aa v) -> σ[i]? = Aa (Aa v) /\ i ∉ ts
 |[], _, _, _, h => ⟨h, by simp⟩
 |t::ts, σ, i, v, h => by
  obtain⟨h1, h2⟩ := KP ts (σ.set t Af) (i := i) (v := v) h;by_cases e : t = i
  ·subst e;have := EO h1;cases this
  ·rw[BX e]at h1;exact⟨h1, by simp only[AM, Hr];exact⟨fun z => e z.symm, h2⟩⟩
theorem O7{tk:Ag}{C:Ai}{m:Aj -> Al Ah}(I : Inv X pI σ H s)(B : BlockOk X scope N' ts)(hf : ∀ b ∈ fp, E8 X pI H b)(hfo : ∀ b ∈ fp, b<s.heap.objs.size)(hb : BCells X scope cl C h')(hk : ∀ b o, s.heap.get? b = Aa o -> h'.get? b = Aa o)(hC : s.heap.objs.size <= C)(hn : h'.Ns C m) : Inv (cxC X scope cl C N' s H fp) [] (hideT ts σ) H {s with heap := h', toks := tk} := by
 have stf : ∀ b ∈ fp, b ∉ frs X.stack := fun b hb z => by
  rcases AM.mp (I.stkSub b z) with e|e
  ·exact(hf b hb).2.1 e
  ·exact(hf b hb).2.2.1 e
 have frOf : ∀ x, ((relabel scope X.env).names.lookup x = Aa .cell \/ (relabel scope X.env).names.lookup x = Aa .free) -> scope.names.lookup x = Aa .free \/ scope.names.lookup x = Aa .cell := fun x hx => by
  rcases hx with z|z
  ·rcases Hw z with z|⟨_, z⟩
   ·exact .inr z
   ·exact .inl z
  ·rcases Hw z with z|⟨z, _⟩
   ·exact .inl z
   ·cases z
 have gtC : ∀ c : Ai, C<c -> s.heap.objs.size <= c := fun c z => BL hC (DQ z)
 have cellK : ∀ c v, s.heap.IsCell c v -> h'.IsCell c v := fun c v ⟨o, ho, hd⟩ => ⟨o, hk _ _ ho, hd⟩
 refine⟨⟨I.ok.mod, B.kind, I.ok.glob, I.ok.blt, hC, hb.inj, fun x hx => ?_, fun x c h e => ?_, I.ok.hd, I.ok.frames, .inl rfl, fun b hbb => ⟨?_, fun x c e => ?_⟩, I.bs, BL I.ok.bsz I.sz, fun b o e hbb => ?_, stf, I.stack, I.stkFree⟩, rfl, I.bare, Un.kept hk, ⟨m, hn, fun i x v h1 h2 h3 => ?_⟩, fun x c e => ?_, I.hok.fresh hC, fun x c e => (hb.own x c e).elim (I.freeC x c) (fun z => I.hok.fresh (gtC c z.2.1)), fun p hp => absurd (show p ∈ ([] : Ab (Ai × AA)) from hp) (by simp), I.hok.kept hk, ?_⟩
 ·rcases frOf x hx with z|z
  ·obtain⟨c, q, _⟩ := hb.fr x (BA z);exact⟨c, q⟩
  ·obtain⟨c, q, _⟩ := hb.has x z;exact⟨c, q⟩
 ·obtain⟨c', q, z⟩ := hb.has x (eq_of_beq h);have e' : cl.lookup x = Aa c := e;rw[q]at e';cases e';exact gtC _ z
 ·intro z;have z' : b = C := z;have := hfo b hbb;rw[z']at this;exact absurd (Av this hC) (A5 _)
 ·rcases hb.own x c e with z|z
  ·exact(hf b hbb).2.2.2.2.1 x c z
  ·intro q;have := hfo b hbb;have := gtC c z.2.1;rw[q]at this;exact absurd ‹b<_› (N5.mpr this)
 ·rcases (hf b hbb).2.2.2.1 with z|z
  ·exact I.ok.noex b o e z
  ·exact absurd (Av (Az e) (BL I.ok.bsz z)) (A5 _)
 ·obtain⟨h2, hts⟩ := KP ts σ h2;have h3' : (relabel scope X.env).names.lookup x = Aa .local \/ (relabel scope X.env).names.lookup x = Aa .cell \/ (relabel scope X.env).names.lookup x = Aa .free := h3;have h1' : N'[i]? = Aa x := h1;rcases h3' with z|z
  ·rcases Hw z with z|⟨z, _⟩
   ·exact absurd (B.loc i x h1' (.inl z)) hts
   ·cases z
  ·have fr := (frOf x z).resolve_right fun q => hts (B.loc i x h1' (.inr q))
   have hm := BA fr;have hX := B.same i x h1' fr hts;obtain⟨m0, hn0, hl0⟩ := I.loc;obtain⟨u, ru, lk⟩ := hl0 i x v hX h2 (by
    rcases B.free _ hm rfl with q|q
    ·exact .inr (.inl q)
    ·exact .inr (.inr q))
   refine⟨u, ru, ?_⟩;obtain⟨c, hc, hcX⟩ := hb.fr x hm;rcases lk with ⟨q, _⟩|⟨_, c', hc', hcell⟩
   ·have q' : X.env.scope.names.lookup x = Aa .local := q;rcases B.free _ hm rfl with p|p
    ·rw[show X.env.scope.names.lookup x = _ from p]at q';cases q'
    ·rw[show X.env.scope.names.lookup x = _ from p]at q';cases q'
   ·have e := hcX;rw[hc']at e;cases e;exact .inr ⟨z, c, hc, cellK _ _ hcell⟩
 ·rcases hb.own x c e with z|z
  ·obtain⟨v, q⟩ := I.cell x c z;exact⟨v, cellK _ _ q⟩
  ·exact⟨_, z.2.2⟩
 ·show (hideT ts σ).length = N'.length;rw[IM, I.len, B.len]
theorem KY{C D : Ai}{s':Ak}{σ':L2.St}{pins':Ab (Ai × AA)}{h'':AC}{ys:Ab Ah}(I : Inv X pI σ H s)(hf : ∀ b ∈ fp, E8 X pI H b)(I' : Inv (cxC X scope cl C N' s H fp) pins' σ' H' s')(hD : s.heap.objs.size <= D)(hDC : D ≠ C)(hC : s.heap.objs.size <= C)(hd : s'.heap.get? D = Aa { cls := .type "list", data := .seq ys.toArray n })(hDn : H' D = Af)(rv : AN xs ys)(hz : xs.length <= sizeLine)(hs : DS C s'.heap h'') : Inv X pI σ (upd H' D (.lst xs)) {s' with heap := h''} := by
 have u : Un (frs X.stack) fp H H' s.heap s'.heap := I'.base;have lt : ∀ b o, s.heap.get? b = Aa o -> b ≠ C /\ b ≠ D := fun b o e => ⟨fun z => absurd (Av (Az e) (z ▸ hC)) (A5 _), fun z => absurd (Av (Az e) (z ▸ hD)) (A5 _)⟩
 have HD : H D = Af := I.hok.fresh hD;have hCn : H' C = Af := I'.free;have kb : ∀ b o, b ≠ C -> s'.heap.get? b = Aa o -> h''.get? b = Aa o := fun b o hb e => (hs.2 b hb).trans e
 have u2 : Un (frs X.stack) fp H (upd H' D (.lst xs)) s.heap h'' := ⟨fun b o e q hb hx => kb b o (lt b o e).1 (u.keep b o e q hb hx), fun b o e q hb hx => by
   obtain⟨sl, e1⟩ := u.slot b o e q hb hx;exact⟨sl, kb b _ (lt b o e).1 e1⟩, fun b o e q hx => by rw[B8 (lt b o e).2];exact u.free b o e q hx, fun b o e hx => by
   obtain⟨o', e1⟩ := u.there b o e hx;exact⟨o', kb b _ (lt b o e).1 e1⟩, fun b zs q => by rw[B8 (DD q HD)];exact u.tups b zs q, fun b o zs q => by rw[B8 (DD q HD)];exact u.frzs b o zs q, fun b ps q => by rw[B8 (DD q HD)];exact u.tbls b ps q⟩
 have hok : HOk X.prog X.w (upd H' D (.lst xs)) h'' := fun b o e => by
  by_cases hb : b = D
  ·subst hb;rw[Fs]at e;cases e;exact⟨hz, ys, n, rv, kb _ _ hDC hd⟩
  ·rw[B8 hb]at e;refine(I'.hok b o e).stay (fun c v hc q => kb c v ?_ q) (fun c q => by rw[B8 (DD q hDn)];exact q) fun c zs q => by rw[B8 (DD q hDn)];exact q
   rcases hc with rfl|hc
   ·exact DD e hCn
   ·exact DD hc hCn
 exact I.call' (s' := {s' with heap := h''}) (ch := fp) I'.os u2 hok I'.bare fun b hb => ⟨(hf b hb).2.2.2.1, (hf b hb).2.1, (hf b hb).2.2.2.2.1, (hf b hb).2.2.2.2.2⟩
end
noncomputable def PTs(X : Cx)(ifs : Ab Ao)(tt : TT) : Prop := ∀(pI : Ab (Ai × AA))(s : Ak)(σ : L2.St)(H : Hp)(Q : An -> Hp -> Prop), Inv X pI σ H s -> tt σ H Q ->
 Ay (model X.prog X.w) X.A (forIn ifs Ac fun c r => if r = Ac then do let ok <-Fd c X.env (eval c X.env);pure (CJ ok) else pure (CJ r)) (TP X pI σ Q) X.xe s
theorem Q0 : PTs X [] (fun σ H Q => Q Ac H) := fun pI s σ H Q I h => wpAny_tests_nil ⟨H, I, h⟩
theorem QZ{t:TT}(h : PT X c t) : PTs X [c] t := fun pI s σ H Q I q => wpAny_tests_one (h pI s σ H Q I q)
theorem Pp{D : Ai}{ys:Ab Ah}{E : Ah -> Ak -> Prop}{Q:Ah -> Ak -> Prop}(I : Inv X ((D, { cls := .type "list", data := .seq ys.toArray n })::pI) σ H s)(hD : X.s₀.heap.objs.size <= D)(hp : ∀ p ∈ X.pn++pI, p.1 ≠ D)(hc : ∀ x c, X.env.cells.lookup x = Aa c -> c ≠ D)(hz : ys.length <= sizeLine)(h : ∀ s', Inv X ((D, { cls := .type "list", data := .seq (ys++[y]).toArray (n+1) })::pI) σ H s' -> (∀ b o, b ≠ D -> s.heap.get? b = Aa o -> s'.heap.get? b = Aa o) -> Q .none s') : Ay (model X.prog X.w) X.A (call (.builtin "list.append") [.ref D, y]) Q E s := by
 obtain⟨e, hn, hL, hfs, _⟩ := I.pin (D, { cls := .type "list", data := .seq ys.toArray n }) (AV _ Au);refine append_at (hsz := by rw[AD];exact hz) e fun h' hs hd => ?_
 have hd' : h'.get? D = Aa { cls := .type "list", data := .seq (ys++[y]).toArray (n+1) } := by rw[hd];simp
 have kb : ∀ b o, b ≠ D -> s.heap.get? b = Aa o -> h'.get? b = Aa o := fun b o hb q => (hs.2 b hb).trans q
 have I0 : Inv X pI σ H s := I.pins_of fun p hp => I.pin p (AV _ (Ar _ hp))
 have I1 : Inv X pI σ H {s with heap := h'} := I0.turned (t' := s.toks) kb hn hL (.inr hD) hc hp
 refine h _ (I1.pins_of fun p hp => ?_) kb
 rcases AM.mp hp with rfl|hp
 ·exact⟨hd', hn, hL, hfs, fun v z => by
   have z' : GU _ _ = GS v := z;cases z'⟩
 ·exact I1.pin p (AV _ hp)
section
variable{prog : AB}{w : AI}{A : AK}{R : Go -> Ak -> Prop}{s : Ak}
theorem O6{target:Ao}{it acc:Ah}(I : Ag -> Ak -> Prop)(turn : ∀ n s, I n s -> Ay (model prog w) A (pyNext it) (fun r s₁ => match r with
      |none => R (.ok .next) s₁
      | some v => Ay (model prog w) A (DV target it v) (fun _ s₁' => Ay (model prog w) A (assign target env v) (fun _ s₂=>
          Ay (model prog w) A (forIn ifs Ac fun c r => if r = Ac then do let ok <-Fd c env (eval c env);pure (CJ ok) else pure (CJ r)) (fun ok s₃=>
            if ok = Ac then Ay (model prog w) A (eval elt env) (fun x s₄=>
              Ay (model prog w) A (call (.builtin "list.append") [acc, x]) (fun _ s₅ => ∃ m, m<n /\ I m s₅) (Ff (model prog w) A env fun e s' => R (.error e) s') s₄) (Ff (model prog w) A env fun e s' => R (.error e) s') s₃
            else ∃ m, m<n /\ I m s₃) (Ff (model prog w) A env fun e s' => R (.error e) s') s₂) (Ff (model prog w) A env fun e s' => R (.error e) s') s₁') (Ff (model prog w) A env fun e s' => R (.error e) s') s₁) (Ff (model prog w) A env fun e s' => R (.error e) s') s)(n : Ag)(h : I n s):D8 (model prog w) A (.compLoop (.ListComp elt [⟨target,iter,ifs,0⟩] scope pos) 0 it acc env) R s := by
  refine codeAny_loop rfl I (fun n s hI => ?_) n h
  show Ay _ A ((compTurn (.ListComp elt [⟨target, iter, ifs, 0⟩] scope pos) 0 it acc env).onRaise (fun x => do FO x env;theTreesLotGoes x)) _ _ s
  refine wpAny_noted ?_;rw[compTurn_list];refine Aq (FG (Aq (By (turn n s hI) (fun r s₁ h₁ => ?_) fun _ _ h' => h')))
  cases r with
  |none => exact AJ h₁
  |some v=>
    refine Aq (By h₁ (fun _ s₁' h₁' => ?_) fun _ _ h' => h')
    refine Aq (By h₁' (fun _ s₂ h₂ => Aq (By h₂ (fun ok s₃ h₃ => ?_) fun _ _ h' => h')) fun _ _ h' => h')
    cases ok with
    |false => exact AJ ⟨rfl, h₃⟩
    |true=>
      exact Aq (Aq (By h₃ (fun x s₄ h₄ => Aq (By h₄ (fun _ s₅ h₅ => AJ (AJ ⟨rfl, h₅⟩)) fun _ _ h' => h')) fun _ _ h' => h'))
end
noncomputable def G4(J : It)(ts : Ab Ag)(g : TG)(tt : TT)(te : TE)(σ : L2.St)(H : Hp)(Q : VK) : Prop := ∃ W : Ag -> Ag -> Ab V -> L2.St -> Hp -> Prop, (∃ m, W 0 m [] (hideT ts σ) H) /\ ∀ i m xs σ H, W i m xs σ H ->
 (J.stop i H /\ ∀ p, H p = Af -> Q (.ref p) (upd H p (.lst xs))) \/
 (J.go i H /\ xs.length<sizeLine /\ ∀ x H', J.yld i H x H' -> g x σ H' fun σ2 H2 => tt σ2 H2 fun b H3 => if b = Ac then te σ2 H3 fun y H4 => ∃ m', m'<m /\ W (i+1) m' (xs++[y]) σ2 H4 else ∃ m', m'<m /\ W (i+1) m' xs σ2 H3)
theorem Lk{g:TG}{it:Ai}{tn:Ag -> AC -> Prop}{E : Ah -> Ak -> Prop}{RR:Ah -> Ai -> Go -> Ak -> Prop}(hc : X.calm = Ac)(B : BlockOk X scope N' ts)(I : Inv X pI σ H s)(T : Turn X.prog X.w X.K tg J fp it tn)(st : tn 0 s.heap)(hf : ∀ b ∈ fp, E8 X pI H b)(hcl : ∀ x c, cl.lookup x = Aa c -> X.env.cells.lookup x = Aa c)(hcl2 : ∀ x, (x, Cn) ∈ scope.names -> ∃ c, cl.lookup x = Aa c)(hg : ∀ cl C s H, PG (cxC X scope cl C N' s H fp) tg g)(ht : ∀ cl C s H, PTs (cxC X scope cl C N' s H fp) ifs tt)(he : ∀ cl C s H, PE (cxC X scope cl C N' s H fp) elt te)(h : G4 J ts g tt te σ H Q)(hRR : ∀ cl D C s' H' σ' pins' xs ys n m, Inv (cxC X scope cl C N' s H fp) pins' σ' H' s' -> s'.heap.get? D = Aa { cls := .type "list", data := .seq (DP ys) n } -> H' D = Af -> AN xs ys -> xs.length <= sizeLine -> s.heap.objs.size <= D -> D ≠ C -> s.heap.objs.size <= C -> s'.heap.Ns C m -> Q (.ref D) (upd H' D (.lst xs)) -> RR (.ref D) C (.ok .next) s'):Ay (model X.prog X.w) X.A (newList []) (fun acc s₃ =>Ay (model X.prog X.w) X.A (Fe scope X.env.globals cl [] X.env.qual Af .none (Aa X.env)) (fun cenv s₄=>D8 (model X.prog X.w) X.A (.compStart (.ListComp elt [⟨tg,iter,ifs,0⟩] scope pos) 0 (.ref it) acc {cenv with scope := relabel scope X.env}) (RR acc cenv.locals) s₄) E s₃) E s := by
 refine Cs (OK ?_);dsimp only;generalize hH2 : s.heap.push { cls := .type "list", dict := Af, data := .seq ([] : Ab Ah).toArray } = H2;have hns₁ : (Eg (H2.push { cls := .type "dict", data := .dict #[] }) scope.names).Ns H2.objs.size (fun _ => Af) := (Heap.Ns.new H2 (.type "dict")).keeps (E0 _ _)
 have hkp₁ : ∀ b o, H2.get? b = Aa o -> (Eg (H2.push { cls := .type "dict", data := .dict #[] }) scope.names).get? b = Aa o := fun b o e => E0 _ _ b o (Aw _ e)
 have hown := IR scope.names (H2.push { cls := .type "dict", data := .dict #[] }) cl;have hinj := IS scope.names (H2.push { cls := .type "dict", data := .dict #[] }) cl;rw[Dm]at hown hinj;generalize hcl' : B1 (H2.objs.size+1) scope.names cl = cl' at hown hinj;have hcf : ∀ x, (x, Be) ∉ scope.names -> cl'.lookup x = cl.lookup x := fun x hx => by rw[<-hcl'];exact Jc _ _ _ x hx
 have hch : ∀ x, (x, Be) ∈ scope.names -> ∃ c, cl'.lookup x = Aa c /\ H2.objs.size+1 <= c := fun x hx => by rw[<-hcl'];exact IT _ _ _ _ x (AG _) (.inl hx)
 generalize hh₁ : Eg (H2.push { cls := .type "dict", data := .dict #[] }) scope.names = h₁ at hns₁ hkp₁ hown;have hC : H2.objs.size = s.heap.objs.size+1 := by rw[<-hH2, Dm]
 have hCle : s.heap.objs.size <= H2.objs.size := by rw[hC];exact Nat.le_succ _
 have hDC : s.heap.objs.size ≠ H2.objs.size := by rw[hC];exact Bt (N2 _)
 have below : ∀ b, b<s.heap.objs.size -> b ≠ H2.objs.size := fun b hb => by rw[hC];exact Bt (Ev hb)
 have old : ∀ b o, s.heap.get? b = Aa o -> h₁.get? b = Aa o := fun b o e => hkp₁ b o (hH2 ▸ Aw _ e)
 have hacc : h₁.get? s.heap.objs.size = Aa { cls := .type "list", data := .seq ([] : Ab Ah).toArray 0 } := hkp₁ _ _ (hH2 ▸ A8 _ rfl);have clt : ∀ x c, cl.lookup x = Aa c -> c<s.heap.objs.size := fun x c e => by
  obtain⟨v, q⟩ := I.cell x c (hcl x c e);exact q.lt
 have bc : BCells X scope cl' H2.objs.size h₁ := by
  refine⟨fun x c e => ?_, hinj (fun x y c e1 e2 => I.ok.inj x y c (hcl x c e1) (hcl y c e2)) (fun x c e => Ev (Av (clt x c e) hCle)), fun x hx => ?_, fun x hx => ?_⟩
  ·rcases hown x c e with q|⟨q1, q2, q3⟩
   ·exact .inl (hcl x c q)
   ·exact .inr ⟨B.uniq _ q1, q2, q3⟩
  ·have hm := BA hx;obtain⟨c, e, hc⟩ := hch x hm;exact⟨c, e, hc⟩
  ·have hno : (x, Be) ∉ scope.names := fun z => by
    have e1 := B.uniq _ hx;have e2 := B.uniq _ z;rw[show scope.names.lookup x = _ from e1]at e2
    cases e2
   obtain⟨c, e⟩ := hcl2 x hx;exact⟨c, by rw[hcf x hno];exact e, hcl x c e⟩
 have hfo : ∀ b ∈ fp, b<s.heap.objs.size := fun b hb => by
  obtain⟨o, e, _⟩ := T.obj 0 _ st b hb;exact Az e
 generalize hD : s.heap.objs.size = D at *;generalize hC' : H2.objs.size = C at *;have I0 : Inv (cxC X scope cl' C N' s H fp) [] (hideT ts σ) H {s with heap := h₁, toks := s.toks+([] : Ab (Aj × Ah)).length} := O7 (tk := s.toks+([] : Ab (Aj × Ah)).length) I B hf (fun b hb => by rw[hD];exact hfo b hb) bc old (by rw[hD];exact hCle) hns₁
 have nD : H D = Af := I.hok.fresh (by rw[hD];exact AG _)
 have noD : ∀ b ∈ fp, b ≠ D := fun b hb => Bt (hfo b hb)
 have noC : ∀ b ∈ fp, b ≠ C := fun b hb => below b (hfo b hb)
 have stfs : D ∉ frs X.stack := fun z => by
  obtain⟨_, o, ho, _⟩ := I.stack.mem z;exact absurd (Az ho) (by rw[hD];exact A5 _)
 have cD : ∀ x c, cl'.lookup x = Aa c -> c ≠ D := fun x c e z => by
  rcases bc.own x c e with q|⟨_, q, _⟩
  ·obtain⟨v, q⟩ := I.cell x c q;exact absurd q.lt (by rw[z, hD];exact A5 _)
  ·rw[z]at q;exact absurd (Av q hCle) (A5 _)
 have I1 : Inv (cxC X scope cl' C N' s H fp) [(D, { cls := .type "list", data := .seq ([] : Ab Ah).toArray 0 })] (hideT ts σ) H {s with heap := h₁, toks := s.toks+([] : Ab (Aj × Ah)).length} := I0.pins_of fun p hp => by
  have e := A9.mp hp;subst e;exact⟨hacc, nD, hDC, stfs, fun v z => by
   have z' : GU _ _ = GS v := z;cases z'⟩
 have st1 : tn 0 h₁ := T.keep _ _ _ st fun b _ o e => old b o e
 obtain⟨W, ⟨m0, w0⟩, turn⟩ := h;have fpk : ∀{pl : Ab (Ai × AA)}{H' : Hp}, (∀ p ∈ pl, p.1 = D) -> (∀ b ∈ fp, H' b = Af) -> ∀ b ∈ fp, E8 (cxC X scope cl' C N' s H fp) pl H' b := fun {pl H'} hp hn b hb=>
  ⟨hn b hb, noC b hb, fun z => by
   rcases AM.mp (I.stkSub b z) with e|e
   ·exact(hf b hb).2.1 e
   ·exact(hf b hb).2.2.1 e, .inl hb, fun x c e => (bc.own x c e).elim ((hf b hb).2.2.2.2.1 x c) (fun z q => absurd (Nat.lt_of_le_of_lt hCle z.2.1) (N5.mpr (by rw[q];exact DQ (hfo b hb)))), fun p hp' => by
   have hp2 : p ∈ pl := hp';rw[hp p hp2];exact(noD b hb).symm⟩
 have loop : ∀ s₃ : Ak, s₃ = {s with heap := h₁, toks := s.toks+([] : Ab (Aj × Ah)).length} ->
   D8 (model X.prog X.w) X.A (.compLoop (.ListComp elt [⟨tg, iter, ifs, 0⟩] scope pos) 0 (.ref it) (.ref D) (compEnvC scope cl' C X.env)) (RR (.ref D) C) s₃ := by
  rintro s₃ rfl;refine O6 (fun k s' => ∃ i σ' H' xs ys n, Inv (cxC X scope cl' C N' s H fp) [(D, { cls := .type "list", data := .seq (DP ys) n })] σ' H' s' /\ tn i s'.heap /\ (∀ b ∈ fp, H' b = Af) /\ AN xs ys /\ xs.length <= sizeLine /\ W i k xs σ' H') ?_ m0
   ⟨0, _, H, [], [], 0, I1, st1, fun b hb => (hf b hb).1, .nil, F2 _, w0⟩
  rintro k s' ⟨i, σ', H', xs, ys, n, I', st', fr', rv, hz, w'⟩;have one : ∀ p ∈ [((D, { cls := .type "list", data := .seq (DP ys) n }) : Ai × AA)], p.1 = D := fun p hp => by rw[A9.mp hp]
  rcases turn i k xs σ' H' w' with ⟨stop, q⟩|⟨go, hlt, step⟩
  ·refine By (T.done (cxC X scope cl' C N' s H fp) rfl rfl rfl hc i _ s' σ' H' (fun _ _ => AW) I' (fpk one fr') st' stop) (fun r s1 ⟨hr, J1⟩ => ?_) fun _ _ f => f.elim
   subst hr;obtain⟨e, hn, _⟩ := J1.pin _ (AV _ Au);obtain⟨m, hm, _⟩ := J1.loc;exact hRR cl' D C s1 H' σ' _ xs ys n m J1 e hn rv hz (AG _) hDC hCle hm (q D hn)
  ·refine By (T.item (cxC X scope cl' C N' s H fp) rfl rfl rfl hc i _ s' σ' H' (fun _ _ => AW) I' (fpk one fr') st' go) (fun r s1 ⟨u, hr, h4⟩ => ?_) fun _ _ f => f.elim
   subst hr;refine By h4 (fun _ s5 ⟨x, H5, I5, r5, y5, st5, fr5⟩ => ?_) fun _ _ f => f.elim
   have I5' := I5.pinned (fpk one fr5) (T.obj _ _ st5);refine By (hg cl' C s H _ s5 σ' H5 x u _ I5' r5 (step x H5 y5)) (fun _ s6 ⟨σ6, H6, I6, q6⟩ => ?_) fun _ _ f => f.elim
   refine By (ht cl' C s H _ s6 σ6 H6 _ I6 q6) (fun ok s7 ⟨H7, I7, q7⟩ => ?_) fun _ _ f => f.elim
   have again : ∀{s8 : Ak}{H8 : Hp}{ys' : Ab Ah}{n' : Ag}, Inv (cxC X scope cl' C N' s H fp) ((D, { cls := .type "list", data := .seq (DP ys') n' })::Gc fp s5.heap) σ6 H8 s8 -> Inv (cxC X scope cl' C N' s H fp) [(D, { cls := .type "list", data := .seq (DP ys') n' })] σ6 H8 s8 /\ tn (i+1) s8.heap /\ ∀ b ∈ fp, H8 b = Af := fun {s8 H8 ys' n'} I8=>
    ⟨I8.pins_of fun p hp => I8.pin p (AV _ (by rw[A9.mp hp];exact Au)), T.keep _ _ _ st5 fun b hb o e => (I8.pin (b, o) (AV _ (Ar _ (HA hb e)))).1, fun b hb => by
     obtain⟨o, e, d⟩ := T.obj _ _ st5 b hb;exact(I8.pin (b, o) (AV _ (Ar _ (HA hb e)))).2.1⟩
   cases ok with
   |false=>
    rw[AF (by decide)]at q7
    obtain⟨m', hm, w7⟩ := q7;obtain⟨a1, a2, a3⟩ := again I7;rw[AF (by decide)]
    exact⟨m', hm, i+1, σ6, H7, xs, ys, n, a1, a2, a3, rv, hz, w7⟩
   |true=>
    rw[AE rfl]at q7;rw[AE rfl];refine By (he cl' C s H _ s7 σ6 H7 _ I7 q7) (fun val s8 ⟨y, H8, I8, r8, m', hm, w8⟩ => ?_) fun _ _ f => f.elim
    have hl := rv.length;refine Pp (X := cxC X scope cl' C N' s H fp) (ys := ys) (n := n) (pI := Gc fp s5.heap) I8 (by show s.heap.objs.size <= D;rw[hD];exact AG _) (fun p hp => ?_) cD (by omega) fun s9 I9 kb => ?_
    ·have hp2 : p ∈ Gc fp s5.heap := hp;exact noD _ (KJ hp2).1
    ·obtain⟨a1, a2, a3⟩ := again I9;exact⟨m', hm, i+1, σ6, H8, xs++[y], ys++[val], n+1, a1, a2, a3, rv.append (.cons r8 .nil), by rw[B0];exact hlt, w8⟩
 exact codeAny_compStart_list (loop _ rfl) (T.self _ 0 _ _ _ st1 (loop _ rfl))
theorem Q7{g:TG}(hc : X.calm = Ac)(B : BlockOk X scope N' ts)(hi : PI X tg iter wi)(hg : ∀ cl C s H fp, PG (cxC X scope cl C N' s H fp) tg g)(ht : ∀ cl C s H fp, PTs (cxC X scope cl C N' s H fp) ifs tt)(he : ∀ cl C s H fp, PE (cxC X scope cl C N' s H fp) elt te)(hs : ∀ x, BO iter X.env x = pure x):PE X (.ListComp elt [⟨tg,iter,ifs,0⟩] scope pos) (fun σ H Q =>wi σ H fun J H1 =>G4 J ts g tt te σ H1 Q) := by
 intro pI s σ H Q I h;obtain⟨cl, hclos, hcl, hcl2⟩ := K3 (scope := scope) (env := X.env) fun x hx hk => I.ok.has x.1 ((B.free x hx hk).imp id id)
 rw[eval_ListComp];refine OF (use := Af) rfl hs hclos B.kind B.names (thn (hi pI s σ H _ I h) fun v s1 h1 => thn h1 fun itv s2 h2 => ?_)
 obtain⟨it, fp, tn, J, H2, e, I2, T, st2, f2, h3⟩ := h2;subst e;refine Lk (RR := fun acc C => compPost (model X.prog X.w) X.A X.xe Af (EP X pI σ Q) acc C) hc B I2 T st2 f2 hcl hcl2 (fun cl C s H => hg cl C s H fp) (fun cl C s H => ht cl C s H fp) (fun cl C s H => he cl C s H fp) h3 fun cl' D C s' H' σ' pins' xs ys n m I' hd hDn rv hz hD hDC hC hm q => ?_
 exact⟨m, hm, fun h'' hs'' => ⟨.ref D, _, KY I2 f2 I' hD hDC hC hd hDn rv hz hs'', rfl, q⟩⟩
theorem Q3{n:Aj}{g:TG}(hc : X.calm = Ac)(B : BlockOk X scope N' ts)(hi : PI X tg iter wi)(hg : ∀ cl C s H fp, PG (cxC X scope cl C N' s H fp) tg g)(ht : ∀ cl C s H fp, PTs (cxC X scope cl C N' s H fp) ifs tt)(he : ∀ cl C s H fp, PE (cxC X scope cl C N' s H fp) elt te)(hs : ∀ x, BO iter X.env x = pure x)(hN : X.N.Nodup)(hni : X.N[i]? = Aa n)(hx : X.env.scope.names.lookup n = Aa .local)(hsw : Cw (.ListComp elt [⟨tg, iter, ifs, 0⟩] scope pos) (Aa (.Name n pos')) pos2.line X.env = pure Ac):PS X (.Assign [.Name n pos'] (.ListComp elt [⟨tg,iter,ifs,0⟩] scope pos) pos2) (Ic (fun σ H Q =>wi σ H fun J H1 =>G4 J ts g tt te σ H1 Q) (Er i)) := by
 intro pI s σ H Dn I h;obtain⟨cl, hclos, hcl, hcl2⟩ := K3 (scope := scope) (env := X.env) fun x hx hk => I.ok.has x.1 ((B.free x hx hk).imp id id)
 rw[exec_Assign_Name_used _ _ _ _ hsw];refine Aq (FG (Aq ?_));show Ay _ X.A (do let _ <-comprehension (.ListComp elt [⟨tg, iter, ifs, 0⟩] scope pos) scope X.env _ (newList []) Ad (eval iter X.env) (Aa (assign (.Name n pos') X.env))) _ _ s
 refine Aq (By (OF (use := Aa (assign (.Name n pos') X.env)) (Q := fun _ s' => SP X pI Dn .next s') rfl hs hclos B.kind B.names
  (thn (hi pI s σ H _ I h) fun v s1 h1 => thn h1 fun itv s2 h2 => ?_)) (fun _ s' hq => AJ (AJ hq)) fun _ _ e => e)
 obtain⟨it, fp, tn, J, H2, e, I2, T, st2, f2, h3⟩ := h2;subst e;refine Lk (RR := fun acc C => compPost (model X.prog X.w) X.A X.xe (Aa (assign (.Name n pos') X.env)) (fun _ s' => SP X pI Dn .next s') acc C) hc B I2 T st2 f2 hcl hcl2 (fun cl C s H => hg cl C s H fp) (fun cl C s H => ht cl C s H fp) (fun cl C s H => he cl C s H fp) h3 fun cl' D C s' H' σ' pins' xs ys n' m I' hd hDn rv hz hD hDC hC hm q => ?_
 have J0 : Inv X pI σ (upd H' D (.lst xs)) s' := KY I2 f2 I' hD hDC hC hd hDn rv hz (Heap.SameBut.refl ..);refine OD (K8 J0 hN hni (.inl hx) (show AZ (.ref D) (.ref D) from rfl) (fun s'' J1 ⟨a, sb, ha⟩ => ?_) (.inr hx))
 have hC0 : X.s₀.heap.objs.size <= C := BL I2.sz hC;have hL : C ≠ X.env.locals := fun z => absurd (Av I2.lt (z ▸ hC)) (A5 _)
 have hcC : ∀ x c, X.env.cells.lookup x = Aa c -> c ≠ C := fun x c e z => by
  obtain⟨v, q'⟩ := I2.cell x c e;exact absurd (Av q'.lt (by rw[z];exact hC)) (A5 _)
 have hp : ∀ p ∈ X.pn++pI, p.1 ≠ C := fun p hp z => absurd (Av (Az (I2.pin p hp).1) (by rw[z];exact hC)) (A5 _)
 have hCn : upd H' D (.lst xs) C = Af := by rw[B8 hDC.symm];exact I'.free
 have hCa : C ≠ a := by
  rcases ha with rfl|ha
  ·exact hL
  ·exact fun z => hcC n a ha z.symm
 refine⟨m, hm.sameBut sb hCa, fun h'' hs'' => ⟨_, _, J1.turned (t' := s''.toks) (fun b o hb e => (hs''.2 b hb).trans e) hCn hL (.inr hC0) hcC hp, q⟩⟩
theorem IP : ∀(ts : Ab Ag)(ρ : Rho)(j : Ag), (DX ts ρ)[j]? = if j ∈ ts then (ρ[j]?).map (fun _ => Af) else ρ[j]?
 |[], ρ, j => by simp[DX]
 |t::ts, ρ, j => by
  show (DX ts (ρ.set t Af))[j]? = _;rw[IP ts];by_cases h1 : j ∈ ts
  ·rw[AE h1, AE (Ar _ h1)];by_cases h2 : t = j
   ·subst h2;rw[Do];cases ρ[t]? <;> rfl
   ·rw[BX h2]
  ·rw[AF h1];by_cases h2 : t = j
   ·subst h2;rw[AE Au, Do];cases ρ[t]? <;> rfl
   ·rw[BX h2, AF (by simp only[AM, Hr];exact⟨fun z => h2 z.symm, h1⟩)]
theorem IN : ∀(ts : Ab Ag)(ρ : Rho), (DX ts ρ).length = ρ.length
 |[], _ => rfl
 |t::ts, ρ => by show (DX ts (ρ.set t Af)).length = _;rw[IN ts, AX]
theorem IZ : ∀(ts : Ab Ag)(σ : L2.St){i : Ag}, i ∉ ts -> (hideT ts σ)[i]? = σ[i]?
 |[], _, _, _ => rfl
 |t::ts, σ, i, h => by
  simp only[AM, Hr]at h;show (hideT ts (σ.set t Af))[i]? = _;rw[IZ ts _ h.2, BX (fun z => h.1 z.symm)]
section
variable{K : Fg}{CL : ClA}{A : Ai -> Prop}{ρ ρ' : Rho}{σ : L2.St}{H : Hp}
theorem Good.less(g : Good K CL A ρ σ H)(hl : ρ'.length = ρ.length)(h : ∀(i : Ag)(d : D)(o : An), ρ'[i]? = Aa (Aa (d, o)) -> ρ[i]? = Aa (Aa (d, o))) : Good K CL A ρ' σ H := ⟨fun i d e => g.sh i d (h i d Ad e), fun i d e => g.ow i d (h i d Ac e), hl.trans g.len⟩
theorem Good.put(g : Good K CL A ρ σ H)(t : Ag)(r : Rep K CL H A v d) : Good K CL A (ρ.set t (Aa (d, Ad))) (σ.set t (Aa v)) H := by
 refine⟨fun j e h => ?_, fun j e h => ?_, by rw[AX, AX];exact g.len⟩
 ·by_cases hj : t = j
  ·subst hj;have e1 := EO h;cases e1;have hl : t<σ.length := by
    rw[<-g.len];have := (AT.mp h).1;simpa using this
   exact⟨v, by rw[Bm hl], r⟩
  ·rw[BX hj]at h;obtain⟨w', q, rw'⟩ := g.sh j e h;exact⟨w', by rw[BX hj];exact q, rw'⟩
 ·have hj : t ≠ j := by
   rintro rfl;have := EO h;cases this
  rw[BX hj]at h;obtain⟨a, xs, q, z⟩ := g.ow j e h;exact⟨a, xs, by rw[BX hj];exact q, z⟩
theorem Good.hide(g : Good K CL A ρ σ H)(ts : Ab Ag) : Good K CL A (DX ts ρ) σ H := g.less (IN _ _) fun i d o e => by
 rw[IP]at e;split at e
 ·cases q : ρ[i]? with
  |none => rw[q]at e;cases e
  |some x => rw[q]at e;cases e
 ·exact e
theorem Good.hideT(g : Good K CL A ρ σ H)(ts : Ab Ag) : Good K CL A (DX ts ρ) (hideT ts σ) H := by
 have key : ∀ i x, (DX ts ρ)[i]? = Aa (Aa x) -> ρ[i]? = Aa (Aa x) /\ i ∉ ts := fun i x e => by
  rw[IP]at e;split at e
  ·cases q : ρ[i]? with
   |none => rw[q]at e;cases e
   |some x => rw[q]at e;cases e
  ·exact⟨e, by assumption⟩
 refine⟨fun i d e => ?_, fun i d e => ?_, by rw[IN, IM];exact g.len⟩
 ·obtain⟨e1, e2⟩ := key i _ e;obtain⟨v, q, r⟩ := g.sh i d e1;exact⟨v, by rw[IZ _ _ e2];exact q, r⟩
 ·obtain⟨e1, e2⟩ := key i _ e;obtain⟨a, xs, q, r⟩ := g.ow i d e1;exact⟨a, xs, by rw[IZ _ _ e2];exact q, r⟩
end
noncomputable def GG(K : Fg)(CL : ClA)(ts : Ab Ag)(as : D -> Rho -> R Rho)(g : TG) : Prop := ∀ A ρ σ H v d ρ' Q, Good K CL A (DX ts ρ) σ H -> Rep K CL H A v d -> as d ρ = .ok ρ' -> (∀ σ', Good K CL A ρ' σ' H -> Good K CL A (DX ts ρ) σ' H -> Q σ' H) -> g v σ H Q
theorem Sb(i : Ag) : GG K CL [i] (fun d ρ => .ok (ρ.set i (Aa (d, Ad)))) (Er i) := fun A ρ σ H v d ρ' Q g r e k => by
 cases e;have g2 := g.put i r;have e1 : (DX [i] ρ).set i (Aa (d, Ad)) = ρ.set i (Aa (d, Ad)) := by
  show (ρ.set i Af).set i (Aa (d, Ad)) = _;rw[NY]
 rw[e1]at g2;refine k _ g2 ?_;have := g2.hide [i];have e2 : DX [i] (ρ.set i (Aa (d, Ad))) = DX [i] ρ := by
  show (ρ.set i _).set i Af = ρ.set i Af;rw[NY]
 rw[e2]at this;exact this
noncomputable abbrev W0 : XW := fun _ _ => AW
noncomputable def STs(X : Cx)(CL : ClA)(ifs : Ab Ao)(f : Rho -> R An) : Prop := ∀ A, PTs X ifs (fun σ H Q => AOk H A /\ ∃ ρ, Good X.K CL A ρ σ H /\ BZ W0 H (f ρ) Q)
theorem Rk : STs X CL [] (fun _ => .ok Ac) := fun A pI s σ H Q I ⟨hA, ρ, g, p⟩ => Q0 pI s σ H Q I (p H (As.refl H))
theorem Rj(h : SB X CL W0 c f) : STs X CL [c] f := fun A pI s σ H Q I q => QZ (h A) pI s σ H Q I q
section
variable{X : Cx}{CL : ClA}{W : XW}{tg iter elt : Ao}{ifs : Ab Ao}{scope : Bw}{pos : AH}{N' : Ab Aj}{ts : Ab Ag}{fi : Rho -> R (Ab D)}{fc : Rho -> R An}{fe : Rho -> R D}{as : D -> Rho -> R Rho}{g : TG}
theorem OQ{g : D -> R An}{f:D -> R D}{x:D}{xs ys:Ab D}(h : Br g f (x::xs) = .ok ys) : (g x = .ok Ad /\ Br g f xs = .ok ys) \/ ∃ y r, g x = .ok Ac /\ f x = .ok y /\ Br g f xs = .ok r /\ ys = y::r := by
 unfold Br at h;cases e : g x with
 |bad => rw[e]at h;cases h
 |exn z => rw[e]at h;cases h
 |ok b=>
  rw[e, R.bind_ok]at h;cases b with
  |false => exact .inl ⟨rfl, h⟩
  |true=>
   rw[AE rfl]at h;cases e2 : f x with
   |bad => rw[e2]at h;cases h
   |exn z => rw[e2]at h;cases h
   |ok y=>
    rw[e2, R.bind_ok]at h;cases e3 : Br g f xs with
    |bad => rw[e3]at h;cases h
    |exn z => rw[e3]at h;cases h
    |ok r=>
     rw[e3, R.bind_ok]at h;cases h;exact .inr ⟨y, r, rfl, rfl, rfl, rfl⟩
theorem F5{β:Type}{r : R α}{f : α -> R β}{b : β}(h : r.bind f = .ok b) : ∃ a, r = .ok a /\ f a = .ok b := by
 cases r with
 |ok a => exact⟨a, rfl, h⟩
 |exn x => cases h
 |bad => cases h
theorem Pa{ds ys : Ab D}(hGG : GG K CL ts as g)(hA : AOk H1 A)(gd : Good K CL A ρ σ H1)(yl : Gk K CL A ds J H1)(hz : ds.length <= sizeLine)(hcp : Br (fun x => (as x ρ).bind fc) (fun x => (as x ρ).bind fe) ds = .ok ys)(q : ∀ xs H2, As H1 H2 -> Reps K CL H2 A xs ys -> ∀ p, H2 p = Af -> Q (.ref p) (upd H2 p (.lst xs))):G4 J ts g (fun σ H Q =>AOk H A/\∃ ρ,Good K CL A ρ σ H/\BZ W0 H (fc ρ) Q) (fun σ H Q =>AOk H A/\∃ ρ,Good K CL A ρ σ H/\AQ (fun H =>Rep K CL H A) W0 H (fe ρ) Q) σ H1 Q := by
 refine⟨fun i m xs σ' H' => m = ds.length-i /\ i <= ds.length /\ xs.length <= i /\ As H1 H' /\ Good K CL A (DX ts ρ) σ' H' /\ ∃ outs rest, Reps K CL H' A xs outs /\ Br (fun x => (as x ρ).bind fc) (fun x => (as x ρ).bind fe) (ds.drop i) = .ok rest /\ ys = outs++rest,
  ⟨ds.length, by simp, F2 _, AG _, As.refl _, gd.hideT ts, [], ys, trivial, hcp, rfl⟩, ?_⟩
 rintro i m xs σ' H' ⟨rfl, hi, hxl, sm, g', outs, rest, rs, hc, e⟩;obtain⟨yst, ygo⟩ := yl H' (Kp.of sm) i;by_cases hlt : i<ds.length
 ·have hd : ds[i]? = Aa ds[i] := BK hlt;obtain⟨hgo, hyl⟩ := ygo _ hd;refine .inr ⟨hgo, by omega, fun x H2 hx => ?_⟩
  obtain⟨s2, rx⟩ := hyl x H2 hx;have rx' := rx A (fun a ha => .inl ha) (hA.same sm)
  rw[NH hlt]at hc;have sm2 := sm.trans s2;rcases OQ hc with ⟨h1, h2⟩|⟨y, r, h1, h2, h3, h4⟩
  ·obtain⟨ρ', ea, ec⟩ := F5 h1;refine hGG A ρ σ' H2 x ds[i] ρ' _ (g'.same s2) rx' ea fun σ3 g3 g4 => ⟨hA.same sm2, ρ', g3, ?_⟩
   rw[ec];exact fun H3 s3 => by
    dsimp only;rw[AF (by decide)]
    exact⟨ds.length-(i+1), by omega, rfl, hlt, by omega, sm2.trans s3, g4.same s3, outs, rest, (rs.same s2).same s3, h2, e⟩
  ·obtain⟨ρ', ea, ec⟩ := F5 h1;obtain⟨ρ2, ea2, ee⟩ := F5 h2;rw[ea]at ea2;cases ea2;refine hGG A ρ σ' H2 x ds[i] ρ' _ (g'.same s2) rx' ea fun σ3 g3 g4 => ⟨hA.same sm2, ρ', g3, ?_⟩
   rw[ec];exact fun H3 s3 => by
    dsimp only;rw[AE rfl];refine⟨(hA.same sm2).same s3, ρ', g3.same s3, ?_⟩;rw[ee];exact fun v H4 s4 r4 => ⟨ds.length-(i+1), by omega, rfl, hlt, by rw[B0, NP];omega, (sm2.trans s3).trans s4, (g4.same s3).same s4, outs++[y], r, (((rs.same s2).same s3).same s4).append ⟨r4, trivial⟩, h3, by rw[e, h4];simp⟩
 ·have hk' : ds.length <= i := by omega
  rw[NI hk']at hc;have hr : rest = [] := by cases hc;rfl
  subst hr;rw[B6]at e;subst e;exact .inl ⟨yst hk', fun p hp => q xs H' sm rs p hp⟩
theorem Dr.ok_of{r:R (Ab D)}{f:Ab D -> R D}{Q':It -> Hp -> Prop}(h : AQ Rq W H (r.bind f) Q)(k : ∀ ds J H', r = .ok ds -> As H H' -> Gk K CL A ds J H' -> ds.length <= sizeLine -> AQ Rq W H' (f ds) Q -> Q' J H') : Dr K CL A W H r Q' := by
 cases r with
 |ok d => exact fun J H2 s2 y z => k d J H2 rfl s2 y z (AQ.same s2 h)
 |exn x => exact h
 |bad => exact h
theorem Tn{r : R α}{a : α}(h : noX r = .ok a) : r = .ok a := by
 cases r with
 |ok b => exact h
 |exn x => cases h
 |bad => cases h
theorem KW(hGG : GG X.K CL ts as g)(hA : AOk H A)(gd : Good X.K CL A ρ σ H)(p : AQ (CW X.K CL Ac H A) W H ((fi ρ).bind fun xs => (noX (Br (fun x => (as x ρ).bind fc) (fun x => (as x ρ).bind fe) xs)).bind fun ys => .ok (.lst ys)) Q):Dr X.K CL A W H (fi ρ) (fun J H1 =>G4 J ts g (fun σ H Q =>AOk H A/\∃ ρ,Good X.K CL A ρ σ H/\BZ W0 H (fc ρ) Q) (fun σ H Q =>AOk H A/\∃ ρ,Good X.K CL A ρ σ H/\AQ (fun H =>Rep X.K CL H A) W0 H (fe ρ) Q) σ H1 Q):=
 Dr.ok_of p fun ds J H1 e1 s1 yl hz p1 => by
  cases e2 : noX (Br (fun x => (as x ρ).bind fc) (fun x => (as x ρ).bind fe) ds) with
  |ok ys=>
   rw[e2]at p1;exact Pa hGG (hA.same s1) (gd.same s1) yl hz (Tn e2) fun xs H2 s2 rs q hq => p1 _ _ (s2.trans (Ea hq _)) (Gx (s1.trans s2) ((hA.same s1).same s2) hq rs)
  |exn x => rw[e2]at p1;cases hq : Br (fun x => (as x ρ).bind fc) (fun x => (as x ρ).bind fe) ds <;> rw[hq]at e2 <;> cases e2
  |bad => rw[e2]at p1;exact p1.elim
theorem RB(hc : X.calm = Ac)(B : BlockOk X scope N' ts)(hi : SI X CL W tg iter fi)(hGG : GG X.K CL ts as g)(hg : ∀ cl C s H fp, PG (cxC X scope cl C N' s H fp) tg g)(ht : ∀ cl C s H fp, STs (cxC X scope cl C N' s H fp) CL ifs fc)(he : ∀ cl C s H fp, SE (cxC X scope cl C N' s H fp) CL W0 elt fe)(hs : ∀ x, BO iter X.env x = pure x) : SC X CL W Ac (.ListComp elt [⟨tg, iter, ifs, 0⟩] scope pos) (fun ρ => (fi ρ).bind fun xs => (noX (Br (fun x => (as x ρ).bind fc) (fun x => (as x ρ).bind fe) xs)).bind fun ys => .ok (.lst ys)) := fun A pI s σ H Q I ⟨hA, ρ, gd, p⟩=>
 Q7 hc B (hi A) hg (fun cl C s H fp => ht cl C s H fp A) (fun cl C s H fp => he cl C s H fp A) hs pI s σ H Q I ⟨hA, ρ, gd, KW hGG hA gd p⟩
end
section
variable{K : Fg}{CL : ClA}{Fz : Ai -> HO -> Prop}{B : Ai -> Prop}{ρ : Rho}{σ : L2.St}{H H' : Hp}
theorem BQ.rep(h : BQ K CL H A a o d)(na : ¬ A' a)(hh : H a = Aa o)(sub : ∀ b, A' b -> A b) : Rep K CL H A' (.ref a) d := by
 rcases h with ⟨xs, ds, rfl, rfl, r⟩|⟨es, ds, rfl, rfl, r⟩
 ·exact⟨a, xs, rfl, .inl na, SqL.of hh, Reps.sub sub _ r⟩
 ·exact⟨a, es, rfl, na, hh, Repk.sub sub _ r⟩
theorem Sx.setO(x : Sx K CL Fz B ρ σ H)(s : As H H'){u:HO}(h0 : H a = Af)(h1 : H' a = Aa u)(r : BQ K CL H' (fun b => Bp B ρ σ b \/ b = a) a u d) : Sx K CL Fz B (ρ.set i (Aa (d, Ac))) (σ.set i (Aa (.ref a))) H' := by
 have nA : ¬ Bp B ρ σ a := x.aok.new h0;have own : ∀(j : Ag)(e : D), (ρ.set i (Aa (d, Ac)))[j]? = Aa (Aa (e, Ac)) -> (i = j /\ e = d) \/ (i ≠ j /\ ρ[j]? = Aa (Aa (e, Ac))) := fun j e h => by
  by_cases hj : i = j
  ·subst hj;have := EO h;cases this;exact .inl ⟨rfl, rfl⟩
  ·exact .inr ⟨hj, by rw[BX hj]at h;exact h⟩
 have atI : ∀{j : Ag}{y : Sl}, (ρ.set i (Aa (d, Ac)))[j]? = Aa y -> i = j -> (σ.set i (Aa (.ref a)))[j]? = Aa (Aa (.ref a)) := fun {j y} h e => by
  subst e;have hl : i<σ.length := by
   rw[<-x.len];have := (AT.mp h).1;simpa using this
  rw[Bm hl]
 have sub : ∀ b, Bp B (ρ.set i (Aa (d, Ac))) (σ.set i (Aa (.ref a))) b -> Bp B ρ σ b \/ b = a := fun b h => by
  rcases h with h|⟨j, e, h1, h2⟩
  ·exact .inl (.inl h)
  ·rcases own j e h1 with ⟨hj, _⟩|⟨hj, h1'⟩
   ·rw[atI h1 hj]at h2;cases h2;exact .inr rfl
   ·rw[BX hj]at h2;exact .inl (.inr ⟨j, e, h1', h2⟩)
 have wide : ∀{v : V}{e : D}, Rep K CL H (Bp B ρ σ) v e -> Rep K CL H' (Bp B (ρ.set i (Aa (d, Ac))) (σ.set i (Aa (.ref a)))) v e := fun r => (Rep.wide (fun b hb => (sub b hb).imp id fun e => by rw[e];exact h0) _ r).same s
 have wides : ∀{b : Ai}{o : HO}{e : D}, BQ K CL H (Bp B ρ σ) b o e -> BQ K CL H' (Bp B (ρ.set i (Aa (d, Ac))) (σ.set i (Aa (.ref a)))) b o e := fun r => (r.wide (fun b hb => (sub b hb).imp id fun e => by rw[e];exact h0)).same s
 refine⟨⟨fun j e h => ?_, fun j e h => ?_, by rw[AX, AX];exact x.len⟩, fun b h => ?_, fun j e b g1 g2 => ?_, fun j k e f b g1 g2 g3 g4 => ?_, fun b o z => s _ _ (x.same b o z), by rw[AX, AX];exact x.len⟩
 ·have hj : i ≠ j := by
   rintro rfl;have := EO h;cases this
  rw[BX hj]at h;obtain⟨w', q, rw'⟩ := x.good.sh j e h;exact⟨w', by rw[BX hj];exact q, wide rw'⟩
 ·rcases own j e h with ⟨hj, rfl⟩|⟨hj, h'⟩
  ·have q := atI h hj;exact⟨a, u, q, .inr ⟨j, _, h, q⟩, h1, r.sub sub⟩
  ·obtain⟨b, o, q, ha, hh, rr⟩ := x.good.ow j e h';have q' : (σ.set i (Aa (.ref a)))[j]? = Aa (Aa (.ref b)) := by rw[BX hj];exact q
   exact⟨b, o, q', .inr ⟨j, e, h, q'⟩, s _ _ hh, wides rr⟩
 ·rcases sub b h with z|z
  ·obtain⟨ys, q, w⟩ := x.aok b z;exact⟨ys, s _ _ q, w⟩
  ·rw[z];exact⟨u, h1, r.owk⟩
 ·rcases own j e g1 with ⟨hj, _⟩|⟨hj, h'⟩
  ·rw[atI g1 hj]at g2;cases g2;refine⟨fun o z => ?_, fun z => nA (.inl z)⟩
   have := x.same a o z;rw[h0]at this;cases this
  ·rw[BX hj]at g2;exact x.new j e b h' g2
 ·rcases own j e g1 with ⟨hj, _⟩|⟨hj, h'⟩
  ·rw[atI g1 hj]at g3;cases g3;rcases own k f g2 with ⟨hk, _⟩|⟨hk, h''⟩
   ·exact hj.symm.trans hk
   ·rw[BX hk]at g4;exact absurd (.inr ⟨k, f, h'', g4⟩) nA
  ·rw[BX hj]at g3;rcases own k f g2 with ⟨hk, _⟩|⟨hk, h''⟩
   ·rw[atI g2 hk]at g4;cases g4;exact absurd (.inr ⟨j, e, h', g3⟩) nA
   ·rw[BX hk]at g4;exact x.dis j k e f b h' h'' g3 g4
theorem Sx.setF(x : Sx K CL Fz B ρ σ H)(s : As H H'){ds : Ab D}(h0 : H a = Af)(h1 : H' a = Aa (.lst xs))(r : Reps K CL H' (fun b => Bp B ρ σ b \/ b = a) xs ds) : Sx K CL Fz B (ρ.set i (Aa (.lst ds, Ac))) (σ.set i (Aa (.ref a))) H' := x.setO s h0 h1 (.lst r)
theorem Sx.updO(x : Sx K CL Fz B ρ σ H){u:HO}{d':D}(hi : ρ[i]? = Aa (Aa (d, Ac)))(ha : σ[i]? = Aa (Aa (.ref a)))(r : BQ K CL H (Bp B ρ σ) a u d') : Sx K CL Fz B (ρ.set i (Aa (d', Ac))) σ (L2.upd H a u) := by
 have oa : Bp B ρ σ a := .inr ⟨i, d, hi, ha⟩;have hil : i<ρ.length := (AT.mp hi).1;have get : ∀(j : Ag)(e : D), (ρ.set i (Aa (d', Ac)))[j]? = Aa (Aa (e, Ac)) ↔ (i = j /\ e = d') \/ (i ≠ j /\ ρ[j]? = Aa (Aa (e, Ac))) := fun j e => by
  by_cases hj : i = j
  ·subst hj;rw[Bm hil];simp;exact⟨fun z => z.symm, fun z => z.symm⟩
  ·rw[BX hj];simp[hj]
 have same : ∀ b, Bp B (ρ.set i (Aa (d', Ac))) σ b ↔ Bp B ρ σ b := fun b => by
  constructor
  ·rintro (h|⟨j, e, h1, h2⟩)
   ·exact .inl h
   ·rcases (get j e).mp h1 with ⟨rfl, _⟩|⟨_, h1⟩
    ·exact .inr ⟨i, d, hi, h2⟩
    ·exact .inr ⟨j, e, h1, h2⟩
  ·rintro (h|⟨j, e, h1, h2⟩)
   ·exact .inl h
   ·by_cases hj : i = j
    ·subst hj;exact .inr ⟨i, d', (get i _).mpr (.inl ⟨rfl, rfl⟩), h2⟩
    ·exact .inr ⟨j, e, (get j e).mpr (.inr ⟨hj, h1⟩), h2⟩
 have kp : Kp (Bp B ρ σ) H (L2.upd H a u) := fun b o e na => by
  have hne : b ≠ a := by
   rintro rfl;exact na oa
  rw[B8 hne];exact e
 refine⟨⟨fun j e h => ?_, fun j e h => ?_, by rw[AX];exact x.len⟩, fun b h => ?_, fun j e b g1 g2 => ?_, fun j k e f b g1 g2 g3 g4 => ?_, fun b o z => ?_, by rw[AX];exact x.len⟩
 ·have hj : i ≠ j := by
   rintro rfl;have := EO h;cases this
  rw[BX hj]at h;obtain⟨w', q, rw'⟩ := x.good.sh j e h;exact⟨w', q, Rep.sub (fun b hb => (same b).mp hb) _ (Rep.kp kp _ rw')⟩
 ·rcases (get j e).mp h with ⟨rfl, rfl⟩|⟨hj, h'⟩
  ·exact⟨a, u, ha, (same a).mpr oa, Fs, (r.kp kp).sub fun b hb => (same b).mp hb⟩
  ·obtain⟨b, o, q, hb, hh, rr⟩ := x.good.ow j e h';have hne : b ≠ a := fun z => hj (x.dis i j d e a hi h' ha (z ▸ q))
   exact⟨b, o, q, (same b).mpr hb, by rw[B8 hne];exact hh, (rr.kp kp).sub fun b hb => (same b).mp hb⟩
 ·obtain⟨ys, q, w⟩ := x.aok b ((same b).mp h);by_cases e : b = a
  ·rw[e];exact⟨u, Fs, r.owk⟩
  ·exact⟨ys, by rw[B8 e];exact q, w⟩
 ·rcases (get j e).mp g1 with ⟨rfl, _⟩|⟨_, h'⟩
  ·exact x.new i d b hi g2
  ·exact x.new j e b h' g2
 ·rcases (get j e).mp g1 with ⟨rfl, _⟩|⟨hj, h'⟩
  ·rcases (get k f).mp g2 with ⟨rfl, _⟩|⟨hk, h''⟩
   ·rfl
   ·exact x.dis i k d f b hi h'' g3 g4
  ·rcases (get k f).mp g2 with ⟨rfl, _⟩|⟨hk, h''⟩
   ·exact x.dis j i e d b h' hi g3 g4
   ·exact x.dis j k e f b h' h'' g3 g4
 ·have hne : b ≠ a := fun e => (x.new i d a hi ha).1 o (e ▸ z)
  rw[B8 hne];exact x.same b o z
theorem Sx.upd(x : Sx K CL Fz B ρ σ H){ds : Ab D}(hi : ρ[i]? = Aa (Aa (d, Ac)))(ha : σ[i]? = Aa (Aa (.ref a)))(r : Reps K CL H (Bp B ρ σ) xs ds) : Sx K CL Fz B (ρ.set i (Aa (.lst ds, Ac))) σ (L2.upd H a (.lst xs)) := x.updO hi ha (.lst r)
theorem Sx.rel(x : Sx K CL Fz B ρ σ H)(hi : ρ[i]? = Aa (Aa (d, Ac))) : Sx K CL Fz B (ρ.set i (Aa (d, Ad))) σ H := by
 obtain⟨a, u, q, oa, hh, rr⟩ := x.good.ow i d hi;have own : ∀(j : Ag)(e : D), (ρ.set i (Aa (d, Ad)))[j]? = Aa (Aa (e, Ac)) -> i ≠ j /\ ρ[j]? = Aa (Aa (e, Ac)) := fun j e h => by
  by_cases hj : i = j
  ·subst hj;have := EO h;cases this
  ·exact⟨hj, by rw[BX hj]at h;exact h⟩
 have sub : ∀ b, Bp B (ρ.set i (Aa (d, Ad))) σ b -> Bp B ρ σ b := fun b h => by
  rcases h with h|⟨j, e, h1, h2⟩
  ·exact .inl h
  ·exact .inr ⟨j, e, (own j e h1).2, h2⟩
 have na : ¬ Bp B (ρ.set i (Aa (d, Ad))) σ a := fun h => by
  rcases h with h|⟨j, e, h1, h2⟩
  ·exact(x.new i _ a hi q).2 h
  ·obtain⟨hj, h1⟩ := own j e h1;exact hj (x.dis i j _ e a hi h1 q h2)
 refine⟨⟨fun j e h => ?_, fun j e h => ?_, by rw[AX];exact x.len⟩, fun b h => x.aok b (sub b h), fun j e b g1 g2 => x.new j e b (own j e g1).2 g2, fun j k e f b g1 g2 g3 g4 => x.dis j k e f b (own j e g1).2 (own k f g2).2 g3 g4, x.same, by rw[AX];exact x.len⟩
 ·by_cases hj : i = j
  ·subst hj;have e1 := EO h;cases e1;exact⟨_, q, rr.rep na hh sub⟩
  ·rw[BX hj]at h;obtain⟨w', q', rw'⟩ := x.good.sh j e h;exact⟨w', q', Rep.sub sub _ rw'⟩
 ·obtain⟨hj, h'⟩ := own j e h;obtain⟨b, o, q', hb, hh', rr'⟩ := x.good.ow j e h';exact⟨b, o, q', .inr ⟨j, e, h, q'⟩, hh', rr'.sub sub⟩
end
section
variable{X : Cx}{CL : ClA}{W : XW}{pos : AH}{e : Ao}{fe : Rho -> R D}{fr : An}
theorem BB.exC{f:D -> O}(x : Sx X.K CL Fz B ρ σ H)(h : BB X.K CL Fz B W (O.of ρ r f) D')(k : ∀ d v H', r = .ok d -> As H H' -> CW X.K CL fr H A H' v d -> Sx X.K CL Fz B ρ σ H' -> BB X.K CL Fz B W (f d) D' -> Q v H') : AQ (CW X.K CL fr H A) W H r Q := by
 cases r with
 |ok d => exact fun v H' s r => k d v H' rfl s r (x.grow s) h
 |exn y => exact fun H' s => h H' fun b o z => s _ _ (x.same b o z)
 |bad => exact h
noncomputable def SAs(X : Cx)(CL : ClA)(W : XW)(fr : An)(i : Ag)(st : Bb)(f : Rho -> R D) : Prop := ∀ A, PS X st (Ic (fun σ H Q => AOk H A /\ ∃ ρ, Good X.K CL A ρ σ H /\ AQ (CW X.K CL fr H A) W H (f ρ) Q) (Er i))
theorem SC.sas{n:Aj}(hN : X.N.Nodup)(hi : X.N[i]? = Aa n)(hx : Loc X.env.scope n)(he : SC X CL W fr e fe)(hs : Cw e (Aa (.Name n pos')) pos.line X.env = pure Ad)(hf : X.fn n = Ac \/ X.env.scope.names.lookup n = Aa .local) : SAs X CL W fr i (.Assign [.Name n pos'] e pos) fe:=
 fun A => Mj hN hi hx (he A) hs hf
theorem PN{n:Aj}{fe:Rho -> R D}{g:TG}(hc : X.calm = Ac)(B : BlockOk X scope N' ts)(hi : SI X CL W tg iter fi)(hGG : GG X.K CL ts as g)(hg : ∀ cl C s H fp, PG (cxC X scope cl C N' s H fp) tg g)(ht : ∀ cl C s H fp, STs (cxC X scope cl C N' s H fp) CL ifs fc)(he : ∀ cl C s H fp, SE (cxC X scope cl C N' s H fp) CL W0 elt fe)(hs : ∀ x, BO iter X.env x = pure x)(hN : X.N.Nodup)(hni : X.N[i]? = Aa n)(hx : X.env.scope.names.lookup n = Aa .local)(hsw : Cw (.ListComp elt [⟨tg, iter, ifs, 0⟩] scope pos) (Aa (.Name n pos')) pos2.line X.env = pure Ac):SAs X CL W Ac i (.Assign [.Name n pos'] (.ListComp elt [⟨tg,iter,ifs,0⟩] scope pos) pos2) (fun ρ =>(fi ρ).bind fun xs =>(noX (Br (fun x =>(as x ρ).bind fc) (fun x =>(as x ρ).bind fe) xs)).bind fun ys =>.ok (.lst ys)) := fun A pI s σ H Dn I ⟨hA, ρ, gd, p⟩=>
 Q3 hc B (hi A) hg (fun cl C s H fp => ht cl C s H fp A) (fun cl C s H fp => he cl C s H fp A) hs hN hni hx hsw pI s σ H Dn I ⟨hA, ρ, gd, KW hGG hA gd p⟩
theorem Mf{st : Bb}(h : SAs X CL W fr i st fe) : SS X CL W st (fun ρ => O.of ρ (fe ρ) fun d => .next (ρ.set i (Aa (d, Ad)))) := fun Fz B pI s σ H D I ⟨ρ, x, p⟩=>
 h (Bp B ρ σ) pI s σ H D I ⟨x.aok, ρ, x.good, BB.exC x p fun d v H' _ s r x' q => q _ H' (x'.set i r.1)⟩
theorem Ru{st : Bb}(h : SAs X CL W Ac i st fe) : SS X CL W st (fun ρ => O.of ρ (fe ρ) fun d => setF ρ i d) := fun Fz B pI s σ H D I ⟨ρ, x, p⟩=>
 h (Bp B ρ σ) pI s σ H D I ⟨x.aok, ρ, x.good, BB.exC x p fun d v H' _ s r x' q => by
  cases d with
  |lst ds=>
   obtain⟨a, xs, rfl, h0, h1, rs⟩ := r.2 rfl ds rfl;exact q _ H' (x.setF s h0 h1 rs)
  | _ => exact q.elim⟩
theorem Rr(he : SC X CL W Ac e fe) : SS X CL W (.Return (Aa e) pos) (fun ρ => O.of ρ (fe ρ) fun d => .ret d Ac) := fun Fz B pI s σ H D I ⟨ρ, x, p⟩=>
 Jt (he (Bp B ρ σ)) pI s σ H D I ⟨x.aok, ρ, x.good, BB.exC x p fun d v H' _ s r x' q => q v H' x'.same (Rep.sub (fun a h => .inl h) _ r.1) fun _ ds e => by
  obtain⟨a, xs, h0, h1, h2, h3⟩ := r.2 rfl ds e;refine⟨a, xs, h0, fun o z => ?_, h2, Reps.sub (fun b hb => hb.imp .inl id) _ h3⟩
  have := x.same a o z;rw[h1]at this;cases this⟩
noncomputable def J2(ρ : Rho)(i : Ag) : An := match ρ[i]? with
  |some (Aa (_, o)) => o
  |_ => Ad
theorem Rn(he : PE X e (Fx i)) : SS X CL W (.Return (Aa e) pos) (fun ρ => O.of ρ (Bf ρ i) fun d => .ret d (J2 ρ i)) := fun Fz B pI s σ H D I ⟨ρ, x, p⟩=>
 Jt he pI s σ H D I (by
  dsimp only at p;cases e : Bf ρ i with
  |bad => rw[e]at p;exact p.elim
  |exn z => exact(Lo e).elim
  |ok d=>
   rw[e]at p;obtain⟨o, e⟩ := LJ e;have eo : J2 ρ i = o := by unfold J2;rw[e]
   rw[O.of_ok, eo]at p;cases o with
   |false=>
    obtain⟨v, q, r⟩ := x.good.sh i d e;exact⟨v, q, p v H x.same (Rep.sub (fun a h => .inl h) _ r) fun z => nomatch z⟩
   |true=>
    obtain⟨a, u, q, ha, hh, r⟩ := x.good.ow i d e;obtain⟨n1, n2⟩ := x.new i _ a e q;refine⟨_, q, p _ H x.same (r.rep n2 hh fun a h => .inl h) fun _ ds' e' => ?_⟩
    cases e';obtain⟨xs, rfl, r'⟩ := r.lst_of;exact⟨a, xs, rfl, n1, hh, Reps.sub (fun b hb => hb.elim .inl fun z => z ▸ ha) _ r'⟩)
theorem Ra{ds : Ab D}(h : CC ρ i = .ok ds) : ρ[i]? = Aa (Aa (.lst ds, Ac)) := by
 unfold CC at h;split at h
 ·rename_i e;cases h;exact e
 ·cases h
theorem P5(h : CC ρ i = .exn x) : AW := by
 unfold CC at h;split at h <;> cases h
variable{o : Ao}{i : Ag}{apos cpos : AH}
theorem Td{k:Ao}{fk:Rho -> R Ov.D}(ho : PE X o (Fx i))(hk : ST X CL W k fk)(he : SE X CL W e fe)(ha : ∀ v, assign (.Subscript o k spos) X.env v = (do
      let ov <-holding [v] (eval o X.env)
      let iv <-holding [v, ov] (eval k X.env)
      Fh spos
      holding [v, ov, iv] (FZ ov iv v)
      release [v, ov, iv] []))(hs : En [.Subscript o k spos] e pos.line X.env = pure Ad)(hw : FF [.Subscript o k spos] e X.env = pure Af)(h1 : (BW [.Subscript o k spos] X.env).map (·.2) = [assign (.Subscript o k spos) X.env]):
    SS X CL W (.Assign [.Subscript o k spos] e pos) (fun ρ => O.of ρ (fe ρ) fun d => O.of ρ (CC ρ i) fun xs => O.of ρ ((fk ρ).bind C1) fun j => match plD xs.length j with
      |some n => .next (ρ.set i (Aa (.lst (xs.set n d), Ac)))
      | none => .bad) := fun Fz B pI s σ H D I ⟨ρ, x, p⟩=>
  Mk (he (Bp B ρ σ)) (Ml ho (hk (Bp B ρ σ)) PJ ha) hs hw h1 pI s σ H D I ⟨x.aok, ρ, x.good, BB.ex x p fun d v H' _ s rv x' q' => by
    cases e1 : CC ρ i with
    |bad => rw[e1]at q';exact q'.elim
    |exn z => exact(P5 e1).elim
    |ok ds=>
      rw[e1, O.of_ok]at q';have hi := Ra e1;obtain⟨a, xs, ds', q, e2, ha, hh, r⟩ := x'.good.owL hi;cases e2;refine⟨_, q, x'.aok, ρ, x'.good, ?_⟩;cases e3 : fk ρ with
      |bad => rw[e3]at q';exact q'.elim
      |exn z => rw[e3]at q';exact fun H2 s2 => q' H2 fun b o z => s2 _ _ (x'.same b o z)
      |ok dk=>
        rw[e3]at q';intro y H2 s2 ry;cases dk with
        |int j=>
          have ey := ry.int_of;subst ey;rw[R.bind_ok, Qd, O.of_ok]at q';cases e4 : plD ds.length j with
          |none => rw[e4]at q';exact q'.elim
          |some n=>
            rw[e4]at q';refine⟨a, xs, j, n, rfl, rfl, s2 _ _ hh, ?_, q' _ _ ((x'.grow s2).upd hi q (Reps.set (rv.same s2) n (r.same s2)))⟩;rw[r.length];exact e4
        | _ => exact q'.elim⟩
theorem Rl{rest : Ab Bb}{f:Rho -> O}(i : Ag)(h : SSs X CL W rest f) : SSs X CL W rest (fun ρ => (match ρ[i]? with
   |some (Aa (d, Ac)) => O.next (ρ.set i (Aa (d, Ad)))
   | _ => O.next ρ).seq f) := fun Fz B => PSs.weak (h Fz B) fun D σ H ⟨ρ, x, p⟩ => by
 dsimp only at p;split at p
 ·rename_i d e;exact⟨_, x.rel e, p⟩
 ·exact⟨ρ, x, p⟩
end
section
variable{X : Cx}{pI : Ab (Ai × AA)}{σ : L2.St}{H : Hp}{s : Ak}{a ka : Ai}{k : Ab Ae}{CL : ClA}{A : Ai -> Prop}{es : Ab (Ab Ae × Ai × V)}{kvs : Ab (Ab Ae × D)}
noncomputable def sdD(kvs : Ab (Ab Ae × D))(k : Ab Ae)(d : D) : Ab (Ab Ae × D) := if (kvs.any fun p => p.1==k) = Ac then kvs else DW kvs k d
theorem O4{B:AK}{E : Ah -> Ak -> Prop}{v:Ah}{Q:Ah -> Ak -> Prop}(hu : (TK X.prog X.w).room B)(hkey : (TK X.prog X.w).is s.heap k ka)(hm : s.heap.DictOfH (TK X.prog X.w) a ys)(hsz : ys.length <= sizeLine)(q1 : ∀ p, Ef ys k = Aa p -> Q p.2 {s with toks := s.toks+(TK X.prog X.w).draws k})(q2 : Ef ys k = Af -> ∀ h', h'.DictOfH (TK X.prog X.w) a (ys++[(k, ka, v)]) -> DS a s.heap h' -> Q v {s with heap := h', toks := s.toks+(TK X.prog X.w).draws k}):Ay (model X.prog X.w) B (Fc a (.ref ka) v) Q E s := by
 obtain⟨o, es, ep, ho, hc, hd, he, his, hn⟩ := hm;unfold Fc
 try with_reducible refine C3 ?_
 refine Aq ((TK X.prog X.w).pyHash hu hkey ?_);refine Aq (wpAny_dictFind_heap (knd := TK X.prog X.w) (s := {s with toks := s.toks+(TK X.prog X.w).draws k}) hu hkey ho hd he his hn ?_ ?_)
 ·intro hno;have hnot : k ∉ ys.map (·.1) := not_mem_keys_of_get hno;refine Aq (wpAny_rule (Aq (wpAny_updateDictKeys (hz := by have e := size_of_entries he;omega) (s := {s with toks := s.toks+(TK X.prog X.w).draws k}) ho hd (AJ (q2 (atKey_none_of_get hno) _ ⟨_, _, ep+1, Cj _ ho (Obj.isFreed_of_dict (Oj hd _)),
   hc.mapDictKeys _, Oj hd _, ?_, ?_, ?_⟩ (D4 ..))))))
  ·simp[he, Fo]
  ·intro x hx;rcases Dg.mp hx with hx|hx
   ·exact(TK X.prog X.w).keeps (his x hx) ho hd (D4 ..)
   ·simp only[A9]at hx;subst hx;exact(TK X.prog X.w).keeps hkey ho hd (D4 ..)
  ·rw[NR, List.nodup_append];refine⟨hn, by simp, ?_⟩
   intro x hx y hy;simp only[Bj, EG, A9]at hy;subst hy;exact fun e => hnot (e ▸ hx)
 ·intro j p hj;refine Aq (OG (s := {s with toks := s.toks+(TK X.prog X.w).draws k}) ho hd ?_)
  have ej : es[j]? = Aa (Fo (TK X.prog X.w) (k, p)) := by
   rw[<-Array.getElem?_toList, he, CO, hj];rfl
  rw[ej];exact Aq (wpAny_rule (AJ (q1 p (atKey_of_get hn hj))))
theorem OJ(hd : (a==Cv) = Ad)(v : Ah):MeetsIn X.prog X.w (Builtin.«dict.setdefault» ⟨[.ref a,.ref ka,v],[]⟩) (fun B R s =>(TK X.prog X.w).room B.in1/\∃ k ys,(TK X.prog X.w).is s.heap k ka/\s.heap.DictOfH (TK X.prog X.w) a ys/\ys.length <= sizeLine/\(∀ p,Ef ys k = Aa p->R (.ok (.ret p.2)) {s with toks := s.toks+(TK X.prog X.w).draws k})/\(Ef ys k = Af->∀ h',h'.DictOfH (TK X.prog X.w) a (ys++[(k,ka,v)])->DS a s.heap h'->R (.ok (.ret v)) {s with heap := h',toks := s.toks+(TK X.prog X.w).draws k})):=
 .of_wp fun B R s ⟨hu, k, ys, hkey, hm, hz, h1, h2⟩ => by
  unfold Builtin.«dict.setdefault»;refine Aq ?_;unfold Builtin.Dict.keyAndDefault;refine Aq (wpAny_notOrdered_dict hm.typeIs ?_);show Ay _ _ (pure (a, EZ ka, Aa v)) _ _ s;refine AJ ?_;show Ay _ _ (if (a==Cv) = Ac then _ else (Fc a (.ref ka) v >>= _)) _ _ s
  rw[AF (by rw[hd];exact Ap)]
  exact Aq (O4 hu hkey hm hz (fun p hp => AJ ⟨p.2, rfl, h1 p hp⟩) fun hn h' hm' hs' => AJ ⟨v, rfl, h2 hn h' hm' hs'⟩)
theorem Uw{x:V}{v:Ah}{E : Ah -> Ak -> Prop}(hu : X.A.units+1<A3)(I : Inv X pI σ H s)(hH : H a = Aa (.ext (B5 a es)))(r : Repk X.K CL H A es kvs)(hk : Cf X.K H A ka k)(rx : AZ x v)(rd : Rep X.K CL H A x d)(hz : kvs.length <= sizeLine)(q : ∀ x' es', Repk X.K CL H A es' (sdD kvs k d) -> Q x' (upd H a (.ext (B5 a es')))) : Ay (model X.prog X.w) X.A (call (.builtin "dict.setdefault") [.ref a, .ref ka, v]) (EP X pI σ Q) E s := by
 obtain⟨ys, ve, hs, m⟩ := dic_of I hH r;have zz : ys.length <= sizeLine := by rw[<-ve.length, r.length];exact hz
 refine FK F.slot_dict_setdefault m.typeIs F.entry_dict_setdefault (F.args_dict_setdefault_3 _ _ _) (OJ hs v) ⟨Ci hu, k, ys, F7 I hk, m, zz, fun p hp => ?_, fun hp h' m' sb => ?_⟩
 ·rcases Gb ve k r with ⟨z1, _⟩|⟨p', x', d', z1, z2, z3, z4, z5⟩
  ·rw[hp]at z1;cases z1
  ·rw[hp]at z1;cases z1;have e1 : sdD kvs k d = kvs := AE z3;have I2 : Inv X pI σ (upd H a (.ext (B5 a es))) {s with toks := s.toks+(TK X.prog X.w).draws k} := by
    have e : upd H a (.ext (B5 a es)) = H := by
     funext b
     unfold upd;split
     ·rename_i e;rw[e, hH]
     ·rfl
    rw[e];exact I.kept fun b o e => e
   exact⟨x', _, I2, z4, q x' es (by rw[e1];exact r)⟩
 ·rcases Gb ve k r with ⟨z1, z2, z3⟩|⟨p', _, _, z1, _⟩
  ·obtain⟨es', ve', r'⟩ := LP ve hk rx rd r;have e1 : sdD kvs k d = kvs++[(k, d)] := by
    unfold sdD DW;rw[AF (by rw[z3];exact Ap), AF (by rw[z3];exact Ap)]
   obtain⟨o, _, _, h1, _⟩ := id m';exact⟨x, upd H a (.ext (B5 a es')), I.write (x := a) (e := a) (by rw[hH];exact trivial) (.inl rfl) (fun b u hb hu => (sb.2 b hb).trans hu) ⟨o, h1⟩ ⟨⟨_, ve', (DZ.to hs m').any⟩, ⟨o, h1⟩, fun h1 h2 d k => d.keep k⟩, rx, q x es' (by rw[e1];exact r')⟩
  ·rw[hp]at z1;cases z1
theorem RK{x:V}{v:Ah}{E : Ah -> Ak -> Prop}(hu : X.A.units+1<A3)(I : Inv X pI σ H s)(hH : H a = Aa (.ext (B5 a es)))(r : Repk X.K CL H A es kvs)(hk : Cf X.K H A ka k)(rx : AZ x v)(rd : Rep X.K CL H A x d)(q : ∀ x', Rep X.K CL H A x' ((Dq kvs k).getD d) -> Q x' H) : Ay (model X.prog X.w) X.A (call (.builtin "dict.get") [.ref a, .ref ka, v]) (EP X pI σ Q) E s := by
 obtain⟨ys, ve, hs, m⟩ := dic_of I hH r;refine FK F.slot_dict_get m.typeIs F.entry_dict_get (F.args_dict_get_3 _ _ _) (meetsH_dict_get_default (TK X.prog X.w) a ka hs v) ⟨Ci hu, k, ys, F7 I hk, m, ?_⟩;rcases Gb ve k r with ⟨z1, z2, _⟩|⟨p', x', d', z1, z2, z3, z4, z5⟩
 ·rw[z1];rw[z2]at q;exact⟨x, H, I.kept fun b o e => e, rx, q x rd⟩
 ·rw[z1];rw[z2]at q;exact⟨x', H, I.kept fun b o e => e, z4, q x' z5⟩
end
section
variable{X : Cx}{o e : Ao}{es : Ab Ao}{t : TA}{name : Aj}{apos cpos : AH}{id : Ca}{r : V -> Ab V -> Hp -> VK -> Prop}{to : TE}
theorem Mm(slot : Slot "dict" name id)(hty : typeOf (.builtin id) = pure (.type "method_descriptor"))(hm : MtR X id r)(ho : PE X o to)(ha : PA X (e::es) t)(hbase : FE o name X.env (eval o X.env) = eval o X.env)(hfew : ((BN cpos (At (e::es) X.env)).all (fun x => !x.1)&&(GX cpos (F3 [] X.env)).all (fun x => x.1.isSome)
   && decide ((e::es).length+([] : Ab D6).length+(if ([] : Ab D6).isEmpty then 0 else 1)<30)) = Ac)(hline : (apos.endLine==cpos.line) = Ac)(hs : At (e::es) X.env = (Ad, eval e X.env)::At es X.env)(hplain : (BN cpos (At es X.env)).any (·.1) = Ad):PE X (.Call (.Attribute o name apos) (e::es) [] cpos) (fun σ H Q =>to σ H fun x H1 =>(∃ a es,x = .ref a/\H1 a = Aa (.ext (B5 a es)))/\t σ H1 fun xs H2 =>r x xs H2 Q) := by
 intro pI s σ H Q I h;refine wpAny_Call_method_late hbase hfew hline rfl (thn (ho pI s σ H _ I h) fun v s1 ⟨x, H1, I1, r1, ⟨a, xs, e0, hH⟩, q1⟩ => ?_)
 subst e0;obtain⟨ys, _, d⟩ := (I1.hok a _ hH).1;obtain⟨_, ob, _, _, h1, h2, h3, _⟩ := d X.prog X.w;cases r1;have ty : s1.TypeIs (.ref a) "dict" := ⟨ob, h1, h2.1⟩;refine⟨"dict", id, F.plainAttrs_dict, slot, hty, ty, fun b e => by cases e;exact⟨ob, h1, h2.2.1⟩, ?_⟩
 have hA := ha cpos pI s1 σ H1 _ I1 q1;rw[hs]at hA ⊢;refine Calls.callWith_builtin (by show (Ad||(BN cpos (At es X.env)).any (·.1)) = Ad;rw[hplain] <;> rfl) (Calls.evalArgs_plain ?_)
 exact thn hA fun us s2 ⟨vs, H2, I2, r2, q2⟩ => hm pI s2 σ H2 (.ref a) vs _ us Q I2 rfl r2 q2
end
section
variable{X : Cx}{CL : ClA}{W : XW}{pos : AH}{e k o : Ao}{fe fk : Rho -> R D}{i : Ag}{apos cpos : AH}
noncomputable def U6(K : Fg)(CL : ClA)(A : Ai -> Prop) : Ij := fun o i v H Q => ∃ a ka es kvs k d, o = .ref a /\ i = .ref ka /\ H a = Aa (.ext (B5 a es)) /\ Repk K CL H A es kvs /\ Cf K H A ka k /\ Rep K CL H A v d /\ kvs.length <= sizeLine /\ ∀ es', Repk K CL H A es' (DW kvs k d) -> Q (upd H a (.ext (B5 a es')))
theorem Rz(hu : X.A.units+1<A3) : J5 X (U6 X.K CL A) := by
 intro pI s σ H o i v ov iv u Q I ro ri rv h;obtain⟨a, ka, es, kvs, k, d, rfl, rfl, hH, r, hk, rd, hz, q⟩ := h;cases ro;cases ri;exact Sh hu I hH r hk rv rd hz fun s' es' r' I' => ⟨_, I', q es' r'⟩
theorem LB{ds : Ab (Ab Ae × D)}(h : Eb ρ i = .ok ds) : ρ[i]? = Aa (Aa (.dic ds, Ac)) := by
 unfold Eb at h;split at h
 ·rename_i e;cases h;exact e
 ·cases h
theorem Lb(h : Eb ρ i = .exn x) : AW := by
 unfold Eb at h;split at h <;> cases h
theorem Ji{j:Ab Ae}(h : C0 d = .ok j) : Cp d = Aa j := by
 unfold C0 at h;split at h
 ·rename_i e;cases h;exact e
 ·cases h
theorem IX(h : C0 d = .exn x) : AW := by
 unfold C0 at h;split at h <;> cases h
theorem Sy{n:Aj}{dpos:AH}(hN : X.N.Nodup)(hi : X.N[i]? = Aa n)(hx : Loc X.env.scope n)(hs : Cw (.Dict [] [] dpos) (Aa (.Name n pos')) pos.line X.env = pure Ad)(hf : X.fn n = Ac \/ X.env.scope.names.lookup n = Aa .local):SS X CL W (.Assign [.Name n pos'] (.Dict [] [] dpos) pos) (fun ρ =>.next (ρ.set i (Aa (.dic [],Ac)))) := fun Fz B pI s σ H D I ⟨ρ, x, p⟩=>
 Mj hN hi hx Sj hs hf pI s σ H D I fun a ha => p _ _ (x.setO (Ea ha _) ha Fs (.dic trivial))
theorem Rt(hu : X.A.units+1<A3)(ho : PE X o (Fx i))(hk : ST X CL W k fk)(he : SE X CL W e fe)(ha : ∀ v, assign (.Subscript o k spos) X.env v = (do
   let ov <-holding [v] (eval o X.env)
   let iv <-holding [v, ov] (eval k X.env)
   Fh spos
   holding [v, ov, iv] (FZ ov iv v)
   release [v, ov, iv] []))(hs : En [.Subscript o k spos] e pos.line X.env = pure Ad)(hw : FF [.Subscript o k spos] e X.env = pure Af)(h1 : (BW [.Subscript o k spos] X.env).map (·.2) = [assign (.Subscript o k spos) X.env]):SS X CL W (.Assign [.Subscript o k spos] e pos) (fun ρ =>O.of ρ (fe ρ) fun d =>O.of ρ (Eb ρ i) fun xs =>O.of ρ ((fk ρ).bind C0) fun j =>if B2 (xs.length+1) = Ac then .next (ρ.set i (Aa (.dic (DW xs j d),Ac))) else .bad) := fun Fz B pI s σ H D I ⟨ρ, x, p⟩=>
 Mk (he (Bp B ρ σ)) (Ml ho (hk (Bp B ρ σ)) (Rz (A := Bp B ρ σ) hu) ha) hs hw h1 pI s σ H D I ⟨x.aok, ρ, x.good, BB.ex x p fun d v H' _ s rv x' q' => by
  cases e1 : Eb ρ i with
  |bad => rw[e1]at q';exact q'.elim
  |exn z => exact(Lb e1).elim
  |ok ds=>
   rw[e1, O.of_ok]at q';have hi := LB e1;obtain⟨a, xs, q, ha, hh, r⟩ := x'.good.owK hi;refine⟨_, q, x'.aok, ρ, x'.good, ?_⟩;cases e3 : fk ρ with
   |bad => rw[e3]at q';exact q'.elim
   |exn z => rw[e3]at q';exact fun H2 s2 => q' H2 fun b o z => s2 _ _ (x'.same b o z)
   |ok dk=>
    rw[e3, R.bind_ok]at q';intro y H2 s2 ry;cases e4 : C0 dk with
    |bad => rw[e4]at q';exact q'.elim
    |exn z => exact(IX e4).elim
    |ok j=>
     rw[e4, O.of_ok]at q';split at q'
     ·rename_i hz;have hz := Fq hz;obtain⟨ka, rfl, kr⟩ := Gw ry (Ji e4);exact⟨a, ka, xs, ds, j, d, rfl, rfl, s2 _ _ hh, Repk.kp (Kp.of s2) _ r, kr, rv.same s2, by omega, fun es' r' => q' _ _ ((x'.grow s2).updO hi q (.dic r'))⟩
     ·exact q'.elim⟩
theorem We(hu : X.A.units+1<A3) : MtR X "dict.setdefault" (fun x xs H Q => ∃ a ka es kvs k v d, x = .ref a /\ xs = [.ref ka, v] /\ H a = Aa (.ext (B5 a es)) /\ Repk X.K CL H A es kvs /\ Cf X.K H A ka k /\ Rep X.K CL H A v d /\ kvs.length <= sizeLine /\ ∀ x' es', Repk X.K CL H A es' (sdD kvs k d) -> Q x' (upd H a (.ext (B5 a es')))) := by
 intro pI s σ H x xs v us Q I rx rs h;obtain⟨a, ka, es, kvs, k, v', d, rfl, rfl, hH, r, hk, rd, hz, q⟩ := h;cases rx;cases rs with
 |cons r1 r2=>
  cases r1;cases r2 with
  |cons r3 r4=>
   cases r4;exact Uw hu I hH r hk r3 rd hz q
theorem Tp(hu : X.A.units+1<A3) : MtR X "dict.get" (fun x xs H Q => ∃ a ka es kvs k v d, x = .ref a /\ xs = [.ref ka, v] /\ H a = Aa (.ext (B5 a es)) /\ Repk X.K CL H A es kvs /\ Cf X.K H A ka k /\ Rep X.K CL H A v d /\ ∀ x', Rep X.K CL H A x' ((Dq kvs k).getD d) -> Q x' H) := by
 intro pI s σ H x xs v us Q I rx rs h;obtain⟨a, ka, es, kvs, k, v', d, rfl, rfl, hH, r, hk, rd, q⟩ := h;cases rx;cases rs with
 |cons r1 r2=>
  cases r1;cases r2 with
  |cons r3 r4=>
   cases r4;exact RK hu I hH r hk r3 rd q
theorem Sw(hu : X.A.units+1<A3)(ho : PE X o (Fx i))(hk : ST X CL W k fk)(he : SE X CL W e fe)(hbase : FE o "setdefault" X.env (eval o X.env) = eval o X.env)(hfew : ((BN cpos (At [k, e] X.env)).all (fun x => !x.1)&&(GX cpos (F3 [] X.env)).all (fun x => x.1.isSome)&&decide ([k, e].length+([] : Ab D6).length+(if ([] : Ab D6).isEmpty then 0 else 1)<30)) = Ac)(hline : (apos.endLine==cpos.line) = Ac)(hs : At [k, e] X.env = (Ad, eval k X.env)::At [e] X.env)(hs2 : At [e] X.env = [(Ad, eval e X.env)])(hpl : (BN cpos (At [e] X.env)).any (·.1) = Ad)(hsw : Cw (.Call (.Attribute o "setdefault" apos) [k, e] [] cpos) Af pos.line X.env = pure Ad):
  SS X CL W (.Expr (.Call (.Attribute o "setdefault" apos) [k, e] [] cpos) pos) (fun ρ => O.of ρ (Eb ρ i) fun xs => O.of ρ ((fk ρ).bind C0) fun j => O.of ρ (fe ρ) fun d => if B2 (xs.length+1) = Ac then .next (ρ.set i (Aa (.dic (if (xs.any fun p => p.1==j) = Ac then xs else DW xs j d), Ac))) else .bad) := fun Fz B pI s σ H D I ⟨ρ, x, p⟩ => by
 refine Lz (Mm PySem.F.slot_dict_setdefault PySem.F.type_dict_setdefault (We (A := Bp B ρ σ) (CL := CL) hu) ho (EL (hk (Bp B ρ σ)) (EL (he (Bp B ρ σ)) Gd hs2) hs) hbase hfew hline hs hpl) hsw pI s σ H D I ?_;dsimp only at p;cases e1 : Eb ρ i with
 |bad => rw[e1]at p;exact p.elim
 |exn z => exact(Lb e1).elim
 |ok ds=>
  rw[e1, O.of_ok]at p;have hi := LB e1;obtain⟨a, xs, q, ha, hh, r⟩ := x.good.owK hi;refine⟨_, q, ⟨a, xs, rfl, hh⟩, x.aok, ρ, x.good, ?_⟩;cases e3 : fk ρ with
  |bad => rw[e3]at p;exact p.elim
  |exn z => rw[e3]at p;exact fun H2 s2 => p H2 fun b o z => s2 _ _ (x.same b o z)
  |ok dk=>
   rw[e3, R.bind_ok]at p;intro y H1 s1 ry;cases e4 : C0 dk with
   |bad => rw[e4]at p;exact p.elim
   |exn z => exact(IX e4).elim
   |ok j=>
    rw[e4, O.of_ok]at p;have x1 := x.grow s1;refine⟨x1.aok, ρ, x1.good, BB.ex x1 p fun d v H' _ s2 rv x' q' => ?_⟩
    split at q'
    ·rename_i hz;have hz := Fq hz;obtain⟨ka, rfl, kr⟩ := Gw ry (Ji e4);exact⟨a, ka, xs, ds, j, v, d, rfl, rfl, s2 _ _ (s1 _ _ hh), Repk.kp (Kp.of (s1.trans s2)) _ r, kr.kp (Kp.of s2), rv, by omega, fun x2 es' r' => q' _ _ (x'.updO hi q (.dic r'))⟩
    ·exact q'.elim
theorem RA(hu : X.A.units+1<A3)(ho : PE X o (Fx i))(hk : ST X CL W k fk)(he : SE X CL W e fe)(hbase : FE o "get" X.env (eval o X.env) = eval o X.env)(hfew : ((BN cpos (At [k, e] X.env)).all (fun x => !x.1)&&(GX cpos (F3 [] X.env)).all (fun x => x.1.isSome)&&decide ([k, e].length+([] : Ab D6).length+(if ([] : Ab D6).isEmpty then 0 else 1)<30)) = Ac)(hline : (apos.endLine==cpos.line) = Ac)(hs : At [k, e] X.env = (Ad, eval k X.env)::At [e] X.env)(hs2 : At [e] X.env = [(Ad, eval e X.env)])(hpl : (BN cpos (At [e] X.env)).any (·.1) = Ad):
  SE X CL W (.Call (.Attribute o "get" apos) [k, e] [] cpos) (fun ρ => (Bf ρ i).bind fun d => (JQ d).bind fun kvs => (fk ρ).bind fun a => (C0 a).bind fun j => (fe ρ).bind fun y => .ok ((Dq kvs j).getD y)) := fun A pI s σ H Q I ⟨hA, ρ, gd, p⟩ => by
 refine Mm PySem.F.slot_dict_get PySem.F.type_dict_get (Tp (A := A) (CL := CL) hu) (Md (CL := CL) (W := W) ho A) (EL (hk A) (EL (he A) Gd hs2) hs) hbase hfew hline hs hpl pI s σ H Q I ⟨hA, ρ, gd, AQ.bind p fun d v H1 _ s1 r1 p1 => ?_⟩
 cases d with
 |dic kvs=>
  have p1 : AQ (fun H => Rep X.K CL H A) W H1 ((fk ρ).bind fun a => (C0 a).bind fun j => (fe ρ).bind fun y => .ok ((Dq kvs j).getD y)) Q := p1
  obtain⟨a, es, rfl, hH, rk⟩ := r1.dic_of;refine⟨⟨a, es, rfl, hH⟩, hA.same s1, ρ, gd.same s1, AQ.bind p1 fun dk y H2 _ s2 r2 p2 => ?_⟩
  cases e4 : C0 dk with
  |bad => rw[e4]at p2;exact p2.elim
  |exn z => exact(IX e4).elim
  |ok j=>
   rw[e4, R.bind_ok]at p2;obtain⟨ka, rfl, kr⟩ := Gw r2 (Ji e4);refine⟨(hA.same s1).same s2, ρ, (gd.same s1).same s2, AQ.bind p2 fun d v H3 _ s3 r3 p3 => ?_⟩
   exact⟨a, ka, es, kvs, j, v, d, rfl, rfl, s3 _ _ (s2 _ _ hH), Repk.kp (Kp.of (s2.trans s3)) _ rk, kr.kp (Kp.of s3), r3, fun x' r' => p3 x' H3 (As.refl H3) r'⟩
 |_ => exact p1.elim
end
section
variable{prog : AB}{w : AI}{A : AK}{E : Ah -> Ak -> Prop}{s : Ak}
end
noncomputable def GP(t : An)(h : AC)(j l : Ai)(i : Ag) : Prop := match t with
  |true => h.IsTupleIter j l i
  |false => h.IsListIter j l i
noncomputable def Ho(t : An)(h : AC)(l : Ai)(its : A6 Ah) : Prop := match t with
  |true => h.IsTuple l its
  |false => h.IsList l its
section
variable{prog : AB}{w : AI}{A : AK}{E : Ah -> Ak -> Prop}{s : Ak}
end
section
variable{prog : AB}{w : AI}{A : AK}{E : Ah -> Ak -> Prop}{s : Ak}
theorem Ho.push{its:A6 Ah}(z : Ho t h l its)(o : AA) : Ho t (h.push o) l its := by
 cases t with
 |true => exact PySem.Heap.IsTuple.at z fun _ e => Aw _ e
 |false => exact PySem.Heap.IsList.at z fun _ e => Aw _ e
end
theorem Ho.lt{its:A6 Ah}(z : Ho t h a its) : a<h.objs.size := by
 cases t with
 |true => obtain⟨o, e, _⟩ := z;exact Az e
 |false => obtain⟨o, e, _⟩ := z;exact Az e
section
variable{X : Cx}{CL : ClA}{W : XW}{pos p : AH}{a b : Ao}{fa fb : Rho -> R D}
end
theorem GP.keep{h2:AC}{l:Ag}(z : GP t h j l i)(k : ∀ o, h.get? j = Aa o -> h2.get? j = Aa o) : GP t h2 j l i := by
 cases t with
 |true => exact PySem.Heap.IsTupleIter.at z k
 |false => exact PySem.Heap.IsListIter.at z k
section
variable{prog : AB}{w : AI}{A : AK}{E : Ah -> Ak -> Prop}{s : Ak}
end
section
variable{X : Cx}{CL : ClA}{W : XW}{pos p : AH}{a : Ao}{fa : Rho -> R D}
end
noncomputable abbrev Np(h : AC)(z TI TO : Ai)(f0 f1 : Ah) : Prop := h.get? z = Aa { cls := .type "zip", dict := Af, data := .fields #[f0, f1, .bool Ad, .ref TI, .ref TO], slots := #[] }
noncomputable abbrev Nq(h : AC)(T : Ai)(a b c : Ah) : Prop := h.get? T = Aa { cls := .type "tuple", data := .seq #[a, b, c] }
section
variable{prog : AB}{w : AI}{A : AK}{E : Ah -> Ak -> Prop}{s : Ak}
noncomputable def Z3(t1 t2 t3 : An)(I l1 l2 l3 i : Ag)(h : AC) : Prop := Nq h (I+3) (.ref (I+0)) (.ref (I+1)) (.ref (I+2)) /\ GP t1 h (I+0) l1 i /\ GP t2 h (I+1) l2 i /\ GP t3 h (I+2) l3 i /\ (∃ a b c, Nq h (I+4) a b c) /\
 (Np h (I+5) (I+3) (I+4) .none (.bool Ad) \/ ∃(T1 : Ag)(f1 : An), Np h (I+5) (I+3) (I+4) (Eh T1) (.bool f1))
end
section
variable{prog : AB}{w : AI}{A : AK}{R : Go -> Ak -> Prop}
end
section
variable{prog : AB}{w : AI}{A : AK}{E : Ah -> Ak -> Prop}{s : Ak}
end
theorem Z3.ty{t1 t2 t3 : An}{I l1 l2 l3 i : Ag}(z : Z3 t1 t2 t3 I l1 l2 l3 i s.heap) : s.TypeIs (.ref (I+5)) "zip" := by
 obtain⟨_, _, _, _, _, hz|⟨_, _, hz⟩⟩ := z
 ·exact⟨_, hz, rfl⟩
 ·exact⟨_, hz, rfl⟩
theorem Z3.lt{t1 t2 t3 : An}{I l1 l2 l3 i : Ag}(z : Z3 t1 t2 t3 I l1 l2 l3 i s.heap) : I+5<s.heap.objs.size := by
 obtain⟨o, h, _⟩ := z.ty;exact Az h
section
variable{prog : AB}{w : AI}{A : AK}{E : Ah -> Ak -> Prop}{s : Ak}
end
section
variable{X : Cx}{CL : ClA}{W : XW}{pos p pos' p' : AH}{a b c : Ao}{fa fb fc : Rho -> R D}
end
section
variable{X : Cx}{CL : ClA}{W : XW}{pos p tpos : AH}{a b c : Ao}{fa fb fc : Rho -> R D}{x : Aj}
end
section
variable{X : Cx}{CL : ClA}{W : XW}{a : Ao}{fa : Rho -> R D}
end
section
variable{X : Cx}{CL : ClA}{W : XW}{o o' e : Ao}{fe : Rho -> R D}{i j : Ag}{apos cpos apos' cpos' pos : AH}
end
section
variable{X : Cx}{CL : ClA}{W : XW}
end
section
variable{X : Cx}
variable{CL : ClA}{W : XW}{pos p pos' p' : AH}{a b : Ao}{fa fb : Rho -> R D}
end
section
variable{X : Cx}{CL : ClA}{W : XW}{e o o' k l : Ao}{fe : Rho -> R Ov.D}{i ik il : Ag}{pos spos spos' tpos : AH}{kt : Ag}
end
section
variable{prog : AB}{w : AI}{A : AK}{E : Ah -> Ak -> Prop}{s : Ak}
end
section
variable{X : Cx}{pos : AH}{CL : ClA}
end
section
variable{X : Cx}{CL : ClA}{W : XW}
end
end Ov
namespace Ov
open PySem PySem.W PyProof.Rows
variable{p:A6 Ag}{m:Ag}
def Kr{α : Type}(lt : Ag -> Ag -> An)(n : Ag) : KasT α -> (α -> Prop) -> Prop
 |.ret a, Q => Q a
 |.ask i j k, Q => i<n /\ j<n /\ Kr lt n (k (lt i j)) Q
theorem Kr.mono{α : Type}{lt : Ag -> Ag -> An}{n : Ag}{Q Q' : α -> Prop} : ∀{t : KasT α}, Kr lt n t Q -> (∀ a, Q a -> Q' a) -> Kr lt n t Q'
 |.ret _, h, k => k _ h
 |.ask i j f, h, k => ⟨h.1, h.2.1, Kr.mono (t := f (lt i j)) h.2.2 k⟩
theorem Kr.bind{α β : Type}{lt : Ag -> Ag -> An}{n : Ag}{f : α -> KasT β}{Q : β -> Prop} : ∀{t : KasT α}, Kr lt n t (fun a => Kr lt n (f a) Q) -> Kr lt n (t.bind f) Q
 |.ret _, h => h
 |.ask i j k, h => ⟨h.1, h.2.1, Kr.bind (t := k (lt i j)) h.2.2⟩
structure Sto (lt : Ag -> Ag -> An) (n : Ag) : Prop where
 tr : ∀ i j k, i<n -> j<n -> k<n -> lt i j = Ac -> lt j k = Ac -> lt i k = Ac
 tot : ∀ i j, i<n -> j<n -> i ≠ j -> lt i j = Ad -> lt j i = Ac
 asy : ∀ i j, i<n -> j<n -> lt i j = Ac -> lt j i = Ad
noncomputable def at0(p : A6 Ag)(x : Ag) : Ag := p.getD x 0
structure Pm (n : Ag) (p : A6 Ag) : Prop where
 sz : p.size = n
 lt : ∀ x, x<n -> at0 p x<n
 inj : ∀ x y, x<n -> y<n -> at0 p x = at0 p y -> x = y
section
variable{lt : Ag -> Ag -> An}{n : Ag}
noncomputable def J3(lt : Ag -> Ag -> An)(p : A6 Ag)(m : Ag) : Prop := ∀ x y, x<y -> y<m -> lt (at0 p x) (at0 p y) = Ac
noncomputable def J8(lt : Ag -> Ag -> An)(p : A6 Ag)(m : Ag) : Prop := ∀ x y, x<y -> y<m -> lt (at0 p y) (at0 p x) = Ac
theorem J3.succ(S : Sto lt n)(hp : Pm n p)(h1 : 1 <= m)(hm : m<n)(h : J3 lt p m)(e : lt (at0 p (m-1)) (at0 p m) = Ac) : J3 lt p (m+1) := fun x y hxy hy => by
 by_cases hym : y<m
 ·exact h x y hxy hym
 ·have : y = m := by omega
  subst this;by_cases hx : x = y-1
  ·rw[hx];exact e
  ·exact S.tr _ _ _ (hp.lt _ (by omega)) (hp.lt _ (by omega)) (hp.lt _ hm) (h x (y-1) (by omega) (by omega)) e
theorem J8.succ(S : Sto lt n)(hp : Pm n p)(h1 : 1 <= m)(hm : m<n)(h : J8 lt p m)(e : lt (at0 p m) (at0 p (m-1)) = Ac) : J8 lt p (m+1) := fun x y hxy hy => by
 by_cases hym : y<m
 ·exact h x y hxy hym
 ·have : y = m := by omega
  subst this;by_cases hx : x = y-1
  ·rw[hx];exact e
  ·exact S.tr _ _ _ (hp.lt _ hm) (hp.lt _ (by omega)) (hp.lt _ (by omega)) e (h x (y-1) (by omega) (by omega))
end
section
variable{prog : AB}{w : AI}{A : AK}{E : Ah -> Ak -> Prop}{κ : SortKind}{it : A6 Keyed}
end
section
variable{lt : Ag -> Ag -> An}{n : Ag}
end
noncomputable def Jp(h : AC)(v : Ah)(r : Ab Ae) : Prop := ∃ a its, v = .ref a /\ Gn h a its /\ Fa its.toList r /\ r ≠ []
theorem Jp.kept{h h':AC}{v:Ah}{r:Ab Ae}(t : Jp h v r)(k : ∀ b o, h.get? b = Aa o -> h'.get? b = Aa o) : Jp h' v r := by
 obtain⟨a, its, e, ⟨o, ho, q⟩, i, n⟩ := t;exact⟨a, its, e, ⟨o, k _ _ ho, q⟩, i, n⟩
section
variable{prog : AB}{w : AI}{A : AK}{E : Ah -> Ak -> Prop}{s : Ak}
end
end Ov
namespace Ov
open PySem PySem.Spec PyProof.Rows L2
variable{ex fs:Ab Ai}{h h1 h2 h':AC}{P:AB}{w:AI}{H:Hp}{a T':Ai}{oe:AA}{vs:A6 Ah}{Q:FQ -> Ak -> Prop}{a0:Ah}{X:Cx}{pI:Ab (Ai × AA)}{σ:L2.St}{s:Ak}
section
variable{X : Cx}{CL : ClA}{W : XW}
end
section
variable{X : Cx}
variable{CL : ClA}{W : XW}{pos p pos' p' : AH}{a : Ao}{fa : Rho -> R D}
end
section
end
section
variable{X : Cx}
variable{CL : ClA}{W : XW}{o e : Ao}{fe : Rho -> R D}{i : Ag}{apos cpos pos : AH}
end
section
open PySem.AutoSeq1 (wpAny_loadPart')
end
section
variable{prog : AB}{w : AI}{A : AK}{R : Go -> Ak -> Prop}{I S T : Ai}{u v : Ah}{c : Ag}{P : Ag -> Ah -> Prop}{St : Ag -> AC -> Prop}{s : Ak}{r q : Ab Ae}
end
section
variable{X : Cx}{CL : ClA}{W : XW}
end
noncomputable def Ik(e T : Ai)(cls : Ah)(dx : Al Ai)(fl : Ah)(h : AC) : Prop := ∃ oe vs oT ts a0, h.get? e = Aa oe /\ oe.cls = cls /\ oe.dict = dx /\ vs[0]? = Aa a0 /\ oe.data = .fields vs /\ vs[1]? = Aa (.ref T) /\ T ≠ e /\ h.get? T = Aa oT /\ oT.data = .fields ts /\ ts[3]? = Aa fl
noncomputable abbrev Fly(e T : Ai)(cls : Ah)(dx : Al Ai)(h : AC) : Prop := Ik e T cls dx CM h
noncomputable def VZ(C : Ai)(dx : Al Ai)(t : Ai) : AA := {cls := .ref C, dict := dx, data := .fields #[.ref t, .none, .none, .none, .bool Ad, .none]}
structure Shift (ex fs : Ab Ai) (h h' : AC) : Prop where
 keep : ∀ b o, h.get? b = Aa o -> b ∉ ex -> b ∉ fs -> h'.get? b = Aa o
 slot : ∀ b o, h.get? b = Aa o -> b ∈ fs -> ∃ sl, h'.get? b = Aa {o with slots := sl}
theorem Shift.trans(a : Shift ex fs h h1)(b : Shift ex fs h1 h2) : Shift ex fs h h2:=
 ⟨fun c o q n m => b.keep c o (a.keep c o q n m) n m, fun c o q m => by
  obtain⟨sl, e1⟩ := a.slot c o q m;obtain⟨sl', e2⟩ := b.slot c _ e1 m;exact⟨sl', e2⟩⟩
theorem ObjOk.isThere : ∀(o : HO), L2.ObjOk P w H h a o -> ∃ ob, h.get? a = Aa ob
 |.lst _, x => by obtain⟨_, _, _, _, e⟩ := x;exact⟨_, e⟩
 |.tup _, x => by obtain⟨_, _, _, p⟩ := x;obtain⟨o, e, _⟩ := p;exact⟨_, e⟩
 |.dK _, x => by obtain⟨_, _, _, _, o, _, _, e, _⟩ := x;exact⟨_, e⟩
 |.dT _, x => by obtain⟨_, _, _, _, o, _, _, e, _⟩ := x;exact⟨_, e⟩
 |.set _ _, x => by obtain⟨o, _, _, _, e, _⟩ := x;exact⟨_, e⟩
 |.ins _ _ _, x => by obtain⟨_, _, _, e, _⟩ := x;exact⟨_, e⟩
 |.own _, x => x
 |.xd _, x => by obtain⟨_, ⟨_, _, _, e, _⟩, _⟩ := x;exact⟨_, e⟩
 |.met _ _, x => ⟨_, x⟩
 |.rng _ _, x => by obtain⟨_, _, _, e⟩ := x;exact⟨_, e⟩
 |.frz _ _, x => ⟨_, x.1⟩
 |.tbl _, x => ⟨_, x⟩
 |.ext _, x => x.2.1
theorem Le(x : HOk P w H h)(e : h.get? a = Af) : H a = Af := by
 cases q : H a with
 |none => rfl
 |some o=>
  obtain⟨ob, z⟩ := ObjOk.isThere o (x a o q);rw[e]at z;cases z
theorem HOk.shift(x : HOk P w H h)(sh : Shift ex fs h h')(h1 : ∀ b ∈ ex, H b = Af)(h2 : ∀ b ∈ fs, H b = Af) : HOk P w H h' := fun a o e=>
 (x a o e).stay (fun b u hb q => by
  have hs : ∃ v, H b = Aa v := by
   rcases hb with rfl|hb
   ·exact⟨_, e⟩
   ·exact⟨_, hb⟩
  obtain⟨v, hv⟩ := hs;exact sh.keep b u q (fun z => by rw[h1 b z]at hv;cases hv) (fun z => by rw[h2 b z]at hv;cases hv)) (fun _ q => q) fun _ _ q => q
theorem Un.shift{fs0 fs ex : Ab Ai}{H':Hp}{h0:AC}(u : Un fs0 [] H H' h0 h)(sh : Shift ex fs h h')(h1 : ∀ b ∈ ex, h0.get? b = Af)(h2 : ∀ b ∈ fs, b ∈ fs0 \/ h0.get? b = Af) : Un fs0 [] H H' h0 h' where
 keep := fun b o q n hb hx => sh.keep b o (u.keep b o q n hb hx) (fun z => by rw[h1 b z]at q;cases q) fun z => (h2 b z).elim hb fun e => by rw[e]at q;cases q
 slot := fun b o q n hb hx => by
  obtain⟨sl, e1⟩ := u.slot b o q n hb hx;by_cases hf : b ∈ fs
  ·obtain⟨sl', e2⟩ := sh.slot b _ e1 hf;exact⟨sl', e2⟩
  ·exact⟨sl, sh.keep b _ e1 (fun z => by rw[h1 b z]at q;cases q) hf⟩
 free := u.free
 there := fun b o q hx => by
  obtain⟨o', e1⟩ := u.there b o q hx;by_cases hf : b ∈ fs
  ·obtain⟨sl', e2⟩ := sh.slot b _ e1 hf;exact⟨_, e2⟩
  ·exact⟨o', sh.keep b _ e1 (fun z => by rw[h1 b z]at q;cases q) hf⟩
 tups := u.tups
 frzs := u.frzs
 tbls := u.tbls
theorem Sg(f : A6 Ah -> A6 Ah)(o : AA) : (Dz f o).dict = o.dict := by
 obtain⟨c, d, dt, sl⟩ := o;cases dt <;> rfl
section
variable{M : FX}{A : AK}{E : Ah -> Ak -> Prop}{s : Ak}{env : BF}{outer : Ab BF}{L e T : Ai}{cls : Ah}{dx : Al Ai}{base h : AC}
theorem KH{hd:Ah}{nx:An}(hfr : A.frames = Aa (env::outer))(hf : env.frame = Aa L)(ff : s.heap.FunFrames base (env::outer))(he : s.heap.get? e = Aa oe)(dt : oe.data = .fields vs)(hz : 1<vs.size)(hQ : ∀ h' T' oT ts, h'.get? e = Aa (Dz (·.setIfInBounds 1 (.ref T')) oe) -> T' ≠ e -> s.heap.get? T' = Af -> h'.get? T' = Aa oT -> oT.data = .fields ts -> ts[3]? = Aa (Eh L) -> Shift [e] (frs (env::outer)) s.heap h' -> Q () {s with heap := h'}):
  Ay M A (do
   let fr <-frameOf env
   let pl <-entryPlaceOf L nx
   let en <-Oe hd fr .none (Eh L) .none pl
   setField (.ref e) 1 en) Q E s := by
 have nf : e ∉ frs (env::outer) := fun z => by
  obtain⟨_, o, q, n⟩ := ff.mem z;rw[he]at q;cases q;exact n vs dt
 refine Aq (wpAny_frameOf_fun hfr ff hf fun k1 so => Aq (wpAny_entryPlaceOf fun pl ip => ?_))
 obtain⟨sz, sm, sl⟩ := so;have e1 : k1.get? e = Aa oe := (sm e nf).trans he;unfold Oe;unfold newFields;refine Aq (Cs ?_ (ip.sizeOk5 _ _ _ _ _));generalize hX : ({ cls := .type "traceback", dict := Af, data := .fields ([hd, .ref L, .none, Eh L, .none]++(if pl.isEmpty then D5 6 CM else pl)).toArray } : AA) = ob
 have od : ob.data = .fields ([hd, .ref L, .none, Eh L, .none]++(if pl.isEmpty then D5 6 CM else pl)).toArray := by rw[<-hX]
 have nl : k1.objs.size ≠ e := N4 (Az e1);have e2 := Aw ob e1;refine Fi e2 dt hz ?_;have up : ∀ b, b ≠ e -> ((k1.push ob).update e (Dz (·.setIfInBounds 1 (.ref k1.objs.size)))).get? b = (k1.push ob).get? b := fun b nb => BU _ _ (C5 nb)
 have lf : ob.isFreed = Ad := by rw[<-hX];rfl
 refine hQ _ k1.objs.size ob _ (Cj _ e2 (DK (CK dt _))) nl ?_ ((up _ nl).trans (A8 k1 lf)) od ?_ ⟨fun b o q n1 n2 => ?_, fun b o q hb => ?_⟩
 ·rw[sz];exact DT (AG _)
 ·simp
 ·have nb : b ≠ e := fun z => n1 (by rw[z];exact Au)
  rw[up b nb];exact Aw ob ((sm b n2).trans q)
 ·obtain⟨sl', q'⟩ := sl b o q;have nb : b ≠ e := fun z => nf (z ▸ hb)
  exact⟨sl', (up b nb).trans (Aw ob q')⟩
theorem KS{oT:AA}{ts:A6 Ah}{fl:Ah}(hc : oe.cls = cls)(hx : oe.dict = dx)(h0 : vs[0]? = Aa a0)(dt : oe.data = .fields vs)(hz : 1<vs.size)(g : h'.get? e = Aa (Dz (·.setIfInBounds 1 (.ref T')) oe))(ne : T' ≠ e)(gT : h'.get? T' = Aa oT)(dT : oT.data = .fields ts)(f3 : ts[3]? = Aa fl) : Ik e T' cls dx fl h':=
 ⟨_, _, oT, ts, a0, g, (Obj.cls_mapFields _ _).trans hc, (Sg _ _).trans hx, by rw[Array.getElem?_setIfInBounds_ne (by decide)];exact h0, CK dt _, by simp[hz], ne, gT, dT, f3⟩
theorem GA{i:Ag}{v:Ah}(q : vs[i]? = Aa v) : i<vs.size := (Array.getElem?_eq_some_iff.mp q).1
theorem PH(hfr : A.frames = Aa (env::outer))(hf : env.frame = Aa L)(ff : s.heap.FunFrames base (env::outer))(fl : Fly e T cls dx s.heap)(hQ : ∀ h' T', Ik e T' cls dx (Eh L) h' -> Shift [e, T] (frs (env::outer)) s.heap h' -> s.heap.get? T' = Af -> Q () {s with heap := h'}) : Ay M A (FO (.ref e) env) Q E s := by
 obtain⟨oe, vs, oT, ts, a0, he, hc, hx, h0, dt, h1, ne, hT, dT, h3⟩ := fl;have z3 := GA h3;unfold FO;simp only[hf];refine Aq (C8 he dt h1 ?_);rw[AE (by simp : (EZ T != CM) = Ac)]
 refine Aq (C8 hT dT h3 ?_);rw[AF (by simp[Eh] : ¬ (CM==Eh L) = Ac)]
 refine Aq (Fi hT dT z3 ?_);have up : ∀ b, b ≠ T -> (s.heap.update T (Dz (·.setIfInBounds 3 CM))).get? b = s.heap.get? b := fun b nb => BU _ _ (C5 nb)
 have rcd : ∀ b o, s.heap.get? b = Aa o -> (∀ us, o.data ≠ .fields us) -> b ≠ T := fun b o q n z => by
  rw[z, hT]at q;cases q;exact n ts dT
 refine KH (base := base) hfr hf (ff.of_keeps fun b o q n => ⟨o, (up b (rcd b o q n)).trans q, rfl⟩) ((up e (C5 ne)).trans he) dt (GA h1) fun h' T' oT' ts' g nT gn gT dT' f3 sh => ?_
 have T0 : s.heap.get? T' = Af := by
  by_cases z : T' = T
  ·rw[z]at gn;rw[Cj _ hT (DK (CK dT _))]at gn;cases gn
  ·rw[<-up T' z];exact gn
 refine hQ h' T' (KS hc hx h0 dt (GA h1) g nT gT dT' f3) ⟨fun b o q n1 n2 => ?_, fun b o q hb => ?_⟩ T0
 ·simp only[AM, NW, or_false, Hr]at n1;exact sh.keep b o ((up b n1.2).trans q) (by simp[n1.1]) n2
 ·obtain⟨_, o', q', n⟩ := ff.mem hb;rw[q]at q';cases q';exact sh.slot b o ((up b (rcd b o q n)).trans q) hb
theorem Lr{fv:Ah}(fl : Ik e T cls dx fv s.heap)(hQ : ∀ h', Fly e T cls dx h' -> (∀ b o, b ≠ T -> s.heap.get? b = Aa o -> h'.get? b = Aa o) -> Q () {s with heap := h'}) : Ay M A (setFlight (.ref e) Af) Q E s := by
 obtain⟨oe, vs, oT, ts, a0, he, hc, hx, h0, dt, h1, ne, hT, dT, h3⟩ := fl;have z3 := GA h3;unfold setFlight;refine Aq (C8 he dt h1 ?_);rw[AE (by simp : (EZ T != CM) = Ac)]
 refine Fi hT dT z3 (hQ _ ?_ fun b o nb q => (BU _ _ (C5 nb)).trans q)
 exact⟨oe, vs, _, _, a0, (BU _ _ ne).trans he, hc, hx, h0, dt, h1, ne, Cj _ hT (DK (CK dT _)), CK dT _, by simp[z3]⟩
theorem KC(ff : s.heap.FunFrames base (env::outer))(sh : Shift ex (frs (env::outer)) s.heap h1)(hT : s.heap.get? T' = Af)(k : ∀ b o, b ≠ T' -> h1.get? b = Aa o -> h2.get? b = Aa o) : Shift ex (frs (env::outer)) s.heap h2:=
 ⟨fun b o q n1 n2 => k b o (fun z => by rw[z, hT]at q;cases q) (sh.keep b o q n1 n2), fun b o q hb => let ⟨sl, q'⟩ := sh.slot b o q hb;⟨sl, k b _ (fun z => by rw[z, hT]at q;cases q) q'⟩⟩
theorem O8(hfr : A.frames = Aa (env::outer))(hf : env.frame = Aa L)(ff : s.heap.FunFrames base (env::outer))(fl : Fly e T cls dx s.heap)(hQ : ∀ h' T', Fly e T' cls dx h' -> Shift [e, T] (frs (env::outer)) s.heap h' -> (T' = T \/ s.heap.get? T' = Af) -> Q () {s with heap := h'}) : Ay M A (leaving env (.ref e)) Q E s := by
 unfold leaving;exact Aq (PH hfr hf ff fl fun h1 T' f1 sh hT => Lr f1 fun h2 f2 k => hQ h2 T' f2 (KC ff sh hT k) (.inr hT))
theorem OW(hfr : A.frames = Aa (env::outer))(hf : env.frame = Aa L)(ff : s.heap.FunFrames base (env::outer))(he : s.heap.get? e = Aa oe)(hc : oe.cls = cls)(hx : oe.dict = dx)(dt : oe.data = .fields vs)(h0 : vs[0]? = Aa a0)(h1 : vs[1]? = Aa .none)(hQ : ∀ h' T', Fly e T' cls dx h' -> Shift [e] (frs (env::outer)) s.heap h' -> s.heap.get? T' = Af -> Q () {s with heap := h'}) : Ay M A (leaving env (.ref e)) Q E s := by
 unfold leaving FO;simp only[hf];refine Aq (Aq (C8 he dt h1 ?_));rw[AF (by decide)]
 exact KH (base := base) hfr hf ff he dt (GA h1) fun h' T' oT ts g nT gn gT dT f3 sh => Lr (KS hc hx h0 dt (GA h1) g nT gT dT f3) fun h2 f2 k => hQ h2 T' f2 (KC ff sh gn k) gn
end
noncomputable def CXR(P : AB)(w : AI) : CXT := fun outer H s E ev s' => ∃ e T cls dx H', ev = .ref e /\ s'.os = s.os /\ Dl s'.gens /\ Un (frs outer) [] H H' s.heap s'.heap /\ HOk P w H' s'.heap /\ Fly e T cls dx s'.heap /\ H' e = Af /\ H' T = Af /\ s.heap.get? e = Af /\ s.heap.get? T = Af /\ E cls dx H'
noncomputable def J4(X : Cx)(CL : ClA)(W : XW) : Prop := ∀ pI σ H s e C dx t x, Inv X pI σ H s -> (X.ex = [] -> X.s₀.heap.get? e = Af) -> H e = Af -> s.heap.get? e = Aa (VZ C dx t) -> ER X.K CL H (.ref C) dx x -> W x H -> X.xe (.ref e) s
section
variable{P : AB}{w : AI}{K : Fg}{mg : Aj -> Al Ah}{base : AC}{N : Ab Aj}{qual : Aj}{scope : Bw}{f : Ai}{cd : Ah}{A : AK}{outer : Ab BF}{s : Ak}{H : Hp}{E : XK}{CL : ClA}{W : XW}
theorem LI(I : Inv X pI σ H s) : ∀ b ∈ frs X.stack, b ∈ X.fs \/ X.s₀.heap.get? b = Af := fun b hb => by
 rcases AM.mp (I.stkSub b hb) with z|z
 ·exact .inr (by rw[z];exact DT I.ok.above)
 ·exact .inl z
theorem HG{b:Ai}(I : Inv X pI σ H s)(hx : X.ex = [])(h : s.heap.get? b = Af) : X.s₀.heap.get? b = Af := by
 cases q : X.s₀.heap.get? b with
 |none => rfl
 |some o=>
  obtain⟨o', z⟩ := I.base.there b o q (by rw[hx];simp)
  rw[h]at z;cases z
theorem V4(hE : ∀ x cls dx H', W x H' -> ER K CL H' cls dx x -> E cls dx H') : ∀ A', GI (CXR P w) (Ec (CXR P w) P w K mg base N qual scope f cd A outer s H E) (EKW K CL A' W) := by
 intro A' pI σ H1 s1 ev s2 I h;obtain⟨e, T, cls, dx, H', rfl, os, bare, un, hok, fl, he, hT, ne, nT, x, xr, wx⟩ := h;have I' := I.call' (s' := s2) (ch := []) os un hok bare (fun b z => absurd z (by simp))
 have hb0 : Un (frs outer) [] H H' s.heap s2.heap := I'.base;show Ay (model P w) (A.deeper (C2 qual scope s.heap.objs.size f cd)) (leaving (C2 qual scope s.heap.objs.size f cd) (.ref e)) _ _ s2;refine O8 (L := s.heap.objs.size) I'.ok.frames rfl I'.stack fl fun h' T' fl' sh hT' => ?_
 have e0 : s.heap.get? e = Af := HG I rfl ne;have T0 : s.heap.get? T = Af := HG I rfl nT;refine⟨e, T', cls, dx, H', rfl, I'.os, bare, Un.shift hb0 sh ?_ (LI I'), HOk.shift hok sh ?_ I'.stkFree, fl', he, ?_, e0, ?_, ?_⟩
 ·intro b hb;rcases AM.mp hb with rfl|hb
  ·exact e0
  ·rw[A9.mp hb];exact T0
 ·intro b hb;rcases AM.mp hb with rfl|hb
  ·exact he
  ·rw[A9.mp hb];exact hT
 ·rcases hT' with rfl|z
  ·exact hT
  ·exact Le hok z
 ·rcases hT' with rfl|z
  ·exact T0
  ·exact HG I' rfl z
 ·exact hE x cls dx H' wx xr
theorem rzR(hE : ∀ x cls dx H', W x H' -> ER K CL H' cls dx x -> E cls dx H') : J4 (Ec (CXR P w) P w K mg base N qual scope f cd A outer s H E) CL W := by
 intro pI σ H1 s1 e C dx t x I e0 he ge xr hw;have hb0 : Un (frs outer) [] H H1 s.heap s1.heap := I.base;have e0' : s.heap.get? e = Af := e0 rfl;show Ay (model P w) (A.deeper (C2 qual scope s.heap.objs.size f cd)) (leaving (C2 qual scope s.heap.objs.size f cd) (.ref e)) _ _ s1;refine OW (cls := .ref C) (dx := dx) (L := s.heap.objs.size) I.ok.frames rfl I.stack ge rfl rfl rfl (a0 := .ref t) rfl rfl fun h' T' fl' sh hT' => ?_
 have one : ∀{Z : Ai -> Prop}, Z e -> ∀ b ∈ [e], Z b := fun {Z} z b hb => by rw[A9.mp hb];exact z
 exact⟨e, T', .ref C, dx, H1, rfl, I.os, I.bare, Un.shift hb0 sh (one e0') (LI I), HOk.shift I.hok sh (one (Z := fun b => H1 b = Af) he) I.stkFree, fl', he, Le I.hok hT', e0', HG I rfl hT', hE x _ dx H1 hw xr⟩
theorem ownR : DL (model P w) (Ec (CXR P w) P w K mg base N qual scope f cd A outer s H E).A (Ec (CXR P w) P w K mg base N qual scope f cd A outer s H E).env (Ec (CXR P w) P w K mg base N qual scope f cd A outer s H E).xe := PassesOwn.leaving
end
noncomputable def veB : Ab Ah := [.type "ValueError", .type "Exception", .type "BaseException", .type "object"]
noncomputable def JW(K : Fg)(C : Ai)(v : Al Ah) : An := match K.lookup C with
  | some ⟨.type "type", _, .cls c, z⟩ => (match c.mro, z.toList with
    |.ref c0::tl, [_, _, _, _, Aa (.builtin nw), _] => c0==C&&(nw == "ValueError.__new__" && (!c.hasDel&&(PySem.W.tailIn K veB tl&&(PySem.W.nsOkIn K c.ns&&BM K c.ns "__init__" == Aa v))))
    | _, _ => Ad)
  |_ => Ad
structure XcOk (K : Fg) (C : Ai) : Prop where
 exc : ∃ v, JW K C v = Ac
 ga : CU K (.ref C) "__getattribute__" = Aa (Aa (.builtin "BaseException.__getattribute__"))
 gt : CU K (.ref C) "__getattr__" = Aa Af
 cl : CU K (.ref C) "__class__" = Aa (Aa (.builtin "object.__class__"))
 ob : PySem.W.mroIn K C (.type "object") = Aa Ac
 be : Oz K (.ref C) (.type "BaseException") = Aa Ac
 cs : (PySem.W.clsIn K C).isSome = Ac
 ve : Oy K (.ref C) (.type "ValueError") = Aa Ac
section
variable{prog : AB}{w : AI}{A : AK}{E : Ah -> Ak -> Prop}{h : AC}{g : A6 DB}{d : Fk}{t : Ag}{os : Fb}{K : Fg}{e C : Ai}
end
noncomputable def MJ(X : Cx)(pI : Ab (Ai × AA))(e : Ai) : Prop := e ≠ X.env.locals /\ (∀ x c, X.env.cells.lookup x = Aa c -> c ≠ e) /\ (∀ p ∈ X.pn++pI, p.1 ≠ e) /\ X.s₀.heap.get? e = Af
section
variable{X : Cx}{pI : Ab (Ai × AA)}{σ : L2.St}{H : Hp}{s : Ak}{e : Ai}
end
noncomputable def Cx.hot(X : Cx)(e : Ai) : Cx := {X with A := X.A.mark (Aa (.ref e)), calm := Ad, xe := fun _ _ => AW}
section
variable{X : Cx}{pI : Ab (Ai × AA)}{σ : L2.St}{H : Hp}{s : Ak}{e : Ai}
end
noncomputable def Wz(X : Cx)(CL : ClA)(pI : Ab (Ai × AA))(σ : L2.St)(H : Hp)(y : Ex)(Xw : Ah -> Ak -> Prop) : Prop:=
 ∀ s' H' e T cls dx, Inv X pI σ H' s' -> As H H' -> Fly e T cls dx s'.heap -> H' e = Af -> H' T = Af -> MJ X pI e -> MJ X pI T -> ER X.K CL H' cls dx y -> Xw (.ref e) s'
noncomputable def STB(X : Cx)(CL : ClA)(body : Ab Bb)(f : Rho -> O) : Prop := ∀ Fz B pI s σ H D ρ (Xw : Ah -> Ak -> Prop), DL (model X.prog X.w) X.A X.env Xw -> Inv X pI σ H s -> Sx X.K CL Fz B ρ σ H ->
  (match f ρ with
   |.exn y ρ' => ρ' = ρ -> Wz X CL pI σ H y Xw
   | o => BB X.K CL Fz B (fun _ _ => AW) o D) -> (∀ y ρ', f ρ = .exn y ρ' -> ρ' = ρ) -> Ay (model X.prog X.w) X.A (execs body X.env) (SP X pI D) Xw s
noncomputable def Cx.pw(X : Cx)(pI : Ab (Ai × AA))(Xw : Ah -> Ak -> Prop) : Cx := {X with pn := X.pn++pI, xe := Xw}
section
variable{X : Cx}{pI pins' : Ab (Ai × AA)}{σ : L2.St}{H : Hp}{s : Ak}{Xw : Ah -> Ak -> Prop}
end
section
variable{X : Cx}{CL : ClA}{k n : Ag}{fr : An}{f : Ai}{fd : Bu}{ps : Ab Aj}{F : Ab D -> R D}{x : Aj}{p pos pos2 : AH}{e : Ao}{es : Ab Ao}{fs ft : Rho -> R (Ab D)}{sh : Rho -> An}
variable(hx0 : X.ex = [])(G : FnOk X.prog X.w X.K X.mg X.base (CXR X.prog X.w) k f fd ps (spD X.K CL n fr F))(hr : Room k X.A)(hg : Gl X x)(hm : X.mg x = Aa (.ref f))
    (hk : Cd X.K (.ref f) = Ac) (hb : EU X.K fd ps []) (hst : ∀ ρ, sh ρ = Ac -> ft ρ = fs ρ) (hn : ∀ ρ ds, ft ρ = .ok ds -> ds.length = n) (hnx : ∀ ρ y, ft ρ ≠ .exn y)
    (hdb : (x==("__debug__" : Aj)) = Ad) (he : At (e::es) X.env = (Ad, eval e X.env)::At es X.env) (hpl : ∀ pos, (BN pos (At es X.env)).any (·.1) = Ad)
    (ha : ∀ pI Xw, DL (model X.prog X.w) X.A X.env Xw -> SA (Cx.pw X pI Xw) CL (fun _ _ => AW) (e::es) fs /\ SAT (Cx.pw X pI Xw) CL (fun _ _ => AW) (e::es) ft)
include hx0 G hr hg hm hk hb hst hn hnx hdb he hpl ha
end
section
variable{X : Cx}{CL : ClA}{W : XW}
noncomputable def Uc(K : Fg)(CL : ClA)(up : Ag -> Ab Ag)(c' : Ag)(C' : Ai) : Prop := ∀ c C, CL c = Aa C -> Oy K (.ref C) (.ref C') = Aa ((up c).contains c')
variable{a : Ao}{fa : Rho -> R D}{up : Ag -> Ab Ag}{x : Aj}{p p2 pos : AH}
end
end Ov
section
namespace Ov
open PySem PySem.Spec PyProof.Rows L2
end Ov
end
namespace Ov
open PySem PySem.Spec PyProof.Rows L2
variable{α:Type}{x qual n x0 x1:Aj}{X:Cx}{CL:ClA}{fr:An}{pos p:AH}{xs ys:Ab Ao}{env:BF}{y:Ao}{l m id:Ag}{scope:Bw}{ts:Ab Ag}{H:Hp}{as:Es}{vs:Ab V}{fd:Bu}{h:AC}
noncomputable abbrev W5 : CXT := fun _ _ _ _ _ _ => AW
structure HotOk (P : AB) (w : AI) (K : Fg) (mg : Aj -> Al Ah) (base : AC) (k : Ag) (f : Ai) (fd : Bu) (ps : Ab Aj) (sp : Sp) : Prop where
 len : ∀ vs H Q E, sp vs H Q E -> vs.length = ps.length
 run : ∀(A : AK)(ev : Ai)(outer : Ab BF)(s : Ak)(H : Hp)(args : Args)(us : Ab Ah)(vs : Ab V)(Q : VK)(E : XK), Room k A -> Env0 P w K mg base (A.mark (Aa (.ref ev))) outer s H -> Ez s fd args (ps.zip us) -> AN vs us -> sp vs H Q E ->
  D8 (model P w) (A.mark (Aa (.ref ev))) (.call (.ref f) args) (CR W5 outer P w H s Q E) s
noncomputable def spH(K : Fg)(CL : ClA)(n : Ag)(fr : An)(F : Ab D -> R D) : Sp := fun vs H Q _ => ∃(ds : Ab D)(A : Ai -> Prop), vs.length = n /\ AOk H A /\ Reps K CL H A vs ds /\ (match F ds with
  |.ok d => ∀ v H', As H H' -> CW K CL fr H A H' v d -> Q v H'
  |.exn _ => AW
  | .bad => AW)
section
variable{X : Cx}{CL : ClA}{ev : Ai}
end
section
variable{M : FX}{A : AK}{E : Ah -> Ak -> Prop}{s : Ak}{env : BF}{nm q : Aj}{C N : Ai}{bs bm bmB : Ab Ah}{hdct : An}{sn : Ab Aj}{sub : Ab Ah}{ab : An}{col : Al An}{dd : Al Ai}{k0 k1 k2 k3 k5 : Al Ah}{B newId initId : Ca}
end
section
variable{prog : AB}{w : AI}{A : AK}{E : Ah -> Ak -> Prop}{h : AC}{g : A6 DB}{d : Fk}{t : Ag}{os : Fb}
variable{nm q : Aj}{C N fI : Ai}{bs bm bmB : Ab Ah}{hdct : An}{sn : Ab Aj}{sub : Ab Ah}{ab : An}{col : Al An}{dd : Al Ai}{k0 k1 k2 k3 k5 : Al Ah}{B newId initId : Ca}{mN : Aj -> Al Ah}{rest : Ab Ah}{oI : AA}
end
section
variable{prog : AB}{w : AI}{A : AK}{E : Ah -> Ak -> Prop}{s : Ak}{env : BF}
variable{nm q : Aj}{C N fI : Ai}{bs bm bmB : Ab Ah}{hdct : An}{sn : Ab Aj}{sub : Ab Ah}{ab : An}{col : Al An}{dd : Al Ai}{k0 k1 k2 k3 k5 : Al Ah}{B newId initId : Ca}{mN : Aj -> Al Ah}
end
section
variable{prog : AB}{w : AI}{A : AK}{E : Ah -> Ak -> Prop}{h : AC}{g : A6 DB}{d : Fk}{tk0 : Ag}{os : Fb}
variable{nm q : Aj}{C N e t : Ai}{dx : Al Ai}{bs bm bmB : Ab Ah}{hdct : An}{sn : Ab Aj}{sub : Ab Ah}{ab : An}{col : Al An}{dd : Al Ai}{k0 k1 k2 k3 k5 : Al Ah}{B newId initId : Ca}
end
section
variable{X : Cx}{CL : ClA}{pI : Ab (Ai × AA)}{σ : L2.St}{H : Hp}{s : Ak}
end
section
variable{X : Cx}{CL : ClA}
end
section
variable{X : Cx}{CL : ClA}{C : Ai}{nm q : Aj}{N : Ai}{bs bm : Ab Ah}{hdct : An}{sn : Ab Aj}{sub : Ab Ah}{ab : An}{col : Al An}{dd : Al Ai}{k0 k1 k2 k3 k5 : Al Ah}
end
section
variable{prog : AB}{w : AI}{A : AK}{E : Ah -> Ak -> Prop}{h : AC}{g : A6 DB}{d : Fk}{tk0 : Ag}{os : Fb}{K : Fg}
variable{nm q : Aj}{C N e t : Ai}{bs bm bmB : Ab Ah}{sn : Ab Aj}{sub : Ab Ah}{ab : An}{col : Al An}{dd : Al Ai}{k0 k1 k2 k3 k5 : Al Ah}{B newId sa owner : Ca}
end
section
variable{prog : AB}{w : AI}{A : AK}{E : Ah -> Ak -> Prop}{h : AC}{g : A6 DB}{d : Fk}{tk0 : Ag}{os : Fb}{K : Fg}
variable{nm q : Aj}{C N e t : Ai}{bs bm bmB : Ab Ah}{sn : Ab Aj}{sub : Ab Ah}{ab : An}{col : Al An}{dd : Al Ai}{k0 k1 k2 k3 k5 : Al Ah}{B newId sa owner : Ca}
end
section
variable{X : Cx}{pI : Ab (Ai × AA)}{σ : L2.St}{H : Hp}{s : Ak}{e : Ai}
end
section
variable{X : Cx}{C : Ai}{nm q : Aj}{N : Ai}{bs bm : Ab Ah}{sn : Ab Aj}{sub : Ab Ah}{ab : An}{col : Al An}{dd : Al Ai}{k0 k1 k2 k3 k5 : Al Ah}
end
noncomputable def MO(K : Fg)(C : Ai) : An := match K.lookup C with
  |some ⟨_, _, .cls c, _⟩ => c.hasDict
  |_ => Ad
noncomputable def WB(g par f z : Aj)(k : Ag)(np apos p1 p2 p3 p4 p5 cpos p6 p7 p8 p9 p10 : AH) : Ab Bb:=
 [.Expr (.Call (.Attribute (.Name g np) "__init__" apos) [.Name "self" p1, .JoinedStr [.FormattedValue (.Name par p2) (-1) Af p3, .Constant (.str z) k p4] p5] [] cpos) p6, .Assign [.Attribute (.Name "self" p7) f p8] (.Name par p9) p10]
inductive XIn (K : Fg) (mg : Aj -> Al Ah) (C : Ai) (f : Aj) : Prop
 |mk {fI OV : Ai} {x qual g par z : Aj} {st : Bb} {fd : Bu} {k : Ag} {np apos p1 p2 p3 p4 p5 cpos p6 p7 p8 p9 p10 : AH} (xc : JW K C (Aa (.ref fI)) = Ac) (dc : MO K C = Ac) (fn : Fun K x qual st fI fd) (ty : PySem.W.typeIn K (.ref fI) = Aa (.type "function"))
  (S : FnScope ["self", par] ["self", par] (Dk st)) (l1 : (Dk st).names.lookup ("self" : Aj) = Aa .local) (l2 : (Dk st).names.lookup par = Aa .local) (bd : EU K fd ["self", par] []) (body : EM st = WB g par f z k np apos p1 p2 p3 p4 p5 cpos p6 p7 p8 p9 p10)
  (gl : (Dk st).names.lookup g = Aa .globalImplicit) (mo : mg g = Aa (.ref OV)) (dg : (g==("__debug__" : Aj)) = Ad) (dp : (par==("__debug__" : Aj)) = Ad) (dq : (par==("__classdict__" : Aj)) = Ad)
  (s1 : PySem.W.specialIn K (.ref OV) "__getattribute__" = Aa (Aa (.builtin "type.__getattribute__"))) (s2 : PySem.W.readsIn K OV (.type "type") = Ac) (s3 : PySem.W.findCls K (.ref OV) (.type "type") "__init__" = Aa (.val (.builtin "ValueError.__init__")))
  (hl : (apos.endLine==cpos.line) = Ac) (hz : z.length <= 1000) (hf : CU K (.ref C) f = Aa Af) (hs : CU K (.ref C) "__setattr__" = Aa (Aa (.builtin "object.__setattr__"))) : XIn K mg C f
section
variable{P : AB}{w : AI}{K : Fg}{mg : Aj -> Al Ah}{base : AC}{CL : ClA}{C fI OV : Ai}{x qual g par z f : Aj}{st : Bb}{fd : Bu}{k : Ag}{np apos p1 p2 p3 p4 p5 cpos p6 p7 p8 p9 p10 : AH}
variable{nm q : Aj}{N : Ai}{bs bm : Ab Ah}{sn : Ab Aj}{sub : Ab Ah}{ab : An}{col : Al An}{dd : Al Ai}{k0 k1 k2 k3 k5 : Al Ah}
end
section
variable{X : Cx}{CL : ClA}{W : XW}
noncomputable def Wj(xn : Ag -> Ab D -> R Ex)(c : Ag)(f : Aj)(ds : Ab D) : Prop := ∃ d n, ds = [d] /\ xfD (n+1) d = Ac /\ n <= 1 /\ xn c ds = .ok ⟨c, [(f, d)]⟩
end
section
variable{prog : AB}{w : AI}{A : AK}{E : Ah -> Ak -> Prop}{h : AC}{g : A6 DB}{d : Fk}{t : Ag}{os : Fb}{K : Fg}{e C dx : Ai}{f : Aj}{mA : Aj -> Al Ah}{v : Ah}
end
section
variable{X : Cx}{CL : ClA}{W : XW}{K : Fg}{H : Hp}{A : Ai -> Prop}
end
structure Tc where
 sc : Bw
 N : Ab Aj
 /-- a def's name, its number, how many parameters it has -/
 fns : Ab (Aj × Ag × Ag)
 /-- built-in names that the text does not hide -/
 bl : Ab Aj
 /-- exceptions' classes by their names: those that are raised, all that are asked for -/
 rzs : Ab (Aj × Ag)
 exs : Ab (Aj × Ag)
 /-- the text's constants -/
 gls : Ab (Aj × Ag)
noncomputable def JY(T : Tc)(x : Aj) : An := match T.sc.names.lookup x with
  |some .local => Ac
  |some .cell => Ac
  |some .free => Ac
  |_ => Ad
noncomputable def Gm(T : Tc)(x : Aj) : An := match T.sc.names.lookup x with
  |some .local => Ac
  |some .cell => Ac
  |_ => Ad
noncomputable def glB(T : Tc)(x : Aj) : An := T.sc.names.lookup x==Aa .globalImplicit
noncomputable def M5 : Ao -> Al (Aj × AH)
 |.Name x p => Aa (x, p)
 |_ => Af
theorem Qx{e : Ao}{t : Aj × AH}(h : M5 e = Aa t) : e = .Name t.1 t.2 := by
 cases e with
 |Name x p => cases h;rfl
 |_ => exact nomatch (show Af = Aa t from h)
noncomputable def M7 : Ao -> Al (Ao × Ab Ao × AH)
  | .Call f as ks p => (match ks with
    |[] => Aa (f, as, p)
    | _ => Af)
  |_ => Af
theorem Qz{e : Ao}{t : Ao × Ab Ao × AH}(h : M7 e = Aa t) : e = .Call t.1 t.2.1 [] t.2.2 := by
 cases e with
 |Call f as ks p=>
  cases ks with
  |nil => cases h;rfl
  |cons => exact nomatch (show Af = Aa t from h)
 |_ => exact nomatch (show Af = Aa t from h)
noncomputable def MP{α : Type} : Ab α -> Al (α × α)
 |[a, b] => Aa (a, b)
 |_ => Af
theorem Qw{l : Ab α}{t : α × α}(h : MP l = Aa t) : l = [t.1, t.2] := by
 cases l with
 |nil => exact nomatch (show Af = Aa t from h)
 |cons a l=>
  cases l with
  |nil => exact nomatch (show Af = Aa t from h)
  |cons b l=>
   cases l with
   |nil => cases h;rfl
   |cons => exact nomatch (show Af = Aa t from h)
noncomputable def M8 : Ao -> Al (Ao × Aj × AH)
 |.Attribute o m p => Aa (o, m, p)
 |_ => Af
theorem QA{e : Ao}{t : Ao × Aj × AH}(h : M8 e = Aa t) : e = .Attribute t.1 t.2.1 t.2.2 := by
 cases e with
 |Attribute o m p => cases h;rfl
 |_ => exact nomatch (show Af = Aa t from h)
noncomputable def xMt(e : Ao) : Al (Aj × Aj × Ao × Ao) := (M7 e).bind fun c => (M8 c.1).bind fun a => (M5 a.1).bind fun x => (MP c.2.1).bind fun ab => if a.2.2.endLine = c.2.2.line then Aa (x.1, a.2.1, ab.1, ab.2) else Af
theorem Ma{e y v : Ao}{m:Aj}(h : xMt e = Aa (x, m, y, v)) : ∃ p ap cp, e = .Call (.Attribute (.Name x p) m ap) [y, v] [] cp /\ ap.endLine = cp.line := by
 obtain⟨c, e1, h⟩ := CD.mp h;obtain⟨a, e2, h⟩ := CD.mp h;obtain⟨x', e3, h⟩ := CD.mp h;obtain⟨ab, e4, h⟩ := CD.mp h;by_cases hl : a.2.2.endLine = c.2.2.line
 ·rw[AE hl]at h;cases h;rw[Qz e1, QA e2, Qx e3, Qw e4];exact⟨_, _, _, rfl, hl⟩
 ·rw[AF hl]at h;cases h
noncomputable def M6 : Ao -> An
 |.Dict ks vs _ => ks.isEmpty&&vs.isEmpty
 |_ => Ad
theorem Qy{e : Ao}(h : M6 e = Ac) : ∃ p, e = .Dict [] [] p := by
 cases e with
 |Dict ks vs p=>
  cases ks with
  |nil=>
   cases vs with
   |nil => exact⟨p, rfl⟩
   |cons => exact nomatch (show Ad = Ac from h)
  |cons => exact nomatch (show Ad = Ac from h)
 |_ => exact nomatch (show Ad = Ac from h)
noncomputable def Hm(x : Aj) : An := !(x==("__debug__" : Aj)) && !(x==("__classdict__" : Aj)) && !(x==("__name__" : Aj))
noncomputable def isV(T : Tc)(x : Aj)(i : Ag) : An := T.N[i]? == Aa x&&JY T x&&Hm x
noncomputable def isB(T : Tc)(x : Aj) : An := T.bl.contains x&&glB T x&&Hm x
noncomputable def CZ : Ao -> An
 |.Starred _ _ => Ad
 |_ => Ac
noncomputable def HK : Ao -> An
 |.Slice _ _ _ _ => Ad
 |_ => Ac
noncomputable def Ia : Ao -> An
 |.Set _ _ _ => Ad
 |_ => Ac
noncomputable def GD : Ao -> An
 |.ListComp _ _ _ _ => Ad
 |.SetComp _ _ _ _ => Ad
 |.DictComp _ _ _ _ _ => Ad
 |_ => Ac
noncomputable def Nb(tu : An) : Ao -> An
 |.Tuple .. => tu
 |.Name .. => !tu
 |_ => Ad
noncomputable def VR : Ao -> An
 |.Tuple _ _ _ => Ac
 |_ => Ad
noncomputable def Jf : Ao -> An
 |.UnaryOp _ _ _ => Ad
 |.BoolOp _ _ _ => Ad
 |.IfExp _ _ _ _ => Ad
 |.Compare _ _ _ _ => Ad
 |_ => Ac
noncomputable def JG : Ki -> Al Aj
 |.int => Aa "int"
 |.bool => Aa "bool"
 |.str => Aa "str"
 |.list => Aa "list"
 |.tuple => Aa "tuple"
 |_ => Af
noncomputable def JH : BI -> Al Aj
 |.len => Aa "len"
 |.abs => Af
 |.max => Aa "max"
 |.min => Aa "min"
 |.int => Af
 |.list => Aa "list"
 |.tuple => Aa "tuple"
 |.all => Aa "all"
 |.any => Af
 |.sum => Af
 |.sorted => Af
 |.tmin => Af
 |.tmax => Af
 |_ => Af
noncomputable def JI(o scope : Bw) : Bw := {scope with names := scope.names.map fun (n, k) => if (k==.free&&o.kind==.function&&o.names.lookup n==Aa .cell) then (n, .cell) else (n, k)}
noncomputable def Hj : Ab Ag -> Ab Aj -> Ab Aj -> Ab Aj
 |t::ts, x::xs, N => Hj ts xs ((N.map fun y => if y==x then N.getD t x else y).set t x)
 |_, _, N => N
noncomputable def Hc : Ab Aj -> An
 |[] => Ac
 |x::xs => !xs.contains x&&Hc xs
noncomputable def Ii(T : Tc)(scope : Bw)(ts : Ab Ag)(N' : Ab Aj) : An:=
  scope.kind==.function&&scope.names.all (fun y => scope.names.lookup y.1==Aa y.2) &&
  scope.names.all (fun y => y.2 != .free||T.sc.names.lookup y.1==Aa .cell||T.sc.names.lookup y.1==Aa .free) &&
  N'.length==T.N.length&&Hc N' &&
  (B7 N'.length).all fun i => ts.contains i||(match N'[i]? with
    |some x => (scope.names.lookup x != Aa .local&&scope.names.lookup x != Aa .cell)&&(scope.names.lookup x != Aa .free||T.N[i]? == Aa x)
    | none => Ac)
noncomputable def EK : Ab Ao -> Al (Ab Aj)
 |[] => Aa []
 |.Name x _::r => (EK r).map (x :: ·)
 |_ => Af
noncomputable def tgN(ys : Ab Ao) : Ab Aj := (EK ys).getD []
noncomputable def tgO(T : Tc)(scope : Bw)(t : Ag)(x : Aj) : An := T.N[t]? == Aa x&&(T.sc.names.lookup x==Aa .local||(T.sc.names.lookup x==Aa .cell&&scope.names.lookup x==Aa .cell))
noncomputable def tgC(T : Tc) : Ab Ag -> Ab Aj -> An
 |[], [] => Ac
 |t::ts, x::xs => T.N[t]? == Aa x&&Gm T x&&tgC T ts xs
 |_, _ => Ad
noncomputable def Tc.blk(T : Tc)(scope : Bw)(ts : Ab Ag)(xs : Ab Aj) : Tc := {T with sc := JI T.sc scope, N := Hj ts xs T.N}
noncomputable def Nm : Ao -> Al (Ao × Ao × AH)
  | .Compare x ops ys p => (match ops with
    | [.Lt] => (match ys with
      |[y] => Aa (x, y, p)
      | _ => Af)
    | _ => Af)
  |_ => Af
noncomputable def JL(_ : Es) : Al (E × E) := Af
noncomputable def Na(_ : Tc)(_ : Tc -> Ao -> E -> An)(_ : Ao)(_ : Ab CP)(_ : Ab Ao)(_ : BI)(_ : Es) : An := Ad
noncomputable def Ni(T : Tc)(e : Ao)(b : BI)(as : Es) : An := Ad
noncomputable def L6 : Ao -> Al (Aj × AH)
 |.Name x p => Aa (x, p)
 |_ => Af
noncomputable def L7 : Ao -> Al (Ao × Ab Ao × Ab D6 × AH)
 |.Call f as ks p => Aa (f, as, ks, p)
 |_ => Af
noncomputable def Ww : Ao -> Al (Ab Ao × Ag × AH)
 |.Tuple es k p => Aa (es, k, p)
 |_ => Af
noncomputable def one{α : Type} : Ab α -> Al α
 |[a] => Aa a
 |_ => Af
noncomputable def Nj(e : Ao) : Al (Aj × Aj × Ab Ao) := (L7 e).bind fun c => (L6 c.1).bind fun g => (one c.2.1).bind fun a => (L7 a).bind fun d => (L6 d.1).bind fun h => if (c.2.2.1.isEmpty&&d.2.2.1.isEmpty) = Ac then Aa (g.1, h.1, d.2.1) else Af
noncomputable def M3(e : Ao) : Al (Aj × Aj × Ao × Ao) := match Nj e with
  | some (g, h, bs) => (match bs with
    |[x, y] => Aa (g, h, x, y)
    | _ => Af)
  |none => Af
noncomputable def JP(_ : Es) : Al (E × E) := Af
noncomputable def M2(e : Ao) : Al (Aj × Aj × Ao) := match Nj e with
  | some (g, h, bs) => (match bs with
    |[x] => Aa (g, h, x)
    | _ => Af)
  |none => Af
noncomputable def JN(_ : Es) : Al E := Af
noncomputable def two(e : Ao) : Al (Ao × Ao) := (Ww e).bind fun t => match t.1 with
  |[a, b] => Aa (a, b)
  |_ => Af
noncomputable def Kb(_ : Es) : Al E := Af
noncomputable def MU(_ : Ao) : Al Ao := Af
noncomputable def Nc : Ao -> Al (Ao × Ae)
  | .Subscript v s _ => (match s with
    | .Slice lo hi st _ => (match lo with
      | some (.Constant (.int k) _ _) => (match hi with
        | none => (match st with
          |some (.Constant (.int j) _ _) => if j = 2 then Aa (v, k) else Af
          | _ => Af)
        | some _ => Af)
      | _ => Af)
    | _ => Af)
  |_ => Af
noncomputable def JM(_ : Es) : Al (E × Ae) := Af
mutual
noncomputable def AS : Ag -> Tc -> Ao -> E -> An
  |0, _, _, _ => Ad
  |n+1, T, e, c => match c with
    |.non => (match e with | .Constant .none _ _ => Ac|_ => Ad)
    |.bl b => (match e with | .Constant (.bool b') _ _ => b' == b|_ => Ad)
    |.int i => (match e with | .Constant (.int j) _ _ => decide (j = i)|_ => Ad)
    |.str x => (match e with | .Constant (.str y) _ _ => decide (y = x)|_ => Ad)
    |.var i => (match e with | .Name x _ => isV T x i|_ => Ad)
    |.glob g => Ad
    |.bin op a b => (match e with | .BinOp x op' y _ => decide (op' = op)&&AS n T x a&&AS n T y b|_ => Ad)
    |.un op a => Ad
    |.no a => (match e with | .UnaryOp .Not x _ => AS n T x a|_ => Ad)
    |.and es => (match e with | .BoolOp .And xs _ => chkEs n T xs es && !xs.isEmpty|_ => Ad)
    |.or es => (match e with | .BoolOp .Or xs _ => chkEs n T xs es && !xs.isEmpty|_ => Ad)
    |.cmp op a b => (match e with | .Compare x [op'] [y] _ => decide (op' = op) && !behindInMarks op y&&AS n T x a&&AS n T y b|_ => Ad)
    |.cmp2 op1 op2 a b c => (match e with | .Compare x [o1, o2] [y, z] _ => decide (o1 = op1)&&decide (o2 = op2) && !lastMarks [op1, op2] [y, z]&&AS n T x a&&AS n T y b&&AS n T z c|_ => Ad)
    |.ite c a b => Ad
    |.call f as => (match e with | .Call (.Name g _) (x::xs) [] _ => (T.fns.any fun p => p.1==g&&p.2.1==f&&p.2.2==xs.length+1)&&decide (xs.length<900)&&glB T g&&Hm g&&chkEs n T (x::xs) as|_ => Ad)
    |.bi b as => (match e with | .Call (.Name g _) (x::xs) [] _ => JH b==Aa g&&isB T g&&chkEs n T (x::xs) as|_ => Ad)||Ni T e b as||(match JP as with|some (a, c) => (match M3 e with|some (g, h, x, y) => decide (b = .list)&&g==("list" : Aj)&&h==("range" : Aj)&&isB T g&&isB T h&&CZ x&&CZ y&&AS n T x a&&AS n T y c|none => Ad)|none => Ad)||(match JM as with|some (a, k) => (match Nc e with|some (x, j) => decide (b = .stp)&&decide (j = k)&&decide (0 <= k)&&AS n T x a|none => Ad)|none => Ad)||(match JN as with|some a => (match M2 e with|some (g, h, x) => decide (b = .lset)&&g==("len" : Aj)&&h==("set" : Aj)&&isB T g&&isB T h&&CZ x&&AS n T x a|none => Ad)|none => Ad)||(match JL as with|some (a, c) => (match Nm e with|some (x, y, _) => decide (b = .tlt) && !behindInMarks .Lt y&&AS n T x a&&AS n T y c|none => Ad)|none => Ad)||(match Kb as with|some a => (match MU e with|some x => decide (b = .rvs)&&AS n T x a|none => Ad)|none => Ad)
    |.isi a ks => (match ks with | [k] => (match e with | .Call (.Name g _) [x, .Name t _] [] _ => g==("isinstance" : Aj)&&isB T g&&JG k==Aa t&&isB T t&&CZ x&&AS n T x a|_ => Ad)|_ => Ad)
    |.idx a i => (match e with | .Subscript x y _ => HK y&&AS n T x a&&AS n T y i|_ => Ad)
    |.sl a lo hi => (match e with | .Subscript x (.Slice l h Af _) _ => AS n T x a&&chkO n T l lo&&chkO n T h hi|_ => Ad)
    |.tup es => (match e with | .Tuple xs _ _ => chkEs n T xs es&&decide (xs.length <= 1000)|_ => Ad)
    |.lst es => (match e with | .List xs _ => chkEs n T xs es&&decide (xs.length <= 1000)|_ => Ad)
    |.comp elt t it c => (match e with | .ListComp x [⟨.Name y _, iter, ifs, 0⟩] scope _ => chkI n T Ad iter it&&Ia iter&&Ii T scope [t] (Hj [t] [y] T.N)&&tgO (T.blk scope [t] [y]) scope t y&&chkT n (T.blk scope [t] [y]) ifs c&&AS n (T.blk scope [t] [y]) x elt|_ => Ad)
    |.compT elt ts it c => Ad
    |.tupI _ => Ad
    |.dget i a c => (match xMt e with|some (x, m, y, z) => m==("get" : Aj)&&isV T x i&&CZ y&&CZ z&&AS n T y a&&AS n T z c|none => Ad)
    |.fld _ _ => Ad
noncomputable def Gj : Ag -> Tc -> Ao -> E -> An
  |0, _, _, _ => Ad
  |n+1, T, e, c => match e with
    |.UnaryOp .Not x _ => (match c with | .no a => Gj n T x a|_ => Ad)
    |.BoolOp .And xs _ => (match c with | .and es => chkBs n T xs es && !xs.isEmpty|_ => Ad)
    |.BoolOp .Or xs _ => (match c with | .or es => chkBs n T xs es && !xs.isEmpty|_ => Ad)
    | .Compare x ops ys _ => (match c with
      |.cmp op a b => (match ops, ys with | [op'], [y] => decide (op' = op) && !behindInMarks op y&&AS n T x a&&AS n T y b|_, _ => Ad)
      |.cmp2 op1 op2 a b c => (match ops, ys with | [o1, o2], [y, z] => decide (o1 = op1)&&decide (o2 = op2) && !lastMarks [op1, op2] [y, z]&&AS n T x a&&AS n T y b&&AS n T z c|_, _ => Ad)
      |.bi b as => Na T (AS n) x ops ys b as
      | _ => Ad)
    |e => Jf e&&AS n T e c
noncomputable def chkBs : Ag -> Tc -> Ab Ao -> Es -> An
  |0, _, _, _ => Ad
  |n+1, T, xs, es => match xs, es with
    |[], .nil => Ac
    |x::xs, .cons e es => Gj n T x e&&chkBs n T xs es
    |_, _ => Ad
noncomputable def chkEs : Ag -> Tc -> Ab Ao -> Es -> An
  |0, _, _, _ => Ad
  |n+1, T, xs, es => match xs, es with
    |[], .nil => Ac
    |x::xs, .cons e es => CZ x&&AS n T x e&&chkEs n T xs es
    |_, _ => Ad
noncomputable def chkO : Ag -> Tc -> Al Ao -> E -> An
  |0, _, _, _ => Ad
  |n+1, T, x, e => match x with
    |none => (match e with | .non => Ac|_ => Ad)
    |some x => (match e with | .non => Ad|e => AS n T x e)
noncomputable def chkT : Ag -> Tc -> Ab Ao -> E -> An
  |0, _, _, _ => Ad
  |n+1, T, xs, e => match xs with
    |[] => (match e with | .bl Ac => Ac|_ => Ad)
    |[x] => Gj n T x e
    |_ => Ad
noncomputable def chkI : Ag -> Tc -> An -> Ao -> I -> An
  |0, _, _, _, _ => Ad
  |n+1, T, tu, e, i => match i with
    |.e a => AS n T e a
    |.rng a => (match e with | .Call (.Name g _) [x] [] _ => g==("range" : Aj)&&isB T g&&CZ x&&AS n T x a|_ => Ad)
    |.enm a => Ad
    |.zip a b => Ad
    |.rng2 a b => (match e with | .Call (.Name g _) [x, y] [] _ => g==("range" : Aj)&&isB T g&&CZ x&&CZ y&&AS n T x a&&AS n T y b|_ => Ad)
    |.zip3 a b c => Ad
end
noncomputable def MK(_ : Ag)(_ : Tc)(_ : Ag)(_ : Ab Bb)(_ : Ss) : An := Ad
mutual
noncomputable def DG : Ag -> Tc -> Bb -> S -> An
  |0, _, _, _ => Ad
  |n+1, T, st, s => match s with
    |.pass => Ad
    |.brk => Ad
    |.cont => Ad
    |.asg i _ e => (match st with | .Assign [.Name x _] v _ => T.N[i]? == Aa x&&Gm T x&&AS n T v e|_ => Ad)
    |.asgT ts e => Ad
    |.expr e => (match st with | .Expr v _ => GD v&&AS n T v e|_ => Ad)
    |.ret e => (match st with | .Return (Aa v) _ => AS n T v e|_ => Ad)
    |.retN => Ad
    |.ife c a b => (match st with | .If t xs ys _ => Gj n T t c&&chkSs n T xs a&&chkSs n T ys b|_ => Ad)
    |.fors t it body => (match st with | .For (.Name x _) iter xs [] _ => tgC T [t] [x]&&Ia iter&&chkI n T Ad iter it&&chkSs n T xs body|_ => Ad)
    |.forT ts it body => (match st with | .For (.Tuple ys _ _) iter xs [] _ => (EK ys).isSome&&tgC T ts (tgN ys)&&Ia iter&&chkI n T Ac iter it&&chkSs n T xs body|_ => Ad)
    |.whl c body => Ad
    |.rais c as => !(T.rzs.any fun p => p.2==c)
    |.tryx _ _ _ _ => Ad
    |.try2 _ _ _ _ _ _ _ => Ad
    |.app i e => Ad
    |.ext i e => Ad
    |.rev i => Ad
    |.clr i => Ad
    |.put i k e => (match st with | .Assign [.Subscript (.Name x _) y _] v _ => isV T x i&&HK y&&AS n T y k&&AS n T v e|_ => Ad)
    |.swp _ _ _ => Ad
    |.apop _ _ _ => Ad
    |.ins _ _ _ => Ad
    |.dnw i => (match st with | .Assign [.Name x _] v _ => T.N[i]? == Aa x&&Gm T x&&M6 v|_ => Ad)
    |.dput i k e => (match st with | .Assign [.Subscript (.Name x _) y _] v _ => isV T x i&&HK y&&AS n T y k&&AS n T v e|_ => Ad)
    |.dsd i k e => (match st with | .Expr w _ => (match xMt w with|some (x, m, y, v) => m==("setdefault" : Aj)&&isV T x i&&CZ y&&CZ v&&AS n T y k&&AS n T v e|none => Ad)|_ => Ad)
    |.rel _ => Ad
noncomputable def chkSs : Ag -> Tc -> Ab Bb -> Ss -> An
  |0, _, _, _ => Ad
  |n+1, T, sts, ss => match ss with
    |.nil => sts.isEmpty
    |.cons (.rel i) ss => chkSs n T sts ss
    | .cons s ss => (match sts with
      |st::r => DG n T st s&&chkSs n T r ss
      | [] => Ad)
end
noncomputable def EW(fuel : Ag)(hot : An)(fns : Ab (Aj × Ag × Ag))(bl : Ab Aj)(rzs exs gls : Ab (Aj × Ag))(ps N : Ab Aj)(st : Bb)(df : Df) : An:=
  let sc := Dk st
  sc.kind==.function && !sc.isCoroutine && !sc.isGenerator&&Hc N&&N.take ps.length==ps&&ps.all (fun x => sc.names.lookup x==Aa .local||sc.names.lookup x==Aa .cell)&&sc.names.all (fun y => y.2 != .free)&&N.length==df.n &&
  (match hot with
  |true => MK fuel ⟨sc, N, fns, bl, rzs, exs, gls⟩ 0 (EM st) df.body
  | false => chkSs fuel ⟨sc, N, fns, bl, rzs, exs, gls⟩ (EM st) df.body)
structure XT (up : Ag -> Ab Ag) (xn : Ag -> Ab D -> R Ex) (CL : ClA) (rzs exs : Ab (Aj × Ag)) (K : Fg) (mg : Aj -> Al Ah) : Prop where
 xc : ∀ c C, CL c = Aa C -> XcOk K C
 rz : ∀ p ∈ rzs, ∃ C, CL p.2 = Aa C /\ mg p.1 = Aa (.ref C)
 ex : ∀ p ∈ exs, ∃ C, mg p.1 = Aa (.ref C) /\ Uc K CL up p.2 C /\ ∀ c D, CL c = Aa D -> Oz K (.ref D) (.ref C) = Aa ((up c).contains p.2)
 made : ∀ c C ds, CL c = Aa C -> xn c ds = .bad \/ (xn c ds = .ok ⟨c, []⟩ /\ JW K C Af = Ac) \/ ∃ f, XIn K mg C f /\ Wj xn c f ds
 nf : ∀ c C, CL c = Aa C -> ∀ f : Aj, (f==("triple" : Aj)||f==("points" : Aj)) = Ac -> MO K C = Ac /\ CU K (.ref C) f = Aa Af
 xb : ∀ c, (∀ p ∈ rzs, p.2 ≠ c) -> ∀ ds, xn c ds = .bad
noncomputable def J7(K : Fg)(mg : Aj -> Al Ah)(CL : ClA)(x : Aj)(d : D) : Prop := ∃ u v, mg x = Aa u /\ AZ v u /\ ∀ H A, Rep K CL H A v d
structure VX (Γ : Gam) (CL : ClA) (k : Ag) (W : XW) (T : Tc) (X : Cx) : Prop where
 sc : X.env.scope = T.sc
 kd : T.sc.kind = .function
 N : X.N = T.N
 nd : T.N.Nodup
 calm : X.calm = Ac
 room : Room k X.A
 bl : ∀ x, x ∈ T.bl -> X.mg x = Af
 fn : ∀ p ∈ T.fns, ∃ f fd ps, X.mg p.1 = Aa (.ref f) /\ Cd X.K (.ref f) = Ac /\ EU X.K fd ps [] /\ ps.length = p.2.2%1000 /\ (p.2.2<1000 -> FnOk X.prog X.w X.K X.mg X.base (CXR X.prog X.w) k f fd ps (spD X.K CL (p.2.2%1000) (Γ.fr p.2.1) (Γ.F p.2.1))) /\ (1000 <= p.2.2 -> HotOk X.prog X.w X.K X.mg X.base k f fd ps (spH X.K CL (p.2.2%1000) (Γ.fr p.2.1) (Γ.F p.2.1)))
 own : DL (model X.prog X.w) X.A X.env X.xe
 px : ∀ A, GI (CXR X.prog X.w) X (EKW X.K CL A W)
 rz : J4 X CL W
 xt : XT Γ.up Γ.xn CL T.rzs T.exs X.K X.mg
 gl : ∀ p ∈ T.gls, J7 X.K X.mg CL p.1 (Γ.G p.2)
theorem Mn : ∀ A, GI (CXR X.prog X.w) X (EKW X.K CL A W0) := fun A pI σ H s ev s' I h => by
 obtain⟨e, T, cls, dx, H', _, _, _, _, _, _, _, _, _, _, x, _, w⟩ := h;exact w.elim
theorem MT : J4 X CL W0 := fun _ _ _ _ _ _ _ _ _ _ _ _ _ _ z => z.elim
noncomputable def Rf{α : Type}(g f : Rho -> R α) : Prop := ∀ ρ, g ρ = .bad \/ g ρ = f ρ
section
variable{X : Cx}{CL : ClA}{W : XW}{a : Ao}{f g : Rho -> R D}
theorem SE.ref(h : SE X CL W a f)(r : Rf g f) : SE X CL W a g := fun A => PE.weak (h A) fun σ H Q ⟨hA, ρ, q, p⟩ => ⟨hA, ρ, q, by
 rcases r ρ with e|e
 ·rw[e]at p;exact p.elim
 ·rw[e]at p;exact p⟩
theorem SB.ref{f g : Rho -> R An}(h : SB X CL W a f)(r : Rf g f) : SB X CL W a g := fun A => PT.weak (h A) fun σ H Q ⟨hA, ρ, q, p⟩ => ⟨hA, ρ, q, by
 rcases r ρ with e|e
 ·rw[e]at p;exact p.elim
 ·rw[e]at p;exact p⟩
theorem SW.ref{f g : Rho -> R An}(h : SW X CL W a f)(r : Rf g f) : SW X CL W a g := fun A => PW.weak (h A) fun σ H Q ⟨hA, ρ, q, p⟩ => ⟨hA, ρ, q, by
 rcases r ρ with e|e
 ·rw[e]at p;exact p.elim
 ·rw[e]at p;exact p⟩
theorem SC.ref(h : SC X CL W fr a f)(r : Rf g f) : SC X CL W fr a g := fun A => PE.weak (h A) fun σ H Q ⟨hA, ρ, q, p⟩ => ⟨hA, ρ, q, by
 rcases r ρ with e|e
 ·rw[e]at p;exact p.elim
 ·rw[e]at p;exact p⟩
theorem SS.ref{st : Bb}{f g : Rho -> O}(h : SS X CL W st f)(r : ∀ ρ, g ρ = .bad \/ g ρ = f ρ) : SS X CL W st g := fun Fz B => PS.weak (h Fz B) fun D σ H ⟨ρ, x, p⟩ => ⟨ρ, x, by
 rcases r ρ with e|e
 ·rw[e]at p;exact p.elim
 ·rw[e]at p;exact p⟩
end
theorem HC : ∀{l : Ab Aj}, Hc l = Ac -> l.Nodup
 |[], _ => NV
 |x::xs, h => by
  unfold Hc at h;simp only[Am, Bh, NG, decide_eq_false_iff_not]at h;exact List.nodup_cons.mpr ⟨h.1, HC h.2⟩
section
variable{T : Tc}{X : Cx}{Γ : Gam}{CL : ClA}{k : Ag}{W : XW}
theorem QB(h : JY T x = Ac) : Vis T.sc x := by
 unfold JY at h;split at h
 ·exact .inl (by assumption)
 ·exact .inr (.inl (by assumption))
 ·exact .inr (.inr (by assumption))
 ·cases h
theorem HM(h : Gm T x = Ac) : Loc T.sc x := by
 unfold Gm at h;split at h
 ·exact .inl (by assumption)
 ·exact .inr (by assumption)
 ·cases h
theorem Jj(h : Hm x = Ac) : (x==("__debug__" : Aj)) = Ad /\ (x==("__classdict__" : Aj)) = Ad /\ x ≠ "__name__" := by
 unfold Hm at h;simp only[Am, Bh]at h;exact⟨h.1.1, h.1.2, fun e => by subst e;exact absurd h.2 (by simp)⟩
theorem F8{i : Ag}(v : VX Γ CL k W T X)(h : isV T x i = Ac) : PE X (.Name x pos) (Fx i) := by
 unfold isV at h;simp only[Am, A7]at h;obtain⟨h2, h3, _⟩ := Jj h.2;exact TZ (by rw[v.N];exact h.1.1) (by rw[v.sc];exact QB h.1.2) h2 h3
theorem He(v : VX Γ CL k W T X)(h : isB T x = Ac) : Gl X x /\ X.mg x = Af /\ x ≠ "__name__" /\ (x==("__debug__" : Aj)) = Ad := by
 unfold isB glB at h;simp only[Am, A7, NG, A2]at h;obtain⟨h2, h3, h4⟩ := Jj h.2;exact⟨by show X.env.scope.names.lookup x = _;rw[v.sc];exact h.1.2, v.bl x h.1.1, h4, h2⟩
theorem Co{x:Ao}(h : CZ x = Ac) : At (x::xs) env = (Ad, eval x env)::At xs env := by
 cases x <;> first|rfl|cases h
theorem Ql(h : HK y = Ac) : Js y := by
 intro o i;cases y <;> first|rfl|cases h
theorem JA{e : Ao}(h : Ia e = Ac) : ∀ x, BO e env x = pure x := by
 intro x;cases e <;> first|rfl|cases h
theorem Lv{e : Ao}{t : Al Ao}(h : GD e = Ac) : Cw e t l env = pure Ad := by
 cases e <;> first|rfl|cases h
theorem Qt{e : Ao}(h : Jf e = Ac) : ∀ whole, Fd e env whole = (do let v <-whole;Fh e.pos;holding [v] (truthy v)) := by
 intro whole;cases e <;> first|rfl|cases h
theorem O5(v : VX Γ CL k W T X)(scope : Bw) : relabel scope X.env = JI T.sc scope := by
 unfold relabel JI;have : ∀ n, X.env.kindOf n = T.sc.names.lookup n := fun n => by show X.env.scope.names.lookup n = _;rw[v.sc]
 simp only[this, v.sc]
theorem L4{N':Ab Aj}(v : VX Γ CL k W T X)(h : Ii T scope ts N' = Ac) : BlockOk X scope N' ts /\ N'.Nodup /\ scope.kind = .function := by
 unfold Ii at h;simp only[Am, A7, NC, CH, Gs, ne_eq]at h;obtain⟨⟨⟨⟨⟨h1, h2⟩, h4⟩, h5⟩, h6⟩, h7⟩ := h;have at7 : ∀ i x, N'[i]? = Aa x -> i ∈ ts \/ ((scope.names.lookup x ≠ Aa .local /\ scope.names.lookup x ≠ Aa .cell) /\ (scope.names.lookup x ≠ Aa .free \/ T.N[i]? = Aa x)) := fun i x e => by
  have hi := (AT.mp e).1;have := h7 i (Cc.mpr hi);rcases this with z|z
  ·exact .inl (by simpa using z)
  ·rw[e]at z;simp only[Am, Gs, ne_eq, CH, A7]at z;exact .inr z
 refine⟨⟨h1, h2, fun y hy hl => by rw[h2 y hy, hl], fun y hy hf => ?_, by rw[v.N];exact h5, fun i x e hf hn => ?_, fun i x e hl => ?_⟩, HC h6, h1⟩
 ·rw[v.sc];rcases h4 y hy with (z|z)|z
  ·exact absurd hf z
  ·exact .inl z
  ·exact .inr z
 ·rw[v.N];rcases at7 i x e with z|⟨_, z⟩
  ·exact absurd z hn
  ·exact z.resolve_left fun q => q hf
 ·rcases at7 i x e with z|⟨z, _⟩
  ·exact z
  ·exact hl.elim (fun q => absurd q z.1) (fun q => absurd q z.2)
theorem VX.blk{xs:Ab Aj}{cl:Ab (Aj × Ai)}{C:Ai}{s : Ak}{fp:Ab Ai}(v : VX Γ CL k W T X)(h : Ii T scope ts (Hj ts xs T.N) = Ac) : VX Γ CL k W0 (T.blk scope ts xs) (cxC X scope cl C (Hj ts xs T.N) s H fp) := by
 obtain⟨_, h2, h3⟩ := L4 v h;exact⟨O5 v scope, h3, rfl, h2, v.calm, v.room, v.bl, v.fn, PassesOwn.never, Mn, MT, v.xt, v.gl⟩
theorem Qp{t : Ag}(v : VX Γ CL k W T X)(hfn : scope.names.lookup x = Aa .cell -> X.fn x = Ac)(h : tgO T scope t x = Ac) : PG X (.Name x pos) (Er t) := by
 unfold tgO at h;simp only[Am, CH, A7]at h;rcases h with ⟨h1, h2|h2⟩
 ·exact HI (by rw[v.N];exact v.nd) (by rw[v.N];exact h1) (by rw[v.sc];exact .inl h2) (.inr (by rw[v.sc];exact h2))
 ·exact HI (by rw[v.N];exact v.nd) (by rw[v.N];exact h1) (by rw[v.sc];exact .inr h2.1) (.inl (hfn h2.2))
theorem Ku{r:Ab Ao}{zs:Ab Aj}(h : EK (y::r) = Aa zs) : ∃ x p ws, y = .Name x p /\ EK r = Aa ws /\ zs = x::ws := by
 cases y with
 |Name x p=>
  have h' : (EK r).map (x :: ·) = Aa zs := h;cases e : EK r with
  |none => rw[e]at h';cases h'
  |some ws => rw[e]at h';cases h';exact⟨x, p, ws, rfl, rfl, rfl⟩
 |_ => cases h
theorem KU(x : Aj)(p : AH)(r : Ab Ao)(env : BF) : BW (.Name x p::r) env = (Ad, assign (.Name x p) env)::BW r env := rfl
theorem OR : ∀(ys : Ab Ao)(zs : Ab Aj), EK ys = Aa zs -> (BW ys env).length = ys.length /\ (BW ys env).findIdx? (·.1) = Af /\ (BW ys env).map (·.2) = ys.map fun y => assign y env := by
 intro ys
 induction ys with
 |nil => intro _ _;exact⟨rfl, rfl, rfl⟩
 |cons y r ih=>
  intro zs h;obtain⟨x, p, ws, rfl, e, rfl⟩ := Ku h;obtain⟨h1, h2, h3⟩ := ih ws e;rw[KU];refine⟨?_, ?_, ?_⟩
  ·rw[DA, DA, h1]
  ·rw[List.findIdx?_cons, h2];simp
  ·rw[Bj, Bj, h3]
end
noncomputable def Es.len : Es -> Ag
 |.nil => 0
 |.cons _ es => es.len+1
theorem Jm(Γ : Gam)(ρ : Rho) : ∀(es : Es)(ds : Ab D), evA Γ ρ es = .ok ds -> ds.length = es.len
 |.nil, ds, h => by cases h;rfl
 |.cons e es, ds, h => by
  obtain⟨x, h1, h2⟩ := F5 (Lj Γ ρ e es ▸ h);obtain⟨xs, h3, h4⟩ := F5 h2;cases h4;exact congrArg (· + 1) (Jm Γ ρ es xs h3)
theorem Ls(Γ : Gam)(ρ : Rho) : ∀(es : Es)(ds : Ab D), evB Γ ρ es = .ok ds -> ds.length = es.len
 |.nil, ds, h => by cases h;rfl
 |.cons e es, ds, h => by
  obtain⟨x, h1, h2⟩ := F5 (Li Γ ρ e es ▸ h);obtain⟨xs, h3, h4⟩ := F5 h2;cases h4;exact congrArg (· + 1) (Ls Γ ρ es xs h3)
theorem Mb(Γ : Gam)(ρ : Rho)(e : E)(h : shE ρ e = Ac) : top ρ e (evE Γ ρ e) = evE Γ ρ e := by
 cases e with
 |var i=>
  show Bf ρ i = Ds ρ i;have h' : shV ρ i = Ac := h;unfold shV at h';unfold Bf Ds;cases q : ρ[i]? with
  |none => rfl
  |some x=>
   cases x with
   |none => rfl
   |some y=>
    obtain⟨d, o⟩ := y;cases o with
    |true => rw[q]at h';cases h'
    |false => rfl
 |_ => rfl
theorem L1(Γ : Gam)(ρ : Rho) : ∀(es : Es), FW ρ es = Ac -> evB Γ ρ es = evA Γ ρ es
 |.nil, _ => rfl
 |.cons e es, h => by
  simp only[Pv, Am]at h;rw[Lj, Li, Mb Γ ρ e h.1, L1 Γ ρ es h.2]
theorem Jx(Γ : Gam)(c : E) : Rf (fun ρ => evE Γ ρ c) (fun ρ => top ρ c (evE Γ ρ c)) := fun ρ => by
 by_cases h : shE ρ c = Ac
 ·exact .inr (Mb Γ ρ c h).symm
 ·cases c with
  |var i=>
   refine .inl ?_;show Ds ρ i = .bad;have h' : ¬ shV ρ i = Ac := h;unfold shV at h';unfold Ds;cases q : ρ[i]? with
   |none => rfl
   |some x=>
    cases x with
    |none => rfl
    |some y=>
     obtain⟨d, o⟩ := y;cases o with
     |true => rfl
     |false => rw[q]at h';exact absurd rfl h'
  |_ => exact absurd rfl h
noncomputable def Pcs(X : Cx)(CL : ClA)(W : XW)(e : Ao)(f : Rho -> R D) : Prop := ∃ tg iter elt ifs scope pos N' ts fi fc fe as g, e = .ListComp elt [⟨tg, iter, ifs, 0⟩] scope pos /\ BlockOk X scope N' ts /\ SI X CL W tg iter fi /\ GG X.K CL ts as g /\
 (∀ cl C s H fp, PG (cxC X scope cl C N' s H fp) tg g) /\ (∀ cl C s H fp, STs (cxC X scope cl C N' s H fp) CL ifs fc) /\ (∀ cl C s H fp, SE (cxC X scope cl C N' s H fp) CL W0 elt fe) /\ (∀ x, BO iter X.env x = pure x) /\
 ∀ ρ, f ρ = (fi ρ).bind fun xs => (noX (Br (fun x => (as x ρ).bind fc) (fun x => (as x ρ).bind fe) xs)).bind fun ys => .ok (.lst ys)
theorem Pcs.sc{W:XW}{e : Ao}{f : Rho -> R D}(hc : X.calm = Ac)(h : Pcs X CL W e f) : SC X CL W Ac e f := by
 obtain⟨tg, iter, elt, ifs, scope, pos, N', ts, fi, fc, fe, as, g, rfl, B, hi, hGG, hg, ht, he, hs, ef⟩ := h;exact SC.congr (RB hc B hi hGG hg ht he hs) ef
structure OkE (Γ : Gam) (CL : ClA) (W : XW) (X : Cx) (e : Ao) (c : E) : Prop where
 se : SE X CL W e (fun ρ => evE Γ ρ c)
 st : ST X CL W e (fun ρ => top ρ c (evE Γ ρ c))
 nw : Du Γ c = Ac -> SC X CL W Ac e (fun ρ => evE Γ ρ c)
 cp : GD e = Ad -> Pcs X CL W e (fun ρ => evE Γ ρ c)
section
variable{Γ : Gam}{CL : ClA}{W : XW}{X : Cx}{e : Ao}{c : E}
theorem Da(h : SE X CL W e (fun ρ => evE Γ ρ c))(ht : ∀ ρ r, top ρ c r = r)(hn : Du Γ c = Ad)(hc : GD e = Ac) : OkE Γ CL W X e c:=
 ⟨h, by simp only[ht];exact h.st, fun z => absurd z (by rw[hn];decide), fun z => absurd z (by rw[hc];decide)⟩
theorem Jv(h : SC X CL W Ac e (fun ρ => evE Γ ρ c))(ht : ∀ ρ r, top ρ c r = r)(hc : GD e = Ac) : OkE Γ CL W X e c:=
 ⟨h.se, by simp only[ht];exact h.se.st, fun _ => h, fun z => absurd z (by rw[hc];decide)⟩
theorem V9(hc : X.calm = Ac)(h : Pcs X CL W e (fun ρ => evE Γ ρ c))(ht : ∀ ρ r, top ρ c r = r) : OkE Γ CL W X e c:=
 ⟨(h.sc hc).se, by simp only[ht];exact(h.sc hc).se.st, fun _ => h.sc hc, fun _ => h⟩
end
theorem Wu{k:Ki}(h : JG k = Aa x) : ∃ T, tyK k = Aa T /\ BV x = Aa (.type T) := by
 cases k <;> simp only[JG]at h <;> cases h
 ·exact⟨_, rfl, PyProof.Rows.boot_int⟩
 ·exact⟨_, rfl, PyProof.Rows.boot_bool⟩
 ·exact⟨_, rfl, PyProof.Rows.boot_str⟩
 ·exact⟨_, rfl, N7⟩
 ·exact⟨_, rfl, N8⟩
structure Snd (Γ : Gam) (CL : ClA) (k : Ag) (n : Ag) : Prop where
 e : ∀(W : XW)(T : Tc)(X : Cx)(x : Ao)(c : E), VX Γ CL k W T X -> AS n T x c = Ac -> OkE Γ CL W X x c
 b : ∀(W : XW)(T : Tc)(X : Cx)(x : Ao)(c : E), VX Γ CL k W T X -> Gj n T x c = Ac -> SB X CL W x (fun ρ => (top ρ c (evE Γ ρ c)).bind Bq)
 bs : ∀(W : XW)(T : Tc)(X : Cx)(xs : Ab Ao)(es : Es)(pos : AH), VX Γ CL k W T X -> chkBs n T xs es = Ac -> xs ≠ [] -> SW X CL W (.BoolOp .And xs pos) (fun ρ => (evN Γ ρ es).bind Bq) /\ SW X CL W (.BoolOp .Or xs pos) (fun ρ => (evO Γ ρ es).bind Bq)
 es : ∀(W : XW)(T : Tc)(X : Cx)(xs : Ab Ao)(es : Es), VX Γ CL k W T X -> chkEs n T xs es = Ac -> SA X CL W xs (fun ρ => evA Γ ρ es) /\ SAT X CL W xs (fun ρ => evB Γ ρ es) /\ xs.length = es.len /\ (∀ pos, xs ≠ [] -> SE X CL W (.BoolOp .And xs pos) (fun ρ => evN Γ ρ es) /\ SE X CL W (.BoolOp .Or xs pos) (fun ρ => evO Γ ρ es)) /\ (∀ pos, (BN pos (At xs X.env)).any (·.1) = Ad)
 o : ∀(W : XW)(T : Tc)(X : Cx)(x : Al Ao)(c : E), VX Γ CL k W T X -> chkO n T x c = Ac -> SO X CL W x (fun ρ => (top ρ c (evE Γ ρ c)).bind (slE c))
 t : ∀(T : Tc)(X : Cx)(xs : Ab Ao)(c : E), VX Γ CL k W0 T X -> chkT n T xs c = Ac -> STs X CL xs (fun ρ => (top ρ c (evE Γ ρ c)).bind Bq)
 i : ∀(W : XW)(T : Tc)(X : Cx)(tu : An)(tg x : Ao)(i : I), VX Γ CL k W T X -> Nb tu tg = Ac -> chkI n T tu x i = Ac -> SI X CL W tg x (fun ρ => evI Γ ρ i)
section
variable{Γ : Gam}{CL : ClA}{W : XW}{k n : Ag}{T : Tc}{X : Cx}
theorem Qk : Snd Γ CL k 0 := ⟨fun _ _ _ _ _ _ h => absurd (show Ad = Ac from h) Ap, fun _ _ _ _ _ _ h => absurd (show Ad = Ac from h) Ap, fun _ _ _ _ _ _ _ h => absurd (show Ad = Ac from h) Ap, fun _ _ _ _ _ _ h => absurd (show Ad = Ac from h) Ap, fun _ _ _ _ _ _ h => absurd (show Ad = Ac from h) Ap, fun _ _ _ _ _ h => absurd (show Ad = Ac from h) Ap, fun _ _ _ _ _ _ _ _ _ h => absurd (show Ad = Ac from h) Ap⟩
theorem Ky{x:Ao}(h : CZ x = Ac)(hx : (BN pos (At xs env)).any (·.1) = Ad) : (BN pos (At (x::xs) env)).any (·.1) = Ad := by
 rw[Co h];show (Ad||(BN pos (At xs env)).any (·.1)) = Ad;rw[hx];rfl
theorem Ta(S : Snd Γ CL k n)(W : XW)(T : Tc)(X : Cx)(xs : Ab Ao)(es : Es)(v : VX Γ CL k W T X)(h : chkEs (n+1) T xs es = Ac) : SA X CL W xs (fun ρ => evA Γ ρ es) /\ SAT X CL W xs (fun ρ => evB Γ ρ es) /\ xs.length = es.len /\ (∀ pos, xs ≠ [] -> SE X CL W (.BoolOp .And xs pos) (fun ρ => evN Γ ρ es) /\ SE X CL W (.BoolOp .Or xs pos) (fun ρ => evO Γ ρ es)) /\ (∀ pos, (BN pos (At xs X.env)).any (·.1) = Ad) := by
 cases xs with
 |nil=>
  cases es with
  |nil => exact⟨S2, RD, rfl, fun _ z => absurd rfl z, fun _ => rfl⟩
  |cons => simp[chkEs]at h
 |cons x xs=>
  cases es with
  |nil => simp[chkEs]at h
  |cons e es=>
   simp only[chkEs, Am]at h;obtain⟨⟨h0, h1⟩, h2⟩ := h;have he := S.e W T X x e v h1;obtain⟨a1, a2, a3, a4, a5⟩ := S.es W T X xs es v h2;refine⟨RE he.se a1 (Co h0), PM he.st a2 (Co h0), congrArg (· + 1) a3, fun pos _ => ?_, fun pos => Ky h0 (a5 pos)⟩
   cases xs with
   |nil=>
    cases es with
    |nil => exact⟨Mg he.se, Mg he.se⟩
    |cons => cases a3
   |cons y ys=>
    cases es with
    |nil => cases a3
    |cons e' es'=>
     obtain⟨b1, b2⟩ := a4 pos (by simp)
     exact⟨SY he.se b1, VC he.se b2⟩
theorem UV(S : Snd Γ CL k n)(W : XW)(T : Tc)(X : Cx)(x : Al Ao)(c : E)(v : VX Γ CL k W T X)(h : chkO (n+1) T x c = Ac) : SO X CL W x (fun ρ => (top ρ c (evE Γ ρ c)).bind (slE c)) := by
 cases x with
 |none=>
  simp only[chkO]at h;split at h
  ·exact Rw
  ·cases h
 |some x=>
  simp only[chkO]at h;split at h
  ·cases h
  ·rename_i hne;have q := Rv (S.e W T X x c v h).st;have e : slE c = fun d => (C1 d).bind fun i => .ok (Aa i) := by
    funext d
    cases c <;> first|rfl|exact absurd rfl hne
   rw[e];exact q
theorem UT(S : Snd Γ CL k n)(T : Tc)(X : Cx)(xs : Ab Ao)(c : E)(v : VX Γ CL k W0 T X)(h : chkT (n+1) T xs c = Ac) : STs X CL xs (fun ρ => (top ρ c (evE Γ ρ c)).bind Bq) := by
 cases xs with
 |nil=>
  simp only[chkT]at h;split at h
  ·exact Rk
  ·cases h
 |cons x xs=>
  cases xs with
  |nil=>
   simp only[chkT]at h;exact Rj (S.b W0 T X x c v h)
  |cons y ys => simp[chkT]at h
theorem UW(S : Snd Γ CL k n)(W : XW)(T : Tc)(X : Cx)(tu : An)(tg x : Ao)(i : I)(v : VX Γ CL k W T X)(ht' : Nb tu tg = Ac)(h : chkI (n+1) T tu x i = Ac) : SI X CL W tg x (fun ρ => evI Γ ρ i) := by
 have ht : tu = Ac -> VR tg = Ac := fun z => by
  subst z;cases tg <;> first|rfl|cases ht'
 cases i with
 |e a=>
  simp only[chkI]at h;exact WR (S.e W T X x a v h).se
 |rng a=>
  simp only[chkI]at h;split at h
  ·simp only[Am, A7]at h;obtain⟨⟨⟨rfl, h1⟩, h2⟩, h3⟩ := h;obtain⟨g1, g2, _, _⟩ := He v h1;exact SH (S.e W T X _ a v h3).st g1 g2 (Co h2)
  ·cases h
 |rng2 a b=>
  simp only[chkI]at h;split at h
  ·simp only[Am, A7]at h;obtain⟨⟨⟨⟨⟨rfl, h1⟩, h2⟩, h3⟩, h4⟩, h5⟩ := h;obtain⟨g1, g2, _, _⟩ := He v h1;exact Ry (S.e W T X _ a v h4).st (S.e W T X _ b v h5).st g1 g2 (by rw[Co h2, Co h3];rfl) (by rw[Co h3];rfl)
  ·cases h
 |zip a b => simp[chkI]at h
 |zip3 a b c => simp[chkI]at h
 |enm a => simp[chkI]at h
theorem Gz{c:Prop}[DI c]{b : An} : (if c then R.ok (D.bl b) else .bad) = .bad \/ ∃ b', (if c then R.ok (D.bl b) else .bad) = .ok (.bl b') := by
 by_cases h : c
 ·rw[AE h];exact .inr ⟨_, rfl⟩
 ·rw[AF h];exact .inl rfl
theorem QF(op : CP)(d d' : D) : Bg op d d' = .bad \/ ∃ b, Bg op d d' = .ok (.bl b) := by
 cases op with
 |Eq => exact Gz
 |NotEq => exact Gz
 |In=>
  cases d' with
  |lst ys => exact Gz
  |tup ys => exact Gz
  |dic kvs=>
   show (match Cp d with|some k => R.ok (D.bl (kvs.any fun p => p.1==k))|none => .bad) = .bad \/ ∃ b, (match Cp d with|some k => R.ok (D.bl (kvs.any fun p => p.1==k))|none => .bad) = .ok (.bl b)
   cases Cp d with
   |some k => exact .inr ⟨_, rfl⟩
   |none => exact .inl rfl
  |_ => cases d <;> exact .inl rfl
 |NotIn=>
  cases d' with
  |lst ys => exact Gz
  |tup ys => exact Gz
  |dic kvs=>
   show (match Cp d with|some k => R.ok (D.bl (!kvs.any fun p => p.1==k))|none => .bad) = .bad \/ ∃ b, (match Cp d with|some k => R.ok (D.bl (!kvs.any fun p => p.1==k))|none => .bad) = .ok (.bl b)
   cases Cp d with
   |some k => exact .inr ⟨_, rfl⟩
   |none => exact .inl rfl
  |_ => cases d <;> exact .inl rfl
 |Is=>
  cases d' with
  |non => cases d <;> first|exact .inr ⟨_, rfl⟩|exact .inl rfl
  |_ => cases d <;> first|exact .inl rfl|exact .inr ⟨_, rfl⟩
 |IsNot=>
  cases d' with
  |non => cases d <;> first|exact .inr ⟨_, rfl⟩|exact .inl rfl
  |_ => cases d <;> first|exact .inl rfl|exact .inr ⟨_, rfl⟩
 |_=>
  cases d with
  |int i => cases d' <;> first|exact .inr ⟨_, rfl⟩|exact .inl rfl
  |_ => exact .inl rfl
theorem Lx(op : CP)(d d' : D) : (Bg op d d').bind Bq = .bad \/ (Bg op d d').bind Bq = (Bg op d d').bind Cr := by
 rcases QF op d d' with h|⟨b, h⟩
 ·rw[h];exact .inl rfl
 ·rw[h];exact .inr rfl
theorem Um(e e' : E)(es : Es) : Rf (fun ρ => (evN Γ ρ (.cons e (.cons e' es))).bind Bq) (fun ρ => ((top ρ e (evE Γ ρ e)).bind Bq).bind fun c => if c = Ac then (evN Γ ρ (.cons e' es)).bind Bq else .ok Ad) := fun ρ => by
 have e0 : evN Γ ρ (.cons e (.cons e' es)) = (evE Γ ρ e).bind fun x => (Cr x).bind fun c => if c = Ac then evN Γ ρ (.cons e' es) else .ok (.bl Ad) := rfl
 dsimp only;rw[e0];rcases Jx Γ e ρ with z|z <;> dsimp only at z
 ·rw[z];exact .inl rfl
 ·rw[<-z];cases evE Γ ρ e with
  |bad => exact .inl rfl
  |exn x => exact .inr rfl
  |ok d=>
   cases d with
   |bl b => cases b <;> exact .inr rfl
   |_ => exact .inl rfl
theorem Ul(e e' : E)(es : Es) : Rf (fun ρ => (evO Γ ρ (.cons e (.cons e' es))).bind Bq) (fun ρ => ((top ρ e (evE Γ ρ e)).bind Bq).bind fun c => if c = Ac then .ok Ac else (evO Γ ρ (.cons e' es)).bind Bq) := fun ρ => by
 have e0 : evO Γ ρ (.cons e (.cons e' es)) = (evE Γ ρ e).bind fun x => (Cr x).bind fun c => if c = Ac then .ok (.bl Ac) else evO Γ ρ (.cons e' es) := rfl
 dsimp only;rw[e0];rcases Jx Γ e ρ with z|z <;> dsimp only at z
 ·rw[z];exact .inl rfl
 ·rw[<-z];cases evE Γ ρ e with
  |bad => exact .inl rfl
  |exn x => exact .inr rfl
  |ok d=>
   cases d with
   |bl b => cases b <;> exact .inr rfl
   |_ => exact .inl rfl
theorem Rf.tru(e : E) : Rf (fun ρ => (evE Γ ρ e).bind Bq) (fun ρ => (top ρ e (evE Γ ρ e)).bind Bq) := fun ρ => by
 rcases Jx Γ e ρ with z|z <;> dsimp only at z ⊢
 ·rw[z];exact .inl rfl
 ·rw[<-z];exact .inr rfl
theorem Tb(S : Snd Γ CL k n)(W : XW)(T : Tc)(X : Cx)(xs : Ab Ao)(es : Es)(pos : AH)(v : VX Γ CL k W T X)(h : chkBs (n+1) T xs es = Ac)(hne : xs ≠ []) : SW X CL W (.BoolOp .And xs pos) (fun ρ => (evN Γ ρ es).bind Bq) /\ SW X CL W (.BoolOp .Or xs pos) (fun ρ => (evO Γ ρ es).bind Bq) := by
 cases xs with
 |nil => exact absurd rfl hne
 |cons x xs=>
  cases es with
  |nil => simp[chkBs]at h
  |cons e es=>
   simp only[chkBs, Am]at h;obtain⟨h1, h2⟩ := h;have he := S.b W T X x e v h1;cases xs with
   |nil=>
    cases es with
    |nil => exact⟨SW.ref (Ri he) (Rf.tru e), SW.ref (S6 he) (Rf.tru e)⟩
    |cons=>
     cases n with
     |zero => simp[chkBs]at h2
     |succ n => simp[chkBs]at h2
   |cons y ys=>
    cases es with
    |nil=>
     cases n with
     |zero => simp[chkBs]at h2
     |succ n => simp[chkBs]at h2
    |cons e' es'=>
     obtain⟨b1, b2⟩ := S.bs W T X (y::ys) (.cons e' es') pos v h2 (by simp)
     exact⟨SW.ref (S7 he b1) (Um e e' es'), SW.ref (US he b2) (Ul e e' es')⟩
theorem Qo(S : Snd Γ CL k n){x:Ao}{ops:Ab CP}{b : BI}(v : VX Γ CL k W T X)(h : Na T (AS n) x ops ys b as = Ac) : SB X CL W (.Compare x ops ys pos) (fun ρ => (top ρ (.bi b as) (evE Γ ρ (.bi b as))).bind Bq) := by
 exact absurd (show Ad = Ac from h) Ap
theorem UY(S : Snd Γ CL k n)(W : XW)(T : Tc)(X : Cx)(x : Ao)(c : E)(v : VX Γ CL k W T X)(h : Gj (n+1) T x c = Ac) : SB X CL W x (fun ρ => (top ρ c (evE Γ ρ c)).bind Bq) := by
 have plain : ∀ e, Jf e = Ac -> AS n T e c = Ac -> SB X CL W e (fun ρ => (top ρ c (evE Γ ρ c)).bind Bq) := fun e h1 h2 => SZ (S.e W T X e c v h2).st (Qt h1)
 simp only[Gj]at h;split at h
 ·split at h
  ·rename_i a;refine SB.ref (S0 (S.b W T X _ a v h)) fun ρ => ?_
   show ((top ρ a (evE Γ ρ a)).bind fun x => (Cr x).bind fun b => .ok (.bl (!b))).bind Bq = .bad \/ ((top ρ a (evE Γ ρ a)).bind fun x => (Cr x).bind fun b => .ok (.bl (!b))).bind Bq = _
   cases top ρ a (evE Γ ρ a) with
   |bad => exact .inl rfl
   |exn x => exact .inr rfl
   |ok d => cases d <;> first|exact .inr rfl|exact .inl rfl
  ·cases h
 ·split at h
  ·simp only[Am, Bh, Ct]at h;exact(S.bs W T X _ _ _ v h.1 h.2).1.sb
  ·cases h
 ·split at h
  ·simp only[Am, Bh, Ct]at h;exact(S.bs W T X _ _ _ v h.1 h.2).2.sb
  ·cases h
 ·split at h
  ·split at h
   ·rename_i op a b _ _ op' y;simp only[Am, Bh, A2]at h;obtain⟨⟨⟨rfl, h1⟩, h2⟩, h3⟩ := h;refine SB.ref (S1 (Gv v.room.units _) (S.e W T X _ a v h2).st (S.e W T X _ b v h3).st h1) fun ρ => ?_
    show ((top ρ a (evE Γ ρ a)).bind fun x => (top ρ b (evE Γ ρ b)).bind fun y => Bg op' x y).bind Bq = .bad \/ ((top ρ a (evE Γ ρ a)).bind fun x => (top ρ b (evE Γ ρ b)).bind fun y => Bg op' x y).bind Bq = _
    cases top ρ a (evE Γ ρ a) with
    |bad => exact .inl rfl
    |exn x => exact .inr rfl
    |ok d=>
     cases top ρ b (evE Γ ρ b) with
     |bad => exact .inl rfl
     |exn x => exact .inr rfl
     |ok d'=>
      dsimp only[R.bind];exact Lx _ d d'
   ·cases h
  ·split at h
   ·rename_i op1 op2 a b c _ _ o1 o2 y z;simp only[Am, Bh, A2]at h;obtain⟨⟨⟨⟨⟨rfl, rfl⟩, h1⟩, h2⟩, h3⟩, h4⟩ := h;refine SB.ref (PL v.room.units (S.e W T X _ a v h2).st (S.e W T X _ b v h3).st (S.e W T X _ c v h4).st h1) fun ρ => ?_
    show ((top ρ a (evE Γ ρ a)).bind fun x => (top ρ b (evE Γ ρ b)).bind fun y => (Bg o1 x y).bind fun z => (Cr z).bind fun k => if k = Ac then (top ρ c (evE Γ ρ c)).bind fun u => Bg o2 y u else .ok (.bl Ad)).bind Bq = .bad \/ ((top ρ a (evE Γ ρ a)).bind fun x => (top ρ b (evE Γ ρ b)).bind fun y => (Bg o1 x y).bind fun z => (Cr z).bind fun k => if k = Ac then (top ρ c (evE Γ ρ c)).bind fun u => Bg o2 y u else .ok (.bl Ad)).bind Bq = _
    cases top ρ a (evE Γ ρ a) with
    |bad => exact .inl rfl
    |exn x => exact .inr rfl
    |ok d=>
     cases top ρ b (evE Γ ρ b) with
     |bad => exact .inl rfl
     |exn x => exact .inr rfl
     |ok d'=>
      dsimp only[R.bind];cases Bg o1 d d' with
      |bad => exact .inl rfl
      |exn x => exact .inr rfl
      |ok d3=>
       cases d3 with
       |bl k=>
        cases k with
        |false => exact .inr rfl
        |true=>
         dsimp only[R.bind, Cr];rw[AE rfl, AE rfl];cases top ρ c (evE Γ ρ c) with
         |bad => exact .inl rfl
         |exn x => exact .inr rfl
         |ok d4 => exact Lx _ d' d4
       |_ => exact .inl rfl
   ·cases h
  ·exact Qo S v h
  ·cases h
 ·simp only[Am]at h;exact plain _ h.1 h.2
end
section
variable{Γ : Gam}{CL : ClA}{W : XW}{k n : Ag}{T : Tc}{X : Cx}
theorem Wv{b : BI}{g:Aj}{x:Ao}(v : VX Γ CL k W T X)(hb : JH b = Aa g)(hg : isB T g = Ac)(hs : SAT X CL W (x::xs) (fun ρ => evB Γ ρ as))(h0 : CZ x = Ac)(hpl : ∀ pos, (BN pos (At xs X.env)).any (·.1) = Ad) : OkE Γ CL W X (.Call (.Name g p) (x::xs) [] pos) (.bi b as) := by
 obtain⟨g1, g2, g3, g4⟩ := He v hg;cases b <;> simp only[JH]at hb <;> cases hb
 ·exact Da (HS Uj g1 g2 PySem.boot_len hs g3 g4 (Co h0) hpl) (fun _ _ => rfl) rfl rfl
 ·exact Da (HS (Ui v.calm) g1 g2 PyProof.Rows.boot_max hs g3 g4 (Co h0) hpl) (fun _ _ => rfl) rfl rfl
 ·exact Da (HS (Uh v.calm) g1 g2 PyProof.Rows.boot_min hs g3 g4 (Co h0) hpl) (fun _ _ => rfl) rfl rfl
 ·exact Jv (SD RO g1 g2 N7 hs g3 g4 (Co h0) hpl) (fun _ _ => rfl) rfl
 ·exact Da (SX QG g1 g2 N8 hs g3 g4 (Co h0) hpl) (fun _ _ => rfl) rfl rfl
 ·exact Da (HS (Uk v.calm) g1 g2 PyProof.Rows.boot_all hs g3 g4 (Co h0) hpl) (fun _ _ => rfl) rfl rfl
theorem Jb{x:Ao}{es : Es}(h : chkEs n T (x::xs) es = Ac) : CZ x = Ac /\ ∃ e es', es = .cons e es' /\ ∃ m, n = m+1 /\ chkEs m T xs es' = Ac := by
 cases n with
 |zero => simp[chkEs]at h
 |succ m=>
  cases es with
  |nil => simp[chkEs]at h
  |cons e es=>
   simp only[chkEs, Am]at h;exact⟨h.1.1, e, es, rfl, m, rfl, h.2⟩
theorem K4 : ∀(m : Ag)(xs : Ab Ao)(es : Es), chkEs m T xs es = Ac -> ∀ pos, (BN pos (At xs X.env)).any (·.1) = Ad := by
 intro m
 induction m with
 |zero => intro xs es h;simp[chkEs]at h
 |succ m ih=>
  intro xs es h pos;cases xs with
  |nil => rfl
  |cons x xs=>
   obtain⟨h0, e, es', rfl, m', e1, h1⟩ := Jb h;cases e1;exact Ky h0 (ih xs es' h1 pos)
theorem Sn(S : Snd Γ CL k n){x:Ao}{b : BI}(v : VX Γ CL k W T X)(h : (match Kb as with|some a => (match MU x with|some y => decide (b = .rvs)&&AS n T y a|none => Ad)|none => Ad) = Ac) : OkE Γ CL W X x (.bi b as) := by
 simp[Kb]at h
theorem S5(S : Snd Γ CL k n){x:Ao}{b : BI}(v : VX Γ CL k W T X)(h : (match JL as with|some (a, c) => (match Nm x with|some (y, z, _) => decide (b = .tlt) && !behindInMarks .Lt z&&AS n T y a&&AS n T z c|none => Ad)|none => Ad) = Ac) : OkE Γ CL W X x (.bi b as) := by
 simp[JL]at h
theorem UD{x:Ao}{b : BI}(v : VX Γ CL k W T X)(h : Ni T x b as = Ac) : OkE Γ CL W X x (.bi b as) := by
 exact absurd h Ap
theorem S8(S : Snd Γ CL k n){x:Ao}{b : BI}(v : VX Γ CL k W T X)(h : (match JM as with|some (a, k) => (match Nc x with|some (y, j) => decide (b = .stp)&&decide (j = k)&&decide (0 <= k)&&AS n T y a|none => Ad)|none => Ad) = Ac) : OkE Γ CL W X x (.bi b as) := by
 simp[JM]at h
theorem Tr(S : Snd Γ CL k n){x:Ao}{b : BI}(v : VX Γ CL k W T X)(h : (match JP as with|some (a, c) => (match M3 x with|some (g, h, y, z) => decide (b = .list)&&g==("list" : Aj)&&h==("range" : Aj)&&isB T g&&isB T h&&CZ y&&CZ z&&AS n T y a&&AS n T z c|none => Ad)|none => Ad) = Ac) : OkE Γ CL W X x (.bi b as) := by
 simp[JP]at h
theorem R5(S : Snd Γ CL k n){x:Ao}{b : BI}(v : VX Γ CL k W T X)(h : (match JN as with|some a => (match M2 x with|some (g, h, y) => decide (b = .lset)&&g==("len" : Aj)&&h==("set" : Aj)&&isB T g&&isB T h&&CZ y&&AS n T y a|none => Ad)|none => Ad) = Ac) : OkE Γ CL W X x (.bi b as) := by
 simp[JN]at h
theorem UX(S : Snd Γ CL k n)(W : XW)(T : Tc)(X : Cx)(x : Ao)(c : E)(v : VX Γ CL k W T X)(h : AS (n+1) T x c = Ac) : OkE Γ CL W X x c := by
 cases c with
 |non=>
  unfold AS at h;dsimp only at h;split at h
  ·exact Da SN (fun _ _ => rfl) rfl rfl
  ·cases h
 |bl b=>
  unfold AS at h;dsimp only at h;split at h
  ·have e := eq_of_beq h;subst e;exact Da VD (fun _ _ => rfl) rfl rfl
  ·cases h
 |int i=>
  unfold AS at h;dsimp only at h;split at h
  ·have e := W9 h;subst e;exact Da SR (fun _ _ => rfl) rfl rfl
  ·cases h
 |str i=>
  unfold AS at h;dsimp only at h;split at h
  ·have e := W9 h;subst e;exact Da SL (fun _ _ => rfl) rfl rfl
  ·cases h
 |var i=>
  unfold AS at h;dsimp only at h;split at h
  ·exact⟨SJ (F8 v h), Md (F8 v h), fun z => (nomatch z), fun z => (nomatch z)⟩
  ·cases h
 |glob g => exact absurd (show Ad = Ac from h) Ap
 |bin op a b=>
  unfold AS at h;dsimp only at h;split at h
  ·simp only[Am, A2]at h;obtain⟨⟨rfl, h1⟩, h2⟩ := h;have ha := (S.e W T X _ a v h1).st;have hb := (S.e W T X _ b v h2).st;refine⟨Mh (LC _) ha hb, (Mh (LC _) ha hb).st, fun z => ?_, fun z => nomatch z⟩
   rename_i op' _ _;cases op' <;> first|exact SF ha hb|cases z
  ·cases h
 |un op a => exact absurd (show Ad = Ac from h) Ap
 |no a=>
  unfold AS at h;dsimp only at h;split at h
  ·exact Da (SM (S.e W T X _ a v h).st) (fun _ _ => rfl) rfl rfl
  ·cases h
 |and es=>
  unfold AS at h;dsimp only at h;split at h
  ·simp only[Am, Bh, Ct]at h;exact Da ((S.es W T X _ es v h.1).2.2.2.1 _ h.2).1 (fun _ _ => rfl) rfl rfl
  ·cases h
 |or es=>
  unfold AS at h;dsimp only at h;split at h
  ·simp only[Am, Bh, Ct]at h;exact Da ((S.es W T X _ es v h.1).2.2.2.1 _ h.2).2 (fun _ _ => rfl) rfl rfl
  ·cases h
 |cmp op a b=>
  unfold AS at h;dsimp only at h;split at h
  ·simp only[Am, Bh, A2]at h;obtain⟨⟨⟨rfl, h1⟩, h2⟩, h3⟩ := h;exact Da (SV (Gv v.room.units _) (S.e W T X _ a v h2).st (S.e W T X _ b v h3).st h1) (fun _ _ => rfl) rfl rfl
  ·cases h
 |cmp2 op1 op2 a b c=>
  unfold AS at h;dsimp only at h;split at h
  ·simp only[Am, Bh, A2]at h;obtain⟨⟨⟨⟨⟨rfl, rfl⟩, h1⟩, h2⟩, h3⟩, h4⟩ := h;exact Da (PK v.room.units (S.e W T X _ a v h2).st (S.e W T X _ b v h3).st (S.e W T X _ c v h4).st h1) (fun _ _ => rfl) rfl rfl
  ·cases h
 |ite c a b => exact absurd (show Ad = Ac from h) Ap
 |call f as=>
  unfold AS at h;dsimp only at h;split at h
  ·rename_i g pp y ys qq;simp only[Am, NE, A7, A2]at h;obtain⟨⟨⟨⟨⟨p, hp, ⟨rfl, rfl⟩, hl⟩, h900⟩, h1⟩, h2⟩, h3⟩ := h;obtain⟨fa, fd, ps, m1, m2, m3, m4, m5, _⟩ := v.fn p hp;have hlt : p.2.2<1000 := by omega
   rw[Nat.mod_eq_of_lt hlt]at m4 m5;have m5 := m5 hlt;obtain⟨n2, n3, n4⟩ := Jj h2;obtain⟨a1, a2, a3, a4, a5⟩ := S.es W T X _ as v h3;obtain⟨s0, e, es', rfl, m, rfl, s1⟩ := Jb h3;have q : SC X CL W (Γ.fr p.2.1) (.Call (.Name p.1 pp) (y::ys) [] qq) (fun ρ => evE Γ ρ (.call p.2.1 (.cons e es'))) := RC (sh := fun ρ => FW ρ (.cons e es')) m5 v.room (by unfold glB at h1;show X.env.scope.names.lookup p.1 = _;rw[v.sc];exact eq_of_beq h1) m1 m2 m3 v.px a1 a2 (fun ρ z => L1 Γ ρ _ z) (fun ρ ds z => by rw[Ls Γ ρ _ _ z, <-a3, hl];rfl) n2 (Co s0) (K4 m ys es' s1)
   exact⟨q.se, q.se.st, fun z => by
    have z' : Γ.fr p.2.1 = Ac := z;rw[z']at q;exact q, fun z => nomatch z⟩
  ·cases h
 |bi b as=>
  unfold AS at h;dsimp only at h;simp only[CH]at h;rcases h with (((((h|h)|h)|h)|h)|h)|h
  ·split at h
   ·simp only[Am, A7]at h;obtain⟨⟨h1, h2⟩, h3⟩ := h;obtain⟨s0, e, es', rfl, m, rfl, s1⟩ := Jb h3;exact Wv v h1 h2 (S.es W T X _ _ v h3).2.1 s0 (K4 m _ es' s1)
   ·cases h
  ·exact UD v h
  ·exact Tr S v h
  ·exact S8 S v h
  ·exact R5 S v h
  ·exact S5 S v h
  ·exact Sn S v h
 |isi a ks=>
  cases ks with
  |nil => exact absurd (show Ad = Ac from h) Ap
  |cons k' ks=>
   cases ks with
   |cons => exact absurd (show Ad = Ac from h) Ap
   |nil=>
    unfold AS at h;dsimp only at h;split at h
    ·simp only[Am, A7]at h;obtain⟨⟨⟨⟨⟨rfl, h1⟩, h2⟩, h3⟩, h4⟩, h5⟩ := h;obtain⟨g1, g2, _, _⟩ := He v h1;obtain⟨b1, b2, b3, b4⟩ := He v h3;obtain⟨ty, t1, t2⟩ := Wu h2;exact Da (SQ t1 g1 g2 b1 b2 t2 b3 b4 (S.e W T X _ a v h5).st (Co h4)) (fun _ _ => rfl) rfl rfl
    ·cases h
 |idx a i=>
  unfold AS at h;dsimp only at h;split at h
  ·simp only[Am]at h;obtain⟨⟨h1, h2⟩, h3⟩ := h;exact Da (SU v.room.units (Ql h1) (S.e W T X _ a v h2).st (S.e W T X _ i v h3).st) (fun _ _ => rfl) rfl rfl
  ·cases h
 |sl a lo hi=>
  unfold AS at h;dsimp only at h;split at h
  ·simp only[Am]at h;obtain⟨⟨h1, h2⟩, h3⟩ := h;refine Jv (SC.congr (U0 (S.e W T X _ a v h1).st (S.o W T X _ lo v h2) (S.o W T X _ hi v h3)) fun ρ => ?_) (fun _ _ => rfl) rfl
   show ((top ρ a (evE Γ ρ a)).bind fun x => (top ρ lo (evE Γ ρ lo)).bind fun l => (slE lo l).bind fun l' => (top ρ hi (evE Γ ρ hi)).bind fun h => (slE hi h).bind fun h' => slD x l' h') = _
   simp only[R.bind_assoc]
  ·cases h
 |tup es=>
  unfold AS at h;dsimp only at h;split at h
  ·simp only[Am, A2]at h;have q := S.es W T X _ es v h.1;exact Da (SK q.1 fun ρ ds z => by rw[Jm Γ ρ _ _ z, <-q.2.2.1];omega) (fun _ _ => rfl) rfl rfl
  ·cases h
 |lst es=>
  unfold AS at h;dsimp only at h;split at h
  ·simp only[Am, A2]at h;have q := S.es W T X _ es v h.1;exact Jv (Sz q.1 fun ρ ds z => by rw[Jm Γ ρ _ _ z, <-q.2.2.1];omega) (fun _ _ => rfl) rfl
  ·cases h
 |comp elt t it c=>
  unfold AS at h;dsimp only at h;split at h
  ·simp only[Am]at h;obtain⟨⟨⟨⟨⟨h1, h2⟩, h3⟩, h4⟩, h5⟩, h6⟩ := h;refine V9 v.calm ⟨_, _, _, _, _, _, _, _, _, _, _, _, _, rfl, (L4 v h3).1, S.i W T X Ad _ _ it v rfl h1, Sb t, fun cl C s H fp => Qp (v.blk h3) (fun z => A7.mpr z) h4, fun cl C s H fp => S.t _ _ _ c (v.blk h3) h5, fun cl C s H fp => (S.e W0 _ _ _ elt (v.blk h3) h6).se, JA h2, fun ρ => rfl⟩ (fun _ _ => rfl)
  ·cases h
 |compT elt ts it c => exact absurd (show Ad = Ac from h) Ap
 |tupI it => exact absurd (show Ad = Ac from h) Ap
 |dget i a c=>
  unfold AS at h;dsimp only at h;cases q : xMt x with
  |none => rw[q]at h;cases h
  |some t=>
   obtain⟨x, m, y, z⟩ := t;rw[q]at h;simp only[Am, A7]at h;obtain⟨⟨⟨⟨⟨rfl, h1⟩, h2⟩, h3⟩, h4⟩, h5⟩ := h;obtain⟨p, ap, cp, rfl, hl⟩ := Ma q;have hu := v.room.units;exact Da (RA (by omega) (F8 v h1) (S.e W T X _ a v h4).st (S.e W T X _ c v h5).se rfl (by rw[Co h2, Co h3];rfl) (by rw[hl];exact DH _) (Co h2) (Co h3) (by rw[Co h3];rfl)) (fun _ _ => rfl) rfl rfl
 |fld o f => exact absurd (show Ad = Ac from h) Ap
theorem snd : ∀ n, Snd Γ CL k n
 |0 => Qk
 |n+1 => ⟨UX (snd n), UY (snd n), Tb (snd n), Ta (snd n), UV (snd n), UT (snd n), UW (snd n)⟩
end
section
variable{Γ : Gam}{CL : ClA}{W : XW}{k n : Ag}{T : Tc}{X : Cx}
theorem Qr{t : Ag}(v : VX Γ CL k W T X)(hf : ∀ x, X.fn x = Ac)(h : tgC T [t] [x] = Ac) : PG X (.Name x pos) (Er t) := by
 unfold tgC at h;simp only[Am, A7]at h;exact HI (by rw[v.N];exact v.nd) (by rw[v.N];exact h.1.1) (by rw[v.sc];exact HM h.1.2) (.inl (hf x))
theorem Qs(v : VX Γ CL k W T X)(hf : ∀ x, X.fn x = Ac) : ∀(ys : Ab Ao)(ts : Ab Ag)(zs : Ab Aj), EK ys = Aa zs -> tgC T ts zs = Ac -> PGs X ys (ts.foldr (fun t u => Hg (Er t) u) Hl) /\ ts.length = ys.length := by
 intro ys
 induction ys with
 |nil=>
  intro ts zs e h;cases e;cases ts with
  |nil => exact⟨Q6, rfl⟩
  |cons t ts => cases h
 |cons y r ih=>
  intro ts zs e h;obtain⟨x, p, ws, rfl, e2, rfl⟩ := Ku e;cases ts with
  |nil => cases h
  |cons t ts=>
   have h' : (T.N[t]? == Aa x&&Gm T x&&tgC T ts ws) = Ac := h;simp only[Am, A7]at h';obtain⟨h1, h2⟩ := ih ts ws e2 h'.2;exact⟨P1 (HI (by rw[v.N];exact v.nd) (by rw[v.N];exact h'.1.1) (by rw[v.sc];exact HM h'.1.2) (.inl (hf x))) h1 (by rw[KU];rfl), congrArg (· + 1) h2⟩
theorem Qq{kk:Ag}(v : VX Γ CL k W T X)(hf : ∀ x, X.fn x = Ac)(hn : (EK ys).isSome = Ac)(h : tgC T ts (tgN ys) = Ac) : PG X (.Tuple ys kk pos) (JZ X.K ts.length (ts.foldr (fun t u => Hg (Er t) u) Hl)) := by
 cases e : EK ys with
 |none => rw[e]at hn;cases hn
 |some zs=>
  have e2 : tgN ys = zs := by unfold tgN;rw[e];rfl
  rw[e2]at h;obtain⟨h1, h2⟩ := Qs v hf ys ts zs e h;obtain⟨h3, h4, _⟩ := OR (env := X.env) ys zs e;exact TY v.calm h1 (by rw[h3, h2]) h4
theorem O0(ts : Ab Ag) : ∀ d ρ x, Ep ts d ρ ≠ .exn x := fun d ρ x h => by
 unfold Ep at h;cases d with
 |tup xs=>
  dsimp only at h;cases e : Eo ts xs ρ with
  |some r => rw[e]at h;cases h
  |none => rw[e]at h;cases h
 |_ => cases h
theorem Qi{elt:Ao}{gs:Ab Comprehension}{pos':AH} : ∃ b, Cw (.ListComp elt gs scope pos) (Aa (.Name x pos')) l env = pure b /\ (b = Ac -> env.scope.names.lookup x = Aa .local) := by
 refine⟨_, rfl, fun h => ?_⟩
 simp only[Am, A7]at h;exact h.1.1.2
theorem JB{v0:Ao}{i : Ag}{e : E}(v : VX Γ CL k W T X)(hf : ∀ x, X.fn x = Ac)(hi : T.N[i]? = Aa x)(hl : Gm T x = Ac)(o : OkE Γ CL W X v0 e)(hfr : fr = Ac -> Du Γ e = Ac) : SAs X CL W fr i (.Assign [.Name x p] v0 pos) (fun ρ => evE Γ ρ e) := by
 have hN : X.N.Nodup := by rw[v.N];exact v.nd
 have hi' : X.N[i]? = Aa x := by rw[v.N];exact hi
 have hx : Loc X.env.scope x := by rw[v.sc];exact HM hl
 have sc : SC X CL W fr v0 (fun ρ => evE Γ ρ e) := by
  cases fr with
  |false => exact o.se.sc
  |true => exact o.nw (hfr rfl)
 cases hc : GD v0 with
 |true => exact SC.sas hN hi' hx sc (Lv hc) (.inl (hf x))
 |false=>
  obtain⟨tg, iter, elt, ifs, scope, pos2, N', ts, fi, fc, fe, as, g, rfl, B, h2, hGG, hg, ht, he, hs, ef⟩ := o.cp hc;obtain⟨b, hb, hb'⟩ := Qi (elt := elt) (gs := [⟨tg, iter, ifs, 0⟩]) (scope := scope) (pos := pos2) (pos' := p) (x := x) (l := pos.line) (env := X.env);cases b with
  |false => exact SC.sas hN hi' hx sc hb (.inl (hf x))
  |true=>
   have q := PN (pos2 := pos) v.calm B h2 hGG hg ht he hs hN hi' (hb' rfl) hb;have q' : SAs X CL W Ac i (.Assign [.Name x p] (.ListComp elt [⟨tg, iter, ifs, 0⟩] scope pos2) pos) (fun ρ => evE Γ ρ e) := by
    have : (fun ρ => evE Γ ρ e) = _ := funext ef
    rw[this];exact q
   cases fr with
   |true => exact q'
   | false => exact fun A => PS.weak (q' A) fun D σ H ⟨hA, ρ, gd, z⟩ => ⟨hA, ρ, gd, by
     dsimp only at z ⊢;cases e0 : evE Γ ρ e with
     |ok d=>
      rw[e0]at z;exact fun v' H' s' r' => z v' H' s' ⟨r'.1, fun _ => r'.2 rfl⟩
     |exn y => rw[e0]at z;exact z
     | bad => rw[e0]at z;exact z⟩
theorem LM{e t : Ao}(h : ∀ x p, t ≠ .Name x p) : En [t] e l env = pure Ad := by
 show Cw e (Aa t) l env = pure Ad;cases e <;> first|rfl|(cases t <;> first|rfl|exact absurd rfl (h _ _))
theorem KR(ρ : Rho)(e : E)(h : ∀ i, e ≠ .var i) : evS Γ ρ (.ret e) = O.of ρ (evE Γ ρ e) fun d => .ret d (Du Γ e) := by
 cases e <;> first|exact absurd rfl (h _)|(simp only[evS, top, Bool.or_false])
structure DefX (X : Cx) : Prop where
 fn : ∀ x, X.fn x = Ac
 ex : X.ex = []
 st : X.stack = X.env::X.outer
 fm : X.env.frame = Aa X.env.locals
structure SndS (Γ : Gam) (CL : ClA) (k : Ag) (n : Ag) : Prop where
 s : ∀(W : XW)(T : Tc)(X : Cx)(x : Bb)(c : S), VX Γ CL k W T X -> DefX X -> DG n T x c = Ac -> SS X CL W x (fun ρ => evS Γ ρ c)
 ss : ∀(W : XW)(T : Tc)(X : Cx)(x : Ab Bb)(c : Ss), VX Γ CL k W T X -> DefX X -> chkSs n T x c = Ac -> SSs X CL W x (fun ρ => evSs Γ ρ c)
theorem VX.pw(v : VX Γ CL k W T X){pI:Ab (Ai × AA)}{Xw:Ah -> Ak -> Prop}(own : DL (model X.prog X.w) X.A X.env Xw) : VX Γ CL k W0 T (Cx.pw X pI Xw) := ⟨v.sc, v.kd, v.N, v.nd, v.calm, v.room, v.bl, v.fn, own, Mn, MT, v.xt, v.gl⟩
theorem STB.congr{st : Ab Bb}{f g : Rho -> O}(h : STB X CL st f)(e : ∀ ρ, g ρ = f ρ) : STB X CL st g := by
 have : g = f := funext e;rw[this];exact h
theorem UU(Z : SndS Γ CL k n)(W : XW)(T : Tc)(X : Cx)(st : Bb)(c : S)(v : VX Γ CL k W T X)(hf : DefX X)(h : DG (n+1) T st c = Ac) : SS X CL W st (fun ρ => evS Γ ρ c) := by
  have E := snd (Γ := Γ) (CL := CL) (k := k) n;cases c with
  |pass => exact absurd (show Ad = Ac from h) Ap
  |brk => exact absurd (show Ad = Ac from h) Ap
  |cont => exact absurd (show Ad = Ac from h) Ap
  |asg i fresh e=>
    unfold DG at h;dsimp only at h;split at h
    · simp only[Am, A7]at h;obtain⟨⟨h1, h2⟩, h3⟩ := h;have o := E.e W T X _ e v h3;cases fresh with
      |false => exact Mf (JB (fr := Ad) v hf.fn h1 h2 o (fun z => nomatch z))
      |true=>
        cases hn : Du Γ e with
        |true=>
          refine SS.ref (Ru (JB (fr := Ac) v hf.fn h1 h2 o (fun _ => hn))) fun ρ => .inr ?_
          show O.of ρ (evE Γ ρ e) (fun d => if Ac = Ac then (if Du Γ e = Ac then (match d with
            |.lst xs => .next (ρ.set i (Aa (.lst xs, Ac)))
            | _ => .bad) else .bad) else .next (ρ.set i (Aa (d, Ad)))) = _
          rw[hn];rfl
        |false=>
          refine SS.ref (Mf (JB (fr := Ad) v hf.fn h1 h2 o (fun z => nomatch z))) fun ρ => ?_
          have e0 : evS Γ ρ (.asg i Ac e) = O.of ρ (evE Γ ρ e) (fun d => if Ac = Ac then (if Du Γ e = Ac then (match d with
            |.lst xs => .next (ρ.set i (Aa (.lst xs, Ac)))
            | _ => .bad) else .bad) else .next (ρ.set i (Aa (d, Ad)))) := rfl
          rw[e0, hn];cases evE Γ ρ e with
          |ok d => exact .inl rfl
          |exn y => exact .inr rfl
          |bad => exact .inl rfl
    · cases h
  |asgT ts e => exact absurd (show Ad = Ac from h) Ap
  |expr e=>
    unfold DG at h;dsimp only at h;split at h
    · simp only[Am]at h;exact Rs (E.e W T X _ e v h.2).se (Lv h.1)
    · cases h
  |ret e=>
    unfold DG at h;dsimp only at h;split at h
    · have o := E.e W T X _ e v h;cases hv : Du Γ e with
      |true=>
        refine SS.ref (Rr (o.nw hv)) fun ρ => .inr ?_
        rw[KR ρ e (fun i z => by subst z;cases hv), hv]
      |false=>
        cases e with
        |var i=>
          cases n with
          |zero => exact absurd (show Ad = Ac from h) Ap
          |succ n=>
            unfold AS at h;dsimp only at h;split at h
            · exact Rn (F8 v h)
            · cases h
        |_=>
          refine SS.ref (Ro o.se) fun ρ => .inr ?_
          rw[KR ρ _ (by intro i z;cases z), hv]
    · cases h
  |retN => exact absurd (show Ad = Ac from h) Ap
  |ife c a b=>
    unfold DG at h;dsimp only at h;split at h
    · simp only[Am]at h;exact UZ (E.b W T X _ c v h.1.1) (Z.ss W T X _ a v hf h.1.2) (Z.ss W T X _ b v hf h.2)
    · cases h
  |fors t it body=>
    unfold DG at h;dsimp only at h;split at h
    · simp only[Am]at h;obtain⟨⟨⟨h1, h2⟩, h3⟩, h4⟩ := h;exact Me v.own v.calm (Sa t) (Qr v hf.fn h1) (E.i W T X Ad _ _ it v rfl h3) (Z.ss W T X _ body v hf h4) (JA h2) (fun _ _ _ z => nomatch z)
    · cases h
  |forT ts it body=>
    unfold DG at h;dsimp only at h;split at h
    · simp only[Am]at h;obtain⟨⟨⟨⟨h0, h1⟩, h2⟩, h3⟩, h4⟩ := h;exact Me v.own v.calm (TD ts) (Qq v hf.fn h0 h1) (E.i W T X Ac _ _ it v rfl h3) (Z.ss W T X _ body v hf h4) (JA h2) (O0 ts)
    · cases h
  |whl c body => exact absurd (show Ad = Ac from h) Ap
  |rais c as=>
    unfold DG at h;dsimp only at h;cases hc : T.rzs.any (fun p => p.2==c) with
    |false=>
      have hb : ∀ ds, Γ.xn c ds = .bad := v.xt.xb c fun p hp z => by
        have : T.rzs.any (fun p => p.2==c) = Ac := List.any_eq_true.mpr ⟨p, hp, A7.mpr z⟩
        rw[hc]at this;cases this
      intro Fz B pI s σ H D I ⟨ρ, x, p⟩;have p' : BB X.K CL Fz B W (O.of ρ (noX (evA Γ ρ as)) fun xs => O.of ρ (Γ.xn c xs) fun x => .exn x ρ) D := p
      cases e1 : evA Γ ρ as with
      |bad => rw[e1]at p';exact p'.elim
      |exn y => rw[e1]at p';exact p'.elim
      |ok ds=>
        rw[e1]at p';have p2 : BB X.K CL Fz B W (O.of ρ (Γ.xn c ds) fun x => .exn x ρ) D := p'
        rw[hb ds]at p2;exact p2.elim
    |true => rw[hc]at h;cases h
  |app i e => exact absurd (show Ad = Ac from h) Ap
  |ext i e => exact absurd (show Ad = Ac from h) Ap
  |rev i => exact absurd (show Ad = Ac from h) Ap
  |clr i => exact absurd (show Ad = Ac from h) Ap
  |put i k e=>
    unfold DG at h;dsimp only at h;split at h
    · simp only[Am]at h;obtain⟨⟨⟨h1, h2⟩, h4⟩, h5⟩ := h;rename_i x p y sp v0 pos;exact Td (F8 v h1) (E.e W T X _ k v h4).st (E.e W T X _ e v h5).se (fun w => by cases y <;> first|rfl|cases h2) (LM (fun _ _ z => by cases z)) rfl rfl
    · cases h
  |tryx body c x hh => exact absurd (show Ad = Ac from h) Ap
  |try2 body c x hd c' hd' els => exact absurd (show Ad = Ac from h) Ap
  |swp i k l => exact absurd (show Ad = Ac from h) Ap
  |apop j i e => exact absurd (show Ad = Ac from h) Ap
  |ins => exact absurd (show Ad = Ac from h) Ap
  |dnw i=>
    unfold DG at h;dsimp only at h;split at h
    · simp only[Am, A7]at h;obtain⟨⟨h1, h2⟩, h3⟩ := h;obtain⟨p, rfl⟩ := Qy h3;exact Sy (by rw[v.N];exact v.nd) (by rw[v.N];exact h1) (by rw[v.sc];exact HM h2) rfl (.inl (hf.fn _))
    · cases h
  |dput i k e=>
    unfold DG at h;dsimp only at h;split at h
    · simp only[Am]at h;obtain⟨⟨⟨h1, h2⟩, h4⟩, h5⟩ := h;rename_i x p y sp v0 pos;have hu := v.room.units;exact Rt (by omega) (F8 v h1) (E.e W T X _ k v h4).st (E.e W T X _ e v h5).se (fun w => by cases y <;> first|rfl|cases h2) (LM (fun _ _ z => by cases z)) rfl rfl
    · cases h
  |dsd i k e=>
    unfold DG at h;dsimp only at h;split at h
    · rename_i w pos;cases q : xMt w with
      |none => rw[q]at h;cases h
      |some t=>
        obtain⟨x, m, y, z⟩ := t;rw[q]at h;simp only[Am, A7]at h;obtain⟨⟨⟨⟨⟨rfl, h1⟩, h2⟩, h3⟩, h4⟩, h5⟩ := h;obtain⟨p, ap, cp, rfl, hl⟩ := Ma q;have hu := v.room.units;exact Sw (by omega) (F8 v h1) (E.e W T X _ k v h4).st (E.e W T X _ e v h5).se rfl (by rw[Co h2, Co h3];rfl) (by rw[hl];exact DH _) (Co h2) (Co h3) (by rw[Co h3];rfl) rfl
    · cases h
  |rel => exact absurd (show Ad = Ac from h) Ap
theorem S9(Z : SndS Γ CL k n)(W : XW)(T : Tc)(X : Cx)(xs : Ab Bb)(c : Ss)(v : VX Γ CL k W T X)(hf : DefX X)(h : chkSs (n+1) T xs c = Ac) : SSs X CL W xs (fun ρ => evSs Γ ρ c) := by
 cases c with
 |nil=>
  simp only[chkSs, List.isEmpty_iff]at h;subst h;exact Rm
 |cons s ss=>
  by_cases hr : ∃ i, s = .rel i
  ·obtain⟨i, rfl⟩ := hr;simp only[chkSs]at h;exact Rl i (Z.ss W T X xs ss v hf h)
  ·cases xs with
   |nil => cases s <;> first|(simp[chkSs]at h;done)|exact absurd ⟨_, rfl⟩ hr
   |cons st r=>
    have h' : DG n T st s = Ac /\ chkSs n T r ss = Ac := by
     cases s <;> first|(simp only[chkSs, Am]at h;exact h)|exact absurd ⟨_, rfl⟩ hr
    exact Qj (Z.s W T X st s v hf h'.1) (Z.ss W T X r ss v hf h'.2)
theorem JU : ∀ n, SndS Γ CL k n
 |0 => ⟨fun _ _ _ _ _ _ _ h => absurd (show Ad = Ac from h) Ap, fun _ _ _ _ _ _ _ h => absurd (show Ad = Ac from h) Ap⟩
 |n+1 => ⟨UU (JU n), S9 (JU n)⟩
end
theorem G0{n:Ag}{ds : Ab D}{i : Ag}{d:D}{o : An}(h : (BY n ds)[i]? = Aa (Aa (d, o))) : o = Ad /\ ds[i]? = Aa d := by
 unfold BY at h;by_cases hi : i<ds.length
 ·rw[De (by simpa using hi), CO]at h
  cases e : ds[i]? with
  |none => rw[e]at h;cases h
  |some x => rw[e]at h;cases h;exact⟨rfl, rfl⟩
 ·rw[NK (by simpa using Nat.le_of_not_lt hi), NL]at h
  split at h <;> cases h
theorem Pu{N : Ab Aj}{i : Ag}{v:V}(h : vs[i]? = Aa v) : (L2.start N vs)[i]? = Aa (Aa v) := by
 unfold L2.start;have hi := (AT.mp h).1;rw[De (by simpa using hi), CO, h]
 rfl
theorem Qh{K:Fg}{A:Ai -> Prop}{N : Ab Aj}{n:Ag}{ds : Ab D}(hn : N.length = n)(hA : AOk H A)(r : Reps K CL H A vs ds) : Sx K CL (fun b o => H b = Aa o) A (BY n ds) (L2.start N vs) H := by
 have own : ∀ a, Bp A (BY n ds) (L2.start N vs) a -> A a := fun a h => by
  rcases h with h|⟨j, d, h, _⟩
  ·exact h
  ·exact absurd (G0 h).1 (by decide)
 have hlen : (BY n ds).length = (L2.start N vs).length := by
  unfold BY L2.start;simp only[B0, BR, NO, r.length, hn]
 refine⟨⟨fun i d h => ?_, fun i d h => absurd (G0 h).1 (by decide), hlen⟩, fun a h => hA a (own a h), fun j d a h _ => absurd (G0 h).1 (by decide), fun i j d e a h _ _ _ => absurd (G0 h).1 (by decide), fun b o h => h, hlen⟩
 obtain⟨v, h1, h2⟩ := r.get (G0 h).2;exact⟨v, Pu h1, Rep.sub own _ h2⟩
noncomputable def GO(K : Fg)(mg : Aj -> Al Ah)(fns : Ab (Aj × Ag × Ag))(bl : Ab Aj)(rzs exs gls : Ab (Aj × Ag))(Pg : Prg)(fuel : Ag)(p : Aj × Ag × Ag) : Prop := ∃ f fd ps qual st N, mg p.1 = Aa (.ref f) /\ Fun K p.1 qual st f fd /\ EU K fd ps [] /\ ps.length = p.2.2%1000 /\ EW fuel (C4 1000 p.2.2) fns bl rzs exs gls ps N st (Pg.defs p.2.1) = Ac
structure Tab (K : Fg) (mg : Aj -> Al Ah) (CL : ClA) (fns : Ab (Aj × Ag × Ag)) (bl : Ab Aj) (rzs exs gls : Ab (Aj × Ag)) (Pg : Prg) (fuel : Ag) : Prop where
 xt : XT Pg.up Pg.xn CL rzs exs K mg
 bln : ∀ x, x ∈ bl -> mg x = Af
 gl : ∀ p ∈ gls, J7 K mg CL p.1 (Pg.G p.2)
 fn : ∀ p ∈ fns, GO K mg fns bl rzs exs gls Pg fuel p
theorem Tg(Pg : Prg)(n i : Ag) : (gam Pg n).fr i = (Pg.defs i).fr := by cases n <;> rfl
theorem Tf(Pg : Prg)(n : Ag) : (gam Pg n).up = Pg.up := by cases n <;> rfl
theorem VY(Pg : Prg)(n : Ag) : (gam Pg n).G = Pg.G := by cases n <;> rfl
theorem Te(Pg : Prg)(n : Ag) : (gam Pg n).xn = Pg.xn := by cases n <;> rfl
section
variable{P : AB}{w : AI}{K : Fg}{mg : Aj -> Al Ah}{base : AC}{CL : ClA}{fns : Ab (Aj × Ag × Ag)}{bl : Ab Aj}{rzs exs gls : Ab (Aj × Ag)}{Pg : Prg}{fuel : Ag}
noncomputable def Lvl(P : AB)(w : AI)(K : Fg)(mg : Aj -> Al Ah)(base : AC)(CL : ClA)(Pg : Prg)(n : Ag)(p : Aj × Ag × Ag) : Prop := ∃ f fd ps, mg p.1 = Aa (.ref f) /\ Cd K (.ref f) = Ac /\ EU K fd ps [] /\ ps.length = p.2.2%1000 /\ (p.2.2<1000 -> FnOk P w K mg base (CXR P w) n f fd ps (spD K CL (p.2.2%1000) ((gam Pg n).fr p.2.1) ((gam Pg n).F p.2.1))) /\ (1000 <= p.2.2 -> HotOk P w K mg base n f fd ps (spH K CL (p.2.2%1000) ((gam Pg n).fr p.2.1) ((gam Pg n).F p.2.1)))
theorem L3(t : Tab K mg CL fns bl rzs exs gls Pg fuel){n:Ag}(hlv : ∀ q ∈ fns, Lvl P w K mg base CL Pg n q){st : Bb}{f : Ai}{ps N : Ab Aj}(h2 : Fun K x qual st f fd)(h4 : ps.length = m)(h5 : EW fuel Ad fns bl rzs exs gls ps N st (Pg.defs id) = Ac):FnOk P w K mg base (CXR P w) (n+1) f fd ps (spD K CL m ((gam Pg (n+1)).fr id) ((gam Pg (n+1)).F id)) := by
  unfold EW at h5;simp only[Am, A7, Bh, NC, CH, Gs, ne_eq]at h5;obtain⟨⟨⟨⟨⟨⟨⟨⟨c1, c2⟩, c3⟩, c4⟩, c5⟩, c6⟩, c7⟩, c8⟩, c9⟩ := h5;obtain⟨oc, od, kV, doc, pm, an, cdv, ct, osl, rfl, lk, hcd⟩ := h2.ex;refine MM (N := N) lk hcd ⟨c1, c2, c3, HC c4, c5, c6, c7⟩ (fun vs H Q E ⟨ds, A, z, _⟩ => z.trans h4.symm) fun A outer s H vs Q E hr ⟨ds, B, hl, hA, hreps, hpost⟩ => ?_
  have xt : XT (gam Pg n).up (gam Pg n).xn CL rzs exs K mg := by rw[Tf, Te];exact t.xt
  have gl : ∀ p ∈ gls, J7 K mg CL p.1 ((gam Pg n).G p.2) := by rw[VY];exact t.gl
  have key : ∀ W : XW, (∀ x cls dx H', W x H' -> ER K CL H' cls dx x -> E cls dx H') -> BB K CL (fun b o => H b = Aa o) B W (evSs (gam Pg n) (BY (Pg.defs id).n ds) (Pg.defs id).body) {nx := fun _ H' => Q .non H', rt := Q} ->
      ∃ t, PSs (Ec (CXR P w) P w K mg base N qual (Dk st) f cdv A outer s H E) (EM st) t /\ t {nx := fun _ H' => Q .non H', rt := Q} (start N vs) H := fun W hW hp => by
    have v : VX (gam Pg n) CL n W ⟨Dk st, N, fns, bl, rzs, exs, gls⟩ (Ec (CXR P w) P w K mg base N qual (Dk st) f cdv A outer s H E) := ⟨rfl, c1, rfl, HC c4, rfl, hr, t.bln, hlv, ownR, V4 hW, rzR hW, xt, gl⟩;exact⟨_, (JU fuel).ss W _ _ _ (Pg.defs id).body v ⟨fun _ => rfl, rfl, rfl, rfl⟩ c9 (fun b o => H b = Aa o) B, _, Qh c8 hA hreps, hp⟩
  have no : ∀ x cls dx H', W0 x H' -> ER K CL H' cls dx x -> E cls dx H' := fun _ _ _ _ z => z.elim
  have e : (gam Pg (n+1)).F id ds = DY Pg.xs ((evSs (gam Pg n) (BY (Pg.defs id).n ds) (Pg.defs id).body).ans (Pg.defs id).fr) := rfl;rw[e, Tg]at hpost;have cutO : ∀ r : R D, (∀ x, r ≠ .exn x) -> DY Pg.xs r = r := fun r hr => by
    cases Pg.xs <;> cases r <;> first|rfl|exact absurd rfl (hr _)
  cases eo : evSs (gam Pg n) (BY (Pg.defs id).n ds) (Pg.defs id).body with
  |next ρ'=>
    refine key W0 no ?_;rw[eo]at hpost ⊢;cases ef : (Pg.defs id).fr with
    |true => rw[ef]at hpost;rw[cutO _ (by intro x z;cases z)]at hpost;exact hpost.elim
    |false=>
      rw[ef]at hpost;rw[cutO _ (by intro x z;cases z)]at hpost
      exact fun σ' H' x' => hpost .non H' (fun b o z => x'.same b o z) ⟨rfl, fun z => nomatch z⟩
  |ret d b=>
    refine key W0 no ?_;rw[eo]at hpost ⊢;intro v H' sm rp fr;have hp2 : (match DY Pg.xs (if ((Pg.defs id).fr&&(!b&&isL d)) = Ac then R.bad else R.ok d) with
      |.ok d => ∀ v H', As H H' -> CW K CL (Pg.defs id).fr H B H' v d -> Q v H'
      |.exn x => ∀ cls dx H', As H H' -> ER K CL H' cls dx x -> E cls dx H'
      | .bad => AW) := hpost
    cases ec : ((Pg.defs id).fr&&(!b&&isL d)) with
    |true => rw[ec, AE rfl, cutO _ (by intro x z;cases z)]at hp2;exact hp2.elim
    |false=>
      rw[ec, AF (by decide), cutO _ (by intro x z;cases z)]at hp2
      refine hp2 v H' sm ⟨rp, fun efr es hd => ?_⟩
      subst hd;have eb : b = Ac := by
        cases b with
        |true => rfl
        |false => rw[efr]at ec;cases ec
      obtain⟨a, xs, h1, h2, h3, h4⟩ := fr eb es rfl;refine⟨a, xs, h1, ?_, h3, h4⟩;cases ha : H a with
      |none => rfl
      |some o => exact absurd ha (h2 o)
  |brk ρ' => rw[eo]at hpost;have hp2 : (match DY Pg.xs (R.bad : R D) with | .ok _ => _ | .exn _ => _ | .bad => AW) := hpost;rw[cutO _ (by intro x z;cases z)]at hp2;exact hp2.elim
  |cont ρ' => rw[eo]at hpost;have hp2 : (match DY Pg.xs (R.bad : R D) with | .ok _ => _ | .exn _ => _ | .bad => AW) := hpost;rw[cutO _ (by intro x z;cases z)]at hp2;exact hp2.elim
  |bad => rw[eo]at hpost;have hp2 : (match DY Pg.xs (R.bad : R D) with | .ok _ => _ | .exn _ => _ | .bad => AW) := hpost;rw[cutO _ (by intro x z;cases z)]at hp2;exact hp2.elim
  |exn x ρ'=>
    rw[eo]at hpost;have hp2 : (match DY Pg.xs (R.exn x : R D) with
      |.ok d => ∀ v H', As H H' -> CW K CL (Pg.defs id).fr H B H' v d -> Q v H'
      |.exn x => ∀ cls dx H', As H H' -> ER K CL H' cls dx x -> E cls dx H'
      | .bad => AW) := hpost
    cases ex : Pg.xs with
    |false => rw[ex]at hp2;exact hp2.elim
    |true=>
      rw[ex]at hp2;have hp3 : ∀ cls dx H', As H H' -> ER K CL H' cls dx x -> E cls dx H' := hp2;refine key (fun y H' => y = x /\ As H H') (fun y cls dx H' ⟨e1, sm⟩ xr => ?_) ?_
      · subst e1;exact hp3 cls dx H' sm xr
      · rw[eo];exact fun H' sm => ⟨rfl, sm⟩
theorem TC(t : Tab K mg CL fns bl rzs exs gls Pg fuel){n:Ag}(hlv : ∀ q ∈ fns, Lvl P w K mg base CL Pg n q){st : Bb}{f : Ai}{ps N : Ab Aj}(h2 : Fun K x qual st f fd)(h4 : ps.length = m)(h5 : EW fuel Ac fns bl rzs exs gls ps N st (Pg.defs id) = Ac):HotOk P w K mg base (n+1) f fd ps (spH K CL m ((gam Pg (n+1)).fr id) ((gam Pg (n+1)).F id)) := by
 exfalso
 unfold EW at h5;simp[MK]at h5
theorem Jy(t : Tab K mg CL fns bl rzs exs gls Pg fuel) : ∀ n, ∀ p ∈ fns, Lvl P w K mg base CL Pg n p
 |0, p, hp => by
  obtain⟨f, fd, ps, qual, st, N, h1, h2, h3, h4, h5⟩ := t.fn p hp;exact⟨f, fd, ps, h1, h2.kp, h3, h4, fun _ => ⟨fun vs H Q E ⟨ds, A, _, _, _, z⟩ => z.elim, fun A outer s H args us vs Q E _ _ _ _ ⟨ds, A, _, _, _, z⟩ => z.elim⟩, fun _ => ⟨fun vs H Q E ⟨ds, A, _, _, _, z⟩ => z.elim, fun A ev outer s H args us vs Q E _ _ _ _ ⟨ds, A, _, _, _, z⟩ => z.elim⟩⟩
 |n+1, p, hp => by
  obtain⟨f, fd, ps, qual, st, N, h1, h2, h3, h4, h5⟩ := t.fn p hp;refine⟨f, fd, ps, h1, h2.kp, h3, h4, fun hlt => ?_, fun hge => ?_⟩
  ·have eb : C4 1000 p.2.2 = Ad := by
    cases e : C4 1000 p.2.2 with
    |false => rfl
    |true => exact absurd (NZ e) (by omega)
   rw[eb]at h5;exact L3 t (fun q hq => Jy t n q hq) h2 h4 h5
  ·rw[DJ hge]at h5;exact TC t (fun q hq => Jy t n q hq) h2 h4 h5
theorem Uz{s s' : Ak}{e : Ah}(h : CXR P w [] H s (fun _ _ _ => AW) e s') : AW := by
 obtain⟨_, _, _, _, _, _, _, _, _, _, _, _, _, _, _, z⟩ := h;exact z
theorem Qv{up:Ag -> Ab Ag}{xn:Ag -> Ab D -> R Ex}(h : ∀ c ds, xn c ds = .bad) : XT up xn (fun _ => Af) [] [] K mg := ⟨fun _ _ z => (nomatch z), fun _ z => (nomatch z), fun _ z => (nomatch z), fun c _ ds z => .inl (h c ds), fun _ _ z => (nomatch z), fun c _ ds => h c ds⟩
noncomputable def HV(K : Fg) : Sp := fun vs H Q _ => ∃(a : Ai)(ns : Ab Ae), vs = [.ref a] /\ ns.length <= 63 /\ SqL K H a (ns.map V.int) /\ ∀ v H', v = V.bl Ac -> Q v H'
theorem law_fn{CX:CXT}{k:Ag}{f : Ai}{ps:Ab Aj}{F:Ab D -> R D}(G : FnOk P w K mg base CX k f fd ps (spD K CL 1 Ad F))(h : ∀ ns : Ab Ae, F [.lst (ns.map .int)] = .ok (.bl Ac)) : FnOk P w K mg base CX k f fd ps (HV K) := G.imp fun vs H Q E ⟨a, ns, e, hl, hS, q⟩ => by
 subst e;have rs : ∀ l : Ab Ae, Reps K CL H A0 (l.map V.int) (l.map D.int) := fun l => by
  induction l with
  |nil => trivial
  |cons x l ih => exact⟨rfl, ih⟩
 refine⟨[.lst (ns.map .int)], A0, rfl, fun _ z => z.elim, ⟨⟨a, _, rfl, .inl (fun z => z), hS, rs ns⟩, trivial⟩, ?_⟩
 rw[h ns];exact fun v H' _ r => q v H' r.1
theorem Jo{Q : α -> Prop} : ∀ x ∈ ([] : Ab α), Q x := fun _ h => nomatch h
theorem all_cons{Q : α -> Prop}{a : α}{l : Ab α}(h1 : Q a)(h2 : ∀ x ∈ l, Q x) : ∀ x ∈ a::l, Q x := List.forall_mem_cons.2 ⟨h1, h2⟩
noncomputable def FnI(K : Fg)(f : Ai)(n : Aj)(st : Bb) : Prop := ∃ fd, Fun K n n st f fd /\ BM K AU n = Aa (Aa (.ref f))
theorem fni{st : Bb}{f : Ai}{oc:Ah}{od an:Al Ai}{osl:A6 (Al Ah)}{kV doc pm cdv ct : Ah}(a : BM K AU n = Aa (Aa (.ref f)))(l : K.lookup f = Aa ⟨oc, od, .func (CA n n (GF st) (EM st) (Dk st) .none kV doc pm an cdv ct), osl⟩)(c : D7 K cdv n = Ac)(k : Cd K (.ref f) = Ac) : FnI K f n st := ⟨_, Th l c k, a⟩
noncomputable def Bd(n : Aj)(st : Bb)(ps : Ab Aj)(us : Ab Ah) : Prop := ∀(kV doc pm : Ah)(an : Al Ai)(cdv ct : Ah), GY (CA n n (GF st) (EM st) (Dk st) .none kV doc pm an cdv ct) ⟨us, []⟩ = pure (ps.zip us)
theorem HU{f : Ai}{st : Bb}{ps N : Ab Aj}(m id : Ag)(X : K.In h)(G : h.Ns AU mg)(A : FnI K f n st)(hl : ps.length = m%1000)(hc : EW fuel (C4 1000 m) fns bl rzs exs gls ps N st (Pg.defs id) = Ac)(hb : ∀ us : Ab Ah, us.length = ps.length -> Bd n st ps us) : GO K mg fns bl rzs exs gls Pg fuel (n, id, m) := by
 obtain⟨fd, F, a⟩ := A;exact⟨_, _, _, _, _, _, FD X G a, F, F.binds fun kV doc pm an cdv ct us hu => hb us hu kV doc pm an cdv ct, hl, hc⟩
theorem Ig{f : Ai}{st : Bb}{N : Ab Aj}(m id : Ag)(X : K.In h)(G : h.Ns AU mg)(A : FnI K f n st)(hl : 1 = m%1000)(hc : EW fuel (C4 1000 m) fns bl rzs exs gls [x0] N st (Pg.defs id) = Ac)(hb : ∀ u0, Bd n st [x0] [u0]) : GO K mg fns bl rzs exs gls Pg fuel (n, id, m):=
 HU (ps := [x0]) m id X G A hl hc fun us hu => match us, hu with | [u0], _ => hb u0
theorem Fw{f : Ai}{st : Bb}{N : Ab Aj}(m id : Ag)(X : K.In h)(G : h.Ns AU mg)(A : FnI K f n st)(hl : 2 = m%1000)(hc : EW fuel (C4 1000 m) fns bl rzs exs gls [x0, x1] N st (Pg.defs id) = Ac)(hb : ∀ u0 u1, Bd n st [x0, x1] [u0, u1]) : GO K mg fns bl rzs exs gls Pg fuel (n, id, m):=
 HU (ps := [x0, x1]) m id X G A hl hc fun us hu => match us, hu with | [u0, u1], _ => hb u0 u1
theorem Ie{f : Ai}{st : Bb}{N : Ab Aj}{x2:Aj}(m id : Ag)(X : K.In h)(G : h.Ns AU mg)(A : FnI K f n st)(hl : 3 = m%1000)(hc : EW fuel (C4 1000 m) fns bl rzs exs gls [x0, x1, x2] N st (Pg.defs id) = Ac)(hb : ∀ u0 u1 u2, Bd n st [x0, x1, x2] [u0, u1, u2]) : GO K mg fns bl rzs exs gls Pg fuel (n, id, m):=
 HU (ps := [x0, x1, x2]) m id X G A hl hc fun us hu => match us, hu with | [u0, u1, u2], _ => hb u0 u1 u2
theorem WS{f : Ai}{st : Bb}{N : Ab Aj}{x2 x3:Aj}(m id : Ag)(X : K.In h)(G : h.Ns AU mg)(A : FnI K f n st)(hl : 4 = m%1000)(hc : EW fuel (C4 1000 m) fns bl rzs exs gls [x0, x1, x2, x3] N st (Pg.defs id) = Ac)(hb : ∀ u0 u1 u2 u3, Bd n st [x0, x1, x2, x3] [u0, u1, u2, u3]) : GO K mg fns bl rzs exs gls Pg fuel (n, id, m):=
 HU (ps := [x0, x1, x2, x3]) m id X G A hl hc fun us hu => match us, hu with | [u0, u1, u2, u3], _ => hb u0 u1 u2 u3
end
end Ov
namespace OvC
open PySem Ov
variable{x p y:Ae}{d:D}{xs k:Ab Ae}{Γ:Gam}{ρ:Rho}{m n:Ag}{kvs:Ab (Ab Ae × D)}
noncomputable abbrev tr(a b c : Ae) : D := .tup [.int a, .int b, .int c]
noncomputable def det(a0 a1 a2 b0 b1 b2 c0 c1 c2 : Ae) : Ae := a0*(b1*c2-b2*c1)-a1*(b0*c2-b2*c0)+a2*(b0*c1-b1*c0)
noncomputable def Sm(x : Ae) : Prop := 0 <= x /\ x<11
theorem mo(h : Sm x)(y : Ae) : BG x y = Ac := D9 (by have := h.1;omega) (by have := h.2;omega)
theorem g30(x y z : D) : CB [x, y, z] 0 = .ok x := rfl
theorem g31(x y z : D) : CB [x, y, z] 1 = .ok y := rfl
theorem g32(x y z : D) : CB [x, y, z] 2 = .ok z := rfl
theorem WT : Dc 0 3 = [.int 0, .int 1, .int 2] := rfl
theorem Sm.of(h : P4 p)(x : Ae) : Sm (x%p) := ⟨Bc _ (by have := h.pos;omega), by have := A4 x h.pos;have := h.hi;omega⟩
theorem K2{body : D -> Rho -> O}(I : Rho -> Prop)(g : Ae -> An) :∀(L :Ab Ae),(∀ t ∈ L,∀ ρ,I ρ->(g t = Ac/\body (.int t) ρ = .ret (.int t) Ad)\/(g t = Ad/\∃ ρ',body (.int t) ρ = .next ρ'/\I ρ'))->∀ ρ,I ρ->(∃ t ∈ L,g t = Ac/\CG body (L.map D.int) ρ = .ret (.int t) Ad)\/((∀ t ∈ L,g t = Ad)/\∃ ρ',CG body (L.map D.int) ρ = .next ρ'/\I ρ')
 |[], _, ρ, i => .inr ⟨(fun _ h => nomatch h), ρ, rfl, i⟩
 |m::L, h, ρ, i => by
  rcases h m (Au ..) ρ i with ⟨e1, e2⟩|⟨e1, ρ', e2, i'⟩
  ·refine .inl ⟨m, Au .., e1, ?_⟩;show (body (.int m) ρ).turn _ = _;rw[e2];rfl
  ·rcases K2 I g L (fun m' h' => h m' (Ar _ h')) ρ' i' with ⟨t, ht, a, b⟩|⟨a, r, b, c⟩
   ·refine .inl ⟨t, Ar _ ht, a, ?_⟩;show (body (.int m) ρ).turn _ = _;rw[e2];exact b
   ·refine .inr ⟨fun t ht => ?_, r, ?_, c⟩
    ·rcases AM.mp ht with rfl|ht
     ·exact e1
     ·exact a t ht
    ·show (body (.int m) ρ).turn _ = _;rw[e2];exact b
noncomputable def Gu : Ss := (.cons (.ife (.cmp .Eq (.call 1 (.cons (.var 0) (.cons (.bin .Mult (.var 1) (.var 2)) .nil))) (.int 1)) (.cons (.ret (.var 2)) .nil) .nil) .nil)
noncomputable def Hu : Df := ⟨3, Ad, (.cons (.fors 2 (.rng2 (.int 1) (.var 0)) Gu) (.cons (.rais 2 (.cons (.str (CT "a number with the rest 0 is not turned over")) .nil)) .nil))⟩
noncomputable def D0(p : Ae) : Ab Ae := (B7 (p-1).toNat).map fun(k : Ag) => 1+(k : Ae)
theorem Gy{t:Ae} : t ∈ D0 p ↔ 1 <= t /\ t<p := by
 unfold D0;rw[List.mem_map];constructor
 ·rintro⟨k, hk, rfl⟩;have := Cc.mp hk;omega
 ·rintro⟨h1, h2⟩;exact⟨(t-1).toNat, Cc.mpr (by omega), by omega⟩
theorem Lq(h : P4 p) : CF 1 p = .ok ((D0 p).map D.int) := by
 rcases h with rfl|rfl|rfl|rfl <;> rfl
theorem R9 : ∀ p : Fin 12, (p.val = 3 \/ p.val = 5 \/ p.val = 7 \/ p.val = 11) -> ∀ r : Fin 12, r.val<p.val -> r.val ≠ 0 -> ∃ t : Fin 12, 1 <= t.val /\ t.val<p.val /\ r.val*t.val%p.val = 1 := by decide +kernel
theorem GH{n:Ae}(h : P4 p)(hn : n%p ≠ 0) : ∃ t, 1 <= t /\ t<p /\ n*t%p = 1 := by
 have p0 : 0<p /\ p<12 := by rcases h with rfl|rfl|rfl|rfl <;> decide
 obtain⟨q, rfl⟩ : ∃ q : Ag, p = q := ⟨p.toNat, by omega⟩
 have h0 := Bc n (b := (q : Ae)) (by omega)
 have h1 := A4 n p0.1;obtain⟨r, hr⟩ : ∃ r : Ag, n%(q : Ae) = r := ⟨(n%(q : Ae)).toNat, by omega⟩
 obtain⟨t, t1, t2, t3⟩ := R9 ⟨q, by omega⟩ (by rcases h with e|e|e|e <;> simp <;> omega) ⟨r, by omega⟩ (by show r<q;omega) (by show r ≠ 0;omega)
 refine⟨(t.val : Ae), by omega, by show (t.val : Ae)<q;exact Int.ofNat_lt.mpr t2, ?_⟩
 have e : ((r*t.val%q : Ag) : Ae) = 1 := by rw[show r*t.val%q = 1 from t3];rfl
 rw[<-e, Int.natCast_emod, Int.natCast_mul, <-hr];exact(Bk n _ _).trans (by rw[Bk (n%(q : Ae)) (t.val : Ae) (q : Ae), A1 n (BJ _)])
theorem DC{r:R D}(h : r = .ok d) : DY Ac r = .ok d := by rw[h];rfl
noncomputable def Eu(p n t : Ae) : Prop := 1 <= t /\ t<p /\ n*t%p = 1
theorem KO{n t u:Ae}(h1 : Eu p n t)(h2 : Eu p n u) : t = u := by
 have hp : 1<p := by have := h1.1;have := h1.2.1;omega
 have e : t%p = u%p := by
  have a : t%p = t*(n*u)%p := by rw[Bk, h2.2.2, E1, A1 _ (BJ p)]
  have b : u%p = (n*t)*u%p := by rw[Bk (n*t) u p, h1.2.2, Ee, A1 _ (BJ p)]
  rw[a, b]
  congr 1
  rw[<-Ej, Ch t n]
 rw[Ax (by have := h1.1;omega) h1.2.1, Ax (by have := h2.1;omega) h2.2.1]at e
 exact e
theorem E4{c:Ae}(hp : P4 p)(hc : c%p ≠ 0)(hx : x%p ≠ 0) : c*x%p ≠ 0 := fun z => by
 obtain⟨t, _, _, e⟩ := GH hp hc;refine hx ?_;have e1 : x%p = (c*t)*x%p := by rw[Bk (c*t) x p, e, Ee, A1 _ (BJ p)]
 rw[e1, show c*t*x = t*(c*x) by rw[Ch c t, Ej], Bk, z, Ny, Ek]
noncomputable def Ba(p : Ae) : Ab Ae -> Al Ae
 |[] => Af
 |x::xs => if x%p = 0 then Ba p xs else Aa (x%p)
theorem HE{p : Ae} : ∀{xs : Ab Ae}, Ba p xs = Af ↔ ∀ x ∈ xs, x%p = 0
 |[] => by simp[Ba]
 |x::xs => by
  unfold Ba;by_cases h : x%p = 0
  ·rw[AE h, HE (xs := xs)];simp[h]
  ·rw[AF h];simp[h]
theorem G9{p l : Ae}(hp : 0<p) : ∀{xs : Ab Ae}, Ba p xs = Aa l -> l%p ≠ 0 /\ 0<l /\ l<p
 |[], h => by cases h
 |x::xs, h => by
  unfold Ba at h;by_cases hx : x%p = 0
  ·rw[AE hx]at h;exact G9 hp h
  ·rw[AF hx]at h;cases h;have h0 := Bc x (b := p) (by omega)
   have h1 := A4 x hp;exact⟨by rw[A1 _ (BJ p)];exact hx, by omega, h1⟩
theorem G6{p c : Ae}(hp : P4 p)(hc : c%p ≠ 0){f : Ae -> Ae}(hf : ∀ x, f x%p = c*x%p) : ∀ xs : Ab Ae, Ba p (xs.map f) = (Ba p xs).map fun l => c*l%p
 |[] => rfl
 |x::xs => by
  rw[Bj];unfold Ba;rw[hf x];by_cases hx : x%p = 0
  ·rw[AE hx, AE (by rw[Bk, hx, Ny, Ek]), G6 hp hc hf xs]
  ·rw[AF hx, AF (E4 hp hc hx), Dh]
   congr 1
   rw[Bk c (x%p), A1 _ (BJ p), <-Bk]
noncomputable def ds(xs : Ab Ae) : Ab D := xs.map D.int
noncomputable def B4(b : An)(xs : Ab Ae) : D := if b = Ac then .tup (ds xs) else .lst (ds xs)
theorem K5(b xs) : Db (B4 b xs) = .ok (ds xs) := by unfold B4;cases b <;> rfl
theorem GB{g : D -> R An}{f : D -> R D}{φ : Ae -> Ae} : ∀(xs : Ab Ae), (∀ x ∈ xs, g (.int x) = .ok Ac /\ f (.int x) = .ok (.int (φ x))) -> Br g f (ds xs) = .ok (ds (xs.map φ))
 |[], _ => rfl
 |x::xs, h => by
  obtain⟨h1, h2⟩ := h x (Au ..);show (g (.int x)).bind _ = _;rw[h1, R.bind_ok, AE rfl, h2, R.bind_ok];show (Br g f (ds xs)).bind _ = _;rw[GB xs fun y hy => h y (Ar _ hy)]
  rfl
noncomputable def Ke : E := (.bl Ac)
noncomputable def IE : E := (.call 1 (.cons (.var 0) (.cons (.var 5) .nil)))
noncomputable def Kd : E := (.bl Ac)
noncomputable def ID : E := (.call 1 (.cons (.var 0) (.cons (.bin .Mult (.var 4) (.var 6)) .nil)))
noncomputable def EN : Ss := (.cons (.ife (.cmp .NotEq (.var 3) (.int 0)) (.cons (.asg 4 Ad (.call 9 (.cons (.var 0) (.cons (.var 3) .nil)))) (.cons (.ret (.bi .tuple (.cons (.comp ID 6 (.e (.var 2)) Kd) .nil))) .nil)) .nil) .nil)
noncomputable def HB : Df := ⟨7, Ad, (.cons (.asg 2 Ad (.comp IE 5 (.e (.var 1)) Ke)) (.cons (.fors 3 (.e (.var 2)) EN) (.cons (.rais 3 (.cons (.str (CT "all the numbers have the rest 0")) .nil)) .nil)))⟩
noncomputable def fmI(p t : Ae)(xs : Ab Ae) : Ab Ae := xs.map fun x => t*(x%p)%p
section
variable{Γ : Gam}{p : Ae}{xs : Ab Ae}{b : An}
end
theorem IA{g : D -> R An}{f : D -> R D}{q : Ae -> An} : ∀(xs : Ab Ae), (∀ x ∈ xs, g (.int x) = .ok (q x) /\ f (.int x) = .ok (.int x)) -> Br g f (ds xs) = .ok (ds (xs.filter q))
 |[], _ => rfl
 |x::xs, h => by
  obtain⟨h1, h2⟩ := h x (Au ..);have ih := IA xs fun y hy => h y (Ar _ hy)
  show (g (.int x)).bind _ = _;rw[h1, R.bind_ok];cases hq : q x with
  |true=>
   rw[AE rfl, h2, R.bind_ok, ED, hq, AE rfl];show (Br g f (ds xs)).bind _ = _;rw[ih];rfl
  |false=>
   rw[AF (by decide), ED, hq, AF (by decide)]
   exact ih
theorem Kq{p : Ae}(hp : 0<p) : ∀(xs : Ab Ae), ((xs.map fun x => x%p).filter fun r => decide (0<r)).head? = Ba p xs
 |[] => rfl
 |x::xs => by
  have h0 := Bc x (b := p) (by omega)
  unfold Ba;rw[Bj, ED];by_cases h : x%p = 0
  ·rw[AE h, AF (by simp[h]), Kq hp xs]
  ·rw[AF h, AE (by simp;omega)]
   rfl
theorem OY{p l t : Ae}(it : Eu p l t) : ((D0 p).filter fun k => decide (k*l%p = 1)).head? = Aa t := by
 have hm : t ∈ (D0 p).filter fun k => decide (k*l%p = 1) := DN.mpr ⟨Gy.mpr ⟨it.1, it.2.1⟩, by simp[Ch t l, it.2.2]⟩
 cases e : (D0 p).filter fun k => decide (k*l%p = 1) with
 |nil => rw[e]at hm;cases hm
 |cons u us=>
  have hu : u ∈ (D0 p).filter fun k => decide (k*l%p = 1) := by rw[e];exact Au ..
  obtain⟨h1, h2⟩ := DN.mp hu;obtain⟨a, b⟩ := Gy.mp h1;have h3 : u*l%p = 1 := by simpa using h2
  rw[KO it ⟨a, b, by rw[Ch];exact h3⟩]
  rfl
theorem KQ{l : Ae}(h : xs.head? = Aa l) : CB (ds xs) 0 = .ok (.int l) := by
 cases xs with
 |nil => cases h
 |cons x xs => cases h;exact Jh (by omega) rfl
theorem Lm : ∀ xs : Ab Ae, Et (xs.map fun _ => D.bl Ac) = .ok Ac
 |[] => rfl
 |x::xs => by
  rw[Bj, Je, Lm xs];rfl
theorem Lw{g : D -> R An}{f : D -> R D} : ∀(xs : Ab Ae), (∀ x ∈ xs, g (.int x) = .ok Ac /\ f (.int x) = .ok (.bl Ac)) -> Br g f (ds xs) = .ok (xs.map fun _ => D.bl Ac)
 |[], _ => rfl
 |x::xs, h => by
  obtain⟨h1, h2⟩ := h x (Au ..);show (g (.int x)).bind _ = _;rw[h1, R.bind_ok, AE rfl, h2, R.bind_ok];show (Br g f (ds xs)).bind _ = _;rw[Lw xs fun y hy => h y (Ar _ hy)]
  rfl
noncomputable abbrev own(xs : Ab Ae) : Sl := Aa (.lst (ds xs), Ac)
section
variable{Γ : Gam}{ns : Ab Ae}{a1 a2 a4 a6 a7 a8 a9 b0 b1 b2 b3 b4 : Sl}{p : Ae}
end
section
variable{Γ : Gam}{ns : Ab Ae}{a1 a4 a6 a7 a8 a9 b2 b3 b4 : Sl}{p m : Ae}{xs : Ab Ae}
end
noncomputable def Cg(p x y : Ae) : Prop := x%p = y%p
section
variable{p a b c d : Ae}
theorem Cg.rfl : Cg p a a := Eq.refl _
theorem Cg.of(h : a = b) : Cg p a b := by unfold Cg;rw[h]
theorem Cg.trans{a b c : Ae}(h : Cg p a b)(g : Cg p b c) : Cg p a c := Eq.trans h g
theorem Cg.symm(h : Cg p a b) : Cg p b a := Eq.symm h
theorem Cg.add(h : Cg p a b)(g : Cg p c d) : Cg p (a+c) (b+d) := by unfold Cg at *;rw[Nw, h, g, <-Nw]
theorem Cg.sub(h : Cg p a b)(g : Cg p c d) : Cg p (a-c) (b-d) := by unfold Cg at *;rw[Nz, h, g, <-Nz]
theorem Cg.mul(h : Cg p a b)(g : Cg p c d) : Cg p (a*c) (b*d) := by unfold Cg at *;rw[Bk, h, g, <-Bk]
theorem Cg.md(h : a = b%p) : Cg p a b := by unfold Cg;rw[h, A1 _ (BJ p)]
end
theorem EQ{p a0 a1 a2 b0 b1 b2 c0 c1 c2 x0 x1 x2 y0 y1 y2 z0 z1 z2 : Ae}(h0 : Cg p a0 x0)(h1 : Cg p a1 x1)(h2 : Cg p a2 x2)(h3 : Cg p b0 y0)(h4 : Cg p b1 y1)(h5 : Cg p b2 y2)(h6 : Cg p c0 z0)(h7 : Cg p c1 z1)(h8 : Cg p c2 z2):Cg p (a0*(b1*c2-b2*c1)-a1*(b0*c2-b2*c0)+a2*(b0*c1-b1*c0)) (x0*(y1*z2-y2*z1)-x1*(y0*z2-y2*z0)+x2*(y0*z1-y1*z0)):=
 ((h0.mul ((h4.mul h8).sub (h5.mul h7))).sub (h1.mul ((h3.mul h8).sub (h5.mul h6)))).add (h2.mul ((h3.mul h7).sub (h4.mul h6)))
theorem P4.m1(h : P4 p) : (-1 : Ae)%p ≠ 0 := by rcases h with rfl|rfl|rfl|rfl <;> decide
theorem P4.o1(h : P4 p) : (1 : Ae)%p ≠ 0 := by rcases h with rfl|rfl|rfl|rfl <;> decide
noncomputable abbrev R3 := Ae × Ae × Ae
variable{a r g:R3}
noncomputable def AY(a : R3) : D := .lst [.int a.1, .int a.2.1, .int a.2.2]
noncomputable def AO(a b c : R3) : Ae := det a.1 a.2.1 a.2.2 b.1 b.2.1 b.2.2 c.1 c.2.1 c.2.2
noncomputable def In3(p : Ae)(a : R3) : Prop := (0 <= a.1 /\ a.1<p) /\ (0 <= a.2.1 /\ a.2.1<p) /\ (0 <= a.2.2 /\ a.2.2<p)
structure GoodR (p : Ae) (a b c : R3) : Prop where
 p4 : P4 p
 ia : In3 p a
 ib : In3 p b
 ic : In3 p c
 nz : AO a b c%p ≠ 0
theorem GoodR.of{k:Ae}{a b c a' b' c' : R3}(h : GoodR p a b c)(hk : k%p ≠ 0)(e : Cg p (AO a' b' c') (k*AO a b c))(hin : In3 p a' /\ In3 p b' /\ In3 p c') : GoodR p a' b' c' := ⟨h.p4, hin.1, hin.2.1, hin.2.2, by rw[show AO a' b' c'%p = _ from e];exact E4 h.p4 hk h.nz⟩
noncomputable def Gi(t : Ae)(a : R3) : R3 := (a.1*t, a.2.1*t, a.2.2*t)
noncomputable def Ed(t : Ae)(a b : R3) : R3 := (a.1+t*b.1, a.2.1+t*b.2.1, a.2.2+t*b.2.2)
noncomputable def mdR(p : Ae)(a : R3) : R3 := (a.1%p, a.2.1%p, a.2.2%p)
noncomputable def scR(p t : Ae)(a : R3) : R3 := mdR p (Gi t a)
noncomputable def adR(p t : Ae)(a b : R3) : R3 := mdR p (Ed t a b)
theorem MC(h : 0<p)(a : R3) : In3 p (mdR p a) := ⟨⟨Bc _ (by omega), A4 _ h⟩, ⟨Bc _ (by omega), A4 _ h⟩, ⟨Bc _ (by omega), A4 _ h⟩⟩
theorem GK(h : 0<p)(t : Ae)(a : R3) : In3 p (scR p t a) := MC h _
theorem GL(h : 0<p)(t : Ae)(a b : R3) : In3 p (adR p t a b) := MC h _
theorem Nh(p t : Ae)(a b c : R3) : Cg p (AO (scR p t a) b c) (t*AO a b c) := by
 refine Cg.trans (b := AO (Gi t a) b c) ?_ (Cg.of (by unfold AO det Gi;grind))
 unfold AO det;exact EQ (Cg.md (by rfl)) (Cg.md (by rfl)) (Cg.md (by rfl)) Cg.rfl Cg.rfl Cg.rfl Cg.rfl Cg.rfl Cg.rfl
theorem Wq(p t : Ae)(a b c : R3) : Cg p (AO (adR p t a b) b c) (1*AO a b c) := by
 refine Cg.trans (b := AO (Ed t a b) b c) ?_ (Cg.of (by unfold AO det Ed;grind))
 unfold AO det;exact EQ (Cg.md (by rfl)) (Cg.md (by rfl)) (Cg.md (by rfl)) Cg.rfl Cg.rfl Cg.rfl Cg.rfl Cg.rfl Cg.rfl
theorem Wp(p t : Ae)(a b c : R3) : Cg p (AO (adR p t a c) b c) (1*AO a b c) := by
 refine Cg.trans (b := AO (Ed t a c) b c) ?_ (Cg.of (by unfold AO det Ed;grind))
 unfold AO det;exact EQ (Cg.md (by rfl)) (Cg.md (by rfl)) (Cg.md (by rfl)) Cg.rfl Cg.rfl Cg.rfl Cg.rfl Cg.rfl Cg.rfl
theorem Ng(p t : Ae)(a b c : R3) : Cg p (AO a (scR p t b) c) (t*AO a b c) := by
 refine Cg.trans (b := AO a (Gi t b) c) ?_ (Cg.of (by unfold AO det Gi;grind))
 unfold AO det;exact EQ Cg.rfl Cg.rfl Cg.rfl (Cg.md (by rfl)) (Cg.md (by rfl)) (Cg.md (by rfl)) Cg.rfl Cg.rfl Cg.rfl
theorem Wo(p t : Ae)(a b c : R3) : Cg p (AO a (adR p t b a) c) (1*AO a b c) := by
 refine Cg.trans (b := AO a (Ed t b a) c) ?_ (Cg.of (by unfold AO det Ed;grind))
 unfold AO det;exact EQ Cg.rfl Cg.rfl Cg.rfl (Cg.md (by rfl)) (Cg.md (by rfl)) (Cg.md (by rfl)) Cg.rfl Cg.rfl Cg.rfl
theorem Wn(p t : Ae)(a b c : R3) : Cg p (AO a (adR p t b c) c) (1*AO a b c) := by
 refine Cg.trans (b := AO a (Ed t b c) c) ?_ (Cg.of (by unfold AO det Ed;grind))
 unfold AO det;exact EQ Cg.rfl Cg.rfl Cg.rfl (Cg.md (by rfl)) (Cg.md (by rfl)) (Cg.md (by rfl)) Cg.rfl Cg.rfl Cg.rfl
theorem Nf(p t : Ae)(a b c : R3) : Cg p (AO a b (scR p t c)) (t*AO a b c) := by
 refine Cg.trans (b := AO a b (Gi t c)) ?_ (Cg.of (by unfold AO det Gi;grind))
 unfold AO det;exact EQ Cg.rfl Cg.rfl Cg.rfl Cg.rfl Cg.rfl Cg.rfl (Cg.md (by rfl)) (Cg.md (by rfl)) (Cg.md (by rfl))
theorem Wm(p t : Ae)(a b c : R3) : Cg p (AO a b (adR p t c a)) (1*AO a b c) := by
 refine Cg.trans (b := AO a b (Ed t c a)) ?_ (Cg.of (by unfold AO det Ed;grind))
 unfold AO det;exact EQ Cg.rfl Cg.rfl Cg.rfl Cg.rfl Cg.rfl Cg.rfl (Cg.md (by rfl)) (Cg.md (by rfl)) (Cg.md (by rfl))
theorem Wl(p t : Ae)(a b c : R3) : Cg p (AO a b (adR p t c b)) (1*AO a b c) := by
 refine Cg.trans (b := AO a b (Ed t c b)) ?_ (Cg.of (by unfold AO det Ed;grind))
 unfold AO det;exact EQ Cg.rfl Cg.rfl Cg.rfl Cg.rfl Cg.rfl Cg.rfl (Cg.md (by rfl)) (Cg.md (by rfl)) (Cg.md (by rfl))/-! ### draws -/
noncomputable def Hh(ns : Ab Ae)(k : Ae) : Ae := if k<ns.length then ns.getD k.toNat 0 else 0
noncomputable def FU(ns : Ab Ae)(k : Ae) : Ae := (Hh ns k%1000003+7919*k+11)*48271%1000033*69621%999983
theorem R1(ns k) : 0 <= FU ns k := by unfold FU;omega
noncomputable def Ht : Df := ⟨3, Ad, (.cons (.asg 2 Ad (.int 0)) (.cons (.ife (.cmp .Lt (.var 1) (.bi .len (.cons (.var 0) .nil))) (.cons (.asg 2 Ad (.idx (.var 0) (.var 1))) .nil) .nil) (.cons (.ret (.bin .Mod (.bin .Mult (.bin .Mod (.bin .Mult (.bin .Add (.bin .Add (.bin .Mod (.var 2) (.int 1000003)) (.bin .Mult (.int 7919) (.var 1))) (.int 11)) (.int 48271)) (.int 1000033)) (.int 69621)) (.int 999983))) .nil)))⟩
noncomputable def HQ(Γ : Gam) : Prop := ∀(ns : Ab Ae)(k : Ae), 0 <= k -> Γ.F 79 [scr ns, .int k] = .ok (.int (FU ns k))
theorem Sc{ns:Ab Ae}{k:Ae}(h0 : 0 <= k)(h1 : k<ns.length) : CB (ns.map D.int) k = .ok (.int (ns.getD k.toNat 0)) := Jh h0 (by
 have : k.toNat<ns.length := by omega
 simp[this])
theorem TF(Γ : Gam)(ns : Ab Ae)(k : Ae)(h0 : 0 <= k) : Ht.run Γ [scr ns, .int k] = .ok (.int (FU ns k)) := by
 have m1 : BG 7919 k = Ac := D9 (by decide) (by decide)
 have m2 : ∀ x, BG x 48271 = Ac := fun x => E3 (by decide) (by decide)
 have m3 : ∀ x, BG x 69621 = Ac := fun x => E3 (by decide) (by decide)
 by_cases h1 : k<ns.length
 ·have g := Sc h0 h1;have c : Hh ns k = ns.getD k.toNat 0 := by unfold Hh;rw[AE h1]
  simp at g c;simp[Ht, Df.run, BY, h1, g, m1, m2, m3, FU, c]
 ·have c : Hh ns k = 0 := by unfold Hh;rw[AF h1]
  simp[Ht, Df.run, BY, h1, m1, m2, m3, FU, c]
noncomputable def Ip : Df := ⟨1, Ad, (.cons (.ret (.idx (.lst (.cons (.int 3) (.cons (.int 5) (.cons (.int 7) (.cons (.int 11) .nil))))) (.bin .Mod (.call 79 (.cons (.var 0) (.cons (.int 0) .nil))) (.int 4)))) .nil)⟩
theorem PV(h : HQ Γ)(ns : Ab Ae) : Ip.run Γ [scr ns] = .ok (.int (pr4 (FU ns 0))) := by
 simp[Ip, Df.run, BY, h ns 0 (by decide), PF]
noncomputable def IC : Df := ⟨2, Ad, (.cons (.ret (.bi .max (.cons (.int 2) (.cons (.bi .min (.cons (.int 24) (.cons (.bin .Sub (.bi .len (.cons (.var 0) .nil)) (.var 1)) .nil))) .nil)))) .nil)⟩
theorem QU(Γ : Gam)(ns : Ab Ae)(k : Ae) : ∃ n, 0 <= n /\ n <= 24 /\ IC.run Γ [scr ns, .int k] = .ok (.int n) := by
 refine⟨_, ?_, ?_, by simp[IC, Df.run, BY];rfl⟩
 ·split <;> first|omega|(split <;> omega)
 ·split <;> first|omega|(split <;> omega)
noncomputable def IG : E := (.bl Ac)
noncomputable def Hv : E := (.bin .Mod (.bin .Mult (.var 13) (.var 9)) (.var 1))
noncomputable def IF : E := (.bl Ac)
noncomputable def IH : E := (.bin .Mod (.bin .Add (.idx (.var 11) (.var 14)) (.bin .Mult (.var 9) (.idx (.var 12) (.var 14)))) (.var 1))
noncomputable def CV : Ss := (.cons (.asg 6 Ad (.call 79 (.cons (.var 0) (.cons (.bin .Add (.var 2) (.var 5)) .nil)))) (.cons (.asg 7 Ad (.bin .Mod (.var 6) (.int 3))) (.cons (.asg 8 Ad (.bin .Mod (.bin .Add (.bin .Add (.var 7) (.int 1)) (.bin .Mod (.bin .FloorDiv (.var 6) (.int 3)) (.int 2))) (.int 3))) (.cons (.asg 9 Ad (.bin .Add (.int 1) (.bin .Mod (.bin .FloorDiv (.var 6) (.int 6)) (.bin .Sub (.var 1) (.int 1))))) (.cons (.ife (.cmp .Eq (.bin .Mod (.bin .FloorDiv (.var 6) (.int 66)) (.int 3)) (.int 0)) (.cons (.asg 10 Ad (.idx (.var 4) (.var 7))) (.cons (.put 4 (.var 7) (.idx (.var 4) (.var 8))) (.cons (.put 4 (.var 8) (.var 10)) .nil))) (.cons (.ife (.cmp .Eq (.bin .Mod (.bin .FloorDiv (.var 6) (.int 66)) (.int 9)) (.int 1)) (.cons (.put 4 (.var 7) (.comp Hv 13 (.e (.idx (.var 4) (.var 7))) IG)) .nil) (.cons (.asg 11 Ad (.idx (.var 4) (.var 7))) (.cons (.asg 12 Ad (.idx (.var 4) (.var 8))) (.cons (.put 4 (.var 7) (.comp IH 14 (.rng (.int 3)) IF)) .nil)))) .nil)) .nil)))))
noncomputable def Jd : Df := ⟨15, Ac, (.cons (.asg 4 Ac (.lst (.cons (.lst (.cons (.int 1) (.cons (.int 0) (.cons (.int 0) .nil)))) (.cons (.lst (.cons (.int 0) (.cons (.int 1) (.cons (.int 0) .nil)))) (.cons (.lst (.cons (.int 0) (.cons (.int 0) (.cons (.int 1) .nil)))) .nil))))) (.cons (.fors 5 (.rng (.var 3)) CV) (.cons (.ret (.var 4)) .nil)))⟩
noncomputable abbrev ownR(a b c : R3) : Sl := Aa (.lst [AY a, AY b, AY c], Ac)
section
variable{Γ : Gam}{ns : Ab Ae}{at_ many s5 s0 s1 s2 : Sl}{p t m : Ae}{a b c : R3}
theorem Wr(r : R3)(e1 : Bf ρ 9 = .ok (.int t))(e2 : Bf ρ 1 = .ok (.int p))(hl : 13<ρ.length)(hp : 0<p)(mt : ∀ x, BG x t = Ac) : Br (cG Γ ρ 13 IG) (cF Γ ρ 13 Hv) [.int r.1, .int r.2.1, .int r.2.2] = .ok [.int (scR p t r).1, .int (scR p t r).2.1, .int (scR p t r).2.2] := by
 have key : ∀ x : Ae, cF Γ ρ 13 Hv (.int x) = .ok (.int (x*t%p)) := fun x => by
  have v13 : Bf (ρ.set 13 (Aa (.int x, Ad))) 13 = .ok (.int x) := by unfold Bf;rw[Bm hl]
  have v9 : Bf (ρ.set 13 (Aa (.int x, Ad))) 9 = .ok (.int t) := by unfold Bf at e1 ⊢;rw[Bl (by decide)];exact e1
  have v1 : Bf (ρ.set 13 (Aa (.int x, Ad))) 1 = .ok (.int p) := by unfold Bf at e2 ⊢;rw[Bl (by decide)];exact e2
  show (((Bf (ρ.set 13 (Aa (.int x, Ad))) 13).bind fun y => (Bf (ρ.set 13 (Aa (.int x, Ad))) 9).bind fun z => BP .Mult y z).bind fun y => (Bf (ρ.set 13 (Aa (.int x, Ad))) 1).bind fun z => BP .Mod y z) = _
  rw[v13, v9, v1];simp[mt, hp]
 have := GB (g := cG Γ ρ 13 IG) (f := cF Γ ρ 13 Hv) (φ := fun x => x*t%p) [r.1, r.2.1, r.2.2] fun x _ => ⟨rfl, key x⟩
 exact this
theorem Ws(r q : R3)(e9 : Bf ρ 9 = .ok (.int t))(e1 : Bf ρ 1 = .ok (.int p))(e11 : Bf ρ 11 = .ok (AY r))(e12 : Bf ρ 12 = .ok (AY q))(hl : 14<ρ.length)(hp : 0<p)(mt : ∀ x, BG t x = Ac) : Br (cG Γ ρ 14 IF) (cF Γ ρ 14 IH) [.int 0, .int 1, .int 2] = .ok [.int (adR p t r q).1, .int (adR p t r q).2.1, .int (adR p t r q).2.2] := by
 have key : ∀(k : Ae)(x y : Ae), CB [.int r.1, .int r.2.1, .int r.2.2] k = .ok (.int x) -> CB [.int q.1, .int q.2.1, .int q.2.2] k = .ok (.int y) -> cF Γ ρ 14 IH (.int k) = .ok (.int ((x+t*y)%p)) := fun k x y hx hy => by
  have v14 : Bf (ρ.set 14 (Aa (.int k, Ad))) 14 = .ok (.int k) := by unfold Bf;rw[Bm hl]
  have v9 : Bf (ρ.set 14 (Aa (.int k, Ad))) 9 = .ok (.int t) := by unfold Bf at e9 ⊢;rw[Bl (by decide)];exact e9
  have v1 : Bf (ρ.set 14 (Aa (.int k, Ad))) 1 = .ok (.int p) := by unfold Bf at e1 ⊢;rw[Bl (by decide)];exact e1
  have v11 : Bf (ρ.set 14 (Aa (.int k, Ad))) 11 = .ok (AY r) := by unfold Bf at e11 ⊢;rw[Bl (by decide)];exact e11
  have v12 : Bf (ρ.set 14 (Aa (.int k, Ad))) 12 = .ok (AY q) := by unfold Bf at e12 ⊢;rw[Bl (by decide)];exact e12
  show ((((Bf (ρ.set 14 (Aa (.int k, Ad))) 11).bind fun y => (Bf (ρ.set 14 (Aa (.int k, Ad))) 14).bind fun z => E6 y z).bind fun u => ((Bf (ρ.set 14 (Aa (.int k, Ad))) 9).bind fun y => ((Bf (ρ.set 14 (Aa (.int k, Ad))) 12).bind fun y => (Bf (ρ.set 14 (Aa (.int k, Ad))) 14).bind fun z => E6 y z).bind fun z => BP .Mult y z).bind fun v => BP .Add u v).bind fun y => (Bf (ρ.set 14 (Aa (.int k, Ad))) 1).bind fun z => BP .Mod y z) = _
  rw[v14, v9, v1, v11, v12];simp[AY, hx, hy, mt, hp]
 have g : ∀ x, cG Γ ρ 14 IF x = .ok Ac := fun _ => rfl
 simp[Br, g, key 0 r.1 q.1 rfl rfl, key 1 r.2.1 q.2.1 rfl rfl, key 2 r.2.2 q.2.2 rfl rfl];exact⟨rfl, rfl, rfl⟩
theorem GC{L:Ab D}{i j:Ae}{i' j':Ag}{x y:R3}(hi : CB L i = .ok (AY x))(hj : CB L j = .ok (AY y))(pi : plD L.length i = Aa i')(pj : plD L.length j = Aa j')(p0 : 0<p)(mt : ∀ x, BG x t = Ac)(mt2 : ∀ x, BG t x = Ac):(m /66%3 = 0->evSs Γ [sh (scr ns),si p,at_,many,Aa (.lst L,Ac),s5,si m,si i,si j,si t,s0,s1,s2,Af,Af] (CV.drop 4) = .next [sh (scr ns),si p,at_,many,Aa (.lst ((L.set i' (AY y)).set j' (AY x)),Ac),s5,si m,si i,si j,si t,sh (AY x),s1,s2,Af,Af])/\(¬ m /66%3 = 0->m /66%9 = 1->evSs Γ [sh (scr ns),si p,at_,many,Aa (.lst L,Ac),s5,si m,si i,si j,si t,s0,s1,s2,Af,Af] (CV.drop 4) = .next [sh (scr ns),si p,at_,many,Aa (.lst (L.set i' (AY (scR p t x))),Ac),s5,si m,si i,si j,si t,s0,s1,s2,Af,Af])/\(¬ m /66%3 = 0->¬ m /66%9 = 1->evSs Γ [sh (scr ns),si p,at_,many,Aa (.lst L,Ac),s5,si m,si i,si j,si t,s0,s1,s2,Af,Af] (CV.drop 4) = .next [sh (scr ns),si p,at_,many,Aa (.lst (L.set i' (AY (adR p t x y))),Ac),s5,si m,si i,si j,si t,s0,sh (AY x),sh (AY y),Af,Af]) := by
 refine⟨fun k0 => ?_, fun k0 k1 => ?_, fun k0 k1 => ?_⟩
 ·simp[CV, Ss.drop, k0, Jl, CC, hi, hj, pi, pj]
 ·have cp := Wr (Γ := Γ) (ρ := [sh (scr ns), si p, at_, many, Aa (.lst L, Ac), s5, si m, si i, si j, si t, s0, s1, s2, Af, Af]) x rfl rfl (by simp) p0 mt
  rw[AY]at hi;simp[CV, Ss.drop, k0, k1, Jl, CC, hi, pi, cp];rfl
 ·have cp := Ws (Γ := Γ) (ρ := [sh (scr ns), si p, at_, many, Aa (.lst L, Ac), s5, si m, si i, si j, si t, s0, sh (AY x), sh (AY y), Af, Af]) x y rfl rfl rfl rfl (by simp) p0 mt2
  simp[CV, Ss.drop, k0, k1, Jl, CC, hi, hj, pi, KG (hi := 3) (by decide) (by decide), WT, cp]
  rfl
theorem VJ(h : GoodR p a b c)(ht : 0<t /\ t<p) : ∃ a' b' c' u0 u1 u2, GoodR p a' b' c' /\ evSs Γ [sh (scr ns), si p, at_, many, ownR a b c, s5, si m, si 0, si 1, si t, s0, s1, s2, Af, Af] (CV.drop 4) = .next [sh (scr ns), si p, at_, many, ownR a' b' c', s5, si m, si 0, si 1, si t, u0, u1, u2, Af, Af] := by
 have p0 := h.p4.pos;have mt : ∀ x, BG x t = Ac := fun x => E3 (by have := h.p4.hi;omega) (by have := h.p4.hi;omega)
 have mt2 : ∀ x, BG t x = Ac := fun x => D9 (by have := h.p4.hi;omega) (by have := h.p4.hi;omega)
 have g := GC (Γ := Γ) (ns := ns) (m := m) (at_ := at_) (many := many) (s5 := s5) (s0 := s0) (s1 := s1) (s2 := s2) (L := [AY a, AY b, AY c]) (i := 0) (j := 1) (i' := 0) (j' := 1) (x := a) (y := b) rfl rfl rfl rfl p0 mt mt2;by_cases k0 : m / 66%3 = 0
 ·refine⟨b, a, c, sh (AY a), s1, s2, ?_, ?_⟩
  ·exact h.of (k := -1) h.p4.m1 (Cg.of (by unfold AO det;grind)) ⟨h.ib, h.ia, h.ic⟩
  ·exact g.1 k0
 ·by_cases k1 : m / 66%9 = 1
  ·refine⟨(scR p t a), b, c, s0, s1, s2, ?_, ?_⟩
   ·exact h.of (k := t) (by rw[Ax (by omega) ht.2];omega) (Nh p t a b c) ⟨GK p0 _ _, h.ib, h.ic⟩
   ·exact g.2.1 k0 k1
  ·refine⟨(adR p t a b), b, c, s0, sh (AY a), sh (AY b), ?_, ?_⟩
   ·exact h.of (k := 1) h.p4.o1 (Wq p t a b c) ⟨GL p0 _ _ _, h.ib, h.ic⟩
   ·exact g.2.2 k0 k1
theorem VI(h : GoodR p a b c)(ht : 0<t /\ t<p) : ∃ a' b' c' u0 u1 u2, GoodR p a' b' c' /\ evSs Γ [sh (scr ns), si p, at_, many, ownR a b c, s5, si m, si 0, si 2, si t, s0, s1, s2, Af, Af] (CV.drop 4) = .next [sh (scr ns), si p, at_, many, ownR a' b' c', s5, si m, si 0, si 2, si t, u0, u1, u2, Af, Af] := by
 have p0 := h.p4.pos;have mt : ∀ x, BG x t = Ac := fun x => E3 (by have := h.p4.hi;omega) (by have := h.p4.hi;omega)
 have mt2 : ∀ x, BG t x = Ac := fun x => D9 (by have := h.p4.hi;omega) (by have := h.p4.hi;omega)
 have g := GC (Γ := Γ) (ns := ns) (m := m) (at_ := at_) (many := many) (s5 := s5) (s0 := s0) (s1 := s1) (s2 := s2) (L := [AY a, AY b, AY c]) (i := 0) (j := 2) (i' := 0) (j' := 2) (x := a) (y := c) rfl rfl rfl rfl p0 mt mt2;by_cases k0 : m / 66%3 = 0
 ·refine⟨c, b, a, sh (AY a), s1, s2, ?_, ?_⟩
  ·exact h.of (k := -1) h.p4.m1 (Cg.of (by unfold AO det;grind)) ⟨h.ic, h.ib, h.ia⟩
  ·exact g.1 k0
 ·by_cases k1 : m / 66%9 = 1
  ·refine⟨(scR p t a), b, c, s0, s1, s2, ?_, ?_⟩
   ·exact h.of (k := t) (by rw[Ax (by omega) ht.2];omega) (Nh p t a b c) ⟨GK p0 _ _, h.ib, h.ic⟩
   ·exact g.2.1 k0 k1
  ·refine⟨(adR p t a c), b, c, s0, sh (AY a), sh (AY c), ?_, ?_⟩
   ·exact h.of (k := 1) h.p4.o1 (Wp p t a b c) ⟨GL p0 _ _ _, h.ib, h.ic⟩
   ·exact g.2.2 k0 k1
theorem VH(h : GoodR p a b c)(ht : 0<t /\ t<p) : ∃ a' b' c' u0 u1 u2, GoodR p a' b' c' /\ evSs Γ [sh (scr ns), si p, at_, many, ownR a b c, s5, si m, si 1, si 0, si t, s0, s1, s2, Af, Af] (CV.drop 4) = .next [sh (scr ns), si p, at_, many, ownR a' b' c', s5, si m, si 1, si 0, si t, u0, u1, u2, Af, Af] := by
 have p0 := h.p4.pos;have mt : ∀ x, BG x t = Ac := fun x => E3 (by have := h.p4.hi;omega) (by have := h.p4.hi;omega)
 have mt2 : ∀ x, BG t x = Ac := fun x => D9 (by have := h.p4.hi;omega) (by have := h.p4.hi;omega)
 have g := GC (Γ := Γ) (ns := ns) (m := m) (at_ := at_) (many := many) (s5 := s5) (s0 := s0) (s1 := s1) (s2 := s2) (L := [AY a, AY b, AY c]) (i := 1) (j := 0) (i' := 1) (j' := 0) (x := b) (y := a) rfl rfl rfl rfl p0 mt mt2;by_cases k0 : m / 66%3 = 0
 ·refine⟨b, a, c, sh (AY b), s1, s2, ?_, ?_⟩
  ·exact h.of (k := -1) h.p4.m1 (Cg.of (by unfold AO det;grind)) ⟨h.ib, h.ia, h.ic⟩
  ·exact g.1 k0
 ·by_cases k1 : m / 66%9 = 1
  ·refine⟨a, (scR p t b), c, s0, s1, s2, ?_, ?_⟩
   ·exact h.of (k := t) (by rw[Ax (by omega) ht.2];omega) (Ng p t a b c) ⟨h.ia, GK p0 _ _, h.ic⟩
   ·exact g.2.1 k0 k1
  ·refine⟨a, (adR p t b a), c, s0, sh (AY b), sh (AY a), ?_, ?_⟩
   ·exact h.of (k := 1) h.p4.o1 (Wo p t a b c) ⟨h.ia, GL p0 _ _ _, h.ic⟩
   ·exact g.2.2 k0 k1
theorem VG(h : GoodR p a b c)(ht : 0<t /\ t<p) : ∃ a' b' c' u0 u1 u2, GoodR p a' b' c' /\ evSs Γ [sh (scr ns), si p, at_, many, ownR a b c, s5, si m, si 1, si 2, si t, s0, s1, s2, Af, Af] (CV.drop 4) = .next [sh (scr ns), si p, at_, many, ownR a' b' c', s5, si m, si 1, si 2, si t, u0, u1, u2, Af, Af] := by
 have p0 := h.p4.pos;have mt : ∀ x, BG x t = Ac := fun x => E3 (by have := h.p4.hi;omega) (by have := h.p4.hi;omega)
 have mt2 : ∀ x, BG t x = Ac := fun x => D9 (by have := h.p4.hi;omega) (by have := h.p4.hi;omega)
 have g := GC (Γ := Γ) (ns := ns) (m := m) (at_ := at_) (many := many) (s5 := s5) (s0 := s0) (s1 := s1) (s2 := s2) (L := [AY a, AY b, AY c]) (i := 1) (j := 2) (i' := 1) (j' := 2) (x := b) (y := c) rfl rfl rfl rfl p0 mt mt2;by_cases k0 : m / 66%3 = 0
 ·refine⟨a, c, b, sh (AY b), s1, s2, ?_, ?_⟩
  ·exact h.of (k := -1) h.p4.m1 (Cg.of (by unfold AO det;grind)) ⟨h.ia, h.ic, h.ib⟩
  ·exact g.1 k0
 ·by_cases k1 : m / 66%9 = 1
  ·refine⟨a, (scR p t b), c, s0, s1, s2, ?_, ?_⟩
   ·exact h.of (k := t) (by rw[Ax (by omega) ht.2];omega) (Ng p t a b c) ⟨h.ia, GK p0 _ _, h.ic⟩
   ·exact g.2.1 k0 k1
  ·refine⟨a, (adR p t b c), c, s0, sh (AY b), sh (AY c), ?_, ?_⟩
   ·exact h.of (k := 1) h.p4.o1 (Wn p t a b c) ⟨h.ia, GL p0 _ _ _, h.ic⟩
   ·exact g.2.2 k0 k1
theorem VF(h : GoodR p a b c)(ht : 0<t /\ t<p) : ∃ a' b' c' u0 u1 u2, GoodR p a' b' c' /\ evSs Γ [sh (scr ns), si p, at_, many, ownR a b c, s5, si m, si 2, si 0, si t, s0, s1, s2, Af, Af] (CV.drop 4) = .next [sh (scr ns), si p, at_, many, ownR a' b' c', s5, si m, si 2, si 0, si t, u0, u1, u2, Af, Af] := by
 have p0 := h.p4.pos;have mt : ∀ x, BG x t = Ac := fun x => E3 (by have := h.p4.hi;omega) (by have := h.p4.hi;omega)
 have mt2 : ∀ x, BG t x = Ac := fun x => D9 (by have := h.p4.hi;omega) (by have := h.p4.hi;omega)
 have g := GC (Γ := Γ) (ns := ns) (m := m) (at_ := at_) (many := many) (s5 := s5) (s0 := s0) (s1 := s1) (s2 := s2) (L := [AY a, AY b, AY c]) (i := 2) (j := 0) (i' := 2) (j' := 0) (x := c) (y := a) rfl rfl rfl rfl p0 mt mt2;by_cases k0 : m / 66%3 = 0
 ·refine⟨c, b, a, sh (AY c), s1, s2, ?_, ?_⟩
  ·exact h.of (k := -1) h.p4.m1 (Cg.of (by unfold AO det;grind)) ⟨h.ic, h.ib, h.ia⟩
  ·exact g.1 k0
 ·by_cases k1 : m / 66%9 = 1
  ·refine⟨a, b, (scR p t c), s0, s1, s2, ?_, ?_⟩
   ·exact h.of (k := t) (by rw[Ax (by omega) ht.2];omega) (Nf p t a b c) ⟨h.ia, h.ib, GK p0 _ _⟩
   ·exact g.2.1 k0 k1
  ·refine⟨a, b, (adR p t c a), s0, sh (AY c), sh (AY a), ?_, ?_⟩
   ·exact h.of (k := 1) h.p4.o1 (Wm p t a b c) ⟨h.ia, h.ib, GL p0 _ _ _⟩
   ·exact g.2.2 k0 k1
theorem VE(h : GoodR p a b c)(ht : 0<t /\ t<p) : ∃ a' b' c' u0 u1 u2, GoodR p a' b' c' /\ evSs Γ [sh (scr ns), si p, at_, many, ownR a b c, s5, si m, si 2, si 1, si t, s0, s1, s2, Af, Af] (CV.drop 4) = .next [sh (scr ns), si p, at_, many, ownR a' b' c', s5, si m, si 2, si 1, si t, u0, u1, u2, Af, Af] := by
 have p0 := h.p4.pos;have mt : ∀ x, BG x t = Ac := fun x => E3 (by have := h.p4.hi;omega) (by have := h.p4.hi;omega)
 have mt2 : ∀ x, BG t x = Ac := fun x => D9 (by have := h.p4.hi;omega) (by have := h.p4.hi;omega)
 have g := GC (Γ := Γ) (ns := ns) (m := m) (at_ := at_) (many := many) (s5 := s5) (s0 := s0) (s1 := s1) (s2 := s2) (L := [AY a, AY b, AY c]) (i := 2) (j := 1) (i' := 2) (j' := 1) (x := c) (y := b) rfl rfl rfl rfl p0 mt mt2;by_cases k0 : m / 66%3 = 0
 ·refine⟨a, c, b, sh (AY c), s1, s2, ?_, ?_⟩
  ·exact h.of (k := -1) h.p4.m1 (Cg.of (by unfold AO det;grind)) ⟨h.ia, h.ic, h.ib⟩
  ·exact g.1 k0
 ·by_cases k1 : m / 66%9 = 1
  ·refine⟨a, b, (scR p t c), s0, s1, s2, ?_, ?_⟩
   ·exact h.of (k := t) (by rw[Ax (by omega) ht.2];omega) (Nf p t a b c) ⟨h.ia, h.ib, GK p0 _ _⟩
   ·exact g.2.1 k0 k1
  ·refine⟨a, b, (adR p t c b), s0, sh (AY c), sh (AY b), ?_, ?_⟩
   ·exact h.of (k := 1) h.p4.o1 (Wl p t a b c) ⟨h.ia, h.ib, GL p0 _ _ _⟩
   ·exact g.2.2 k0 k1
end
section
variable{Γ : Gam}{ns : Ab Ae}{many s5 s6 s7 s8 s9 s0 s1 s2 : Sl}{p : Ae}{a b c : R3}
theorem Pq(hm : HQ Γ)(h : GoodR p a b c){at_ k:Ae}(ha : 0 <= at_)(hk : 0 <= k) : ∃ a' b' c' v6 v7 v8 v9 v0 v1 v2, GoodR p a' b' c' /\ Cq Γ 5 CV (.int k) [sh (scr ns), si p, si at_, many, ownR a b c, s5, s6, s7, s8, s9, s0, s1, s2, Af, Af] = .next [sh (scr ns), si p, si at_, many, ownR a' b' c', si k, v6, v7, v8, v9, v0, v1, v2, Af, Af] := by
 have p0 := h.p4.pos;have pl := h.p4.lo;have e0 := hm ns (at_+k) (by omega)
 have m0 := R1 ns (at_+k);generalize FU ns (at_+k) = m at e0 m0;have q1 : 0<p-1 := by omega
 have q2 : 1<p := by omega
 have t0 : 0<1+m / 6%(p-1) := by have := Bc (m / 6) (b := p-1) (by omega);omega
 have t1 : 1+m / 6%(p-1)<p := by have := A4 (m / 6) q1;omega
 generalize ht : 1+m / 6%(p-1) = t at t0 t1;generalize hi : m%3 = i;generalize hj : (i+1+m / 3%2)%3 = j;have hd : evSs Γ [sh (scr ns), si p, si at_, many, ownR a b c, si k, s6, s7, s8, s9, s0, s1, s2, Af, Af] (CV.take 4) = .next [sh (scr ns), si p, si at_, many, ownR a b c, si k, si m, si i, si j, si t, s0, s1, s2, Af, Af] := by
  simp[CV, Ss.take, e0, hi, hj, q1, q2, ht]
 have ij : (i = 0 /\ j = 1) \/ (i = 0 /\ j = 2) \/ (i = 1 /\ j = 0) \/ (i = 1 /\ j = 2) \/ (i = 2 /\ j = 0) \/ (i = 2 /\ j = 1) := by omega
 have tl : ∃ a' b' c' u0 u1 u2, GoodR p a' b' c' /\ evSs Γ [sh (scr ns), si p, si at_, many, ownR a b c, si k, si m, si i, si j, si t, s0, s1, s2, Af, Af] (CV.drop 4) = .next [sh (scr ns), si p, si at_, many, ownR a' b' c', si k, si m, si i, si j, si t, u0, u1, u2, Af, Af] := by
  rcases ij with ⟨rfl, rfl⟩|⟨rfl, rfl⟩|⟨rfl, rfl⟩|⟨rfl, rfl⟩|⟨rfl, rfl⟩|⟨rfl, rfl⟩
  ·exact VJ h ⟨t0, t1⟩
  ·exact VI h ⟨t0, t1⟩
  ·exact VH h ⟨t0, t1⟩
  ·exact VG h ⟨t0, t1⟩
  ·exact VF h ⟨t0, t1⟩
  ·exact VE h ⟨t0, t1⟩
 obtain⟨a', b', c', u0, u1, u2, g, e⟩ := tl;refine⟨a', b', c', si m, si i, si j, si t, u0, u1, u2, g, ?_⟩;unfold Cq;rw[Lh Γ 4];have hd' : evSs Γ (List.set [sh (scr ns), si p, si at_, many, ownR a b c, s5, s6, s7, s8, s9, s0, s1, s2, Af, Af] 5 (Aa (.int k, Ad))) (CV.take 4) = .next [sh (scr ns), si p, si at_, many, ownR a b c, si k, si m, si i, si j, si t, s0, s1, s2, Af, Af] := hd;rw[hd'];exact e
end
noncomputable def H9(a b c : R3) : D := .lst [AY a, AY b, AY c]
theorem Sr(hm : HQ Γ)(ns : Ab Ae)(p at_ n : Ae)(hp : P4 p)(ha : 0 <= at_)(n0 : 0 <= n)(n1 : n <= 24) : ∃ a b c, GoodR p a b c /\ Jd.run Γ [scr ns, .int p, .int at_, .int n] = .ok (H9 a b c) := by
 have p1 := hp.lo;have g0 : GoodR p (1, 0, 0) (0, 1, 0) (0, 0, 1) := by
  refine⟨hp, ⟨⟨by decide, by show (1 : Ae)<p;omega⟩, ⟨by decide, by show (0 : Ae)<p;omega⟩, ⟨by decide, by show (0 : Ae)<p;omega⟩⟩, ⟨⟨by decide, by show (0 : Ae)<p;omega⟩, ⟨by decide, by show (1 : Ae)<p;omega⟩, ⟨by decide, by show (0 : Ae)<p;omega⟩⟩, ⟨⟨by decide, by show (0 : Ae)<p;omega⟩, ⟨by decide, by show (0 : Ae)<p;omega⟩, ⟨by decide, by show (1 : Ae)<p;omega⟩⟩, ?_⟩
  show (1 : Ae)%p ≠ 0;exact hp.o1
 obtain⟨ρ', e, a, b, c, s5, s6, s7, s8, s9, s0, s1, s2, g, rfl⟩ := Lg (body := Cq Γ 5 CV) (fun ρ => ∃ a b c s5 s6 s7 s8 s9 s0 s1 s2, GoodR p a b c /\ ρ = [sh (scr ns), si p, si at_, si n, ownR a b c, s5, s6, s7, s8, s9, s0, s1, s2, Af, Af]) (Dc 0 n.toNat)
  [sh (scr ns), si p, si at_, si n, ownR (1, 0, 0) (0, 1, 0) (0, 0, 1), Af, Af, Af, Af, Af, Af, Af, Af, Af, Af] ⟨_, _, _, _, _, _, _, _, _, _, _, g0, rfl⟩ (by
   rintro x hx ρ ⟨a, b, c, s5, s6, s7, s8, s9, s0, s1, s2, g, rfl⟩;obtain⟨k, _, rfl⟩ := P8 hx;obtain⟨a', b', c', v6, v7, v8, v9, v0, v1, v2, g', q⟩ := Pq (Γ := Γ) (ns := ns) (many := si n) (s5 := s5) (s6 := s6) (s7 := s7) (s8 := s8) (s9 := s9) (s0 := s0) (s1 := s1) (s2 := s2) hm g (k := 0+(k : Ae)) ha (by omega)
   exact⟨_, q, a', b', c', _, _, _, _, _, _, _, _, g', rfl⟩)
 refine⟨a, b, c, g, ?_⟩;have e' : CG (Cq Γ 5 CV) (Dc 0 n.toNat) [sh (scr ns), si p, si at_, si n, Aa (.lst [.lst [.int 1, .int 0, .int 0], .lst [.int 0, .int 1, .int 0], .lst [.int 0, .int 0, .int 1]], Ac), Af, Af, Af, Af, Af, Af, Af, Af, Af, Af] = _ := e;simp[Jd, Df.run, BY, KG n0 (by omega), Du, e', isL]
 rfl
noncomputable def Kj : E := (.bl Ac)
noncomputable def Iy : E := (.bin .Mod (.var 5) (.var 0))
noncomputable def Iu : E := (.cmp .Gt (.var 6) (.int 0))
noncomputable def Ix : E := (.var 6)
noncomputable def Ir : E := (.cmp .Eq (.bin .Mod (.bin .Mult (.var 7) (.var 3)) (.var 0)) (.int 1))
noncomputable def Iw : E := (.var 7)
noncomputable def Kh : E := (.bl Ac)
noncomputable def Iv : E := (.bin .Mod (.bin .Mult (.var 8) (.var 4)) (.var 0))
noncomputable def II : Df := ⟨9, Ad, (.cons (.asg 2 Ad (.comp Iy 5 (.e (.var 1)) Kj)) (.cons (.asg 3 Ad (.idx (.comp Ix 6 (.e (.var 2)) Iu) (.int 0))) (.cons (.asg 4 Ad (.idx (.comp Iw 7 (.rng2 (.int 1) (.var 0)) Ir) (.int 0))) (.cons (.ret (.bi .tuple (.cons (.comp Iv 8 (.e (.var 2)) Kh) .nil))) .nil))))⟩
noncomputable def Jr(Γ : Gam) : Prop := ∀(p : Ae)(b : An)(xs : Ab Ae)(l t : Ae), P4 p -> Ba p xs = Aa l -> Eu p l t -> Γ.F 82 [.int p, B4 b xs] = .ok (.tup (ds (fmI p t xs)))
theorem QW(Γ : Gam){b : An}{l t : Ae}(hp : P4 p)(e : Ba p xs = Aa l)(it : Eu p l t) : II.run Γ [.int p, B4 b xs] = .ok (.tup (ds (fmI p t xs))) := by
 have p0 := hp.pos;have ph := hp.hi;have c1 : Br (cG Γ [si p, sh (B4 b xs), Af, Af, Af, Af, Af, Af, Af] 5 Kj) (cF Γ [si p, sh (B4 b xs), Af, Af, Af, Af, Af, Af, Af] 5 Iy) (ds xs) = .ok (ds (xs.map fun x => x%p)) := by
  refine GB xs fun x _ => ⟨rfl, ?_⟩
  simp[cF, Iy, p0]
 generalize hR : (xs.map fun x => x%p) = rs at c1
 have c2 : Br (cG Γ [si p, sh (B4 b xs), sh (.lst (ds rs)), Af, Af, Af, Af, Af, Af] 6 Iu) (cF Γ [si p, sh (B4 b xs), sh (.lst (ds rs)), Af, Af, Af, Af, Af, Af] 6 Ix) (ds rs) = .ok (ds (rs.filter fun r => decide (0<r))) := by
  refine IA rs fun x _ => ⟨?_, ?_⟩
  ·simp[cG, Iu]
  ·simp[cF, Ix]
 have hl := Kq p0 xs;rw[hR, e]at hl;generalize hL : (rs.filter fun r => decide (0<r)) = ls at c2 hl
 have g0 := KQ hl;obtain⟨_, l0, l1⟩ := G9 p0 e;have c3 : Br (cG Γ [si p, sh (B4 b xs), sh (.lst (ds rs)), si l, Af, Af, Af, Af, Af] 7 Ir) (cF Γ [si p, sh (B4 b xs), sh (.lst (ds rs)), si l, Af, Af, Af, Af, Af] 7 Iw) (ds (D0 p)) = .ok (ds ((D0 p).filter fun k => decide (k*l%p = 1))) := by
  refine IA (D0 p) fun x hx => ⟨?_, ?_⟩
  ·obtain⟨x1, x2⟩ := Gy.mp hx;have m : BG x l = Ac := D9 (by omega) (by omega)
   simp[cG, Ir, m, p0];rw[EX];simp
  ·simp[cF, Iw]
 have g1 := KQ (OY it);have c4 : Br (cG Γ [si p, sh (B4 b xs), sh (.lst (ds rs)), si l, si t, Af, Af, Af, Af] 8 Kh) (cF Γ [si p, sh (B4 b xs), sh (.lst (ds rs)), si l, si t, Af, Af, Af, Af] 8 Iv) (ds rs) = .ok (ds (rs.map fun r => t*r%p)) := by
  refine GB rs fun x _ => ⟨rfl, ?_⟩
  have m : BG x t = Ac := E3 (by have := it.1;omega) (by have := it.2.1;omega)
  simp[cF, Iv, m, p0, Ch]
 have ru : CF 1 p = .ok (ds (D0 p)) := Lq hp;have fe : fmI p t xs = rs.map fun r => t*r%p := by rw[<-hR];simp[fmI, NS, Nv]
 simp[II, Df.run, BY, K5, c1, c2, g0, ru, c3, g1, c4, fe]
noncomputable def Ce(a b c : R3) : Ab Ae := [a.1, a.2.1, a.2.2, b.1, b.2.1, b.2.2, c.1, c.2.1, c.2.2]
noncomputable def trR(a : R3) : D := .tup [.int a.1, .int a.2.1, .int a.2.2]
noncomputable def Dt(a b c : R3) : D := .tup [trR a, trR b, trR c]
noncomputable def fmR(p t : Ae)(a : R3) : R3 := (t*(a.1%p)%p, t*(a.2.1%p)%p, t*(a.2.2%p)%p)
theorem Se(p t : Ae)(a b c : R3) : fmI p t (Ce a b c) = Ce (fmR p t a) (fmR p t b) (fmR p t c) := rfl
theorem Pi{a b c : R3}(h : AO a b c%p ≠ 0) : ∃ l, Ba p (Ce a b c) = Aa l := by
 cases e : Ba p (Ce a b c) with
 |some l => exact⟨l, rfl⟩
 |none=>
  refine absurd ?_ h;have z := HE.mp e;have q : ∀ x ∈ Ce a b c, Cg p x 0 := fun x hx => by
   have := z x hx;show x%p = 0%p;rw[this];simp
  have := EQ (p := p) (q a.1 (by simp[Ce])) (q a.2.1 (by simp[Ce])) (q a.2.2 (by simp[Ce])) (q b.1 (by simp[Ce])) (q b.2.1 (by simp[Ce])) (q b.2.2 (by simp[Ce])) (q c.1 (by simp[Ce])) (q c.2.1 (by simp[Ce])) (q c.2.2 (by simp[Ce]))
  have e2 : AO a b c%p = (0*(0*0-0*0)-0*(0*0-0*0)+0*(0*0-0*0))%p := this;rw[e2];simp
theorem WF(a b c : R3) : slD (.tup (ds (Ce a b c))) Af (Aa 3) = .ok (trR a) /\ slD (.tup (ds (Ce a b c))) (Aa 3) (Aa 6) = .ok (trR b) /\ slD (.tup (ds (Ce a b c))) (Aa 6) Af = .ok (trR c) := ⟨rfl, rfl, rfl⟩
noncomputable def IB : Df := ⟨3, Ad, (.cons (.asg 2 Ad (.call 82 (.cons (.var 0) (.cons (.bin .Add (.bin .Add (.idx (.var 1) (.int 0)) (.idx (.var 1) (.int 1))) (.idx (.var 1) (.int 2))) .nil)))) (.cons (.ret (.tup (.cons (.sl (.var 2) .non (.int 3)) (.cons (.sl (.var 2) (.int 3) (.int 6)) (.cons (.sl (.var 2) (.int 6) .non) .nil))))) .nil))⟩
noncomputable def RZ(Γ : Gam) : Prop := ∀(p : Ae)(a b c : R3)(l t : Ae), P4 p -> Ba p (Ce a b c) = Aa l -> Eu p l t -> Γ.F 84 [.int p, H9 a b c] = .ok (Dt (fmR p t a) (fmR p t b) (fmR p t c))
theorem QH(a b c : R3) : BP .Add (AY a) (AY b) = .ok (.lst [.int a.1, .int a.2.1, .int a.2.2, .int b.1, .int b.2.1, .int b.2.2]) /\ BP .Add (.lst [.int a.1, .int a.2.1, .int a.2.2, .int b.1, .int b.2.1, .int b.2.2]) (AY c) = .ok (.lst (ds (Ce a b c))) := ⟨rfl, rfl⟩
theorem QT(h : Jr Γ)(p : Ae)(a b c : R3)(l t : Ae)(hp : P4 p)(e : Ba p (Ce a b c) = Aa l)(it : Eu p l t) : IB.run Γ [.int p, H9 a b c] = .ok (Dt (fmR p t a) (fmR p t b) (fmR p t c)) := by
 have f := h p Ad (Ce a b c) l t hp e it;rw[Se]at f;have f' : Γ.F 82 [.int p, .lst (ds (Ce a b c))] = .ok (.tup (ds (Ce (fmR p t a) (fmR p t b) (fmR p t c)))) := f;obtain⟨x1, x2⟩ := QH a b c;obtain⟨y1, y2, y3⟩ := WF (fmR p t a) (fmR p t b) (fmR p t c);simp[IB, Df.run, BY, H9, g30, g31, g32, x1, x2, f', y1, y2, y3, slE];rfl
noncomputable def Bd(n : Ag)(x : Ae) : Prop := x.natAbs<2 ^ n
theorem Bd.mul(h : Bd m x)(g : Bd n y) : Bd (m+n) (x*y) := by
 unfold Bd at *;rw[Int.natAbs_mul, Nat.pow_add];exact Nat.mul_lt_mul'' h g
theorem Bd.sub(h : Bd n x)(g : Bd n y) : Bd (n+1) (x-y) := by
 unfold Bd at *;rw[Nat.pow_succ];omega
theorem L5(h : Bd m x)(g : Bd n y)(hm : m <= 2000)(hn : n <= 2000) : FR x y = Ac := by
 unfold FR Bd at *;rw[Am, A2, A2];exact⟨Av h (DR (by decide) hm), Av g (DR (by decide) hn)⟩
noncomputable def B3(a : R3) : Prop := Bd 300 a.1 /\ Bd 300 a.2.1 /\ Bd 300 a.2.2
noncomputable def AR(q : An)(a : R3) : D := B4 q [a.1, a.2.1, a.2.2]
theorem HN(q : An)(a : R3) : E6 (AR q a) (.int 0) = .ok (.int a.1) /\ E6 (AR q a) (.int 1) = .ok (.int a.2.1) /\ E6 (AR q a) (.int 2) = .ok (.int a.2.2) := by cases q <;> exact⟨rfl, rfl, rfl⟩
section
variable{Γ : Gam}{ns : Ab Ae}{p t : Ae}{a b c r : R3}{made s6 s7 : Sl}
end
noncomputable def Im : Df := ⟨1, Ad, (.cons (.ret (.and (.cons (.isi (.var 0) [.int]) (.cons (.no (.isi (.var 0) [.bool])) .nil)))) .nil)⟩
noncomputable def QI(Γ : Gam) : Prop := ∀ x : Ae, Γ.F 85 [.int x] = .ok (.bl Ac)
theorem PR(Γ : Gam)(x : Ae) : Im.run Γ [.int x] = .ok (.bl Ac) := by
 simp[Im, Df.run, BY, kiD, Dd]
noncomputable def Kg : E := (.bl Ac)
noncomputable def Iq : E := (.and (.cons (.call 85 (.cons (.var 3) .nil)) (.cons (.cmp2 .LtE .Lt (.int 0) (.var 3) (.var 1)) .nil)))
noncomputable def Io : Df := ⟨4, Ad, (.cons (.ife (.or (.cons (.no (.isi (.var 0) [.tuple])) (.cons (.cmp .NotEq (.bi .len (.cons (.var 0) .nil)) (.var 2)) .nil))) (.cons (.ret (.bl Ad)) .nil) .nil) (.cons (.ret (.bi .all (.cons (.comp Iq 3 (.e (.var 0)) Kg) .nil))) .nil))⟩
noncomputable def QJ(Γ : Gam) : Prop := ∀(p : Ae)(xs : Ab Ae), (∀ x ∈ xs, 0 <= x /\ x<p) -> Γ.F 86 [.tup (ds xs), .int p, .int xs.length] = .ok (.bl Ac)
theorem PU(h : QI Γ)(p : Ae)(xs : Ab Ae)(hx : ∀ x ∈ xs, 0 <= x /\ x<p) : Io.run Γ [.tup (ds xs), .int p, .int xs.length] = .ok (.bl Ac) := by
 have c1 : Br (cG Γ [sh (.tup (ds xs)), si p, si xs.length, Af] 3 Kg) (cF Γ [sh (.tup (ds xs)), si p, si xs.length, Af] 3 Iq) (ds xs) = .ok (xs.map fun _ => D.bl Ac) := by
  refine Lw xs fun x hm => ⟨rfl, ?_⟩
  obtain⟨h0, h1⟩ := hx x hm;simp[cF, Iq, h x, h0, h1]
 have dl : (ds xs).length = xs.length := BR ..;simp[Io, Df.run, BY, kiD, Dd, dl, c1, Lm]
theorem Kn{p : Ae} : ∀{xs ys : Ab Ae}, xs.map (fun x => x%p) = ys.map (fun x => x%p) -> Ba p xs = Ba p ys
 |[], [], _ => rfl
 |x::xs, y::ys, h => by
  rw[Bj, Bj, List.cons.injEq]at h;unfold Ba;rw[h.1, Kn h.2]
 |[], _::_, h => by simp at h
 |_::_, [], h => by simp at h
theorem HX(hp : 0<p)(t : Ae)(a : R3) : In3 p (fmR p t a) := ⟨⟨Bc _ (by omega), A4 _ hp⟩, ⟨Bc _ (by omega), A4 _ hp⟩, ⟨Bc _ (by omega), A4 _ hp⟩⟩
section
variable{Γ : Gam}{ns : Ab Ae}{p m : Ae}{a b c : R3}{fa fb fc : R3}{q : An}{s9 s0 s1 s2 : Sl}
end
noncomputable def IY(Γ : Gam) : Prop := ∀ p n : Ae, P4 p -> n%p ≠ 0 -> ∃ t, 1 <= t /\ t<p /\ n*t%p = 1 /\ Γ.F 9 [.int p, .int n] = .ok (.int t)
noncomputable def Jq(Γ : Gam) : Prop := ∀(p : Ae)(b : An)(xs : Ab Ae)(l t : Ae), P4 p -> Ba p xs = Aa l -> Eu p l t -> Γ.F 17 [.int p, B4 b xs] = .ok (.tup (ds (fmI p t xs)))
theorem Pz(hr : Ha Γ)(p n : Ae)(hp : P4 p)(z : n%p ≠ 0):∃ t,1 <= t/\t<p/\n*t%p = 1/\Hu.run Γ [.int p,.int n] = .ok (.int t) := by
 have p0 := hp.pos;have ph := hp.hi;have body : ∀ t ∈ D0 p, ∀ ρ, (∃ s, ρ = [si p, si n, s]) -> (decide (n*t%p = 1) = Ac /\ Cq Γ 2 Gu (.int t) ρ = .ret (.int t) Ad) \/ (decide (n*t%p = 1) = Ad /\ ∃ ρ', Cq Γ 2 Gu (.int t) ρ = .next ρ' /\ ∃ s, ρ' = [si p, si n, s]) := by
  rintro t ht ρ ⟨s, rfl⟩;obtain⟨t1, t2⟩ := Gy.mp ht;have m : BG n t = Ac := E3 (by omega) (by omega)
  by_cases e : n*t%p = 1
  ·exact .inl ⟨by simp[e], by simp[Cq, Gu, hr p (n*t) p0, m, e, Du]⟩
  ·exact .inr ⟨by simp[e], _, by simp[Cq, Gu, hr p (n*t) p0, m, e];rfl, _, rfl⟩
 have run : ∀ o, CG (Cq Γ 2 Gu) ((D0 p).map D.int) [si p, si n, Af] = o -> Hu.run Γ [.int p, .int n] = (DF Γ (.cons (.rais 2 (.cons (.str (CT "a number with the rest 0 is not turned over")) .nil)) .nil) o).ans Ad := by
  rintro o rfl;simp[Hu, Df.run, BY, Lq hp]
 rcases K2 (fun ρ => ∃ s, ρ = [si p, si n, s]) (fun t => decide (n*t%p = 1)) (D0 p) body [si p, si n, Af] ⟨_, rfl⟩ with ⟨t, ht, a, b⟩|⟨a, r, b, s, rfl⟩
 ·obtain⟨t1, t2⟩ := Gy.mp ht;have a' : n*t%p = 1 := by simpa using a
  exact⟨t, t1, t2, a', by rw[run _ b];rfl⟩
 ·obtain⟨t, t1, t2, e⟩ := GH hp z;have := a t (Gy.mpr ⟨t1, t2⟩);simp[e]at this
section
variable{Γ : Gam}{p : Ae}{xs : Ab Ae}{b : An}
theorem Lc(hr : Ha Γ)(ht : IY Γ)(hp : P4 p)(rs : Ab Ae) :∀(ys :Ab Ae),(∀ y ∈ ys,0 <= y/\y<p)->∀ s3,(Ba p ys = Af->∃ s3',CG (Cq Γ 3 EN) (ds ys) [si p,sh (B4 b xs),sh (.lst (ds rs)),s3,Af,Af,Af] = .next [si p,sh (B4 b xs),sh (.lst (ds rs)),s3',Af,Af,Af])/\(∀ l t,Ba p ys = Aa l->Eu p l t->CG (Cq Γ 3 EN) (ds ys) [si p,sh (B4 b xs),sh (.lst (ds rs)),s3,Af,Af,Af] = .ret (.tup (ds (rs.map fun r =>t*r%p))) Ad)
 |[], _, s3 => ⟨fun _ => ⟨s3, rfl⟩, (fun l t h => nomatch h)⟩
 |y::ys, hy, s3 => by
  obtain⟨y0, y1⟩ := hy y (Au ..);have ym : y%p = y := Ax y0 y1;have ih := Lc hr ht hp rs ys (fun z hz => hy z (Ar _ hz)) (si y)
  have step : ∀ o, Cq Γ 3 EN (.int y) [si p, sh (B4 b xs), sh (.lst (ds rs)), s3, Af, Af, Af] = o -> CG (Cq Γ 3 EN) (ds (y::ys)) [si p, sh (B4 b xs), sh (.lst (ds rs)), s3, Af, Af, Af] = o.turn (CG (Cq Γ 3 EN) (ds ys)) := by
   rintro o rfl;rfl
  unfold Ba;rw[ym];by_cases hz : y = 0
  ·have e : Cq Γ 3 EN (.int y) [si p, sh (B4 b xs), sh (.lst (ds rs)), s3, Af, Af, Af] = .next [si p, sh (B4 b xs), sh (.lst (ds rs)), si y, Af, Af, Af] := by
    simp[Cq, EN, hz]
   rw[AE hz, step _ e];exact ih
  ·rw[AF hz];refine⟨(fun z => nomatch z), fun l t e it => ?_⟩
   cases e;obtain⟨u, u1, u2, u3, u4⟩ := ht p y hp (by rw[ym];exact hz)
   have : t = u := KO it ⟨u1, u2, u3⟩;subst this;have p0 := hp.pos;have ph := hp.hi;have cp : Br (cG Γ [si p, sh (B4 b xs), sh (.lst (ds rs)), si y, si t, Af, Af] 6 Kd) (cF Γ [si p, sh (B4 b xs), sh (.lst (ds rs)), si y, si t, Af, Af] 6 ID) (ds rs) = .ok (ds (rs.map fun r => t*r%p)) := by
    refine GB rs fun r _ => ⟨rfl, ?_⟩
    have m : BG t r = Ac := D9 (by omega) (by omega)
    simp[cF, ID, m, hr p (t*r) p0]
   have e : Cq Γ 3 EN (.int y) [si p, sh (B4 b xs), sh (.lst (ds rs)), s3, Af, Af, Af] = .ret (.tup (ds (rs.map fun r => t*r%p))) Ad := by
    simp[Cq, EN, hz, u4, cp, Du]
   rw[step _ e];rfl
theorem QV(hr : Ha Γ)(ht : IY Γ)(hp : P4 p){l t : Ae}(e : Ba p xs = Aa l)(it : Eu p l t) : HB.run Γ [.int p, B4 b xs] = .ok (.tup (ds (fmI p t xs))) := by
 have p0 := hp.pos;have cp : Br (cG Γ [si p, sh (B4 b xs), Af, Af, Af, Af, Af] 5 Ke) (cF Γ [si p, sh (B4 b xs), Af, Af, Af, Af, Af] 5 IE) (ds xs) = .ok (ds (xs.map fun x => x%p)) := by
  refine GB xs fun x _ => ⟨rfl, ?_⟩
  simp[cF, IE, hr p x p0]
 have run : ∀ o, CG (Cq Γ 3 EN) (ds (xs.map fun x => x%p)) [si p, sh (B4 b xs), sh (.lst (ds (xs.map fun x => x%p))), Af, Af, Af, Af] = o -> HB.run Γ [.int p, B4 b xs] = (DF Γ (.cons (.rais 3 (.cons (.str (CT "all the numbers have the rest 0")) .nil)) .nil) o).ans Ad := by
  rintro o rfl;simp[HB, Df.run, BY, K5, cp]
 have le : Ba p (xs.map fun x => x%p) = Ba p xs := by
  have := G6 (c := 1) hp (by rcases hp with rfl|rfl|rfl|rfl <;> decide) (f := fun x => x%p) (fun x => by rw[Ee, A1 _ (BJ p)]) xs
  rw[this];cases e : Ba p xs with
  |none => rfl
  |some l=>
   obtain⟨_, l0, l1⟩ := G9 p0 e;simp[Ax (Int.le_of_lt l0) l1]
 obtain⟨a, c⟩ := Lc (b := b) (xs := xs) hr ht hp (xs.map fun x => x%p) (xs.map fun x => x%p) (fun y hy => by
  obtain⟨x, _, rfl⟩ := CS.mp hy;exact⟨Bc _ (by omega), A4 _ p0⟩) Af
 rw[le]at a c;rw[run _ (c l t e it)];simp[fmI, NS, Nv]
end
noncomputable def Gf(t q : An)(a b c : R3) : D := if t = Ac then .tup [AR q a, AR q b, AR q c] else .lst [AR q a, AR q b, AR q c]
theorem WP(t q : An)(a b c : R3) : Db (Gf t q a b c) = .ok [AR q a, AR q b, AR q c] := by cases t <;> rfl
noncomputable def FC(a b c : R3) : R3 := (a.1, b.1, c.1)
noncomputable def FB(a b c : R3) : R3 := (a.2.1, b.2.1, c.2.1)
noncomputable def FA(a b c : R3) : R3 := (a.2.2, b.2.2, c.2.2)
noncomputable def BD(a x : R3) : Ae := a.1*x.1+a.2.1*x.2.1+a.2.2*x.2.2
noncomputable def IJ : E := (.bl Ac)
noncomputable def Hs : E := (.call 1 (.cons (.var 0) (.cons (.bin .Add (.bin .Add (.bin .Mult (.idx (.var 3) (.int 0)) (.idx (.var 2) (.int 0))) (.bin .Mult (.idx (.var 3) (.int 1)) (.idx (.var 2) (.int 1)))) (.bin .Mult (.idx (.var 3) (.int 2)) (.idx (.var 2) (.int 2)))) .nil)))
noncomputable def IU : Df := ⟨4, Ad, (.cons (.ret (.bi .tuple (.cons (.comp Hs 3 (.e (.var 1)) IJ) .nil))) .nil)⟩
noncomputable def JD(Γ : Gam) : Prop := ∀(p : Ae)(t q q' : An)(a b c x : R3), 0<p -> B3 a -> B3 b -> B3 c -> B3 x -> Γ.F 91 [.int p, Gf t q a b c, AR q' x] = .ok (AR Ac (BD a x%p, BD b x%p, BD c x%p))
theorem Sq(h : Ha Γ)(p : Ae)(t q q' : An)(a b c x : R3)(hp : 0<p)(ha : B3 a)(hb : B3 b)(hc : B3 c)(hx : B3 x) : IU.run Γ [.int p, Gf t q a b c, AR q' x] = .ok (AR Ac (BD a x%p, BD b x%p, BD c x%p)) := by
 obtain⟨x0, x1, x2⟩ := HN q' x;have k : ∀ {u v}, Bd 300 u -> Bd 300 v -> FR u v = Ac := fun hu hv => L5 hu hv (by decide) (by decide)
 have key : ∀ r : R3, B3 r -> cF Γ [si p, sh (Gf t q a b c), sh (AR q' x), Af] 3 Hs (AR q r) = .ok (.int (BD r x%p)) := fun r hr => by
  obtain⟨y0, y1, y2⟩ := HN q r;simp[cF, Hs, x0, x1, x2, y0, y1, y2, k hr.1 hx.1, k hr.2.1 hx.2.1, k hr.2.2 hx.2.2, h p _ hp];rfl
 have g : ∀ r, cG Γ [si p, sh (Gf t q a b c), sh (AR q' x), Af] 3 IJ r = .ok Ac := fun _ => rfl
 have cp : Br (cG Γ [si p, sh (Gf t q a b c), sh (AR q' x), Af] 3 IJ) (cF Γ [si p, sh (Gf t q a b c), sh (AR q' x), Af] 3 Hs) [AR q a, AR q b, AR q c] = .ok [.int (BD a x%p), .int (BD b x%p), .int (BD c x%p)] := by
  simp[Br, g, key a ha, key b hb, key c hc]
 simp[IU, Df.run, BY, WP, cp];rfl
noncomputable def crs(a b : R3) : R3 := (a.2.1*b.2.2-a.2.2*b.2.1, a.2.2*b.1-a.1*b.2.2, a.1*b.2.1-a.2.1*b.1)
noncomputable def bk0(a b c : R3) : R3 := FC (crs b c) (crs c a) (crs a b)
noncomputable def bk1(a b c : R3) : R3 := FB (crs b c) (crs c a) (crs a b)
noncomputable def bk2(a b c : R3) : R3 := FA (crs b c) (crs c a) (crs a b)
theorem HW(hp : P4 p)(h0 : 0 <= x)(h1 : x<p) : Bd 10 x := by
 unfold Bd;have := hp.hi;omega
theorem Bd.mono(h : Bd m x)(hm : m <= n) : Bd n x := Av h (DR (by decide) hm)
noncomputable def Bn(n : Ag)(a : R3) : Prop := Bd n a.1 /\ Bd n a.2.1 /\ Bd n a.2.2
theorem Bn.b3(h : Bn n a)(hn : n <= 300) : B3 a := ⟨h.1.mono hn, h.2.1.mono hn, h.2.2.mono hn⟩
theorem Hn(hp : P4 p)(h : In3 p a) : Bn 10 a := ⟨HW hp h.1.1 h.1.2, HW hp h.2.1.1 h.2.1.2, HW hp h.2.2.1 h.2.2.2⟩
theorem Uo(a b c : R3) : AO (bk0 a b c) (bk1 a b c) (bk2 a b c) = AO a b c*AO a b c := by
 unfold AO det bk0 bk1 bk2 FC FB FA crs;grind
noncomputable def Bv(k : Ae)(a : R3) : R3 := (k*a.1, k*a.2.1, k*a.2.2)
noncomputable def fk0(p : Ae)(a b c d : R3) : Ae := AO d b c%p
noncomputable def fs0(p : Ae)(a b c d : R3) : R3 := Bv (fk0 p a b c d) a
noncomputable def CgR(p : Ae)(x y : R3) : Prop := Cg p x.1 y.1 /\ Cg p x.2.1 y.2.1 /\ Cg p x.2.2 y.2.2
section
variable{p : Ae}{a b c a' b' c' x y z x' : R3}{k l m k' : Ae}
theorem CgR.rfl : CgR p a a := ⟨Cg.rfl, Cg.rfl, Cg.rfl⟩
theorem CgR.of(h : a = b) : CgR p a b := by rw[h];exact CgR.rfl
theorem CgR.trans(h : CgR p a b)(g : CgR p b c) : CgR p a c := ⟨h.1.trans g.1, h.2.1.trans g.2.1, h.2.2.trans g.2.2⟩
theorem CgR.symm(h : CgR p a b) : CgR p b a := ⟨h.1.symm, h.2.1.symm, h.2.2.symm⟩
theorem CgR.sc(hk : Cg p k k')(h : CgR p a b) : CgR p (Bv k a) (Bv k' b) := ⟨hk.mul h.1, hk.mul h.2.1, hk.mul h.2.2⟩
theorem RM(ha : CgR p a a')(hb : CgR p b b')(hc : CgR p c c') : Cg p (AO a b c) (AO a' b' c') := by
 unfold AO det;exact EQ ha.1 ha.2.1 ha.2.2 hb.1 hb.2.1 hb.2.2 hc.1 hc.2.1 hc.2.2
theorem F9(ha : CgR p a a')(hb : CgR p b b') : Cg p (BD a b) (BD a' b') := ((ha.1.mul hb.1).add (ha.2.1.mul hb.2.1)).add (ha.2.2.mul hb.2.2)
theorem UC(ha : CgR p a a')(hb : CgR p b b')(hc : CgR p c c') : CgR p (FC a b c) (FC a' b' c') /\ CgR p (FB a b c) (FB a' b' c') /\ CgR p (FA a b c) (FA a' b' c') := ⟨⟨ha.1, hb.1, hc.1⟩, ⟨ha.2.1, hb.2.1, hc.2.1⟩, ⟨ha.2.2, hb.2.2, hc.2.2⟩⟩
theorem UB(ha : CgR p a a')(hb : CgR p b b') : CgR p (crs a b) (crs a' b'):=
 ⟨(ha.2.1.mul hb.2.2).sub (ha.2.2.mul hb.2.1), (ha.2.2.mul hb.1).sub (ha.1.mul hb.2.2), (ha.1.mul hb.2.1).sub (ha.2.1.mul hb.1)⟩
theorem HY(p t : Ae)(a : R3) : CgR p (fmR p t a) (Bv t a) := by
 have key : ∀ x : Ae, Cg p (t*(x%p)%p) (t*x) := fun x => (Cg.md _root_.rfl).trans (Cg.rfl.mul (Cg.md _root_.rfl))
 exact⟨key _, key _, key _⟩
noncomputable def ap(a b c x : R3) : R3 := (BD a x, BD b x, BD c x)
theorem Uy(k l m : Ae)(x y z : R3) : AO (Bv k x) (Bv l y) (Bv m z) = k*l*m*AO x y z := by
 unfold AO det Bv;grind
theorem JJ(k l : Ae)(x : R3) : Bv k (Bv l x) = Bv (k*l) x := by
 unfold Bv;simp only[Ej]
theorem Wx(a b c x : R3)(k : Ae) : ap a b c (Bv k x) = Bv k (ap a b c x) := by
 unfold ap Bv BD;refine CN ?_ (CN ?_ ?_) <;> (simp only;grind)
end
theorem Wt(h : Cg p x y)(hy : y%p ≠ 0) : x%p ≠ 0 := fun z => hy ((show x%p = y%p from h).symm.trans z)
theorem nz3{z:Ae}(hp : P4 p)(hx : x%p ≠ 0)(hy : y%p ≠ 0)(hz : z%p ≠ 0) : x*y*z%p ≠ 0 := E4 hp (E4 hp hx hy) hz
section
variable{p : Ae}{a b c f0 f1 f2 f3 g0 g1 g2 g3 : R3}{d0 d1 d2 d3 : Ae}
end
section
variable{Γ : Gam}{ns : Ab Ae}
end
section
variable{Γ : Gam}{ns : Ab Ae}{many s5 s6 s7 s8 s9 s0 s1 s2 : Sl}{p : Ae}{a b c : R3}
end
noncomputable def IW : Df := ⟨2, Ad, (.cons (.ret (.bin .Add (.bin .Add (.bin .Mult (.idx (.var 0) (.int 0)) (.idx (.var 1) (.int 0))) (.bin .Mult (.idx (.var 0) (.int 1)) (.idx (.var 1) (.int 1)))) (.bin .Mult (.idx (.var 0) (.int 2)) (.idx (.var 1) (.int 2))))) .nil)⟩
noncomputable def JS(Γ : Gam) : Prop := ∀(q q' : An)(a x : R3), B3 a -> B3 x -> Γ.F 95 [AR q a, AR q' x] = .ok (.int (BD a x))
theorem U4(Γ : Gam)(q q' : An)(a x : R3)(ha : B3 a)(hx : B3 x) : IW.run Γ [AR q a, AR q' x] = .ok (.int (BD a x)) := by
 obtain⟨x0, x1, x2⟩ := HN q a;obtain⟨y0, y1, y2⟩ := HN q' x;have k : ∀ {u v}, Bd 300 u -> Bd 300 v -> FR u v = Ac := fun hu hv => L5 hu hv (by decide) (by decide)
 simp[IW, Df.run, BY, x0, x1, x2, y0, y1, y2, k ha.1 hx.1, k ha.2.1 hx.2.1, k ha.2.2 hx.2.2];rfl
noncomputable def Kx : E := (.bl Ac)
noncomputable def IK : E := (.call 95 (.cons (.var 3) (.cons (.var 2) .nil)))
noncomputable def Hx : Df := ⟨4, Ad, (.cons (.ret (.call 82 (.cons (.var 0) (.cons (.comp IK 3 (.e (.var 1)) Kx) .nil)))) .nil)⟩
noncomputable def InL(p : Ae)(xs : Ab Ae) : Prop := ∀ x ∈ xs, 0 <= x /\ x<p
theorem InL.set(h : InL p xs)(k : Ag){v:Ae}(h0 : 0 <= v)(h1 : v<p) : InL p (xs.set k v) := fun x hx => by
 rcases List.mem_or_eq_of_mem_set hx with z|rfl
 ·exact h x z
 ·exact⟨h0, h1⟩
section
variable{Γ : Gam}{ns : Ab Ae}{p at_ : Ae}
end
section
variable{Γ : Gam}{ns : Ab Ae}{p t : Ae}
end
structure C6 where
 c0 : Ae
 c1 : Ae
 c2 : Ae
 c3 : Ae
 c4 : Ae
 c5 : Ae
noncomputable def C6.l(C : C6) : Ab Ae := [C.c0, C.c1, C.c2, C.c3, C.c4, C.c5]
noncomputable def vI(C : C6)(x : R3) : Ae := C.c0*x.1*x.1+C.c1*x.2.1*x.2.1+C.c2*x.2.2*x.2.2+(C.c3*x.1*x.2.1+C.c4*x.1*x.2.2+C.c5*x.2.1*x.2.2)
noncomputable def tw0(C : C6) : R3 := (2*C.c0, C.c3, C.c4)
noncomputable def tw1(C : C6) : R3 := (C.c3, 2*C.c1, C.c5)
noncomputable def tw2(C : C6) : R3 := (C.c4, C.c5, 2*C.c2)
noncomputable def bI(C : C6)(x y : R3) : Ae := BD (ap (tw0 C) (tw1 C) (tw2 C) x) y
noncomputable def scC(k : Ae)(C : C6) : C6 := ⟨k*C.c0, k*C.c1, k*C.c2, k*C.c3, k*C.c4, k*C.c5⟩
noncomputable def CgC(p : Ae)(C D : C6) : Prop := Cg p C.c0 D.c0 /\ Cg p C.c1 D.c1 /\ Cg p C.c2 D.c2 /\ Cg p C.c3 D.c3 /\ Cg p C.c4 D.c4 /\ Cg p C.c5 D.c5
noncomputable def pb(C : C6)(a b c : R3) : C6 := ⟨vI C (FC a b c), vI C (FB a b c), vI C (FA a b c), bI C (FC a b c) (FB a b c), bI C (FC a b c) (FA a b c), bI C (FB a b c) (FA a b c)⟩
section
variable{p : Ae}{C D E : C6}{a b c a' b' c' x y x' y' : R3}{k k' : Ae}
theorem C6.ext'(h0 : C.c0 = D.c0)(h1 : C.c1 = D.c1)(h2 : C.c2 = D.c2)(h3 : C.c3 = D.c3)(h4 : C.c4 = D.c4)(h5 : C.c5 = D.c5) : C = D := by
 cases C;cases D;simp_all
theorem CgC.rfl : CgC p C C := ⟨Cg.rfl, Cg.rfl, Cg.rfl, Cg.rfl, Cg.rfl, Cg.rfl⟩
theorem CgC.of(h : C = D) : CgC p C D := by rw[h];exact CgC.rfl
theorem CgC.symm(h : CgC p C D) : CgC p D C := ⟨h.1.symm, h.2.1.symm, h.2.2.1.symm, h.2.2.2.1.symm, h.2.2.2.2.1.symm, h.2.2.2.2.2.symm⟩
theorem CgC.trans(h : CgC p C D)(g : CgC p D E) : CgC p C E := ⟨h.1.trans g.1, h.2.1.trans g.2.1, h.2.2.1.trans g.2.2.1, h.2.2.2.1.trans g.2.2.2.1, h.2.2.2.2.1.trans g.2.2.2.2.1, h.2.2.2.2.2.trans g.2.2.2.2.2⟩
theorem CgC.sc(hk : Cg p k k')(h : CgC p C D) : CgC p (scC k C) (scC k' D) := ⟨hk.mul h.1, hk.mul h.2.1, hk.mul h.2.2.1, hk.mul h.2.2.2.1, hk.mul h.2.2.2.2.1, hk.mul h.2.2.2.2.2⟩
theorem JE(h : CgC p C D)(hx : CgR p x x') : Cg p (vI C x) (vI D x'):=
 (((((h.1.mul hx.1).mul hx.1).add ((h.2.1.mul hx.2.1).mul hx.2.1)).add ((h.2.2.1.mul hx.2.2).mul hx.2.2))).add ((((h.2.2.2.1.mul hx.1).mul hx.2.1).add ((h.2.2.2.2.1.mul hx.1).mul hx.2.2)).add ((h.2.2.2.2.2.mul hx.2.1).mul hx.2.2))
theorem U1(h : CgC p C D) : CgR p (tw0 C) (tw0 D) /\ CgR p (tw1 C) (tw1 D) /\ CgR p (tw2 C) (tw2 D):=
 ⟨⟨Cg.rfl.mul h.1, h.2.2.2.1, h.2.2.2.2.1⟩, ⟨h.2.2.2.1, Cg.rfl.mul h.2.1, h.2.2.2.2.2⟩, ⟨h.2.2.2.2.1, h.2.2.2.2.2, Cg.rfl.mul h.2.2.1⟩⟩
theorem Uq(ha : CgR p a a')(hb : CgR p b b')(hc : CgR p c c')(hx : CgR p x x') : CgR p (ap a b c x) (ap a' b' c' x') := ⟨F9 ha hx, F9 hb hx, F9 hc hx⟩
theorem JK(h : CgC p C D)(hx : CgR p x x')(hy : CgR p y y') : Cg p (bI C x y) (bI D x' y'):=
 let ⟨t0, t1, t2⟩ := U1 h
 F9 (Uq t0 t1 t2 hx) hy
theorem MH(h : CgC p C D)(ha : CgR p a a')(hb : CgR p b b')(hc : CgR p c c') : CgC p (pb C a b c) (pb D a' b' c'):=
 let ⟨s0, s1, s2⟩ := UC ha hb hc
 ⟨JE h s0, JE h s1, JE h s2, JK h s0 s1, JK h s0 s2, JK h s1 s2⟩
theorem Mi(k l : Ae)(C : C6) : scC k (scC l C) = scC (k*l) C := by
 unfold scC;simp only[Ej]
theorem LO(C : C6) : scC 1 C = C := by unfold scC;simp only[Ee]
theorem V3(k : Ae)(C : C6)(a b c : R3) : pb (scC k C) a b c = scC k (pb C a b c) := by
 unfold pb scC vI bI ap tw0 tw1 tw2 BD;refine C6.ext' ?_ ?_ ?_ ?_ ?_ ?_ <;> (simp only;grind)
theorem Ua(k : Ae)(C : C6)(a b c : R3) : pb C (Bv k a) (Bv k b) (Bv k c) = scC (k*k) (pb C a b c) := by
 unfold pb scC vI bI ap tw0 tw1 tw2 BD FC FB FA Bv;refine C6.ext' ?_ ?_ ?_ ?_ ?_ ?_ <;> (simp only;grind)
noncomputable def PrC(p : Ae)(C D : C6) : Prop := ∃ d, d%p ≠ 0 /\ CgC p C (scC d D)
theorem PrC.rfl(hp : P4 p) : PrC p C C := ⟨1, hp.o1, CgC.of (LO C).symm⟩
theorem PrC.trans(hp : P4 p)(i : PrC p C D)(j : PrC p D E) : PrC p C E := by
 obtain⟨d, dz, e⟩ := i;obtain⟨d', dz', e'⟩ := j;exact⟨d*d', E4 hp dz dz', e.trans ((CgC.sc Cg.rfl e').trans (CgC.of (Mi _ _ _)))⟩
theorem LY(hp : P4 p)(dz : k%p ≠ 0) : ∃ u, u%p ≠ 0 /\ Cg p (u*k) 1 := by
 obtain⟨u, u1, u2, u3⟩ := GH hp dz;refine⟨u, by rw[Ax (by omega) u2];omega, ?_⟩
 show u*k%p = 1%p;rw[Ch, u3, Ax (by decide) (by have := hp.lo;omega)]
theorem PrC.symm(hp : P4 p)(i : PrC p C D) : PrC p D C := by
 obtain⟨d, dz, e⟩ := i;obtain⟨u, uz, o⟩ := LY hp dz;refine⟨u, uz, ?_⟩;have q := CgC.sc (k := u) (k' := u) Cg.rfl e;rw[Mi]at q;exact(q.trans ((CgC.sc o CgC.rfl).trans (CgC.of (LO D)))).symm
theorem PrC.pb(i : PrC p C D) : PrC p (OvC.pb C a b c) (OvC.pb D a b c) := by
 obtain⟨d, dz, e⟩ := i;exact⟨d, dz, (MH e CgR.rfl CgR.rfl CgR.rfl).trans (CgC.of (V3 d D a b c))⟩
theorem PrC.tab(hp : P4 p)(kz : k%p ≠ 0)(ha : CgR p a (Bv k a'))(hb : CgR p b (Bv k b'))(hc : CgR p c (Bv k c')) : PrC p (OvC.pb C a b c) (OvC.pb C a' b' c'):=
 ⟨k*k, E4 hp kz kz, (MH CgC.rfl ha hb hc).trans (CgC.of (Ua k C a' b' c'))⟩
noncomputable def InC(p : Ae)(C : C6) : Prop := ∀ x ∈ C.l, 0 <= x /\ x<p
end
structure BC (C : C6) : Prop where
 b0 : Bd 10 C.c0
 b1 : Bd 10 C.c1
 b2 : Bd 10 C.c2
 b3 : Bd 10 C.c3
 b4 : Bd 10 C.c4
 b5 : Bd 10 C.c5
theorem InC.b{C:C6}(hp : P4 p)(h : InC p C) : BC C := by
 have k : ∀ x ∈ C.l, Bd 10 x := fun x hx => HW hp (h x hx).1 (h x hx).2
 exact⟨k _ (by simp[C6.l]), k _ (by simp[C6.l]), k _ (by simp[C6.l]), k _ (by simp[C6.l]), k _ (by simp[C6.l]), k _ (by simp[C6.l])⟩
noncomputable def t0(p : Ae)(C : C6) : R3 := (2*C.c0%p, C.c3, C.c4)
noncomputable def t1(p : Ae)(C : C6) : R3 := (C.c3, 2*C.c1%p, C.c5)
noncomputable def t2(p : Ae)(C : C6) : R3 := (C.c4, C.c5, 2*C.c2%p)
section
variable{Γ : Gam}{ns : Ab Ae}{p at_ : Ae}{φ : Ae -> Ae}
end
noncomputable def Pr(p : Ae)(x y : R3) : Prop := ∃ d, d%p ≠ 0 /\ CgR p x (Bv d y)
section
variable{p : Ae}{a b c x y z f g h : R3}{k : Ae}
theorem Hb(x : R3) : Bv 1 x = x := by unfold Bv;simp only[Ee]
theorem Pr.rfl(hp : P4 p) : Pr p x x := ⟨1, hp.o1, CgR.of (Hb x).symm⟩
theorem Pr.trans(hp : P4 p)(i : Pr p x y)(j : Pr p y z) : Pr p x z := by
 obtain⟨d, dz, e⟩ := i;obtain⟨d', dz', e'⟩ := j;exact⟨d*d', E4 hp dz dz', e.trans ((CgR.sc Cg.rfl e').trans (CgR.of (JJ _ _ _)))⟩
theorem Pr.symm(hp : P4 p)(i : Pr p x y) : Pr p y x := by
 obtain⟨d, dz, e⟩ := i;obtain⟨u, u1, u2, u3⟩ := GH hp dz;have uz : u%p ≠ 0 := by rw[Ax (by omega) u2];omega
 have o : Cg p (u*d) 1 := by
  show u*d%p = 1%p;rw[Ch, u3, Ax (by decide) (by have := hp.lo;omega)]
 refine⟨u, uz, ?_⟩;have q := CgR.sc (k := u) (k' := u) Cg.rfl e;rw[JJ]at q;exact(q.trans ((CgR.sc o CgR.rfl).trans (CgR.of (Hb y)))).symm
theorem Pr.cg(hp : P4 p)(e : CgR p x y) : Pr p x y := ⟨1, hp.o1, e.trans (CgR.of (Hb y).symm)⟩
theorem JR{a' b' c' x':R3}(ha : CgR p a a')(hb : CgR p b b')(hc : CgR p c c')(hx : CgR p x x') : CgR p (ap a b c x) (ap a' b' c' x') := ⟨F9 ha hx, F9 hb hx, F9 hc hx⟩
theorem Pr.ap(i : Pr p x y) : Pr p (OvC.ap a b c x) (OvC.ap a b c y) := by
 obtain⟨d, dz, e⟩ := i;exact⟨d, dz, (JR CgR.rfl CgR.rfl CgR.rfl e).trans (CgR.of (Wx a b c y d))⟩
theorem Up(k : Ae)(a b c x : R3) : ap (Bv k a) (Bv k b) (Bv k c) x = Bv k (ap a b c x) := by
 unfold ap Bv BD;refine CN ?_ (CN ?_ ?_) <;> (simp only;grind)
theorem Pr.tab{a' b' c':R3}(kz : k%p ≠ 0)(ha : CgR p a (Bv k a'))(hb : CgR p b (Bv k b'))(hc : CgR p c (Bv k c')) : Pr p (OvC.ap a b c x) (OvC.ap a' b' c' x):=
 ⟨k, kz, (JR ha hb hc CgR.rfl).trans (CgR.of (Up k a' b' c' x))⟩
theorem ML(a b c v : R3) : ap (bk0 a b c) (bk1 a b c) (bk2 a b c) (ap a b c v) = Bv (AO a b c) v := by
 unfold ap Bv BD bk0 bk1 bk2 FC FB FA crs AO det;refine CN ?_ (CN ?_ ?_) <;> (simp only;grind)
end
noncomputable def tri(g : R3) : Ab Ae := [g.1, g.2.1, g.2.2]
theorem QO{x y:R3}(hp : P4 p)(ix : In3 p x)(iy : In3 p y)(lx : Ba p (tri x) = Aa 1)(ly : Ba p (tri y) = Aa 1)(h : Pr p x y) : x = y := by
 obtain⟨d, dz, e⟩ := h;have p1 : 1<p := by have := hp.lo;omega
 have rs : (tri x).map (fun x => x%p) = ((tri y).map fun x => d*x).map (fun x => x%p) := by
  simp only[tri, Bj, EG];rw[show x.1%p = d*y.1%p from e.1, show x.2.1%p = d*y.2.1%p from e.2.1, show x.2.2%p = d*y.2.2%p from e.2.2]
 have el := G6 hp dz (f := fun x => d*x) (fun _ => rfl) (tri y)
 rw[ly, <-Kn rs, lx, Dh, Dp, E1]at el;have o : Cg p d 1 := by
  show d%p = 1%p;rw[<-el, Ax (by decide) p1]
 have q := e.trans ((CgR.sc o CgR.rfl).trans (CgR.of (Hb y)));have same : ∀{u v : Ae}, (0 <= u /\ u<p) -> (0 <= v /\ v<p) -> Cg p u v -> u = v := fun hu hv huv => by
  have := show _%p = _%p from huv
  rwa [Ax hu.1 hu.2, Ax hv.1 hv.2]at this
 exact CN (same ix.1 iy.1 q.1) (CN (same ix.2.1 iy.2.1 q.2.1) (same ix.2.2 iy.2.2 q.2.2))
theorem Pt{a b c : R3}(hp : P4 p)(nz : AO a b c%p ≠ 0) : ∃ l t, Ba p (Ce a b c) = Aa l /\ Eu p l t /\ t%p ≠ 0 /\ GoodR p (fmR p t a) (fmR p t b) (fmR p t c) /\ Ba p (Ce (fmR p t a) (fmR p t b) (fmR p t c)) = Aa 1 := by
 have p0 := hp.pos;obtain⟨l, el⟩ := Pi nz;obtain⟨lz, _, _⟩ := G9 p0 el;obtain⟨t, t1, t2, t3⟩ := GH hp lz;have tz : t%p ≠ 0 := by rw[Ax (by omega) t2];omega
 have ff : ∀ x, (t*(x%p)%p)%p = t*x%p := fun x => by rw[A1 _ (BJ p), Bk t (x%p) p, A1 _ (BJ p), <-Bk]
 have lv := G6 hp tz (f := fun x => t*(x%p)%p) ff (Ce a b c)
 rw[el]at lv;refine⟨l, t, el, ⟨t1, t2, t3⟩, tz, ⟨hp, HX p0 t a, HX p0 t b, HX p0 t c, Wt ((RM (HY p t a) (HY p t b) (HY p t c)).trans (Cg.of (Uy t t t a b c))) (E4 hp (nz3 hp tz tz tz) nz)⟩, ?_⟩;have e : Ba p ((Ce a b c).map fun x => t*(x%p)%p) = Aa 1 := by rw[lv, Dh, Ch, t3]
 exact e
section
variable{p : Ae}{a b c a' b' c' f0 f1 f2 f3 g0 g1 g2 g3 h0 h1 h2 h3 : R3}
end
section
variable{Γ : Gam}{ns : Ab Ae}{p : Ae}
end
section
variable{Γ : Gam}{ns : Ab Ae}{mid : Ag}{p : Ae}{a b c : R3}{s2 s4 s5 s6 s7 s8 : Sl}
end
theorem Px{lo hi:Ae}(h1 : -1000 <= lo)(h2 : lo <= 1000)(h3 : -1000 <= hi)(h4 : hi <= 1000) : CF lo hi = .ok (Dc lo (hi-lo).toNat) := by
 unfold CF;rw[AE (by refine⟨⟨by omega, by omega⟩, ⟨by omega, by omega⟩, ?_⟩;omega)]
theorem Ts(h : 1<p) : Ba p [0, 0, 1] = Aa 1 := by
 simp[Ba, Ax (by decide : (0 : Ae) <= 1) h]
theorem Wf(h : 1<p)(z : Ae) : Ba p [0, 1, z] = Aa 1 := by
 simp[Ba, Ax (by decide : (0 : Ae) <= 1) h]
theorem WU(h : 1<p)(y z : Ae) : Ba p [1, y, z] = Aa 1 := by
 simp[Ba, Ax (by decide : (0 : Ae) <= 1) h]
noncomputable def Hi : Df := ⟨3, Ad, (.cons (.ret (.call 17 (.cons (.var 0) (.cons (.call 91 (.cons (.var 0) (.cons (.var 1) (.cons (.var 2) .nil)))) .nil)))) .nil)⟩
theorem Jg{p l : Ae}(hp : P4 p)(el : Ba p (tri r) = Aa l) : ∃ u, Eu p l u /\ In3 p (fmR p u r) /\ Ba p (tri (fmR p u r)) = Aa 1 /\ Pr p (fmR p u r) r /\ fmI p u (tri r) = tri (fmR p u r) := by
 have p0 := hp.pos;obtain⟨lz, _, _⟩ := G9 p0 el;obtain⟨t, t1, t2, t3⟩ := GH hp lz;have tz : t%p ≠ 0 := by rw[Ax (by omega) t2];omega
 have ff : ∀ x, (t*(x%p)%p)%p = t*x%p := fun x => by rw[A1 _ (BJ p), Bk t (x%p) p, A1 _ (BJ p), <-Bk]
 have lv := G6 hp tz (f := fun x => t*(x%p)%p) ff (tri r)
 rw[el, Dh, Ch, t3]at lv;exact⟨t, ⟨t1, t2, t3⟩, HX p0 t r, lv, ⟨t, tz, HY p t r⟩, rfl⟩
theorem Qe(h : Ba p (tri g) = Af) : CgR p g (0, 0, 0) := by
 have hz := HE.mp h;have k : ∀ x ∈ tri g, Cg p x 0 := fun x hx => by show x%p = 0%p;rw[hz x hx, Ek]
 exact⟨k _ (by simp[tri]), k _ (by simp[tri]), k _ (by simp[tri])⟩
theorem PQ(h : CgR p g (0, 0, 0)) : Ba p (tri g) = Af := by
 refine HE.mpr fun x hx => ?_
 have k : ∀{x : Ae}, Cg p x 0 -> x%p = 0 := fun {x} h => by rw[show x%p = _ from h, Ek]
 simp only[tri, AM, NW, or_false]at hx;rcases hx with rfl|rfl|rfl
 ·exact k h.1
 ·exact k h.2.1
 ·exact k h.2.2
theorem Jn{p l : Ae}{a b c f g : R3}(hp : P4 p)(z : AO a b c%p ≠ 0)(lf : Ba p (tri f) = Aa l)(h : CgR p g (ap a b c f)) : ∃ l, Ba p (tri g) = Aa l := by
 cases el : Ba p (tri g) with
 |some l => exact⟨l, rfl⟩
 |none=>
  have q0 : CgR p (ap a b c f) (0, 0, 0) := h.symm.trans (Qe el);have q1 : CgR p (Bv (AO a b c) f) (0, 0, 0) := by
   have := JR (CgR.rfl (a := bk0 a b c)) (CgR.rfl (a := bk1 a b c)) (CgR.rfl (a := bk2 a b c)) q0;rw[ML]at this;refine this.trans (CgR.of ?_);unfold ap BD;simp
  obtain⟨u, uz, o⟩ := LY hp z;have q2 : CgR p f (0, 0, 0) := by
   have w := CgR.sc (k := u) (k' := u) Cg.rfl q1;rw[JJ]at w;refine((CgR.of (Hb f).symm).trans (CgR.sc o.symm CgR.rfl)).trans (w.trans (CgR.of ?_));unfold Bv;simp
  rw[PQ q2]at lf;cases lf
theorem TJ(hs : JD Γ)(hf : Jq Γ)(p : Ae)(a b c f : R3)(g : GoodR p a b c)(i0 : In3 p f)(lf : Ba p (tri f) = Aa 1) : ∃ g, In3 p g /\ Ba p (tri g) = Aa 1 /\ Pr p g (ap a b c f) /\ Hi.run Γ [.int p, Dt a b c, AR Ac f] = .ok (AR Ac g) := by
 have hp := g.p4;have e1 : Γ.F 91 [.int p, Dt a b c, AR Ac f] = _ := hs p Ac Ac Ac a b c f hp.pos ((Hn hp g.ia).b3 (by decide)) ((Hn hp g.ib).b3 (by decide)) ((Hn hp g.ic).b3 (by decide)) ((Hn hp i0).b3 (by decide))
 have cg : CgR p (BD a f%p, BD b f%p, BD c f%p) (ap a b c f) := ⟨Cg.md rfl, Cg.md rfl, Cg.md rfl⟩;obtain⟨l, el⟩ := Jn hp g.nz lf cg;obtain⟨u, iu, j, l1, pr, ef⟩ := Jg hp el;have e2 := hf p Ac _ l u hp el iu;rw[ef]at e2;generalize (BD a f%p, BD b f%p, BD c f%p) = w at *;have e2' : Γ.F 17 [.int p, AR Ac w] = .ok (AR Ac (fmR p u w)) := e2;refine⟨fmR p u w, j, l1, pr.trans hp (Pr.cg hp cg), ?_⟩;simp[Hi, Df.run, BY, e1, e2']
section
variable{Γ : Gam}{ns : Ab Ae}{p : Ae}{C : C6}{s3 s4 s5 s6 s7 s8 : Sl}
end
section
variable{Γ : Gam}{ns : Ab Ae}
end
section
variable{Γ : Gam}{ns : Ab Ae}{p : Ae}{C : C6}{s3 s4 s5 s6 s7 s8 : Sl}
end
noncomputable def NF(p : Ae)(x : R3) : Prop := In3 p x /\ Ba p (tri x) = Aa 1
noncomputable def ptI(p n : Ae) : R3 := if n = 0 then (0, 0, 1) else if n <= p then (0, 1, n-1) else (1, (n-p-1) / p, (n-p-1)%p)
noncomputable def Dv(p : Ae) : Ab R3 := (B7 (p*p+p+1).toNat).map fun(n : Ag) => ptI p n
theorem Va{n:Ae}(hp : P4 p)(h0 : 0 <= n)(h1 : n<p*p+p+1) : NF p (ptI p n) := by
 have p1 : 1<p := by have := hp.lo;omega
 have p0 := hp.pos;unfold ptI;by_cases z : n = 0
 ·rw[AE z];exact⟨⟨⟨by decide, p0⟩, ⟨by decide, p0⟩, ⟨by decide, p1⟩⟩, Ts p1⟩
 ·rw[AF z];by_cases z1 : n <= p
  ·rw[AE z1];exact⟨⟨⟨F0 0, p0⟩, ⟨(by decide : (0 : Ae) <= 1), p1⟩, ⟨by show 0 <= n-1;omega, by show n-1<p;omega⟩⟩, Wf p1 _⟩
  ·rw[AF z1];have d0 : 0 <= (n-p-1) / p := Int.ediv_nonneg (by omega) (by omega)
   have d1 : (n-p-1) / p<p := by rw[Int.ediv_lt_iff_lt_mul p0];omega
   exact⟨⟨⟨(by decide : (0 : Ae) <= 1), p1⟩, ⟨d0, d1⟩, ⟨Bc _ (by omega), A4 _ p0⟩⟩, WU p1 _ _⟩
theorem Wc{x:R3}(hp : P4 p)(h : NF p x) : ∃ n : Ae, 0 <= n /\ n<p*p+p+1 /\ x = ptI p n := by
 obtain⟨⟨i0, i1, i2⟩, l⟩ := h;have p1 : 1<p := by have := hp.lo;omega
 have p0 := hp.pos;have pp := F1 p0 p0;obtain⟨x0, x1, x2⟩ := x;simp only at i0 i1 i2;unfold tri Ba at l;simp only at l;rw[Ax i0.1 i0.2]at l;by_cases z0 : x0 = 0
 ·rw[AE z0]at l;unfold Ba at l;rw[Ax i1.1 i1.2]at l;by_cases z1 : x1 = 0
  ·rw[AE z1]at l;unfold Ba at l;rw[Ax i2.1 i2.2]at l;by_cases z2 : x2 = 0
   ·rw[AE z2]at l;cases l
   ·rw[AF z2, Dp]at l;exact⟨0, F0 0, by omega, by rw[z0, z1, l];rfl⟩
  ·rw[AF z1, Dp]at l;refine⟨x2+1, by omega, by omega, ?_⟩
   unfold ptI;rw[AF (by omega), AE (by omega), z0, l, Int.add_sub_cancel]
 ·rw[AF z0, Dp]at l;have m1 : p*x1 <= p*(p-1) := Int.mul_le_mul_of_nonneg_left (by omega) (by omega)
  have m0 : 0 <= p*x1 := Int.mul_nonneg (by omega) i1.1
  rw[Int.mul_sub, E1]at m1;refine⟨p+1+p*x1+x2, by omega, by omega, ?_⟩
  unfold ptI;have e : p+1+p*x1+x2-p-1 = x2+p*x1 := by omega
  rw[AF (by omega), AF (by omega), e, Int.add_mul_ediv_left _ _ (by omega), Int.ediv_eq_zero_of_lt i2.1 i2.2, Int.add_mul_emod_self_left, Ax i2.1 i2.2, NB, l]
theorem R4{x:R3}(hp : P4 p) : x ∈ Dv p ↔ NF p x := by
 have p0 := hp.pos;have pp := F1 p0 p0;constructor
 ·intro h;obtain⟨n, hn, rfl⟩ := CS.mp h;have := Cc.mp hn;exact Va hp (by omega) (by omega)
 ·intro h;obtain⟨n, n0, n1, rfl⟩ := Wc hp h;refine CS.mpr ⟨n.toNat, Cc.mpr (by omega), ?_⟩
  rw[NA n0]
theorem Pe(hp : P4 p) : (Dv p).Nodup := by
 rcases hp with rfl|rfl|rfl|rfl <;> decide +kernel
noncomputable def nrm(p : Ae)(r : R3) : R3 := open Classical in if h : ∃ y, NF p y /\ Pr p y r then Nu h else r
theorem P7{p l : Ae}(hp : P4 p)(el : Ba p (tri r) = Aa l) : NF p (nrm p r) /\ Pr p (nrm p r) r := by
 have h : ∃ y, NF p y /\ Pr p y r := by
  obtain⟨u, iu, j, l1, pr, _⟩ := Jg hp el;exact⟨_, ⟨j, l1⟩, pr⟩
 unfold nrm;rw[dif_pos h];exact CQ h
theorem G5{a b c x : R3}(hp : P4 p)(z : AO a b c%p ≠ 0)(hx : NF p x) : NF p (nrm p (ap a b c x)) /\ Pr p (nrm p (ap a b c x)) (ap a b c x) := by
 obtain⟨l, el⟩ := Jn hp z hx.2 CgR.rfl;exact P7 hp el
theorem Jw{x y:R3}(hp : P4 p)(hx : NF p x)(hy : NF p y)(h : Pr p x y) : x = y := QO hp hx.1 hy.1 hx.2 hy.2 h
theorem KN{a b c x : R3}(hp : P4 p)(z : AO a b c%p ≠ 0)(hx : NF p x) : nrm p (ap (bk0 a b c) (bk1 a b c) (bk2 a b c) (nrm p (ap a b c x))) = x := by
 obtain⟨h1, h2⟩ := G5 hp z hx;have zB : AO (bk0 a b c) (bk1 a b c) (bk2 a b c)%p ≠ 0 := by rw[Uo];exact E4 hp z z
 obtain⟨h3, h4⟩ := G5 hp zB h1;refine Jw hp h3 hx (h4.trans hp ((Pr.ap h2).trans hp ?_));rw[ML];exact⟨_, z, CgR.rfl⟩
noncomputable def q4(w : Ag)(k : Ae)(y : R3) : Ae := match w with
  |0 => y.1*y.2.2-y.2.1*y.2.1
  |1 => y.1*y.1
  |2 => y.1*y.2.1
  |_ => y.1*y.1-k*(y.2.1*y.2.1)
noncomputable def Mp(pts : Ab R3) : D := .lst (pts.map (AR Ac))
section
variable{Γ : Gam}{p i j k d N : Ae}{PP x y u : D}{RL : Ab D}{s t s' t' v : Sl}
end
section
variable{Γ : Gam}{p : Ae}{pts : Ab R3}
end
theorem Qn{x y:R3}(h : tri x = tri y) : x = y := by
 obtain⟨x0, x1, x2⟩ := x;obtain⟨y0, y1, y2⟩ := y;unfold tri at h;simp at h;obtain⟨rfl, rfl, rfl⟩ := h;rfl
theorem UA(k l : Ae)(a b : R3) : crs (Bv k a) (Bv l b) = Bv (k*l) (crs a b) := by
 unfold crs Bv;simp only;refine CN ?_ (CN ?_ ?_) <;> (simp only;grind)
theorem Pr.crs{a b a' b' : R3}(hp : P4 p)(h : Pr p a a')(g : Pr p b b') : Pr p (OvC.crs a b) (OvC.crs a' b') := by
 obtain⟨d, dz, e⟩ := h;obtain⟨d', dz', e'⟩ := g;exact⟨d*d', E4 hp dz dz', (UB e e').trans (CgR.of (UA ..))⟩
noncomputable def G3 : Df := ⟨2, Ad, (.cons (.asg 1 Ad (.bin .Mod (.var 1) (.bin .Add (.bin .Add (.bin .Mult (.var 0) (.var 0)) (.var 0)) (.int 1)))) (.cons (.ife (.cmp .Eq (.var 1) (.int 0)) (.cons (.ret (.tup (.cons (.int 0) (.cons (.int 0) (.cons (.int 1) .nil))))) .nil) .nil) (.cons (.ife (.cmp .LtE (.var 1) (.var 0)) (.cons (.ret (.tup (.cons (.int 0) (.cons (.int 1) (.cons (.bin .Sub (.var 1) (.int 1)) .nil))))) .nil) .nil) (.cons (.ret (.tup (.cons (.int 1) (.cons (.bin .FloorDiv (.bin .Sub (.bin .Sub (.var 1) (.var 0)) (.int 1)) (.var 0)) (.cons (.bin .Mod (.bin .Sub (.bin .Sub (.var 1) (.var 0)) (.int 1)) (.var 0)) .nil))))) .nil))))⟩
noncomputable def L9(Γ : Gam) : Prop := ∀(p n : Ae), P4 p -> Γ.F 93 [.int p, .int n] = .ok (AR Ac (ptI p (n%(p*p+p+1))))
theorem pN{n:Ae}(hp : P4 p) : 0<p*p+p+1 /\ 0 <= n%(p*p+p+1) /\ n%(p*p+p+1)<p*p+p+1 := by
 have p0 := hp.pos;have N0 : 0<p*p+p+1 := by have := F1 p0 p0;omega
 exact⟨N0, Bc n (Int.ne_of_gt N0), A4 n N0⟩
theorem Sv(Γ : Gam)(p n : Ae)(hp : P4 p) : G3.run Γ [.int p, .int n] = .ok (AR Ac (ptI p (n%(p*p+p+1)))) := by
 have pp : BG p p = Ac := D9 (by have := hp.lo;omega) (by have := hp.hi;omega)
 have p0 := hp.pos;have ph := hp.hi;obtain⟨N0, h0, h1⟩ := pN (n := n) hp;have pb : p<1073741824 := by omega
 generalize hr : n%(p*p+p+1) = r at *;unfold ptI;by_cases z0 : r = 0
 ·rw[AE z0];simp[G3, Df.run, BY, pp, N0, hr, z0];rfl
 ·rw[AF z0];by_cases z1 : r <= p
  ·rw[AE z1];simp[G3, Df.run, BY, pp, N0, hr, z0, z1];rfl
  ·rw[AF z1];simp[G3, Df.run, BY, pp, N0, hr, z0, z1, p0, pb];rfl
noncomputable def IL : E := (.bl Ac)
noncomputable def G2 : E := (.call 93 (.cons (.var 0) (.cons (.var 1) .nil)))
noncomputable def Hy : Df := ⟨2, Ad, (.cons (.ret (.comp G2 1 (.rng (.bin .Add (.bin .Add (.bin .Mult (.var 0) (.var 0)) (.var 0)) (.int 1))) IL)) .nil)⟩
noncomputable def RI(Γ : Gam) : Prop := ∀ p : Ae, P4 p -> Γ.F 94 [.int p] = .ok (Mp (Dv p))
theorem QX(h : L9 Γ)(p : Ae)(hp : P4 p) : Hy.run Γ [.int p] = .ok (Mp (Dv p)) := by
 have pp : BG p p = Ac := D9 (by have := hp.lo;omega) (by have := hp.hi;omega)
 have N1 : 0 <= p*p+p+1 /\ p*p+p+1 <= 1000 := by rcases hp with rfl|rfl|rfl|rfl <;> decide
 have rg : CF 0 (p*p+p+1) = .ok (Dc 0 (p*p+p+1-0).toNat) := Px (by decide) (by decide) (by omega) (by omega)
 rw[FI]at rg;have cp : Br (cG Γ [si p, Af] 1 IL) (cF Γ [si p, Af] 1 G2) (Dc 0 (p*p+p+1).toNat) = .ok ((Dv p).map (AR Ac)) := by
  have key : ∀ L : Ab Ag, (∀ k ∈ L, (k : Ae)<p*p+p+1) -> Br (cG Γ [si p, Af] 1 IL) (cF Γ [si p, Af] 1 G2) (L.map fun(k : Ag) => D.int (0+(k : Ae))) = .ok ((L.map fun(n : Ag) => ptI p n).map (AR Ac)) := fun L => by
   induction L with
   |nil => intro _;rfl
   |cons k L ih=>
    intro hL;have e := h p k hp;rw[Ax (by omega) (hL k Au)]at e
    have f : cF Γ [si p, Af] 1 G2 (.int (0+(k : Ae))) = .ok (AR Ac (ptI p k)) := by
     rw[NB];simp[cF, G2, e]
    have ih' := ih fun m hm => hL m (Ar _ hm)
    show (R.ok Ac).bind _ = _;rw[R.bind_ok, AE rfl, f, R.bind_ok, show Br _ _ (List.map _ L) = _ from ih']
    rfl
  exact key _ fun k hk => by have := Cc.mp hk;omega
 generalize hN : p*p+p+1 = N at *;generalize Dc 0 N.toNat = RL at *;have e1 : p*p+p+1 = N := hN;simp[Hy, Df.run, BY, pp, e1, rg, cp];rfl
noncomputable def Uu(Γ : Gam) : Prop := ∀(p : Ae)(a b c x : R3), GoodR p a b c -> NF p x -> Γ.F 96 [.int p, Dt a b c, AR Ac x] = .ok (AR Ac (nrm p (ap a b c x)))
theorem RN(hd : JS Γ){a b c x : R3}{g f : D -> R D}{gg:D -> R An}(hp : P4 p)(ha : In3 p a)(hb : In3 p b)(hc : In3 p c)(hx : In3 p x)(hg : ∀ r, gg r = .ok Ac)(hf : ∀ r y, Γ.F 95 [AR Ac r, AR Ac x] = .ok y -> f (AR Ac r) = .ok y) : Br gg f [AR Ac a, AR Ac b, AR Ac c] = .ok [.int (BD a x), .int (BD b x), .int (BD c x)] := by
 have b3 : ∀ {r}, In3 p r -> B3 r := fun h => (Hn hp h).b3 (by decide)
 have k : ∀ r, In3 p r -> f (AR Ac r) = .ok (.int (BD r x)) := fun r hr => hf r _ (hd Ac Ac r x (b3 hr) (b3 hx))
 simp[Br, hg, k a ha, k b hb, k c hc]
theorem TL(hd : JS Γ)(hf : Jr Γ)(p : Ae)(a b c x : R3)(G : GoodR p a b c)(hx : NF p x) : Hx.run Γ [.int p, Dt a b c, AR Ac x] = .ok (AR Ac (nrm p (ap a b c x))) := by
 have hp := G.p4;obtain⟨l, el⟩ := Jn hp G.nz hx.2 CgR.rfl;obtain⟨u, iu, j, l1, pr, ef⟩ := Jg hp el;obtain⟨n1, n2⟩ := G5 hp G.nz hx;have e0 : fmR p u (ap a b c x) = nrm p (ap a b c x) := Jw hp ⟨j, l1⟩ n1 (pr.trans hp (n2.symm hp));have e := hf p Ad _ l u hp el iu;rw[ef, e0]at e;have e' : Γ.F 82 [.int p, .lst [.int (BD a x), .int (BD b x), .int (BD c x)]] = .ok (AR Ac (nrm p (ap a b c x))) := e;have cp := RN (g := fun _ => .bad) (gg := cG Γ [si p, sh (Dt a b c), sh (AR Ac x), Af] 3 Kx) (f := cF Γ [si p, sh (Dt a b c), sh (AR Ac x), Af] 3 IK) hd hp G.ia G.ib G.ic hx.1 (fun _ => rfl) (fun r y e => by
  generalize AR Ac r = rr at *;generalize AR Ac x = xx at *;simp[cF, IK, e])
 have sq : Db (Dt a b c) = .ok [AR Ac a, AR Ac b, AR Ac c] := rfl;generalize AR Ac (nrm p (ap a b c x)) = Y at *;generalize AR Ac x = xx at *;generalize Dt a b c = TT at *;generalize [AR Ac a, AR Ac b, AR Ac c] = LL at *;simp[Hx, Df.run, BY, sq, cp, e']
noncomputable def G1 : Ss := (.cons (.asg 5 Ad (.call 92 (.cons (.var 1) (.cons (.var 2) (.cons (.var 4) .nil))))) (.cons (.ife (.or (.cons (.no (.call 86 (.cons (.var 5) (.cons (.var 1) (.cons (.int 3) .nil))))) (.cons (.cmp .NotEq (.var 5) (.call 96 (.cons (.var 1) (.cons (.var 2) (.cons (.var 4) .nil))))) (.cons (.cmp .In (.var 5) (.var 3)) .nil)))) (.cons (.ret (.bl Ad)) .nil) .nil) (.cons (.dput 3 (.var 5) (.bl Ac)) .nil)))
noncomputable def IV : Df := ⟨6, Ad, (.cons (.asg 1 Ad (.call 81 (.cons (.var 0) .nil))) (.cons (.asg 2 Ad (.call 84 (.cons (.var 1) (.cons (.call 83 (.cons (.var 0) (.cons (.var 1) (.cons (.int 1) (.cons (.call 88 (.cons (.var 0) (.cons (.int 1) .nil))) .nil))))) .nil)))) (.cons (.dnw 3) (.cons (.fors 4 (.e (.call 94 (.cons (.var 1) .nil))) G1) (.cons (.ret (.cmp .Eq (.bi .len (.cons (.var 3) .nil)) (.bin .Add (.bin .Add (.bin .Mult (.var 1) (.var 1)) (.var 1)) (.int 1)))) .nil)))))⟩
theorem VS{Y:D}(e : Cp Y = Aa k)(h : (kvs.any fun p => p.1==k) = Ad) : Bg .In Y (.dic kvs) = .ok (.bl Ad) := by
 show (match Cp Y with|some k => R.ok (D.bl (kvs.any fun p => p.1==k))|none => .bad) = _
 rw[e];show R.ok (D.bl (kvs.any fun p => p.1==k)) = _
 rw[h]
theorem TQ(h : (kvs.any fun p => p.1==k) = Ad) : DW kvs k d = kvs++[(k, d)] := by
 unfold DW;rw[AF (by rw[h];exact Ap)]
section
variable{Γ : Gam}{ns : Ab Ae}
noncomputable def Ut(Γ : Gam) : Prop := ∀(p : Ae)(a b c x : R3), GoodR p a b c -> NF p x -> Γ.F 92 [.int p, Dt a b c, AR Ac x] = .ok (AR Ac (nrm p (ap a b c x)))
theorem TH(hs : JD Γ)(hf : Jq Γ)(p : Ae)(a b c x : R3)(G : GoodR p a b c)(hx : NF p x) : Hi.run Γ [.int p, Dt a b c, AR Ac x] = .ok (AR Ac (nrm p (ap a b c x))) := by
 have hp := G.p4;obtain⟨g, i, l, pr, e⟩ := TJ hs hf p a b c x G hx.1 hx.2;obtain⟨n1, n2⟩ := G5 hp G.nz hx;rw[e, Jw hp ⟨i, l⟩ n1 (pr.trans hp (n2.symm hp))]
theorem S3{S T X Y : D}{s4 s5:Sl}(hr : Γ.F 86 [Y, .int p, .int 3] = .ok (.bl Ac))(h1 : Γ.F 92 [.int p, T, X] = .ok Y)(h2 : Γ.F 96 [.int p, T, X] = .ok Y)(fl : flD 5 Y = Ac)(eq : eqD Y Y = Ac)(ek : Cp Y = Aa k)(no : (kvs.any fun p => p.1==k) = Ad)(sz : B2 (kvs.length+1) = Ac):Cq Γ 4 G1 X [sh S,si p,sh T,Aa (.dic kvs,Ac),s4,s5] = .next [sh S,si p,sh T,Aa (.dic (kvs++[(k,.bl Ac)]),Ac),sh X,sh Y] := by
 have e1 := VS ek no;have e2 : C0 Y = .ok k := by unfold C0;rw[ek]
 have e3 := TQ (d := .bl Ac) no;have e4 : Bg .NotEq Y Y = .ok (.bl Ad) := by
  show (if (flD 5 Y&&flD 5 Y) = Ac then R.ok (D.bl (!eqD Y Y)) else .bad) = _
  rw[fl, eq];rfl
 simp[Cq, G1, h1, hr, h2, e1, e2, e3, fl, eq, Eb, sz]
structure H22 (Γ : Gam) (ns : Ab Ae) : Prop where
 prime : ∃ p, P4 p /\ Γ.F 81 [scr ns] = .ok (.int p)
 tab : ∀ p, P4 p -> ∃ n R a b c, Γ.F 88 [scr ns, .int 1] = .ok (.int n) /\ Γ.F 83 [scr ns, .int p, .int 1, .int n] = .ok R /\ Γ.F 84 [.int p, R] = .ok (Dt a b c) /\ GoodR p a b c
 all : RI Γ
 led : Ut Γ
 law : Uu Γ
 rst : QJ Γ
noncomputable def kv(p : Ae)(a b c x : R3) : Ab Ae × D := (tri (nrm p (ap a b c x)), .bl Ac)
theorem Wh{a b c x : R3}{L:Ab R3}(hp : P4 p)(z : AO a b c%p ≠ 0)(hx : NF p x)(hL : ∀ y ∈ L, NF p y)(ne : x ∉ L) : ((L.map (kv p a b c)).any fun q => q.1==tri (nrm p (ap a b c x))) = Ad := by
 rw[List.any_eq_false];intro q hq;obtain⟨y, hy, rfl⟩ := CS.mp hq;intro e;have e1 : nrm p (ap a b c y) = nrm p (ap a b c x) := Qn (A7.mp e);have h1 := KN hp z hx;have h2 := KN hp z (hL y hy);rw[e1, h1]at h2;exact ne (h2 ▸ hy)
theorem LW(h : H22 Γ ns){p : Ae}{a b c : R3}(G : GoodR p a b c){S : D} :∀(xs L :Ab R3)(s4 s5 :Sl),(∀ x ∈ xs,NF p x)->(∀ x ∈ L,NF p x)->xs.Nodup->(∀ x ∈ xs,x ∉ L)->L.length+xs.length <= 1000->∃ s4' s5',CG (Cq Γ 4 G1) (xs.map (AR Ac)) [sh S,si p,sh (Dt a b c),Aa (.dic (L.map (kv p a b c)),Ac),s4,s5] = .next [sh S,si p,sh (Dt a b c),Aa (.dic ((L++xs).map (kv p a b c)),Ac),s4',s5']
 |[], L, s4, s5, _, _, _, _, _ => ⟨s4, s5, by rw[B6];rfl⟩
 |x::xs, L, s4, s5, hx, hL, nd, dj, hz => by
  have hp := G.p4;have nx := hx x Au;obtain⟨n1, _⟩ := G5 hp G.nz nx;have hz' : L.length+(xs.length+1) <= 1000 := hz;rw[List.nodup_cons]at nd;have t := S3 (S := S) (s4 := s4) (s5 := s5) (h.rst p (tri (nrm p (ap a b c x))) (fun i hi => by
   obtain⟨⟨i1, i2, i3⟩, _⟩ := n1;rcases AM.mp hi with rfl|hi
   ·exact i1
   rcases AM.mp hi with rfl|hi
   ·exact i2
   rcases AM.mp hi with rfl|hi
   ·exact i3
   ·cases hi)) (h.led p a b c x G nx) (h.law p a b c x G nx) rfl (by show eqD (AR Ac _) (AR Ac _) = Ac;simp[AR, B4, ds]) rfl (Wh hp G.nz nx hL (dj x Au)) (by rw[BR];exact DJ (by omega))
  obtain⟨s4', s5', ih⟩ := LW h G (S := S) xs (L++[x]) (sh (AR Ac x)) (sh (AR Ac (nrm p (ap a b c x)))) (fun y hy => hx y (Ar _ hy)) (fun y hy => by
   rcases Dg.mp hy with hy|hy
   ·exact hL y hy
   ·rw[A9.mp hy];exact nx) nd.2 (fun y hy hy' => by
   rcases Dg.mp hy' with hy'|hy'
   ·exact dj y (Ar _ hy) hy'
   ·rw[A9.mp hy']at hy;exact nd.1 hy) (by rw[B0, NP];omega)
  refine⟨s4', s5', ?_⟩;rw[NR]at ih;have e : L++x::xs = L++[x]++xs := by simp
  rw[e, <-ih];show (Cq Γ 4 G1 (AR Ac x) _).turn _ = _;rw[t];rfl
theorem Uv(h : H22 Γ ns) : IV.run Γ [scr ns] = .ok (.bl Ac) := by
 obtain⟨p, hp, e1⟩ := h.prime;obtain⟨n, RR, a, b, c, e2, e3, e4, G⟩ := h.tab p hp;have e5 := h.all p hp;have pp : BG p p = Ac := D9 (by have := hp.lo;omega) (by have := hp.hi;omega)
 have N1 : 0 <= p*p+p+1 /\ p*p+p+1 <= 1000 := by rcases hp with rfl|rfl|rfl|rfl <;> decide
 have len : (Dv p).length = (p*p+p+1).toNat := by unfold Dv;rw[BR, List.length_range]
 obtain⟨s4, s5, e6⟩ := LW h G (S := scr ns) (Dv p) [] Af Af (fun x hx => (R4 hp).mp hx) (fun x hx => by cases hx) (Pe hp) (fun x _ hx => by cases hx) (by rw[List.length_nil, len];omega)
 rw[List.nil_append]at e6;have len2 : ((Dv p).map (kv p a b c)).length = (p*p+p+1).toNat := by rw[BR, len]
 have sz : B2 ((Dv p).map (kv p a b c)).length = Ac := by rw[len2];exact DJ (by omega)
 have e7 : biD .len [.dic ((Dv p).map (kv p a b c))] = .ok (.int (p*p+p+1)) := by
  show (if B2 ((Dv p).map (kv p a b c)).length = Ac then R.ok (D.int ((Dv p).map (kv p a b c)).length) else .bad) = _
  rw[AE sz, len2, NA N1.1]
 have e8 : Bg .Eq (.int (p*p+p+1)) (.int (p*p+p+1)) = .ok (.bl Ac) := by
  show R.ok (D.bl (eqD _ _)) = _;simp
 have e5' : Γ.F 94 [.int p] = .ok (.lst ((Dv p).map (AR Ac))) := e5;generalize (Dv p).map (AR Ac) = AL at *;generalize (Dv p).map (kv p a b c) = KV at *;generalize Dt a b c = TT at *;generalize hN : p*p+p+1 = N at *;simp only[EG]at e6;simp[IV, Df.run, BY, e1, e2, e3, e4, e5', e6, e7, pp, hN]
end
noncomputable def WX : Ag -> Ab Ag := fun _ => []
noncomputable def WW : Ag -> Ab D -> R Ex := fun _ _ => .bad
noncomputable def Q22 : Prg := ⟨Ac, fun
 |1 => JC
 |9 => Hu
 |17 => HB
 |91 => IU
 |92 => Hi
 |79 => Ht
 |81 => Ip
 |82 => II
 |93 => G3
 |94 => Hy
 |95 => IW
 |83 => Jd
 |84 => IB
 |96 => Hx
 |85 => Im
 |86 => Io
 |88 => IC
 |97 => IV
 | _ => ⟨0, Ad, .nil⟩, fun _ => .non, WX, WW⟩
theorem Wg(ns : Ab Ae) : (gam Q22 6).F 97 [scr ns] = .ok (.bl Ac) := by
 have rs : ∀ n, Ha (gam Q22 (n+1)) := fun n p m hp => DC (Su _ p m hp)
 have mi : ∀ n, HQ (gam Q22 (n+1)) := fun n ns k hk => DC (TF _ ns k hk)
 have tu : ∀ n, IY (gam Q22 (n+2)) := fun n p m hp z => let ⟨t, t1, t2, t3, e⟩ := Pz (rs n) p m hp z;⟨t, t1, t2, t3, DC e⟩
 have fo : ∀ n, Jq (gam Q22 (n+3)) := fun n p b xs l t hp e it => DC (QV (rs (n+1)) (tu n) hp e it)
 have su : ∀ n, JD (gam Q22 (n+2)) := fun n p t q q' a b c x hp ha hb hc hx => DC (Sq (rs n) p t q q' a b c x hp ha hb hc hx)
 have f2 : ∀ n, Jr (gam Q22 (n+1)) := fun n p b xs l t hp e it => DC (QW _ hp e it)
 have tb : ∀ n, RZ (gam Q22 (n+2)) := fun n p a b c l t hp e it => DC (QT (f2 n) p a b c l t hp e it)
 have dt : ∀ n, JS (gam Q22 (n+1)) := fun n q q' a x ha hx => DC (U4 _ q q' a x ha hx)
 have pt : ∀ n, L9 (gam Q22 (n+1)) := fun n p k hp => DC (Sv _ p k hp)
 have gF : ∀ n i ds, (gam Q22 (n+1)).F i ds = DY Ac ((Q22.defs i).run (gam Q22 n) ds) := fun _ _ _ => rfl
 have d94 : Q22.defs 94 = Hy := rfl;have d92 : Q22.defs 92 = Hi := rfl;have d96 : Q22.defs 96 = Hx := rfl;have h : H22 (gam Q22 5) ns := by
  refine⟨⟨_, TV _, DC (PV (mi 3) ns)⟩, fun p hp => ?_, fun p hp => ?_, fun p a b c x G hx => ?_, fun p a b c x G hx => ?_, fun p xs hx => DC (PU (fun x => DC (PR _ x)) p xs hx)⟩
  ·obtain⟨n, n0, n1, e1⟩ := QU (gam Q22 4) ns 1;obtain⟨a, b, c, g, e2⟩ := Sr (mi 3) ns p 1 n hp (by decide) n0 n1
   obtain⟨l, t, el, it, tz, gd, l1⟩ := Pt hp g.nz;exact⟨n, _, _, _, _, DC e1, DC e2, tb 3 p a b c l t hp el it, gd⟩
  ·rw[gF, d94, QX (pt 3) p hp];rfl
  ·rw[gF, d92, TH (su 2) (fo 1) p a b c x G hx];rfl
  ·rw[gF, d96, TL (dt 3) (f2 3) p a b c x G hx];rfl
 exact DC (Uv h)
end OvC
namespace OvC
open PySem PySem.Spec PyProof.Rows Ov L2
variable{l:Dx}
noncomputable def tp22(i : Ag) : Bb := PySem.Challenge.pw_ovalfield_k22_points_led.main.body.getD i (.Pass ⟨0, 0, 0, 0⟩)
noncomputable def MA : Ab (Aj × Ag × Ag) := ([("rest", 1, 2), ("turned_over", 9, 2), ("one_form", 17, 2), ("sums_by", 91, 3), ("led", 92, 3), ("_law_mixed", 79, 2), ("_law_prime", 81, 1), ("_law_form", 82, 2), ("_law_triple", 93, 2), ("_law_all", 94, 1), ("_law_dot", 95, 2), ("_law_rows", 83, 4), ("_law_table", 84, 2), ("_law_led", 96, 3), ("_law_whole", 85, 1), ("_law_rests", 86, 3), ("_law_steps", 88, 2), ("law", 97, 1)] : Ab (Aj × Ag × Ag))
noncomputable def Nk : Ab Aj := ["all", "bool", "int", "isinstance", "len", "max", "min", "range", "tuple"]
noncomputable def Mo : Ab (Aj × Ag) := []
noncomputable def MN : Ab (Aj × Ag) := []
noncomputable def Mv : Ab (Aj × Ag) := []
noncomputable abbrev C22(h : An)(ps N : Ab Aj)(i d : Ag) : An := EW 80 h MA Nk Mo MN Mv ps N (tp22 i) (Q22.defs d)
theorem Ug : C22 Ad ["p", "n"] ["p", "n"] 5 1 = Ac := by decide +kernel
theorem Uf : C22 Ad ["p", "n"] ["p", "n", "turned"] 6 9 = Ac := by decide +kernel
theorem Ue : C22 Ad ["p", "numbers"] ["p", "numbers", "rests", "first", "factor", "#5", "#6"] 8 17 = Ac := by decide +kernel
theorem Ud : C22 Ad ["p", "rows", "numbers"] ["p", "rows", "numbers", "#3"] 10 91 = Ac := by decide +kernel
theorem UK : C22 Ad ["p", "table", "point"] ["p", "table", "point"] 11 92 = Ac := by decide +kernel
theorem UJ : C22 Ad ["_law_script", "_law_k"] ["_law_script", "_law_k", "_law_cell"] 13 79 = Ac := by decide +kernel
theorem UI : C22 Ad ["_law_script"] ["_law_script"] 14 81 = Ac := by decide +kernel
theorem UH : C22 Ad ["_law_p", "_law_numbers"] ["_law_p", "_law_numbers", "_law_rests_here", "_law_first", "_law_over", "#5", "#6", "#7", "#8"] 15 82 = Ac := by decide +kernel
theorem UG : C22 Ad ["_law_p", "_law_number"] ["_law_p", "_law_number"] 16 93 = Ac := by decide +kernel
theorem UF : C22 Ad ["_law_p"] ["_law_p", "#1"] 17 94 = Ac := by decide +kernel
theorem RW : C22 Ad ["_law_one", "_law_other"] ["_law_one", "_law_other"] 18 95 = Ac := by decide +kernel
theorem RV : C22 Ad ["_law_script", "_law_p", "_law_at", "_law_many"] ["_law_script", "_law_p", "_law_at", "_law_many", "_law_rows_here", "_law_k", "_law_cell", "_law_one", "_law_other", "_law_times", "_law_kept", "_law_here", "_law_there", "#13", "#14"] 19 83 = Ac := by decide +kernel
theorem RU : C22 Ad ["_law_p", "_law_rows_here"] ["_law_p", "_law_rows_here", "_law_numbers"] 20 84 = Ac := by decide +kernel
theorem RT : C22 Ad ["_law_p", "_law_table_here", "_law_point"] ["_law_p", "_law_table_here", "_law_point", "#3"] 21 96 = Ac := by decide +kernel
theorem RS : C22 Ad ["_law_found"] ["_law_found"] 22 85 = Ac := by decide +kernel
theorem RQ : C22 Ad ["_law_found", "_law_p", "_law_many"] ["_law_found", "_law_p", "_law_many", "#3"] 23 86 = Ac := by decide +kernel
theorem RP : C22 Ad ["_law_script", "_law_at"] ["_law_script", "_law_at"] 24 88 = Ac := by decide +kernel
theorem LR : C22 Ad ["_law_script"] ["_law_script", "_law_p", "_law_table_here", "_law_met", "_law_point", "_law_found"] 25 97 = Ac := by decide +kernel
set_option maxHeartbeats 0 in
theorem all22{w:AI}{K:Fg}{h:AC}{mg:Aj -> Al Ah}{fa f0 f1 f2 f3 f4 f5 f6 f7 f8 f9 f10 f11 f12 f13 f14 f15 f16 f17:Ai}(X : K.In h)(G : h.Ns AU mg)(hfa : mg "law" = Aa (.ref fa))(a0 : FnI K f0 "rest" (tp22 5))(a1 : FnI K f1 "turned_over" (tp22 6))(a2 : FnI K f2 "one_form" (tp22 8))(a3 : FnI K f3 "sums_by" (tp22 10))(a4 : FnI K f4 "led" (tp22 11))(a5 : FnI K f5 "_law_mixed" (tp22 13))(a6 : FnI K f6 "_law_prime" (tp22 14))(a7 : FnI K f7 "_law_form" (tp22 15))(a8 : FnI K f8 "_law_triple" (tp22 16))(a9 : FnI K f9 "_law_all" (tp22 17))(a10 : FnI K f10 "_law_dot" (tp22 18))(a11 : FnI K f11 "_law_rows" (tp22 19))(a12 : FnI K f12 "_law_table" (tp22 20))(a13 : FnI K f13 "_law_led" (tp22 21))(a14 : FnI K f14 "_law_whole" (tp22 22))(a15 : FnI K f15 "_law_rests" (tp22 23))(a16 : FnI K f16 "_law_steps" (tp22 24))(a17 : FnI K f17 "law" (tp22 25))(z0 : BM K AU "all" = Aa Af)(z1 : BM K AU "bool" = Aa Af)(z2 : BM K AU "int" = Aa Af)(z3 : BM K AU "isinstance" = Aa Af)(z4 : BM K AU "len" = Aa Af)(z5 : BM K AU "max" = Aa Af)(z6 : BM K AU "min" = Aa Af)(z7 : BM K AU "range" = Aa Af)(z8 : BM K AU "tuple" = Aa Af):
    ∃ fd : Bu, (∀(s : Ak)(v : Ah), Ez s fd ⟨[v], []⟩ [("_law_script", v)]) /\ ∀ base : AC, K.In base -> base.Ns AU mg -> FnOk l.prog w K mg base (CXR l.prog w) 6 fa fd ["_law_script"] (HV K) := by
  obtain⟨_, F, e⟩ := a17;obtain⟨_, _, _, _, _, _, _, _, _, rfl, _, _⟩ := F.ex;cases hfa.symm.trans (FD X G e);have T : Tab K mg (fun _ => Af) MA Nk Mo MN Mv Q22 80 := ⟨Qv fun _ _ => rfl, all_cons (Bx X G z0) (all_cons (Bx X G z1) (all_cons (Bx X G z2) (all_cons (Bx X G z3) (all_cons (Bx X G z4) (all_cons (Bx X G z5) (all_cons (Bx X G z6) (all_cons (Bx X G z7) (all_cons (Bx X G z8) (Jo))))))))), Jo, all_cons (Fw 2 1 X G a0 rfl Ug fun _ _ _ _ _ _ _ _ => rfl) (all_cons (Fw 2 9 X G a1 rfl Uf fun _ _ _ _ _ _ _ _ => rfl) (all_cons (Fw 2 17 X G a2 rfl Ue fun _ _ _ _ _ _ _ _ => rfl) (all_cons (Ie 3 91 X G a3 rfl Ud fun _ _ _ _ _ _ _ _ _ => rfl) (all_cons (Ie 3 92 X G a4 rfl UK fun _ _ _ _ _ _ _ _ _ => rfl) (all_cons (Fw 2 79 X G a5 rfl UJ fun _ _ _ _ _ _ _ _ => rfl) (all_cons (Ig 1 81 X G a6 rfl UI fun _ _ _ _ _ _ _ => rfl) (all_cons (Fw 2 82 X G a7 rfl UH fun _ _ _ _ _ _ _ _ => rfl) (all_cons (Fw 2 93 X G a8 rfl UG fun _ _ _ _ _ _ _ _ => rfl) (all_cons (Ig 1 94 X G a9 rfl UF fun _ _ _ _ _ _ _ => rfl) (all_cons (Fw 2 95 X G a10 rfl RW fun _ _ _ _ _ _ _ _ => rfl) (all_cons (WS 4 83 X G a11 rfl RV fun _ _ _ _ _ _ _ _ _ _ => rfl) (all_cons (Fw 2 84 X G a12 rfl RU fun _ _ _ _ _ _ _ _ => rfl) (all_cons (Ie 3 96 X G a13 rfl RT fun _ _ _ _ _ _ _ _ _ => rfl) (all_cons (Ig 1 85 X G a14 rfl RS fun _ _ _ _ _ _ _ => rfl) (all_cons (Ie 3 86 X G a15 rfl RQ fun _ _ _ _ _ _ _ _ _ => rfl) (all_cons (Fw 2 88 X G a16 rfl RP fun _ _ _ _ _ _ _ _ => rfl) (all_cons (Ig 1 97 X G ⟨_, F, e⟩ rfl LR fun _ _ _ _ _ _ _ => rfl) (Jo))))))))))))))))))⟩
  exact⟨_, fun s v => .of_eq rfl, fun base _ _ => law_fn (L3 T (Jy T 5) F rfl LR) Wg⟩
theorem walk22{q:AB}{loose:Ab Aj}{XP:(Aj -> Al Ah) -> AC -> Prop}{YP:AI -> AC -> Prop}{d:DefRec}{K:GW -> Fg}(hn : l.most = Aa 63)(hdf : d.params.defaults = [])(hY : ∀(w : AI)(h : AC), YP w h -> (K w.params).In h)(F : ∀(w : AI)(mg : Aj -> Al Ah)(fa : Ai)(h : AC), (K w.params).In h -> h.Ns AU mg -> mg d.name = Aa (.ref fa) ->
   ∃ fd : Bu, (∀(s : Ak)(u : Ah), Ez s fd ⟨[u], []⟩ [("_law_script", u)]) /\ ∀ base : AC, (K w.params).In base -> base.Ns AU mg -> FnOk l.prog w (K w.params) mg base (CXR l.prog w) 6 fa fd ["_law_script"] (HV (K w.params))):Ou q loose XP YP l.row.toRowW d [] (fun f vs =>Gq f vs):=
 L2.walk_of (n := 63) (k := 6) (x := "_law_script") (CX := fun w => CXR l.prog w) (sp := fun w => HV (K w.params)) hn (by decide) hdf ⟨rfl, by decide, by decide, rfl⟩ hY F (fun _ H a ns hl _ hS => ⟨a, ns, rfl, hl, hS, fun _ _ z => z⟩) fun _ _ _ _ _ z => Uz z
end OvC
open PySem PySem.W PyProof.Rows
noncomputable def OvC.view22 : PySem.Program := { PySem.Challenge.pw_ovalfield_k22_points_led with main := {PySem.Challenge.pw_ovalfield_k22_points_led.main with body := [OvC.tp22 1, OvC.tp22 2, OvC.tp22 3, OvC.tp22 5, OvC.tp22 6, OvC.tp22 8, OvC.tp22 10, OvC.tp22 11, OvC.tp22 13, OvC.tp22 14, OvC.tp22 15, OvC.tp22 16, OvC.tp22 17, OvC.tp22 18, OvC.tp22 19, OvC.tp22 20, OvC.tp22 21, OvC.tp22 22, OvC.tp22 23, OvC.tp22 24, OvC.tp22 25]} }
set_option hygiene false
local macro_rules | `(tactic| o_head $H) => `(tactic| refine holds_open (q := OvC.view22) (loose := []) (Xt := fun s => xlAt OvC.view22 [] s&&recOk (RowW.records (OpenRow.toRowW (PySem.Challenge.rw_ovalfield_k22_points_led.row))) s) (XP := XL OvC.view22 []) (Yf := Hook.obs $H) (Ya := Hook.val $H) (YP := Hook.says $H) (N := 2476) ?hl (Hook.of $H) (Hook.keeps $H) (fun s e => xl_of s (Bool.and_eq_true_iff.mp e).1) XL.keeps (by rfl) (by rfl) (by rfl) (fun s e => recFacts_of (Bool.and_eq_true_iff.mp e).2) (by rfl) (by first|assumption|decide +kernel) (by decide +kernel) ⟨rfl, rfl, rfl, rfl, rfl, by decide +kernel⟩ ?hw ?hc)
set_option maxRecDepth 100000 in
set_option maxHeartbeats 0 in
theorem PySem.Challenge.cw_ovalfield_k22_points_led_holds : PySem.Challenge.rw_ovalfield_k22_points_led.Holds := by
 w_on;refine holds_law (by decide +kernel) fun said => ?_;k_head
 (case hl => intro w;unfold openEnds fencedOpening topFrom;rw[PySem.W.Fast.te10274390034422433532, PySem.W.Fast.te14364793385576792824, PySem.W.Fast.te1435165496053646825, PySem.W.Fast.te14289696077712309145, PySem.W.Fast.te14082659384304107361, PySem.W.Fast.te4187177175401517315];kernel_rfl)
 (case hw => w_witness2)
 k_fill
 refine OvC.walk22 (l := PySem.Challenge.rw_ovalfield_k22_points_led) rfl rfl (fun w h Y => Ox Y) ?F
 case F=>
  intro w mg fa h KX G hmg
  refine' OvC.all22 KX G hmg ?a0 ?a1 ?a2 ?a3 ?a4 ?a5 ?a6 ?a7 ?a8 ?a9 ?a10 ?a11 ?a12 ?a13 ?a14 ?a15 ?a16 ?a17 ?z0 ?z1 ?z2 ?z3 ?z4 ?z5 ?z6 ?z7 ?z8
  case a0|a1|a2|a3|a4|a5|a6|a7|a8|a9|a10|a11|a12|a13|a14|a15|a16|a17 => (refine' Ov.fni ?a ?l ?c ?k;(case a => k_is);(case l => k_is);(case c => k_is);(case k => k_is))
  (case z0 => k_is)
  (case z1 => k_is)
  (case z2 => k_is)
  (case z3 => k_is)
  (case z4 => k_is)
  (case z5 => k_is)
  (case z6 => k_is)
  (case z7 => k_is)
  (case z8 => k_is)
import PyProof.Rows.All
import Wide.All
import OpenK.AllK
import Wide.FinOn
import PyProof.EqAt
import KE.KSortTup
import PyProof.EqKinds
import PyProof.TupleCall
import Lean
import PySem.Challenge.RW_ovalfield_k23_whole_lines_led
set_option Elab.async false
set_option linter.all false
set_option maxRecDepth 100000
set_option maxHeartbeats 4000000
open Option renaming some→Aa,none→Af,bind_eq_some_iff→CI,map_some→Dj,getD_none→Ot
open _root_ renaming List→Ab,Int→Ae,Nat→Ag,Option→Al,Bool→An,if_pos→AF,if_neg→AH,False→AX,decide_eq_true_eq→A1,Array→A8,beq_iff_eq→A9,beq_eq_false_iff_ne→BF,decide_eq_false→B9,String→Cc,beq_self_eq_true→DJ,Decidable→DK,True→E4,if_true→Fm,Unit→FT,bne_iff_ne→Gw,if_false→Hw,not_or→Hx,of_decide_eq_true→XN
open Bool renaming true→Ac,false→Ad,and_eq_true→Am,false_ne_true→Ap,not_eq_true'→Bk,or_eq_true→CK,eq_iff_iff→Dh,and_false→Fc,and_true→NP
open PySem renaming Value→Ah,Addr→Ai,Str→Aj,Shared→Ak,Expr→Ao,wpAny_bind→Aq,starEach→At,wpAny→Ay,Obj→AB,Program→AC,Heap→AD,Pos→AI,World→AJ,wpAny_pure→AK,Around→AM,mainGlobals→AV,cLine→A6,Stmt→Bc,binaryOp→Bl,FuncData→Bs,compareOp→Bv,Scope→Bx,wpAny_mono→Bz,wpAny_truthy_bool→BA,mem_of_lookup→BB,Env→BG,backTo→BN,foldedSetIterable→BP,bootBuiltins→BW,assignEach→BX,cellsFrom→B1,Tok→Ca,tupleKind_room_in1→Cj,wpAny_newObj_type→Ct,sysModules→Cw,swapsWith→CA,NameKind→CD,CmpOp→CS,wpAny_holding→C5,sliceBounds→C9,wpAny_field→Da,wpAny_passesOwn→Dl,sizeLine_eq→Dz,GenState→DC,PassesOwn→DM,letOwnedTupleGo→DX,Keyword→Ea,codeAny→Ec,atKey→Ei,pushCells→Ej,rawInt→Ek,wpAny_Call_Name_kw→El,behindInMarks→Eo,swapsWithSole→Ep,BindsTo→EC,callerA→ED,IsPart→EJ,Operator→EK,Paired→EL,pushCells_keeps→E2,OsState→Fe,dictSetDefault→Ff,isTrue→Fh,newFunctionEnv→Fi,notedBy→Fj,standAt→Fk,wpAny_setField→Fl,Drawn→Fn,bindC→Fo,bindL→Fp,builtinsNs→Fq,entryOfKey→Fs,numAt→Ft,attributeBase→FF,swappedStores→FG,wpAny_standAt→FH,call_meetsIn→FN,codeAny_mono→FO,concat_meets→FP,lastMarks→FQ,noteFrame→FR,seqIndex_neg→FS,Model→F0,getItem→F1,setItem→F2,keywordEach→F6,seqIndex_of→F7,Result→Gr,call→Gu,wpAny_Name→Gv,IntMulOk→G0,Params→G1,backToKw→G2,bindArgs→G3,intItems→G4,noFill_tuple_add→OW,recursionLimit→OX,slot_list_getitem→OY,wpAny_assign_Name→OZ,wpAny_callSpecial?_slot→O0,wpAny_comprehension_free→O1,wpAny_dictEntries→O2,wpAny_execs_nil→O3,wpAny_pyIter_list→O4
open List renaming mem_cons_of_mem→Ar,mem_cons_self→Au,size_toArray→AE,mem_cons→AQ,getElem?_eq_some_iff→AU,mem_append_right→AW,length_set→AZ,mem_singleton→Bh,map_cons→Bm,getElem?_set_ne→Bo,getElem?_set_self→Bq,lookup_cons→Br,getElem?_eq_getElem→BK,mem_range→B0,length_map→B6,range→B7,length_append→Ci,append_nil→Cm,getD_eq_getElem?_getD→Co,isEmpty_eq_false_iff→Cu,mem_map→CB,getElem?_map→CQ,getElem?_append_left→Di,getElem?_set_self'→Dq,length_cons→DB,find?_cons→DN,mem_append→DO,mem_filter→DP,nodup_cons→DQ,toArray→DR,filterMap_cons→D6,getElem_of_mem→D7,replicate→D9,all_cons→En,filter_cons→EG,getElem_mem→EH,length_take→EI,of_mem_zip→E0,map_nil→FL,all_eq_true→NY,any_cons→NZ,any_eq_true→N2,contains_eq_mem→N4,drop_eq_getElem_cons→N5,drop_eq_nil_of_le→N6,forIn_nil→N7,getElem?_append_right→N8,getElem?_replicate→N9,length→Oa,length_drop→Ob,length_replicate→Oc,lookup→Od,map_map→Oe,mem_append_left→Of,mem_of_getElem?→Og,nodup_nil→Oh,not_mem_nil→Oi,reverse_cons→Oj,set_set→Ol
open Nat renaming lt_of_lt_of_le→Av,le_refl→AG,lt_irrefl→A7,ne_of_lt→Bw,le_trans→BL,ble→C7,le_of_lt→DS,pow_le_pow_right→DT,lt_succ_of_lt→Ez,zero_le→F5,ble_eq_true_of_le→Om,le_of_ble_eq_true→On,lt_succ_self→Oo,min_self→Op,ne_of_gt→Oq,not_lt→Os
open PySem.Heap renaming get?_push_of_some→Aw,lt_size→Az,get?_push_size→Ba,get?_update_other→BV,get?_update_self→Cn,size_push→Dp,SameBut→DU,get?_none_of_le→DV
open Int renaming emod_eq_of_lt→Ax,emod_nonneg→AY,emod_lt_of_pos→A2,emod_emod_of_dvd→A5,mul_emod→Bi,dvd_refl→BJ,mul_comm→Ch,zero_emod→C3,one_mul→Eh,mul_assoc→Em,mul_one→E3,mul_zero→FJ,sub_zero→FK,le_refl→F3,mul_pos→F4,add_emod→NS,ediv_nonneg→NT,le_trans→NU,sub_emod→NV,toNat_of_nonneg→NW,zero_add→NX
open PySem.NameKind renaming cell→Be,free→Cq
open PySem.W renaming mg_none_of→By,nsIn→BM,keepIn→Cd,fnOf→CF,findIn→CV,OpenLaw→Dy,codeIn→Eb,methodObj→EA,mg_of→FE,WalkO→OQ,cellsFrom_some→OR,kIn_of→OS,kitOne→OT,subIn→OU
open Option.some renaming inj→BU,injEq→Dr
open Prod renaming ext→Cp
open PySem.Builtin.Slice renaming slicePlaces→Cv,sliceAdjust→Dk,sliceApplied→OA
open PySem.Builtin.Tuple renaming tupleExact→CC
open False renaming elim→CM
open ForInStep renaming yield→CN
open PySem.Obj renaming data_mapFields→CO,mapFields→DA,isFreed_of_fields→DL,mapSeq→EB,data_mapDictKeys→OH
open PySem.Value renaming none→CP,ref→E1,bool→OL,int→OM,str→ON
open Classical renaming choose_spec→CT,choose→NQ
open PySem.Str renaming ofString→CU
open PyProof.Rows renaming callWith_type1→CZ,envOfC→C4,AllBare→Do,subscriptTail_builtinR→Dx,IntsAre→Fd,IsTup→Gq,boot_list→Ou,boot_tuple→Ow,slicePart_none→Ox,slot_tuple_getitem→Oy
open Ne renaming symm→C8
open Array renaming length_toList→Db,toList→FI,getElem?_eq_getElem→NO
open PySem.SeqAt renaming EqAt→DW,RcNeAt→FM,RcAt→Gs
open PySem.Heap.SameBut renaming update→D8
open Sum renaming inl→EE,inr→EF
open NeZero renaming ne→GW
open PyProof.Rows.IsTup renaming new→GX
open PySem.Data renaming cell→GY,seq→GZ
open Function renaming comp_def→NR
open List.cons renaming injEq→N3
open PySem.Builtin.Int renaming intBits→Oz
open PySem.Calls renaming Name_function_global→OB
open PySem.EntryCells renaming newEntry→OC
open PySem.F renaming args_tuple_add_2→OD,entry_tuple_add→OE,slot_dict_len→OF,slot_tuple_add→OG
open PySem.Paired renaming length→OI
open PySem.SeqAt.EqAt renaming of_refs→OJ,same→OK
open PySem.W.WData renaming int→OO
open PySem.W.WShape renaming has→OP
abbrev Fg:=PySem.W.Frag
set_option genSizeOfSpec false
-- CHANGE: your row's module here, as the last of these rows
namespace L2
open PySem PySem.Spec PyProof.Rows
noncomputable abbrev Key := Sum Ae Aj
noncomputable def M5 : Key -> Ah -> An
 |.inl k, v => Value.isInt k v
 |.inr x, v => Value.isStrOf x v
noncomputable def XI(w : AJ) : Key -> Ae
 |.inl k => hashInt k
 |.inr x => hashStr w x
theorem Fw : ∀{k : Key}{v : Ah}, M5 k v = Ac -> (∃ i t, k = EE i /\ v = OM i t) \/ (∃ x t, k = EF x /\ v = ON x t)
 |.inl i, v, h => by
  obtain⟨t, e⟩ := Value.isInt_shape (k := i) (v := v) h;exact .inl ⟨i, t, rfl, e⟩
 |.inr x, v, h => by
  obtain⟨t, e⟩ := Value.isStrOf_shape (x := x) (v := v) h;exact .inr ⟨x, t, rfl, e⟩
theorem UT(a b : Ae) : decide ((EE a : Key) = EE b) = (a==b) := by
 by_cases e : a = b
 ·subst e;simp
 ·have h : ¬ (EE a : Key) = EE b := fun q => e (Sum.inl.inj q)
  rw[B9 h];exact(BF.mpr e).symm
theorem UQ(a b : Aj) : decide ((EF a : Key) = EF b) = decide (a = b) := by
 by_cases e : a = b
 ·subst e;simp
 ·have h : ¬ (EF a : Key) = EF b := fun q => e (Sum.inr.inj q)
  rw[B9 h, B9 e]
theorem US(a : Ae)(b : Aj) : decide ((EE a : Key) = EF b) = Ad := B9 (fun q => nomatch q)
theorem UR(a : Aj)(b : Ae) : decide ((EF a : Key) = EE b) = Ad := B9 (fun q => nomatch q)
noncomputable def JC(prog : AC)(w : AJ) : PySem.KeyKind prog w Key where
 is := M5
 hash := XI w
 inj := fun v a b ha hb => by
  rcases Fw ha with ⟨i, t, rfl, rfl⟩|⟨x, t, rfl, rfl⟩
  ·rcases Fw hb with ⟨j, u, rfl, e⟩|⟨y, u, rfl, e⟩
   ·injection e with e1 _;rw[e1]
   ·exact nomatch e
  ·rcases Fw hb with ⟨j, u, rfl, e⟩|⟨y, u, rfl, e⟩
   ·exact nomatch e
   ·injection e with e1 _;rw[e1]
 byValue := fun k v h => by
  rcases Fw h with ⟨i, t, rfl, rfl⟩|⟨x, t, rfl, rfl⟩ <;> rfl
 pyHash := fun hv h => by
  rcases Fw hv with ⟨i, t, rfl, rfl⟩|⟨x, t, rfl, rfl⟩
  ·exact wpAny_pyHash_int h
  ·exact wpAny_pyHash_str h
 eqBool := fun hu hv h => by
  rcases Fw hu with ⟨i, t, rfl, rfl⟩|⟨x, t, rfl, rfl⟩
  ·rcases Fw hv with ⟨j, u, rfl, rfl⟩|⟨y, u, rfl, rfl⟩
   ·rw[UT]at h;exact wpAny_eqBool_int h
   ·rw[US]at h;exact SeqAt.EqAt.int_str i t y u _ _ _ _ h
  ·rcases Fw hv with ⟨j, u, rfl, rfl⟩|⟨y, u, rfl, rfl⟩
   ·rw[UR]at h;exact SeqAt.EqAt.str_int x t j u _ _ _ _ h
   ·rw[UQ]at h;exact wpAny_eqBool_str h
 «strs» := fun k x t v h => by
  rcases Fw h with ⟨i, u, rfl, e⟩|⟨y, u, rfl, e⟩
  ·exact nomatch e
  ·injection e with e1 _
   subst e1;cases v <;> rfl
end L2
namespace L2
open PySem PySem.Spec PyProof.Rows
variable{us:Ab Ah}{a b it:Ai}{P:AC}{h:AD}{o:AB}{g':A8 DC}{t' i j k n:Ag}{d':Fn}{ch fp:Ab Ai}{x qual:Aj}{M:F0}{u:Ah}{Q:FT -> Ak -> Prop}{e tg:Ao}{s:Ak}{pos:AI}{pI:Ab (Ai × AB)}{es:Ab Ao}{body:Ab Bc}{f:Ah -> Ah -> Sem Ah}{g:Ae -> Ae -> Ae}{op op':CS}{fd:Bs}{ps:Ab Aj}{scope:Bx}
inductive V where
 |non|bl (b : An)|int (i : Ae)|str (x : Aj)|byt (b : A8 UInt8)|flt (b : UInt64)|ref (a : Ai)|ty (n : Cc)
 deriving DecidableEq
variable{xs vs:Ab V}{v y:V}
def A4 : V -> Ah -> Prop
 |.non, u => u = CP
 |.bl b, u => u = OL b
 |.int i, u => ∃ t, u = OM i t
 |.str x, u => ∃ t, u = ON x t
 |.byt b, u => ∃ t, u = Value.bytes b t
 |.flt b, u => ∃ t, u = Value.float b t
 |.ref a, u => u = E1 a
 |.ty n, u => u = Value.type n
noncomputable abbrev AR : Ab V -> Ab Ah -> Prop := EL A4
theorem AR.length(r : AR xs us) : xs.length = us.length := OI r
theorem AR.get : ∀{xs : Ab V}{us : Ab Ah}{i : Ag}{x : V}, AR xs us -> xs[i]? = Aa x -> ∃ u, us[i]? = Aa u /\ A4 x u
 |_, _, _, _, .nil, e => by simp at e
 |_, _, 0, _, .cons r _, e => by simp at e;subst e;exact⟨_, rfl, r⟩
 |_, _, i+1, x, .cons _ t, e => by
  obtain⟨u, h1, h2⟩ := AR.get (i := i) (x := x) t (by simpa using e)
  exact⟨u, by simpa using h1, h2⟩
theorem AR.set{x : V}{u : Ah}(r : A4 x u) : ∀{xs : Ab V}{us : Ab Ah}(i : Ag), AR xs us -> AR (xs.set i x) (us.set i u)
 |_, _, _, .nil => .nil
 |_, _, 0, .cons _ t => .cons r t
 |_, _, i+1, .cons q t => .cons q (AR.set r i t)
theorem AR.append : ∀{xs ys : Ab V}{us ws : Ab Ah}, AR xs us -> AR ys ws -> AR (xs++ys) (us++ws)
 |_, _, _, _, .nil, s => s
 |_, _, _, _, .cons r t, s => .cons r (AR.append t s)
theorem AR.take : ∀{xs : Ab V}{us : Ab Ah}(n : Ag), AR xs us -> AR (xs.take n) (us.take n)
 |_, _, 0, _ => .nil
 |_, _, _+1, .nil => .nil
 |_, _, n+1, .cons r t => .cons r (AR.take n t)
theorem AR.drop : ∀{xs : Ab V}{us : Ab Ah}(n : Ag), AR xs us -> AR (xs.drop n) (us.drop n)
 |_, _, 0, r => r
 |_, _, _+1, .nil => .nil
 |_, _, n+1, .cons _ t => AR.drop n t
def NC : Al V -> Al Ah -> Prop
 |some v, Aa u => A4 v u
 |none, Af => E4
 |_, _ => AX
noncomputable def KV{κ : Type} : Ab (κ × V) -> Ab (κ × Ah) -> Prop := EL fun(p : κ × V)(q : κ × Ah) => p.1 = q.1 /\ A4 p.2 q.2
noncomputable def kV : Key -> V
 |.inl i => .int i
 |.inr x => .str x
inductive HO where
 /-- a list -/
 |lst (xs : Ab V)
 /-- a tuple (never changes) -/
 |tup (xs : Ab V)
 /-- a dict whose keys are ints and texts;one whose keys are tuples of ints and texts (the empty one is both) -/
 |dK (kvs : Ab (Key × V))|dT (kvs : Ab (Ab Key × V))
 /-- a set of ints: its members, its size -/
 |set (S : Ae -> An) (n : Ag)
 /-- an instance of the class at C, its dict at dx, its attributes -/
 |ins (C dx : Ai) (fs : Ab (Aj × V))
 /-- the dict of the instance at x -/
 |own (x : Ai)
 /-- the dict of an exception -/
 |xd (fs : Ab (Aj × V))
 /-- a bound method, f of x -/
 |met (f x : Ai)
 /-- a range object lo, lo+1, .. below hi -/
 |rng (lo hi : Ae)
 /-- a thing that is known to the object (the script;a dict while a loop walks it): read, never written while it is so -/
 |frz (o : AB) (u : HO)
 /-- a code object's table -/
 |tbl (ps : A8 Ah)
 /-- any other thing, by what is Ac of its one object (a def of one's own: SetO a S n := HO.ext fun h => ..) -/
 |ext (φ : AD -> Prop)
noncomputable abbrev Hp := Ai -> Al HO
variable{H:Hp}
noncomputable def upd(H : Hp)(a : Ai)(o : HO) : Hp := fun b => if b = a then Aa o else H b
theorem Fu{o:HO} : upd H a o a = Aa o := by unfold upd;rw[AF rfl]
theorem B8{o:HO}(h : b ≠ a) : upd H a o b = H b := by unfold upd;rw[AH h]
theorem DE{o:HO}(h : H a = Aa o)(h' : H b = Af) : a ≠ b := by
 intro e;subst e;rw[h]at h';cases h'
section
variable(P : AC)(w : AJ)
def ObjOk(H : Hp)(h : AD)(a : Ai) : HO -> Prop
  |.lst xs => xs.length <= sizeLine /\ ∃(its : Ab Ah)(n : Ag), AR xs its /\ h.get? a = Aa { cls := .type "list", data := .seq its.toArray n }
  |.tup xs => xs.length <= sizeLine /\ ∃ its : Ab Ah, AR xs its /\ Gq h a its.toArray
  |.dK kvs => kvs.length <= sizeLine /\ (a==Cw) = Ad /\ ∃ vs, KV kvs vs /\ h.DictOf (JC P w) a vs
  |.dT kvs => kvs.length <= sizeLine /\ (a==Cw) = Ad /\ ∃ xs : Ab (Ab Key × Ai × Ah),
      EL (fun(p : Ab Key × V)(q : Ab Key × Ai × Ah) => p.1 = q.1 /\ H q.2.1 = Aa (.tup (p.1.map kV)) /\ A4 p.2 q.2.2) kvs xs /\
      ∃ o es ep, h.get? a = Aa o /\ o.ExactDict /\ o.data = .dict es ep /\ es.toList = xs.map (Fs (tupleKind (JC P w))) /\ (xs.map (·.1)).Nodup
  |.set S n => h.SetOf (intKind P w) a S n
  |.ins C dx fs => H dx = Aa (.own a) /\ fs.length <= 1000 /\ dx ≠ a /\ h.get? a = Aa (PySem.W.instObj C dx) /\
      ∃ mA, h.Ns1 dx mA /\ (∀ f, NC (fs.lookup f) (mA f)) /\ PySem.Within mA (fs.map (·.1))
  |.own _ => ∃ o, h.get? a = Aa o
  |.xd fs => ∃ mA, h.Ns1 a mA /\ ∀ f, NC (fs.lookup f) (mA f)
  |.rng lo hi => ∃ t u v, h.get? a = Aa { cls := .type "range", data := .fields #[.int lo t, .int hi u, .int 1 v] }
  |.frz o u => h.get? a = Aa o /\ ObjOk H h a u
  |.tbl ps => h.get? a = Aa {cls := .none, data := .fields ps}
  |.met f x => h.get? a = Aa (EA (.ref f) (.ref x))
  |.ext φ => φ h /\ (∃ o, h.get? a = Aa o) /\ ∀ h1 h2 : AD, φ h1 -> (∀ o, h1.get? a = Aa o -> h2.get? a = Aa o) -> φ h2
noncomputable def HOk(H : Hp)(h : AD) : Prop := ∀ a o, H a = Aa o -> ObjOk P w H h a o
end
section
variable{P : AC}{w : AJ}{H H' : Hp}{h h' : AD}{a : Ai}{o : HO}
theorem ObjOk.lt(x : ObjOk P w H h a o) : a<h.objs.size := by
 cases o with
 |lst xs => obtain⟨_, _, _, _, e⟩ := x;exact Az e
 |tup xs => obtain⟨_, _, _, p⟩ := x;exact p.lt
 |dK kvs => obtain⟨_, _, _, _, o, _, _, e, _⟩ := x;exact Az e
 |dT kvs => obtain⟨_, _, _, _, o, _, _, e, _⟩ := x;exact Az e
 |set S n => obtain⟨o, _, _, _, e, _⟩ := x;exact Az e
 |ins C dx fs => obtain⟨_, _, _, e, _⟩ := x;exact Az e
 |own y => obtain⟨_, e⟩ := x;exact Az e
 |xd fs => obtain⟨_, ⟨_, _, _, e, _⟩, _⟩ := x;exact Az e
 |rng lo hi => obtain⟨_, _, _, e⟩ := x;exact Az e
 |frz ob u => obtain⟨e, _⟩ := x;exact Az e
 |tbl ps => exact Az (show h.get? a = Aa _ from x)
 |met f y => exact Az (show h.get? a = Aa _ from x)
 |ext φ => obtain⟨_, ⟨_, e⟩, _⟩ := x;exact Az e
theorem EL.mapP{α β : Type}{F G : α -> β -> Prop} : ∀{l₁ : Ab α}{l₂ : Ab β}, EL F l₁ l₂ -> (∀ a b, F a b -> G a b) -> EL G l₁ l₂
 |_, _, .nil, _ => .nil
 |_, _, .cons r t, f => .cons (f _ _ r) (EL.mapP t f)
theorem ObjOk.stay(x : ObjOk P w H h a o)(k : ∀ b u, (b = a \/ H b = Aa (.own a)) -> h.get? b = Aa u -> h'.get? b = Aa u)(ho : ∀ b, H b = Aa (.own a) -> H' b = Aa (.own a))(ht : ∀ b xs, H b = Aa (.tup xs) -> H' b = Aa (.tup xs)) : ObjOk P w H' h' a o := by
 induction o with
 |lst xs => obtain⟨z, its, n, r, e⟩ := x;exact⟨z, its, n, r, k _ _ (.inl rfl) e⟩
 |tup xs => obtain⟨z, its, r, ob, e, c⟩ := x;exact⟨z, its, r, ob, k _ _ (.inl rfl) e, c⟩
 |dK kvs => obtain⟨z, y, vs, r, ob, es, ep, e, c⟩ := x;exact⟨z, y, vs, r, ob, es, ep, k _ _ (.inl rfl) e, c⟩
 |dT kvs=>
  obtain⟨z, y, xs, r, ob, es, ep, e, c⟩ := x;exact⟨z, y, xs, EL.mapP r fun p q z => ⟨z.1, ht _ _ z.2.1, z.2.2⟩, ob, es, ep, k _ _ (.inl rfl) e, c⟩
 |set S n => obtain⟨ob, es, ep, t, e, c⟩ := x;exact⟨ob, es, ep, t, k _ _ (.inl rfl) e, c⟩
 |ins C dx fs=>
  obtain⟨d, z, ne, e, mA, ⟨od, es, ep, e2, c⟩, r⟩ := x;exact⟨ho _ d, z, ne, k _ _ (.inl rfl) e, mA, ⟨od, es, ep, k _ _ (.inr d) e2, c⟩, r⟩
 |own y => obtain⟨ob, e⟩ := x;exact⟨ob, k _ _ (.inl rfl) e⟩
 |xd fs => obtain⟨mA, ⟨od, es, ep, e, c⟩, r⟩ := x;exact⟨mA, ⟨od, es, ep, k _ _ (.inl rfl) e, c⟩, r⟩
 |rng lo hi => obtain⟨t, u, v, e⟩ := x;exact⟨t, u, v, k _ _ (.inl rfl) e⟩
 |frz ob u ih => obtain⟨e, q⟩ := x;exact⟨k _ _ (.inl rfl) e, ih q⟩
 |tbl ps=>
  have e : h.get? a = Aa {cls := .none, data := .fields ps} := x;show h'.get? a = Aa {cls := .none, data := .fields ps};exact k a _ (.inl rfl) e
 |met f y=>
  have e : h.get? a = Aa (EA (.ref f) (.ref y)) := x;show h'.get? a = Aa (EA (.ref f) (.ref y));exact k a _ (.inl rfl) e
 |ext φ => obtain⟨p, ⟨o, e⟩, st⟩ := x;exact⟨st _ _ p fun o q => k _ _ (.inl rfl) q, ⟨o, k _ _ (.inl rfl) e⟩, st⟩
theorem HOk.lt(x : HOk P w H h)(e : H a = Aa o) : a<h.objs.size := (x a o e).lt
theorem HOk.fresh(x : HOk P w H h)(e : h.objs.size <= a) : H a = Af := by
 cases q : H a with
 |none => rfl
 |some u => exact absurd (Av (x.lt q) e) (A7 _)
theorem HOk.kept(x : HOk P w H h)(k : ∀ b u, h.get? b = Aa u -> h'.get? b = Aa u) : HOk P w H h' := fun a o e=>
 (x a o e).stay (fun b u _ q => k b u q) (fun _ q => q) fun _ _ q => q
theorem HOk.laid(x : HOk P w H h)(k : ∀ b u, h.get? b = Aa u -> h'.get? b = Aa u)(hp : h.objs.size <= a)(new : ObjOk P w (upd H a o) h' a o) : HOk P w (upd H a o) h' := fun b u e => by
 have hn := x.fresh hp;by_cases hb : b = a
 ·subst hb;rw[Fu]at e;cases e;exact new
 ·rw[B8 hb]at e;exact(x b u e).stay (fun c v _ q => k c v q) (fun c q => by rw[B8 (DE q hn)];exact q) fun c xs q => by rw[B8 (DE q hn)];exact q
end
noncomputable def Rd(H : Hp)(a : Ai)(u : HO) : Prop := H a = Aa u \/ ∃ o, H a = Aa (.frz o u)
theorem Rd.ok{w : AJ}{u:HO}(r : Rd H a u)(x : HOk P w H h) : ObjOk P w H h a u := by
 rcases r with r|⟨o, r⟩
 ·exact x a u r
 ·obtain⟨_, q⟩ := x a _ r;exact q
def Mut : Al HO -> Prop
 |some (.lst _) => E4
 |some (.dK _) => E4
 |some (.dT _) => E4
 |some (.set _ _) => E4
 |some (.ins _ _ _) => E4
 |some (.ext _) => E4
 |_ => AX
section
variable{P : AC}{w : AJ}{H : Hp}{h h' : AD}{x e : Ai}{o' : HO}
theorem HOk.write(ok : HOk P w H h)(mu : Mut (H x))(he : e = x \/ H e = Aa (.own x))(k : ∀ b u, b ≠ e -> h.get? b = Aa u -> h'.get? b = Aa u)(heo : ∃ u, h'.get? e = Aa u)(new : ObjOk P w (upd H x o') h' x o') : HOk P w (upd H x o') h' := fun b u q => by
 have nown : ∀ c y, H c = Aa (.own y) -> c ≠ x := fun c y r z => by subst z;rw[r]at mu;exact mu
 have ntup : ∀ c xs, H c = Aa (.tup xs) -> c ≠ x := fun c xs r z => by subst z;rw[r]at mu;exact mu
 by_cases hb : b = x
 ·subst hb;rw[Fu]at q;cases q;exact new
 ·rw[B8 hb]at q;by_cases hbe : b = e
  ·have q' : H b = Aa (.own x) := by
    rcases he with z|z
    ·exact absurd (hbe.trans z) hb
    ·rw[hbe];exact z
   rw[q]at q';cases q';obtain⟨v, hv⟩ := heo;exact⟨v, by rw[hbe];exact hv⟩
  ·refine(ok b u q).stay (fun c v hc r => k c v ?_ r) (fun c r => by rw[B8 (nown c b r)];exact r) fun c xs r => by rw[B8 (ntup c xs r)];exact r
   rcases hc with rfl|hc
   ·exact hbe
   ·rintro rfl;rcases he with z|z
    ·exact nown c b hc z
    ·rw[hc]at z;cases z;exact hb rfl
end
structure Un (fs ex : Ab Ai) (H H' : Hp) (h h' : AD) : Prop where
 keep : ∀ b o, h.get? b = Aa o -> H b = Af -> b ∉ fs -> b ∉ ex -> h'.get? b = Aa o
 slot : ∀ b o, h.get? b = Aa o -> H b = Af -> b ∈ fs -> b ∉ ex -> ∃ sl, h'.get? b = Aa {o with slots := sl}
 free : ∀ b o, h.get? b = Aa o -> H b = Af -> b ∉ ex -> H' b = Af
 there : ∀ b o, h.get? b = Aa o -> b ∉ ex -> ∃ o', h'.get? b = Aa o'
 tups : ∀ b xs, H b = Aa (.tup xs) -> H' b = Aa (.tup xs)
 frzs : ∀ b o u, H b = Aa (.frz o u) -> H' b = Aa (.frz o u)
 tbls : ∀ b ps, H b = Aa (.tbl ps) -> ∃ more, H' b = Aa (.tbl (ps++more))
section
variable{fs fs' ex ex' : Ab Ai}{H H1 H2 : Hp}{h h1 h2 h' : AD}{a x e : Ai}{o : HO}
theorem Un.any(u : Un fs ex H H1 h h1){ob:AB}(q : h.get? b = Aa ob)(n : H b = Af)(hx : b ∉ ex) : ∃ sl, h1.get? b = Aa {ob with slots := sl} := by
 by_cases hb : b ∈ fs
 ·exact u.slot b ob q n hb hx
 ·exact⟨ob.slots, u.keep b ob q n hb hx⟩
theorem Un.kept(k : ∀ b u, h.get? b = Aa u -> h'.get? b = Aa u) : Un fs ex H H h h':=
 ⟨fun b ob q _ _ _ => k b ob q, fun b ob q _ _ _ => ⟨ob.slots, k b ob q⟩, fun _ _ _ n _ => n, fun b ob q _ => ⟨ob, k b ob q⟩, fun _ _ q => q, fun _ _ _ q => q, fun _ ps q => ⟨#[], by rw[q];simp⟩⟩
theorem Un.refl : Un fs ex H H h h := Un.kept fun _ _ q => q
theorem Un.laid(k : ∀ b u, h.get? b = Aa u -> h'.get? b = Aa u)(hp : h.objs.size <= a)(hn : H a = Af) : Un fs ex H (upd H a o) h h' where
 keep := fun b u q _ _ _ => k b u q
 slot := fun b u q _ _ _ => ⟨u.slots, k b u q⟩
 free := fun b u q n _ => by rw[B8 (Bw (Av (Az q) hp))];exact n
 there := fun b u q _ => ⟨u, k b u q⟩
 tups := fun b xs q => by rw[B8 (DE q hn)];exact q
 frzs := fun b u xs q => by rw[B8 (DE q hn)];exact q
 tbls := fun b ps q => ⟨#[], by rw[B8 (DE q hn), q];simp⟩
theorem Un.write(mu : Mut (H x))(he : e = x \/ H e = Aa (.own x))(k : ∀ b u, b ≠ e -> h.get? b = Aa u -> h'.get? b = Aa u)(heo : ∃ u, h'.get? e = Aa u) : Un fs ex H (upd H x o) h h' := by
 have hx : ∀ b, H b = Af -> b ≠ x := fun b n z => by subst z;rw[n]at mu;exact mu
 have hb : ∀ b, H b = Af -> b ≠ e := fun b n z => by
  subst z;rcases he with r|r
  ·exact hx b n r
  ·rw[n]at r;cases r
 have hm : ∀ b u, H b = Aa u -> ¬ Mut (Aa u) -> b ≠ x := fun b u q nm z => by subst z;rw[q]at mu;exact nm mu
 refine⟨fun b u q n _ _ => k b u (hb b n) q, fun b u q n _ _ => ⟨u.slots, k b u (hb b n) q⟩, fun b u q n _ => by rw[B8 (hx b n)];exact n, fun b u q _ => ?_,
  fun b xs q => by rw[B8 (hm b _ q fun z => z)];exact q, fun b u xs q => by rw[B8 (hm b _ q fun z => z)];exact q, fun b ps q => ⟨#[], by rw[B8 (hm b _ q fun z => z), q];simp⟩⟩
 by_cases hbe : b = e
 ·subst hbe;exact heo
 ·exact⟨u, k b u hbe q⟩
end
noncomputable def trk(h : AD)(H : Hp) : Ab Ai := (B7 h.objs.size).filter fun a => (H a).isSome
noncomputable def FD(h : AD)(H : Hp) : AD := PySem.W.hideAll h (trk h H)
theorem Qn(h : AD)(H : Hp) : (FD h H).objs.size = h.objs.size := PySem.W.hideAll_size _ _
theorem QM(e : h.get? b = Aa o)(n : H b = Af) : (FD h H).get? b = Aa o:=
 PySem.W.hideAll_get _ e fun hm => by
  have q : (H b).isSome = Ac := (DP.mp hm).2;rw[n]at q;simp at q
theorem SR(e : (FD h H).get? b = Aa o) : h.get? b = Aa o /\ H b = Af := by
 have e' : h.get? b = Aa o := PySem.W.of_hideAll (trk h H) e;refine⟨e', ?_⟩;cases q : H b with
 |none => rfl
 |some x=>
  have hm : b ∈ trk h H := DP.mpr ⟨B0.mpr (Az e'), by simp[q]⟩
  have z : (FD h H).get? b = Af := PySem.W.hideAll_none (trk h H) hm;rw[z]at e;cases e
noncomputable def Tj(g h : AD)(L : Ai) : Ab (Ai × AB) := (B7 h.objs.size).filterMap fun a => if a = L \/ (g.get? a).isSome = Ac then Af else (h.get? a).map fun o => (a, o)
noncomputable def rest(g h : AD)(L d : Ai) : Ab (Ai × AB) := (Tj g h L).filter fun p => decide (p.1 ≠ d)
structure Mod (K : Fg) (mg : Aj -> Al Ah) (base : AD) : Prop where
 kin : K.In base
 glob : base.Ns AV mg
 blt : ∃ mb, base.Ns Fq mb /\ ∀ x : Aj, x ≠ "__name__" -> mb x = BW x
 nolimit : base.NoLimit
structure Cx where
 prog : AC
 w : AJ
 K : Fg
 mg : Aj -> Al Ah
 base : AD
 A : AM
 N : Ab Aj
 s₀ : Ak
 H₀ : Hp
 env : BG
 outer : Ab BG
 stack : Ab BG
 ex : Ab Ai
 fn : Aj -> An
 calm : An
 pn : Ab (Ai × AB)
 xe : Ah -> Ak -> Prop
variable{X:Cx}
noncomputable def frs(l : Ab BG) : Ab Ai := l.filterMap (·.frame)
noncomputable abbrev Cx.fs(X : Cx) : Ab Ai := frs X.outer
noncomputable def Vis(sc : Bx)(x : Aj) : Prop := sc.names.lookup x = Aa .local \/ sc.names.lookup x = Aa .cell \/ sc.names.lookup x = Aa .free
noncomputable def Loc(sc : Bx)(x : Aj) : Prop := sc.names.lookup x = Aa .local \/ sc.names.lookup x = Aa .cell
noncomputable def Xs(env : BG)(h : AD)(m : Aj -> Al Ah)(x : Aj)(u : Ah) : Prop:=
 (env.kindOf x = Aa .local /\ m x = Aa u) \/ ((env.kindOf x = Aa .cell \/ env.kindOf x = Aa .free) /\ ∃ c, env.cells.lookup x = Aa c /\ h.IsCell c (Aa u))
structure Cx.Ok (X : Cx) : Prop where
 mod : Mod X.K X.mg X.base
 kind : X.env.scope.kind = .function
 glob : X.env.globals = AV
 blt : X.env.builtins = Fq
 above : X.s₀.heap.objs.size <= X.env.locals
 inj : ∀ x y c, X.env.cells.lookup x = Aa c -> X.env.cells.lookup y = Aa c -> x = y
 has : ∀ x, (X.env.kindOf x = Aa .cell \/ X.env.kindOf x = Aa .free) -> ∃ c, X.env.cells.lookup x = Aa c
 cab : ∀ x c, X.fn x = Ac -> X.env.cells.lookup x = Aa c -> X.s₀.heap.objs.size <= c
 hd : X.calm = Ac -> X.A.handled = Af
 frames : X.A.frames = Aa X.stack
 stk : X.stack = X.outer \/ (X.stack = X.env::X.outer /\ X.env.frame = Aa X.env.locals)
 exf : ∀ b ∈ X.ex, b ≠ X.env.locals /\ ∀ x c, X.env.cells.lookup x = Aa c -> c ≠ b
 bs : ∀ b o, X.base.get? b = Aa o -> X.s₀.heap.get? b = Aa o /\ X.H₀ b = Af
 bsz : X.base.objs.size <= X.s₀.heap.objs.size
 noex : ∀ b o, X.base.get? b = Aa o -> b ∉ X.ex
 exfs : ∀ b ∈ X.ex, b ∉ X.fs
 funs : X.s₀.heap.FunFrames X.base X.outer
 frf : ∀ b ∈ X.fs, X.H₀ b = Af
structure Inv (X : Cx) (pI : Ab (Ai × AB)) (σ : Ab (Al V)) (H : Hp) (s : Ak) : Prop where
 ok : X.Ok
 os : s.os = X.s₀.os
 bare : Do s.gens
 base : Un X.fs X.ex X.H₀ H X.s₀.heap s.heap
 loc : ∃ m, s.heap.Ns X.env.locals m /\ ∀(i : Ag)(x : Aj)(v : V), X.N[i]? = Aa x -> σ[i]? = Aa (Aa v) -> Vis X.env.scope x -> ∃ u, A4 v u /\ Xs X.env s.heap m x u
 cell : ∀ x c, X.env.cells.lookup x = Aa c -> ∃ v, s.heap.IsCell c v
 free : H X.env.locals = Af
 freeC : ∀ x c, X.env.cells.lookup x = Aa c -> H c = Af
 pin : ∀ p ∈ X.pn++pI, s.heap.get? p.1 = Aa p.2 /\ H p.1 = Af /\ p.1 ≠ X.env.locals /\ p.1 ∉ X.fs /\ ∀ v, p.2.data ≠ .cell v
 hok : HOk X.prog X.w H s.heap
 len : σ.length = X.N.length
section
variable{X : Cx}{pI : Ab (Ai × AB)}{σ : Ab (Al V)}{H H' : Hp}{s : Ak}{h' : AD}
theorem Cx.Ok.nofr(ok : X.Ok)(e : X.base.get? b = Aa o) : b ∉ X.fs := fun hb => by
 have := (ok.funs.mem hb).1;rw[e]at this;cases this
theorem Inv.bs(I : Inv X pI σ H s) : ∀ b o, X.base.get? b = Aa o -> s.heap.get? b = Aa o /\ H b = Af := fun b o e=>
 ⟨I.base.keep b o (I.ok.bs b o e).1 (I.ok.bs b o e).2 (I.ok.nofr e) (I.ok.noex b o e), I.base.free b o (I.ok.bs b o e).1 (I.ok.bs b o e).2 (I.ok.noex b o e)⟩
theorem Inv.bk(I : Inv X pI σ H s) : ∀ b o, X.base.get? b = Aa o -> s.heap.get? b = Aa o := fun b o e => (I.bs b o e).1
theorem Inv.mod(I : Inv X pI σ H s) : Mod X.K X.mg X.base := I.ok.mod
theorem Inv.kIn(I : Inv X pI σ H s) : X.K.In s.heap := I.ok.mod.kin.keeps I.bk
theorem Inv.lt(I : Inv X pI σ H s) : X.env.locals<s.heap.objs.size := let ⟨_, hn, _⟩ := I.loc;hn.lt
theorem Inv.sz(I : Inv X pI σ H s) : X.s₀.heap.objs.size <= s.heap.objs.size := BL I.ok.above (DS I.lt)
theorem Inv.nofs(I : Inv X pI σ H s)(h : s.heap.objs.size <= a) : a ∉ X.fs := fun hb => by
 obtain⟨_, o, ho, _⟩ := I.ok.funs.mem hb;exact absurd (Av (Az ho) (BL I.sz h)) (A7 _)
theorem Inv.cne(I : Inv X pI σ H s) : ∀ x c, X.env.cells.lookup x = Aa c -> c ≠ X.env.locals := fun x c e z => by
 obtain⟨v, o, ho, hd⟩ := I.cell x c e;obtain⟨m, ⟨o', es, ep, ho', hd', _⟩, _⟩ := I.loc;rw[z, ho']at ho;cases ho;rw[hd']at hd;cases hd
theorem Inv.funs(I : Inv X pI σ H s) : s.heap.FunFrames X.base X.outer := by
 have all : ∀(l : Ab BG), (∀ b ∈ frs l, b ∈ X.fs) -> X.s₀.heap.FunFrames X.base l -> s.heap.FunFrames X.base l := by
  intro l
  induction l with
  |nil => intro _ _;trivial
  |cons env r ih=>
   intro hs hl;obtain⟨hk, ⟨L, o, hf, hn, ho, hd⟩, hr⟩ := hl;have hL : L ∈ X.fs := hs L (by unfold frs;rw[D6, hf];exact Au)
   obtain⟨sl, e⟩ := I.base.slot L o ho (I.ok.frf L hL) hL fun z => I.ok.exfs L z hL
   exact⟨hk, ⟨L, _, hf, hn, e, hd⟩, ih (fun b hb => hs b (by unfold frs;rw[D6, hf];exact Ar _ hb)) hr⟩
 exact all X.outer (fun _ hb => hb) I.ok.funs
theorem Inv.stack(I : Inv X pI σ H s) : s.heap.FunFrames X.base X.stack := by
 rcases I.ok.stk with e|⟨e, hf⟩
 ·rw[e];exact I.funs
 ·rw[e];obtain⟨m, hn, _⟩ := I.loc;refine .cons (by rw[I.ok.kind];decide) hf hn ?_ I.funs
  exact DV (BL I.ok.bsz I.ok.above)
theorem Inv.stkSub(I : Inv X pI σ H s) : ∀ b ∈ frs X.stack, b ∈ X.env.locals::X.fs := fun b hb => by
 rcases I.ok.stk with e|⟨e, hf⟩
 ·rw[e]at hb;exact Ar _ hb
 ·rw[e]at hb;unfold frs at hb;rw[D6, hf]at hb;exact hb
theorem Inv.stkFree(I : Inv X pI σ H s) : ∀ b ∈ frs X.stack, H b = Af := fun b hb => by
 rcases AQ.mp (I.stkSub b hb) with e|hb
 ·rw[e];exact I.free
 ·obtain⟨_, o, ho, _⟩ := I.ok.funs.mem hb;exact I.base.free b o ho (I.ok.frf b hb) fun z => I.ok.exfs b z hb
theorem Inv.step(I : Inv X pI σ H s)(hch : ∀ b ∈ ch, (b ∈ X.ex \/ X.s₀.heap.objs.size <= b) /\ b ≠ X.env.locals /\ (∀ x c, X.env.cells.lookup x = Aa c -> c ≠ b) /\ ∀ p ∈ X.pn++pI, p.1 ≠ b)(keep : ∀ b o, b ≠ X.env.locals -> b ∉ X.fs -> b ∉ ch -> s.heap.get? b = Aa o -> H b = Af -> h'.get? b = Aa o)(slot : ∀ b o, b ≠ X.env.locals -> b ∈ X.fs -> b ∉ ch -> s.heap.get? b = Aa o -> H b = Af -> ∃ sl, h'.get? b = Aa {o with slots := sl})(free : ∀ b o, b ∉ ch -> s.heap.get? b = Aa o -> H b = Af -> H' b = Af)(there : ∀ b o, b ∉ ch -> s.heap.get? b = Aa o -> ∃ o', h'.get? b = Aa o')(tups : ∀ b xs, H b = Aa (.tup xs) -> H' b = Aa (.tup xs))(frzs : ∀ b o u, H b = Aa (.frz o u) -> H' b = Aa (.frz o u))(tbls : ∀ b ps, H b = Aa (.tbl ps) -> ∃ more, H' b = Aa (.tbl (ps++more)))(ns : ∀ m, s.heap.Ns X.env.locals m -> h'.Ns X.env.locals m)(hok : HOk X.prog X.w H' h')(hg : Do g'):Inv X pI σ H' {s with heap := h',gens := g',drawn := d',toks := t'} := by
 have neL : ∀ b o, X.s₀.heap.get? b = Aa o -> b ≠ X.env.locals := fun b o e => Bw (Av (Az e) I.ok.above)
 have neC : ∀ b o, X.s₀.heap.get? b = Aa o -> b ∉ X.ex -> b ∉ ch := fun b o e hx hb => by
  rcases (hch b hb).1 with z|z
  ·exact hx z
  ·exact absurd (Av (Az e) z) (A7 _)
 have cellK : ∀ x c, X.env.cells.lookup x = Aa c -> ∀ v, s.heap.IsCell c v -> h'.IsCell c v := fun x c e v ⟨o, ho, hd⟩ => by
  have nch : c ∉ ch := fun z => (hch c z).2.2.1 x c e rfl
  by_cases hc : c ∈ X.fs
  ·obtain⟨sl, q⟩ := slot c o (I.cne x c e) hc nch ho (I.freeC x c e);exact⟨_, q, hd⟩
  ·exact⟨o, keep c o (I.cne x c e) hc nch ho (I.freeC x c e), hd⟩
 refine⟨I.ok, I.os, hg, ⟨fun b o e n hb hx => ?_, fun b o e n hb hx => ?_, fun b o e n hx => ?_, fun b o e hx => ?_, fun b xs e => tups b xs (I.base.tups b xs e), fun b o xs e => frzs b o xs (I.base.frzs b o xs e), fun b ps e => ?_⟩, ?_, fun x c e => ?_, ?_, fun x c e => ?_, fun p hp => ?_, hok, I.len⟩
 ·exact keep b o (neL b o e) hb (neC b o e hx) (I.base.keep b o e n hb hx) (I.base.free b o e n hx)
 ·obtain⟨sl, e1⟩ := I.base.slot b o e n hb hx;obtain⟨sl', e2⟩ := slot b _ (neL b o e) hb (neC b o e hx) e1 (I.base.free b o e n hx);exact⟨sl', e2⟩
 ·obtain⟨o', e1⟩ := I.base.there b o e hx;exact free b o' (neC b o e hx) e1 (I.base.free b o e n hx)
 ·obtain⟨o', e1⟩ := I.base.there b o e hx;exact there b o' (neC b o e hx) e1
 ·obtain⟨m1, e1⟩ := I.base.tbls b ps e;obtain⟨m2, e2⟩ := tbls b _ e1;exact⟨m1++m2, by rw[e2, Array.append_assoc]⟩
 ·obtain⟨m, hn, hl⟩ := I.loc;refine⟨m, ns m hn, fun i x v e1 e2 e3 => ?_⟩
  obtain⟨u, r, l⟩ := hl i x v e1 e2 e3;refine⟨u, r, ?_⟩;rcases l with l|⟨k, c, e, z⟩
  ·exact .inl l
  ·exact .inr ⟨k, c, e, cellK x c e _ z⟩
 ·obtain⟨v, z⟩ := I.cell x c e;exact⟨v, cellK x c e v z⟩
 ·obtain⟨m, ⟨o, _, _, ho, _⟩, _⟩ := I.loc;exact free _ o (fun z => (hch _ z).2.1 rfl) ho I.free
 ·obtain⟨v, o, ho, hd⟩ := I.cell x c e;exact free c o (fun z => (hch c z).2.2.1 x c e rfl) ho (I.freeC x c e)
 ·obtain⟨e, n, ne, nf, d⟩ := I.pin p hp;have nch : p.1 ∉ ch := fun z => (hch p.1 z).2.2.2 p hp rfl
  exact⟨keep p.1 p.2 ne nf nch e n, free p.1 p.2 nch e n, ne, nf, d⟩
theorem Inv.un(I : Inv X pI σ H s)(u : Un X.fs [] H H' s.heap h')(hok : HOk X.prog X.w H' h') : Inv X pI σ H' {s with heap := h', toks := t'} := by
 obtain⟨m, ⟨o, es, ep, ho, r⟩, _⟩ := id I.loc;obtain⟨sl, hL⟩ := u.any ho I.free (by simp)
 exact I.step (g' := s.gens) (d' := s.drawn) (ch := []) (fun _ z => nomatch z) (fun b o _ hb _ e n => u.keep b o e n hb (by simp)) (fun b o _ hb _ e n => u.slot b o e n hb (by simp)) (fun b o _ e n => u.free b o e n (by simp)) (fun b o _ e => u.there b o e (by simp)) u.tups u.frzs u.tbls (fun m' hm => by
  obtain⟨o', es', ep', ho', r'⟩ := hm;rw[ho]at ho';cases ho';exact⟨_, es', ep', hL, r'⟩) hok I.bare
theorem Inv.call(I : Inv X pI σ H s)(u : Un (frs X.stack) ch H H' s.heap h')(hok : HOk X.prog X.w H' h')(hg : Do g')(hch : ∀ b ∈ ch, (b ∈ X.ex \/ X.s₀.heap.objs.size <= b) /\ b ≠ X.env.locals /\ (∀ x c, X.env.cells.lookup x = Aa c -> c ≠ b) /\ ∀ p ∈ X.pn++pI, p.1 ≠ b):Inv X pI σ H' {s with heap := h',gens := g',drawn := d',toks := t'} := by
 obtain⟨m, ⟨o, es, ep, ho, r⟩, _⟩ := id I.loc;obtain⟨sl, hL⟩ := u.any ho I.free fun z => (hch _ z).2.1 rfl
 exact I.step (ch := ch) hch (fun b o hL hb hc e n => u.keep b o e n (fun z => (AQ.mp (I.stkSub b z)).elim hL hb) hc) (fun b o _ _ hc e n => u.any e n hc) (fun b o hc e n => u.free b o e n hc) (fun b o hc e => u.there b o e hc) u.tups u.frzs u.tbls (fun m' hm => by
  obtain⟨o', es', ep', ho', r'⟩ := hm;rw[ho]at ho';cases ho';exact⟨_, es', ep', hL, r'⟩) hok hg
theorem Inv.turned(I : Inv X pI σ H s)(k : ∀ b o, b ≠ it -> s.heap.get? b = Aa o -> h'.get? b = Aa o)(hn : H it = Af)(hL : it ≠ X.env.locals)(h1 : it ∈ X.ex \/ X.s₀.heap.objs.size <= it)(h2 : ∀ x c, X.env.cells.lookup x = Aa c -> c ≠ it)(h3 : ∀ p ∈ X.pn++pI, p.1 ≠ it) : Inv X pI σ H {s with heap := h', toks := t'} := by
 have nit : ∀ b u, H b = Aa u -> b ≠ it := fun b u e z => by rw[z, hn]at e;cases e
 refine I.step (g' := s.gens) (d' := s.drawn) (ch := [it]) (fun b hb => ?_) (fun b o _ _ hc e _ => k b o (fun z => hc (by simp[z])) e) (fun b o _ _ hc e _ => ⟨o.slots, k b o (fun z => hc (by simp[z])) e⟩) (fun _ _ _ _ n => n)
  (fun b o hc e => ⟨o, k b o (fun z => hc (by simp[z])) e⟩) (fun _ _ e => e) (fun _ _ _ e => e) (fun b ps e => ⟨#[], by rw[e];simp⟩) (fun m hm => ?_) (fun b u e => ?_) I.bare
 ·have e : b = it := by simpa using hb
  subst e;exact⟨h1, hL, h2, h3⟩
 ·obtain⟨o, es, ep, ho, r⟩ := hm;exact⟨o, es, ep, k _ o (C8 hL) ho, r⟩
 ·refine(I.hok b u e).stay (fun c v hc q => k c v ?_ q) (fun _ q => q) fun _ _ q => q
  rcases hc with z|z
  ·rw[z];exact nit b u e
  ·exact nit c _ z
theorem Inv.tok(I : Inv X pI σ H s)(t : Ag) : Inv X pI σ H {s with toks := t} := I.un (h' := s.heap) (t' := t) Un.refl I.hok
theorem Inv.kept{t' : Ag}(I : Inv X pI σ H s)(k : ∀ b u, s.heap.get? b = Aa u -> h'.get? b = Aa u) : Inv X pI σ H {s with heap := h', toks := t'} := I.un (Un.kept k) (I.hok.kept k)
theorem Inv.laid{a : Ai}{o : HO}{t' : Ag}(I : Inv X pI σ H s)(k : ∀ b u, s.heap.get? b = Aa u -> h'.get? b = Aa u)(hp : s.heap.objs.size <= a)(new : ObjOk X.prog X.w (upd H a o) h' a o):Inv X pI σ (upd H a o) {s with heap := h',toks := t'} := I.un (Un.laid k hp (I.hok.fresh hp)) (I.hok.laid k hp new)
theorem Inv.write{x e : Ai}{o : HO}{t' : Ag}(I : Inv X pI σ H s)(mu : Mut (H x))(he : e = x \/ H e = Aa (.own x))(k : ∀ b u, b ≠ e -> s.heap.get? b = Aa u -> h'.get? b = Aa u)(heo : ∃ u, h'.get? e = Aa u)(new : ObjOk X.prog X.w (upd H x o) h' x o) : Inv X pI σ (upd H x o) {s with heap := h', toks := t'} := I.un (Un.write mu he k heo) (I.hok.write mu he k heo new)
theorem Inv.pins_of{pins':Ab (Ai × AB)}(I : Inv X pI σ H s)(h : ∀ p ∈ pins', s.heap.get? p.1 = Aa p.2 /\ H p.1 = Af /\ p.1 ≠ X.env.locals /\ p.1 ∉ X.fs /\ ∀ v, p.2.data ≠ .cell v) : Inv X pins' σ H s:=
 ⟨I.ok, I.os, I.bare, I.base, I.loc, I.cell, I.free, I.freeC, fun p hp => (DO.mp hp).elim (fun z => I.pin p (Of _ z)) (h p), I.hok, I.len⟩
theorem Lu{N : Ab Aj}(hN : N.Nodup)(a : N[i]? = Aa x)(b : N[j]? = Aa x) : i = j := by
 obtain⟨h1, e1⟩ := AU.mp a;obtain⟨h2, e2⟩ := AU.mp b;exact(List.getElem_inj hN).mp (e1.trans e2.symm)
theorem KS{A : AM}{E : Ah -> Ak -> Prop}(I : Inv X pI σ H s)(hN : X.N.Nodup)(hi : X.N[i]? = Aa x)(hx : Loc X.env.scope x)(r : A4 v u)(h : ∀ s', Inv X pI (σ.set i (Aa v)) H s' -> (∃ a, DU a s.heap s'.heap /\ (a = X.env.locals \/ X.env.cells.lookup x = Aa a)) -> Q () s')(hf : X.fn x = Ac \/ X.env.scope.names.lookup x = Aa .local := by first|exact .inl rfl|exact .inr rfl|assumption) : Ay M A (storeName X.env x u) Q E s := by
 obtain⟨m, hn, hl⟩ := id I.loc;have hcls : (X.env.scope.kind==.class||(X.env.scope.kind==.module&&X.env.locals != X.env.globals)) = Ad := by rw[I.ok.kind];rfl
 have hiσ : i<σ.length := by rw[I.len];exact(AU.mp hi).1
 have cne := I.cne;have tracked : ∀{a : Ai}{h' : AD}, (∃ o, s.heap.get? a = Aa o /\ H a = Af) -> DU a s.heap h' -> HOk X.prog X.w H h' := fun {a h'} ha hs b ob e => by
  obtain⟨_, _, hfree⟩ := ha;refine(I.hok b ob e).stay (fun c w' hc q => (hs.2 c ?_).trans q) (fun _ q => q) fun _ _ q => q
  rintro rfl;rcases hc with rfl|hc
  ·rw[hfree]at e;cases e
  ·rw[hfree]at hc;cases hc
 rcases hx with hk|hk
 ·refine wpAny_storeName_local hk hn (fun h' hn' hs => ?_) hcls
  obtain⟨oL, _, _, hoL, _⟩ := id hn;refine h _ ⟨I.ok, I.os, I.bare, ⟨fun b o e n hb hx => ?_, fun b o e n hb hx => ?_, I.base.free, fun b o e hx => ?_, I.base.tups, I.base.frzs, I.base.tbls⟩, ⟨_, hn', fun j y v' e1 e2 e3 => ?_⟩, fun y c e => ?_, I.free, I.freeC, fun p hp => ?_, tracked ⟨oL, hoL, I.free⟩ hs, by simpa using I.len⟩ ⟨_, hs, .inl rfl⟩
  ·exact(hs.2 b (Bw (Av (Az e) I.ok.above))).trans (I.base.keep b o e n hb hx)
  ·obtain⟨sl, e1⟩ := I.base.slot b o e n hb hx;exact⟨sl, (hs.2 b (Bw (Av (Az e) I.ok.above))).trans e1⟩
  ·obtain⟨o', e1⟩ := I.base.there b o e hx;exact⟨o', (hs.2 b (Bw (Av (Az e) I.ok.above))).trans e1⟩
  ·by_cases hj : j = i
   ·subst hj;rw[hi]at e1;cases e1;rw[Bq hiσ]at e2;cases e2;exact⟨u, r, .inl ⟨hk, by simp⟩⟩
   ·rw[Bo (C8 hj)]at e2;obtain⟨u', r', q⟩ := hl j y v' e1 e2 e3;refine⟨u', r', ?_⟩;rcases q with ⟨k, e⟩|⟨k, c, e, z⟩
    ·refine .inl ⟨k, ?_⟩;have : y ≠ x := fun e => hj (Lu hN e1 (e ▸ hi))
     simp[this, e]
    ·exact .inr ⟨k, c, e, z.sameBut hs (cne y c e)⟩
  ·obtain⟨w', z⟩ := I.cell y c e;exact⟨w', z.sameBut hs (cne y c e)⟩
  ·obtain⟨e, n, ne, nf, d⟩ := I.pin p hp;exact⟨(hs.2 p.1 ne).trans e, n, ne, nf, d⟩
 ·have hfn : X.fn x = Ac := by
   rcases hf with z|z
   ·exact z
   ·rw[z]at hk;cases hk
  obtain⟨c, hc⟩ := I.ok.has x (.inl hk);obtain⟨w', z⟩ := I.cell x c hc;refine wpAny_storeName_cell I.ok.kind hk hc z (fun h' hc' hs => ?_)
  obtain⟨oc, hoc, hocd⟩ := id z;refine h {s with heap := h'} ⟨I.ok, I.os, I.bare, ⟨fun b o e n hb hx => ?_, fun b o e n hb hx => ?_, I.base.free, fun b o e hx => ?_, I.base.tups, I.base.frzs, I.base.tbls⟩, ⟨m, hn.sameBut hs (C8 (cne x c hc)), fun j y v' e1 e2 e3 => ?_⟩, fun y c' e => ?_, I.free, I.freeC, fun p hp => ?_, tracked ⟨oc, hoc, I.freeC x c hc⟩ hs, by simpa using I.len⟩ ⟨c, hs, .inr hc⟩
  ·exact(hs.2 b (Bw (Av (Az e) (I.ok.cab x c hfn hc)))).trans (I.base.keep b o e n hb hx)
  ·obtain⟨sl, e1⟩ := I.base.slot b o e n hb hx;exact⟨sl, (hs.2 b (Bw (Av (Az e) (I.ok.cab x c hfn hc)))).trans e1⟩
  ·obtain⟨o', e1⟩ := I.base.there b o e hx;exact⟨o', (hs.2 b (Bw (Av (Az e) (I.ok.cab x c hfn hc)))).trans e1⟩
  ·by_cases hj : j = i
   ·subst hj;rw[hi]at e1;cases e1;rw[Bq hiσ]at e2;cases e2;exact⟨u, r, .inr ⟨.inl hk, c, hc, hc'⟩⟩
   ·rw[Bo (C8 hj)]at e2;obtain⟨u', r', q⟩ := hl j y v' e1 e2 e3;refine⟨u', r', ?_⟩;rcases q with q|⟨k, c', e, z'⟩
    ·exact .inl q
    ·refine .inr ⟨k, c', e, z'.sameBut hs ?_⟩;rintro rfl;exact hj (Lu hN e1 (I.ok.inj _ _ _ e hc ▸ hi))
  ·by_cases hcc : c' = c
   ·subst hcc;exact⟨_, hc'⟩
   ·obtain⟨w2, z2⟩ := I.cell y c' e;exact⟨w2, z2.sameBut hs hcc⟩
  ·obtain⟨e, n, ne, nf, d⟩ := I.pin p hp;refine⟨(hs.2 p.1 ?_).trans e, n, ne, nf, d⟩;intro q;rw[q, hoc]at e;have q' : oc = p.2 := BU e;exact d w' (by rw[<-q'];exact hocd)
theorem Ln{A : AM}{E : Ah -> Ak -> Prop}(I : Inv X pI σ H s)(hN : X.N.Nodup)(hi : X.N[i]? = Aa x)(hx : Loc X.env.scope x)(r : A4 v u)(h : ∀ s', Inv X pI (σ.set i (Aa v)) H s' -> Q () s')(hf : X.fn x = Ac \/ X.env.scope.names.lookup x = Aa .local := by first|exact .inl rfl|exact .inr rfl|assumption) : Ay M A (storeName X.env x u) Q E s:=
 KS I hN hi hx r (fun s' I' _ => h s' I') hf
theorem Inv.call'{s':Ak}(I : Inv X pI σ H s)(ho : s'.os = s.os)(u : Un (frs X.stack) ch H H' s.heap s'.heap)(hok : HOk X.prog X.w H' s'.heap)(hg : Do s'.gens)(hch : ∀ b ∈ ch, (b ∈ X.ex \/ X.s₀.heap.objs.size <= b) /\ b ≠ X.env.locals /\ (∀ x c, X.env.cells.lookup x = Aa c -> c ≠ b) /\ ∀ p ∈ X.pn++pI, p.1 ≠ b) : Inv X pI σ H' s' := by
 obtain⟨h', g', d', t', o'⟩ := s';have e : o' = s.os := ho;subst e;exact I.call (g' := g') (t' := t') (d' := d') u hok hg hch
end
noncomputable abbrev XK := Ah -> Al Ai -> Hp -> Prop
noncomputable abbrev St := Ab (Al V)
variable{σ:St}
noncomputable abbrev VK := V -> Hp -> Prop
noncomputable abbrev TE := St -> Hp -> VK -> Prop
variable{te:TE}
noncomputable abbrev TT := St -> Hp -> (An -> Hp -> Prop) -> Prop
noncomputable abbrev TA := St -> Hp -> (Ab V -> Hp -> Prop) -> Prop
variable{ta:TA}
structure Ends where
 nx : St -> Hp -> Prop
 rt : VK
 bk : St -> Hp -> Prop := fun _ _ => AX
 ct : St -> Hp -> Prop := fun _ _ => AX
noncomputable abbrev TS := Ends -> St -> Hp -> Prop
noncomputable def EP(X : Cx)(pI : Ab (Ai × AB))(σ : St)(Q : VK)(u : Ah)(s' : Ak) : Prop := ∃ v H', Inv X pI σ H' s' /\ A4 v u /\ Q v H'
noncomputable def TP(X : Cx)(pI : Ab (Ai × AB))(σ : St)(Q : An -> Hp -> Prop)(b : An)(s' : Ak) : Prop := ∃ H', Inv X pI σ H' s' /\ Q b H'
noncomputable def AP(X : Cx)(pI : Ab (Ai × AB))(σ : St)(Q : Ab V -> Hp -> Prop)(us : Ab Ah)(s' : Ak) : Prop := ∃ vs H', Inv X pI σ H' s' /\ AR vs us /\ Q vs H'
noncomputable def SP(X : Cx)(pI : Ab (Ai × AB))(D : Ends)(f : Flow)(s' : Ak) : Prop:=
  match f with
  |.next => ∃ σ' H', Inv X pI σ' H' s' /\ D.nx σ' H'
  |.brk => ∃ σ' H', Inv X pI σ' H' s' /\ D.bk σ' H'
  |.cont => ∃ σ' H', Inv X pI σ' H' s' /\ D.ct σ' H'
  |.ret u => ∃ v σ' H', Inv X pI σ' H' s' /\ A4 v u /\ D.rt v H'
noncomputable def PE(X : Cx)(e : Ao)(t : TE) : Prop:=
 ∀(pI : Ab (Ai × AB))(s : Ak)(σ : St)(H : Hp)(Q : VK), Inv X pI σ H s -> t σ H Q -> Ay (model X.prog X.w) X.A (eval e X.env) (EP X pI σ Q) X.xe s
noncomputable def PT(X : Cx)(e : Ao)(t : TT) : Prop:=
 ∀(pI : Ab (Ai × AB))(s : Ak)(σ : St)(H : Hp)(Q : An -> Hp -> Prop), Inv X pI σ H s -> t σ H Q -> Ay (model X.prog X.w) X.A (Fh e X.env (eval e X.env)) (TP X pI σ Q) X.xe s
noncomputable def PW(X : Cx)(e : Ao)(t : TT) : Prop:=
 ∀(whole : Sem Ah)(pI : Ab (Ai × AB))(s : Ak)(σ : St)(H : Hp)(Q : An -> Hp -> Prop), Inv X pI σ H s -> t σ H Q -> Ay (model X.prog X.w) X.A (Fh e X.env whole) (TP X pI σ Q) X.xe s
theorem PW.pt{t:TT}(h : PW X e t) : PT X e t := h _
noncomputable def PA(X : Cx)(es : Ab Ao)(t : TA) : Prop:=
 ∀(pos : AI)(pI : Ab (Ai × AB))(s : Ak)(σ : St)(H : Hp)(Q : Ab V -> Hp -> Prop), Inv X pI σ H s -> t σ H Q -> Ay (model X.prog X.w) X.A (spliced (BN pos (At es X.env))) (AP X pI σ Q) X.xe s
noncomputable def PS(X : Cx)(st : Bc)(t : TS) : Prop:=
 ∀(pI : Ab (Ai × AB))(s : Ak)(σ : St)(H : Hp)(D : Ends), Inv X pI σ H s -> t D σ H -> Ay (model X.prog X.w) X.A (exec st X.env) (SP X pI D) X.xe s
noncomputable def PSs(X : Cx)(st : Ab Bc)(t : TS) : Prop:=
 ∀(pI : Ab (Ai × AB))(s : Ak)(σ : St)(H : Hp)(D : Ends), Inv X pI σ H s -> t D σ H -> Ay (model X.prog X.w) X.A (execs st X.env) (SP X pI D) X.xe s
theorem thn{α:Type}{t : Sem α}{Q Q' : α -> Ak -> Prop}{A : AM}{E : Ah -> Ak -> Prop}(h : Ay M A t Q E s)(hQ : ∀ a s, Q a s -> Q' a s) : Ay M A t Q' E s := Bz h hQ fun _ _ x => x
section
variable{X : Cx}
noncomputable def FC(i : Ag) : TE := fun σ H Q => ∃ v, σ[i]? = Aa (Aa v) /\ Q v H
noncomputable def tC(v : V) : TE := fun _ H Q => Q v H
theorem TR(hN : X.N[i]? = Aa x)(hv : Vis X.env.scope x)(hd : (x==("__debug__" : Aj)) = Ad := by decide)(hcd : (x==("__classdict__" : Aj)) = Ad := by decide) : PE X (.Name x pos) (FC i) := by
 intro pI s σ H Q I h;obtain⟨v, e, h⟩ := h;obtain⟨m, hn, hl⟩ := I.loc;obtain⟨u, r, l⟩ := hl i x v hN e hv;have fin : EP X pI σ Q u s := ⟨v, H, I, r, h⟩;rcases l with ⟨hk, hm⟩|⟨hk, c, hc, hcell⟩
 ·exact Gv (wpAny_loadName_local I.ok.kind hk hn hm fin) hd
 ·rcases hk with hk|hk
  ·exact Gv (wpAny_loadName_cell I.ok.kind hk hc hcell fin) hd
  ·exact Gv (wpAny_loadName_free I.ok.kind hk hc hcell fin hcd) hd
theorem T2{i j pos} : PE X (.Constant (.int i) j pos) (tC (.int i)) := fun _ _ _ H _ I h => wpAny_Constant_int ⟨.int i, H, I.tok _, ⟨_, rfl⟩, h⟩
theorem V3{b j pos} : PE X (.Constant (.bool b) j pos) (tC (.bl b)) := fun _ _ _ H _ I h => Constant_bool ⟨.bl b, H, I, rfl, h⟩
theorem TY{j pos} : PE X (.Constant .none j pos) (tC .non) := fun _ _ _ H _ I h => Constant_none ⟨.non, H, I, rfl, h⟩
theorem TV{x j pos} : PE X (.Constant (.str x) j pos) (tC (.str x)) := fun _ _ _ H _ I h => Calls.Constant_str ⟨.str x, H, I.tok _, ⟨_, rfl⟩, h⟩
noncomputable def Gl(X : Cx)(x : Aj) : Prop := X.env.kindOf x = Aa .globalImplicit
theorem R1{E : Ah -> Ak -> Prop}{Q:Ah -> Ak -> Prop}(I : Inv X pI σ H s)(hg : Gl X x)(hm : X.mg x = Aa u)(h : Q u s)(hd : (x==("__debug__" : Aj)) = Ad := by decide) : Ay (model X.prog X.w) X.A (eval (.Name x pos) X.env) Q E s:=
 OB I.ok.kind hg (Calls.loadGlobal_global (by rw[I.ok.glob];exact I.mod.glob.keeps I.bk) hm h) hd
theorem Hh{E : Ah -> Ak -> Prop}{Q:Ah -> Ak -> Prop}(I : Inv X pI σ H s)(hg : Gl X x)(hm : X.mg x = Af)(hv : BW x = Aa u)(h : Q u s)(hn : x ≠ "__name__" := by decide)(hd : (x==("__debug__" : Aj)) = Ad := by decide) : Ay (model X.prog X.w) X.A (eval (.Name x pos) X.env) Q E s := by
 obtain⟨mb, h1, h2⟩ := I.mod.blt;exact OB I.ok.kind hg (Calls.loadGlobal_builtin (by rw[I.ok.glob];exact I.mod.glob.keeps I.bk) hm (by rw[I.ok.blt];exact h1.keeps I.bk) ((h2 x hn).trans hv) h) hd
theorem Sy(hg : Gl X x)(hm : X.mg x = Af)(hv : BW x = Aa u)(r : A4 v u)(hn : x ≠ "__name__" := by decide)(hd : (x==("__debug__" : Aj)) = Ad := by decide) : PE X (.Name x pos) (tC v):=
 fun _ _ _ H _ I h => Hh I hg hm hv ⟨v, H, I, r, h⟩ hn hd
variable{a b : Ao}{ta tb : TE}{pos : AI}
variable{tA tB' : TT}{rest : Ab Ao}
noncomputable def Xy(t u : TT) : TT := fun σ H Q => t σ H fun c H1 => if c = Ac then u σ H1 Q else Q Ad H1
noncomputable def tOr(t u : TT) : TT := fun σ H Q => t σ H fun c H1 => if c = Ac then Q Ac H1 else u σ H1 Q
noncomputable def Xd(t : TT) : TT := fun σ H Q => t σ H fun c H1 => Q (!c) H1
theorem QY(ha : PT X a tA) : PW X (.BoolOp .And [a] pos) tA := by
 intro wh pI s σ H Q I h;refine isTrue_and (thn (ha pI s σ H Q I h) fun c s1 e => ?_)
 cases c with
 |true => exact isTrue_and_nil e
 |false => exact e
theorem TC(ha : PT X a tA) : PW X (.BoolOp .Or [a] pos) tA := by
 intro wh pI s σ H Q I h;refine isTrue_or (thn (ha pI s σ H Q I h) fun c s1 e => ?_)
 cases c with
 |false => exact isTrue_or_nil e
 |true => exact e
theorem TD(ha : PT X a tA)(hb : PW X (.BoolOp .And (b::rest) pos) tB') : PW X (.BoolOp .And (a::b::rest) pos) (Xy tA tB') := by
 intro wh pI s σ H Q I h;refine isTrue_and (thn (ha pI s σ H _ I h) fun c s1 ⟨H1, I1, q1⟩ => ?_)
 cases c with
 |true => exact hb wh pI s1 σ H1 Q I1 q1
 |false => exact⟨H1, I1, q1⟩
theorem VY(ha : PT X a tA)(hb : PW X (.BoolOp .Or (b::rest) pos) tB') : PW X (.BoolOp .Or (a::b::rest) pos) (tOr tA tB') := by
 intro wh pI s σ H Q I h;refine isTrue_or (thn (ha pI s σ H _ I h) fun c s1 ⟨H1, I1, q1⟩ => ?_)
 cases c with
 |true => exact⟨H1, I1, q1⟩
 |false => exact hb wh pI s1 σ H1 Q I1 q1
theorem TF(ha : PT X a tA) : PT X (.UnaryOp .Not a pos) (Xd tA) := by
 intro pI s σ H Q I h;exact isTrue_not (ha pI s σ H (fun c H1 => Q (!c) H1) I h)
noncomputable def VI(ta tb : TE) : TE := fun σ H Q => ta σ H fun x H1 => ∃ c, x = .bl c /\ if c = Ac then tb σ H1 Q else Q (.bl Ad) H1
noncomputable def Xc(ta tb : TE) : TE := fun σ H Q => ta σ H fun x H1 => ∃ c, x = .bl c /\ if c = Ac then Q (.bl Ac) H1 else tb σ H1 Q
noncomputable def VD(ta : TE) : TE := fun σ H Q => ta σ H fun x H1 => ∃ c, x = .bl c /\ Q (.bl (!c)) H1
theorem TW{op}{t:TE}(h : PE X a t) : PE X (.BoolOp op [a] pos) t := fun pI s σ H Q I hw => BoolOp_one (h pI s σ H Q I hw)
theorem T3(ha : PE X a ta)(hb : PE X (.BoolOp .And (b::rest) pos) tb) : PE X (.BoolOp .And (a::b::rest) pos) (VI ta tb) := by
 intro pI s σ H Q I h;refine BoolOp_and (thn (ha pI s σ H _ I h) fun v s1 ⟨x, H1, I1, r1, q1⟩ => ?_)
 obtain⟨c, rfl, q1⟩ := q1;cases r1;refine BA ?_;cases c with
 |true => exact hb pI s1 σ H1 Q I1 q1
 |false => exact⟨.bl Ad, H1, I1, rfl, q1⟩
theorem V1(ha : PE X a ta)(hb : PE X (.BoolOp .Or (b::rest) pos) tb) : PE X (.BoolOp .Or (a::b::rest) pos) (Xc ta tb) := by
 intro pI s σ H Q I h;refine BoolOp_or (thn (ha pI s σ H _ I h) fun v s1 ⟨x, H1, I1, r1, q1⟩ => ?_)
 obtain⟨c, rfl, q1⟩ := q1;cases r1;refine BA ?_;cases c with
 |false => exact hb pI s1 σ H1 Q I1 q1
 |true => exact⟨.bl Ac, H1, I1, rfl, q1⟩
theorem TX(ha : PE X a ta) : PE X (.UnaryOp .Not a pos) (VD ta) := by
 intro pI s σ H Q I h;refine UnaryOp_ (thn (ha pI s σ H _ I h) fun v s1 ⟨x, H1, I1, r1, q1⟩ => ?_)
 obtain⟨c, rfl, q1⟩ := q1;cases r1;exact not_of (BA ⟨.bl (!c), H1, I1, rfl, q1⟩)
end
noncomputable def SqL(K : Fg)(H : Hp)(a : Ai)(xs : Ab V) : Prop:=
 Rd H a (.lst xs) \/
  ∃(o : AB)(its : A8 Ah)(n : Ag), K.lookup a = Aa o /\ o.cls = .type "list" /\ o.dict = Af /\ o.data = .seq its n /\ its.size <= sizeLine /\ AR xs its.toList
noncomputable def SqT(K : Fg)(H : Hp)(a : Ai)(xs : Ab V) : Prop:=
 Rd H a (.tup xs) \/
  ∃(o : AB)(its : A8 Ah)(n : Ag), K.lookup a = Aa o /\ o.cls = .type "tuple" /\ o.data = .seq its n /\ its.size <= sizeLine /\ AR xs its.toList
noncomputable def Xm : Ah -> Al V
 |.none => Aa .non
 |.bool b => Aa (.bl b)
 |.int i _ => Aa (.int i)
 |.str x _ => Aa (.str x)
 |.bytes b _ => Aa (.byt b)
 |.float b _ => Aa (.flt b)
 |.ref a => Aa (.ref a)
 |.type n => Aa (.ty n)
 |_ => Af
theorem A4.abs{x:V}(r : A4 x u) : Xm u = Aa x := by
 cases x with
 |non => cases r;rfl
 |bl _ => cases r;rfl
 |int _ => obtain⟨t, rfl⟩ := r;rfl
 |str _ => obtain⟨t, rfl⟩ := r;rfl
 |byt _ => obtain⟨t, rfl⟩ := r;rfl
 |flt _ => obtain⟨t, rfl⟩ := r;rfl
 |ref _ => cases r;rfl
 |ty _ => cases r;rfl
theorem A4.inj{x:V}(r : A4 x u)(q : A4 y u) : x = y := BU (r.abs.symm.trans q.abs)
theorem AR.inj : ∀{xs ys : Ab V}{us : Ab Ah}, AR xs us -> AR ys us -> xs = ys
 |_, _, _, .nil, .nil => rfl
 |_, _, _, .cons r t, .cons r' t' => by rw[r.inj r', AR.inj t t']
section
variable{X : Cx}{pI : Ab (Ai × AB)}{σ : St}{H : Hp}{s : Ak}{a : Ai}{xs ys : Ab V}
theorem SqL.of{K : Fg}(h : H a = Aa (.lst xs)) : SqL K H a xs := .inl (.inl h)
theorem SqT.of{K : Fg}(h : H a = Aa (.tup xs)) : SqT K H a xs := .inl (.inl h)
theorem Inv.list(I : Inv X pI σ H s)(h : SqL X.K H a xs) : ∃ its : Ab Ah, AR xs its /\ PlainL s.heap a its.toArray /\ xs.length <= sizeLine := by
 rcases h with h|⟨o, its, n, hk, hc, hd, hs, hz, r⟩
 ·obtain⟨z, its, n, r, e⟩ := h.ok I.hok;exact⟨its, r, ⟨_, n, e, rfl, rfl, rfl⟩, z⟩
 ·refine⟨its.toList, r, ⟨o, n, I.kIn a o hk, hc, hd, by simpa using hs⟩, ?_⟩
  have e := r.length;simp only[Db]at e;omega
theorem Inv.tuple(I : Inv X pI σ H s)(h : SqT X.K H a xs) : ∃ its : Ab Ah, AR xs its /\ Gq s.heap a its.toArray /\ xs.length <= sizeLine := by
 rcases h with h|⟨o, its, n, hk, hc, hs, hz, r⟩
 ·obtain⟨z, its, r, p⟩ := h.ok I.hok;exact⟨its, r, p, z⟩
 ·refine⟨its.toList, r, ⟨o, I.kIn a o hk, hc, n, by simpa using hs⟩, ?_⟩
  have e := r.length;simp only[Db]at e;omega
theorem Inv.list_inj(I : Inv X pI σ H s)(h : SqL X.K H a xs)(h' : SqL X.K H a ys) : xs = ys := by
 obtain⟨its, r, ⟨o, n, e, _, _, d⟩, _⟩ := I.list h;obtain⟨its', r', ⟨o', n', e', _, _, d'⟩, _⟩ := I.list h';rw[e]at e';cases e';rw[d]at d'
 injection d' with d1 _
 have : its = its' := by simpa using congrArg FI d1
 subst this;exact r.inj r'
theorem Inv.tuple_inj(I : Inv X pI σ H s)(h : SqT X.K H a xs)(h' : SqT X.K H a ys) : xs = ys := by
 obtain⟨its, r, ⟨o, e, _, n, d⟩, _⟩ := I.tuple h;obtain⟨its', r', ⟨o', e', _, n', d'⟩, _⟩ := I.tuple h';rw[e]at e';cases e';rw[d]at d'
 injection d' with d1 _
 have : its = its' := by simpa using congrArg FI d1
 subst this;exact r.inj r'
end
noncomputable abbrev Cx.wish(X : Cx)(E : Ah -> Ak -> Prop) : Cx := {X with xe := E}
noncomputable abbrev Cx.nox(X : Cx) : Cx := X.wish fun _ _ => AX
theorem Cx.Ok.wish(ok : X.Ok)(E : Ah -> Ak -> Prop) : (X.wish E).Ok:=
 ⟨ok.mod, ok.kind, ok.glob, ok.blt, ok.above, ok.inj, ok.has, ok.cab, ok.hd, ok.frames, ok.stk, ok.exf, ok.bs, ok.bsz, ok.noex, ok.exfs, ok.funs, ok.frf⟩
theorem Cx.Ok.unwish{E : Ah -> Ak -> Prop}(ok : (X.wish E).Ok) : X.Ok:=
 ⟨ok.mod, ok.kind, ok.glob, ok.blt, ok.above, ok.inj, ok.has, ok.cab, ok.hd, ok.frames, ok.stk, ok.exf, ok.bs, ok.bsz, ok.noex, ok.exfs, ok.funs, ok.frf⟩
section
variable{X : Cx}{pI : Ab (Ai × AB)}{σ : St}{H : Hp}{s : Ak}{E : Ah -> Ak -> Prop}
theorem Inv.wish(I : Inv X pI σ H s)(E : Ah -> Ak -> Prop) : Inv (X.wish E) pI σ H s := ⟨I.ok.wish E, I.os, I.bare, I.base, I.loc, I.cell, I.free, I.freeC, I.pin, I.hok, I.len⟩
theorem Inv.unwish(I : Inv (X.wish E) pI σ H s) : Inv X pI σ H s := ⟨I.ok.unwish, I.os, I.bare, I.base, I.loc, I.cell, I.free, I.freeC, I.pin, I.hok, I.len⟩
theorem SP.unwish{D : Ends}{f : Flow}{s' : Ak}(h : SP (X.wish E) pI D f s') : SP X pI D f s' := by
 cases f with
 |next => obtain⟨σ', H', I, q⟩ := h;exact⟨σ', H', I.unwish, q⟩
 |brk => obtain⟨σ', H', I, q⟩ := h;exact⟨σ', H', I.unwish, q⟩
 |cont => obtain⟨σ', H', I, q⟩ := h;exact⟨σ', H', I.unwish, q⟩
 |ret u => obtain⟨v, σ', H', I, r, q⟩ := h;exact⟨v, σ', H', I.unwish, r, q⟩
theorem PSs.nox{st:Ab Bc}{t:TS}(h : PSs X.nox st t) : PSs X st t := fun pI s σ H D I hw=>
 Bz (h pI s σ H D (I.wish _) hw) (fun _ _ q => q.unwish) fun _ _ z => CM z
end
section
variable{X : Cx}{st : Bc}{rest : Ab Bc}{t u : TS}{e : Ao}{te : TE}{pos : AI}
noncomputable def VE : TS := fun D σ H => D.nx σ H
noncomputable def Xa(t u : TS) : TS := fun D σ H => t {D with nx := u D} σ H
theorem Q2 : PSs X [] VE := fun _ _ σ H _ I h => O3 ⟨σ, H, I, h⟩
theorem QC(h1 : PS X st t)(h2 : PSs X rest u) : PSs X (st::rest) (Xa t u) := by
 intro pI s σ H D I h;refine wpAny_execs_cons (thn (h1 pI s σ H {D with nx := u D} I h) fun f s1 q => ?_)
 cases f with
 |next=>
  obtain⟨σ', H', I', q⟩ := q;exact h2 pI s1 σ' H' D I' q
 |ret v => exact q
 |brk => exact q
 |cont => exact q
theorem Inv.quiet(I : Inv X pI σ H s) : interactive X.env = Ad := by simp[interactive, I.ok.kind]
noncomputable def VF(te : TE) : TS := fun D σ H => te σ H fun _ H1 => D.nx σ H1
theorem LV(he : PE X e te)(hs : CA e Af pos.line X.env = pure Ad := by rfl) : PS X (.Expr e pos) (VF te) := by
 intro pI s σ H D I h;exact wpAny_Expr_any (thn (he pI s σ H _ I h) fun v s1 ⟨x, H1, I1, r1, q1⟩ => ⟨σ, H1, I1, q1⟩) I.quiet hs
noncomputable def Xb(te : TE) : TS := fun D σ H => te σ H D.rt
theorem JM(he : PE X e te) : PS X (.Return (Aa e) pos) (Xb te) := by
 intro pI s σ H D I h;exact wpAny_Return_some (thn (he pI s σ H _ I h) fun v s1 ⟨x, H1, I1, r1, q1⟩ => ⟨x, σ, H1, I1, r1, q1⟩)
noncomputable def Xg(c : TT)(t u : TS) : TS := fun D σ H => c σ H fun b H1 => if b = Ac then t D σ H1 else u D σ H1
theorem V0{c:Ao}{a b:Ab Bc}{tc:TT}(hc : PT X c tc)(ha : PSs X a t)(hb : PSs X b u) : PS X (.If c a b pos) (Xg tc t u) := by
 intro pI s σ H D I h;refine wpAny_If (thn (hc pI s σ H _ I h) fun d s1 ⟨H1, I1, q1⟩ => ?_)
 cases d with
 |true => exact ha pI s1 σ H1 D I1 q1
 |false => exact hb pI s1 σ H1 D I1 q1
end
noncomputable abbrev TG := V -> St -> Hp -> (St -> Hp -> Prop) -> Prop
noncomputable abbrev TGs := Ab V -> St -> Hp -> (St -> Hp -> Prop) -> Prop
noncomputable def PG(X : Cx)(target : Ao)(t : TG) : Prop:=
 ∀(pI : Ab (Ai × AB))(s : Ak)(σ : St)(H : Hp)(v : V)(u : Ah)(Q : St -> Hp -> Prop), Inv X pI σ H s -> A4 v u -> t v σ H Q ->
  Ay (model X.prog X.w) X.A (assign target X.env u) (fun _ s' => ∃ σ' H', Inv X pI σ' H' s' /\ Q σ' H') X.xe s
noncomputable def PGs(X : Cx)(ts : Ab Ao)(t : TGs) : Prop:=
 ∀(pI : Ab (Ai × AB))(s : Ak)(σ : St)(H : Hp)(vs : Ab V)(us : Ab Ah)(Q : St -> Hp -> Prop), Inv X pI σ H s -> AR vs us -> t vs σ H Q ->
  Ay (model X.prog X.w) X.A (assignInOrder ((BX ts X.env).map (·.2)) us) (fun _ s' => ∃ σ' H', Inv X pI σ' H' s' /\ Q σ' H') X.xe s
noncomputable abbrev Iw := V -> V -> V -> Hp -> (Hp -> Prop) -> Prop
noncomputable def Ko(X : Cx)(t : Iw) : Prop:=
 ∀(pI : Ab (Ai × AB))(s : Ak)(σ : St)(H : Hp)(o i v : V)(ov iv u : Ah)(Q : Hp -> Prop), Inv X pI σ H s -> A4 o ov -> A4 i iv -> A4 v u -> t o i v H Q ->
  Ay (model X.prog X.w) X.A (F2 ov iv u) (fun _ s' => ∃ H', Inv X pI σ H' s' /\ Q H') X.xe s
section
variable{X : Cx}{pos : AI}
noncomputable def Ew(i : Ag) : TG := fun v σ H Q => Q (σ.set i (Aa v)) H
theorem HS(hN : X.N.Nodup)(hi : X.N[i]? = Aa x)(hx : Loc X.env.scope x)(hf : X.fn x = Ac \/ X.env.scope.names.lookup x = Aa .local := by first|exact .inl rfl|exact .inr rfl|assumption) : PG X (.Name x pos) (Ew i) := by
 intro pI s σ H v u Q I r h;exact OZ (Ln I hN hi hx r (fun s' I' => ⟨_, H, I', h⟩) hf)
noncomputable def Hu : TGs := fun vs σ H Q => vs = [] /\ Q σ H
noncomputable def Ho(t : TG)(u : TGs) : TGs := fun vs σ H Q => ∃ v r, vs = v::r /\ t v σ H fun σ' H' => u r σ' H' Q
theorem Su : PGs X [] Hu := by
 intro pI s σ H vs us Q I r h;obtain⟨e, h⟩ := h;subst e;cases r;exact assignInOrder_nil ⟨σ, H, I, h⟩
theorem QE{t:TG}{u:TGs}(h1 : PG X e t)(h2 : PGs X es u)(hs : (BX (e::es) X.env).map (·.2) = assign e X.env::(BX es X.env).map (·.2) := by rfl) : PGs X (e::es) (Ho t u) := by
 intro pI s σ H vs us Q I r h;obtain⟨v, vr, e1, h⟩ := h;subst e1;cases r with
 |cons r rr=>
  rw[hs];refine assignInOrder_cons (thn (h1 pI s σ H _ _ _ I r h) fun _ s1 ⟨σ1, H1, I1, q1⟩ => ?_)
  exact h2 pI s1 σ1 H1 _ _ Q I1 rr q1
noncomputable def Kf(K : Fg)(n : Ag)(t : TGs) : TG := fun v σ H Q => ∃ a xs, v = .ref a /\ SqT K H a xs /\ xs.length = n /\ t xs σ H Q
theorem TQ{t:TGs}(hc : X.calm = Ac)(h : PGs X es t)(hn : (BX es X.env).length = n := by rfl)(hst : (BX es X.env).findIdx? (·.1) = Af := by rfl) : PG X (.Tuple es k pos) (Kf X.K n t) := by
 intro pI s σ H v u Q I r hw;obtain⟨a, xs, e1, hq, hl, hw⟩ := hw;subst e1;cases r;obtain⟨its, rv, ht, hz⟩ := I.tuple hq;refine assign_Tuple_tuple (I.ok.hd hc) ht (by simp[hn, <-hl, rv.length]) hst fun h' hx => ?_
 have I1 : Inv X pI σ H {s with heap := h'} := I.kept (t' := s.toks) fun b o e => hx b o (Bw (Az e)) e
 exact h pI _ σ H xs _ Q I1 (by simpa using rv) hw
noncomputable def Xk(to ti : TE)(t : Iw) : TG := fun v σ H Q => to σ H fun o H1 => ti σ H1 fun i H2 => t o i v H2 fun H3 => Q σ H3
theorem MB{o i:Ao}{to ti:TE}{t:Iw}(ho : PE X o to)(hi : PE X i ti)(hs : Ko X t)(ha : ∀ v, assign (.Subscript o i pos) X.env v = (do
   let ov <-holding [v] (eval o X.env)
   let iv <-holding [v, ov] (eval i X.env)
   Fk pos
   holding [v, ov, iv] (F2 ov iv v)
   release [v, ov, iv] []) := by intro _;rfl) : PG X (.Subscript o i pos) (Xk to ti t) := by
 intro pI s σ H v u Q I r h;rw[ha];refine Aq (C5 (thn (ho pI s σ H _ I h) fun ov s1 ⟨x, H1, I1, r1, q1⟩ => ?_))
 refine Aq (C5 (thn (hi pI s1 σ H1 _ I1 q1) fun iv s2 ⟨y, H2, I2, r2, q2⟩ => ?_))
 refine Aq (FH (Aq (C5 (thn (hs pI s2 σ H2 x y v ov iv u _ I2 r1 r2 r q2) fun _ s3 ⟨H3, I3, q3⟩ => ?_))))
 exact wpAny_release ⟨σ, H3, I3, q3⟩
noncomputable def Ir(te : TE)(g : TG) : TS := fun D σ H => te σ H fun x H1 => g x σ H1 D.nx
theorem MA{g:TG}(he : PE X e te)(hg : PG X tg g)(hs : Ep [tg] e pos.line X.env = pure Ad := by rfl)(hw : FG [tg] e X.env = pure Af := by rfl)(h1 : (BX [tg] X.env).map (·.2) = [assign tg X.env] := by rfl) : PS X (.Assign [tg] e pos) (Ir te g) := by
 intro pI s σ H D I h;refine wpAny_Assign_stores (thn (he pI s σ H _ I h) fun v s1 ⟨x, H1, I1, r1, q1⟩ => ?_) hs hw
 rw[h1];exact thn (hg pI s1 σ H1 x v _ I1 r1 q1) fun _ s2 q => q
theorem Mz{pos':AI}(hN : X.N.Nodup)(hi : X.N[i]? = Aa x)(hx : Loc X.env.scope x)(he : PE X e te)(hs : CA e (Aa (.Name x pos')) pos.line X.env = pure Ad := by rfl)(hf : X.fn x = Ac \/ X.env.scope.names.lookup x = Aa .local := by first|exact .inl rfl|exact .inr rfl|assumption):PS X (.Assign [.Name x pos'] e pos) (Ir te (Ew i)) := by
 intro pI s σ H D I h;refine wpAny_Assign_Name (thn (he pI s σ H _ I h) fun v s1 ⟨y, H1, I1, r1, q1⟩ => ?_) hs
 exact Ln I1 hN hi hx r1 (fun s2 I2 => ⟨_, H1, I2, q1⟩) hf
end
section
variable{X : Cx}{pos : AI}
end
structure It where
 go : Ag -> Hp -> Prop
 yld : Ag -> Hp -> V -> Hp -> Prop
 stop : Ag -> Hp -> Prop
noncomputable def Fb(X : Cx)(pI : Ab (Ai × AB))(H : Hp)(b : Ai) : Prop:=
 H b = Af /\ b ≠ X.env.locals /\ b ∉ X.fs /\ (b ∈ X.ex \/ X.s₀.heap.objs.size <= b) /\ (∀ x c, X.env.cells.lookup x = Aa c -> c ≠ b) /\ ∀ p ∈ X.pn++pI, p.1 ≠ b
theorem Inv.fpOk{H':Hp}(I : Inv X pI σ H s)(hb : s.heap.objs.size <= b)(hn : H' b = Af) : Fb X pI H' b := by
 refine⟨hn, Oq (Av I.lt hb), I.nofs hb, .inr (BL I.sz hb), fun x c e z => ?_, fun p hp z => ?_⟩
 ·obtain⟨v, q⟩ := I.cell x c e;exact absurd (Av q.lt (by rw[z];exact hb)) (A7 _)
 ·exact absurd (Av (Az (I.pin p hp).1) (by rw[z];exact hb)) (A7 _)
structure Turn (P : AC) (w : AJ) (K : Fg) (tg : Ao) (J : It) (fp : Ab Ai) (it : Ai) (tn : Ag -> AD -> Prop) : Prop where
 mem : it ∈ fp
 obj : ∀ i h, tn i h -> ∀ b ∈ fp, ∃ o, h.get? b = Aa o /\ ∀ v, o.data ≠ .cell v
 keep : ∀ i h h', tn i h -> (∀ b ∈ fp, ∀ o, h.get? b = Aa o -> h'.get? b = Aa o) -> tn i h'
 item : ∀(X : Cx), X.prog = P -> X.w = w -> X.K = K -> X.calm = Ac -> ∀(i : Ag)(pI : Ab (Ai × AB))(s : Ak)(σ : St)(H : Hp)(E : Ah -> Ak -> Prop), Inv X pI σ H s -> (∀ b ∈ fp, Fb X pI H b) -> tn i s.heap -> J.go i H ->
  Ay (model P w) X.A (pyNext (.ref it)) (fun r s1 => ∃ u, r = Aa u /\
   Ay (model P w) X.A (DX tg (.ref it) u) (fun _ s2 => ∃ x H', Inv X pI σ H' s2 /\ A4 x u /\ J.yld i H x H' /\ tn (i+1) s2.heap /\ ∀ b ∈ fp, H' b = Af) E s1) E s
 done : ∀(X : Cx), X.prog = P -> X.w = w -> X.K = K -> X.calm = Ac -> ∀(i : Ag)(pI : Ab (Ai × AB))(s : Ak)(σ : St)(H : Hp)(E : Ah -> Ak -> Prop), Inv X pI σ H s -> (∀ b ∈ fp, Fb X pI H b) -> tn i s.heap -> J.stop i H ->
  Ay (model P w) X.A (pyNext (.ref it)) (fun r s1 => r = Af /\ Inv X pI σ H s1) E s
 self : ∀(A : AM)(i : Ag)(s : Ak)(Q : Ah -> Ak -> Prop)(E : Ah -> Ak -> Prop), tn i s.heap -> Q (.ref it) s -> Ay (model P w) A (pyIter (.ref it)) Q E s
noncomputable abbrev TI := St -> Hp -> (It -> Hp -> Prop) -> Prop
noncomputable def PIE(X : Cx)(pI : Ab (Ai × AB))(σ : St)(tg : Ao)(R : It -> Hp -> Prop)(itv : Ah)(s2 : Ak) : Prop:=
 ∃(it : Ai)(fp : Ab Ai)(tn : Ag -> AD -> Prop)(J : It)(H' : Hp), itv = .ref it /\ Inv X pI σ H' s2 /\ Turn X.prog X.w X.K tg J fp it tn /\ tn 0 s2.heap /\ (∀ b ∈ fp, Fb X pI H' b) /\ R J H'
noncomputable def PI(X : Cx)(tg iter : Ao)(wi : TI) : Prop:=
 ∀(pI : Ab (Ai × AB))(s : Ak)(σ : St)(H : Hp)(R : It -> Hp -> Prop), Inv X pI σ H s -> wi σ H R ->
  Ay (model X.prog X.w) X.A (eval iter X.env) (fun v s1 => Ay (model X.prog X.w) X.A (pyIter v) (PIE X pI σ tg R) X.xe s1) X.xe s
theorem JW{A : AM}{E : Ah -> Ak -> Prop}{n:Cc}{vs:A8 Ah}(ho : s.heap.get? it = Aa o)(hc : o.cls = .type n)(hd : o.data = .fields vs)(hn : ["enumerate", "zip", "dict_itemiterator", "dict_reverseitemiterator", "odict_iterator", "itertools.zip_longest", "itertools.pairwise"].contains n = Ad)(hQ : Q () s) : Ay M A (DX tg (.ref it) u) Q E s := by
  unfold DX;cases tg <;> first
    |exact AK hQ
    | (cases u <;> first
        |exact AK hQ
        | (refine Aq (wpAny_load ho ?_)
           rw[hc, hd];show Ay M A (if (["enumerate", "zip", "dict_itemiterator", "dict_reverseitemiterator", "odict_iterator", "itertools.zip_longest", "itertools.pairwise"].contains n&&vs[0]? == Aa (Ek _)) = Ac then _ else _) Q E s
           rw[AH (by intro h;rw[hn, Bool.false_and]at h;cases h)]
           exact AK hQ))
noncomputable def Itl(K : Fg)(a : Ai) : It:=
 ⟨fun i H => ∃ xs x, SqL K H a xs /\ xs[i]? = Aa x, fun i H x H' => H' = H /\ ∀ xs, SqL K H a xs -> xs[i]? = Aa x, fun i H => ∃ xs, SqL K H a xs /\ xs.length <= i⟩
noncomputable def Itt(K : Fg)(a : Ai) : It:=
 ⟨fun i H => ∃ xs x, SqT K H a xs /\ xs[i]? = Aa x, fun i H x H' => H' = H /\ ∀ xs, SqT K H a xs -> xs[i]? = Aa x, fun i H => ∃ xs, SqT K H a xs /\ xs.length <= i⟩
noncomputable def Itr(lo : Ae)(n : Ag) : It := ⟨fun i _ => i<n, fun i H x H' => H' = H /\ x = .int (lo+i), fun i _ => n <= i⟩
theorem P1{w : AJ}{K : Fg}(a it : Ai) : Turn P w K tg (Itl K a) [it] it (fun i h => h.IsListIter it a i) where
 mem := by simp
 obj := fun i h st b hb => by
  have e : b = it := by simpa using hb
  subst e;obtain⟨o, e, c, d⟩ := st;exact⟨o, e, fun v z => by rw[d]at z;cases z⟩
 keep := fun i h h' st k => st.at fun o e => k it (by simp) o e
 item := by
  intro X hP hw hK hc i pI s σ H E I hf st hg;subst hP hw hK;obtain⟨xs, x, hq, hx⟩ := hg;obtain⟨its, rv, p, hz⟩ := I.list hq;obtain⟨u, hu, ru⟩ := rv.get hx;obtain⟨f0, f1, f2, f3, f4, f5⟩ := hf it (by simp)
  refine wpAny_pyNext_list_item st p.isList (x := u) (by simpa using hu) fun h' st' sb => ?_
  have I1 : Inv X pI σ H {s with heap := h'} := I.turned (t' := s.toks) (fun b o hb e => (sb.2 b hb).trans e) f0 f1 f3 f4 f5
  obtain⟨o, e, c, d⟩ := id st';exact⟨u, rfl, JW (s := {s with heap := h'}) e c d (by decide) ⟨x, H, I1, ru, ⟨rfl, fun ys hy => by rw[I.list_inj hy hq];exact hx⟩, st', fun b hb => (hf b hb).1⟩⟩
 done := by
  intro X hP hw hK hc i pI s σ H E I hf st hg;subst hP hw hK;obtain⟨xs, hq, hx⟩ := hg;obtain⟨its, rv, p, hz⟩ := I.list hq;obtain⟨f0, f1, f2, f3, f4, f5⟩ := hf it (by simp)
  have hl := rv.length;exact wpAny_pyNext_list_end (I.ok.hd hc) st p.isList (by simp;omega) fun h' eb => ⟨rfl, I.turned (t' := s.toks) (fun b o hb e => eb b o hb e) f0 f1 f3 f4 f5⟩
 self := fun _ _ _ _ _ st h => wpAny_pyIter_listiter st h
theorem PD{w : AJ}{K : Fg}(a it : Ai) : Turn P w K tg (Itt K a) [it] it (fun i h => h.IsTupleIter it a i) where
 mem := by simp
 obj := fun i h st b hb => by
  have e : b = it := by simpa using hb
  subst e;obtain⟨o, e, c, d⟩ := st;exact⟨o, e, fun v z => by rw[d]at z;cases z⟩
 keep := fun i h h' st k => st.at fun o e => k it (by simp) o e
 item := by
  intro X hP hw hK hc i pI s σ H E I hf st hg;subst hP hw hK;obtain⟨xs, x, hq, hx⟩ := hg;obtain⟨its, rv, p, hz⟩ := I.tuple hq;obtain⟨u, hu, ru⟩ := rv.get hx;obtain⟨f0, f1, f2, f3, f4, f5⟩ := hf it (by simp)
  refine wpAny_pyNext_tuple_item st (show s.heap.IsTuple a its.toArray from p) (x := u) (by simpa using hu) fun h' st' sb => ?_
  have I1 : Inv X pI σ H {s with heap := h'} := I.turned (t' := s.toks) (fun b o hb e => (sb.2 b hb).trans e) f0 f1 f3 f4 f5
  obtain⟨o, e, c, d⟩ := id st';exact⟨u, rfl, JW (s := {s with heap := h'}) e c d (by decide) ⟨x, H, I1, ru, ⟨rfl, fun ys hy => by rw[I.tuple_inj hy hq];exact hx⟩, st', fun b hb => (hf b hb).1⟩⟩
 done := by
  intro X hP hw hK hc i pI s σ H E I hf st hg;subst hP hw hK;obtain⟨xs, hq, hx⟩ := hg;obtain⟨its, rv, p, hz⟩ := I.tuple hq;obtain⟨f0, f1, f2, f3, f4, f5⟩ := hf it (by simp)
  have hl := rv.length;exact wpAny_pyNext_tuple_end (I.ok.hd hc) st (show s.heap.IsTuple a its.toArray from p) (by simp;omega) fun h' eb => ⟨rfl, I.turned (t' := s.toks) (fun b o hb e => eb b o hb e) f0 f1 f3 f4 f5⟩
 self := fun _ _ _ _ _ st h => wpAny_pyIter_tupleiter st h
theorem PH{w : AJ}{K : Fg}(it : Ai)(lo : Ae)(n : Ag) : Turn P w K tg (Itr lo n) [it] it (fun i h => IsRangeIter h it (lo+(i : Ag)*1) ((n : Ae)-(i : Ag)) 1) where
 mem := by simp
 obj := fun i h st b hb => by
  have e : b = it := by simpa using hb
  subst e;exact⟨_, st, fun v z => by
   have z' : Data.fields _ = GY v := z;cases z'⟩
 keep := fun i h h' st k => k it (by simp) _ st
 item := by
  intro X hP hw hK hc i pI s σ H E I hf st hg;subst hP hw hK;obtain⟨f0, f1, f2, f3, f4, f5⟩ := hf it (by simp)
  have W := Walks.range (prog := X.prog) (w := X.w) (I.ok.hd hc) it lo 1 n;refine W.item i s _ _ hg st fun v h' tk hv st' kk => ?_
  obtain⟨t, rfl⟩ := hv;have I1 : Inv X pI σ H {s with heap := h', toks := tk} := I.turned (fun b o hb e => kk b o (by simpa using hb) e) f0 f1 f3 f4 f5
  refine⟨_, rfl, JW (s := {s with heap := h', toks := tk}) (n := "range_iterator") st' rfl rfl (by decide) ⟨.int (lo+i), H, I1, ⟨t, ?_⟩, ⟨rfl, rfl⟩, st', fun b hb => (hf b hb).1⟩⟩
  rw[E3]
 done := by
  intro X hP hw hK hc i pI s σ H E I hf st hg;subst hP hw hK;obtain⟨f0, f1, f2, f3, f4, f5⟩ := hf it (by simp)
  exact wpAny_pyNext_range_end (I.ok.hd hc) st (by have : n <= i := hg;omega) fun h' eb => ⟨rfl, I.turned (t' := s.toks) (fun b o hb e => eb b o hb e) f0 f1 f3 f4 f5⟩
 self := fun _ _ _ _ _ st h => wpAny_pyIter_rangeiter st h
section
variable{X : Cx}{tg : Ao}
theorem Lp{R : It -> Hp -> Prop}{E : Ah -> Ak -> Prop}{lo hi:Ae}{t u v:Ca}{tk:Ag}(I : Inv X pI σ H s)(h1 : -(2 ^ 62) <= lo)(h2 : lo<2 ^ 62)(h3 : -(2 ^ 62) <= hi)(h4 : hi<2 ^ 62)(q : R (Itr lo (hi-lo).toNat) H) : Ay (model X.prog X.w) X.A (pyIter (.ref s.heap.objs.size)) (PIE X pI σ tg R) E { s with heap := s.heap.push { cls := .type "range", data := .fields #[.int lo t, .int hi u, .int 1 v] }, toks := tk } := by
 refine wpAny_pyIter_range (IsRange.new ..) (small_one h1 h2 h3 h4) ?_;have I1 : Inv X pI σ H { s with heap := s.heap.push { cls := .type "range", data := .fields #[.int lo t, .int hi u, .int 1 v] }, toks := tk } := I.kept fun b o e => Aw _ e
 refine⟨(s.heap.push { cls := .type "range", data := .fields #[.int lo t, .int hi u, .int 1 v] }).objs.size, [(s.heap.push { cls := .type "range", data := .fields #[.int lo t, .int hi u, .int 1 v] }).objs.size], _, _, H, rfl,
  I1.kept (t' := tk) fun b o e => Aw _ e, PH _ lo (hi-lo).toNat, ?_, fun b hb => ?_, q⟩
 ·have e1 : lo+((0 : Ag) : Ae)*1 = lo := by simp
  have e2 : (((hi-lo).toNat : Ag) : Ae)-((0 : Ag) : Ae) = Builtin.Range.rangeSize lo hi 1 := by rw[rangeSize_one];split <;> omega
  show IsRangeIter _ _ (lo+((0 : Ag) : Ae)*1) ((((hi-lo).toNat : Ag) : Ae)-((0 : Ag) : Ae)) 1;rw[e1, e2];exact Ba _ rfl
 ·have e : b = (s.heap.push { cls := .type "range", data := .fields #[.int lo t, .int hi u, .int 1 v] }).objs.size := by simpa using hb
  subst e;exact I1.fpOk (AG _) (I1.hok.fresh (AG _))
noncomputable def WQ(ta : TA) : TI := fun σ H R => ta σ H fun vs H1 => ∃ j : Ae, vs = [.int j] /\ -(2 ^ 62) <= j /\ j<2 ^ 62 /\ R (Itr 0 j.toNat) H1
noncomputable def WP(ta : TA) : TI := fun σ H R => ta σ H fun vs H1 => ∃ i j : Ae, vs = [.int i, .int j] /\ (-(2 ^ 62) <= i /\ i<2 ^ 62 /\ -(2 ^ 62) <= j /\ j<2 ^ 62) /\ R (Itr i (j-i).toNat) H1
theorem PB{a:Ao}{p:AI}(hg : Gl X "range")(hm : X.mg "range" = Af)(ha : PA X [a] ta)(hs : At [a] X.env = [(Ad, eval a X.env)] := by rfl) : PI X tg (.Call (.Name "range" p) [a] [] pos) (WQ ta) := by
 intro pI s σ H R I h;refine Call_ (Hh I hg hm boot_range (CZ (thn (ha pos pI s σ H _ I h) fun us s1 ⟨vs, H1, I1, r1, q1⟩ => ?_) hs rfl))
 obtain⟨j, e, q1, q2, q⟩ := q1;subst e;cases r1 with
 |cons r rr=>
  cases rr;obtain⟨t, rfl⟩ := r;exact call_range_1 (Lp I1 (by omega) (by omega) q1 q2 (by simpa using q))
theorem Pz{a b:Ao}{p:AI}(hg : Gl X "range")(hm : X.mg "range" = Af)(ha : PA X [a, b] ta)(hs : At [a, b] X.env = [(Ad, eval a X.env), (Ad, eval b X.env)] := by rfl)(hs2 : At [b] X.env = [(Ad, eval b X.env)] := by rfl):
  PI X tg (.Call (.Name "range" p) [a, b] [] pos) (WP ta) := by
 intro pI s σ H R I h;refine Call_ (Hh I hg hm boot_range (CZ (thn (ha pos pI s σ H _ I h) fun us s1 ⟨vs, H1, I1, r1, q1⟩ => ?_) (by rw[hs, hs2]) (by rw[hs2];rfl)))
 obtain⟨i, j, e, ⟨q1, q2, q3, q4⟩, q⟩ := q1;subst e;cases r1 with
 |cons r rr=>
  cases rr with
  |cons r' rr=>
   cases rr;obtain⟨t, rfl⟩ := r;obtain⟨t', rfl⟩ := r';exact call_range_2 (Lp I1 q1 q2 q3 q4 q)
noncomputable def Xx(wi : TI)(g : TG)(tb : TS) : TS := fun D σ H => wi σ H fun J H1 => ∃ W : Ag -> Ag -> St -> Hp -> Prop, (∃ m, W 0 m σ H1) /\ ∀ i m σ H, W i m σ H ->
 (J.stop i H /\ D.nx σ H) \/ (J.go i H /\ ∃ N : St -> Hp -> Prop, (∀ σ' H', N σ' H' -> ∃ m', m'<m /\ W (i+1) m' σ' H') /\ ∀ x H', J.yld i H x H' -> g x σ H' fun σ2 H2 => tb {D with nx := N, ct := N, bk := D.nx} σ2 H2)
noncomputable def Ge(fp : Ab Ai)(h : AD) : Ab (Ai × AB) := fp.filterMap fun b => (h.get? b).map fun o => (b, o)
theorem HG(hb : b ∈ fp)(e : h.get? b = Aa o) : (b, o) ∈ Ge fp h := List.mem_filterMap.mpr ⟨b, hb, by rw[e];rfl⟩
theorem KM{p:Ai × AB}(hp : p ∈ Ge fp h) : p.1 ∈ fp /\ h.get? p.1 = Aa p.2 := by
 obtain⟨b, hb, e⟩ := List.mem_filterMap.mp hp;cases q : h.get? b with
 |none => rw[q]at e;cases e
 |some o=>
  rw[q]at e;have e' : (b, o) = p := BU e;subst e';exact⟨hb, q⟩
theorem Inv.pinned(I : Inv X pI σ H s)(hf : ∀ b ∈ fp, Fb X pI H b)(ho : ∀ b ∈ fp, ∃ o, s.heap.get? b = Aa o /\ ∀ v, o.data ≠ .cell v) : Inv X (pI++Ge fp s.heap) σ H s:=
 I.pins_of fun p hp => (DO.mp hp).elim (fun z => I.pin p (AW _ z)) fun z => by
  obtain⟨hb, e⟩ := KM z;obtain⟨f0, f1, f2, _⟩ := hf p.1 hb;obtain⟨o, e', d⟩ := ho p.1 hb;rw[e]at e';cases e';exact⟨e, f0, f1, f2, d⟩
theorem Inv.unpinned{pl:Ab (Ai × AB)}(I : Inv X (pI++pl) σ H s) : Inv X pI σ H s := I.pins_of fun p hp => I.pin p (AW _ (Of _ hp))
theorem TH{iter:Ao}{wi:TI}{g:TG}{tb:TS}(hp : DM (model X.prog X.w) X.A X.env X.xe)(hc : X.calm = Ac)(hi : PI X tg iter wi)(hg : PG X tg g)(hb : PSs X body tb)(hs : ∀ x, BP iter X.env x = pure x := by intro _;rfl) : PS X (.For tg iter body [] pos) (Xx wi g tb) := by
 intro pI s σ H D I h;refine wpAny_For (thn (hi pI s σ H _ I h) fun v s1 h1 => thn h1 fun itv s2 h2 => ?_) hs
 obtain⟨it, fp, tn, J, H2, e, I2, T, st2, f2, W, ⟨m0, w0⟩, turn⟩ := h2;subst e
 -- what stays Ac of the iterator's objects through the loop
 have stat : ∀{H' : Hp}, (∀ b ∈ fp, H' b = Af) -> ∀ b ∈ fp, Fb X pI H' b := fun hn b hb => ⟨hn b hb, (f2 b hb).2⟩
 refine codeAny_forLoop_any (fun n s' => ∃ i σ' H', Inv X pI σ' H' s' /\ tn i s'.heap /\ (∀ b ∈ fp, H' b = Af) /\ W i n σ' H') ?_ m0 ⟨0, σ, H2, I2, st2, fun b hb => (f2 b hb).1, w0⟩
 rintro n s3 ⟨i, σ3, H3, I3, st3, fr3, w3⟩;rcases turn i n σ3 H3 w3 with ⟨stop, qn⟩|⟨go, N, hN, step⟩
 ·refine Dl hp (thn (T.done X rfl rfl rfl hc i pI s3 σ3 H3 X.xe I3 (stat fr3) st3 stop) fun r s4 ⟨hr, I4⟩ => ?_)
  subst hr;exact O3 ⟨σ3, H3, I4, qn⟩
 ·refine Dl hp (thn (T.item X rfl rfl rfl hc i pI s3 σ3 H3 X.xe I3 (stat fr3) st3 go) fun r s4 ⟨u, hr, h4⟩ => ?_)
  subst hr;refine Dl hp (thn h4 fun _ s5 ⟨x, H5, I5, r5, y5, st5, fr5⟩ => ?_)
  have I5' := I5.pinned (stat fr5) (T.obj _ _ st5);refine Dl hp (thn (hg _ s5 σ3 H5 x u _ I5' r5 (step x H5 y5)) fun _ s6 ⟨σ6, H6, I6, q6⟩ => ?_)
  refine Dl hp (thn (hb _ s6 σ6 H6 _ I6 q6) fun f s7 q7 => ?_)
  have again : ∀{σ7 : St}{H7 : Hp}, Inv X (pI++Ge fp s5.heap) σ7 H7 s7 -> N σ7 H7 -> ∃ m, m<n /\ ∃ i σ' H', Inv X pI σ' H' s7 /\ tn i s7.heap /\ (∀ b ∈ fp, H' b = Af) /\ W i m σ' H' := fun {σ7 H7} I7 n7 => by
   obtain⟨m', hm, w7⟩ := hN σ7 H7 n7;refine⟨m', hm, i+1, σ7, H7, I7.unpinned, T.keep _ _ _ st5 fun b hb o e => (I7.pin (b, o) (AW _ (AW _ (HG hb e)))).1, fun b hb => ?_, w7⟩
   obtain⟨o, e, d⟩ := T.obj _ _ st5 b hb;exact(I7.pin (b, o) (AW _ (AW _ (HG hb e)))).2.1
  cases f with
  |next => obtain⟨σ7, H7, I7, n7⟩ := q7;exact again I7 n7
  |cont => obtain⟨σ7, H7, I7, n7⟩ := q7;exact again I7 n7
  |brk => obtain⟨σ7, H7, I7, q7⟩ := q7;exact⟨σ7, H7, I7.unpinned, q7⟩
  |ret v => obtain⟨x7, σ7, H7, I7, r7, q7⟩ := q7;exact⟨x7, σ7, H7, I7.unpinned, r7, q7⟩
end
noncomputable abbrev R2 := V -> V -> Hp -> VK -> Prop
variable{r r':R2}
noncomputable def OpR(X : Cx)(f : Ah -> Ah -> Sem Ah)(r : R2) : Prop:=
 ∀(pI : Ab (Ai × AB))(s : Ak)(σ : St)(H : Hp)(x y : V)(v u : Ah)(Q : VK), Inv X pI σ H s -> A4 x v -> A4 y u -> r x y H Q ->
  Ay (model X.prog X.w) X.A (f v u) (EP X pI σ Q) X.xe s
noncomputable def EW(X : Cx)(f : Ah)(r : Ab V -> Hp -> VK -> Prop) : Prop:=
 ∀(pI : Ab (Ai × AB))(s : Ak)(σ : St)(H : Hp)(xs : Ab V)(us : Ab Ah)(Q : VK), Inv X pI σ H s -> AR xs us -> r xs H Q ->
  Ay (model X.prog X.w) X.A (call f us) (EP X pI σ Q) X.xe s
noncomputable def Xo(X : Cx)(r : V -> Hp -> (An -> Hp -> Prop) -> Prop) : Prop:=
 ∀(pI : Ab (Ai × AB))(s : Ak)(σ : St)(H : Hp)(x : V)(v : Ah)(Q : An -> Hp -> Prop), Inv X pI σ H s -> A4 x v -> r x H Q ->
  Ay (model X.prog X.w) X.A (truthy v) (TP X pI σ Q) X.xe s
noncomputable def tOp(r : R2)(ta tb : TE) : TE := fun σ H Q => ta σ H fun x H1 => tb σ H1 fun y H2 => r x y H2 Q
noncomputable def rI(C : Ae -> Ae -> Prop)(g : Ae -> Ae -> V) : R2 := fun x y H Q => ∃ i j, x = .int i /\ y = .int j /\ C i j /\ Q (g i j) H
noncomputable def rI0(g : Ae -> Ae -> V) : R2 := fun x y H Q => ∃ i j, x = .int i /\ y = .int j /\ Q (g i j) H
section
variable{X : Cx}{a b c : Ao}{ta tb tc : TE}{pos : AI}
theorem Kk(ha : PE X a ta)(hb : PE X b tb){R : V -> V -> Hp -> Prop}(I : Inv X pI σ H s)(h : ta σ H fun x H1 => tb σ H1 fun y H2 => R x y H2){Q:Ah -> Ak -> Prop}(hf : ∀ v u s2 x y H2, Inv X pI σ H2 s2 -> A4 x v -> A4 y u -> R x y H2 -> Ay (model X.prog X.w) X.A (f v u) Q X.xe s2):Ay (model X.prog X.w) X.A (eval a X.env) (fun v s₁ =>Ay (model X.prog X.w) X.A (eval b X.env) (fun u s₂ =>Ay (model X.prog X.w) X.A (f v u) Q X.xe s₂) X.xe s₁) X.xe s := by
 refine thn (ha pI s σ H _ I h) fun v s1 ⟨x, H1, I1, r1, q1⟩ => ?_
 refine thn (hb pI s1 σ H1 _ I1 q1) fun u s2 ⟨y, H2, I2, r2, q2⟩ => ?_
 exact hf v u s2 x y H2 I2 r1 r2 q2
theorem MT{op:EK}(ho : OpR X (Bl op) r)(ha : PE X a ta)(hb : PE X b tb) : PE X (.BinOp a op b pos) (tOp r ta tb) := by
 intro pI s σ H Q I h;exact wpAny_BinOp (Kk ha hb I h fun v u s2 x y H2 I2 rx ry q => ho pI s2 σ H2 x y v u Q I2 rx ry q)
theorem opI{C:Ae -> Ae -> Prop}(rule : ∀(i j : Ae)(t u : Ca)(s : Ak)(Q : Ah -> Ak -> Prop)(E : Ah -> Ak -> Prop), C i j -> Q (.int (g i j) s.toks) {s with toks := s.toks+1} -> Ay (model X.prog X.w) X.A (f (.int i t) (.int j u)) Q E s):OpR X f (rI C fun i j =>.int (g i j)) := by
 intro pI s σ H x y v u Q I rx ry h;obtain⟨i, j, rfl, rfl, hc, q⟩ := h;obtain⟨t, rfl⟩ := rx;obtain⟨t', rfl⟩ := ry;exact rule i j t t' s _ _ hc ⟨.int (g i j), H, I.tok _, ⟨_, rfl⟩, q⟩
theorem NJ(rule : ∀(i j : Ae)(t u : Ca)(s : Ak)(Q : Ah -> Ak -> Prop)(E : Ah -> Ak -> Prop), Q (.int (g i j) s.toks) {s with toks := s.toks+1} -> Ay (model X.prog X.w) X.A (f (.int i t) (.int j u)) Q E s):OpR X f (rI0 fun i j =>.int (g i j)) := by
 intro pI s σ H x y v u Q I rx ry h;obtain⟨i, j, rfl, rfl, q⟩ := h;obtain⟨t, rfl⟩ := rx;obtain⟨t', rfl⟩ := ry;exact rule i j t t' s _ _ ⟨.int (g i j), H, I.tok _, ⟨_, rfl⟩, q⟩
theorem Ip{g:Ae -> Ae -> An}(rule : ∀(i j : Ae)(t u : Ca)(s : Ak)(Q : Ah -> Ak -> Prop)(E : Ah -> Ak -> Prop), Q (.bool (g i j)) s -> Ay (model X.prog X.w) X.A (f (.int i t) (.int j u)) Q E s):OpR X f (rI0 fun i j =>.bl (g i j)) := by
 intro pI s σ H x y v u Q I rx ry h;obtain⟨i, j, rfl, rfl, q⟩ := h;obtain⟨t, rfl⟩ := rx;obtain⟨t', rfl⟩ := ry;exact rule i j t t' s _ _ ⟨.bl (g i j), H, I, rfl, q⟩
noncomputable def Xv(i j : Ae) : Prop := 0<j /\ j<1073741824
noncomputable def Xu(i j : Ae) : Prop := 0 <= j /\ j <= 1000000 /\ i.natAbs<2 ^ 64
noncomputable def Iy(i j : Ae) : Prop := (-(2 ^ 64)<i /\ i<2 ^ 64) \/ (-(2 ^ 64)<j /\ j<2 ^ 64)
theorem Iy.ok{i j:Ae}(h : Iy i j) : G0 i j := by
 rcases h with ⟨h1, h2⟩|⟨h1, h2⟩
 ·exact .of_left (intBits_le_64 h1 h2)
 ·exact .of_right (intBits_le_64 h1 h2)
theorem Tt : OpR X (Bl .Add) (rI0 fun i j => .int (i+j)) := NJ fun _ _ _ _ _ _ _ q => add_int q
theorem Tp : OpR X (Bl .Sub) (rI0 fun i j => .int (i-j)) := NJ fun _ _ _ _ _ _ _ q => sub_int q
theorem SM : OpR X (Bl .FloorDiv) (rI Xv fun i j => .int (i / j)) := opI fun i j _ _ _ _ _ hc q => by
 have h1 : (0 : Ae)<j := hc.1;have h2 : j<1073741824 := hc.2;exact floordiv_int (by omega) (by rw[Int.fdiv_eq_ediv_of_nonneg i (by omega)];exact q) (.inl (PyProof.noPylong_small (by omega)))
theorem Tr : OpR X (Bl .Mod) (rI (fun _ j => 0<j) fun i j => .int (i%j)) := opI fun i j _ _ _ _ _ hc q => by
 have h1 : (0 : Ae)<j := hc;exact mod_int' (by omega) (by rw[Int.fmod_eq_emod_of_nonneg i (by omega)];exact q)
theorem Tq : OpR X (Bl .Pow) (rI Xu fun i j => .int (i ^ j.toNat)) := opI fun _ _ _ _ _ _ _ hc q => pow_int_small hc.1 hc.2.1 hc.2.2 q
end
section
variable{X : Cx}{a b c : Ao}{ta tb tc : TE}{pos : AI}
theorem Mj{Q:VK}{k k':An}(I : Inv X pI σ H s)(q : Q (.bl k) H)(e : k = k') : EP X pI σ Q (.bool k') s := by
 subst e;exact⟨.bl k, H, I, rfl, q⟩
theorem V6 : OpR X (Bv .Lt) (rI0 fun i j => .bl (decide (i<j))) := Ip fun _ _ _ _ _ _ _ q => lt_int q
theorem V7 : OpR X (Bv .LtE) (rI0 fun i j => .bl (decide (i <= j))) := Ip fun _ _ _ _ _ _ _ q => le_int q
theorem V8 : OpR X (Bv .Gt) (rI0 fun i j => .bl (decide (j<i))) := Ip fun _ _ _ _ _ _ _ q => gt_int q
theorem V9 : OpR X (Bv .GtE) (rI0 fun i j => .bl (decide (j <= i))) := Ip fun _ _ _ _ _ _ _ q => ge_int q
theorem Ts : OpR X (Bv .Is) (fun x y H Q => y = .non /\ Q (.bl (decide (x = .non))) H) := by
 intro pI s σ H x y v u Q I rx ry h;obtain⟨rfl, q⟩ := h;cases ry;refine is_none_gen (Mj I q ?_);cases x <;> first
  |(cases rx;rfl)
  |(obtain⟨t, rfl⟩ := rx;rfl)
theorem SK : OpR X (Bv .IsNot) (fun x y H Q => y = .non /\ Q (.bl (!decide (x = .non))) H) := by
 intro pI s σ H x y v u Q I rx ry h;obtain⟨rfl, q⟩ := h;cases ry;refine isnot_none_gen (Mj I q ?_);cases x <;> first
  |(cases rx;rfl)
  |(obtain⟨t, rfl⟩ := rx;rfl)
theorem Sw(ho : OpR X (Bv op) r)(ha : PE X a ta)(hb : PE X b tb)(hm : Eo op b = Ad) : PE X (.Compare a [op] [b] pos) (tOp r ta tb) := by
 intro pI s σ H Q I h;exact wpAny_Compare1 (Kk ha hb I h fun v u s2 x y H2 I2 rx ry q => ho pI s2 σ H2 x y v u Q I2 rx ry q) hm
noncomputable def MN(t : TE) : TT := fun σ H Q => t σ H fun x H' => ∃ k, x = .bl k /\ Q k H'
theorem Q1(ho : OpR X (Bv op) r)(ha : PE X a ta)(hb : PE X b tb)(hm : Eo op b = Ad) : PT X (.Compare a [op] [b] pos) (MN (tOp r ta tb)) := by
 intro pI s σ H Q I h;refine wpAny_isTrue_Compare1 (thn (ha pI s σ H _ I h) fun v s1 ⟨x, H1, I1, r1, q1⟩ => thn (hb pI s1 σ H1 _ I1 q1) fun u s2 ⟨y, H2, I2, r2, q2⟩=>
  thn (ho pI s2 σ H2 x y v u _ I2 r1 r2 q2) fun c s3 ⟨z, H3, I3, r3, k, e, q3⟩ => ?_) hm
 subst e;cases r3;exact BA ⟨H3, I3, q3⟩
noncomputable def Mr(r r' : R2)(ta tb tc : TE) : TE := fun σ H Q => ta σ H fun x H1 => tb σ H1 fun y H2 => r x y H2 fun z H3 => ∃ k, z = .bl k /\
 (if k = Ac then tc σ H3 fun w' H4 => r' y w' H4 Q else Q (.bl Ad) H3)
theorem QG(ho : OpR X (Bv op) r)(ho' : OpR X (Bv op') r')(ha : PE X a ta)(hb : PE X b tb)(hc : PE X c tc)(hm : FQ [op, op'] [b, c] = Ad := by with_unfolding_all rfl) : PE X (.Compare a [op, op'] [b, c] pos) (Mr r r' ta tb tc) := by
 intro pI s σ H Q I h;refine Compare_chain (thn (ha pI s σ H _ I h) fun v s1 ⟨x, H1, I1, r1, q1⟩ => chain_link (thn (hb pI s1 σ H1 _ I1 q1) fun u s2 ⟨y, H2, I2, r2, q2⟩=>
  thn (ho pI s2 σ H2 x y v u _ I2 r1 r2 q2) fun d s3 ⟨z, H3, I3, r3, k, e, q3⟩ => ?_)) hm
 subst e;cases r3;refine BA ?_;cases k with
 |false => exact ite_ff ⟨.bl Ad, H3, I3, rfl, q3⟩
 |true => exact ite_tt (chain_last (thn (hc pI s3 σ H3 _ I3 q3) fun w' s4 ⟨z', H4, I4, r4, q4⟩ => ho' pI s4 σ H4 y z' u w' Q I4 r2 r4 q4))
theorem QB(ho : OpR X (Bv op) r)(ho' : OpR X (Bv op') r')(ha : PE X a ta)(hb : PE X b tb)(hc : PE X c tc)(hm : FQ [op, op'] [b, c] = Ad := by with_unfolding_all rfl) : PT X (.Compare a [op, op'] [b, c] pos) (MN (Mr r r' ta tb tc)) := by
 intro pI s σ H Q I h;refine isTrue_chain (thn (ha pI s σ H _ I h) fun v s1 ⟨x, H1, I1, r1, q1⟩ => test_link (thn (hb pI s1 σ H1 _ I1 q1) fun u s2 ⟨y, H2, I2, r2, q2⟩=>
  thn (ho pI s2 σ H2 x y v u _ I2 r1 r2 q2) fun d s3 ⟨z, H3, I3, r3, k, e, q3⟩ => ?_)) hm
 subst e;cases r3;refine BA ?_;cases k with
 |false=>
  obtain⟨k', e', q'⟩ := q3;cases e';exact ite_ff ⟨H3, I3, q'⟩
 |true=>
  refine ite_tt (test_last (thn (hc pI s3 σ H3 _ I3 q3) fun w' s4 ⟨z', H4, I4, r4, q4⟩ => thn (ho' pI s4 σ H4 y z' u w' _ I4 r2 r4 q4) fun d' s5 ⟨z2, H5, I5, r5, k2, e2, q5⟩ => ?_))
  subst e2;cases r5;exact BA ⟨H5, I5, q5⟩
noncomputable def NB(K : Fg)(x : V)(H : Hp)(k : An) : Prop:=
  match x with
  |.non => k = Ad
  |.bl b => k = b
  |.int i => k = (i != 0)
  |.str y => y.length <= sizeLine /\ k = ((y.length : Ae) != 0)
  |.byt y => y.size <= sizeLine /\ k = ((y.size : Ae) != 0)
  |.ref p => (∃ xs, SqL K H p xs /\ k = !xs.isEmpty) \/ (∃ xs, SqT K H p xs /\ k = !xs.isEmpty) \/ ∃ kvs, H p = Aa (.dK kvs) /\ k = !kvs.isEmpty
  |_ => AX
theorem PU{κ:Type}{kvs : Ab (κ × V)}{vs : Ab (κ × Ah)}(r : KV kvs vs) : (!vs.isEmpty) = !kvs.isEmpty := by
 cases r <;> rfl
theorem K4{its:Ab Ah}(r : AR xs its) : (!its.toArray.isEmpty) = !xs.isEmpty := by
 cases r <;> simp
theorem Gg : (sizeLine : Ag)<2 ^ 63 := by rw[Dz];decide
theorem S8 : Xo X (fun x H Q => ∃ k, NB X.K x H k /\ Q k H) := by
 intro pI s σ H x v Q I rx h;obtain⟨k, e, q⟩ := h;have hl := Gg;have hs : sizeLine = 16777216 := Dz;cases x with
 |non=>
  cases rx;have e' : k = Ad := e;subst e';exact truthy_none ⟨H, I, q⟩
 |bl b=>
  cases rx;have e' : k = b := e;subst e';exact BA ⟨H, I, q⟩
 |int i=>
  obtain⟨t, rfl⟩ := rx;have e' : k = (i != 0) := e;subst e';exact PySem.P.truthy_int ⟨H, I, q⟩
 |str y=>
  obtain⟨t, rfl⟩ := rx;obtain⟨hy, e'⟩ : y.length <= sizeLine /\ k = ((y.length : Ae) != 0) := e;subst e';exact PySem.P.truthy_str (by omega) ⟨H, I.tok _, q⟩
 |byt y=>
  obtain⟨t, rfl⟩ := rx;obtain⟨hy, e'⟩ : y.size <= sizeLine /\ k = ((y.size : Ae) != 0) := e;subst e';exact PySem.W.truthy_bytes (by omega) ⟨H, I.tok _, q⟩
 |ref p=>
  cases rx;have e' : (∃ xs, SqL X.K H p xs /\ k = !xs.isEmpty) \/ (∃ xs, SqT X.K H p xs /\ k = !xs.isEmpty) \/ ∃ kvs, H p = Aa (.dK kvs) /\ k = !kvs.isEmpty := e;rcases e' with ⟨xs, hx, e'⟩|⟨xs, hx, e'⟩|⟨kvs, hx, e'⟩
  ·subst e';obtain⟨its, r, pl, hz⟩ := I.list hx;have hlen := r.length;exact wpAny_truthy_list pl.isList (by simp only[AE];omega) ⟨H, I.tok _, by rw[K4 r];exact q⟩
  ·subst e';obtain⟨its, r, pl, hz⟩ := I.tuple hx;have hlen := r.length;exact truthy_tuple pl (by simp only[AE];omega) ⟨H, I.tok _, by rw[K4 r];exact q⟩
  ·subst e';obtain⟨hz, hS, vs, r, m⟩ : kvs.length <= sizeLine /\ (p==Cw) = Ad /\ ∃ vs, KV kvs vs /\ s.heap.DictOf (JC X.prog X.w) p vs := I.hok p _ hx;have hlen : kvs.length = vs.length := OI r;exact wpAny_truthy_dict hS m (by omega) ⟨H, I.tok _, by rw[PU r];exact q⟩
 |_ => exact(show AX from e).elim
theorem QA(ha : PE X a ta)(he : ∀ whole, Fh a X.env whole = (do let v <-whole;Fk a.pos;holding [v] (truthy v))):PT X a (fun σ H Q =>ta σ H fun x H' =>∃ k,NB X.K x H' k/\Q k H') := by
 intro pI s σ H Q I h;exact isTrue_plain (thn (ha pI s σ H _ I h) fun v s1 ⟨x, H1, I1, r1, q1⟩ => S8 pI s1 σ H1 x v Q I1 r1 q1) (he _)
theorem PN : OpR X (Bl .Add) (fun x y H Q => ∃ i j, x = .str i /\ y = .str j /\ i.length+j.length <= sizeLine /\ Q (.str (i++j)) H) := by
 intro pI s σ H x y v u Q I rx ry h;obtain⟨i, j, rfl, rfl, hz, q⟩ := h;obtain⟨t, rfl⟩ := rx;obtain⟨t', rfl⟩ := ry;exact add_str (fun t' tk => ⟨.str (i++j), H, I.tok _, ⟨_, rfl⟩, q⟩) hz
theorem GN{x:V}(r : AR [x] us) : ∃ u, us = [u] /\ A4 x u := by
 cases r with
 |cons r1 r2 => cases r2;exact⟨_, rfl, r1⟩
theorem JT{x:V}(r : AR [x, y] us) : ∃ u w', us = [u, w'] /\ A4 x u /\ A4 y w' := by
 cases r with
 |cons r1 r2=>
  cases r2 with
  |cons r3 r4 => cases r4;exact⟨_, _, rfl, r1, r3⟩
theorem Qt(hc : X.calm = Ac) : EW X (.builtin "max") (fun xs H Q => ∃ i j, xs = [.int i, .int j] /\ Q (.int (if j > i then j else i)) H) := by
 intro pI s σ H xs us Q I r h;obtain⟨i, j, rfl, q⟩ := h;obtain⟨u, w', rfl, ⟨t, rfl⟩, ⟨t', rfl⟩⟩ := JT r;refine max_two_ints (I.ok.hd hc) fun h' tk k => ⟨_, H, I.kept k, ?_, q⟩
 by_cases hj : j > i
 ·rw[AF hj, AF hj];exact⟨_, rfl⟩
 ·rw[AH hj, AH hj];exact⟨_, rfl⟩
theorem Qs(hc : X.calm = Ac) : EW X (.builtin "min") (fun xs H Q => ∃ i j, xs = [.int i, .int j] /\ Q (.int (if j<i then j else i)) H) := by
 intro pI s σ H xs us Q I r h;obtain⟨i, j, rfl, q⟩ := h;obtain⟨u, w', rfl, ⟨t, rfl⟩, ⟨t', rfl⟩⟩ := JT r;refine min_two_ints (I.ok.hd hc) fun h' tk k => ⟨_, H, I.kept k, ?_, q⟩
 by_cases hj : j<i
 ·rw[AF hj, AF hj];exact⟨_, rfl⟩
 ·rw[AH hj, AH hj];exact⟨_, rfl⟩
end
section
variable{prog : AC}{w : AJ}{A : AM}{E : Ah -> Ak -> Prop}{s : Ak}{K : Fg}{x dx C f : Ai}{mA : Aj -> Al Ah}{name : Aj}{v : Ah}
end
section
variable{P : AC}{w : AJ}{H H' : Hp}{h h' : AD}{a C dx : Ai}{fs fs' : Ab (Aj × V)}
end
section
variable{X : Cx}{pI : Ab (Ai × AB)}{σ : St}{H : Hp}{s : Ak}{a C dx : Ai}{fs : Ab (Aj × V)}{f : Aj}{v : V}{A : AM}{E : Ah -> Ak -> Prop}
end
section
variable{X : Cx}{o e value : Ao}{f : Aj}{pos pos' tpos : AI}{ta tv : TE}
end
section
variable{X : Cx}{pI : Ab (Ai × AB)}{σ : St}{H : Hp}{s : Ak}{A : AM}{E : Ah -> Ak -> Prop}{Q : Ah -> Ak -> Prop}{c : Ah}{b : An}
end
structure Room (k : Ag) (A : AM) : Prop where
 hd : A.handled = Af
 dp : A.depth+3*k+5<OX
 un : A.units+16*k+200<A6
 gd : A.guards = Aa []
theorem Room.mono{A : AM}(r : Room k A)(h : j <= k) : Room j A := ⟨r.hd, by have := r.dp;omega, by have := r.un;omega, r.gd⟩
theorem Room.deeper{A : AM}(r : Room (k+1) A)(env : BG) : Room k (A.deeper env):=
 ⟨r.hd, by have := r.dp;show A.depth+1+3*k+5<_;omega, by have := r.un;show A.units+3+16*k+200<_;omega, r.gd⟩
theorem Room.depth{A : AM}(r : Room k A) : A.depth<OX := by have := r.dp;omega
theorem Room.units{A : AM}(r : Room k A) : A.units+64<A6 := by have := r.un;omega
noncomputable def Xe : TA := fun _ H Q => Q [] H
noncomputable def VG(ta : TE)(tr : TA) : TA := fun σ H Q => ta σ H fun x H1 => tr σ H1 fun xs H2 => Q (x::xs) H2
section
variable{X : Cx}{e : Ao}{es : Ab Ao}{te : TE}{t : TA}{pos : AI}
theorem Gf : PA X [] Xe := fun _ _ _ _ H Q I h => Calls.spliced_nil ⟨[], H, I, .nil, h⟩
theorem EN(ha : PE X e te)(hr : PA X es t)(hs : At (e::es) X.env = (Ad, eval e X.env)::At es X.env := by rfl) : PA X (e::es) (VG te t) := by
 intro pos pI s σ H Q I h;rw[hs];show Ay _ _ (spliced ((Ad, eval e X.env)::BN pos (At es X.env))) _ _ s;refine Calls.spliced_cons (thn (ha pI s σ H _ I h) fun u s1 ⟨x, H1, I1, r1, q1⟩ => ?_)
 exact thn (hr pos pI s1 σ H1 _ I1 q1) fun us s2 ⟨xs, H2, I2, r2, q2⟩ => ⟨x::xs, H2, I2, .cons r1 r2, q2⟩
noncomputable def W9(t : TA) : TE := fun σ H Q => t σ H fun xs H1 => xs.length <= sizeLine /\ ∀ p, H1 p = Af -> Q (.ref p) (upd H1 p (.tup xs))
noncomputable def Xf(t : TA) : TE := fun σ H Q => t σ H fun xs H1 => xs.length <= sizeLine /\ ∀ p, H1 p = Af -> Q (.ref p) (upd H1 p (.lst xs))
theorem TU{x1}(h : PA X es t) : PE X (.Tuple es x1 pos) (W9 t) := by
 intro pI s σ H Q I hq;refine wpAny_Tuple_spliced (thn (h pos pI s σ H _ I hq) fun us s1 ⟨xs, H1, I1, r, z, q⟩ => ⟨by rw[<-r.length];exact z, ?_⟩)
 have hf : H1 s1.heap.objs.size = Af := I1.hok.fresh (AG _);refine⟨.ref s1.heap.objs.size, upd H1 s1.heap.objs.size (.tup xs), I1.laid (t' := s1.toks) (fun b u e => Aw _ e) (AG _) ?_, rfl, q _ hf⟩
 exact⟨z, us, r, ⟨_, Ba _ rfl, rfl, _, rfl⟩⟩
theorem TZ(h : PA X es t) : PE X (.List es pos) (Xf t) := by
 intro pI s σ H Q I hq;refine wpAny_List_spliced (thn (h pos pI s σ H _ I hq) fun us s1 ⟨xs, H1, I1, r, z, q⟩ => ⟨by rw[<-r.length];exact z, ?_⟩)
 have hf : H1 s1.heap.objs.size = Af := I1.hok.fresh (AG _);refine⟨.ref s1.heap.objs.size, upd H1 s1.heap.objs.size (.lst xs), I1.laid (t' := s1.toks) (fun b u e => Aw _ e) (AG _) ?_, rfl, q _ hf⟩
 exact⟨z, us, 0, r, Ba _ rfl⟩
end
noncomputable abbrev Sp := Ab V -> Hp -> VK -> XK -> Prop
variable{sp:Sp}
noncomputable abbrev CXT := Ab BG -> Hp -> Ak -> XK -> Ah -> Ak -> Prop
variable{CX:CXT}
structure Env0 (P : AC) (w : AJ) (K : Fg) (mg : Aj -> Al Ah) (base : AD) (A : AM) (outer : Ab BG) (s : Ak) (H : Hp) : Prop where
 frames : A.frames = Aa outer
 mod : Mod K mg base
 bs : ∀ b o, base.get? b = Aa o -> s.heap.get? b = Aa o /\ H b = Af
 bsz : base.objs.size <= s.heap.objs.size
 funs : s.heap.FunFrames base outer
 frf : ∀ b ∈ frs outer, H b = Af
 hok : HOk P w H s.heap
 bare : Do s.gens
noncomputable def CE(outer : Ab BG)(P : AC)(w : AJ)(H : Hp)(s : Ak)(Q : VK)(u : Ah)(s' : Ak) : Prop:=
 ∃ v H', s'.os = s.os /\ Do s'.gens /\ Un (frs outer) [] H H' s.heap s'.heap /\ HOk P w H' s'.heap /\ A4 v u /\ Q v H'
noncomputable def CR(CX : CXT)(outer : Ab BG)(P : AC)(w : AJ)(H : Hp)(s : Ak)(Q : VK)(E : XK)(r : Gr)(s' : Ak) : Prop:=
  match r with
  |.ok (.ret u) => CE outer P w H s Q u s'
  |.ok _ => AX
  |.error e => CX outer H s E e s'
structure FnOk (P : AC) (w : AJ) (K : Fg) (mg : Aj -> Al Ah) (base : AD) (CX : CXT) (k : Ag) (f : Ai) (fd : Bs) (ps : Ab Aj) (sp : Sp) : Prop where
 len : ∀ vs H Q E, sp vs H Q E -> vs.length = ps.length
 run : ∀(A : AM)(outer : Ab BG)(s : Ak)(H : Hp)(args : Args)(us : Ab Ah)(vs : Ab V)(Q : VK)(E : XK), Room k A -> Env0 P w K mg base A outer s H -> EC s fd args (ps.zip us) -> AR vs us -> sp vs H Q E ->
  Ec (model P w) A (.call (.ref f) args) (CR CX outer P w H s Q E) s
theorem FnOk.imp{w : AJ}{K : Fg}{mg : Aj -> Al Ah}{base : AD}{f:Ai}{sp':Sp}(F : FnOk P w K mg base CX k f fd ps sp)(h : ∀ vs H Q E, sp' vs H Q E -> sp vs H Q E) : FnOk P w K mg base CX k f fd ps sp':=
 ⟨fun vs H Q E q => F.len vs H Q E (h _ _ _ _ q), fun A outer s H args us vs Q E hr he hb hv hs => F.run A outer s H args us vs Q E hr he hb hv (h _ _ _ _ hs)⟩
section
variable{X : Cx}{pI : Ab (Ai × AB)}{σ : St}{H : Hp}{s s' : Ak}
theorem Inv.env0(I : Inv X pI σ H s) : Env0 X.prog X.w X.K X.mg X.base X.A X.stack s H:=
 ⟨I.ok.frames, I.ok.mod, I.bs, BL I.ok.bsz I.sz, I.stack, I.stkFree, I.hok, I.bare⟩
theorem Inv.after{Q:VK}(I : Inv X pI σ H s)(h : CE X.stack X.prog X.w H s Q u s') : EP X pI σ Q u s' := by
 obtain⟨v, H', os, bare, un, hok, r, q⟩ := h;obtain⟨hh, g, d, t, os'⟩ := s';obtain rfl : os' = s.os := os;exact⟨v, H', I.call (h' := hh) (g' := g) (d' := d) (t' := t) (ch := []) un hok bare (fun b z => absurd z (by simp)), r, q⟩
end
noncomputable def VH(sp : Sp)(dvs : Ab V)(E : XK)(t : TA) : TE := fun σ H Q => t σ H fun vs H1 => sp (vs++dvs) H1 Q E
noncomputable def EX(K : Fg)(fd : Bs)(ps : Ab Aj)(ds : Ab Ah) : Prop:=
 ∀(s : Ak)(us : Ab Ah), K.In s.heap -> (us++ds).length = ps.length -> EC s fd ⟨us, []⟩ (ps.zip (us++ds))
theorem EX.all{K : Fg}(h : ∀ us : Ab Ah, us.length = ps.length -> G3 fd ⟨us, []⟩ = pure (ps.zip us)) : EX K fd ps [] := fun s us _ hl => by
 rw[Cm]at hl ⊢;exact .of_eq (h us hl)
noncomputable def GH(CX : CXT)(X : Cx)(E : XK) : Prop := ∀(pI : Ab (Ai × AB))(σ : St)(H : Hp)(s : Ak)(e : Ah)(s' : Ak), Inv X pI σ H s -> CX X.stack H s E e s' -> X.xe e s'
section
variable{X : Cx}{CX : CXT}{k : Ag}{f C : Ai}{fd : Bs}{ps : Ab Aj}{sp : Sp}{dvs : Ab V}{ds : Ab Ah}{E : XK}{x m : Aj}{p pos apos : AI}{e o : Ao}{es : Ab Ao}{ta : TE}{t : TA}
theorem Um{Q:VK}(F : FnOk X.prog X.w X.K X.mg X.base CX k f fd ps sp)(hr : Room k X.A)(hb : EX X.K fd ps ds)(hd : AR dvs ds)(hx : GH CX X E)(I : Inv X pI σ H s)(r : AR vs us)(h : sp (vs++dvs) H Q E) : Ay (model X.prog X.w) X.A (call (.ref f) us) (EP X pI σ Q) X.xe s := by
 have r2 : AR (vs++dvs) (us++ds) := r.append hd;have hl : (us++ds).length = ps.length := by rw[<-r2.length];exact F.len _ _ _ _ h
 refine wpAny_call (FO (F.run X.A X.stack s H ⟨us, []⟩ (us++ds) (vs++dvs) Q E hr I.env0 (hb s us I.kIn hl) r2 h) fun r s' hq => ?_)
 cases r with
 |error e => exact hx pI σ H s e s' I hq
 |ok fl=>
  cases fl with
  |ret u => exact I.after hq
  |next => exact CM hq
  |brk => exact CM hq
  |cont => exact CM hq
theorem LW(F : FnOk X.prog X.w X.K X.mg X.base CX k f fd ps sp)(hr : Room k X.A)(hg : Gl X x)(hm : X.mg x = Aa (.ref f))(hk : Cd X.K (.ref f) = Ac)(hb : EX X.K fd ps ds)(hd : AR dvs ds)(hx : GH CX X E)(ha : PA X (e::es) t)(hdb : (x==("__debug__" : Aj)) = Ad := by decide)(he : At (e::es) X.env = (Ad, eval e X.env)::At es X.env := by rfl)(hpl : (BN pos (At es X.env)).any (·.1) = Ad := by rfl):PE X (.Call (.Name x p) (e::es) [] pos) (VH sp dvs E t) := by
 intro pI s σ H Q I h;refine El (R1 I hg hm ?_ hdb);refine PySem.W.callWith_K (h₀ := X.base) I.ok.mod.kin hk (thn (ha pos pI s σ H _ I h) fun us s1 ⟨vs, H1, I1, r, q⟩ => ⟨I1.kIn, ?_⟩) he hpl
 exact Um F hr hb hd hx I1 r q
end
section
variable{X : Cx}{CX : CXT}{k : Ag}{f C : Ai}{fd : Bs}{ps ks : Ab Aj}{sp : Sp}{E : XK}{x m : Aj}{p pos apos kpos : AI}{e o : Ao}{es : Ab Ao}{kws : Ab Ea}{te ta : TE}{t tk : TA}{nm : Al Aj}
variable{g : Ab Ah -> Ab Ah -> Ab Ah}{gV : Ab V -> Ab V -> Ab V}
end
structure FnScope (N P : Ab Aj) (sc : Bx) : Prop where
 kind : sc.kind = .function
 co : sc.isCoroutine = Ad
 gen : sc.isGenerator = Ad
 nd : N.Nodup
 pre : N.take P.length = P
 par : ∀ x ∈ P, sc.names.lookup x = Aa .local \/ sc.names.lookup x = Aa .cell
 nofree : ∀ y ∈ sc.names, y.2 ≠ .free
theorem LB{kindOf : Aj -> Al CD}{x : Aj} : ∀{binds : Ab (Aj × Ah)}{m : Aj -> Al Ah}, (∀ v, (x, v) ∉ binds) -> Fp kindOf binds m x = m x
 |[], _, _ => rfl
 |(n, v)::r, m, h => by
  unfold Fp;rw[LB fun w hw => h w (Ar _ hw)]
  split
  ·have : x ≠ n := by rintro rfl;exact h v Au
   simp[this]
  ·rfl
theorem LD{kindOf : Aj -> Al CD}{x : Aj} : ∀{binds : Ab (Aj × Ah)}{m : Aj -> Al Ah}, (∀ v, (x, v) ∉ binds) -> Fo kindOf binds m x = m x
 |[], _, _ => rfl
 |(n, v)::r, m, h => by
  unfold Fo;rw[LD fun w hw => h w (Ar _ hw)]
  split
  ·rfl
  ·have : x ≠ n := by rintro rfl;exact h v Au
   simp[this]
theorem LC{kindOf : Aj -> Al CD}{x : Aj}{v : Ah} :∀{P :Ab Aj}{vs :Ab Ah}{i :Ag}{m :Aj->Al Ah},P.Nodup->P[i]? = Aa x->vs[i]? = Aa v->kindOf x = Aa .local->Fp kindOf (P.zip vs) m x = Aa v
 |[], _, _, _, _, h, _, _ => by simp at h
 |_::_, [], _, _, _, _, h, _ => by simp at h
 |p::P, w::vs, 0, m, nd, h1, h2, hk => by
  simp at h1 h2;subst h1;subst h2;show Fp kindOf ((p, w)::P.zip vs) m p = _;unfold Fp;rw[LB fun v hv => (DQ.mp nd).1 (E0 hv).1, AF hk]
  simp
 |p::P, w::vs, i+1, m, nd, h1, h2, hk => by
  show Fp kindOf ((p, w)::P.zip vs) m x = _;unfold Fp;exact LC (i := i) (DQ.mp nd).2 (by simpa using h1) (by simpa using h2) hk
theorem LF{kindOf : Aj -> Al CD}{x : Aj}{v : Ah} :∀{P :Ab Aj}{vs :Ab Ah}{i :Ag}{m :Aj->Al Ah},P.Nodup->P[i]? = Aa x->vs[i]? = Aa v->kindOf x ≠ Aa .local->Fo kindOf (P.zip vs) m x = Aa v
 |[], _, _, _, _, h, _, _ => by simp at h
 |_::_, [], _, _, _, _, h, _ => by simp at h
 |p::P, w::vs, 0, m, nd, h1, h2, hk => by
  simp at h1 h2;subst h1;subst h2;show Fo kindOf ((p, w)::P.zip vs) m p = _;unfold Fo;rw[LD fun v hv => (DQ.mp nd).1 (E0 hv).1, AH hk]
  simp
 |p::P, w::vs, i+1, m, nd, h1, h2, hk => by
  show Fo kindOf ((p, w)::P.zip vs) m x = _;unfold Fo;exact LF (i := i) (DQ.mp nd).2 (by simpa using h1) (by simpa using h2) hk
noncomputable def start(N : Ab Aj)(vs : Ab V) : St := vs.map Aa++D9 (N.length-vs.length) Af
noncomputable def Ef(CX : CXT)(P : AC)(w : AJ)(K : Fg)(mg : Aj -> Al Ah)(base : AD)(N : Ab Aj)(qual : Aj)(scope : Bx)(f : Ai)(cd : Ah)(A : AM)(outer : Ab BG)(s : Ak)(H : Hp)(E : XK) : Cx where
 prog := P
 w := w
 K := K
 mg := mg
 base := base
 A := A.deeper (C4 qual scope s.heap.objs.size f cd)
 N := N
 s₀ := s
 H₀ := H
 env := C4 qual scope s.heap.objs.size f cd
 outer := outer
 stack := C4 qual scope s.heap.objs.size f cd::outer
 ex := []
 calm := Ac
 fn := fun _ => Ac
 pn := []
 xe := fun e s' => Ay (model P w) (A.deeper (C4 qual scope s.heap.objs.size f cd)) (leaving (C4 qual scope s.heap.objs.size f cd) e) (fun _ s'' => CX outer H s E e s'') (fun e' s'' => CX outer H s E e' s'') s'
theorem Li{sc:Bx}(h : sc.names.lookup x = Aa .cell) : ∃ c, (B1 n sc.names []).lookup x = Aa c := by
 have q := OR sc.names n [] (.inl h);exact Option.isSome_iff_exists.mp q
theorem Qm{w : AJ}{K : Fg}{mg : Aj -> Al Ah}{base : AD}{N ps : Ab Aj}{f:Ai}{cd:Ah}{A : AM}{outer : Ab BG}{s1:Ak}{E : XK}(S : FnScope N ps scope)(hd : A.handled = Af)(e0 : Env0 P w K mg base A outer s H)(hl : vs.length = ps.length)(r : AR vs us)(x : InCallC s s.heap.objs.size (Fp (C4 qual scope s.heap.objs.size f cd).kindOf (ps.zip us) fun _ => Af) (B1 (s.heap.objs.size+1) scope.names []) (Fo (C4 qual scope s.heap.objs.size f cd).kindOf (ps.zip us) fun _ => Af) s1):Inv (Ef CX P w K mg base N qual scope f cd A outer s H E) [] (start N vs) H s1 := by
 have hpl : ps.length <= N.length := by have := congrArg Oa S.pre;rw[EI]at this;omega
 obtain⟨h1, tk, rfl, hk⟩ := x.done;have noA : ∀ b : Ai, b ∉ (Ef CX P w K mg base N qual scope f cd A outer s H E).ex := fun b z => absurd (show b ∈ ([] : Ab Ai) from z) (by simp)
 refine⟨⟨e0.mod, S.kind, rfl, rfl, AG _, fun y z c h1 h2 => ?_, fun y hy => ?_, fun y c _ h => ?_, fun _ => hd, Around.frames_deeper e0.frames, .inr ⟨rfl, rfl⟩, fun b z => absurd z (noA b), e0.bs, e0.bsz, fun b _ _ => noA b, fun b z => absurd z (noA b), e0.funs, e0.frf⟩,
  rfl, e0.bare, Un.kept hk, ⟨_, x.toInCall.ns, fun i y v h1 h2 h3 => ?_⟩, fun y c h => ⟨_, x.cell y c h⟩, e0.hok.fresh (AG _), fun y c h => ?_, fun p hp => absurd (show p ∈ ([] : Ab (Ai × AB)) from hp) (by simp), e0.hok.kept hk, ?_⟩
 ·exact name_of_addr x.apart (BB h1) (BB h2)
 ·have hy : scope.names.lookup y = Aa .cell \/ scope.names.lookup y = Aa .free := hy;rcases hy with hy|hy
  ·exact Li hy
  ·exact absurd rfl (S.nofree _ (BB hy))
 ·exact DS (x.above y c (BB h))
 ·have hi : i<vs.length := by
   unfold start at h2;by_cases hi : i<vs.length
   ·exact hi
   ·rw[N8 (by simpa using hi)]at h2
    rw[N9]at h2;split at h2 <;> cases h2
  have ha : vs[i]? = Aa v := by
   unfold start at h2;rw[Di (by simpa using hi), CQ]at h2
   cases e : vs[i]? with
   |none => rw[e]at h2;cases h2
   |some a => rw[e]at h2;cases h2;rfl
  obtain⟨u, hu, rv⟩ := r.get ha;have hp : ps[i]? = Aa y := by
   rw[<-S.pre, List.getElem?_take_of_lt (by omega)];exact h1
  have ndP : ps.Nodup := by rw[<-S.pre];exact S.nd.sublist (List.take_sublist _ _)
  refine⟨u, rv, ?_⟩;rcases S.par y (Og hp) with k|k
  ·exact .inl ⟨k, LC ndP hp hu k⟩
  ·obtain⟨c, e⟩ := Li (n := s.heap.objs.size+1) k;refine .inr ⟨.inl k, c, e, ?_⟩;have q := x.cell y c e;rw[LF ndP hp hu (by show scope.names.lookup y ≠ _;rw[k];decide)]at q
   exact q
 ·exact e0.hok.fresh (DS (x.above y c (BB h)))
 ·unfold start;show _ = N.length;rw[Ci, B6, Oc];omega
theorem M1{w : AJ}{K : Fg}{mg : Aj -> Al Ah}{base : AD}{f:Ai}{name:Aj}{params:Arguments}{dV kV doc pm cdv ct oc : Ah}{an od:Al Ai}{osl:A8 (Al Ah)}{N ps : Ab Aj}(lk : K.lookup f = Aa ⟨oc, od, .func (CF name qual params body scope dV kV doc pm an cdv ct), osl⟩)(hcd : Eb K cdv qual = Ac)(S : FnScope N ps scope)(len : ∀ vs H Q E, sp vs H Q E -> vs.length = ps.length)(hbody : ∀(A : AM)(outer : Ab BG)(s : Ak)(H : Hp)(vs : Ab V)(Q : VK)(E : XK), Room k (A.deeper (C4 qual scope s.heap.objs.size f cdv)) -> sp vs H Q E ->
   ∃ t, PSs (Ef CX P w K mg base N qual scope f cdv A outer s H E) body t /\ t {nx := fun _ H' => Q .non H', rt := Q} (start N vs) H):FnOk P w K mg base CX (k+1) f (CF name qual params body scope dV kV doc pm an cdv ct) ps sp := by
 refine⟨len, fun A outer s H args us vs Q E hr e0 hb r hsp => ?_⟩
 have hl := len _ _ _ _ hsp;have KX : K.In s.heap := e0.mod.kin.keeps fun b o e => (e0.bs b o e).1
 have lim : s.heap.NoLimit := e0.mod.nolimit.keeps fun b o e => (e0.bs b o e).1
 have hkind : ∀ y ∈ ps.zip us, scope.names.lookup y.1 = Aa .local \/ (scope.names.lookup y.1 = Aa .cell /\ ((B1 (s.heap.objs.size+1) scope.names []).lookup y.1).isSome = Ac) := fun ⟨n, v⟩ hy => by
  rcases S.par n (E0 hy).1 with q|q
  ·exact .inl q
  ·exact .inr ⟨q, OR _ _ _ (.inl q)⟩
 refine codeAny_call_function hr.depth (KX _ _ lk) rfl S.co S.gen rfl (PySem.W.codeRec_of KX hcd) (hb _ _ _ _ ?_);refine wpAny_newFunctionEnv_cells S.kind hkind fun env he s1 x => ?_
 subst he;refine⟨lim.keeps x.toInCall.keep, codeAny_func ?_⟩;obtain⟨t, ht, hq⟩ := hbody A outer s H vs Q E (hr.deeper _) hsp;have I : Inv (Ef CX P w K mg base N qual scope f cdv A outer s H E) [] (start N vs) H s1 := Qm S hr.hd e0 hl r x;refine Bz (ht [] s1 (start N vs) H _ I hq) (fun fl s' hs => ?_) fun e s' hs => hs
 have fin : ∀{σ' : St}{H' : Hp}{v : V}{u : Ah}, Inv (Ef CX P w K mg base N qual scope f cdv A outer s H E) [] σ' H' s' -> A4 v u -> Q v H' -> CE outer P w H s Q u s':=
  fun {σ' H' v u} J rv q => ⟨v, H', J.os, J.bare, J.base, J.hok, rv, q⟩
 cases fl with
 |ret u=>
  obtain⟨v, σ', H', J, rv, q⟩ := hs;exact fin J rv q
 |next=>
  obtain⟨σ', H', J, q⟩ := hs;exact fin (v := V.non) (u := CP) J rfl q
 |brk=>
  obtain⟨_, _, _, q⟩ := hs;exact CM q
 |cont=>
  obtain⟨_, _, _, q⟩ := hs;exact CM q
section
variable{X : Cx}{x : Aj}{p pos : AI}{e : Ao}{es : Ab Ao}{t : TA}{id T : Cc}{r : Ab V -> Hp -> VK -> Prop}
noncomputable def tCB(r : Ab V -> Hp -> VK -> Prop)(t : TA) : TE := fun σ H Q => t σ H fun vs H1 => r vs H1 Q
theorem Lq(hc : EW X (.builtin id) r)(hg : Gl X x)(hm : X.mg x = Af)(hv : BW x = Aa (.builtin id))(ha : PA X (e::es) t)(hn : x ≠ "__name__" := by decide)(hdb : (x==("__debug__" : Aj)) = Ad := by decide)(he : At (e::es) X.env = (Ad, eval e X.env)::At es X.env := by rfl)(hpl : (BN pos (At es X.env)).any (·.1) = Ad := by rfl) : PE X (.Call (.Name x p) (e::es) [] pos) (tCB r t) := by
 intro pI s σ H Q I h;refine El (Hh I hg hm hv ?_ hn hdb);exact PyProof.Rows.callWith_builtin1 (thn (ha pos pI s σ H _ I h) fun us s1 ⟨vs, H1, I1, r1, q1⟩ => hc pI s1 σ H1 vs us Q I1 r1 q1) he hpl
theorem KJ(hc : EW X (.type T) r)(hg : Gl X x)(hm : X.mg x = Af)(hv : BW x = Aa (.type T))(ha : PA X (e::es) t)(hn : x ≠ "__name__" := by decide)(hdb : (x==("__debug__" : Aj)) = Ad := by decide)(he : At (e::es) X.env = (Ad, eval e X.env)::At es X.env := by rfl)(hpl : (BN pos (At es X.env)).any (·.1) = Ad := by rfl) : PE X (.Call (.Name x p) (e::es) [] pos) (tCB r t) := by
 intro pI s σ H Q I h;refine El (Hh I hg hm hv ?_ hn hdb);exact CZ (thn (ha pos pI s σ H _ I h) fun us s1 ⟨vs, H1, I1, r1, q1⟩ => hc pI s1 σ H1 vs us Q I1 r1 q1) he hpl
end
end L2
namespace HT
open PySem PyProof.Rows
variable{t sl:Ai}{Q:Ah -> Ak -> Prop}{vl vu:Ah}{lo hi:Al Ae}
section
open PySem.SeqAt
open PySem.AutoSeq1 (wpAny_loadPart')
open PySem.MeetsSeq PySem.MeetsSeq2 PySem.MeetsSeq3
end
section
variable{prog : AC}{w : AJ}{A : AM}{E : Ah -> Ak -> Prop}{s : Ak}
theorem cat_tup{b:Ai}{vs ws:Ab Ah}(ht : Gq s.heap t vs.toArray)(hb : Gq s.heap b ws.toArray)(hv : vs ≠ [])(h1 : ws = [] -> Q (.ref t) s)(h2 : ws ≠ [] -> Q (.ref s.heap.objs.size) { s with heap := s.heap.push { cls := .type "tuple", data := .seq (vs++ws).toArray } })(hsz : vs.length+ws.length <= sizeLine) : Ay (model prog w) A (Bl .Add (.ref t) (.ref b)) Q E s := by
 obtain⟨⟨cls, dd, data, sl⟩, ho, hc, n, hd⟩ := id ht;obtain⟨⟨cls2, dd2, data2, sl2⟩, ho2, hc2, n2, hd2⟩ := id hb;simp only at hc hd hc2 hd2;subst hc hd hc2 hd2;have e : vs.toArray++ws.toArray = (vs++ws).toArray := by simp
 by_cases hw : ws = []
 ·exact FP ⟨_, ho, rfl⟩ ⟨_, ho2, rfl⟩ OW seq_tuple_add OG OE (OD _ _)
   (tuple_addW1 t b vs.toArray ws.toArray n n2 dd dd2 sl sl2 (by simpa using hv) (by simp[hw])) ⟨ho, ho2, h1 hw⟩
 ·refine FP ⟨_, ho, rfl⟩ ⟨_, ho2, rfl⟩ OW seq_tuple_add OG OE (OD _ _)
   (tuple_addW2 t b vs.toArray ws.toArray n n2 dd dd2 sl sl2 (by simpa using hv) (by simpa using hw) (by rw[AE, AE];exact hsz)) ⟨ho, ho2, ?_⟩
  rw[e];exact h2 hw
noncomputable def sIx(n d : Ag) : Al Ae -> Ag
 |none => d
 |some v => if v<0 then (v+(n : Ae)).toNat else min v.toNat n
theorem Uk(n d : Ag)(hd : d <= n)(o : Al Ae) : sIx n d o <= n := by
 cases o with
 |none => exact hd
 |some v=>
  show (if v<0 then (v+(n : Ae)).toNat else min v.toNat n) <= n
  by_cases hv : v<0
  ·rw[AF hv];omega
  ·rw[AH hv];exact Nat.min_le_right _ _
theorem Me(v : Ae)(n d : Ag) : (if v<0 then max (v+(n : Ae)) 0 else min v (n : Ae)) = ((sIx n d (Aa v) : Ag) : Ae) := by
 show (if v<0 then max (v+(n : Ae)) 0 else min v (n : Ae)) = (((if v<0 then (v+(n : Ae)).toNat else min v.toNat n) : Ag) : Ae)
 by_cases hv : v<0
 ·simp only[AF hv];omega
 ·simp only[AH hv];omega
theorem PZ(lo hi : Al Ae)(n : Ag) : Dk lo hi 1 (n : Ae) = (((sIx n 0 lo : Ag) : Ae), ((sIx n n hi : Ag) : Ae)) := by
 have h1 : ¬ ((1 : Ae)<0) := by omega
 unfold Dk;simp only[h1, Hw];refine Cp ?_ ?_
 ·cases lo with
  |none => rfl
  |some v => exact Me v n 0
 ·cases hi with
  |none => rfl
  |some v => exact Me v n n
theorem PM(i j : Ag) : Cv (i : Ae) (j : Ae) 1 = j-i := by
 unfold Cv;have h1 : (1 : Ae) > 0 := by omega
 simp only[h1, Fm, Int.ediv_one];split <;> omega
theorem K0{v:Ah}{o:Al Ae}{Q:Al Ae -> Ak -> Prop}(p : EJ v o)(h : Q o s) : Ay (model prog w) A (Builtin.Slice.slicePartIndex v) Q E s := by
 cases p with
 |none => exact Ox h
 |int i t => exact slicePart_int h
theorem Pa{n:Ag}{Q:Ae × Ae × Ag -> Ak -> Prop}(hs : s.heap.IsSliceOf sl vl vu .none)(pl : EJ vl lo)(pu : EJ vu hi)(h : Q (((sIx n 0 lo : Ag) : Ae), 1, sIx n n hi-sIx n 0 lo) s) : Ay (model prog w) A (OA (.ref sl) (pure (n : Ae))) Q E s := by
 obtain⟨os, hos, hcs, hds⟩ := id hs;unfold OA Builtin.Slice.sliceFields;refine Aq (Aq (Da hos hds (x := vl) rfl (Aq (Da hos hds (x := vu) rfl (Aq (Da hos hds (x := .none) rfl (AK ?_)))))));refine Aq (Ox ?_);show Ay _ _ (if ((1 : Ae)==0) = Ac then _ else _) _ _ s
 rw[AH (by decide)]
 refine Aq (K0 pl (Aq (K0 pu (Aq (AK ?_)))));show Ay _ _ (match Dk lo hi 1 (n : Ae) with|(lo, hi) => pure (lo, (1 : Ae), Cv lo hi 1)) _ _ s
 rw[PZ lo hi n];show Ay _ _ (pure (((sIx n 0 lo : Ag) : Ae), (1 : Ae), Cv ((sIx n 0 lo : Ag) : Ae) ((sIx n n hi : Ag) : Ae) 1)) _ _ s;rw[PM];exact AK h
theorem QD(xs : A8 Ah)(i k : Ag) : ((B7 k).filterMap fun(m : Ag) => xs[((i : Ae)+(m : Ae)*1).toNat]?).toArray = ((xs.toList.drop i).take k).toArray := by
 have e : (fun(m : Ag) => xs[((i : Ae)+(m : Ae)*1).toNat]?) = fun m => xs[i+m]? := by
  funext m
  have : ((i : Ae)+(m : Ae)*1).toNat = i+m := by omega
  rw[this]
 rw[e];have := pick_run xs i k;rw[List.filterMap_map]at this;have e2 : ((fun x => xs[x]?) ∘ fun x => i+x) = fun m => xs[i+m]? := rfl
 rw[e2]at this;rw[this]
theorem getItem_tuple_cut{items:A8 Ah}(ht : Gq s.heap t items)(hs : s.heap.IsSliceOf sl vl vu .none)(pl : EJ vl lo)(pu : EJ vu hi)(hw : ¬ (sIx items.size 0 lo = 0 /\ sIx items.size items.size hi = items.size))(h : Q (.ref s.heap.objs.size) { s with heap := s.heap.push { cls := .type "tuple", data := .seq ((items.toList.drop (sIx items.size 0 lo)).take (sIx items.size items.size hi-sIx items.size 0 lo)).toArray } })(hsz : items.size <= sizeLine) : Ay (model prog w) A (F1 (.ref t) (.ref sl)) Q E s := by
 have htake : sizeOk (.seq ((items.toList.drop (sIx items.size 0 lo)).take (sIx items.size items.size hi-sIx items.size 0 lo)).toArray) := by
  show ((items.toList.drop (sIx items.size 0 lo)).take (sIx items.size items.size hi-sIx items.size 0 lo)).toArray.size <= sizeLine;rw[AE, EI, Ob, Db];omega
 have hj : sIx items.size items.size hi <= items.size := Uk _ _ (AG _) hi;obtain⟨os, hos, hcs, hds⟩ := id hs;have hTs : s.TypeIs (.ref sl) "slice" := ⟨os, hos, hcs⟩;unfold F1
 try with_reducible refine C5 ?_
 first|refine Aq (AK ?_)|skip
 refine Aq (wpAny_sequenceKey ht.typeIs (by decide) ?_)
 refine Aq (O0 (name := CU "__getitem__") ht.typeIs Oy
  (wpAny_call_entry Oy ht.typeIs entry_tuple_getitem ?_ (args_tuple_getitem _ _)))
 show Ay _ _ (Builtin.Tuple.tupleItemsOf (.ref t) >>= _) _ _ s;refine Aq (tupleItemsOf_ ht ?_);refine Aq (wpAny_typeOf hTs ?_);rw[AF (by decide)]
 refine Aq (Pa hs pl pu ?_);have hno : ¬ ((((sIx items.size 0 lo : Ag) : Ae)==0&&(1 : Ae)==1&&(sIx items.size items.size hi-sIx items.size 0 lo)==items.size) = Ac) := by
  intro q;rw[Am, Am]at q;have q1 : ((sIx items.size 0 lo : Ag) : Ae) = 0 := eq_of_beq q.1.1;have q2 : sIx items.size items.size hi-sIx items.size 0 lo = items.size := eq_of_beq q.2;exact hw ⟨by omega, by omega⟩
 show Ay _ _ (if (((sIx items.size 0 lo : Ag) : Ae)==0&&(1 : Ae)==1&&(sIx items.size items.size hi-sIx items.size 0 lo)==items.size) = Ac then _ else _) _ _ s
 rw[AH hno, QD]
 first
  |exact Aq (m := CC _) (Ct (AK ⟨_, rfl, AK h⟩) htake)
  |exact Aq (m := CC _) (Ct (Aq (AK (AK ⟨_, rfl, AK h⟩))) htake)
  |exact Aq (Aq (m := CC _) (Ct (AK (AK ⟨_, rfl, AK h⟩)) htake))
  |exact Aq (Aq (m := CC _) (Ct (AK ⟨_, rfl, AK h⟩) htake))
end
end HT
namespace L2
open PySem PySem.Spec PyProof.Rows
variable{xs:Ab V}{us its its':Ab Ah}{n t':Ag}{i:Ae}{pI:Ab (Ai × AB)}{σ:St}{H:Hp}{s:Ak}{p:Ai}
noncomputable abbrev TO := St -> Hp -> (Al Ae -> Hp -> Prop) -> Prop
noncomputable def PO(X : Cx)(e : Al Ao)(t : TO) : Prop:=
 ∀(pI : Ab (Ai × AB))(s : Ak)(σ : St)(H : Hp)(Q : Al Ae -> Hp -> Prop), Inv X pI σ H s -> t σ H Q ->
  Ay (model X.prog X.w) X.A (evalPart e X.env) (fun u s' => ∃ o H', Inv X pI σ H' s' /\ EJ u o /\ Q o H') X.xe s
noncomputable def RM : TO := fun _ H Q => Q Af H
noncomputable def VC(t : TE) : TO := fun σ H Q => t σ H fun x H1 => ∃ i, x = .int i /\ Q (Aa i) H1
section
variable{X : Cx}{e : Ao}{te : TE}{lo hi : Al Ao}{tl th : TO}{pos p2 : AI}
theorem Sr : PO X Af RM := by
 intro pI s σ H Q I h;rw[evalPart_none];exact AK ⟨Af, H, I, .none, h⟩
theorem Sq(h : PE X e te) : PO X (Aa e) (VC te) := by
 intro pI s σ H Q I hw;rw[evalPart_some];refine thn (h pI s σ H _ I hw) fun u s1 ⟨x, H1, I1, r1, q1⟩ => ?_
 obtain⟨i, rfl, q⟩ := q1;obtain⟨t, rfl⟩ := r1;exact⟨Aa i, H1, I1, .int i t, q⟩
noncomputable def SlR(X : Cx)(r : V -> Al Ae -> Al Ae -> Hp -> VK -> Prop) : Prop:=
 ∀(pI : Ab (Ai × AB))(s : Ak)(σ : St)(H : Hp)(x : V)(v vl vu : Ah)(lo hi : Al Ae)(sl : Ai)(Q : VK), Inv X pI σ H s -> A4 x v -> s.heap.IsSliceOf sl vl vu .none -> EJ vl lo -> EJ vu hi -> r x lo hi H Q ->
  ∃ T id, typeLookup (.type T) "__getitem__" = pure (Aa (.builtin id)) /\ s.TypeIs v T /\ Ay (model X.prog X.w) X.A (F1 v (.ref sl)) (EP X pI σ Q) X.xe s
noncomputable def tSl(r : V -> Al Ae -> Al Ae -> Hp -> VK -> Prop)(te : TE)(tl th : TO) : TE := fun σ H Q => te σ H fun x H1 => tl σ H1 fun l H2 => th σ H2 fun u H3 => r x l u H3 Q
theorem QF{r:V -> Al Ae -> Al Ae -> Hp -> VK -> Prop}(hr : SlR X r)(he : PE X e te)(hl : PO X lo tl)(hu : PO X hi th) : PE X (.Subscript e (.Slice lo hi Af p2) pos) (tSl r te tl th) := by
 intro pI s σ H Q I h;refine Subscript_ (thn (he pI s σ H _ I h) fun v s1 ⟨x, H1, I1, r1, q1⟩ => ?_)
 refine wpAny_Slice (thn (hl pI s1 σ H1 _ I1 q1) fun vl s2 ⟨l, H2, I2, pl, q2⟩ => thn (hu pI s2 σ H2 _ I2 q2) fun vu s3 ⟨u, H3, I3, pu, q3⟩ => ?_)
 rw[evalPart_none];refine AK ?_;have I4 : Inv X pI σ H3 { s3 with heap := s3.heap.push { cls := .type "slice", data := .fields #[vl, vu, .none] } } := I3.kept (t' := s3.toks) fun b ob q => Aw _ q
 obtain⟨T, id, hT, ht, hg⟩ := hr pI { s3 with heap := s3.heap.push { cls := .type "slice", data := .fields #[vl, vu, .none] } } σ H3 x v vl vu l u s3.heap.objs.size Q I4 r1 (Heap.IsSliceOf.new ..) pl pu q3
 show Ay (model X.prog X.w) X.A (subscriptTail e (.Slice lo hi Af p2) v (.ref s3.heap.objs.size)) (EP X pI σ Q) X.xe { s3 with heap := s3.heap.push { cls := .type "slice", data := .fields #[vl, vu, .none] } }
 exact tail_any (ops := [.ref s3.heap.objs.size, v]) ht hT hg (by with_unfolding_all rfl)
noncomputable def FY(xs : Ab V)(lo hi : Al Ae) : Ab V := (xs.drop (HT.sIx xs.length 0 lo)).take (HT.sIx xs.length xs.length hi-HT.sIx xs.length 0 lo)
theorem KA(xs : Ab V)(lo hi : Al Ae) : (FY xs lo hi).length <= xs.length := by
 unfold FY;rw[EI, Ob];omega
noncomputable def Nc(K : Fg) : V -> Al Ae -> Al Ae -> Hp -> VK -> Prop := fun x lo hi H Q => ∃ a xs, x = .ref a /\ SqT K H a xs /\
 ¬ (HT.sIx xs.length 0 lo = 0 /\ HT.sIx xs.length xs.length hi = xs.length) /\ ∀ p, H p = Af -> Q (.ref p) (upd H p (.tup (FY xs lo hi)))
theorem S6 : SlR X (Nc X.K) := by
 intro pI s σ H x v vl vu lo hi sl Q I rx hs pl pu h;obtain⟨a, xs, rfl, hx, hw, q⟩ := h;cases rx;obtain⟨its, r, ht, hz⟩ := I.tuple hx;have hlen : its.toArray.size = xs.length := by rw[AE];exact r.length.symm
 refine⟨"tuple", _, PyProof.Rows.slot_tuple_getitem.lookup, ht.typeIs, ?_⟩;refine HT.getItem_tuple_cut ht hs pl pu (by rw[hlen];exact hw) ?_ (by rw[hlen];exact hz)
 rw[hlen];refine⟨.ref s.heap.objs.size, _, I.laid (t' := s.toks) (o := .tup (FY xs lo hi)) (fun b ob q => Aw _ q) (AG _) ?_, rfl, q _ (I.hok.fresh (AG _))⟩
 exact⟨BL (KA xs lo hi) hz, _, (r.drop (HT.sIx xs.length 0 lo)).take (HT.sIx xs.length xs.length hi-HT.sIx xs.length 0 lo), GX _ _⟩
noncomputable def VV(K : Fg) : R2 := fun x y H Q => ∃ a b xs ys, x = .ref a /\ y = .ref b /\ SqT K H a xs /\ SqT K H b ys /\ xs ≠ [] /\ xs.length+ys.length <= sizeLine /\
 (ys = [] -> Q (.ref a) H) /\ (ys ≠ [] -> ∀ p, H p = Af -> Q (.ref p) (upd H p (.tup (xs++ys))))
theorem AR.nil_iff(r : AR xs us) : us = [] ↔ xs = [] := by
 cases r with
 |nil => simp
 |cons _ _ => simp
theorem SN : OpR X (Bl .Add) (VV X.K) := by
 intro pI s σ H x y v u Q I rx ry h;obtain⟨a, b, xs, ys, rfl, rfl, ha, hb, hx, hz, q1, q2⟩ := h;cases rx;cases ry;obtain⟨its, r1, p1, _⟩ := I.tuple ha;obtain⟨its2, r2, p2, _⟩ := I.tuple hb;refine HT.cat_tup p1 p2 (fun z => hx (r1.nil_iff.mp z)) (fun z => ⟨.ref a, H, I, rfl, q1 (r2.nil_iff.mp z)⟩) (fun z => ?_) (by rw[<-r1.length, <-r2.length];exact hz)
 refine⟨.ref s.heap.objs.size, _, I.laid (t' := s.toks) (o := .tup (xs++ys)) (fun b ob q => Aw _ q) (AG _) ?_, rfl, q2 (fun w => z (r2.nil_iff.mpr w)) _ (I.hok.fresh (AG _))⟩
 exact⟨by rw[Ci];exact hz, _, r1.append r2, GX _ _⟩
end
noncomputable def ixN(n : Ag)(i : Ae) : Al Ag := if 0 <= i then (if i<n then Aa i.toNat else Af) else if -(n : Ae) <= i then Aa (i+n).toNat else Af
noncomputable def atI{α : Type}(xs : Ab α)(i : Ae) : Al α := (ixN xs.length i).bind fun j => xs[j]?
theorem L5{j:Ag}(h : ixN n i = Aa j) : seqIndex? i n = Aa j /\ j<n /\ -(n : Ae) <= i /\ i<n := by
 unfold ixN at h;by_cases h0 : 0 <= i
 ·rw[AF h0]at h;by_cases h1 : i<n
  ·rw[AF h1]at h;have e : i.toNat = j := BU h;exact⟨by rw[F7 h0 h1, e], by omega, by omega, h1⟩
  ·rw[AH h1]at h;cases h
 ·rw[AH h0]at h;by_cases h1 : -(n : Ae) <= i
  ·rw[AF h1]at h;have e : (i+n).toNat = j := BU h;exact⟨by rw[FS (by omega) h1, e], by omega, h1, by omega⟩
  ·rw[AH h1]at h;cases h
theorem L0{α:Type}{xs : Ab α}{v : α}(h : atI xs i = Aa v) : ∃ j, seqIndex? i xs.length = Aa j /\ xs[j]? = Aa v /\ j<xs.length /\ -(xs.length : Ae) <= i /\ i<xs.length := by
 unfold atI at h;cases e : ixN xs.length i with
 |none => rw[e]at h;cases h
 |some j=>
  rw[e]at h;obtain⟨h1, h2, h3, h4⟩ := L5 e;exact⟨j, h1, h, h2, h3, h4⟩
noncomputable def Jz(b : Ao) : Prop := ∀ o i, subscripted b Ad o i = operate [o, i] (F1 o i)
noncomputable def IxR(X : Cx)(r : R2) : Prop:=
 ∀(value slice : Ao)(pI : Ab (Ai × AB))(s : Ak)(σ : St)(H : Hp)(x y : V)(v u : Ah)(Q : VK), Inv X pI σ H s -> A4 x v -> A4 y u -> r x y H Q ->
  subscripted slice Ad v u = operate [v, u] (F1 v u) -> Ay (model X.prog X.w) X.A (subscriptTail value slice v u) (EP X pI σ Q) X.xe s
noncomputable def MtR(X : Cx)(id : Cc)(r : V -> Ab V -> Hp -> VK -> Prop) : Prop:=
 ∀(pI : Ab (Ai × AB))(s : Ak)(σ : St)(H : Hp)(x : V)(xs : Ab V)(v : Ah)(us : Ab Ah)(Q : VK), Inv X pI σ H s -> A4 x v -> AR xs us -> r x xs H Q ->
  Ay (model X.prog X.w) X.A (call (.builtin id) (v::us)) (EP X pI σ Q) X.xe s
section
variable{X : Cx}{a b : Ao}{ta tb : TE}{pos : AI}
theorem IxR.or{r r':R2}(h : IxR X r)(h' : IxR X r') : IxR X (fun x y H Q => r x y H Q \/ r' x y H Q) := by
 intro value slice pI s σ H x y v u Q I rx ry q hs;rcases q with q|q
 ·exact h value slice pI s σ H x y v u Q I rx ry q hs
 ·exact h' value slice pI s σ H x y v u Q I rx ry q hs
theorem V2{r:R2}(hr : IxR X r)(ha : PE X a ta)(hb : PE X b tb)(hs : Jz b) : PE X (.Subscript a b pos) (tOp r ta tb) := by
 intro pI s σ H Q I h;exact Subscript_ (Kk ha hb I h fun v u s2 x y H2 I2 rx ry q => hr a b pI s2 σ H2 x y v u Q I2 rx ry q (hs _ _))
noncomputable def NH(K : Fg) : R2 := fun x y H Q => ∃ p xs i v, x = .ref p /\ y = .int i /\ SqL K H p xs /\ atI xs i = Aa v /\ Q v H
noncomputable def NG(K : Fg) : R2 := fun x y H Q => ∃ p xs i v, x = .ref p /\ y = .int i /\ SqT K H p xs /\ atI xs i = Aa v /\ Q v H
theorem R6 : IxR X (NH X.K) := by
 intro value slice pI s σ H x y v u Q I rx ry h hs;obtain⟨p, xs, i, z, rfl, rfl, hq, he, q⟩ := h;cases rx;obtain⟨t, rfl⟩ := ry;obtain⟨its, r, pl, hz⟩ := I.list hq;obtain⟨j, h1, h2, h3, h4, h5⟩ := L0 he;obtain⟨w, ew, rw'⟩ := r.get h2;have hl := r.length;have hn := Gg;have fin : EP X pI σ Q w s := ⟨z, H, I, rw', q⟩;by_cases h0 : 0 <= i
 ·have hj : i.toNat = j := by
   rw[F7 h0 h5]at h1;exact BU h1
  exact item_listR pl.isList h0 (by omega) (by rw[hj];simpa using ew) fin hs
 ·have hj : (i+(its.toArray.size : Ae)).toNat = j := by
   rw[FS (by omega) h4]at h1
   rw[AE, <-hl];exact BU h1
  exact Dx (x := w) pl.isList.typeIs OY.lookup
   (wpAny_getItem_list_neg (Q := fun r s' => r = w /\ EP X pI σ Q r s') pl.isList (by omega) (by rw[AE] <;> omega) (by omega) (by rw[hj];simpa using ew) ⟨rfl, fin⟩) hs
theorem UU : IxR X (NG X.K) := by
 intro value slice pI s σ H x y v u Q I rx ry h hs;obtain⟨p, xs, i, z, rfl, rfl, hq, he, q⟩ := h;cases rx;obtain⟨t, rfl⟩ := ry;obtain⟨its, r, pl, hz⟩ := I.tuple hq;obtain⟨j, h1, h2, h3, h4, h5⟩ := L0 he;obtain⟨w, ew, rw'⟩ := r.get h2;have hl := r.length;have hn := Gg;have fin : EP X pI σ Q w s := ⟨z, H, I, rw', q⟩;exact Dx (x := w) pl.typeIs slot_tuple_getitem.lookup
  (getItem_tuple (j := j) (Q := fun r s' => r = w /\ EP X pI σ Q r s') pl (by omega) (by omega) (by rw[AE, <-hl];exact h1) (by simpa using ew) ⟨rfl, fin⟩) hs
theorem PQ(its : Ab Ah)(n j : Ag)(u : Ah) : EB (·.setIfInBounds j u) { cls := .type "list", data := .seq its.toArray n } = { cls := .type "list", data := .seq (its.set j u).toArray n } := by
 simp[EB]
theorem Inv.lst(I : Inv X pI σ H s)(h : H p = Aa (.lst xs)):
  ∃(its : Ab Ah)(n : Ag), AR xs its /\ s.heap.get? p = Aa { cls := .type "list", data := .seq its.toArray n } /\ xs.length <= sizeLine := by
 obtain⟨z, its, n, r, e⟩ := I.hok p _ h;exact⟨its, n, r, e, z⟩
theorem Inv.lstUpd{ys:Ab V}{n':Ag}{f:AB -> AB}(I : Inv X pI σ H s)(h : H p = Aa (.lst xs))(ho : s.heap.get? p = Aa { cls := .type "list", data := .seq its.toArray n })(hf : f { cls := .type "list", data := .seq its.toArray n } = { cls := .type "list", data := .seq its'.toArray n' })(r : AR ys its')(hz : ys.length <= sizeLine)(t : Ag):Inv X pI σ (upd H p (.lst ys)) {s with heap := s.heap.update p f,toks := t} := by
 have e : (s.heap.update p f).get? p = Aa { cls := .type "list", data := .seq its'.toArray n' } := by
  rw[Cn f ho (by rw[hf] <;> rfl), hf]
 refine I.write (x := p) (e := p) (by rw[h];trivial) (.inl rfl) (fun b u hb q => (BV _ _ (C8 hb)).trans q) ⟨_, e⟩ ?_
 exact⟨hz, its', n', r, e⟩
noncomputable def WF : V -> V -> V -> Hp -> (Hp -> Prop) -> Prop := fun o i v H Q => ∃ p xs k j, o = .ref p /\ i = .int k /\ H p = Aa (.lst xs) /\ ixN xs.length k = Aa j /\ Q (upd H p (.lst (xs.set j v)))
theorem Qj : Ko X WF := by
 intro pI s σ H o i v ov iv u Q I ro ri rv h;obtain⟨p, xs, k, j, rfl, rfl, hp, hj, q⟩ := h;cases ro;obtain⟨t, rfl⟩ := ri;obtain⟨its, n, r, ho, hz⟩ := I.lst hp;obtain⟨h1, h2, h3, h4⟩ := L5 hj;have hl := r.length;have hn := Gg;have I' : Inv X pI σ (upd H p (.lst (xs.set j v))) {s with heap := s.heap.update p (EB (·.setIfInBounds j u))}:=
  I.lstUpd hp ho (PQ its n j u) (r.set rv j) (by rw[AZ];exact hz) s.toks
 by_cases h0 : 0 <= k
 ·have hk : k.toNat = j := by
   rw[F7 h0 h4]at h1;exact BU h1
  exact PySem.W.ki_setAt ho h0 (by omega) (by rw[AE, <-hl];exact h4) (by rw[hk];exact⟨_, I', q⟩)
 ·have hk : (k+(its.toArray.size : Ae)).toNat = j := by
   rw[FS (by omega) h3]at h1
   rw[AE, <-hl];exact BU h1
  exact PySem.W.ki_setBack ho (by omega) (by rw[AE, <-hl];exact h3) (by omega) (by rw[hk];exact⟨_, I', q⟩)
theorem Pf(lo hi : Al Ae)(n : Ag) : (C9 lo hi Af n).1 = ((HT.sIx n 0 lo : Ag) : Ae) /\ (C9 lo hi Af n).2.1 = ((HT.sIx n n hi : Ag) : Ae) /\ (C9 lo hi Af n).2.2 = 1 := by
 refine⟨?_, ?_, rfl⟩
 ·cases lo with
  |none => simp[C9, HT.sIx]
  |some i=>
   simp only[C9, HT.sIx, Ot, show (1 : Ae) > 0 by decide, Fm]
   by_cases h : i<0
   ·simp only[h, Fm] <;> omega
   ·simp only[h, Hw] <;> omega
 ·cases hi with
  |none => simp[C9, HT.sIx]
  |some i=>
   simp only[C9, HT.sIx, Ot, show (1 : Ae) > 0 by decide, Fm]
   by_cases h : i<0
   ·simp only[h, Fm] <;> omega
   ·simp only[h, Hw] <;> omega
theorem Pc(its : Ab Ah)(lo hi : Al Ae) : slicePick its.toArray lo hi Af = ((its.drop (HT.sIx its.length 0 lo)).take (HT.sIx its.length its.length hi-HT.sIx its.length 0 lo)).toArray := by
 obtain⟨h1, h2, h3⟩ := Pf lo hi its.toArray.size;unfold slicePick;rw[h1, h2, h3];simp only[sliceRange_one, pick_run, AE] <;> rfl
noncomputable def Nd(K : Fg) : V -> Al Ae -> Al Ae -> Hp -> VK -> Prop := fun x lo hi H Q => ∃ a xs, x = .ref a /\ SqL K H a xs /\ ∀ p, H p = Af -> Q (.ref p) (upd H p (.lst (FY xs lo hi)))
theorem Rc : SlR X (Nd X.K) := by
 intro pI s σ H x v vl vu lo hi sl Q I rx hs pl pu h;obtain⟨a, xs, rfl, hx, q⟩ := h;cases rx;obtain⟨its, r, ht, hz⟩ := I.list hx;have hlen := r.length;refine⟨"list", _, OY.lookup, ht.isList.typeIs, ?_⟩;refine wpAny_getItem_list_slice ht.isList hs pl pu .none (by simp) ?_ (by rw[AE] <;> omega)
 rw[Pc, <-hlen];refine⟨.ref s.heap.objs.size, _, I.laid (t' := s.toks) (o := .lst (FY xs lo hi)) (fun b ob q => Aw _ q) (AG _) ?_, rfl, q _ (I.hok.fresh (AG _))⟩
 exact⟨BL (KA xs lo hi) hz, _, 0, (r.drop (HT.sIx xs.length 0 lo)).take (HT.sIx xs.length xs.length hi-HT.sIx xs.length 0 lo), Ba _ rfl⟩
theorem KF : EW X (.builtin "len") (fun xs H Q => ∃ p ys, xs = [.ref p] /\ (SqL X.K H p ys \/ SqT X.K H p ys) /\ Q (.int ys.length) H) := by
 intro pI s σ H xs us Q I r h;obtain⟨p, ys, rfl, hq, q⟩ := h;obtain⟨u, rfl, rx⟩ := GN r;cases rx;have hn := Gg;rcases hq with hq|hq
 ·obtain⟨its, r', pl, hz⟩ := I.list hq;have hlen := r'.length;exact Calls.call_len_list pl.isList (by simp only[AE] <;> omega) ⟨.int ys.length, H, I.tok _, ⟨s.toks+1, by rw[AE, hlen]⟩, q⟩
 ·obtain⟨its, r', pl, hz⟩ := I.tuple hq;have hlen := r'.length;exact len_tuple pl (by simp only[AE] <;> omega) ⟨.int ys.length, H, I.tok _, ⟨s.toks+1, by rw[AE, hlen]⟩, q⟩
theorem Pj : EW X (.builtin "len") (fun xs H Q => ∃ z, xs = [.str z] /\ z.length <= sizeLine /\ Q (.int z.length) H) := by
 intro pI s σ H xs us Q I r h;obtain⟨z, rfl, hz, q⟩ := h;obtain⟨u, rfl, t, rfl⟩ := GN r;have hn := Gg;exact len_str (by omega) ⟨.int z.length, H, I.tok _, ⟨_, rfl⟩, q⟩
theorem KD : EW X (.type "list") (fun xs H Q => ∃ p ys, xs = [.ref p] /\ (SqL X.K H p ys \/ SqT X.K H p ys) /\ ∀ l, H l = Af -> Q (.ref l) (upd H l (.lst ys))) := by
 intro pI s σ H xs us Q I r h;obtain⟨p, ys, rfl, hq, q⟩ := h;obtain⟨u, rfl, rx⟩ := GN r;cases rx;have fin : ∀(its : Ab Ah), AR ys its -> ys.length <= sizeLine -> ∀(h' : AD)(c' : Ag), (∀ b o', s.heap.get? b = Aa o' -> h'.get? b = Aa o') ->
   h'.get? s.heap.objs.size = Aa { cls := .type "list", dict := Af, data := .seq its.toArray c', slots := #[] } -> EP X pI σ Q (.ref s.heap.objs.size) {s with heap := h'} := fun its r' hz h' c' kp e=>
  ⟨.ref s.heap.objs.size, _, I.laid (t' := s.toks) kp (AG _) (show ObjOk X.prog X.w _ h' _ (.lst ys) from ⟨hz, its, c', r', e⟩), rfl, q _ (I.hok.fresh (AG _))⟩
 rcases hq with hq|hq
 ·obtain⟨its, r', pl, hz⟩ := I.list hq;have hlen := r'.length;obtain⟨o, ho, hc, n, hd⟩ := pl.isList;exact call_list_seq p (.inl rfl) ho hc hd (fun h' c' kp e => fin its r' hz h' c' kp e) (by simp only[AE] <;> omega)
 ·obtain⟨its, r', pl, hz⟩ := I.tuple hq;have hlen := r'.length;obtain⟨o, ho, hc, n, hd⟩ := pl;exact call_list_seq p (.inr rfl) ho hc hd (fun h' c' kp e => fin its r' hz h' c' kp e) (by simp only[AE] <;> omega)
theorem Ks : EW X (.type "tuple") (fun xs H Q => ∃ p ys, xs = [.ref p] /\ ((SqL X.K H p ys /\ ∀ l, H l = Af -> Q (.ref l) (upd H l (.tup ys))) \/ (SqT X.K H p ys /\ Q (.ref p) H))) := by
 intro pI s σ H xs us Q I r h;obtain⟨p, ys, rfl, h⟩ := h;obtain⟨u, rfl, rx⟩ := GN r;cases rx;rcases h with ⟨hq, q⟩|⟨hq, q⟩
 ·obtain⟨its, r', pl, hz⟩ := I.list hq;have hlen := r'.length;refine call_tuple_list pl.isList (fun h' kp => ?_) (by simp only[AE] <;> omega)
  have I1 : Inv X pI σ H {s with heap := h'} := I.kept (t' := s.toks) kp
  have I2 : Inv X pI σ (upd H h'.objs.size (.tup ys)) { s with heap := h'.push { cls := .type "tuple", data := .seq its.toArray } }:=
   I1.laid (t' := s.toks) (fun b o e => Aw _ e) (AG _) (show ObjOk X.prog X.w _ _ _ (.tup ys) from ⟨hz, its, r', GX _ _⟩)
  exact⟨.ref h'.objs.size, _, I2, rfl, q _ (I1.hok.fresh (AG _))⟩
 ·obtain⟨its, r', pl, hz⟩ := I.tuple hq;exact call_tuple_same pl ⟨.ref p, H, I, rfl, q⟩
variable{o e : Ao}{es : Ab Ao}{to : TE}{t : TA}{name : Aj}{apos cpos : AI}{T id : Cc}{r : V -> Ab V -> Hp -> VK -> Prop}
/- xs.append(e), list.index on a module's tuple .. are MtR facts of 06m -/
end
theorem AR.one : ∀{x : V}{us : Ab Ah}, AR [x] us -> ∃ u, us = [u] /\ A4 x u
 |_, _, .cons r .nil => ⟨_, rfl, r⟩
theorem AR.zero : ∀{us : Ab Ah}, AR [] us -> us = []
 |_, .nil => rfl
theorem AR.eraseIdx : ∀{xs : Ab V}{us : Ab Ah}(i : Ag), AR xs us -> AR (xs.eraseIdx i) (us.eraseIdx i)
 |_, _, _, .nil => .nil
 |_, _, 0, .cons _ t => t
 |_, _, i+1, .cons r t => .cons r (AR.eraseIdx i t)
theorem AR.reverse(h : AR xs us) : AR xs.reverse us.reverse := by
 induction h with
 |nil => exact .nil
 |cons r t ih => rw[Oj, Oj];exact AR.append ih (.cons r .nil)
section
variable{X : Cx}{pI : Ab (Ai × AB)}{σ : St}{H : Hp}{s : Ak}{l b : Ai}{xs ys zs : Ab V}
theorem Inv.lset{f:A8 Ah -> A8 Ah}(I : Inv X pI σ H s)(hH : H l = Aa (.lst xs))(e : s.heap.get? l = Aa { cls := .type "list", data := .seq its.toArray n })(hf : f its.toArray = its'.toArray)(hv : AR ys its')(hz : ys.length <= sizeLine):Inv X pI σ (upd H l (.lst ys)) {s with heap := s.heap.update l (EB f),toks := t'} := by
 have q := PySem.IsL.update e f;rw[hf]at q;refine I.write (x := l) (e := l) (by rw[hH];exact trivial) (.inl rfl) (fun b' u hb hu => (BV s.heap (EB f) (C8 hb)).trans hu) ⟨_, q⟩ ?_
 exact⟨hz, its', _, hv, q⟩
theorem Inv.lnew(I : Inv X pI σ H s)(hv : AR ys its)(hz : ys.length <= sizeLine):
  Inv X pI σ (upd H s.heap.objs.size (.lst ys)) { s with heap := s.heap.push { cls := .type "list", data := .seq its.toArray }, toks := t' }:=
 I.laid (fun _ _ q => Aw _ q) (AG _) ⟨hz, its, 0, hv, Ba _ rfl⟩
theorem Inv.fresh(I : Inv X pI σ H s) : H s.heap.objs.size = Af := I.hok.fresh (AG _)
end
section
variable{X : Cx}
end
section
variable{prog : AC}{w : AJ}{A : AM}{E : Ah -> Ak -> Prop}{s : Ak}
set_option maxRecDepth 100000 in
end
section
variable{X : Cx}
end
end L2
namespace Att
open PySem PySem.W PySem.Calls PyProof.Rows
variable{P:G1}{h:AD}{l:Dy}{n:Ag}
theorem O8 : ∀(ns : Ab Ae)(vs : Ab Ah), WellAll P h vs (ns.map OO) -> Fd vs ns := by
 intro ns
 induction ns with
 |nil=>
  intro vs w;rw[FL]at w;cases w;exact .nil
 |cons n ns ih=>
  intro vs w;rw[Bm]at w;cases w with
  |cons a b=>
   cases a;exact .cons _ _ (ih _ b)
theorem Pt(hn : l.most = Aa n){args:Ab WData}{vals:Ab Ah}(hpre : l.row.toRowW.claim.pre args = Ac)(hwl : WellAll P h vals args):
  ∃ a vs ns, vals = [E1 a] /\ args = [WData.list (ns.map OO)] /\ h.get? a = Aa { cls := .type "list", data := .seq vs.toArray } /\ Fd vs ns /\ ns.length <= n := by
 have hsh : WShape.hasAll [] args [.list .int] = Ac := (pre_splitW hpre).1;have hc : l.pre.holds [] {args := args} = Ac := (pre_splitW hpre).2;obtain⟨d, r, rfl, h1, h2⟩ := hasAllW_cons hsh;obtain rfl := hasAllW_nil h2;obtain⟨xs, rfl, h3⟩ := hasW_list h1;obtain⟨ns, rfl⟩ := items_int h3;have hlen : ns.length <= n := by
  unfold OpenLaw.pre at hc;have h4 : (WTm.not (.lt (.lit (.int (n : Ae))) (.len (.arg 0)))).holds [] {args := [.list (ns.map .int)]} = Ac := by
   have h4 := (holds_andW hc).1;rw[hn]at h4;exact h4
  have h5 := condW_of h4 (w_not (w_lt w_lit (w_len_list (w_arg rfl))));rw[B6]at h5;refine Nat.le_of_not_lt fun q => ?_
  have q' : (n : Ae)<((ns.length : Ag) : Ae) := by omega
  first
   |(rw[decide_eq_true q']at h5;exact absurd h5 (by decide))
   |(simp at h5;omega)
 cases hwl with
 |cons w1 w2=>
  cases w2;cases w1 with
  |list ho hall => exact⟨_, _, ns, rfl, rfl, ho, O8 ns _ hall, hlen⟩
theorem Py(l : Dy)(args : Ab WData) : l.row.toRowW.claim.post args (.bool Ac) args = Ac:=
 postW_of (r := l.row.toRowW) (X := (Ac==Ac))
  (show OP [] (.bool Ac) .bool = Ac by first|rfl|decide|simp[OP, WShape.arms, WShape.armsAll])
  (show (WTm.eq .res (.lit (.bool Ac))).value [] {args := args, res := Aa (.bool Ac), after := args} = Aa (.bool (Ac==Ac)) from w_eq_bool (w_res rfl) w_lit) rfl
theorem attach_call{q:AC}{loose:Ab Aj}{XP:(Aj -> Al Ah) -> AD -> Prop}{YP:AJ -> AD -> Prop}{d:DefRec}(hn : l.most = Aa n)(hdf : d.params.defaults = [])(call : ∀(w : AJ)(s₀ s₁ : Ak)(mg mb : Aj -> Al Ah)(fa : Ai)(o : AB)(pm cd doc : Ah)(a : Ai)(vs : Ab Ah)(ns : Ab Ae),
   Ground q loose [] XP w s₀ mg mb s₁.heap -> YP w s₁.heap ->
   s₁.heap.get? fa = Aa o -> o.data = .func (docDef d.name d.params d.body d.scope pm cd doc) -> s₁.heap.CodeRec cd d.name -> mg d.name = Aa (.ref fa) ->
   s₁.heap.get? a = Aa { cls := .type "list", data := .seq vs.toArray } -> Fd vs ns -> ns.length <= n -> s₁.gens = #[] ->
   Ec (model l.prog w) ED (.call (.ref fa) ⟨[.ref a], []⟩) (fun r s' => r = .ok (.ret (.bool Ac)) /\ OldK s₁.heap s'.heap /\ s'.os = s₁.os /\ Do s'.gens) s₁):WalkO q loose XP YP l.row.toRowW d [] (fun f vs =>Gu f vs) := by
 intro w s₀ s₁ mg mb G Y fa o pm cd doc dV kV ho hd hcd hD hmg hg args vals as hpre hlay hrd hwl hlo;obtain rfl : dV = .none := Dflts.none hD hdf;obtain rfl : kV = .none := Dflts.noKw hD;obtain⟨a, vs, ns, rfl, rfl, hobj, hints, hlen⟩ := Pt hn hpre hwl;refine enter_call (FO (call w s₀ s₁ mg mb fa o pm cd doc a vs ns G Y ho (fd_plain hd) hcd hmg hobj hints hlen hg) fun r s' hq => ?_)
 obtain⟨rfl, h2, h3, h4⟩ := hq;exact⟨.inl ⟨.bool Ac, .bool Ac, [], rfl, fun _ => rfl, .bool Ac, Py l _, fun _ => ⟨List.Pairwise.nil, fun _ hm => (nomatch hm)⟩⟩, h2, h3, h4⟩
section
variable{prog : AC}{w : AJ}{A : AM}{E : Ah -> Ak -> Prop}{s : Ak}{K : Frag}
end
end Att
namespace L2
open PySem PySem.Spec PyProof.Rows
variable{k:Ag}{x:Aj}
theorem KR : ∀{vs : Ab Ah}{ns : Ab Ae}, Fd vs ns -> AR (ns.map V.int) vs
 |_, _, .nil => .nil
 |_, _, .cons n t h => .cons ⟨t, rfl⟩ (KR h)
noncomputable def Kq(H : Hp) : Prop := ∀ b, H b = Af \/ ∃ o xs, H b = Aa (.frz o (.lst xs))
theorem QK{P:AC}{w:AJ}{K:Fg}{mg mb:Aj -> Al Ah}{CX:CXT}{fa a:Ai}{fd:Bs}{sp:Sp}{s₁:Ak}{vs:Ab Ah}{ns:Ab Ae}(KX : K.In s₁.heap)(hns : s₁.heap.Ns AV mg)(hb : s₁.heap.Ns Fq mb)(hbb : ∀ x : Aj, x ≠ "__name__" -> mb x = BW x)(hlim : s₁.heap.NoLimit)(hg : s₁.gens = #[])(ha : s₁.heap.get? a = Aa { cls := .type "list", data := .seq vs.toArray })(hi : Fd vs ns)(hl : ns.length <= sizeLine)(hr : Room k ED)(F : ∀ base : AD, K.In base -> base.Ns AV mg -> FnOk P w K mg base CX k fa fd [x] sp)(hbind : ∀(s : Ak)(u : Ah), EC s fd ⟨[u], []⟩ [(x, u)])(hsp : ∀ H : Hp, Kq H -> SqL K H a (ns.map V.int) -> sp [.ref a] H (fun v _ => v = .bl Ac) fun _ _ _ => AX)(hCX : ∀ H e s', CX [] H s₁ (fun _ _ _ => AX) e s' -> AX):Ec (model P w) ED (.call (.ref fa) ⟨[.ref a],[]⟩) (fun r s' =>r = .ok (.ret (.bool Ac))/\OldK s₁.heap s'.heap/\s'.os = s₁.os/\Do s'.gens) s₁ := by
 have rv := KR hi;have lenV := hi.length
 -- from an abstract heap in which nothing but the script may be tracked
 have core : ∀ H : Hp, Kq H -> SqL K H a (ns.map V.int) -> HOk P w H s₁.heap -> (∀ b, H b ≠ Af -> b = a) -> (H a ≠ Af -> K.lookup a = Af) ->
   Ec (model P w) ED (.call (.ref fa) ⟨[.ref a], []⟩) (fun r s' => r = .ok (.ret (.bool Ac)) /\ OldK s₁.heap s'.heap /\ s'.os = s₁.os /\ Do s'.gens) s₁ := by
  intro H hO hS hok hA hK;have base_of : ∀{b : Ai}{o : AB}, s₁.heap.get? b = Aa o -> H b = Af -> (FD s₁.heap H).get? b = Aa o := fun e n => QM e n
  have noA : ∀{b : Ai}{o : AB}{es : A8 DictEntry}{ep : Ag}, s₁.heap.get? b = Aa o -> o.data = .dict es ep -> H b = Af := fun {b o es ep} e d => by
   cases q : H b with
   |none => rfl
   |some u=>
    have e' : b = a := hA b (by rw[q];simp)
    subst e';rw[ha]at e;cases e;have d' : GZ vs.toArray _ = Data.dict es ep := d;cases d'
  have nsK : ∀{b : Ai}{m : Aj -> Al Ah}, s₁.heap.Ns b m -> (FD s₁.heap H).Ns b m := fun {b m} ⟨o, es, ep, e, d, r⟩ => ⟨o, es, ep, base_of e (noA e d), d, r⟩
  have hKb : K.In (FD s₁.heap H) := fun b o e => base_of (KX b o e) (by
   cases q : H b with
   |none => rfl
   |some u=>
    have e' : b = a := hA b (by rw[q];simp)
    subst e';rw[hK (by rw[q];simp)]at e;cases e)
  have hM : Mod K mg (FD s₁.heap H) := ⟨hKb, nsK hns, ⟨mb, nsK hb, hbb⟩, let ⟨mc, h1, h2⟩ := hlim;⟨mc, nsK h1, h2⟩⟩
  have e0 : Env0 P w K mg (FD s₁.heap H) ED [] s₁ H := ⟨rfl, hM, fun b o e => SR e, Nat.le_of_eq (Qn _ _), trivial, fun b hb => absurd (show b ∈ ([] : Ab Ai) from hb) (by simp), hok, .of_eq hg⟩
  refine FO ((F _ hKb (nsK hns)).run ED [] s₁ H ⟨[.ref a], []⟩ [.ref a] [.ref a] _ _ hr e0 (hbind s₁ (.ref a)) (.cons rfl .nil) (hsp H hO hS)) fun r s' h => ?_
  cases r with
  |error e => exact(hCX H e s' h).elim
  |ok fl=>
   cases fl with
   |next => exact CM h
   |brk => exact CM h
   |cont => exact CM h
   |ret u=>
    obtain⟨v, H', os, bare, un, hok', r', q⟩ := h;have q' : v = .bl Ac := q;subst q';obtain rfl : u = OL Ac := r';refine⟨rfl, OldK.of_keep fun b o e => ?_, os, bare⟩
    cases q : H b with
    |none => exact un.keep b o e q (by intro z;exact absurd (show b ∈ ([] : Ab Ai) from z) (by simp)) (by simp)
    |some u=>
     rcases hO b with z|⟨ob, xs, z⟩
     ·rw[q]at z;cases z
     ·have z2 := un.frzs b ob _ z;obtain⟨e1, _⟩ := hok b _ z;obtain⟨e2, _⟩ := hok' b _ z2;rw[e]at e1;cases e1;exact e2
 cases hk : K.lookup a with
 |some o=>
  -- the script is one of the module's own objects
  have e := KX a o hk;rw[ha]at e;cases e;refine core (fun _ => Af) (fun _ => .inl rfl) (.inr ⟨_, vs.toArray, _, hk, rfl, rfl, rfl, by rw[AE, lenV];exact hl, by simpa using rv⟩) (fun b u z => by have z' : (Af : Al HO) = Aa u := z;cases z') (fun b z => absurd rfl z) fun z => absurd rfl z
 |none=>
  refine core (fun b => if b = a then Aa (.frz { cls := .type "list", data := .seq vs.toArray } (.lst (ns.map V.int))) else Af) (fun b => ?_) (.inl (.inr ⟨{ cls := .type "list", data := .seq vs.toArray }, AF rfl⟩)) (fun b u z => ?_) (fun b z => ?_) fun _ => hk
  ·by_cases hb : b = a
   ·exact .inr ⟨_, _, AF hb⟩
   ·exact .inl (AH hb)
  ·by_cases hb : b = a
   ·have z' := (AF hb).symm.trans z;cases z';subst hb;exact⟨ha, by rw[B6];exact hl, vs, _, rv, ha⟩
   ·have z' := (AH hb).symm.trans z;cases z'
  ·by_cases hb : b = a
   ·exact hb
   ·exact absurd (AH hb) z
noncomputable abbrev KOf{K : Fg}{h : AD}(_ : K.In h) : Fg := K
theorem walk_of{l:Dy}{n:Ag}{q:AC}{loose:Ab Aj}{XP:(Aj -> Al Ah) -> AD -> Prop}{YP:AJ -> AD -> Prop}{d:DefRec}{K:G1 -> Fg}{CX:AJ -> CXT}{sp:AJ -> Sp}(hn : l.most = Aa n)(hn2 : n <= sizeLine)(hdf : d.params.defaults = [])(hr : Room k ED)(hY : ∀(w : AJ)(h : AD), YP w h -> (K w.params).In h)(F : ∀(w : AJ)(mg : Aj -> Al Ah)(fa : Ai)(h : AD), (K w.params).In h -> h.Ns AV mg -> mg d.name = Aa (.ref fa) ->
   ∃ fd : Bs, (∀(s : Ak)(u : Ah), EC s fd ⟨[u], []⟩ [(x, u)]) /\
    ∀ base : AD, (K w.params).In base -> base.Ns AV mg -> FnOk l.prog w (K w.params) mg base (CX w) k fa fd [x] (sp w))(hsp : ∀(w : AJ)(H : Hp)(a : Ai)(ns : Ab Ae), ns.length <= n -> Kq H -> SqL (K w.params) H a (ns.map V.int) -> sp w [.ref a] H (fun v _ => v = .bl Ac) fun _ _ _ => AX)(hCX : ∀(w : AJ)(H : Hp)(s : Ak)(e : Ah)(s' : Ak), CX w [] H s (fun _ _ _ => AX) e s' -> AX):OQ q loose XP YP l.row.toRowW d [] (fun f vs =>Gu f vs) := by
 refine Att.attach_call hn hdf fun w s₀ s₁ mg mb fa o pm cd doc a vs ns G Y ho hd hcd hmg hobj hints hlen hg => ?_
 have KX := hY w _ Y;obtain⟨fd, hb, hF⟩ := F w mg fa _ KX G.T.g hmg;exact QK KX G.T.g G.T.b G.T.builtins G.T.nolimit hg hobj hints (BL hlen hn2) hr hF hb (fun H hO hS => hsp w H a ns hlen hO hS) fun H e s' => hCX w H s₁ e s'
end L2
/- THE LAST THEOREM (shape;LID, My.* are yours):
   My.Adr: a structure of the addresses that your layer names (classes, functions);My.Txt K t: a structure (Prop) of the equations over K;
   My.txt_mk : {K} {implicit addresses ..} (e1 : nsIn K AV "law" = Aa (Aa (.ref f))) (e2 : K.lookup f = Aa ⟨oc, od, .func (fnOf "law" "law" params body scope dV kV doc pm an cdv ct), sl⟩) (e3 : codeIn K cdv "law" = Ac) .. : ∃ t, My.Txt K t
set_option maxRecDepth 100000 in
set_option maxHeartbeats 0 in
theorem PySem.Challenge.cw_LID_holds : PySem.Challenge.rw_LID.Holds := by
 w_on;o_law;k_head;(case hw => w_witness2)
 k_fill
 refine L2.walk_of (l := PySem.Challenge.rw_LID) (n := 63) (k := 40) (x := "script") (CX := fun w => ..) (sp := fun _ => My.sp_law) rfl (by decide) rfl ⟨rfl, by decide, by decide⟩ (fun w h Y => OS Y) ?F ?S ?C
 case F=>
  intro w mg fa h KX G hmg;have T : ∃ t, My.Txt (L2.KOf KX) t := by
   dsimp only[L2.KOf]                          -- K must stand as «<heap const> w.params» for k_is
   refine' My.txt_mk ?e1 ?e2 ?e3 ..
   (case e1 => PySem.W.k_is)                    -- in the order: a name -> its address -> its object -> its parts
   (case e2 => PySem.W.k_is)
   ..
  obtain⟨t, T⟩ := T;have e0 := hmg.symm.trans (FE KX G T.law);cases e0                                       -- fa is the law's own address
  exact⟨_, fun s u => .of_eq rfl, fun base kb nb => My.law_fn T kb nb⟩     -- if «.of_eq rfl» comes too early: refine' ⟨_, ?b, fun base kb nb => My.law_fn T kb nb⟩;exact fun s u => .of_eq rfl
 case S => exact fun w H a ns hl hO hS => ..
 case C => exact ..
(the tactic k_is has no namespace: write k_is) -/
namespace L2
open PySem PySem.Spec PyProof.Rows
noncomputable def GF(s : Bc) : Arguments := match s with
  |.FunctionDef _ a _ _ _ _ _ _ _ _ => a
  |_ => {posonlyargs := [], args := [], vararg := Af, kwonlyargs := [], kw_defaults := [], kwarg := Af, defaults := []}
noncomputable def EO(s : Bc) : Ab Bc := match s with
  |.FunctionDef _ _ b _ _ _ _ _ _ _ => b
  |_ => []
noncomputable def Dm(s : Bc) : Bx := match s with
  |.FunctionDef _ _ _ _ _ _ sc _ _ _ => sc
  |_ => {kind := .function, names := [], isGenerator := Ad, isCoroutine := Ad}
noncomputable abbrev CX0 : CXT := fun _ _ _ _ _ _ => AX
structure Fun (K : Fg) (x qual : Aj) (st : Bc) (f : Ai) (fd : Bs) : Prop where
 ex : ∃(oc : Ah)(od : Al Ai)(kV doc pm : Ah)(an : Al Ai)(cdv ct : Ah)(osl : A8 (Al Ah)),
  fd = CF x qual (GF st) (EO st) (Dm st) .none kV doc pm an cdv ct /\ K.lookup f = Aa ⟨oc, od, .func fd, osl⟩ /\ Eb K cdv qual = Ac
 kp : Cd K (.ref f) = Ac
section
variable{P : AC}{w : AJ}{K : Fg}{mg : Aj -> Al Ah}{base : AD}
theorem Fun.ok{x qual : Aj}{st : Bc}{f : Ai}{fd : Bs}{N ps : Ab Aj}{k : Ag}{sp : Sp}(F : Fun K x qual st f fd)(S : FnScope N ps (Dm st))(len : ∀ vs H Q E, sp vs H Q E -> vs.length = ps.length)(hbody : ∀(cdv : Ah)(A : AM)(outer : Ab BG)(s : Ak)(H : Hp)(vs : Ab V)(Q : VK)(E : XK), Room k (A.deeper (C4 qual (Dm st) s.heap.objs.size f cdv)) -> sp vs H Q E ->
   ∃ t, PSs (Ef CX0 P w K mg base N qual (Dm st) f cdv A outer s H E).nox (EO st) t /\ t {nx := fun _ H' => Q .non H', rt := Q} (start N vs) H) : FnOk P w K mg base CX0 (k+1) f fd ps sp := by
 obtain⟨oc, od, kV, doc, pm, an, cdv, ct, osl, rfl, lk, hcd⟩ := F.ex;refine M1 lk hcd S len fun A outer s H vs Q E hr hsp => ?_
 obtain⟨t, h, q⟩ := hbody cdv A outer s H vs Q E hr hsp;exact⟨t, h.nox, q⟩
theorem Fun.binds{x qual : Aj}{st : Bc}{f : Ai}{fd : Bs}{ps : Ab Aj}(F : Fun K x qual st f fd)(h : ∀(kV doc pm : Ah)(an : Al Ai)(cdv ct : Ah)(us : Ab Ah), us.length = ps.length -> G3 (CF x qual (GF st) (EO st) (Dm st) .none kV doc pm an cdv ct) ⟨us, []⟩ = pure (ps.zip us)) : EX K fd ps [] := by
 obtain⟨oc, od, kV, doc, pm, an, cdv, ct, osl, rfl, lk, hcd⟩ := F.ex;exact .all (h kV doc pm an cdv ct)
theorem U2{x qual : Aj}{st : Bc}{f : Ai}{oc : Ah}{od an : Al Ai}{osl : A8 (Al Ah)}{kV doc pm cdv ct : Ah}(l : K.lookup f = Aa ⟨oc, od, .func (CF x qual (GF st) (EO st) (Dm st) .none kV doc pm an cdv ct), osl⟩)(c : Eb K cdv qual = Ac)(k : Cd K (.ref f) = Ac) : Fun K x qual st f (CF x qual (GF st) (EO st) (Dm st) .none kV doc pm an cdv ct) := ⟨⟨oc, od, kV, doc, pm, an, cdv, ct, osl, rfl, l, c⟩, k⟩
end
section
variable{X : Cx}
end
noncomputable def As(H H' : Hp) : Prop := ∀ b o, H b = Aa o -> H' b = Aa o
theorem As.refl(H : Hp) : As H H := fun _ _ h => h
theorem As.trans{H H1 H2 : Hp}(a : As H H1)(b : As H1 H2) : As H H2 := fun c o h => b c o (a c o h)
theorem As.free{H H' : Hp}(e : As H H'){l : Ai}(h : H' l = Af) : H l = Af := by
 cases q : H l with
 |none => rfl
 |some o=>
  rw[e l o q]at h;cases h
end L2
section
namespace Ov
open PySem
variable{α β:Type}
inductive D where
 |non|bl (b : An)|int (i : Ae)|str (x : Aj)|tup (ds : Ab D)|lst (ds : Ab D)
 |obj (c : Ag) (fs : Ab (Aj × D))|exc (c : Ag) (fs : Ab (Aj × D))|dic (kvs : Ab (Ab Ae × D))
 deriving Inhabited
structure Ex where
 c : Ag
 fs : Ab (Aj × D)
 deriving Inhabited
inductive R (α : Type) where
 |ok (a : α)|exn (x : Ex)|bad
 deriving Inhabited
noncomputable def R.bind{α β : Type}(r : R α)(f : α -> R β) : R β := match r with
  |.ok a => f a
  |.exn x => .exn x
  |.bad => .bad
@[simp]theorem R.bind_ok(a : α)(f : α -> R β) : (R.ok a).bind f = f a := rfl
@[simp]theorem R.bind_exn(x : Ex)(f : α -> R β) : (R.exn x : R α).bind f = .exn x := rfl
@[simp]theorem R.bind_bad(f : α -> R β) : (R.bad : R α).bind f = .bad := rfl
theorem R.bind_assoc{γ:Type}(r : R α)(f : α -> R β)(g : β -> R γ) : (r.bind f).bind g = r.bind fun a => (f a).bind g := by cases r <;> rfl
noncomputable def Cb(n : Ag) : An := C7 n 1000000
noncomputable def BO(i j : Ae) : An := (decide (-(18446744073709551616 : Ae)<i)&&decide (i<18446744073709551616))||(decide (-(18446744073709551616 : Ae)<j)&&decide (j<18446744073709551616))
noncomputable def Fx(i j : Ae) : An := decide (i.natAbs<2 ^ 2000)&&decide (j.natAbs<2 ^ 2000)
noncomputable def BR : EK -> D -> D -> R D
 |.Add, .int i, .int j => .ok (.int (i+j))
 |.Sub, .int i, .int j => .ok (.int (i-j))
 |.Mult, .int i, .int j => if (BO i j||Fx i j) = Ac then .ok (.int (i*j)) else .bad
 |.FloorDiv, .int i, .int j => if 0<j /\ j<1073741824 then .ok (.int (i / j)) else .bad
 |.Mod, .int i, .int j => if 0<j then .ok (.int (i%j)) else .bad
 |.Pow, .int i, .int j => if (0 <= j /\ j <= 1000000) /\ (-(18446744073709551616 : Ae)<i /\ i<18446744073709551616) then .ok (.int (i ^ j.toNat)) else .bad
 |.Add, .str x, .str y => if Cb (x.length+y.length) = Ac then .ok (.str (x++y)) else .bad
 |.Add, .lst x, .lst y => if Cb (x.length+y.length) = Ac then .ok (.lst (x++y)) else .bad
 |.Add, .tup x, .tup y => if (!x.isEmpty&&Cb (x.length+y.length)) = Ac then .ok (.tup (x++y)) else .bad
 |_, _, _ => .bad
noncomputable def unD : UnaryOp -> D -> R D
 |.USub, .int i => .ok (.int (-i))
 |_, _ => .bad
noncomputable def b2i(b : An) : Ae := if b = Ac then 1 else 0
mutual
noncomputable def eqD : D -> D -> An
 |.non, .non => Ac
 |.bl a, .bl b => a==b
 |.bl a, .int j => b2i a==j
 |.int i, .bl b => i==b2i b
 |.int i, .int j => i==j
 |.str x, .str y => x==y
 |.tup xs, .tup ys => eqDs xs ys
 |.lst xs, .lst ys => eqDs xs ys
 |_, _ => Ad
noncomputable def eqDs : Ab D -> Ab D -> An
 |[], [] => Ac
 |x::xs, y::ys => eqD x y&&eqDs xs ys
 |_, _ => Ad
end
noncomputable def flD : Ag -> D -> An
 |_, .non => Ac
 |_, .bl _ => Ac
 |_, .int _ => Ac
 |_, .str _ => Ac
 |n+1, .tup xs => xs.all (flD n)
 |n+1, .lst xs => xs.all (flD n)
 |_, _ => Ad
noncomputable def CJ : D -> Al (Ab Ae)
 |.tup ds => keyDs ds
 |_ => Af
where keyDs : Ab D -> Al (Ab Ae)
 |[] => Aa []
 |.int i::r => (keyDs r).map (i :: ·)
 |_ => Af
noncomputable def ltD : Ag -> D -> D -> An
 |0, .int i, .int j => decide (i<j)
 |n+1, .tup xs, .tup ys => ltDs (ltD n) xs ys
 |_, _, _ => Ad
where ltDs (lt : D -> D -> An) : Ab D -> Ab D -> An
 |[], [] => Ad
 |[], _::_ => Ac
 |_::_, [] => Ad
 |x::xs, y::ys => if eqD x y = Ac then ltDs lt xs ys else lt x y
noncomputable def rkD : Ag -> D -> An
 |0, .int _ => Ac
 |n+1, .tup xs => xs.all (rkD n)
 |_, _ => Ad
noncomputable def NN(lt : D -> D -> An)(x : D) : Ab D -> Ab D
 |[] => [x]
 |y::ys => if lt y x = Ac then y::NN lt x ys else x::y::ys
noncomputable def MI(lt : D -> D -> An) : Ab D -> Ab D
 |[] => []
 |x::xs => NN lt x (MI lt xs)
noncomputable def NK : Ab D -> An
 |[] => Ac
 |x::xs => xs.all (fun y => !eqD x y)&&NK xs
noncomputable def Nz : Ab D -> An
 |[] => Ac
 |[_] => Ac
 |x::y::r => ltD 1 x y&&Nz (y::r)
noncomputable def LO(xs : Ab D) : R (Ab D) := if (xs.all (fun d => rkD 1 d && !eqD d (.tup []))&&NK xs&&(decide (xs.length<64)||(Nz xs&&decide (xs.length <= 1000)))) = Ac then .ok (MI (ltD 1) xs) else .bad
noncomputable def Bj : CS -> D -> D -> R D
  |.Eq, x, y => if (flD 5 x&&flD 5 y) = Ac then .ok (.bl (eqD x y)) else .bad
  |.NotEq, x, y => if (flD 5 x&&flD 5 y) = Ac then .ok (.bl (!eqD x y)) else .bad
  |.Lt, .int i, .int j => .ok (.bl (decide (i<j)))
  |.LtE, .int i, .int j => .ok (.bl (decide (i <= j)))
  |.Gt, .int i, .int j => .ok (.bl (decide (j<i)))
  |.GtE, .int i, .int j => .ok (.bl (decide (j <= i)))
  |.In, x, .lst ys => if (flD 5 x&&ys.all (flD 5)) = Ac then .ok (.bl (ys.any fun y => eqD y x)) else .bad
  |.In, x, .dic kvs => match CJ x with
    |some k => .ok (.bl (kvs.any fun p => p.1==k))
    |none => .bad
  |.In, x, .tup ys => if (flD 5 x&&ys.all (flD 5)) = Ac then .ok (.bl (ys.any fun y => eqD y x)) else .bad
  |.NotIn, x, .lst ys => if (flD 5 x&&ys.all (flD 5)) = Ac then .ok (.bl (!ys.any fun y => eqD y x)) else .bad
  |.NotIn, x, .dic kvs => match CJ x with
    |some k => .ok (.bl (!kvs.any fun p => p.1==k))
    |none => .bad
  |.NotIn, x, .tup ys => if (flD 5 x&&ys.all (flD 5)) = Ac then .ok (.bl (!ys.any fun y => eqD y x)) else .bad
  |.Is, .non, .non => .ok (.bl Ac)
  |.Is, .bl _, .non => .ok (.bl Ad)
  |.Is, .int _, .non => .ok (.bl Ad)
  |.Is, .str _, .non => .ok (.bl Ad)
  |.Is, .tup _, .non => .ok (.bl Ad)
  |.Is, .lst _, .non => .ok (.bl Ad)
  |.Is, .obj _ _, .non => .ok (.bl Ad)
  |.Is, .bl a, .bl b => .ok (.bl (a==b))
  |.IsNot, .bl a, .bl b => .ok (.bl (!(a==b)))
  |.IsNot, .non, .non => .ok (.bl Ad)
  |.IsNot, .bl _, .non => .ok (.bl Ac)
  |.IsNot, .int _, .non => .ok (.bl Ac)
  |.IsNot, .str _, .non => .ok (.bl Ac)
  |.IsNot, .tup _, .non => .ok (.bl Ac)
  |.IsNot, .lst _, .non => .ok (.bl Ac)
  |.IsNot, .obj _ _, .non => .ok (.bl Ac)
  |_, _, _ => .bad
noncomputable def Bu : D -> R An
 |.non => .ok Ad
 |.bl b => .ok b
 |.int i => .ok (i != 0)
 |.str x => if Cb x.length = Ac then .ok (x.length != 0) else .bad
 |.tup xs => .ok (!xs.isEmpty)
 |.lst xs => .ok (!xs.isEmpty)
 |_ => .bad
noncomputable def plD(n : Ag)(i : Ae) : Al Ag := if 0 <= i then (if i<n then Aa i.toNat else Af) else if -(n : Ae) <= i then Aa (i+n).toNat else Af
noncomputable def CH(xs : Ab D)(i : Ae) : R D := match plD xs.length i with
  |some k => match xs[k]? with
    |some d => .ok d
    |none => .bad
  |none => .bad
noncomputable def C1(kvs : Ab (Ab Ae × D))(k : Ab Ae) : Al D := (kvs.find? fun p => p.1==k).map (·.2)
noncomputable def Ds(kvs : Ab (Ab Ae × D))(k : Ab Ae)(v : D) : Ab (Ab Ae × D) := if (kvs.any fun p => p.1==k) = Ac then kvs.map (fun p => if (p.1==k) = Ac then (k, v) else p) else kvs++[(k, v)]
noncomputable def Ii : D -> R (Ab (Ab Ae × D))
 |.dic kvs => .ok kvs
 |_ => .bad
noncomputable def De(d : D) : R (Ab Ae) := match CJ d with
  |some k => .ok k
  |none => .bad
noncomputable def DH : D -> D -> R D
  |.lst xs, .int i => CH xs i
  |.tup xs, .int i => CH xs i
  |.dic kvs, k => match (CJ k).bind (C1 kvs) with
    |some d => .ok d
    |none => .bad
  |_, _ => .bad
noncomputable def C2 : D -> R Ae
 |.int i => .ok i
 |_ => .bad
noncomputable def Cs : D -> R An
 |.bl b => .ok b
 |_ => .bad
noncomputable def Dd : D -> R (Ab D)
 |.lst xs => .ok xs
 |.tup xs => .ok xs
 |_ => .bad
noncomputable def J5 : D -> R (Ab D)
 |.lst xs => .ok xs
 |_ => .bad
inductive BI where
 |len|abs|max|min|int|list|tuple|all|any|sum|sorted|str|count|stp|lset|tmin|tmax|tlt|rvs
 deriving DecidableEq, Inhabited
inductive Ki where
 |int|bool|str|list|tuple|verr|cls (c : Ag)
 deriving DecidableEq, Inhabited
mutual
inductive E where
 |non|bl (b : An)|int (i : Ae)|str (x : Aj)
 |var (i : Ag)|glob (g : Ag)
 |bin (op : EK) (a b : E)|un (op : UnaryOp) (a : E)|no (a : E)
 |and (es : Es)|or (es : Es)
 |cmp (op : CS) (a b : E)|cmp2 (op op' : CS) (a b c : E)
 |ite (c a b : E)
 |call (f : Ag) (as : Es)|bi (b : BI) (as : Es)
 |isi (a : E) (ks : Ab Ki)
 |idx (a i : E)|sl (a lo hi : E)
 |tup (es : Es)|lst (es : Es)
 |comp (elt : E) (t : Ag) (it : I) (c : E)|compT (elt : E) (ts : Ab Ag) (it : I) (c : E)|tupI (it : I)
 /-- d.get(k, x) -/
 |dget (i : Ag) (k x : E)
 |fld (o : E) (f : Aj)
inductive Es where
 |nil|cons (e : E) (es : Es)
inductive I where
 |e (a : E)|rng (a : E)|rng2 (a b : E)|zip (a b : E)|zip3 (a b c : E)|enm (a : E)
end
noncomputable abbrev Sl := Al (D × An)
noncomputable abbrev Rho := Ab Sl
structure Gam where
 F : Ag -> Ab D -> R D
 G : Ag -> D
 up : Ag -> Ab Ag
 /-- the defs whose answer is a new list -/
 fr : Ag -> An
 /-- what is raised: the class, what it is made of -/
 xn : Ag -> Ab D -> R Ex
noncomputable def CY(lo : Ae)(n : Ag) : Ab D := (B7 n).map fun(k : Ag) => D.int (lo+(k : Ae))
noncomputable def Cy(lo hi : Ae) : R (Ab D) := if (-(4611686018427387904 : Ae) <= lo /\ lo<4611686018427387904) /\ (-(4611686018427387904 : Ae) <= hi /\ hi<4611686018427387904) /\ hi-lo<1000000 then .ok (CY lo (hi-lo).toNat) else .bad
noncomputable def kiD(up : Ag -> Ab Ag) : Ki -> D -> An
 |.int, .int _ => Ac
 |.int, .bl _ => Ac
 |.bool, .bl _ => Ac
 |.str, .str _ => Ac
 |.list, .lst _ => Ac
 |.tuple, .tup _ => Ac
 |.cls c, .obj k _ => (up k).contains c
 |.cls c, .exc k _ => (up k).contains c
 |.verr, .exc _ _ => Ac
 |_, _ => Ad
noncomputable def Dg : Ki -> An
 |.cls _ => Ac
 |.verr => Ac
 |_ => Ad
noncomputable def EY(up : Ag -> Ab Ag)(ks : Ab Ki)(x : D) : R D := match x with
  |.obj _ _ => .bad
  |.exc _ _ => if ks.all Dg = Ac then .ok (.bl (ks.any fun k => kiD up k x)) else .bad
  |.dic _ => .bad
  |_ => if ks.any Dg = Ac then .bad else .ok (.bl (ks.any fun k => kiD up k x))
noncomputable def D4 : D -> R An
 |.non => .ok Ad
 |.bl b => .ok b
 |.int i => .ok (i != 0)
 |_ => .bad
noncomputable def Ev : Ab D -> R An
 |[] => .ok Ac
 |x::r => (D4 x).bind fun b => (Ev r).bind fun c => .ok (b&&c)
noncomputable def FX : Ab D -> R An
 |[] => .ok Ad
 |x::r => (D4 x).bind fun b => (FX r).bind fun c => .ok (b||c)
noncomputable def Hr : Ae -> Ab D -> R Ae
 |a, [] => .ok a
 |a, .int i::r => Hr (a+i) r
 |_, _ => .bad
noncomputable def J8 : Ab D -> Ab D -> Ab D
 |x::xs, y::ys => .tup [x, y]::J8 xs ys
 |_, _ => []
noncomputable def MK : Ab D -> Ab D -> Ab D -> Ab D
 |x::xs, y::ys, z::zs => .tup [x, y, z]::MK xs ys zs
 |_, _, _ => []
noncomputable def MJ(x y z : D) : R (Ab D) := (Dd x).bind fun xs => (Dd y).bind fun ys => (Dd z).bind fun zs => if 0<xs.length /\ xs.length <= 1000 /\ ys.length = xs.length /\ zs.length = xs.length then .ok (MK xs ys zs) else .bad
noncomputable def Ke : Ae -> Ab D -> Ab D
 |_, [] => []
 |i, x::xs => .tup [.int i, x]::Ke (i+1) xs
noncomputable def nlD : Ag -> D -> An
 |_, .non => Ac
 |_, .bl _ => Ac
 |_, .int _ => Ac
 |_, .str _ => Ac
 |n+1, .tup xs => xs.all (nlD n)
 |_, _ => Ad
noncomputable def GQ(fr : An) : D -> An
 |.lst ds => fr&&ds.all (nlD 5)
 |d => nlD 5 d
noncomputable def FV : Ab D -> Al (Ab Ae)
 |[] => Aa []
 |.int i::r => (FV r).map (i :: ·)
 |_ => Af
noncomputable def E6(i : Ae) : Ab Ae -> Ae
 |[] => i
 |j::r => E6 (if j<i then j else i) r
noncomputable def pk2(k n : Ag) : Ab Ag := (B7 ((n-min k n+1) / 2)).map fun j => min k n+2*j
noncomputable def Np(k : Ag)(xs : Ab D) : Ab D := (pk2 k xs.length).filterMap fun i => xs[i]?
noncomputable def ddS(acc : Ab Ae)(x : Ae) : Ab Ae := if acc.any (· == x) = Ac then acc else acc++[x]
noncomputable def ddN(is : Ab Ae) : Ag := (is.foldl ddS []).length
noncomputable def M4(xs : Ab D) : R D := match FV xs with
  |some is => if C7 is.length 4000 = Ac then .ok (.int (ddN is)) else .bad
  |none => .bad
noncomputable def mmD(mx : An)(x y : D) : R D := if [x, y].all (fun d => rkD 1 d && !eqD d (.tup [])) = Ac then .ok (if (if mx = Ac then ltD 1 x y else ltD 1 y x) = Ac then y else x) else .bad
noncomputable def Nl(x y : D) : R D := if [x, y].all (fun d => rkD 1 d && !eqD d (.tup [])) = Ac then .ok (.bl (ltD 1 x y)) else .bad
noncomputable def biD : BI -> Ab D -> R D
  |.len, [.lst xs] => .ok (.int xs.length)
  |.len, [.tup xs] => .ok (.int xs.length)
  |.len, [.str x] => if Cb x.length = Ac then .ok (.int x.length) else .bad
  |.abs, [.int i] => .ok (.int (if i<0 then -i else i))
  |.max, [.int i, .int j] => .ok (.int (if i<j then j else i))
  |.min, [.int i, .int j] => .ok (.int (if j<i then j else i))
  |.min, [.lst xs] => match FV xs with
    |some (i::is) => .ok (.int (E6 i is))
    |_ => .bad
  |.int, [.int i] => .ok (.int i)
  |.int, [.bl b] => .ok (.int (b2i b))
  |.list, [.lst xs] => .ok (.lst xs)
  |.list, [.tup xs] => .ok (.lst xs)
  |.tuple, [.lst xs] => .ok (.tup xs)
  |.tuple, [.tup xs] => .ok (.tup xs)
  |.all, [.lst xs] => (Ev xs).bind fun b => .ok (.bl b)
  |.any, [.lst xs] => (FX xs).bind fun b => .ok (.bl b)
  |.any, [.tup xs] => (FX xs).bind fun b => .ok (.bl b)
  |.sum, [.lst xs] => (Hr 0 xs).bind fun i => .ok (.int i)
  |.sum, [.tup xs] => (Hr 0 xs).bind fun i => .ok (.int i)
  |.sorted, [.lst xs] => (LO xs).bind fun ys => .ok (.lst ys)
  |.count, [.lst xs, x] => if (flD 5 x&&xs.all (flD 5)) = Ac then .ok (.int ((xs.filter fun y => eqD y x).length : Ag)) else .bad
  |.len, [.dic kvs] => if Cb kvs.length = Ac then .ok (.int kvs.length) else .bad
  |.stp, [.lst xs, .int k] => .ok (.lst (Np k.toNat xs))
  |.lset, [.lst xs] => M4 xs
  |.tmin, [x, y] => mmD Ad x y
  |.tmax, [x, y] => mmD Ac x y
  |.tlt, [x, y] => Nl x y
  |.rvs, [.lst xs] => .ok (.lst xs.reverse)
  |_, _ => .bad
noncomputable def slE(c : E)(d : D) : R (Al Ae) := match c with
  |.non => .ok Af
  |_ => (C2 d).bind fun i => .ok (Aa i)
noncomputable def FA(n d : Ag) : Al Ae -> Ag
 |none => d
 |some i => if i<0 then (i+n).toNat else min i.toNat n
noncomputable def GV(xs : Ab D)(lo hi : Al Ae) : Ab D := (xs.drop (FA xs.length 0 lo)).take (FA xs.length xs.length hi-FA xs.length 0 lo)
noncomputable def slD : D -> Al Ae -> Al Ae -> R D
 |.lst xs, l, h => .ok (.lst (GV xs l h))
 |.tup xs, l, h => if (FA xs.length 0 l==0&&FA xs.length xs.length h==xs.length) = Ac then .bad else .ok (.tup (GV xs l h))
 |_, _, _ => .bad
noncomputable def Nr : D -> Aj -> R D
  |.exc _ fs, f => match fs.lookup f with
    |some d => .ok d
    |none => .bad
  |_, _ => .bad
noncomputable def Dv(ρ : Rho)(i : Ag) : R D := match ρ[i]? with
  |some (Aa (d, Ad)) => .ok d
  |_ => .bad
noncomputable def Bg(ρ : Rho)(i : Ag) : R D := match ρ[i]? with
  |some (Aa (d, _)) => .ok d
  |_ => .bad
noncomputable def shE(ρ : Rho) : E -> An
  | .var i => (match ρ[i]? with
    |some (Aa (_, Ac)) => Ad
    | _ => Ac)
  |_ => Ac
noncomputable def FZ(ρ : Rho) : Es -> An
 |.nil => Ac
 |.cons e es => shE ρ e&&FZ ρ es
noncomputable def DY : Ab Ag -> Ab D -> Rho -> Al Rho
 |[], [], ρ => Aa ρ
 |t::ts, d::ds, ρ => DY ts ds (ρ.set t (Aa (d, Ad)))
 |_, _, _ => Af
noncomputable def D0(ts : Ab Ag)(d : D)(ρ : Rho) : R Rho := match d with
  | .tup xs => (match DY ts xs ρ with
    |some ρ' => .ok ρ'
    | none => .bad)
  |_ => .bad
noncomputable def Ih(ts : Ab Ag)(d : D)(ρ : Rho) : R Rho := match d with
  | .lst xs => (match DY ts xs ρ with
    |some ρ' => .ok ρ'
    | none => .bad)
  |d => D0 ts d ρ
noncomputable def Bp(g : D -> R An)(f : D -> R D) : Ab D -> R (Ab D)
 |[] => .ok []
 |x::xs => (g x).bind fun b => if b = Ac then (f x).bind fun y => (Bp g f xs).bind fun ys => .ok (y::ys) else Bp g f xs
noncomputable def noX{α : Type} : R α -> R α
 |.ok a => .ok a
 |_ => .bad
noncomputable def top(ρ : Rho)(e : E)(r : R D) : R D := match e with
  |.var i => Bg ρ i
  |_ => r
mutual
noncomputable def evE(Γ : Gam)(ρ : Rho) : E -> R D
 |.non => .ok .non
 |.bl b => .ok (.bl b)
 |.int i => .ok (.int i)
 |.str x => .ok (.str x)
 |.var i => Dv ρ i
 |.glob g => .ok (Γ.G g)
 |.bin op a b => (top ρ a (evE Γ ρ a)).bind fun x => (top ρ b (evE Γ ρ b)).bind fun y => BR op x y
 |.un op a => (top ρ a (evE Γ ρ a)).bind fun x => unD op x
 |.no a => (top ρ a (evE Γ ρ a)).bind fun x => (Cs x).bind fun b => .ok (.bl (!b))
 |.and es => evN Γ ρ es
 |.or es => evO Γ ρ es
 |.cmp op a b => (top ρ a (evE Γ ρ a)).bind fun x => (top ρ b (evE Γ ρ b)).bind fun y => Bj op x y
 |.cmp2 op op' a b c => (top ρ a (evE Γ ρ a)).bind fun x => (top ρ b (evE Γ ρ b)).bind fun y => (Bj op x y).bind fun z => (Cs z).bind fun k => if k = Ac then (top ρ c (evE Γ ρ c)).bind fun u => Bj op' y u else .ok (.bl Ad)
 |.ite c a b => (top ρ c (evE Γ ρ c)).bind fun x => (Bu x).bind fun k => if k = Ac then evE Γ ρ a else evE Γ ρ b
 |.call f as => (evB Γ ρ as).bind fun xs => (Γ.F f xs).bind fun d => if FZ ρ as = Ac then .ok d else if GQ (Γ.fr f) d = Ac then .ok d else .bad
 |.bi b as => (evB Γ ρ as).bind fun xs => biD b xs
 |.isi a ks => (top ρ a (evE Γ ρ a)).bind fun x => EY Γ.up ks x
 |.idx a i => (top ρ a (evE Γ ρ a)).bind fun x => (top ρ i (evE Γ ρ i)).bind fun y => DH x y
 |.sl a lo hi => (top ρ a (evE Γ ρ a)).bind fun x => (top ρ lo (evE Γ ρ lo)).bind fun l => (slE lo l).bind fun l' => (top ρ hi (evE Γ ρ hi)).bind fun h => (slE hi h).bind fun h' => slD x l' h'
 |.tup es => (evA Γ ρ es).bind fun xs => .ok (.tup xs)
 |.lst es => (evA Γ ρ es).bind fun xs => .ok (.lst xs)
 |.comp elt t it c => (evI Γ ρ it).bind fun xs => (noX (Bp (fun x => (top (ρ.set t (Aa (x, Ad))) c (evE Γ (ρ.set t (Aa (x, Ad))) c)).bind Bu) (fun x => evE Γ (ρ.set t (Aa (x, Ad))) elt) xs)).bind fun ys => .ok (.lst ys)
 |.compT elt ts it c => (evI Γ ρ it).bind fun xs => (noX (Bp (fun x => (D0 ts x ρ).bind fun ρ' => (top ρ' c (evE Γ ρ' c)).bind Bu) (fun x => (D0 ts x ρ).bind fun ρ' => evE Γ ρ' elt) xs)).bind fun ys => .ok (.lst ys)
 |.tupI it => (evI Γ ρ it).bind fun xs => .ok (.tup xs)
 |.dget i k x => (Bg ρ i).bind fun d => (Ii d).bind fun kvs => (top ρ k (evE Γ ρ k)).bind fun a => (De a).bind fun j => (evE Γ ρ x).bind fun y => .ok ((C1 kvs j).getD y)
 |.fld o f => (top ρ o (evE Γ ρ o)).bind fun x => Nr x f
noncomputable def evN(Γ : Gam)(ρ : Rho) : Es -> R D
 |.nil => .bad
 |.cons e .nil => evE Γ ρ e
 |.cons e (.cons e' es) => (evE Γ ρ e).bind fun x => (Cs x).bind fun c => if c = Ac then evN Γ ρ (.cons e' es) else .ok (.bl Ad)
noncomputable def evO(Γ : Gam)(ρ : Rho) : Es -> R D
 |.nil => .bad
 |.cons e .nil => evE Γ ρ e
 |.cons e (.cons e' es) => (evE Γ ρ e).bind fun x => (Cs x).bind fun c => if c = Ac then .ok (.bl Ac) else evO Γ ρ (.cons e' es)
noncomputable def evA(Γ : Gam)(ρ : Rho) : Es -> R (Ab D)
 |.nil => .ok []
 |.cons e es => (evE Γ ρ e).bind fun x => (evA Γ ρ es).bind fun xs => .ok (x::xs)
noncomputable def evB(Γ : Gam)(ρ : Rho) : Es -> R (Ab D)
 |.nil => .ok []
 |.cons e es => (top ρ e (evE Γ ρ e)).bind fun x => (evB Γ ρ es).bind fun xs => .ok (x::xs)
noncomputable def evI(Γ : Gam)(ρ : Rho) : I -> R (Ab D)
 |.e a => (evE Γ ρ a).bind Dd
 |.rng a => (top ρ a (evE Γ ρ a)).bind fun x => (C2 x).bind fun j => Cy 0 j
 |.rng2 a b => (top ρ a (evE Γ ρ a)).bind fun x => (top ρ b (evE Γ ρ b)).bind fun y => (C2 x).bind fun i => (C2 y).bind fun j => Cy i j
 |.zip a b => (evE Γ ρ a).bind fun x => (evE Γ ρ b).bind fun y => (Dd x).bind fun xs => (Dd y).bind fun ys => .ok (J8 xs ys)
 |.zip3 a b c => (evE Γ ρ a).bind fun x => (evE Γ ρ b).bind fun y => (evE Γ ρ c).bind fun z => MJ x y z
 |.enm a => (evE Γ ρ a).bind fun x => (Dd x).bind fun xs => .ok (Ke 0 xs)
end
noncomputable def Dw(Γ : Gam) : E -> An
 |.lst _ => Ac
 |.comp _ _ _ _ => Ac
 |.compT _ _ _ _ => Ac
 |.bin .Add _ _ => Ac
 |.bi .list _ => Ac
 |.bi .sorted _ => Ac
 |.sl _ _ _ => Ac
 |.call f _ => Γ.fr f
 |_ => Ad
mutual
inductive S where
 |pass
 /-- x = e;fresh: x alone holds the new list -/
 |asg (i : Ag) (fresh : An) (e : E)
 /-- a, b, .. = e -/
 |asgT (ts : Ab Ag) (e : E)
 |expr (e : E)
 |ret (e : E)|retN
 |ife (c : E) (a b : Ss)
 |fors (t : Ag) (it : I) (body : Ss)
 |forT (ts : Ab Ag) (it : I) (body : Ss)
 |whl (c : E) (body : Ss)
 /-- raise C(e, ..) -/
 |rais (c : Ag) (as : Es)
 /-- try: body except C as x: h -/
 |tryx (body : Ss) (c : Ag) (x : Ag) (h : Ss)
 /-- .. except C as x: h, except C' as x: h', else: els -/
 |try2 (body : Ss) (c : Ag) (x : Ag) (h : Ss) (c' : Ag) (h' els : Ss)
 /-- x.append(e), x.extend(e), x.insert(k, e), x.reverse(), x.clear() -/
 |app (i : Ag) (e : E)|ext (i : Ag) (e : E)|ins (i : Ag) (k e : E)|rev (i : Ag)|clr (i : Ag)
 /-- d = {}, d[k] = e, d.setdefault(k, e) -/
 |dnw (i : Ag)|dput (i : Ag) (k e : E)|dsd (i : Ag) (k e : E)
 /-- x[k] = e -/
 |put (i : Ag) (k e : E)
 /-- x[k], x[l] = x[l], x[k] -/
 |swp (i k l : Ag)
 /-- x.append(y.pop(e)) -/
 |apop (j i : Ag) (e : E)
 |brk|cont
 /-- nothing: from here on x is no longer changed -/
 |rel (i : Ag)
inductive Ss where
 |nil|cons (s : S) (ss : Ss)
end
inductive O where
 |next (ρ : Rho)|ret (d : D) (fr : An)|brk (ρ : Rho)|cont (ρ : Rho)|exn (x : Ex) (ρ : Rho)|bad
 deriving Inhabited
noncomputable def O.of{α : Type}(ρ : Rho)(r : R α)(f : α -> O) : O := match r with
  |.ok a => f a
  |.exn x => .exn x ρ
  |.bad => .bad
@[simp]theorem O.of_ok(ρ : Rho)(a : α)(f : α -> O) : O.of ρ (.ok a) f = f a := rfl
@[simp]theorem O.of_exn(ρ : Rho)(x : Ex)(f : α -> O) : O.of ρ (.exn x : R α) f = .exn x ρ := rfl
@[simp]theorem O.of_bad(ρ : Rho)(f : α -> O) : O.of ρ (.bad : R α) f = .bad := rfl
noncomputable def E7(Γ : Gam)(ρ : Rho)(i : I) : R (Ab D) := evI Γ ρ i
noncomputable def CG(ρ : Rho)(i : Ag) : R (Ab D) := match ρ[i]? with
  |some (Aa (.lst xs, Ac)) => .ok xs
  |_ => .bad
noncomputable def Ee(ρ : Rho)(i : Ag) : R (Ab (Ab Ae × D)) := match ρ[i]? with
  |some (Aa (.dic xs, Ac)) => .ok xs
  |_ => .bad
noncomputable def MY : Ag := 4096
noncomputable def O.seq(o : O)(f : Rho -> O) : O := match o with
  |.next ρ => f ρ
  |.ret d b => .ret d b
  |.brk ρ => .brk ρ
  |.cont ρ => .cont ρ
  |.exn x ρ => .exn x ρ
  |.bad => .bad
noncomputable def O.turn(o : O)(f : Rho -> O) : O := match o with
  |.next ρ => f ρ
  |.cont ρ => f ρ
  |.brk ρ => .next ρ
  |.ret d b => .ret d b
  |.exn x ρ => .exn x ρ
  |.bad => .bad
noncomputable def Ck(body : D -> Rho -> O) : Ab D -> Rho -> O
 |[], ρ => .next ρ
 |x::xs, ρ => (body x ρ).turn (Ck body xs)
noncomputable def Ka(c : Rho -> R An)(body : Rho -> O) : Ag -> Rho -> O
 |0, _ => .bad
 |n+1, ρ => O.of ρ (c ρ) fun b => if b = Ac then (body ρ).turn (Ka c body n) else .next ρ
noncomputable def M6(ρ : Rho)(k : Ag) : R Ae := (Dv ρ k).bind C2
noncomputable def Xz(ρ : Rho)(d : D)(i k l : Ag) : O := match d with
  |.tup [x, y] => O.of ρ (CG ρ i) fun xs => O.of ρ (M6 ρ k) fun a => O.of ρ (M6 ρ l) fun b => match plD xs.length a, plD xs.length b with
    |some m, Aa n => .next (ρ.set i (Aa (.lst ((xs.set m x).set n y), Ac)))
    |_, _ => .bad
  |_ => .bad
noncomputable def apD(ρ : Rho)(j i : Ag)(ys xs : Ab D)(n : Ae) : O := match plD xs.length n with
  | some m => (match xs[m]? with
    |some d => if (j != i&&(Cb xs.length&&Cb (ys.length+1))) = Ac then .next ((ρ.set i (Aa (.lst (xs.eraseIdx m), Ac))).set j (Aa (.lst (ys++[d]), Ac))) else .bad
    | none => .bad)
  |none => .bad
noncomputable def hdO(i : Ag)(y : Ex)(ρ' : Rho)(fh : Rho -> O) : O := match fh (ρ'.set i (Aa (.exc y.c y.fs, Ad))) with
  |.next ρ'' => .next (ρ''.set i Af)
  |.ret d f => .ret d f
  |_ => .bad
mutual
noncomputable def evS(Γ : Gam)(ρ : Rho) : S -> O
  |.pass => .next ρ
  | .asg i fresh e => O.of ρ (evE Γ ρ e) fun d => if fresh = Ac then (if Dw Γ e = Ac then (match d with
      |.lst xs => .next (ρ.set i (Aa (.lst xs, Ac)))
      | _ => .bad) else .bad) else .next (ρ.set i (Aa (d, Ad)))
  |.asgT ts e => O.of ρ (evE Γ ρ e) fun d => O.of ρ (Ih ts d ρ) fun ρ' => .next ρ'
  |.expr e => O.of ρ (evE Γ ρ e) fun _ => .next ρ
  |.ret e => O.of ρ (top ρ e (evE Γ ρ e)) fun d => .ret d (Dw Γ e||(match e with | .var i => (match ρ[i]? with|some (Aa (_, o)) => o|_ => Ad)|_ => Ad))
  |.retN => .ret .non Ad
  |.ife c a b => O.of ρ ((top ρ c (evE Γ ρ c)).bind Bu) fun k => if k = Ac then evSs Γ ρ a else evSs Γ ρ b
  |.fors t it body => O.of ρ (E7 Γ ρ it) fun xs => Ck (fun x ρ' => evSs Γ (ρ'.set t (Aa (x, Ad))) body) xs ρ
  |.forT ts it body => O.of ρ (E7 Γ ρ it) fun xs => Ck (fun x ρ' => O.of ρ' (D0 ts x ρ') fun ρ'' => evSs Γ ρ'' body) xs ρ
  |.whl c body => Ka (fun ρ' => (top ρ' c (evE Γ ρ' c)).bind Bu) (fun ρ' => evSs Γ ρ' body) MY ρ
  |.rais c as => O.of ρ (noX (evA Γ ρ as)) fun xs => O.of ρ (Γ.xn c xs) fun x => .exn x ρ
  |.tryx body c x h => match evSs Γ ρ body with
      | .exn y ρ' => if (Γ.up y.c).contains c = Ac then (match evSs Γ (ρ'.set x (Aa (.exc y.c y.fs, Ad))) h with
          |.next ρ'' => .next (ρ''.set x Af)
          |.ret d f => .ret d f
          | _ => .bad) else .bad
      |o => o
  |.try2 body c x h c' h' els => match evSs Γ ρ body with
      |.exn y ρ' => if (Γ.up y.c).contains c = Ac then hdO x y ρ' (fun r => evSs Γ r h) else if (Γ.up y.c).contains c' = Ac then hdO x y ρ' (fun r => evSs Γ r h') else .bad
      |.next ρ' => evSs Γ ρ' els
      |o => o
  |.app i e => O.of ρ (CG ρ i) fun xs => O.of ρ (evE Γ ρ e) fun d => if Cb (xs.length+1) = Ac then .next (ρ.set i (Aa (.lst (xs++[d]), Ac))) else .bad
  |.ext i e => O.of ρ (CG ρ i) fun xs => O.of ρ (evE Γ ρ e) fun d => O.of ρ (J5 d) fun ys => if Cb (xs.length+ys.length) = Ac then .next (ρ.set i (Aa (.lst (xs++ys), Ac))) else .bad
  |.ins i k e => O.of ρ (CG ρ i) fun xs => O.of ρ ((top ρ k (evE Γ ρ k)).bind C2) fun j => O.of ρ (evE Γ ρ e) fun d => if (Cb (xs.length+1)&&decide (0 <= j)&&decide (j <= xs.length)) = Ac then .next (ρ.set i (Aa (.lst (xs.take j.toNat++d::xs.drop j.toNat), Ac))) else .bad
  |.rev i => O.of ρ (CG ρ i) fun xs => .next (ρ.set i (Aa (.lst xs.reverse, Ac)))
  |.clr i => O.of ρ (CG ρ i) fun _ => .next (ρ.set i (Aa (.lst [], Ac)))
  |.dnw i => .next (ρ.set i (Aa (.dic [], Ac)))
  |.dput i k e => O.of ρ (evE Γ ρ e) fun d => O.of ρ (Ee ρ i) fun xs => O.of ρ ((top ρ k (evE Γ ρ k)).bind De) fun j => if Cb (xs.length+1) = Ac then .next (ρ.set i (Aa (.dic (Ds xs j d), Ac))) else .bad
  |.dsd i k e => O.of ρ (Ee ρ i) fun xs => O.of ρ ((top ρ k (evE Γ ρ k)).bind De) fun j => O.of ρ (evE Γ ρ e) fun d => if Cb (xs.length+1) = Ac then .next (ρ.set i (Aa (.dic (if (xs.any fun p => p.1==j) = Ac then xs else Ds xs j d), Ac))) else .bad
  |.put i k e => O.of ρ (evE Γ ρ e) fun d => O.of ρ (CG ρ i) fun xs => O.of ρ ((top ρ k (evE Γ ρ k)).bind C2) fun j => match plD xs.length j with
      |some n => .next (ρ.set i (Aa (.lst (xs.set n d), Ac)))
      |none => .bad
  |.swp i k l => O.of ρ (evE Γ ρ (.tup (.cons (.idx (.var i) (.var l)) (.cons (.idx (.var i) (.var k)) .nil)))) fun d => Xz ρ d i k l
  |.apop j i e => O.of ρ (CG ρ j) fun ys => O.of ρ (CG ρ i) fun xs => O.of ρ (evE Γ ρ e) fun d => O.of ρ (C2 d) fun n => apD ρ j i ys xs n
  |.brk => .brk ρ
  |.cont => .cont ρ
  |.rel i => match ρ[i]? with
      |some (Aa (d, Ac)) => .next (ρ.set i (Aa (d, Ad)))
      |_ => .next ρ
noncomputable def evSs(Γ : Gam)(ρ : Rho) : Ss -> O
 |.nil => .next ρ
 |.cons s ss => (evS Γ ρ s).seq fun ρ' => evSs Γ ρ' ss
end
structure Df where
 n : Ag
 fr : An
 body : Ss
noncomputable def BQ(n : Ag)(ds : Ab D) : Rho := ds.map (fun d => Aa (d, Ad))++D9 (n-ds.length) Af
noncomputable def isL : D -> An
 |.lst _ => Ac
 |.dic _ => Ac
 |_ => Ad
noncomputable def O.ans(fr : An)(o : O) : R D := match o with
  |.ret d b => if (fr&&(!b&&isL d)) = Ac then .bad else .ok d
  |.next _ => if fr = Ac then .bad else .ok .non
  |.exn x _ => .exn x
  |_ => .bad
noncomputable def Df.run(Γ : Gam)(f : Df)(ds : Ab D) : R D := (evSs Γ (BQ f.n ds) f.body).ans f.fr
structure Prg where
 xs : An
 defs : Ag -> Df
 G : Ag -> D
 up : Ag -> Ab Ag
 xn : Ag -> Ab D -> R Ex
noncomputable def D1(xs : An)(r : R D) : R D := match xs with
  |true => r
  |false => noX r
noncomputable def gam(P : Prg) : Ag -> Gam
 |0 => ⟨fun _ _ => .bad, P.G, P.up, fun i => (P.defs i).fr, P.xn⟩
 |n+1 => ⟨fun i ds => D1 P.xs ((P.defs i).run (gam P n) ds), P.G, P.up, fun i => (P.defs i).fr, P.xn⟩
end Ov
end
section
namespace Ov
open PySem
variable{α β:Type}{lo hi:Ae}{n:Ag}{x:D}
section
variable(Γ : Gam)(ρ : Rho)
@[simp]theorem ZrN : evE Γ ρ .non = .ok .non := rfl
@[simp]theorem ZtJ(b) : evE Γ ρ (.bl b) = .ok (.bl b) := rfl
@[simp]theorem ZrR(b) : evE Γ ρ (.int b) = .ok (.int b) := rfl
@[simp]theorem ZrM(b) : evE Γ ρ (.str b) = .ok (.str b) := rfl
@[simp]theorem ZrK(i) : evE Γ ρ (.var i) = Dv ρ i := rfl
@[simp]theorem Zox(i) : evE Γ ρ (.glob i) = .ok (Γ.G i) := rfl
@[simp]theorem ZrV(op a b) : evE Γ ρ (.bin op a b) = (top ρ a (evE Γ ρ a)).bind fun x => (top ρ b (evE Γ ρ b)).bind fun y => BR op x y := rfl
@[simp]theorem ZtF(op a) : evE Γ ρ (.un op a) = (top ρ a (evE Γ ρ a)).bind fun x => unD op x := rfl
@[simp]theorem ZtI(a) : evE Γ ρ (.no a) = (top ρ a (evE Γ ρ a)).bind fun x => (Cs x).bind fun b => .ok (.bl (!b)) := rfl
@[simp]theorem ZrW(es) : evE Γ ρ (.and es) = evN Γ ρ es := rfl
@[simp]theorem ZtH(es) : evE Γ ρ (.or es) = evO Γ ρ es := rfl
@[simp]theorem ZrG(e) : evN Γ ρ (.cons e .nil) = evE Γ ρ e := rfl
@[simp]theorem Zoq(e e' es) : evN Γ ρ (.cons e (.cons e' es)) = (evE Γ ρ e).bind fun x => (Cs x).bind fun c => if c = Ac then evN Γ ρ (.cons e' es) else .ok (.bl Ad) := rfl
@[simp]theorem ZrF(e) : evO Γ ρ (.cons e .nil) = evE Γ ρ e := rfl
@[simp]theorem Zop(e e' es) : evO Γ ρ (.cons e (.cons e' es)) = (evE Γ ρ e).bind fun x => (Cs x).bind fun c => if c = Ac then .ok (.bl Ac) else evO Γ ρ (.cons e' es) := rfl
@[simp]theorem ZrU(op a b) : evE Γ ρ (.cmp op a b) = (top ρ a (evE Γ ρ a)).bind fun x => (top ρ b (evE Γ ρ b)).bind fun y => Bj op x y := rfl
@[simp]theorem ZoA(op op' a b c) : evE Γ ρ (.cmp2 op op' a b c) = (top ρ a (evE Γ ρ a)).bind fun x => (top ρ b (evE Γ ρ b)).bind fun y => (Bj op x y).bind fun z => (Cs z).bind fun k => if k = Ac then (top ρ c (evE Γ ρ c)).bind fun u => Bj op' y u else .ok (.bl Ad) := rfl
@[simp]theorem ZrP(c a b) : evE Γ ρ (.ite c a b) = (top ρ c (evE Γ ρ c)).bind fun x => (Bu x).bind fun k => if k = Ac then evE Γ ρ a else evE Γ ρ b := rfl
@[simp]theorem ZoB(f as) : evE Γ ρ (.call f as) = (evB Γ ρ as).bind fun xs => (Γ.F f xs).bind fun d => if FZ ρ as = Ac then .ok d else if GQ (Γ.fr f) d = Ac then .ok d else .bad := rfl
@[simp]theorem ZtK(f as) : evE Γ ρ (.bi f as) = (evB Γ ρ as).bind fun xs => biD f xs := rfl
@[simp]theorem ZrQ(a ks) : evE Γ ρ (.isi a ks) = (top ρ a (evE Γ ρ a)).bind fun x => EY Γ.up ks x := rfl
@[simp]theorem ZrS(a i) : evE Γ ρ (.idx a i) = (top ρ a (evE Γ ρ a)).bind fun x => (top ρ i (evE Γ ρ i)).bind fun y => DH x y := rfl
@[simp]theorem ZtG(a lo hi) : evE Γ ρ (.sl a lo hi) = (top ρ a (evE Γ ρ a)).bind fun x => (top ρ lo (evE Γ ρ lo)).bind fun l => (slE lo l).bind fun l' => (top ρ hi (evE Γ ρ hi)).bind fun h => (slE hi h).bind fun h' => slD x l' h' := rfl
@[simp]theorem ZrL(es) : evE Γ ρ (.tup es) = (evA Γ ρ es).bind fun xs => .ok (.tup xs) := rfl
@[simp]theorem ZrO(es) : evE Γ ρ (.lst es) = (evA Γ ρ es).bind fun xs => .ok (.lst xs) := rfl
noncomputable def cG(Γ : Gam)(ρ : Rho)(t : Ag)(c : E) : D -> R An := fun x => (top (ρ.set t (Aa (x, Ad))) c (evE Γ (ρ.set t (Aa (x, Ad))) c)).bind Bu
noncomputable def cF(Γ : Gam)(ρ : Rho)(t : Ag)(elt : E) : D -> R D := fun x => evE Γ (ρ.set t (Aa (x, Ad))) elt
noncomputable def mkL(r : R (Ab D)) : R D := (noX r).bind fun ys => .ok (.lst ys)
@[simp]theorem Ztg(ys) : mkL (.ok ys) = .ok (.lst ys) := rfl
@[simp]theorem Zoz(elt t it c) : evE Γ ρ (.comp elt t it c) = (evI Γ ρ it).bind fun xs => mkL (Bp (cG Γ ρ t c) (cF Γ ρ t elt) xs) := rfl
noncomputable def cGT(Γ : Gam)(ρ : Rho)(ts : Ab Ag)(c : E) : D -> R An := fun x => (D0 ts x ρ).bind fun ρ' => (top ρ' c (evE Γ ρ' c)).bind Bu
noncomputable def cFT(Γ : Gam)(ρ : Rho)(ts : Ab Ag)(elt : E) : D -> R D := fun x => (D0 ts x ρ).bind fun ρ' => evE Γ ρ' elt
@[simp]theorem ZmK(elt ts it c) : evE Γ ρ (.compT elt ts it c) = (evI Γ ρ it).bind fun xs => mkL (Bp (cGT Γ ρ ts c) (cFT Γ ρ ts elt) xs) := rfl
@[simp]theorem Zow(it) : evE Γ ρ (.tupI it) = (evI Γ ρ it).bind fun xs => .ok (.tup xs) := rfl
@[simp]theorem Zoy(i k x) : evE Γ ρ (.dget i k x) = (Bg ρ i).bind fun d => (Ii d).bind fun kvs => (top ρ k (evE Γ ρ k)).bind fun a => (De a).bind fun j => (evE Γ ρ x).bind fun y => .ok ((C1 kvs j).getD y) := rfl
@[simp]theorem ZrT(o f) : evE Γ ρ (.fld o f) = (top ρ o (evE Γ ρ o)).bind fun x => Nr x f := rfl
@[simp]theorem ZrY : evA Γ ρ .nil = .ok [] := rfl
@[simp]theorem Lg(e es) : evA Γ ρ (.cons e es) = (evE Γ ρ e).bind fun x => (evA Γ ρ es).bind fun xs => .ok (x::xs) := rfl
@[simp]theorem ZrX : evB Γ ρ .nil = .ok [] := rfl
@[simp]theorem Lf(e es) : evB Γ ρ (.cons e es) = (top ρ e (evE Γ ρ e)).bind fun x => (evB Γ ρ es).bind fun xs => .ok (x::xs) := rfl
@[simp]theorem ZuF(a) : evI Γ ρ (.e a) = (evE Γ ρ a).bind Dd := rfl
@[simp]theorem ZrI(a) : evI Γ ρ (.rng a) = (top ρ a (evE Γ ρ a)).bind fun x => (C2 x).bind fun j => Cy 0 j := rfl
@[simp]theorem Zov(a b) : evI Γ ρ (.rng2 a b) = (top ρ a (evE Γ ρ a)).bind fun x => (top ρ b (evE Γ ρ b)).bind fun y => (C2 x).bind fun i => (C2 y).bind fun j => Cy i j := rfl
@[simp]theorem ZrH(a b) : evI Γ ρ (.zip a b) = (evE Γ ρ a).bind fun x => (evE Γ ρ b).bind fun y => (Dd x).bind fun xs => (Dd y).bind fun ys => .ok (J8 xs ys) := rfl
@[simp]theorem Zou(a b c) : evI Γ ρ (.zip3 a b c) = (evE Γ ρ a).bind fun x => (evE Γ ρ b).bind fun y => (evE Γ ρ c).bind fun z => MJ x y z := rfl
@[simp]theorem ZrJ(a) : evI Γ ρ (.enm a) = (evE Γ ρ a).bind fun x => (Dd x).bind fun xs => .ok (Ke 0 xs) := rfl
@[simp]theorem Zor(a b) : E7 Γ ρ (.zip a b) = evI Γ ρ (.zip a b) := rfl
@[simp]theorem ZmI(a b c) : E7 Γ ρ (.zip3 a b c) = evI Γ ρ (.zip3 a b c) := rfl
@[simp]theorem Zot(a) : E7 Γ ρ (.enm a) = evI Γ ρ (.enm a) := rfl
@[simp]theorem ZtE(a) : E7 Γ ρ (.e a) = (evE Γ ρ a).bind Dd := rfl
@[simp]theorem Zos(a) : E7 Γ ρ (.rng a) = evI Γ ρ (.rng a) := rfl
@[simp]theorem ZmJ(a b) : E7 Γ ρ (.rng2 a b) = evI Γ ρ (.rng2 a b) := rfl
variable(r : R D)
@[simp]theorem ZoY(i) : top ρ (.var i) r = Bg ρ i := rfl
@[simp]theorem Zo1 : top ρ .non r = r := rfl
@[simp]theorem ZsN(b) : top ρ (.bl b) r = r := rfl
@[simp]theorem Zo5(b) : top ρ (.int b) r = r := rfl
@[simp]theorem Zo0(b) : top ρ (.str b) r = r := rfl
@[simp]theorem ZnI(b) : top ρ (.glob b) r = r := rfl
@[simp]theorem Zo9(op a b) : top ρ (.bin op a b) r = r := rfl
@[simp]theorem ZsJ(op a) : top ρ (.un op a) r = r := rfl
@[simp]theorem ZsM(a) : top ρ (.no a) r = r := rfl
@[simp]theorem Zpa(a) : top ρ (.and a) r = r := rfl
@[simp]theorem ZsL(a) : top ρ (.or a) r = r := rfl
@[simp]theorem Zo8(op a b) : top ρ (.cmp op a b) r = r := rfl
@[simp]theorem ZnL(op op' a b c) : top ρ (.cmp2 op op' a b c) r = r := rfl
@[simp]theorem Zo3(a b c) : top ρ (.ite a b c) r = r := rfl
@[simp]theorem ZnM(a b) : top ρ (.call a b) r = r := rfl
@[simp]theorem ZsO(a b) : top ρ (.bi a b) r = r := rfl
@[simp]theorem Zo4(a b) : top ρ (.isi a b) r = r := rfl
@[simp]theorem Zo6(a b) : top ρ (.idx a b) r = r := rfl
@[simp]theorem ZsK(a b c) : top ρ (.sl a b c) r = r := rfl
@[simp]theorem ZoZ(a) : top ρ (.tup a) r = r := rfl
@[simp]theorem Zo2(a) : top ρ (.lst a) r = r := rfl
@[simp]theorem ZnK(a b c d) : top ρ (.comp a b c d) r = r := rfl
@[simp]theorem Zo7(a b) : top ρ (.fld a b) r = r := rfl
@[simp]theorem ZkN(a b c d) : top ρ (.compT a b c d) r = r := rfl
@[simp]theorem ZnH(a) : top ρ (.tupI a) r = r := rfl
@[simp]theorem ZnJ(i k x) : top ρ (.dget i k x) r = r := rfl
end
@[simp]theorem ZkH(x : D × An)(ρ : Rho) : Bg (Aa x::ρ) 0 = .ok x.1 := rfl
@[simp]theorem ZkI(x : D)(ρ : Rho) : Dv (Aa (x, Ad)::ρ) 0 = .ok x := rfl
@[simp]theorem Zkp(x : Sl)(ρ : Rho)(i : Ag)[NeZero i] : Bg (x::ρ) i = Bg ρ (i-1) := by
 obtain⟨j, rfl⟩ : ∃ j, i = j+1 := ⟨i-1, by have := GW i;omega⟩
 rfl
@[simp]theorem Zkq(x : Sl)(ρ : Rho)(i : Ag)[NeZero i] : Dv (x::ρ) i = Dv ρ (i-1) := by
 obtain⟨j, rfl⟩ : ∃ j, i = j+1 := ⟨i-1, by have := GW i;omega⟩
 rfl
noncomputable def shV(ρ : Rho)(i : Ag) : An := match ρ[i]? with
    |some (Aa (_, Ac)) => Ad
    |_ => Ac
@[simp]theorem ZnP(x : D)(b : An)(ρ : Rho) : shV (Aa (x, b)::ρ) 0 = !b := by cases b <;> rfl
@[simp]theorem Zlb(ρ : Rho) : shV (Af::ρ) 0 = Ac := rfl
@[simp]theorem Zlc(x : Sl)(ρ : Rho)(i : Ag)[NeZero i] : shV (x::ρ) i = shV ρ (i-1) := by
 obtain⟨j, rfl⟩ : ∃ j, i = j+1 := ⟨i-1, by have := GW i;omega⟩
 rfl
section
variable(ρ : Rho)
@[simp]theorem Zpy(i) : shE ρ (.var i) = shV ρ i := rfl
@[simp]theorem ZpB : shE ρ .non = Ac := rfl
@[simp]theorem Zs3(b) : shE ρ (.bl b) = Ac := rfl
@[simp]theorem ZpF(b) : shE ρ (.int b) = Ac := rfl
@[simp]theorem ZpA(b) : shE ρ (.str b) = Ac := rfl
@[simp]theorem ZnS(b) : shE ρ (.glob b) = Ac := rfl
@[simp]theorem ZpJ(op a b) : shE ρ (.bin op a b) = Ac := rfl
@[simp]theorem ZsZ(op a) : shE ρ (.un op a) = Ac := rfl
@[simp]theorem Zs2(a) : shE ρ (.no a) = Ac := rfl
@[simp]theorem ZpK(a) : shE ρ (.and a) = Ac := rfl
@[simp]theorem Zs1(a) : shE ρ (.or a) = Ac := rfl
@[simp]theorem ZpI(op a b) : shE ρ (.cmp op a b) = Ac := rfl
@[simp]theorem ZnV(op op' a b c) : shE ρ (.cmp2 op op' a b c) = Ac := rfl
@[simp]theorem ZpD(a b c) : shE ρ (.ite a b c) = Ac := rfl
@[simp]theorem ZnW(a b) : shE ρ (.call a b) = Ac := rfl
@[simp]theorem Zs4(a b) : shE ρ (.bi a b) = Ac := rfl
@[simp]theorem ZpE(a b) : shE ρ (.isi a b) = Ac := rfl
@[simp]theorem ZpG(a b) : shE ρ (.idx a b) = Ac := rfl
@[simp]theorem Zs0(a b c) : shE ρ (.sl a b c) = Ac := rfl
@[simp]theorem Zpz(a) : shE ρ (.tup a) = Ac := rfl
@[simp]theorem ZpC(a) : shE ρ (.lst a) = Ac := rfl
@[simp]theorem ZnU(a b c d) : shE ρ (.comp a b c d) = Ac := rfl
@[simp]theorem Zld(a b c d) : shE ρ (.compT a b c d) = Ac := rfl
@[simp]theorem ZnR(a) : shE ρ (.tupI a) = Ac := rfl
@[simp]theorem ZnT(i k x) : shE ρ (.dget i k x) = Ac := rfl
@[simp]theorem ZpH(a b) : shE ρ (.fld a b) = Ac := rfl
@[simp]theorem ZnQ : FZ ρ .nil = Ac := rfl
@[simp]theorem Ps(e es) : FZ ρ (.cons e es) = (shE ρ e&&FZ ρ es) := rfl
end
@[simp]theorem Zkr(ρ : Rho) : DY [] [] ρ = Aa ρ := rfl
@[simp]theorem ZiM(t ts d ds)(ρ : Rho) : DY (t::ts) (d::ds) ρ = DY ts ds (ρ.set t (Aa (d, Ad))) := rfl
@[simp]theorem Zng(ts ds)(ρ : Rho) : Ih ts (.lst ds) ρ = match DY ts ds ρ with
  |some ρ' => .ok ρ'
  |none => .bad := rfl
@[simp]theorem Znf(ts ds)(ρ : Rho) : Ih ts (.tup ds) ρ = D0 ts (.tup ds) ρ := rfl
@[simp]theorem PX(ts ds)(ρ : Rho) : D0 ts (.tup ds) ρ = match DY ts ds ρ with
  |some ρ' => .ok ρ'
  |none => .bad := rfl
@[simp]theorem ZoJ(c : Prop)[DK c](a b : R α)(f : α -> R β) : (if c then a else b).bind f = if c then a.bind f else b.bind f := by split <;> rfl
@[simp]theorem Zte(ρ : Rho)(c : Prop)[DK c](a b : R α)(f : α -> O) : O.of ρ (if c then a else b) f = if c then O.of ρ a f else O.of ρ b f := by split <;> rfl
@[simp]theorem ZqQ(ρ : Rho)(a : R α)(g : α -> R β)(f : β -> O) : O.of ρ (a.bind g) f = O.of ρ a fun x => O.of ρ (g x) f := by cases a <;> rfl
@[simp]theorem ZpM(c : Prop)[DK c](a b : O)(f : Rho -> O) : O.seq (if c then a else b) f = if c then a.seq f else b.seq f := by split <;> rfl
@[simp]theorem Znx(c : Prop)[DK c](a b : O)(f : Rho -> O) : O.turn (if c then a else b) f = if c then a.turn f else b.turn f := by split <;> rfl
@[simp]theorem Zsq(fr : An)(c : Prop)[DK c](a b : O) : O.ans fr (if c then a else b) = if c then a.ans fr else b.ans fr := by split <;> rfl
@[simp]theorem ZnX(ρ f) : O.seq (.next ρ) f = f ρ := rfl
@[simp]theorem ZpL(d b f) : O.seq (.ret d b) f = .ret d b := rfl
@[simp]theorem ZpO(ρ f) : O.seq (.brk ρ) f = .brk ρ := rfl
@[simp]theorem ZnY(ρ f) : O.seq (.cont ρ) f = .cont ρ := rfl
@[simp]theorem ZpN(x ρ f) : O.seq (.exn x ρ) f = .exn x ρ := rfl
@[simp]theorem ZpP(f) : O.seq .bad f = .bad := rfl
@[simp]theorem ZkJ(ρ f) : O.turn (.next ρ) f = f ρ := rfl
@[simp]theorem Znw(d b f) : O.turn (.ret d b) f = .ret d b := rfl
@[simp]theorem Znz(ρ f) : O.turn (.brk ρ) f = .next ρ := rfl
@[simp]theorem ZkK(ρ f) : O.turn (.cont ρ) f = f ρ := rfl
@[simp]theorem Zny(x ρ f) : O.turn (.exn x ρ) f = .exn x ρ := rfl
@[simp]theorem ZnA(f) : O.turn .bad f = .bad := rfl
@[simp]theorem ZoL(ρ) : O.ans Ad (.next ρ) = .ok .non := rfl
@[simp]theorem Zsp(d b) : O.ans Ad (.ret d b) = .ok d := rfl
@[simp]theorem ZoK(d b) : O.ans Ac (.ret d b) = if (!b&&isL d) = Ac then .bad else .ok d := rfl
@[simp]theorem Zre(d) : isL (.lst d) = Ac := rfl
@[simp]theorem Zrd(d) : isL (.tup d) = Ad := rfl
@[simp]theorem Zrf(d) : isL (.int d) = Ad := rfl
@[simp]theorem Zsr(fr x ρ) : O.ans fr (.exn x ρ) = .exn x := rfl
@[simp]theorem Zss(fr) : O.ans fr .bad = .bad := rfl
@[simp]theorem ZtU(i j : Ae) : BR .Add (.int i) (.int j) = .ok (.int (i+j)) := rfl
@[simp]theorem ZsU(i j : Ae) : BR .Sub (.int i) (.int j) = .ok (.int (i-j)) := rfl
@[simp]theorem UL(i j : Ae) : BR .Mult (.int i) (.int j) = if (BO i j||Fx i j) = Ac then .ok (.int (i*j)) else .bad := rfl
@[simp]theorem Se(i j : Ae) : BR .FloorDiv (.int i) (.int j) = if 0<j /\ j<1073741824 then .ok (.int (i / j)) else .bad := rfl
@[simp]theorem UN(i j : Ae) : BR .Mod (.int i) (.int j) = if 0<j then .ok (.int (i%j)) else .bad := rfl
@[simp]theorem TM(i j : Ae) : BR .Pow (.int i) (.int j) = if (0 <= j /\ j <= 1000000) /\ (-(18446744073709551616 : Ae)<i /\ i<18446744073709551616) then .ok (.int (i ^ j.toNat)) else .bad := rfl
@[simp]theorem Vc(x y : Aj) : BR .Add (.str x) (.str y) = if Cb (x.length+y.length) = Ac then .ok (.str (x++y)) else .bad := rfl
@[simp]theorem MG(x y : Ab D) : BR .Add (.lst x) (.lst y) = if Cb (x.length+y.length) = Ac then .ok (.lst (x++y)) else .bad := rfl
@[simp]theorem Vb(x y : Ab D) : BR .Add (.tup x) (.tup y) = if (!x.isEmpty&&Cb (x.length+y.length)) = Ac then .ok (.tup (x++y)) else .bad := rfl
@[simp]theorem Zun(i : Ae) : unD .USub (.int i) = .ok (.int (-i)) := rfl
@[simp]theorem WL(x y : D) : Bj .Eq x y = if (flD 5 x&&flD 5 y) = Ac then .ok (.bl (eqD x y)) else .bad := rfl
@[simp]theorem We(x y : D) : Bj .NotEq x y = if (flD 5 x&&flD 5 y) = Ac then .ok (.bl (!eqD x y)) else .bad := rfl
@[simp]theorem Zuo(i j : Ae) : Bj .Lt (.int i) (.int j) = .ok (.bl (decide (i<j))) := rfl
@[simp]theorem Zur(i j : Ae) : Bj .LtE (.int i) (.int j) = .ok (.bl (decide (i <= j))) := rfl
@[simp]theorem ZuC(i j : Ae) : Bj .Gt (.int i) (.int j) = .ok (.bl (decide (j<i))) := rfl
@[simp]theorem ZuD(i j : Ae) : Bj .GtE (.int i) (.int j) = .ok (.bl (decide (j <= i))) := rfl
@[simp]theorem Xj(x : D)(ys : Ab D) : Bj .In x (.lst ys) = if (flD 5 x&&ys.all (flD 5)) = Ac then .ok (.bl (ys.any fun y => eqD y x)) else .bad := rfl
@[simp]theorem Xi(x : D)(ys : Ab D) : Bj .In x (.tup ys) = if (flD 5 x&&ys.all (flD 5)) = Ac then .ok (.bl (ys.any fun y => eqD y x)) else .bad := rfl
@[simp]theorem Wc(x : D)(ys : Ab D) : Bj .NotIn x (.lst ys) = if (flD 5 x&&ys.all (flD 5)) = Ac then .ok (.bl (!ys.any fun y => eqD y x)) else .bad := rfl
@[simp]theorem Wb(x : D)(ys : Ab D) : Bj .NotIn x (.tup ys) = if (flD 5 x&&ys.all (flD 5)) = Ac then .ok (.bl (!ys.any fun y => eqD y x)) else .bad := rfl
@[simp]theorem Ztr : Bj .Is .non .non = .ok (.bl Ac) := rfl
@[simp]theorem Ztt(i) : Bj .Is (.int i) .non = .ok (.bl Ad) := rfl
@[simp]theorem Ztq(i) : Bj .Is (.tup i) .non = .ok (.bl Ad) := rfl
@[simp]theorem Zts(i) : Bj .Is (.lst i) .non = .ok (.bl Ad) := rfl
@[simp]theorem Zuw(a b) : Bj .Is (.bl a) (.bl b) = .ok (.bl (a==b)) := rfl
@[simp]theorem Zto(a b) : Bj .IsNot (.bl a) (.bl b) = .ok (.bl (!(a==b))) := rfl
@[simp]theorem Zq3 : Bj .IsNot .non .non = .ok (.bl Ad) := rfl
@[simp]theorem Zq5(i) : Bj .IsNot (.int i) .non = .ok (.bl Ac) := rfl
@[simp]theorem Zq2(i) : Bj .IsNot (.tup i) .non = .ok (.bl Ac) := rfl
@[simp]theorem Zq4(i) : Bj .IsNot (.lst i) .non = .ok (.bl Ac) := rfl
@[simp]theorem Zr4(i j : Ae) : eqD (.int i) (.int j) = (i==j) := rfl
@[simp]theorem ZtL(i j : An) : eqD (.bl i) (.bl j) = (i==j) := rfl
@[simp]theorem Zr1(i j : Aj) : eqD (.str i) (.str j) = (i==j) := rfl
@[simp]theorem Zr0(i j : Ab D) : eqD (.tup i) (.tup j) = eqDs i j := rfl
@[simp]theorem Zr3(i j : Ab D) : eqD (.lst i) (.lst j) = eqDs i j := rfl
@[simp]theorem Zr2 : eqD .non .non = Ac := rfl
@[simp]theorem ZjR(i) : eqD .non (.int i) = Ad := rfl
@[simp]theorem ZjS(i) : eqD (.int i) .non = Ad := rfl
@[simp]theorem ZoC : eqDs [] [] = Ac := rfl
@[simp]theorem Jk(x y : D)(xs ys : Ab D) : eqDs (x::xs) (y::ys) = (eqD x y&&eqDs xs ys) := rfl
@[simp]theorem Zrs(n)(i : Ae) : flD n (.int i) = Ac := by cases n <;> rfl
@[simp]theorem ZtD(n)(i : An) : flD n (.bl i) = Ac := by cases n <;> rfl
@[simp]theorem Zrq(n)(i : Aj) : flD n (.str i) = Ac := by cases n <;> rfl
@[simp]theorem Zrr(n) : flD n .non = Ac := by cases n <;> rfl
@[simp]theorem Zn3(i) : flD 5 (.tup i) = i.all (flD 4) := rfl
@[simp]theorem Zn8(i) : flD 5 (.lst i) = i.all (flD 4) := rfl
@[simp]theorem Zn4(i) : flD 4 (.tup i) = i.all (flD 3) := rfl
@[simp]theorem Zn9(i) : flD 4 (.lst i) = i.all (flD 3) := rfl
@[simp]theorem Zn5(i) : flD 3 (.tup i) = i.all (flD 2) := rfl
@[simp]theorem Zoa(i) : flD 3 (.lst i) = i.all (flD 2) := rfl
@[simp]theorem Zn6(i) : flD 2 (.tup i) = i.all (flD 1) := rfl
@[simp]theorem Zob(i) : flD 2 (.lst i) = i.all (flD 1) := rfl
@[simp]theorem Zn7(i) : flD 1 (.tup i) = i.all (flD 0) := rfl
@[simp]theorem Zoc(i) : flD 1 (.lst i) = i.all (flD 0) := rfl
@[simp]theorem ZoW(b) : Bu (.bl b) = .ok b := rfl
@[simp]theorem ZnE(i) : Bu (.int i) = .ok (i != 0) := rfl
@[simp]theorem ZnD(i) : Bu (.lst i) = .ok (!i.isEmpty) := rfl
@[simp]theorem ZnB(i) : Bu (.tup i) = .ok (!i.isEmpty) := rfl
@[simp]theorem ZnC : Bu .non = .ok Ad := rfl
@[simp]theorem ZoX(b) : D4 (.bl b) = .ok b := rfl
@[simp]theorem ZnG(i) : D4 (.int i) = .ok (i != 0) := rfl
@[simp]theorem ZnF : D4 .non = .ok Ad := rfl
@[simp]theorem Zno : Ev [] = .ok Ac := rfl
@[simp]theorem Jp(x r) : Ev (x::r) = (D4 x).bind fun b => (Ev r).bind fun c => .ok (b&&c) := rfl
@[simp]theorem Znm : FX [] = .ok Ad := rfl
@[simp]theorem ZkB(x r) : FX (x::r) = (D4 x).bind fun b => (FX r).bind fun c => .ok (b||c) := rfl
@[simp]theorem Zsc(b)(d) : D1 b (.ok d) = .ok d := by cases b <;> rfl
@[simp]theorem ZoE(b) : D1 b .bad = .bad := by cases b <;> rfl
@[simp]theorem ZoD(x) : D1 Ac (.exn x) = .exn x := rfl
@[simp]theorem Zkx(r) : D1 Ad r = noX r := rfl
@[simp]theorem ZqR(a : α) : noX (.ok a) = .ok a := rfl
@[simp]theorem ZqT : noX (.bad : R α) = .bad := rfl
@[simp]theorem ZqS(x) : noX (.exn x : R α) = .bad := rfl
@[simp]theorem Zsm(b) : Cs (.bl b) = .ok b := rfl
@[simp]theorem P9(b) : C2 (.int b) = .ok b := rfl
@[simp]theorem Znj(b) : J5 (.lst b) = .ok b := rfl
@[simp]theorem Zni(b) : Dd (.lst b) = .ok b := rfl
@[simp]theorem Znh(b) : Dd (.tup b) = .ok b := rfl
@[simp]theorem WO(xs i) : DH (.lst xs) (.int i) = CH xs i := rfl
@[simp]theorem WN(xs i) : DH (.tup xs) (.int i) = CH xs i := rfl
@[simp]theorem Zuq(xs) : biD .len [.lst xs] = .ok (.int xs.length) := rfl
@[simp]theorem Zup(xs) : biD .len [.tup xs] = .ok (.int xs.length) := rfl
@[simp]theorem ZuJ(i) : biD .abs [.int i] = .ok (.int (if i<0 then -i else i)) := rfl
@[simp]theorem Zti(i j) : biD .max [.int i, .int j] = .ok (.int (if i<j then j else i)) := rfl
@[simp]theorem Zth(i j) : biD .min [.int i, .int j] = .ok (.int (if j<i then j else i)) := rfl
@[simp]theorem Zux(i) : biD .int [.int i] = .ok (.int i) := rfl
@[simp]theorem Zuy(i) : biD .int [.bl i] = .ok (.int (b2i i)) := rfl
@[simp]theorem Ztn(i) : biD .list [.lst i] = .ok (.lst i) := rfl
@[simp]theorem Ztm(i) : biD .list [.tup i] = .ok (.lst i) := rfl
@[simp]theorem ZoV(i) : biD .tuple [.lst i] = .ok (.tup i) := rfl
@[simp]theorem ZoU(i) : biD .tuple [.tup i] = .ok (.tup i) := rfl
@[simp]theorem W5(i) : biD .all [.lst i] = (Ev i).bind fun b => .ok (.bl b) := rfl
@[simp]theorem ZuI(i) : biD .any [.lst i] = (FX i).bind fun b => .ok (.bl b) := rfl
@[simp]theorem ZuH(i) : biD .any [.tup i] = (FX i).bind fun b => .ok (.bl b) := rfl
@[simp]theorem Zue(i) : biD .sum [.lst i] = (Hr 0 i).bind fun b => .ok (.int b) := rfl
@[simp]theorem Zud(i) : biD .sum [.tup i] = (Hr 0 i).bind fun b => .ok (.int b) := rfl
@[simp]theorem ZnO(i) : biD .sorted [.lst i] = (LO i).bind fun b => .ok (.lst b) := rfl
@[simp]theorem Zuf(xs k) : biD .stp [.lst xs, .int k] = .ok (.lst (Np k.toNat xs)) := rfl
@[simp]theorem Zuj(xs) : biD .rvs [.lst xs] = .ok (.lst xs.reverse) := rfl
@[simp]theorem Ztk(xs) : biD .lset [.lst xs] = M4 xs := rfl
@[simp]theorem ZsP(x y) : biD .tmin [x, y] = mmD Ad x y := rfl
@[simp]theorem Zt1(x y) : biD .tlt [x, y] = Nl x y := rfl
@[simp]theorem ZsQ(x y) : biD .tmax [x, y] = mmD Ac x y := rfl
@[simp]theorem Zsf(xs x) : biD .count [.lst xs, x] = if (flD 5 x&&xs.all (flD 5)) = Ac then .ok (.int ((xs.filter fun y => eqD y x).length : Ag)) else .bad := rfl
@[simp]theorem XB(xs lo hi) : slD (.tup xs) lo hi = if (FA xs.length 0 lo==0&&FA xs.length xs.length hi==xs.length) = Ac then .bad else .ok (.tup (GV xs lo hi)) := rfl
@[simp]theorem ZuT(xs lo hi) : slD (.lst xs) lo hi = .ok (.lst (GV xs lo hi)) := rfl
@[simp]theorem Zpv(d) : slE .non d = .ok Af := rfl
@[simp]theorem Zpw(k i) : slE (.int k) (.int i) = .ok (Aa i) := rfl
@[simp]theorem Zpu(k i) : slE (.var k) (.int i) = .ok (Aa i) := rfl
@[simp]theorem Zpx(op a b i) : slE (.bin op a b) (.int i) = .ok (Aa i) := rfl
@[simp]theorem ZsX(op a i) : slE (.un op a) (.int i) = .ok (Aa i) := rfl
@[simp]theorem ZsY(b as i) : slE (.bi b as) (.int i) = .ok (Aa i) := rfl
@[simp]theorem Zq8(up ks) : EY up ks .non = if ks.any Dg = Ac then .bad else .ok (.bl (ks.any fun k => kiD up k .non)) := rfl
@[simp]theorem Ztp(up ks b) : EY up ks (.bl b) = if ks.any Dg = Ac then .bad else .ok (.bl (ks.any fun k => kiD up k (.bl b))) := rfl
@[simp]theorem Zra(up ks b) : EY up ks (.int b) = if ks.any Dg = Ac then .bad else .ok (.bl (ks.any fun k => kiD up k (.int b))) := rfl
@[simp]theorem Zq7(up ks b) : EY up ks (.str b) = if ks.any Dg = Ac then .bad else .ok (.bl (ks.any fun k => kiD up k (.str b))) := rfl
@[simp]theorem Zq6(up ks b) : EY up ks (.tup b) = if ks.any Dg = Ac then .bad else .ok (.bl (ks.any fun k => kiD up k (.tup b))) := rfl
@[simp]theorem Zq9(up ks b) : EY up ks (.lst b) = if ks.any Dg = Ac then .bad else .ok (.bl (ks.any fun k => kiD up k (.lst b))) := rfl
@[simp]theorem Zrb(up ks c f) : EY up ks (.exc c f) = if ks.all Dg = Ac then .ok (.bl (ks.any fun k => kiD up k (.exc c f))) else .bad := rfl
@[simp]theorem ZoH(c) : Dg (.cls c) = Ac := rfl
@[simp]theorem ZmU : Dg .verr = Ac := rfl
@[simp]theorem ZoG : Dg .int = Ad := rfl
@[simp]theorem ZmW : Dg .bool = Ad := rfl
@[simp]theorem ZoF : Dg .str = Ad := rfl
@[simp]theorem ZmV : Dg .list = Ad := rfl
@[simp]theorem Zkz : Dg .tuple = Ad := rfl
@[simp]theorem Zku(up i) : kiD up .int (.int i) = Ac := rfl
@[simp]theorem Zkt(up) : kiD up .int .non = Ad := rfl
@[simp]theorem ZjF(up i) : kiD up .bool (.int i) = Ad := rfl
@[simp]theorem Zks(up i) : kiD up .int (.tup i) = Ad := rfl
@[simp]theorem Zkw(up i) : kiD up .bool (.bl i) = Ac := rfl
@[simp]theorem ZjE(up) : kiD up .bool .non = Ad := rfl
@[simp]theorem ZjD(up i) : kiD up .list (.lst i) = Ac := rfl
@[simp]theorem ZhY(up i) : kiD up .tuple (.tup i) = Ac := rfl
@[simp]theorem ZhZ(up) : kiD up .tuple .non = Ad := rfl
@[simp]theorem Zkv(up c k f) : kiD up (.cls c) (.exc k f) = (up k).contains c := rfl
@[simp]theorem ZjC(up k f) : kiD up .verr (.exc k f) = Ac := rfl
theorem Js{xs:Ab D}{i:Ae}{d:D}(h0 : 0 <= i)(h : xs[i.toNat]? = Aa d) : CH xs i = .ok d := by
 unfold CH plD;obtain⟨h1, _⟩ := AU.mp h;rw[AF h0, AF (by omega)]
 dsimp only;rw[h]
section
variable(Γ : Gam)(ρ : Rho)
@[simp]theorem Zod : evSs Γ ρ .nil = .next ρ := rfl
noncomputable def DI(Γ : Gam)(ss : Ss)(o : O) : O := o.seq fun ρ' => evSs Γ ρ' ss
@[simp]theorem ZmG(s ss) : evSs Γ ρ (.cons s ss) = DI Γ ss (evS Γ ρ s) := rfl
@[simp]theorem Zrk(ss) : DI Γ ss (.next ρ) = evSs Γ ρ ss := rfl
@[simp]theorem Ztv(ss d b) : DI Γ ss (.ret d b) = .ret d b := rfl
@[simp]theorem Ztz(ss) : DI Γ ss (.brk ρ) = .brk ρ := rfl
@[simp]theorem Zrl(ss) : DI Γ ss (.cont ρ) = .cont ρ := rfl
@[simp]theorem Zty(ss x) : DI Γ ss (.exn x ρ) = .exn x ρ := rfl
@[simp]theorem ZtA(ss) : DI Γ ss .bad = .bad := rfl
@[simp]theorem Ztx(ss)(c : Prop)[DK c](a b : O) : DI Γ ss (if c then a else b) = if c then DI Γ ss a else DI Γ ss b := by split <;> rfl
@[simp]theorem Ztw(o : O) : DI Γ .nil o = o := by cases o <;> rfl
noncomputable def B2(Γ : Gam)(t : Ag)(body : Ss) : D -> Rho -> O := fun x ρ' => evSs Γ (ρ'.set t (Aa (x, Ad))) body
noncomputable def whC(Γ : Gam)(c : E) : Rho -> R An := fun ρ' => (top ρ' c (evE Γ ρ' c)).bind Bu
noncomputable def whB(Γ : Gam)(body : Ss) : Rho -> O := fun ρ' => evSs Γ ρ' body
noncomputable def Kg(Γ : Gam)(t : Ag)(body : Ss)(ρ : Rho)(r : R (Ab D)) : O := O.of ρ r fun xs => Ck (B2 Γ t body) xs ρ
@[simp]theorem Zro(t body xs) : Kg Γ t body ρ (.ok xs) = Ck (B2 Γ t body) xs ρ := rfl
@[simp]theorem Zoi : evS Γ ρ .pass = .next ρ := rfl
@[simp]theorem ZrD(i e) : evS Γ ρ (.asg i Ad e) = O.of ρ (evE Γ ρ e) fun d => .next (ρ.set i (Aa (d, Ad))) := rfl
@[simp]theorem Zol(e) : evS Γ ρ (.expr e) = O.of ρ (evE Γ ρ e) fun _ => .next ρ := rfl
@[simp]theorem Zrw(e) : evS Γ ρ (.ret e) = O.of ρ (top ρ e (evE Γ ρ e)) fun d => .ret d (Dw Γ e||(match e with | .var i => (match ρ[i]? with|some (Aa (_, o)) => o|_ => Ad)|_ => Ad)) := rfl
@[simp]theorem Zog : evS Γ ρ .retN = .ret .non Ad := rfl
@[simp]theorem Zrx(c a b) : evS Γ ρ (.ife c a b) = O.of ρ ((top ρ c (evE Γ ρ c)).bind Bu) fun k => if k = Ac then evSs Γ ρ a else evSs Γ ρ b := rfl
@[simp]theorem Zoj(t it body) : evS Γ ρ (.fors t it body) = Kg Γ t body ρ (E7 Γ ρ it) := rfl
noncomputable def FW(Γ : Gam)(ts : Ab Ag)(body : Ss) : D -> Rho -> O := fun x ρ' => O.of ρ' (D0 ts x ρ') fun ρ'' => evSs Γ ρ'' body
noncomputable def MZ(Γ : Gam)(ts : Ab Ag)(body : Ss)(ρ : Rho)(r : R (Ab D)) : O := O.of ρ r fun xs => Ck (FW Γ ts body) xs ρ
@[simp]theorem Zn2(t body xs) : MZ Γ t body ρ (.ok xs) = Ck (FW Γ t body) xs ρ := rfl
@[simp]theorem Zok(t it body) : evS Γ ρ (.forT t it body) = MZ Γ t body ρ (E7 Γ ρ it) := rfl
@[simp]theorem Zoo(ts e) : evS Γ ρ (.asgT ts e) = O.of ρ (evE Γ ρ e) fun d => O.of ρ (Ih ts d ρ) fun ρ' => .next ρ' := rfl
theorem QQ(i e) : evS Γ ρ (.asg i Ac e) = O.of ρ (evE Γ ρ e) fun d => if Dw Γ e = Ac then (match d with
      |.lst xs => .next (ρ.set i (Aa (.lst xs, Ac)))
      | _ => .bad) else .bad := rfl
noncomputable def setF(ρ : Rho)(i : Ag) : D -> O
 |.lst xs => .next (ρ.set i (Aa (.lst xs, Ac)))
 |_ => .bad
@[simp]theorem Zs5(i xs) : setF ρ i (.lst xs) = .next (ρ.set i (Aa (.lst xs, Ac))) := rfl
@[simp]theorem ZmH(i e) : evS Γ ρ (.asg i Ac e) = O.of ρ (evE Γ ρ e) fun d => if Dw Γ e = Ac then setF ρ i d else .bad := by
 rw[QQ]
 congr 1
@[simp]theorem ZrE(i e) : evS Γ ρ (.app i e) = O.of ρ (CG ρ i) fun xs => O.of ρ (evE Γ ρ e) fun d => if Cb (xs.length+1) = Ac then .next (ρ.set i (Aa (.lst (xs++[d]), Ac))) else .bad := rfl
@[simp]theorem Zry(i e) : evS Γ ρ (.ext i e) = O.of ρ (CG ρ i) fun xs => O.of ρ (evE Γ ρ e) fun d => O.of ρ (J5 d) fun ys => if Cb (xs.length+ys.length) = Ac then .next (ρ.set i (Aa (.lst (xs++ys), Ac))) else .bad := rfl
@[simp]theorem Zom(i k e) : evS Γ ρ (.dput i k e) = O.of ρ (evE Γ ρ e) fun d => O.of ρ (Ee ρ i) fun xs => O.of ρ ((top ρ k (evE Γ ρ k)).bind De) fun j => if Cb (xs.length+1) = Ac then .next (ρ.set i (Aa (.dic (Ds xs j d), Ac))) else .bad := rfl
@[simp]theorem Zrz(i k e) : evS Γ ρ (.dsd i k e) = O.of ρ (Ee ρ i) fun xs => O.of ρ ((top ρ k (evE Γ ρ k)).bind De) fun j => O.of ρ (evE Γ ρ e) fun d => if Cb (xs.length+1) = Ac then .next (ρ.set i (Aa (.dic (if (xs.any fun p => p.1==j) = Ac then xs else Ds xs j d), Ac))) else .bad := rfl
@[simp]theorem ZrA(i) : evS Γ ρ (.dnw i) = .next (ρ.set i (Aa (.dic [], Ac))) := rfl
@[simp]theorem Zrv(i) : evS Γ ρ (.rev i) = O.of ρ (CG ρ i) fun xs => .next (ρ.set i (Aa (.lst xs.reverse, Ac))) := rfl
@[simp]theorem ZrB(i) : evS Γ ρ (.clr i) = O.of ρ (CG ρ i) fun _ => .next (ρ.set i (Aa (.lst [], Ac))) := rfl
theorem JE(i k e) : evS Γ ρ (.put i k e) = O.of ρ (evE Γ ρ e) fun d => O.of ρ (CG ρ i) fun xs => O.of ρ ((top ρ k (evE Γ ρ k)).bind C2) fun j => match plD xs.length j with
      |some n => .next (ρ.set i (Aa (.lst (xs.set n d), Ac)))
      |none => .bad := rfl
@[simp]theorem Zoe(body c x h) : evS Γ ρ (.tryx body c x h) = match evSs Γ ρ body with
      | .exn y ρ' => if (Γ.up y.c).contains c = Ac then (match evSs Γ (ρ'.set x (Aa (.exc y.c y.fs, Ad))) h with
          |.next ρ'' => .next (ρ''.set x Af)
          |.ret d f => .ret d f
          | _ => .bad) else .bad
      |o => o := rfl
@[simp]theorem Zof(body c x h c' h' els) : evS Γ ρ (.try2 body c x h c' h' els) = match evSs Γ ρ body with
      |.exn y ρ' => if (Γ.up y.c).contains c = Ac then hdO x y ρ' (fun r => evSs Γ r h) else if (Γ.up y.c).contains c' = Ac then hdO x y ρ' (fun r => evSs Γ r h') else .bad
      |.next ρ' => evSs Γ ρ' els
      |o => o := rfl
@[simp]theorem Zru(c body) : evS Γ ρ (.whl c body) = Ka (whC Γ c) (whB Γ body) MY ρ := rfl
@[simp]theorem Zoh(c as) : evS Γ ρ (.rais c as) = O.of ρ (noX (evA Γ ρ as)) fun xs => O.of ρ (Γ.xn c xs) fun x => .exn x ρ := rfl
@[simp]theorem ZrC : evS Γ ρ .brk = .brk ρ := rfl
@[simp]theorem Zon : evS Γ ρ .cont = .cont ρ := rfl
end
end Ov
namespace Ov
open PySem
theorem Jt{body : D -> Rho -> O}(P : Rho -> Prop) : ∀(xs : Ab D)(ρ : Rho), P ρ -> (∀ x ∈ xs, ∀ ρ, P ρ -> ∃ ρ', body x ρ = .next ρ' /\ P ρ') -> ∃ ρ', Ck body xs ρ = .next ρ' /\ P ρ'
 |[], ρ, h, _ => ⟨ρ, rfl, h⟩
 |x::xs, ρ, h, k => by
  obtain⟨ρ1, e1, h1⟩ := k x Au ρ h;obtain⟨ρ2, e2, h2⟩ := Jt P xs ρ1 h1 fun y hy => k y (Ar _ hy)
  exact⟨ρ2, by show (body x ρ).turn _ = _;rw[e1];exact e2, h2⟩
theorem Pv(h1 : 0 <= lo)(h2 : lo<1000000)(h3 : 0 <= hi)(h4 : hi<1000000) : Cy lo hi = .ok (CY lo (hi-lo).toNat) := by
 unfold Cy;rw[AF (by omega)]
theorem Jf(h3 : 0 <= hi)(h4 : hi<1000000) : Cy 0 hi = .ok (CY 0 hi.toNat) := by
 rw[Pv (by omega) (by omega) h3 h4, FK]
theorem Lv(h : x ∈ CY lo n) : ∃ k : Ag, k<n /\ x = .int (lo+(k : Ae)) := by
 obtain⟨k, hk, e⟩ := CB.mp h;exact⟨k, B0.mp hk, e.symm⟩
theorem IJ(lo : Ae)(n : Ag) : (CY lo n).length = n := by simp[CY]
theorem QN{i:Ag}(h : (CY lo n)[i]? = Aa x) : i<n /\ x = .int (lo+(i : Ae)) := by
 have hl := (AU.mp h).1;rw[IJ]at hl;unfold CY at h;rw[CQ, List.getElem?_range hl]at h;cases h;exact⟨hl, rfl⟩
noncomputable def Ss.take : Ag -> Ss -> Ss
 |0, _ => .nil
 |_, .nil => .nil
 |n+1, .cons s ss => .cons s (ss.take n)
noncomputable def Ss.drop : Ag -> Ss -> Ss
 |0, ss => ss
 |_, .nil => .nil
 |n+1, .cons _ ss => ss.drop n
theorem Le(Γ : Gam) : ∀(n : Ag)(ss : Ss)(ρ : Rho), evSs Γ ρ ss = DI Γ (ss.drop n) (evSs Γ ρ (ss.take n))
 |0, _, _ => rfl
 |_+1, .nil, _ => rfl
 |n+1, .cons s ss, ρ => by
  show (evS Γ ρ s).seq (fun ρ' => evSs Γ ρ' ss) = DI Γ (ss.drop n) ((evS Γ ρ s).seq fun ρ' => evSs Γ ρ' (ss.take n))
  cases evS Γ ρ s with
  |next ρ' => exact Le Γ n ss ρ'
  |_ => rfl
end Ov
end
section
namespace Ov
noncomputable def xfD : Ag -> D -> An
 |0, .int i => decide (0 <= i)&&decide (i<100)
 |n+1, .tup ds => C7 ds.length 8&&ds.all (xfD n)
 |_, _ => Ad
end Ov
end
section
namespace OvC
open PySem Ov PyProof.Rows
variable{j i:Ae}
noncomputable abbrev scr(ns : Ab Ae) : D := .lst (ns.map .int)
noncomputable abbrev sh(d : D) : Sl := Aa (d, Ad)
noncomputable abbrev si(i : Ae) : Sl := Aa (.int i, Ad)
theorem Nq{P:Ag -> Prop}(h0 : P 0)(h1 : P 1)(h2 : P 2)(h3 : P 3) : P (j%4).toNat := by
 have : (j%4).toNat = 0 \/ (j%4).toNat = 1 \/ (j%4).toNat = 2 \/ (j%4).toNat = 3 := by omega
 rcases this with e|e|e|e <;> rw[e] <;> assumption
noncomputable def P4(p : Ae) : Prop := p = 3 \/ p = 5 \/ p = 7 \/ p = 11
noncomputable def pr4(j : Ae) : Ae := [3, 5, 7, 11].getD (j%4).toNat 0
theorem TL(j) : P4 (pr4 j) := by
 unfold pr4;exact Nq (P := fun j => P4 ([3, 5, 7, 11].getD j 0)) (.inl rfl) (.inr (.inl rfl)) (.inr (.inr (.inl rfl))) (.inr (.inr (.inr rfl)))
theorem P4.pos{p}(h : P4 p) : 0<p := by rcases h with rfl|rfl|rfl|rfl <;> decide
theorem P4.lo{p}(h : P4 p) : 3 <= p := by rcases h with rfl|rfl|rfl|rfl <;> decide
theorem P4.hi{p}(h : P4 p) : p <= 11 := by rcases h with rfl|rfl|rfl|rfl <;> decide
theorem QO(j : Ae) : CH [.int 3, .int 5, .int 7, .int 11] (j%4) = .ok (.int (pr4 j)) := by
 have h := Nq (P := fun j => [D.int 3, D.int 5, D.int 7, D.int 11][j]? = Aa (D.int ([3, 5, 7, 11].getD j 0))) (j := j) rfl rfl rfl rfl
 exact Js (by omega) h
theorem Er(h0 : -18446744073709551616<i)(h1 : i<18446744073709551616) : BO i j = Ac := by simp[BO];left;exact⟨h0, h1⟩
theorem E5(h0 : -18446744073709551616<j)(h1 : j<18446744073709551616) : BO i j = Ac := by simp[BO];right;exact⟨h0, h1⟩
noncomputable def JQ : Df := ⟨2, Ad, (.cons (.ret (.bin .Mod (.var 1) (.var 0))) .nil)⟩
noncomputable def Hl(Γ : Gam) : Prop := ∀ p n : Ae, 0<p -> Γ.F 1 [.int p, .int n] = .ok (.int (n%p))
theorem Tw(Γ : Gam)(p n : Ae)(h : 0<p) : JQ.run Γ [.int p, .int n] = .ok (.int (n%p)) := by simp[JQ, Df.run, BQ, h]
end OvC
end
namespace Ov
open PySem PySem.Spec PyProof.Rows L2
variable{A A' B:Ai -> Prop}{H H' H1 H0:Hp}{p a ka b l q:Ai}{xs vs:Ab V}{k' k:Ab Ae}{v:V}{d:D}{o:HO}{K:Fg}{ρ:Rho}{σ:L2.St}{i n j:Ag}{Rp Rq:Hp -> V -> D -> Prop}{r:R D}{Q:VK}{X:Cx}{e c tg iter elt:Ao}{t' tt:TT}{x:Ex}{g:D -> D -> R D}{op op':CS}{h' h:AD}{es:Ab (Ab Ae × Ai × V)}{ys:Ab (Ab Ae × Ai × Ah)}{y u:Ah}{pos p2 pos' pos2 spos:AI}{pI:Ab (Ai × AB)}{s:Ak}{its its2:Ab Ah}{items2:A8 Ah}{fs fi:Rho -> R (Ab D)}{Q':Al Ae -> Hp -> Prop}{T:Cc}{f fc:Rho -> R An}{α:Type}{Fz:Ai -> HO -> Prop}{D':Ends}{lo hi:Ae}{as:D -> Rho -> R Rho}{up:Ag -> Ab Ag}{scope:Bx}{env:BG}{cl:Ab (Aj × Ai)}{N':Ab Aj}{ts:Ab Ag}{fp:Ab Ai}{ifs:Ab Ao}{te:TE}{J:It}{wi:TI}{t:An}
noncomputable abbrev ClA := Ag -> Al Ai
variable{CL:ClA}
noncomputable def KL(K : Fg)(a : Ai)(xs : Ab V) : Prop := ∃(o : AB)(its : A8 Ah)(n : Ag), K.lookup a = Aa o /\ o.cls = .type "list" /\ o.dict = Af /\ o.data = .seq its n /\ its.size <= sizeLine /\ AR xs its.toList
noncomputable def KT(K : Fg)(a : Ai)(xs : Ab V) : Prop := ∃(o : AB)(its : A8 Ah)(n : Ag), K.lookup a = Aa o /\ o.cls = .type "tuple" /\ o.data = .seq its n /\ its.size <= sizeLine /\ AR xs its.toList
noncomputable abbrev TK(P : AC)(w : AJ) : HeapKind P w (Ab Ae) := tupleKind (intKind P w)
noncomputable def D5(P : AC)(w : AJ)(a : Ai)(xs : Ab (Ab Ae × Ai × Ah))(h : AD) : Prop := (a==Cw) = Ad /\ ∃ o es ep, h.get? a = Aa o /\ o.ExactDict /\ o.data = .dict es ep /\ es.toList = xs.map (Fs (TK P w)) /\ (xs.map (·.1)).Nodup
inductive ValE : Ab (Ab Ae × Ai × V) -> Ab (Ab Ae × Ai × Ah) -> Prop
 |nil : ValE [] []
 |cons {k : Ab Ae} {a : Ai} {v : V} {y : Ah} {xs : Ab (Ab Ae × Ai × V)} {ys : Ab (Ab Ae × Ai × Ah)} : A4 v y -> ValE xs ys -> ValE ((k, a, v)::xs) ((k, a, y)::ys)
noncomputable def B4(a : Ai)(xs : Ab (Ab Ae × Ai × V)) : AD -> Prop := fun h => ∃ ys, ValE xs ys /\ ∀ P w, D5 P w a ys h
noncomputable def Cf(K : Fg)(H : Hp)(A : Ai -> Prop)(a : Ai)(k : Ab Ae) : Prop := ∃ xs, (¬ A a \/ KT K a xs) /\ SqT K H a xs /\ xs = k.map V.int
section
variable(K : Fg)(CL : ClA)(H : Hp)(A : Ai -> Prop)
mutual
def Rep : V -> D -> Prop
 |v, .non => v = .non
 |v, .bl b => v = .bl b
 |v, .int i => v = .int i
 |v, .str x => v = .str x
 |v, .tup ds => ∃ a xs, v = .ref a /\ (¬ A a \/ KT K a xs) /\ SqT K H a xs /\ Reps xs ds
 |v, .lst ds => ∃ a xs, v = .ref a /\ (¬ A a \/ KL K a xs) /\ SqL K H a xs /\ Reps xs ds
 |v, .obj c fs => ∃ a C dx vs, v = .ref a /\ ¬ A a /\ CL c = Aa C /\ H a = Aa (.ins C dx vs) /\ Repf vs fs
 |v, .dic kvs => ∃ a es, v = .ref a /\ ¬ A a /\ H a = Aa (.ext (B4 a es)) /\ Repk es kvs
 |v, .exc c fs => ∃ a C φ, v = .ref a /\ ¬ A a /\ CL c = Aa C /\ H a = Aa (.ext φ) /\ (∀ h, φ h -> ∃ o, h.get? a = Aa o /\ o.cls = .ref C) /\ (fs = [] \/ ∃ dx vs, ¬ A dx /\ H dx = Aa (.xd vs) /\ Repf vs fs /\ ∀ h, φ h -> ∃ o, h.get? a = Aa o /\ o.dict = Aa dx /\ ∃ us, o.data = .fields us)
def Reps : Ab V -> Ab D -> Prop
 |[], [] => E4
 |v::vs, d::ds => Rep v d /\ Reps vs ds
 |_, _ => AX
def Repf : Ab (Aj × V) -> Ab (Aj × D) -> Prop
 |[], [] => E4
 |v::vs, d::ds => Repp v d /\ Repf vs ds
 |_, _ => AX
def Repp : Aj × V -> Aj × D -> Prop
 |v, (n, d) => v.1 = n /\ Rep v.2 d
def Repk : Ab (Ab Ae × Ai × V) -> Ab (Ab Ae × D) -> Prop
 |[], [] => E4
 |v::vs, d::ds => Repe v d /\ Repk vs ds
 |_, _ => AX
def Repe : Ab Ae × Ai × V -> Ab Ae × D -> Prop
 |v, (k, d) => v.1 = k /\ Cf K H A v.2.1 k /\ Rep v.2.2 d
end
noncomputable def BS(a : Ai)(o : HO)(d : D) : Prop := (∃ xs ds, o = .lst xs /\ d = .lst ds /\ Reps K CL H A xs ds) \/ ∃ es kvs, o = .ext (B4 a es) /\ d = .dic kvs /\ Repk K CL H A es kvs
noncomputable def BH(v : V)(d : D) : Prop := Rep K CL H A v d \/ ∃ a o, v = .ref a /\ H a = Aa o /\ BS K CL H A a o d
end
noncomputable def OwK(a : Ai)(o : HO) : Prop := (∃ xs, o = .lst xs) \/ ∃ es, o = .ext (B4 a es)
noncomputable def Kp(A : Ai -> Prop)(H H' : Hp) : Prop := ∀ b o, H b = Aa o -> ¬ A b -> H' b = Aa o
noncomputable def AOk(H : Hp)(A : Ai -> Prop) : Prop := ∀ a, A a -> ∃ o, H a = Aa o /\ OwK a o
theorem Kp.of(h : As H H') : Kp A H H' := fun b o e _ => h b o e
theorem AOk.same(h : AOk H A)(s : As H H') : AOk H' A := fun a ha => let ⟨xs, e, k⟩ := h a ha;⟨xs, s _ _ e, k⟩
theorem AOk.new(h : AOk H A)(e : H p = Af) : ¬ A p := fun ha => by
 obtain⟨xs, q, _⟩ := h p ha;rw[e]at q;cases q
section
variable{K : Fg}{CL : ClA}{H H' : Hp}{A B : Ai -> Prop}
theorem MR{u:HO}(k : Kp A H H')(na : ¬ A a)(h : Rd H a u) : Rd H' a u := by
 rcases h with h|⟨o, h⟩
 ·exact .inl (k _ _ h na)
 ·exact .inr ⟨o, k _ _ h na⟩
theorem JJ(k : Kp A H H')(na : ¬ A a \/ KL K a xs)(h : SqL K H a xs) : SqL K H' a xs := na.elim (fun na => h.imp (MR k na) id) .inr
theorem HY(k : Kp A H H')(na : ¬ A a \/ KT K a xs)(h : SqT K H a xs) : SqT K H' a xs := na.elim (fun na => h.imp (MR k na) id) .inr
theorem Cf.kp(k : Kp A H H')(h : Cf K H A a k') : Cf K H' A a k' := by
 obtain⟨xs, na, s, e⟩ := h;exact⟨xs, na, HY k na s, e⟩
theorem Cf.sub(k : ∀ a, B a -> A a)(h : Cf K H A a k') : Cf K H B a k' := by
 obtain⟨xs, na, s, e⟩ := h;exact⟨xs, na.imp (fun na z => na (k _ z)) id, s, e⟩
theorem Cf.wide(hp : ∀ a, B a -> A a \/ H a = Af)(h : Cf K H A a k') : Cf K H B a k' := by
 obtain⟨xs, na, s, e⟩ := h;refine⟨xs, ?_, s, e⟩;rcases s with s|s
 ·refine na.imp (fun na z => (hp _ z).elim na fun e => ?_) id
  rcases s with s|⟨o, s⟩ <;> rw[e]at s <;> cases s
 ·exact .inr s
mutual
theorem Rep.kp(k : Kp A H H') : ∀{v : V}(d : D), Rep K CL H A v d -> Rep K CL H' A v d
 |_, .non, h => h
 |_, .bl _, h => h
 |_, .int _, h => h
 |_, .str _, h => h
 |_, .dic kvs, h => by
  obtain⟨a, es, e, na, s, r⟩ := h;exact⟨a, es, e, na, k _ _ s na, Repk.kp k kvs r⟩
 |_, .tup ds, h => by
  obtain⟨a, xs, e, na, s, r⟩ := h;exact⟨a, xs, e, na, by first|exact HY k na s|exact JJ k na s, Reps.kp k ds r⟩
 |_, .lst ds, h => by
  obtain⟨a, xs, e, na, s, r⟩ := h;exact⟨a, xs, e, na, by first|exact HY k na s|exact JJ k na s, Reps.kp k ds r⟩
 |_, .obj c fs, h => by
  obtain⟨a, C, dx, vs, e, na, c, s, r⟩ := h;exact⟨a, C, dx, vs, e, na, c, k _ _ s na, Repf.kp k fs r⟩
 |_, .exc c fs, h => by
  obtain⟨a, C, φ, e, na, c, s, p, q⟩ := h;refine⟨a, C, φ, e, na, c, k _ _ s na, p, q.imp id ?_⟩;rintro⟨dx, vs, nx, s2, r, z⟩;exact⟨dx, vs, nx, k _ _ s2 nx, Repf.kp k fs r, z⟩
theorem Reps.kp(k : Kp A H H') : ∀{vs : Ab V}(ds : Ab D), Reps K CL H A vs ds -> Reps K CL H' A vs ds
 |[], [], h => h
 |_::_, d::ds, h => ⟨Rep.kp k d h.1, Reps.kp k ds h.2⟩
 |[], _::_, h => h.elim
 |_::_, [], h => h.elim
theorem Repf.kp(k : Kp A H H') : ∀{vs : Ab (Aj × V)}(ds : Ab (Aj × D)), Repf K CL H A vs ds -> Repf K CL H' A vs ds
 |[], [], h => h
 |_::_, d::ds, h => ⟨Repp.kp k d h.1, Repf.kp k ds h.2⟩
 |[], _::_, h => h.elim
 |_::_, [], h => h.elim
theorem Repp.kp(k : Kp A H H') : ∀{v : Aj × V}(d : Aj × D), Repp K CL H A v d -> Repp K CL H' A v d
 |_, (_, d), h => ⟨h.1, Rep.kp k d h.2⟩
theorem Repk.kp(k : Kp A H H') : ∀{vs : Ab (Ab Ae × Ai × V)}(ds : Ab (Ab Ae × D)), Repk K CL H A vs ds -> Repk K CL H' A vs ds
 |[], [], h => h
 |_::_, d::ds, h => ⟨Repe.kp k d h.1, Repk.kp k ds h.2⟩
 |[], _::_, h => h.elim
 |_::_, [], h => h.elim
theorem Repe.kp(k : Kp A H H') : ∀{v : Ab Ae × Ai × V}(d : Ab Ae × D), Repe K CL H A v d -> Repe K CL H' A v d
 |_, (_, d), h => ⟨h.1, Cf.kp k h.2.1, Rep.kp k d h.2.2⟩
end
mutual
theorem Rep.sub(k : ∀ a, B a -> A a) : ∀{v : V}(d : D), Rep K CL H A v d -> Rep K CL H B v d
 |_, .non, h => h
 |_, .bl _, h => h
 |_, .int _, h => h
 |_, .str _, h => h
 |_, .dic kvs, h => by
  obtain⟨a, es, e, na, s, r⟩ := h;exact⟨a, es, e, fun z => na (k _ z), s, Repk.sub k kvs r⟩
 |_, .tup ds, h => by
  obtain⟨a, xs, e, na, s, r⟩ := h;exact⟨a, xs, e, na.imp (fun na z => na (k _ z)) id, s, Reps.sub k ds r⟩
 |_, .lst ds, h => by
  obtain⟨a, xs, e, na, s, r⟩ := h;exact⟨a, xs, e, na.imp (fun na z => na (k _ z)) id, s, Reps.sub k ds r⟩
 |_, .obj c fs, h => by
  obtain⟨a, C, dx, vs, e, na, c, s, r⟩ := h;exact⟨a, C, dx, vs, e, fun z => na (k _ z), c, s, Repf.sub k fs r⟩
 |_, .exc c fs, h => by
  obtain⟨a, C, φ, e, na, c, s, p, q⟩ := h;refine⟨a, C, φ, e, fun z => na (k _ z), c, s, p, q.imp id ?_⟩
  rintro⟨dx, vs, nx, s2, r, z⟩;exact⟨dx, vs, fun z => nx (k _ z), s2, Repf.sub k fs r, z⟩
theorem Reps.sub(k : ∀ a, B a -> A a) : ∀{vs : Ab V}(ds : Ab D), Reps K CL H A vs ds -> Reps K CL H B vs ds
 |[], [], h => h
 |_::_, d::ds, h => ⟨Rep.sub k d h.1, Reps.sub k ds h.2⟩
 |[], _::_, h => h.elim
 |_::_, [], h => h.elim
theorem Repf.sub(k : ∀ a, B a -> A a) : ∀{vs : Ab (Aj × V)}(ds : Ab (Aj × D)), Repf K CL H A vs ds -> Repf K CL H B vs ds
 |[], [], h => h
 |_::_, d::ds, h => ⟨Repp.sub k d h.1, Repf.sub k ds h.2⟩
 |[], _::_, h => h.elim
 |_::_, [], h => h.elim
theorem Repp.sub(k : ∀ a, B a -> A a) : ∀{v : Aj × V}(d : Aj × D), Repp K CL H A v d -> Repp K CL H B v d
 |_, (_, d), h => ⟨h.1, Rep.sub k d h.2⟩
theorem Repk.sub(k : ∀ a, B a -> A a) : ∀{vs : Ab (Ab Ae × Ai × V)}(ds : Ab (Ab Ae × D)), Repk K CL H A vs ds -> Repk K CL H B vs ds
 |[], [], h => h
 |_::_, d::ds, h => ⟨Repe.sub k d h.1, Repk.sub k ds h.2⟩
 |[], _::_, h => h.elim
 |_::_, [], h => h.elim
theorem Repe.sub(k : ∀ a, B a -> A a) : ∀{v : Ab Ae × Ai × V}(d : Ab Ae × D), Repe K CL H A v d -> Repe K CL H B v d
 |_, (_, d), h => ⟨h.1, Cf.sub k h.2.1, Rep.sub k d h.2.2⟩
end
mutual
theorem Rep.wide(hp : ∀ a, B a -> A a \/ H a = Af) : ∀{v : V}(d : D), Rep K CL H A v d -> Rep K CL H B v d
 |_, .non, h => h
 |_, .bl _, h => h
 |_, .int _, h => h
 |_, .str _, h => h
 |_, .dic kvs, h => by
  obtain⟨a, es, e, na, s, r⟩ := h;exact⟨a, es, e, (fun z => (hp _ z).elim na fun e => by rw[e]at s;cases s), s, Repk.wide hp kvs r⟩
 |_, .tup ds, h => by
  obtain⟨a, xs, e, na, s, r⟩ := h;refine⟨a, xs, e, ?_, s, Reps.wide hp ds r⟩;rcases s with s|s
  ·refine na.imp (fun na z => (hp _ z).elim na fun e => ?_) id
   rcases s with s|⟨o, s⟩ <;> rw[e]at s <;> cases s
  ·exact .inr s
 |_, .lst ds, h => by
  obtain⟨a, xs, e, na, s, r⟩ := h;refine⟨a, xs, e, ?_, s, Reps.wide hp ds r⟩;rcases s with s|s
  ·refine na.imp (fun na z => (hp _ z).elim na fun e => ?_) id
   rcases s with s|⟨o, s⟩ <;> rw[e]at s <;> cases s
  ·exact .inr s
 |_, .obj c fs, h => by
  obtain⟨a, C, dx, vs, e, na, c, s, r⟩ := h;exact⟨a, C, dx, vs, e, (fun z => (hp _ z).elim na fun e => by rw[e]at s;cases s), c, s, Repf.wide hp fs r⟩
 |_, .exc c fs, h => by
  obtain⟨a, C, φ, e, na, c, s, p, q⟩ := h;refine⟨a, C, φ, e, (fun z => (hp _ z).elim na fun e => by rw[e]at s;cases s), c, s, p, q.imp id ?_⟩
  rintro⟨dx, vs, nx, s2, r, z⟩;exact⟨dx, vs, (fun z => (hp _ z).elim nx fun e => by rw[e]at s2;cases s2), s2, Repf.wide hp fs r, z⟩
theorem Reps.wide(hp : ∀ a, B a -> A a \/ H a = Af) : ∀{vs : Ab V}(ds : Ab D), Reps K CL H A vs ds -> Reps K CL H B vs ds
 |[], [], h => h
 |_::_, d::ds, h => ⟨Rep.wide hp d h.1, Reps.wide hp ds h.2⟩
 |[], _::_, h => h.elim
 |_::_, [], h => h.elim
theorem Repf.wide(hp : ∀ a, B a -> A a \/ H a = Af) : ∀{vs : Ab (Aj × V)}(ds : Ab (Aj × D)), Repf K CL H A vs ds -> Repf K CL H B vs ds
 |[], [], h => h
 |_::_, d::ds, h => ⟨Repp.wide hp d h.1, Repf.wide hp ds h.2⟩
 |[], _::_, h => h.elim
 |_::_, [], h => h.elim
theorem Repp.wide(hp : ∀ a, B a -> A a \/ H a = Af) : ∀{v : Aj × V}(d : Aj × D), Repp K CL H A v d -> Repp K CL H B v d
 |_, (_, d), h => ⟨h.1, Rep.wide hp d h.2⟩
theorem Repk.wide(hp : ∀ a, B a -> A a \/ H a = Af) : ∀{vs : Ab (Ab Ae × Ai × V)}(ds : Ab (Ab Ae × D)), Repk K CL H A vs ds -> Repk K CL H B vs ds
 |[], [], h => h
 |_::_, d::ds, h => ⟨Repe.wide hp d h.1, Repk.wide hp ds h.2⟩
 |[], _::_, h => h.elim
 |_::_, [], h => h.elim
theorem Repe.wide(hp : ∀ a, B a -> A a \/ H a = Af) : ∀{v : Ab Ae × Ai × V}(d : Ab Ae × D), Repe K CL H A v d -> Repe K CL H B v d
 |_, (_, d), h => ⟨h.1, Cf.wide hp h.2.1, Rep.wide hp d h.2.2⟩
end
theorem Rep.same(s : As H H')(h : Rep K CL H A v d) : Rep K CL H' A v d := Rep.kp (Kp.of s) d h
theorem Reps.same{v:Ab V}{d:Ab D}(s : As H H')(h : Reps K CL H A v d) : Reps K CL H' A v d := Reps.kp (Kp.of s) d h
theorem BS.map(f : ∀{vs : Ab V}{ds : Ab D}, Reps K CL H A vs ds -> Reps K CL H' A' vs ds)(g : ∀{vs : Ab (Ab Ae × Ai × V)}{ds : Ab (Ab Ae × D)}, Repk K CL H A vs ds -> Repk K CL H' A' vs ds)(h : BS K CL H A a o d) : BS K CL H' A' a o d:=
 h.imp (fun ⟨xs, ds, e1, e2, r⟩ => ⟨xs, ds, e1, e2, f r⟩) fun ⟨xs, ds, e1, e2, r⟩ => ⟨xs, ds, e1, e2, g r⟩
theorem BS.kp{a : Ai}{o : HO}{d : D}(k : Kp A H H')(h : BS K CL H A a o d) : BS K CL H' A a o d := h.map (Reps.kp k _) (Repk.kp k _)
theorem BS.sub{a : Ai}{o : HO}{d : D}(k : ∀ a, B a -> A a)(h : BS K CL H A a o d) : BS K CL H B a o d := h.map (Reps.sub k _) (Repk.sub k _)
theorem BS.wide{a : Ai}{o : HO}{d : D}(k : ∀ a, B a -> A a \/ H a = Af)(h : BS K CL H A a o d) : BS K CL H B a o d := h.map (Reps.wide k _) (Repk.wide k _)
theorem BS.same(s : As H H')(h : BS K CL H A a o d) : BS K CL H' A a o d := h.kp (Kp.of s)
theorem BS.owk(h : BS K CL H A a o d) : OwK a o := h.imp (fun ⟨xs, _, e, _⟩ => ⟨xs, e⟩) fun ⟨xs, _, e, _⟩ => ⟨xs, e⟩
theorem BS.lst{ds : Ab D}(h : Reps K CL H A xs ds) : BS K CL H A a (.lst xs) (.lst ds) := .inl ⟨xs, ds, rfl, rfl, h⟩
theorem BS.dic{xs:Ab (Ab Ae × Ai × V)}{ds : Ab (Ab Ae × D)}(h : Repk K CL H A xs ds) : BS K CL H A a (.ext (B4 a xs)) (.dic ds) := .inr ⟨xs, ds, rfl, rfl, h⟩
theorem BS.lst_of{ds : Ab D}(h : BS K CL H A a o (.lst ds)) : ∃ xs, o = .lst xs /\ Reps K CL H A xs ds := by
 rcases h with ⟨xs, ds', e, e2, r⟩|⟨_, _, _, e, _⟩
 ·cases e2;exact⟨xs, e, r⟩
 ·cases e
theorem BS.dic_of{ds : Ab (Ab Ae × D)}(h : BS K CL H A a o (.dic ds)) : ∃ xs, o = .ext (B4 a xs) /\ Repk K CL H A xs ds := by
 rcases h with ⟨_, _, _, e, _⟩|⟨xs, ds', e, e2, r⟩
 ·cases e
 ·cases e2;exact⟨xs, e, r⟩
theorem BH.same{v : V}{d : D}(s : As H H')(h : BH K CL H A v d) : BH K CL H' A v d := by
 rcases h with h|⟨a, o, e, q, r⟩
 ·exact .inl (h.same s)
 ·exact .inr ⟨a, o, e, s _ _ q, r.same s⟩
theorem Reps.length : ∀{vs : Ab V}{ds : Ab D}, Reps K CL H A vs ds -> vs.length = ds.length
 |[], [], _ => rfl
 |_::_, _::_, h => congrArg (· + 1) (Reps.length h.2)
 |[], _::_, h => h.elim
 |_::_, [], h => h.elim
theorem Reps.append : ∀{vs ws : Ab V}{ds es : Ab D}, Reps K CL H A vs ds -> Reps K CL H A ws es -> Reps K CL H A (vs++ws) (ds++es)
 |[], _, [], _, _, h => h
 |_::_, _, _::_, _, h, g => ⟨h.1, Reps.append h.2 g⟩
 |[], _, _::_, _, h, _ => h.elim
 |_::_, _, [], _, h, _ => h.elim
theorem Reps.get : ∀{vs : Ab V}{ds : Ab D}{i : Ag}{d : D}, Reps K CL H A vs ds -> ds[i]? = Aa d -> ∃ v, vs[i]? = Aa v /\ Rep K CL H A v d
 |[], [], _, _, _, e => by simp at e
 |v::_, _::_, 0, _, h, e => by simp at e;subst e;exact⟨v, rfl, h.1⟩
 |_::_, _::_, i+1, _, h, e => by
  obtain⟨v, q, r⟩ := Reps.get (i := i) h.2 (by simpa using e)
  exact⟨v, by simpa using q, r⟩
 |[], _::_, _, _, h, _ => h.elim
 |_::_, [], _, _, h, _ => h.elim
theorem Reps.take : ∀{vs : Ab V}{ds : Ab D}(n : Ag), Reps K CL H A vs ds -> Reps K CL H A (vs.take n) (ds.take n)
 |_, _, 0, _ => trivial
 |[], [], _+1, _ => trivial
 |_::_, _::_, n+1, h => ⟨h.1, Reps.take n h.2⟩
 |[], _::_, _+1, h => h.elim
 |_::_, [], _+1, h => h.elim
theorem Reps.drop : ∀{vs : Ab V}{ds : Ab D}(n : Ag), Reps K CL H A vs ds -> Reps K CL H A (vs.drop n) (ds.drop n)
 |_, _, 0, h => h
 |[], [], _+1, _ => trivial
 |_::_, _::_, n+1, h => Reps.drop n h.2
 |[], _::_, _+1, h => h.elim
 |_::_, [], _+1, h => h.elim
theorem Reps.set{x : V}{e : D}(r : Rep K CL H A x e) : ∀{vs : Ab V}{ds : Ab D}(n : Ag), Reps K CL H A vs ds -> Reps K CL H A (vs.set n x) (ds.set n e)
 |[], [], _, _ => trivial
 |_::_, _::_, 0, h => ⟨r, h.2⟩
 |_::_, _::_, n+1, h => ⟨h.1, Reps.set r n h.2⟩
 |[], _::_, _, h => h.elim
 |_::_, [], _, h => h.elim
end
structure Good (K : Fg) (CL : ClA) (A : Ai -> Prop) (ρ : Rho) (σ : L2.St) (H : Hp) : Prop where
 sh : ∀(i : Ag)(d : D), ρ[i]? = Aa (Aa (d, Ad)) -> ∃ v, σ[i]? = Aa (Aa v) /\ Rep K CL H A v d
 ow : ∀(i : Ag)(d : D), ρ[i]? = Aa (Aa (d, Ac)) -> ∃ a o, σ[i]? = Aa (Aa (.ref a)) /\ A a /\ H a = Aa o /\ BS K CL H A a o d
 len : ρ.length = σ.length
theorem Good.same{K : Fg}{CL : ClA}{A : Ai -> Prop}{ρ : Rho}{σ : L2.St}{H H' : Hp}(g : Good K CL A ρ σ H)(s : As H H') : Good K CL A ρ σ H':=
 ⟨fun i d e => let ⟨v, q, r⟩ := g.sh i d e;⟨v, q, r.same s⟩, fun i d e => let ⟨a, o, q, na, h, r⟩ := g.ow i d e;⟨a, o, q, na, s _ _ h, r.same s⟩, g.len⟩
theorem Good.owL(g : Good K CL A ρ σ H){ds : Ab D}(e : ρ[i]? = Aa (Aa (.lst ds, Ac))) : ∃ a xs ds', σ[i]? = Aa (Aa (.ref a)) /\ D.lst ds = .lst ds' /\ A a /\ H a = Aa (.lst xs) /\ Reps K CL H A xs ds' := by
 obtain⟨a, o, q, na, h, r⟩ := g.ow i _ e;obtain⟨xs, rfl, r'⟩ := r.lst_of;exact⟨a, xs, ds, q, rfl, na, h, r'⟩
theorem Good.owK(g : Good K CL A ρ σ H){ds : Ab (Ab Ae × D)}(e : ρ[i]? = Aa (Aa (.dic ds, Ac))) : ∃ a xs, σ[i]? = Aa (Aa (.ref a)) /\ A a /\ H a = Aa (.ext (B4 a xs)) /\ Repk K CL H A xs ds := by
 obtain⟨a, o, q, na, h, r⟩ := g.ow i _ e;obtain⟨xs, rfl, r'⟩ := r.dic_of;exact⟨a, xs, q, na, h, r'⟩
noncomputable abbrev XW := Ex -> Hp -> Prop
variable{W:XW}
noncomputable def AS(Rp : Hp -> V -> D -> Prop)(W : XW)(H : Hp)(r : R D)(Q : VK) : Prop := match r with
  |.ok d => ∀ v H', As H H' -> Rp H' v d -> Q v H'
  |.exn x => ∀ H', As H H' -> W x H'
  |.bad => AX
noncomputable def EV(Rp : Hp -> Ab V -> Ab D -> Prop)(W : XW)(H : Hp)(r : R (Ab D))(Q : Ab V -> Hp -> Prop) : Prop := match r with
  |.ok d => ∀ v H', As H H' -> Rp H' v d -> Q v H'
  |.exn x => ∀ H', As H H' -> W x H'
  |.bad => AX
noncomputable def BY(W : XW)(H : Hp)(r : R An)(Q : An -> Hp -> Prop) : Prop := match r with
  |.ok b => ∀ H', As H H' -> Q b H'
  |.exn x => ∀ H', As H H' -> W x H'
  |.bad => AX
theorem AS.same(s : As H H')(h : AS Rp W H r Q) : AS Rp W H' r Q := by
 cases r with
 |ok d => exact fun v H2 s2 q => h v H2 (s.trans s2) q
 |exn x => exact fun H2 s2 => h H2 (s.trans s2)
 |bad => exact h
theorem BY.same{r:R An}{Q:An -> Hp -> Prop}(s : As H H')(h : BY W H r Q) : BY W H' r Q := by
 cases r with
 |ok d => exact fun H2 s2 => h H2 (s.trans s2)
 |exn x => exact fun H2 s2 => h H2 (s.trans s2)
 |bad => exact h
theorem AS.bind{f:D -> R D}{Q':VK}(h : AS Rq W H (r.bind f) Q)(k : ∀ d v H', r = .ok d -> As H H' -> Rp H' v d -> AS Rq W H' (f d) Q -> Q' v H') : AS Rp W H r Q' := by
 cases r with
 |ok d => exact fun v H2 s2 q => k d v H2 rfl s2 q (AS.same s2 h)
 |exn x => exact h
 |bad => exact h
section
variable(X : Cx)(CL : ClA)(W : XW)
noncomputable def SE(e : Ao)(f : Rho -> R D) : Prop := ∀ A, PE X e (fun σ H Q => AOk H A /\ ∃ ρ, Good X.K CL A ρ σ H /\ AS (fun H => Rep X.K CL H A) W H (f ρ) Q)
noncomputable def ST(e : Ao)(f : Rho -> R D) : Prop := ∀ A, PE X e (fun σ H Q => AOk H A /\ ∃ ρ, Good X.K CL A ρ σ H /\ AS (fun H => BH X.K CL H A) W H (f ρ) Q)
noncomputable def SB(e : Ao)(f : Rho -> R An) : Prop := ∀ A, PT X e (fun σ H Q => AOk H A /\ ∃ ρ, Good X.K CL A ρ σ H /\ BY W H (f ρ) Q)
noncomputable def SA(es : Ab Ao)(f : Rho -> R (Ab D)) : Prop := ∀ A, PA X es (fun σ H Q => AOk H A /\ ∃ ρ, Good X.K CL A ρ σ H /\ EV (fun H => Reps X.K CL H A) W H (f ρ) Q)
end
theorem PE.weak{t t':TE}(h : PE X e t)(k : ∀ σ H Q, t' σ H Q -> t σ H Q) : PE X e t' := fun pI s σ H Q I q => h pI s σ H Q I (k _ _ _ q)
theorem PT.weak{t:TT}(h : PT X e t)(k : ∀ σ H Q, t' σ H Q -> t σ H Q) : PT X e t' := fun pI s σ H Q I q => h pI s σ H Q I (k _ _ _ q)
theorem PA.weak{e:Ab Ao}{t t':TA}(h : PA X e t)(k : ∀ σ H Q, t' σ H Q -> t σ H Q) : PA X e t' := fun pos pI s σ H Q I q => h pos pI s σ H Q I (k _ _ _ q)
noncomputable def OpD(X : Cx)(CL : ClA)(W : XW)(f : Ah -> Ah -> Sem Ah)(g : D -> D -> R D) : Prop:=
 ∀ A, OpR X f (fun x y H Q => AOk H A /\ ∃ dx dy, BH X.K CL H A x dx /\ BH X.K CL H A y dy /\ AS (fun H => Rep X.K CL H A) W H (g dx dy) Q)
section
variable{X : Cx}{CL : ClA}{W : XW}{a b c : Ao}{fa fb fc : Rho -> R D}{pos : AI}
theorem SE.st(h : SE X CL W a fa) : ST X CL W a fa := fun A => PE.weak (h A) fun σ H Q ⟨hA, ρ, g, p⟩ => ⟨hA, ρ, g, by
 cases e : fa ρ with
 |ok d => rw[e]at p;exact fun v H' s r => p v H' s (.inl r)
 |exn x => rw[e]at p;exact p
 | bad => rw[e]at p;exact p⟩
theorem SE.congr{f g:Rho -> R D}(h : SE X CL W a f)(e : ∀ ρ, g ρ = f ρ) : SE X CL W a g := fun A => PE.weak (h A) fun σ H Q ⟨hA, ρ, q, p⟩ => ⟨hA, ρ, q, by rw[<-e];exact p⟩
theorem Ie(h : PE X a (tC v))(r : ∀ H A, AOk H A -> Rep X.K CL H A v d) : SE X CL W a (fun _ => .ok d) := fun A => PE.weak h fun σ H Q ⟨hA, ρ, g, p⟩ => p v H (As.refl H) (r H A hA)
theorem Ub{i j} : SE X CL W (.Constant (.int i) j pos) (fun _ => .ok (.int i)) := Ie T2 fun _ _ _ => rfl
theorem Vr{b j} : SE X CL W (.Constant (.bool b) j pos) (fun _ => .ok (.bl b)) := Ie V3 fun _ _ _ => rfl
theorem T9{j} : SE X CL W (.Constant .none j pos) (fun _ => .ok .non) := Ie TY fun _ _ _ => rfl
theorem T7{x j} : SE X CL W (.Constant (.str x) j pos) (fun _ => .ok (.str x)) := Ie TV fun _ _ _ => rfl
theorem RB(h : Dv ρ i = .ok d) : ρ[i]? = Aa (Aa (d, Ad)) := by
 unfold Dv at h;split at h
 ·rename_i e;cases h;exact e
 ·cases h
theorem LX(h : Bg ρ i = .ok d) : ∃ o, ρ[i]? = Aa (Aa (d, o)) := by
 unfold Bg at h;split at h
 ·rename_i e;cases h;exact⟨_, e⟩
 ·cases h
theorem Qb(h : Dv ρ i = .exn x) : AX := by
 unfold Dv at h;split at h <;> cases h
theorem Lm(h : Bg ρ i = .exn x) : AX := by
 unfold Bg at h;split at h <;> cases h
theorem T5(h : PE X a (FC i)) : SE X CL W a (fun ρ => Dv ρ i) := fun A => PE.weak h fun σ H Q ⟨hA, ρ, g, p⟩ => by
 dsimp only at p;cases e : Dv ρ i with
 |ok d=>
  rw[e]at p;obtain⟨v, q, r⟩ := g.sh i d (RB e);exact⟨v, q, p v H (As.refl H) r⟩
 |exn x => exact(Qb e).elim
 |bad => rw[e]at p;exact p.elim
theorem Ms(h : PE X a (FC i)) : ST X CL W a (fun ρ => Bg ρ i) := fun A => PE.weak h fun σ H Q ⟨hA, ρ, g, p⟩ => by
 dsimp only at p;cases e : Bg ρ i with
 |ok d=>
  rw[e]at p;obtain⟨o, e⟩ := LX e;cases o with
  |false=>
   obtain⟨v, q, r⟩ := g.sh i d e;exact⟨v, q, p v H (As.refl H) (.inl r)⟩
  |true=>
   obtain⟨x, o, q, ha, hh, r⟩ := g.ow i d e;exact⟨_, q, p _ H (As.refl H) (.inr ⟨x, o, rfl, hh, r⟩)⟩
 |exn x => exact(Lm e).elim
 |bad => rw[e]at p;exact p.elim
theorem op2(h : AOk H A /\ ∃ ρ, Good X.K CL A ρ σ H /\ AS Rq W H ((fa ρ).bind fun x => (fb ρ).bind fun y => g x y) Q):AOk H A/\∃ ρ,Good X.K CL A ρ σ H/\AS (fun H =>BH X.K CL H A) W H (fa ρ) (fun x H1 =>AOk H1 A/\∃ ρ,Good X.K CL A ρ σ H1/\AS (fun H =>BH X.K CL H A) W H1 (fb ρ) (fun y H2=>AOk H2 A/\∃ dx dy,BH X.K CL H2 A x dx/\BH X.K CL H2 A y dy/\AS Rq W H2 (g dx dy) Q)) := by
 obtain⟨hA, ρ, gd, p⟩ := h;refine⟨hA, ρ, gd, AS.bind p fun dx x H1 _ s1 r1 p1 => ⟨hA.same s1, ρ, gd.same s1, AS.bind p1 fun dy y H2 _ s2 r2 p2 => ⟨(hA.same s1).same s2, dx, dy, r1.same s2, r2, p2⟩⟩⟩
theorem Mw{op:EK}(ho : OpD X CL W (Bl op) g)(ha : ST X CL W a fa)(hb : ST X CL W b fb) : SE X CL W (.BinOp a op b pos) (fun ρ => (fa ρ).bind fun x => (fb ρ).bind fun y => g x y):=
 fun A => PE.weak (MT (ho A) (ha A) (hb A)) fun σ H Q h => op2 h
theorem Ud(ho : OpD X CL W (Bv op) g)(ha : ST X CL W a fa)(hb : ST X CL W b fb)(hm : Eo op b = Ad) : SE X CL W (.Compare a [op] [b] pos) (fun ρ => (fa ρ).bind fun x => (fb ρ).bind fun y => g x y):=
 fun A => PE.weak (Sw (ho A) (ha A) (hb A) hm) fun σ H Q h => op2 h
theorem BH.int_of{i:Ae}(h : BH K CL H A v (.int i)) : v = .int i := by
 rcases h with h|⟨_, _, _, _, ⟨_, _, _, e, _⟩|⟨_, _, _, e, _⟩⟩
 ·exact h
 ·cases e
 ·cases e
theorem BH.str_of{i:Aj}(h : BH K CL H A v (.str i)) : v = .str i := by
 rcases h with h|⟨_, _, _, _, ⟨_, _, _, e, _⟩|⟨_, _, _, e, _⟩⟩
 ·exact h
 ·cases e
 ·cases e
theorem BH.bl_of{i:An}(h : BH K CL H A v (.bl i)) : v = .bl i := by
 rcases h with h|⟨_, _, _, _, ⟨_, _, _, e, _⟩|⟨_, _, _, e, _⟩⟩
 ·exact h
 ·cases e
 ·cases e
theorem BH.non_of(h : BH K CL H A v .non) : v = .non := by
 rcases h with h|⟨_, _, _, _, ⟨_, _, _, e, _⟩|⟨_, _, _, e, _⟩⟩
 ·exact h
 ·cases e
 ·cases e
theorem BH.lst_of{K : Fg}{H : Hp}{A : Ai -> Prop}{v : V}{ds : Ab D}(h : BH K CL H A v (.lst ds)) : ∃ a xs, v = .ref a /\ SqL K H a xs /\ Reps K CL H A xs ds := by
 rcases h with ⟨a, xs, e, _, s, r⟩|⟨a, o, rfl, s, r⟩
 ·exact⟨a, xs, e, s, r⟩
 ·obtain⟨xs, rfl, r'⟩ := r.lst_of;exact⟨a, xs, rfl, SqL.of s, r'⟩
theorem BH.dic_of{K : Fg}{H : Hp}{A : Ai -> Prop}{v : V}{ds : Ab (Ab Ae × D)}(h : BH K CL H A v (.dic ds)) : ∃ a es, v = .ref a /\ H a = Aa (.ext (B4 a es)) /\ Repk K CL H A es ds := by
 rcases h with ⟨a, xs, e, _, s, r⟩|⟨a, o, rfl, s, r⟩
 ·exact⟨a, xs, e, s, r⟩
 ·obtain⟨xs, rfl, r'⟩ := r.dic_of;exact⟨a, xs, rfl, s, r'⟩
theorem BH.tup_of{ds : Ab D}(h : BH K CL H A v (.tup ds)) : ∃ a xs, v = .ref a /\ (¬ A a \/ KT K a xs) /\ SqT K H a xs /\ Reps K CL H A xs ds := by
 rcases h with ⟨a, xs, e, n, s, r⟩|⟨_, _, _, _, ⟨_, _, _, e, _⟩|⟨_, _, _, e, _⟩⟩
 ·exact⟨a, xs, e, n, s, r⟩
 ·cases e
 ·cases e
theorem SV{i j:Ae}(h : BO i j = Ac) : Iy i j := by
 unfold BO at h;simp only[CK, Am, A1]at h;unfold Iy;omega
theorem LY{a : Ae}(h : a.natAbs<2 ^ 2000) : Oz a <= 2 ^ 20 := by
 unfold Oz;split
 ·omega
 ·rename_i hz;have h0 : a.natAbs ≠ 0 := by intro z;exact hz (by rw[Int.natAbs_eq_zero.mp z];rfl)
  have := (Nat.log2_lt h0).mpr h;omega
theorem SU{i j:Ae}(h : (BO i j||Fx i j) = Ac) : G0 i j := by
 rcases Bool.or_eq_true_iff.mp h with h|h
 ·exact(SV h).ok
 ·unfold Fx at h;rw[Am, A1, A1]at h;exact .of_bits (LY h.1) (LY h.2)
theorem SL : OpR X (Bl .Mult) (rI G0 fun i j => .int (i*j)) := opI fun _ _ _ _ _ _ _ hc q => mul_int q hc
theorem Fv(h : Cb n = Ac) : n <= sizeLine := by
 unfold Cb at h;rw[Dz];have := On h;omega
theorem LM{ds : Ab D}(hA : AOk H A)(hp : H p = Af)(r : Reps K CL H A xs ds) : Rep K CL (upd H p (.lst xs)) A (.ref p) (.lst ds):=
 ⟨p, xs, rfl, .inl (hA.new hp), SqL.of Fu, r.same fun b o e => by rw[B8 (DE e hp)];exact e⟩
theorem HW{ds : Ab D}(hA : AOk H A)(hp : H p = Af)(r : Reps K CL H A xs ds) : Rep K CL (upd H p (.tup xs)) A (.ref p) (.tup ds):=
 ⟨p, xs, rfl, .inl (hA.new hp), SqT.of Fu, r.same fun b o e => by rw[B8 (DE e hp)];exact e⟩
theorem Ed(h : H p = Af)(o : HO) : As H (upd H p o) := fun b u q => by rw[B8 (DE q h)];exact q
noncomputable def VW(K : Fg) : R2 := fun x y H Q => ∃ l b xs zs, x = .ref l /\ y = .ref b /\ SqL K H l xs /\ SqL K H b zs /\ xs.length+zs.length <= sizeLine /\ ∀ p, H p = Af -> Q (.ref p) (upd H p (.lst (xs++zs)))
end
section
variable{P : AC}{w : AJ}{a : Ai}{xs : Ab (Ab Ae × Ai × Ah)}{h : AD}
theorem D5.of(d : D5 P w a xs h)(k : ∀ x ∈ xs, (TK P w).is h x.1 x.2.1) : h.DictOfH (TK P w) a xs := by
 obtain⟨_, o, es, ep, h1, h2, h3, h4, h5⟩ := d;exact⟨o, es, ep, h1, h2, h3, h4, k, h5⟩
theorem D5.to(hs : (a==Cw) = Ad)(d : h.DictOfH (TK P w) a xs) : D5 P w a xs h := by
 obtain⟨o, es, ep, h1, h2, h3, h4, k, h5⟩ := d;exact⟨hs, o, es, ep, h1, h2, h3, h4, h5⟩
theorem D5.keep(d : D5 P w a xs h)(k : ∀ o, h.get? a = Aa o -> h'.get? a = Aa o) : D5 P w a xs h' := by
 obtain⟨hs, o, es, ep, h1, r⟩ := d;exact⟨hs, o, es, ep, k o h1, r⟩
theorem D5.any(d : D5 P w a xs h) : ∀ P w, D5 P w a xs h := fun _ _ => d
theorem B4.keep{h' : AD}{es : Ab (Ab Ae × Ai × V)}(d : B4 a es h)(k : ∀ o, h.get? a = Aa o -> h'.get? a = Aa o) : B4 a es h' := let ⟨ys, v, d⟩ := d;⟨ys, v, fun P w => (d P w).keep k⟩
theorem ValE.length(v : ValE es ys) : es.length = ys.length := by
 induction v with
 |nil => rfl
 |cons _ _ ih => exact congrArg (· + 1) ih
theorem Qk : ∀{k : Ab Ae}{its : Ab Ah}, AR (k.map V.int) its -> ItemsAre (intKind P w) k its := by
 intro k
 induction k with
 |nil => intro its v;cases v;exact .nil
 |cons i k ih=>
  intro its v;cases v with
  |cons v1 v2=>
   obtain⟨t, rfl⟩ := v1;exact .cons (intKind_is _ _ _ _) (ih v2)
end
section
variable{K : Fg}{CL : ClA}{H : Hp}{A : Ai -> Prop}
theorem QL : ∀{ds : Ab D}{k : Ab Ae}{xs : Ab V}, CJ.keyDs ds = Aa k -> Reps K CL H A xs ds -> xs = k.map V.int := by
 intro ds
 induction ds with
 |nil=>
  intro k xs e r;cases e;cases xs with
  |nil => rfl
  |cons => exact r.elim
 |cons d ds ih=>
  intro k xs e r;cases xs with
  |nil => exact r.elim
  |cons x xs=>
   cases d with
   |int i=>
    have e' : (CJ.keyDs ds).map (i :: ·) = Aa k := e;cases e1 : CJ.keyDs ds with
    |none => rw[e1]at e';cases e'
    |some k'=>
     rw[e1]at e';cases e';have ex : x = .int i := r.1;rw[ex, ih e1 r.2];rfl
   |_ => exact nomatch (show Af = Aa k from e)
theorem Rs(r : Rep K CL H A v d)(e : CJ d = Aa k) : ∃ a, v = .ref a /\ Cf K H A a k := by
 cases d with
 |tup ds=>
  obtain⟨a, xs, ev, na, sq, rs⟩ := r;exact⟨a, ev, xs, na, sq, QL e rs⟩
 |_ => exact nomatch (show Af = Aa k from e)
theorem Gy(r : BH K CL H A v d)(e : CJ d = Aa k) : ∃ a, v = .ref a /\ Cf K H A a k := by
 rcases r with r|⟨_, _, _, _, ⟨_, _, _, rfl, _⟩|⟨_, _, _, rfl, _⟩⟩
 ·exact Rs r e
 ·exact nomatch (show Af = Aa k from e)
 ·exact nomatch (show Af = Aa k from e)
theorem Repk.length : ∀{es : Ab (Ab Ae × Ai × V)}{kvs : Ab (Ab Ae × D)}, Repk K CL H A es kvs -> es.length = kvs.length
 |[], [], _ => rfl
 |_::_, _::_, h => congrArg (· + 1) (Repk.length h.2)
 |[], _::_, h => h.elim
 |_::_, [], h => h.elim
theorem Gd(v : ValE es ys)(k : Ab Ae) :∀{kvs :Ab (Ab Ae × D)},Repk K CL H A es kvs->(Ei ys k = Af/\C1 kvs k = Af/\(kvs.any fun p =>p.1==k) = Ad)\/∃ p x d,Ei ys k = Aa p/\C1 kvs k = Aa d/\(kvs.any fun p =>p.1==k) = Ac/\A4 x p.2/\Rep K CL H A x d := by
 induction v with
 |nil=>
  intro kvs r;cases kvs with
  |nil => exact .inl ⟨rfl, rfl, rfl⟩
  |cons => exact r.elim
 | @cons k' a x y xs ys rv _ ih=>
  intro kvs r;cases kvs with
  |nil => exact r.elim
  |cons q kvs=>
   obtain⟨k2, d⟩ := q;obtain⟨⟨e1, _, rd⟩, r2⟩ := r;cases (show k' = k2 from e1)
   by_cases hk : k' = k
   ·refine .inr ⟨(a, y), x, d, ?_, ?_, ?_, rv, rd⟩
    ·simp[Ei, hk]
    ·simp[C1, hk]
    ·simp[hk]
   ·have h0 : (k' == k) = Ad := BF.mpr hk;rcases ih r2 with ⟨z1, z2, z3⟩|⟨p, x', d', z1, z2, z3, z4⟩
    ·refine .inl ⟨?_, ?_, ?_⟩
     ·simpa [Ei, DN, hk] using z1
     ·simpa [C1, DN, h0] using z2
     ·rw[NZ, z3];simp[h0]
    ·refine .inr ⟨p, x', d', ?_, ?_, ?_, z4⟩
     ·simpa [Ei, DN, hk] using z1
     ·simpa [C1, DN, h0] using z2
     ·rw[NZ, z3];simp
theorem LS(v : ValE es ys){x:V}(kr : Cf K H A ka k)(rx : A4 x y)(rd : Rep K CL H A x d) :∀{kvs :Ab (Ab Ae × D)},Repk K CL H A es kvs->∃ es',ValE es' (ys++[(k,ka,y)])/\Repk K CL H A es' (kvs++[(k,d)]) := by
 induction v with
 |nil=>
  intro kvs r;cases kvs with
  |nil => exact⟨[(k, ka, x)], .cons rx .nil, ⟨rfl, kr, rd⟩, trivial⟩
  |cons => exact r.elim
 | @cons k' a x y xs ys rv _ ih=>
  intro kvs r;cases kvs with
  |nil => exact r.elim
  |cons q kvs=>
   obtain⟨es', h1, h2⟩ := ih r.2;exact⟨(k', a, x)::es', .cons rv h1, r.1, h2⟩
theorem Rr(v : ValE es ys){x:V}(rx : A4 x y)(rd : Rep K CL H A x d) :∀{kvs :Ab (Ab Ae × D)},Repk K CL H A es kvs->∃ es',ValE es' (ys.map (putAt k y))/\Repk K CL H A es' (kvs.map fun p =>if (p.1==k) = Ac then (k,d) else p) := by
 induction v with
 |nil=>
  intro kvs r;cases kvs with
  |nil => exact⟨[], .nil, trivial⟩
  |cons => exact r.elim
 | @cons k' a x' y' xs ys rv _ ih=>
  intro kvs r;cases kvs with
  |nil => exact r.elim
  |cons q kvs=>
   obtain⟨es', h1, h2⟩ := ih r.2;obtain⟨k2, d'⟩ := q;obtain⟨⟨e1, kr, rd'⟩, r2⟩ := r;cases (show k' = k2 from e1)
   by_cases hk : k' = k
   ·refine⟨(k', a, x)::es', ?_, ?_⟩
    ·rw[Bm, show putAt k y (k', a, y') = (k', a, y) from AF hk]
     exact .cons rx h1
    ·rw[Bm, AF (show ((k' == k) = Ac) from A9.mpr hk)]
     exact⟨⟨hk, hk ▸ kr, rd⟩, h2⟩
   ·refine⟨(k', a, x')::es', ?_, ?_⟩
    ·rw[Bm, show putAt k y (k', a, y') = (k', a, y') from AH hk]
     exact .cons rv h1
    ·rw[Bm, AH (show ¬ ((k' == k) = Ac) from fun z => hk (A9.mp z))]
     exact⟨⟨rfl, kr, rd'⟩, h2⟩
theorem Ro(v : ValE es ys){x:V}(kr : Cf K H A ka k)(rx : A4 x y)(rd : Rep K CL H A x d){kvs:Ab (Ab Ae × D)}(r : Repk K CL H A es kvs):∃ es',ValE es' (storedH ys k ka y)/\Repk K CL H A es' (Ds kvs k d) := by
 unfold Ds;rcases Gd v k r with ⟨z1, _, z3⟩|⟨p, _, _, z1, _, z3, _⟩
 ·rw[storedH_new z1, AH (by rw[z3];exact Ap)]
  exact LS v kr rx rd r
 ·rw[storedH_old z1, AF z3];exact Rr v rx rd r
end
section
variable{X : Cx}{pI : Ab (Ai × AB)}{σ : L2.St}{H : Hp}{s : Ak}{a ka : Ai}{k : Ab Ae}{CL : ClA}{A : Ai -> Prop}{es : Ab (Ab Ae × Ai × V)}{kvs : Ab (Ab Ae × D)}
theorem Gh(I : Inv X pI σ H s)(r : Cf X.K H A ka k) : (TK X.prog X.w).is s.heap k ka := by
 obtain⟨xs, _, sq, rfl⟩ := r;obtain⟨its, vs, ⟨o, ho, hc, n, hd⟩, _⟩ := I.tuple sq;exact⟨o, its.toArray, n, ho, hc, hd, Qk vs⟩
theorem R5(I : Inv X pI σ H s)(v : ValE es ys) : ∀{kvs : Ab (Ab Ae × D)}, Repk X.K CL H A es kvs -> ∀ x ∈ ys, (TK X.prog X.w).is s.heap x.1 x.2.1 := by
 induction v with
 |nil => intro kvs r x hx;cases hx
 | @cons k' a x y xs ys rv _ ih=>
  intro kvs r z hz;cases kvs with
  |nil => exact r.elim
  |cons q kvs=>
   obtain⟨k2, d⟩ := q;obtain⟨⟨e1, kr, rd⟩, r2⟩ := r;cases (show k' = k2 from e1)
   rcases AQ.mp hz with rfl|hz
   ·exact Gh I kr
   ·exact ih r2 z hz
theorem dic_of(I : Inv X pI σ H s)(hH : H a = Aa (.ext (B4 a es)))(r : Repk X.K CL H A es kvs) : ∃ ys, ValE es ys /\ (a==Cw) = Ad /\ s.heap.DictOfH (TK X.prog X.w) a ys := by
 obtain⟨ys, ve, d⟩ := (I.hok a _ hH).1;have d := d X.prog X.w;exact⟨ys, ve, d.1, d.of (R5 I ve r)⟩
theorem Sg{x:V}{v:Ah}{Q:FT -> Ak -> Prop}{E : Ah -> Ak -> Prop}(hu : X.A.units+1<A6)(I : Inv X pI σ H s)(hH : H a = Aa (.ext (B4 a es)))(r : Repk X.K CL H A es kvs)(hk : Cf X.K H A ka k)(rx : A4 x v)(rd : Rep X.K CL H A x d)(hz : kvs.length <= sizeLine)(q : ∀ s' es', Repk X.K CL H A es' (Ds kvs k d) -> Inv X pI σ (upd H a (.ext (B4 a es'))) s' -> Q () s') : Ay (model X.prog X.w) X.A (F2 (.ref a) (.ref ka) v) Q E s := by
 obtain⟨ys, ve, hs, m⟩ := dic_of I hH r;obtain⟨es', ve', r'⟩ := Ro ve hk rx rd r;refine wpAny_setItem_heap (knd := TK X.prog X.w) (hsz := by rw[<-ve.length, r.length];exact hz) (Cj hu) (Gh I hk) m fun h' m sb => q _ es' r' ?_
 obtain⟨o, _, _, h1, _⟩ := id m;exact I.write (x := a) (e := a) (by rw[hH];exact trivial) (.inl rfl) (fun b u hb hu => (sb.2 b hb).trans hu) ⟨o, h1⟩ ⟨⟨_, ve', (D5.to hs m).any⟩, ⟨o, h1⟩, fun h1 h2 d k => d.keep k⟩
theorem UA{Q:Ah -> Ak -> Prop}{E : Ah -> Ak -> Prop}(hu : X.A.units+1<A6)(I : Inv X pI σ H s)(hH : H a = Aa (.ext (B4 a es)))(r : Repk X.K CL H A es kvs)(hk : Cf X.K H A ka k)(q : ∀ s', Inv X pI σ H s' -> Q (.bool (kvs.any fun p => p.1==k)) s') : Ay (model X.prog X.w) X.A (Bv .In (.ref ka) (.ref a)) Q E s := by
 obtain⟨ys, ve, hs, m⟩ := dic_of I hH r;refine wpAny_in_heap (knd := TK X.prog X.w) (Cj hu) (Gh I hk) hs m ?_;have e : (Ei ys k).isSome = (kvs.any fun p => p.1==k) := by
  rcases Gd ve k r with ⟨z1, _, z3⟩|⟨p, _, _, z1, _, z3, _⟩ <;> rw[z1, z3] <;> rfl
 rw[e];exact q _ (I.kept fun b o e => e)
theorem Sh{Q:Ah -> Ak -> Prop}{E : Ah -> Ak -> Prop}(hu : X.A.units+1<A6)(I : Inv X pI σ H s)(hH : H a = Aa (.ext (B4 a es)))(r : Repk X.K CL H A es kvs)(hk : Cf X.K H A ka k)(q : ∀ s', Inv X pI σ H s' -> Q (.bool (!(kvs.any fun p => p.1==k))) s') : Ay (model X.prog X.w) X.A (Bv .NotIn (.ref ka) (.ref a)) Q E s := by
 obtain⟨ys, ve, hs, m⟩ := dic_of I hH r;refine wpAny_notIn_heap (knd := TK X.prog X.w) (Cj hu) (Gh I hk) hs m ?_;have e : (Ei ys k).isSome = (kvs.any fun p => p.1==k) := by
  rcases Gd ve k r with ⟨z1, _, z3⟩|⟨p, _, _, z1, _, z3, _⟩ <;> rw[z1, z3] <;> rfl
 rw[e];exact q _ (I.kept fun b o e => e)
theorem Qp(d : Ai)(hd : (d==Cw) = Ad) : MeetsIn X.prog X.w (Builtin.«dict.__len__» ⟨[.ref d], []⟩) (fun _ R s => ∃ ys, s.heap.DictOfH (TK X.prog X.w) d ys /\ R (.ok (.ret (.int ys.length s.toks))) {s with toks := s.toks+1}):=
 .of_wp fun A R s ⟨ys, hm, h⟩ => by
  obtain⟨o, es, ep, ho, hc, hdat, hk, _, _⟩ := hm;show Ay _ _ (dictSize d >>= _) _ _ s;unfold dictSize;refine Aq (Aq (O2 ho hdat (AK ?_)));show Ay _ _ (Builtin.Dict.pendingCount d >>= _) _ _ s;refine Aq (wpAny_pendingCount_other hd ?_);refine wpAny_ret_mkInt ?_;have : es.size = ys.length := by rw[<-Db, hk, B6]
  rw[Nat.add_zero, this];exact h
theorem Sj{Q:Ah -> Ak -> Prop}{E : Ah -> Ak -> Prop}(I : Inv X pI σ H s)(hH : H a = Aa (.ext (B4 a es)))(r : Repk X.K CL H A es kvs)(hz : kvs.length <= sizeLine)(q : ∀ s' t, Inv X pI σ H s' -> Q (.int kvs.length t) s') : Ay (model X.prog X.w) X.A (call (.builtin "len") [.ref a]) Q E s := by
 obtain⟨ys, ve, hs, m⟩ := dic_of I hH r;have el : ys.length = kvs.length := by rw[<-ve.length, r.length]
 have hf : (ys.length : Ae)<2 ^ 63 := by have := Gg;omega
 refine Calls.call_function_entry kind_len plain_len entry_len (args_len1 _) ?_;unfold Builtin.«len»;refine Aq (m := oneArg "len" _) (AK ?_);refine Aq (m := callSpecial? (.ref a) (CU "__len__")) (O0 (name := CU "__len__") m.typeIs OF
  (FN OF m.typeIs F.entry_dict_len (F.args_dict_len_1 _) (Qp a hs) ⟨ys, m, ?_⟩))
 show Ay _ _ _ _ _ {s with toks := s.toks+1}
 refine Aq (C5 (AK ?_));refine Aq (wpAny_letGo ?_);show Ay _ _ (if ((ys.length : Ag) : Ae)<0 then _ else _) _ _ _
 rw[AH (by omega)]
 show Ay _ _ (if ((ys.length : Ag) : Ae) ≥ 2 ^ 63 then _ else _) _ _ _
 rw[AH (by omega)]
 refine Aq (wpAny_mkInt (AK ⟨_, rfl, ?_⟩));rw[el];exact q _ _ (I.kept fun b o e => e)
theorem Si : PE X (.Dict [] [] pos) (fun _ H Q => ∀ a, H a = Af -> Q (.ref a) (upd H a (.ext (B4 a [])))) := fun pI s σ H Q I h => by
 have big : Cw<s.heap.objs.size := Nat.lt_trans (by decide) (I.mod.glob.keeps I.bk).lt
 have at0 : (s.heap.push { cls := .type "dict", data := .dict #[] }).get? s.heap.objs.size = Aa { cls := .type "dict", data := .dict #[] } := Ba _ rfl;refine wpAny_Dict_empty ⟨.ref s.heap.objs.size, _, I.laid (a := s.heap.objs.size) (t' := s.toks) (fun _ _ q => Aw _ q) (AG _) ?_, rfl, h _ (I.hok.fresh (AG _))⟩
 exact⟨⟨[], .nil, D5.any (P := X.prog) (w := X.w) ⟨BF.mpr (C8 (Bw big)), _, #[], 0, at0, ⟨rfl, rfl, rfl⟩, rfl, rfl, Oh⟩⟩, ⟨_, at0⟩, fun h1 h2 d k => d.keep k⟩
noncomputable def NI(K : Fg)(CL : ClA)(A : Ai -> Prop) : R2 := fun x y H Q => ∃ a ka es kvs k d, x = .ref a /\ y = .ref ka /\ H a = Aa (.ext (B4 a es)) /\ Repk K CL H A es kvs /\ Cf K H A ka k /\ C1 kvs k = Aa d /\ ∀ v, Rep K CL H A v d -> Q v H
theorem UV(hu : X.A.units+1<A6) : IxR X (NI X.K CL A) := by
 intro value slice pI s σ H x y v u Q I rx ry h hs;obtain⟨a, ka, es, kvs, k, d, rfl, rfl, hH, r, hk, hp, q⟩ := h;cases rx;cases ry;obtain⟨ys, ve, _, m⟩ := dic_of I hH r;rcases Gd ve k r with ⟨_, z2, _⟩|⟨p, x, d', z1, z2, _, z4, z5⟩
 ·rw[hp]at z2;cases z2
 ·rw[hp]at z2;cases z2;exact Dx m.typeIs slot_dict_getitem.lookup (wpAny_getItem_heap (knd := TK X.prog X.w) (Q := fun r s' => r = p.2 /\ EP X pI σ Q r s') (Cj hu) (Gh I hk) m z1 ⟨rfl, x, H, I.kept fun b o e => e, z4, q x z5⟩) hs
end
section
variable{X : Cx}{CL : ClA}{W : XW}
theorem LK : OpR X (Bl .Add) (VW X.K) := by
 intro pI s σ H x y v u Q I rx ry h;obtain⟨l, b, xs, zs, rfl, rfl, hH, hB, hz, q⟩ := h;cases rx;cases ry;obtain⟨its, r, ⟨o, n, e, c, dd, dt⟩, z⟩ := I.list hH;obtain⟨its2, r2, ⟨o2, n2, e2, c2, dd2, dt2⟩, z2⟩ := I.list hB;have hl := r.length;have hl2 := r2.length;obtain⟨cls, dd0, data, sl⟩ := o;obtain⟨cls2, dd02, data2, sl2⟩ := o2;simp only at c dd dt c2 dd2 dt2;subst c dd dt c2 dd2 dt2;have ea : its.toArray++its2.toArray = (its++its2).toArray := by simp
 refine FP ⟨_, e, rfl⟩ ⟨_, e2, rfl⟩ noFill_list_add seq_list_add PySem.F.slot_list_add PySem.F.entry_list_add (PySem.F.args_list_add_2 _ _) (list_addW l b its.toArray its2.toArray n n2 Af Af sl sl2 (by simp;omega)) ⟨e, e2, ?_⟩
 rw[ea];exact⟨.ref _, _, I.lnew (t' := s.toks) (r.append r2) (by rw[Ci];omega), rfl, q _ I.fresh⟩
theorem LJ : OpD X CL W (Bl .Add) (BR .Add) := by
 intro A pI s σ H x y v u Q I rx ry ⟨hA, dx, dy, hx, hy, p⟩;cases dx with
 |int i=>
  cases dy with
  |int j=>
   have ex := hx.int_of;have ey := hy.int_of
   subst ex ey;exact Tt pI s σ H _ _ v u Q I rx ry ⟨i, j, rfl, rfl, p _ H (As.refl H) rfl⟩
  |_ => exact p.elim
 |str i=>
  cases dy with
  |str j=>
   have ex := hx.str_of;have ey := hy.str_of
   subst ex ey;simp only[Vc]at p;split at p
   ·rename_i h;exact PN pI s σ H _ _ v u Q I rx ry ⟨i, j, rfl, rfl, Fv h, p _ H (As.refl H) rfl⟩
   ·exact p.elim
  |_ => exact p.elim
 |lst ds=>
  cases dy with
  |lst es=>
   obtain⟨a, xs, rfl, s1, r1⟩ := hx.lst_of;obtain⟨b, ys, rfl, s2, r2⟩ := hy.lst_of;simp only[MG]at p;split at p
   ·rename_i h;refine LK pI s σ H _ _ v u Q I rx ry ⟨a, b, xs, ys, rfl, rfl, s1, s2, by rw[r1.length, r2.length];exact Fv h, fun q hq => ?_⟩
    exact p _ _ (Ed hq _) (LM hA hq (r1.append r2))
   ·exact p.elim
  |_ => exact p.elim
 |tup ds=>
  cases dy with
  |tup es=>
   obtain⟨a, xs, rfl, na1, s1, r1⟩ := hx.tup_of;obtain⟨b, ys, rfl, _, s2, r2⟩ := hy.tup_of;simp only[Vb]at p;split at p
   ·rename_i h;simp only[Am]at h;refine SN pI s σ H _ _ v u Q I rx ry ⟨a, b, xs, ys, rfl, rfl, s1, s2, ?_, by rw[r1.length, r2.length];exact Fv h.2, fun hy0 => ?_, fun _ q hq => ?_⟩
    ·rintro rfl;cases ds with
     |nil => cases h.1
     |cons _ _ => exact r1.elim
    ·subst hy0;cases es with
     |nil => rw[Cm]at p;exact p _ H (As.refl H) ⟨a, xs, rfl, na1, s1, r1⟩
     |cons _ _ => exact r2.elim
    ·exact p _ _ (Ed hq _) (HW hA hq (r1.append r2))
   ·exact p.elim
  |_ => exact p.elim
 |_ => exact p.elim
theorem HU{op:EK}{C:Ae -> Ae -> Prop}{g:Ae -> Ae -> Ae}(ho : OpR X (Bl op) (rI C fun i j => .int (g i j)))(hg : ∀ dx dy, (∃ i j, dx = .int i /\ dy = .int j /\ ((C i j /\ BR op dx dy = .ok (.int (g i j))) \/ BR op dx dy = .bad)) \/ BR op dx dy = .bad) : OpD X CL W (Bl op) (BR op) := by
 intro A pI s σ H x y v u Q I rx ry ⟨hA, dx, dy, hx, hy, p⟩;rcases hg dx dy with ⟨i, j, rfl, rfl, ⟨c, e⟩|e⟩|e
 ·have ex := hx.int_of;have ey := hy.int_of
  subst ex ey;rw[e]at p;exact ho pI s σ H _ _ v u Q I rx ry ⟨i, j, rfl, rfl, c, p _ H (As.refl H) rfl⟩
 ·rw[e]at p;exact p.elim
 ·rw[e]at p;exact p.elim
theorem SF : OpD X CL W (Bl .Sub) (BR .Sub) := by
 intro A pI s σ H x y v u Q I rx ry ⟨hA, dx, dy, hx, hy, p⟩;cases dx with
 |int i=>
  cases dy with
  |int j=>
   have ex := hx.int_of;have ey := hy.int_of
   subst ex ey;exact Tp pI s σ H _ _ v u Q I rx ry ⟨i, j, rfl, rfl, p _ H (As.refl H) rfl⟩
  |_ => exact p.elim
 |_ => exact p.elim
theorem SH : OpD X CL W (Bl .Mult) (BR .Mult) := HU SL fun dx dy => by
 cases dx with
 |int i=>
  cases dy with
  |int j=>
   refine .inl ⟨i, j, rfl, rfl, ?_⟩;rw[UL];split
   ·rename_i h;exact .inl ⟨SU h, rfl⟩
   ·exact .inr rfl
  |_ => exact .inr rfl
 |_ => exact .inr rfl
theorem QI : OpD X CL W (Bl .FloorDiv) (BR .FloorDiv) := HU SM fun dx dy => by
 cases dx with
 |int i=>
  cases dy with
  |int j=>
   refine .inl ⟨i, j, rfl, rfl, ?_⟩;rw[Se];split
   ·rename_i h;exact .inl ⟨h, rfl⟩
   ·exact .inr rfl
  |_ => exact .inr rfl
 |_ => exact .inr rfl
theorem SJ : OpD X CL W (Bl .Mod) (BR .Mod) := HU Tr fun dx dy => by
 cases dx with
 |int i=>
  cases dy with
  |int j=>
   refine .inl ⟨i, j, rfl, rfl, ?_⟩;rw[UN];split
   ·rename_i h;exact .inl ⟨h, rfl⟩
   ·exact .inr rfl
  |_ => exact .inr rfl
 |_ => exact .inr rfl
theorem SG : OpD X CL W (Bl .Pow) (BR .Pow) := HU Tq fun dx dy => by
 cases dx with
 |int i=>
  cases dy with
  |int j=>
   refine .inl ⟨i, j, rfl, rfl, ?_⟩;rw[TM];split
   ·rename_i h;exact .inl ⟨⟨h.1.1, h.1.2, by omega⟩, rfl⟩
   ·exact .inr rfl
  |_ => exact .inr rfl
 |_ => exact .inr rfl
theorem LH(op : EK) : OpD X CL W (Bl op) (BR op) := by
 cases op with
 |Add => exact LJ
 |Sub => exact SF
 |Mult => exact SH
 |FloorDiv => exact QI
 |Mod => exact SJ
 |Pow => exact SG
 |_=>
  intro A pI s σ H x y v u Q I rx ry ⟨hA, dx, dy, hx, hy, p⟩;cases dx <;> cases dy <;> exact p.elim
noncomputable abbrev A0 : Ai -> Prop := fun _ => AX
theorem BH.plain(h : BH K CL H A v d) : Rep K CL H A0 v d := by
 rcases h with h|⟨a, o, rfl, e, ⟨xs, ds, rfl, rfl, r⟩|⟨es, ds, rfl, rfl, r⟩⟩
 ·exact Rep.sub (fun _ z => z.elim) d h
 ·exact⟨a, xs, rfl, .inl fun z => z.elim, SqL.of e, Reps.sub (fun _ z => z.elim) ds r⟩
 ·exact⟨a, es, rfl, fun z => z.elim, e, Repk.sub (fun _ z => z.elim) ds r⟩
mutual
theorem QR : ∀(n : Ag)(d : D), flD n d = Ac -> eqD d d = Ac
 |_, .non, _ => rfl
 |_, .bl b, _ => by simp
 |_, .int i, _ => by simp
 |_, .str x, _ => by simp
 |n+1, .tup ds, h => by
  show eqDs ds ds = Ac;exact eqDs_refl n ds h
 |n+1, .lst ds, h => by
  show eqDs ds ds = Ac;exact eqDs_refl n ds h
 |0, .tup ds, h => by cases h
 |0, .lst ds, h => by cases h
 |n, .obj _ _, h => by cases n <;> cases h
 |n, .exc _ _, h => by cases n <;> cases h
 |n, .dic _, h => by cases n <;> cases h
theorem eqDs_refl : ∀(n : Ag)(ds : Ab D), ds.all (flD n) = Ac -> eqDs ds ds = Ac
 |_, [], _ => rfl
 |n, d::ds, h => by
  simp only[En, Am]at h;simp only[Jk, Am];exact⟨QR n d h.1, eqDs_refl n ds h.2⟩
end
theorem Lb{ys:Ab V}(I : Inv X pI σ H s)(h : SqL X.K H a xs)(h' : SqT X.K H a ys) : AX := by
 obtain⟨its, r, ⟨o, n, e, c, _, _⟩, _⟩ := I.list h;obtain⟨its', r', ⟨o', e', c', _⟩, _⟩ := I.tuple h';rw[e]at e';cases e';rw[c]at c'
 injection c' with z
 exact absurd z (by decide)
mutual
theorem HR{pI : Ab (Ai × AB)}{σ : L2.St}{H : Hp}{s : Ak}(I : Inv X pI σ H s) : ∀(n : Ag)(d e : D){v : V}, flD n d = Ac -> flD n e = Ac -> Rep X.K CL H A0 v d -> Rep X.K CL H A0 v e -> d = e
 |n, .tup ds, e, v, hd, he, r, q => by
  obtain⟨a, xs, rfl, _, s1, r1⟩ := r;cases e with
  |tup es=>
   obtain⟨b, ys, e, _, s2, r2⟩ := q;cases e;have z := I.tuple_inj s1 s2;subst z;cases n with
   |zero => cases hd
   |succ n => rw[reps_inj I n ds es hd he r1 r2]
  |lst es=>
   obtain⟨b, ys, e, _, s2, r2⟩ := q;cases e;exact(Lb I s2 s1).elim
  |obj => cases n <;> cases he
  |exc => cases n <;> cases he
  |dic => cases n <;> cases he
  |_ => cases q
 |n, .lst ds, e, v, hd, he, r, q => by
  obtain⟨a, xs, rfl, _, s1, r1⟩ := r;cases e with
  |lst es=>
   obtain⟨b, ys, e, _, s2, r2⟩ := q;cases e;have z := I.list_inj s1 s2;subst z;cases n with
   |zero => cases hd
   |succ n => rw[reps_inj I n ds es hd he r1 r2]
  |tup es=>
   obtain⟨b, ys, e, _, s2, r2⟩ := q;cases e;exact(Lb I s1 s2).elim
  |obj => cases n <;> cases he
  |exc => cases n <;> cases he
  |dic => cases n <;> cases he
  |_ => cases q
 |n, .obj _ _, e, v, hd, he, r, q => by cases n <;> cases hd
 |n, .exc _ _, e, v, hd, he, r, q => by cases n <;> cases hd
 |n, .dic _, e, v, hd, he, r, q => by cases n <;> cases hd
 |n, .non, e, v, hd, he, r, q => by
  cases r;cases e with
  |tup => obtain⟨_, _, z, _⟩ := q;cases z
  |lst => obtain⟨_, _, z, _⟩ := q;cases z
  |obj => cases n <;> cases he
  |exc => cases n <;> cases he
  |dic => cases n <;> cases he
  |_ => cases q <;> rfl
 |n, .bl b, e, v, hd, he, r, q => by
  cases r;cases e with
  |tup => obtain⟨_, _, z, _⟩ := q;cases z
  |lst => obtain⟨_, _, z, _⟩ := q;cases z
  |obj => cases n <;> cases he
  |exc => cases n <;> cases he
  |dic => cases n <;> cases he
  |_ => cases q <;> rfl
 |n, .int b, e, v, hd, he, r, q => by
  cases r;cases e with
  |tup => obtain⟨_, _, z, _⟩ := q;cases z
  |lst => obtain⟨_, _, z, _⟩ := q;cases z
  |obj => cases n <;> cases he
  |exc => cases n <;> cases he
  |dic => cases n <;> cases he
  |_ => cases q <;> rfl
 |n, .str b, e, v, hd, he, r, q => by
  cases r;cases e with
  |tup => obtain⟨_, _, z, _⟩ := q;cases z
  |lst => obtain⟨_, _, z, _⟩ := q;cases z
  |obj => cases n <;> cases he
  |exc => cases n <;> cases he
  |dic => cases n <;> cases he
  |_ => cases q <;> rfl
theorem reps_inj{pI : Ab (Ai × AB)}{σ : L2.St}{H : Hp}{s : Ak}(I : Inv X pI σ H s) : ∀(n : Ag)(ds es : Ab D){xs : Ab V}, ds.all (flD n) = Ac -> es.all (flD n) = Ac -> Reps X.K CL H A0 xs ds -> Reps X.K CL H A0 xs es -> ds = es
 |_, [], [], _, _, _, _, _ => rfl
 |n, d::ds, e::es, x::xs, hd, he, r, q => by
  simp only[En, Am]at hd he;rw[HR I n d e hd.1 he.1 r.1 q.1, reps_inj I n ds es hd.2 he.2 r.2 q.2]
 |_, [], _::_, [], _, _, _, q => q.elim
 |_, [], _::_, _::_, _, _, r, _ => r.elim
 |_, _::_, [], [], _, _, r, _ => r.elim
 |_, _::_, [], _::_, _, _, _, q => q.elim
 |_, _::_, _::_, [], _, _, r, _ => r.elim
end
theorem Ha : ∀{ds es : Ab D}, ds.length ≠ es.length -> eqDs ds es = Ad
 |[], [], h => absurd rfl h
 |[], _::_, _ => rfl
 |_::_, [], _ => rfl
 |d::ds, e::es, h => by
  simp only[Jk, Ha (ds := ds) (es := es) (by simpa using h), Fc]
theorem Ku(n : Ag)(f : Ag -> An) : (B7 (n+1)).all f = (f 0&&(B7 n).all fun j => f (j+1)) := by
 rw[List.range_succ_eq_map, En, List.all_map];rfl
theorem Hb : ∀{ds es : Ab D}, ds.length = es.length -> eqDs ds es = (B7 ds.length).all fun j => eqD (ds.getD j .non) (es.getD j .non)
 |[], [], _ => rfl
 |d::ds, e::es, h => by
  rw[Jk, Hb (ds := ds) (es := es) (by simpa using h), DB, Ku]
  rfl
 |[], _::_, h => by cases h
 |_::_, [], h => by cases h
theorem Gc{ds : Ab D}(r : Reps K CL H A0 xs ds)(rv : AR xs its)(h : j<its.length):∃ x,Rep K CL H A0 x (ds.getD j .non)/\A4 x its[j] := by
 have e1 := rv.length;have e2 := r.length;have hd : ds[j]? = Aa (ds.getD j .non) := by
  rw[Co, BK (by omega)];rfl
 obtain⟨x, hx, q⟩ := r.get hd;obtain⟨u, hu, ru⟩ := rv.get hx;refine⟨x, q, ?_⟩;rw[BK h]at hu;cases hu;exact ru
theorem Gb{ds : Ab D}(h : ds.all (flD n) = Ac)(j : Ag) : flD n (ds.getD j .non) = Ac := by
 rw[Co];cases e : ds[j]? with
 |none => cases n <;> rfl
 |some d => exact List.all_eq_true.mp h d (Og e)
noncomputable def BE(B : AM)(s : Ak)(u t : Ah)(k : An) : Prop := Gs B s u t k /\ DW B s u t k /\ FM B s u t (!k)
section
variable{B : AM}{s : Ak}
open SeqAt
theorem Wi : BE B s .none .none Ac := ⟨RcAt.none_none, EqAt.same _, RcNeAt.none_none⟩
theorem WC(a b : An) : BE B s (.bool a) (.bool b) (a==b) := ⟨RcAt.bool_bool _ _, EqAt.bool_bool _ _, RcNeAt.bool_bool _ _⟩
theorem Wl(b : An) : BE B s .none (.bool b) Ad := ⟨RcAt.none_bool _, EqAt.none_bool _, RcNeAt.none_bool _⟩
theorem Wz(b : An) : BE B s (.bool b) .none Ad := ⟨RcAt.bool_none _, EqAt.bool_none _, RcNeAt.bool_none _⟩
theorem Wv(a : Ae)(t : Ca)(b : Ae)(u : Ca) : BE B s (.int a t) (.int b u) (a==b) := ⟨RcAt.int_int _ _ _ _, EqAt.int_int _ _ _ _, RcNeAt.int_int _ _ _ _⟩
theorem Vk(a : Aj)(t : Ca)(b : Aj)(u : Ca) : BE B s (.str a t) (.str b u) (a==b) := ⟨RcAt.str_str _ _ _ _, EqAt.str_str _ _ _ _, RcNeAt.str_str _ _ _ _⟩
theorem Ws(a : Ae)(t : Ca)(b : Aj)(u : Ca) : BE B s (.int a t) (.str b u) Ad := ⟨RcAt.int_str _ _ _ _, EqAt.int_str _ _ _ _, RcNeAt.int_str _ _ _ _⟩
theorem Vn(a : Aj)(t : Ca)(b : Ae)(u : Ca) : BE B s (.str a t) (.int b u) Ad := ⟨RcAt.str_int _ _ _ _, EqAt.str_int _ _ _ _, RcNeAt.str_int _ _ _ _⟩
theorem Wk(b : Ae)(u : Ca) : BE B s .none (.int b u) Ad := ⟨RcAt.none_int _ _, EqAt.none_int _ _, RcNeAt.none_int _ _⟩
theorem Wt(b : Ae)(u : Ca) : BE B s (.int b u) .none Ad := ⟨RcAt.int_none _ _, EqAt.int_none _ _, RcNeAt.int_none _ _⟩
theorem Wh(b : Aj)(u : Ca) : BE B s .none (.str b u) Ad := ⟨RcAt.none_str _ _, EqAt.none_str _ _, RcNeAt.none_str _ _⟩
theorem Vl(b : Aj)(u : Ca) : BE B s (.str b u) .none Ad := ⟨RcAt.str_none _ _, EqAt.str_none _ _, RcNeAt.str_none _ _⟩
theorem WB(a : An)(b : Ae)(u : Ca) : BE B s (.bool a) (.int b u) (b2i a==b) := ⟨RcAt.bool_int _ _ _, EqAt.bool_int _ _ _, RcNeAt.bool_int _ _ _⟩
theorem Ww(a : An)(b : Ae)(u : Ca) : BE B s (.int b u) (.bool a) (b==b2i a) := ⟨RcAt.int_bool _ _ _, EqAt.int_bool _ _ _, RcNeAt.int_bool _ _ _⟩
theorem Wy(a : An)(b : Aj)(u : Ca) : BE B s (.bool a) (.str b u) Ad := ⟨RcAt.bool_str _ _ _, EqAt.bool_str _ _ _, RcNeAt.bool_str _ _ _⟩
theorem Vo(a : An)(b : Aj)(u : Ca) : BE B s (.str b u) (.bool a) Ad := ⟨RcAt.str_bool _ _ _, EqAt.str_bool _ _ _, RcNeAt.str_bool _ _ _⟩
variable{l : Ai}{items : A8 Ah}
theorem Wo(h : s.heap.IsList l items)(hu : B.units<A6) : BE B s (.ref l) .none Ad := ⟨RcAt.list_none h hu, EqAt.list_none h hu, RcNeAt.list_none h hu⟩
theorem Wj(h : s.heap.IsList l items)(hu : B.units<A6) : BE B s .none (.ref l) Ad := ⟨RcAt.none_list h hu, EqAt.none_list h hu, RcNeAt.none_list h hu⟩
theorem Wq(b : An)(h : s.heap.IsList l items)(hu : B.units<A6) : BE B s (.ref l) (.bool b) Ad := ⟨RcAt.list_bool b h hu, EqAt.list_bool b h hu, RcNeAt.list_bool b h hu⟩
theorem WA(b : An)(h : s.heap.IsList l items)(hu : B.units<A6) : BE B s (.bool b) (.ref l) Ad := ⟨RcAt.bool_list b h hu, EqAt.bool_list b h hu, RcNeAt.bool_list b h hu⟩
theorem Wp(b : Ae)(u : Ca)(h : s.heap.IsList l items)(hu : B.units<A6) : BE B s (.ref l) (.int b u) Ad := ⟨RcAt.list_int b u h hu, EqAt.list_int b u h hu, RcNeAt.list_int b u h hu⟩
theorem Wu(b : Ae)(u : Ca)(h : s.heap.IsList l items)(hu : B.units<A6) : BE B s (.int b u) (.ref l) Ad := ⟨RcAt.int_list b u h hu, EqAt.int_list b u h hu, RcNeAt.int_list b u h hu⟩
theorem Wn(b : Aj)(u : Ca)(h : s.heap.IsList l items)(hu : B.units<A6) : BE B s (.ref l) (.str b u) Ad := ⟨RcAt.list_str b u h hu, EqAt.list_str b u h hu, RcNeAt.list_str b u h hu⟩
theorem Vm(b : Aj)(u : Ca)(h : s.heap.IsList l items)(hu : B.units<A6) : BE B s (.str b u) (.ref l) Ad := ⟨RcAt.str_list b u h hu, EqAt.str_list b u h hu, RcNeAt.str_list b u h hu⟩
theorem Vz(h : s.heap.IsTuple l items)(hu : B.units<A6) : BE B s (.ref l) .none Ad := ⟨RcAt.tuple_none h hu, EqAt.tuple_none h hu, RcNeAt.tuple_none h hu⟩
theorem Vp(h : s.heap.IsTuple l items)(hu : B.units<A6) : BE B s .none (.ref l) Ad := ⟨RcAt.none_tuple h hu, EqAt.none_tuple h hu, RcNeAt.none_tuple h hu⟩
theorem Vi(b : An)(h : s.heap.IsTuple l items)(hu : B.units<A6) : BE B s (.ref l) (.bool b) Ad := ⟨RcAt.tuple_bool b h hu, EqAt.tuple_bool b h hu, RcNeAt.tuple_bool b h hu⟩
theorem Wx(b : An)(h : s.heap.IsTuple l items)(hu : B.units<A6) : BE B s (.bool b) (.ref l) Ad := ⟨RcAt.bool_tuple b h hu, EqAt.bool_tuple b h hu, RcNeAt.bool_tuple b h hu⟩
theorem Vh(b : Ae)(u : Ca)(h : s.heap.IsTuple l items)(hu : B.units<A6) : BE B s (.ref l) (.int b u) Ad := ⟨RcAt.tuple_int b u h hu, EqAt.tuple_int b u h hu, RcNeAt.tuple_int b u h hu⟩
theorem Wr(b : Ae)(u : Ca)(h : s.heap.IsTuple l items)(hu : B.units<A6) : BE B s (.int b u) (.ref l) Ad := ⟨RcAt.int_tuple b u h hu, EqAt.int_tuple b u h hu, RcNeAt.int_tuple b u h hu⟩
theorem Vy(b : Aj)(u : Ca)(h : s.heap.IsTuple l items)(hu : B.units<A6) : BE B s (.ref l) (.str b u) Ad := ⟨RcAt.tuple_str b u h hu, EqAt.tuple_str b u h hu, RcNeAt.tuple_str b u h hu⟩
theorem Vj(b : Aj)(u : Ca)(h : s.heap.IsTuple l items)(hu : B.units<A6) : BE B s (.str b u) (.ref l) Ad := ⟨RcAt.str_tuple b u h hu, EqAt.str_tuple b u h hu, RcNeAt.str_tuple b u h hu⟩
theorem Wm(h : s.heap.IsList l items)(h2 : s.heap.IsTuple b items2)(hu : B.units<A6) : BE B s (.ref l) (.ref b) Ad := ⟨RcAt.list_tuple h h2 hu, EqAt.list_tuple h h2 hu, RcNeAt.list_tuple h h2 hu⟩
theorem Vg(h : s.heap.IsTuple l items)(h2 : s.heap.IsList b items2)(hu : B.units<A6) : BE B s (.ref l) (.ref b) Ad := ⟨RcAt.tuple_list h h2 hu, EqAt.tuple_list h h2 hu, RcNeAt.tuple_list h h2 hu⟩
end
end
section
variable{X : Cx}{CL : ClA}{W : XW}
theorem GL{its:A8 Ah}(x : PlainL h a its) : h.IsList a its := let ⟨o, n, e, c, _, d⟩ := x;⟨o, e, c, n, d⟩
noncomputable def Xp(X : Cx)(CL : ClA)(H : Hp)(s : Ak)(d : D)(u : Ah) : Prop := match d with
  |.non => u = .none
  |.bl b => u = .bool b
  |.int i => ∃ t, u = .int i t
  |.str x => ∃ t, u = .str x t
  |.tup ds => ∃ a xs its, u = .ref a /\ Reps X.K CL H A0 xs ds /\ AR xs its /\ s.heap.IsTuple a its.toArray
  |.lst ds => ∃ a xs its, u = .ref a /\ Reps X.K CL H A0 xs ds /\ AR xs its /\ s.heap.IsList a its.toArray
  |_ => AX
theorem LQ(I : Inv X pI σ H s)(hd : flD n d = Ac)(r : Rep X.K CL H A0 v d)(q : A4 v u) : Xp X CL H s d u := by
 cases d with
 |non => cases r;exact q
 |bl b => cases r;exact q
 |int b => cases r;exact q
 |str b => cases r;exact q
 |tup ds=>
  obtain⟨a, xs, rfl, _, sq, r⟩ := r;obtain⟨its, rv, p, _⟩ := I.tuple sq;cases q;exact⟨a, xs, its, rfl, r, rv, p⟩
 |lst ds=>
  obtain⟨a, xs, rfl, _, sq, r⟩ := r;obtain⟨its, rv, p, _⟩ := I.list sq;cases q;exact⟨a, xs, its, rfl, r, rv, GL p⟩
 |obj => cases n <;> cases hd
 |exc => cases n <;> cases hd
 |dic => cases n <;> cases hd
theorem Rn{B:AM}{ds es : Ab D}(hl : s.heap.IsList l its.toArray)(hb : s.heap.IsList b its2.toArray)(e1 : its.length = ds.length)(e2 : its2.length = es.length)(hu : B.units<A6)(hs : l = b -> eqDs ds es = Ac)(he : ∀ j (h1 : j<its.length) (h2 : j<its2.length), DW B.in1 s its[j] its2[j] (eqD (ds.getD j .non) (es.getD j .non))) : BE B s (.ref l) (.ref b) (eqDs ds es) := by
 have rc : Gs B s (.ref l) (.ref b) (eqDs ds es) := by
  by_cases hz : its.length = its2.length
  ·have q := SeqAt.RcAt.lists (e := fun j => eqD (ds.getD j .non) (es.getD j .non)) hl hb (by simpa using hz) hu (fun j h1 h2 => by simpa using he j (by simpa using h1) (by simpa using h2))
   rw[Hb (by omega)]
   have e : its.toArray.size = ds.length := by simpa using e1
   rw[e]at q;exact q
  ·rw[Ha (by omega)]
   exact SeqAt.RcAt.lists_lengths hl hb (by simpa using hz) hu
 have ne : FM B s (.ref l) (.ref b) (!eqDs ds es) := by
  by_cases hz : its.length = its2.length
  ·have q := SeqAt.RcNeAt.lists (e := fun j => eqD (ds.getD j .non) (es.getD j .non)) hl hb (by simpa using hz) hu (fun j h1 h2 => by simpa using he j (by simpa using h1) (by simpa using h2))
   rw[Hb (by omega)]
   have e : its.toArray.size = ds.length := by simpa using e1
   rw[e]at q;exact q
  ·rw[Ha (by omega)]
   exact SeqAt.RcNeAt.lists_lengths hl hb (by simpa using hz) hu
 refine⟨rc, ?_, ne⟩;by_cases hlb : l = b
 ·rw[hs hlb, hlb];exact OK _
 ·exact OJ hlb rc
theorem Rm{B:AM}{ds es : Ab D}(hl : s.heap.IsTuple l its.toArray)(hb : s.heap.IsTuple b its2.toArray)(e1 : its.length = ds.length)(e2 : its2.length = es.length)(hu : B.units<A6)(hs : l = b -> eqDs ds es = Ac)(he : ∀ j (h1 : j<its.length) (h2 : j<its2.length), DW B.in1 s its[j] its2[j] (eqD (ds.getD j .non) (es.getD j .non))) : BE B s (.ref l) (.ref b) (eqDs ds es) := by
 have rc : Gs B s (.ref l) (.ref b) (eqDs ds es) := by
  have q := SeqAt.RcAt.tuples (e := fun j => eqD (ds.getD j .non) (es.getD j .non)) hl hb hu (fun j h1 h2 => by simpa using he j (by simpa using h1) (by simpa using h2))
  have e : its.toArray.size = ds.length := by simpa using e1
  have e' : its2.toArray.size = es.length := by simpa using e2
  rw[e, e']at q;by_cases hz : ds.length = es.length
  ·rw[Hb hz];rw[hz, Op, DJ, NP]at q;rw[hz];exact q
  ·rw[Ha hz];rw[BF.mpr hz, Fc]at q;exact q
 have ne : FM B s (.ref l) (.ref b) (!eqDs ds es) := by
  have q := SeqAt.RcNeAt.tuples (e := fun j => eqD (ds.getD j .non) (es.getD j .non)) hl hb hu (fun j h1 h2 => by simpa using he j (by simpa using h1) (by simpa using h2))
  have e : its.toArray.size = ds.length := by simpa using e1
  have e' : its2.toArray.size = es.length := by simpa using e2
  rw[e, e']at q;by_cases hz : ds.length = es.length
  ·rw[Hb hz];rw[hz, Op, DJ, NP]at q;rw[hz];exact q
  ·rw[Ha hz];rw[BF.mpr hz, Fc]at q;exact q
 refine⟨rc, ?_, ne⟩;by_cases hlb : l = b
 ·rw[hs hlb, hlb];exact OK _
 ·exact OJ hlb rc
theorem Hk{pI : Ab (Ai × AB)}{σ : L2.St}{H : Hp}{s : Ak}(I : Inv X pI σ H s) :∀(n :Ag)(d e :D)(v w' :V)(u t :Ah)(B :AM),flD n d = Ac->flD n e = Ac->Rep X.K CL H A0 v d->Rep X.K CL H A0 w' e->A4 v u->A4 w' t->B.units+n<A6->BE B s u t (eqD d e)
  |n, d, e, v, w', u, t, B, hd, he, r, q, rv, rw', hu => by
    have hu0 : B.units<A6 := by omega
    have sd := LQ I hd r rv;have se := LQ I he q rw'
    match d, e, sd, se with
    |.non, .non, s1, s2 => cases s1;cases s2;exact Wi
    |.non, .bl b, s1, s2 => cases s1;cases s2;exact Wl b
    |.non, .int b, s1, s2 => cases s1;obtain⟨_, rfl⟩ := s2;exact Wk b _
    |.non, .str b, s1, s2 => cases s1;obtain⟨_, rfl⟩ := s2;exact Wh b _
    |.non, .tup es, s1, s2 => cases s1;obtain⟨_, _, _, rfl, _, _, p⟩ := s2;exact Vp p hu0
    |.non, .lst es, s1, s2 => cases s1;obtain⟨_, _, _, rfl, _, _, p⟩ := s2;exact Wj p hu0
    |.bl a, .non, s1, s2 => cases s1;cases s2;exact Wz a
    |.bl a, .bl b, s1, s2 => cases s1;cases s2;exact WC a b
    |.bl a, .int b, s1, s2 => cases s1;obtain⟨_, rfl⟩ := s2;exact WB a b _
    |.bl a, .str b, s1, s2 => cases s1;obtain⟨_, rfl⟩ := s2;exact Wy a b _
    |.bl a, .tup es, s1, s2 => cases s1;obtain⟨_, _, _, rfl, _, _, p⟩ := s2;exact Wx a p hu0
    |.bl a, .lst es, s1, s2 => cases s1;obtain⟨_, _, _, rfl, _, _, p⟩ := s2;exact WA a p hu0
    |.int a, .non, s1, s2 => obtain⟨_, rfl⟩ := s1;cases s2;exact Wt a _
    |.int a, .bl b, s1, s2 => obtain⟨_, rfl⟩ := s1;cases s2;exact Ww b a _
    |.int a, .int b, s1, s2 => obtain⟨_, rfl⟩ := s1;obtain⟨_, rfl⟩ := s2;exact Wv a _ b _
    |.int a, .str b, s1, s2 => obtain⟨_, rfl⟩ := s1;obtain⟨_, rfl⟩ := s2;exact Ws a _ b _
    |.int a, .tup es, s1, s2 => obtain⟨_, rfl⟩ := s1;obtain⟨_, _, _, rfl, _, _, p⟩ := s2;exact Wr a _ p hu0
    |.int a, .lst es, s1, s2 => obtain⟨_, rfl⟩ := s1;obtain⟨_, _, _, rfl, _, _, p⟩ := s2;exact Wu a _ p hu0
    |.str a, .non, s1, s2 => obtain⟨_, rfl⟩ := s1;cases s2;exact Vl a _
    |.str a, .bl b, s1, s2 => obtain⟨_, rfl⟩ := s1;cases s2;exact Vo b a _
    |.str a, .int b, s1, s2 => obtain⟨_, rfl⟩ := s1;obtain⟨_, rfl⟩ := s2;exact Vn a _ b _
    |.str a, .str b, s1, s2 => obtain⟨_, rfl⟩ := s1;obtain⟨_, rfl⟩ := s2;exact Vk a _ b _
    |.str a, .tup es, s1, s2 => obtain⟨_, rfl⟩ := s1;obtain⟨_, _, _, rfl, _, _, p⟩ := s2;exact Vj a _ p hu0
    |.str a, .lst es, s1, s2 => obtain⟨_, rfl⟩ := s1;obtain⟨_, _, _, rfl, _, _, p⟩ := s2;exact Vm a _ p hu0
    |.tup ds, .non, s1, s2 => cases s2;obtain⟨_, _, _, rfl, _, _, p⟩ := s1;exact Vz p hu0
    |.tup ds, .bl b, s1, s2 => cases s2;obtain⟨_, _, _, rfl, _, _, p⟩ := s1;exact Vi b p hu0
    |.tup ds, .int b, s1, s2 => obtain⟨_, rfl⟩ := s2;obtain⟨_, _, _, rfl, _, _, p⟩ := s1;exact Vh b _ p hu0
    |.tup ds, .str b, s1, s2 => obtain⟨_, rfl⟩ := s2;obtain⟨_, _, _, rfl, _, _, p⟩ := s1;exact Vy b _ p hu0
    |.tup ds, .lst es, s1, s2 => obtain⟨_, _, _, rfl, _, _, p⟩ := s1;obtain⟨_, _, _, rfl, _, _, p2⟩ := s2;exact Vg p p2 hu0
    |.lst ds, .non, s1, s2 => cases s2;obtain⟨_, _, _, rfl, _, _, p⟩ := s1;exact Wo p hu0
    |.lst ds, .bl b, s1, s2 => cases s2;obtain⟨_, _, _, rfl, _, _, p⟩ := s1;exact Wq b p hu0
    |.lst ds, .int b, s1, s2 => obtain⟨_, rfl⟩ := s2;obtain⟨_, _, _, rfl, _, _, p⟩ := s1;exact Wp b _ p hu0
    |.lst ds, .str b, s1, s2 => obtain⟨_, rfl⟩ := s2;obtain⟨_, _, _, rfl, _, _, p⟩ := s1;exact Wn b _ p hu0
    |.lst ds, .tup es, s1, s2 => obtain⟨_, _, _, rfl, _, _, p⟩ := s1;obtain⟨_, _, _, rfl, _, _, p2⟩ := s2;exact Wm p p2 hu0
    |.tup ds, .tup es, s1, s2=>
      match n, hd, he, hu with
      |n+1, hd, he, hu=>
        obtain⟨a, xs, its, rfl, r1, v1, p1⟩ := s1;obtain⟨b, ys, its2, rfl, r2, v2, p2⟩ := s2;have l1 := v1.length;have l2 := r1.length;have l3 := v2.length;have l4 := r2.length
        refine Rm p1 p2 (by omega) (by omega) hu0 (fun hab => ?_) fun j h1 h2 => ?_
        · have e1 : v = .ref a := A4.inj rv rfl;have e2 : w' = .ref b := A4.inj rw' rfl;subst e1 e2 hab;have z := HR I (n+1) _ _ hd he r q
          injection z with z
          rw[z];exact eqDs_refl n es he
        · obtain⟨x, rx, qx⟩ := Gc r1 v1 h1;obtain⟨y, ry, qy⟩ := Gc r2 v2 h2;exact(Hk I n _ _ x y _ _ B.in1 (Gb hd j) (Gb he j) rx ry qx qy (by show B.units+1+n<A6;omega)).2.1
    |.lst ds, .lst es, s1, s2=>
      match n, hd, he, hu with
      |n+1, hd, he, hu=>
        obtain⟨a, xs, its, rfl, r1, v1, p1⟩ := s1;obtain⟨b, ys, its2, rfl, r2, v2, p2⟩ := s2;have l1 := v1.length;have l2 := r1.length;have l3 := v2.length;have l4 := r2.length
        refine Rn p1 p2 (by omega) (by omega) hu0 (fun hab => ?_) fun j h1 h2 => ?_
        · have e1 : v = .ref a := A4.inj rv rfl;have e2 : w' = .ref b := A4.inj rw' rfl;subst e1 e2 hab;have z := HR I (n+1) _ _ hd he r q
          injection z with z
          rw[z];exact eqDs_refl n es he
        · obtain⟨x, rx, qx⟩ := Gc r1 v1 h1;obtain⟨y, ry, qy⟩ := Gc r2 v2 h2;exact(Hk I n _ _ x y _ _ B.in1 (Gb hd j) (Gb he j) rx ry qx qy (by show B.units+1+n<A6;omega)).2.1
    |.obj _ _, _, s1, _ => exact s1.elim
    |.exc _ _, _, s1, _ => exact s1.elim
    |.dic _, _, s1, _ => exact s1.elim
    |_, .obj _ _, _, s2 => exact s2.elim
    |_, .exc _ _, _, s2 => exact s2.elim
    |_, .dic _, _, s2 => exact s2.elim
end
section
variable{X : Cx}{CL : ClA}{W : XW}
theorem Ic(I : Inv X pI σ H s){ds : Ab D}(B : AM)(hd : flD n d = Ac)(hs : ds.all (flD n) = Ac)(r : Reps X.K CL H A0 xs ds)(rv : AR xs its)(q : Rep X.K CL H A0 v d)(qv : A4 v u)(hu : B.units+n<A6):∃ e :Ah->An,(∀ y,y ∈ its.toArray->DW B s y u (e y))/\its.toArray.any e = ds.any fun y =>eqD y d := by
 have l1 := rv.length;have l2 := r.length
 have key : ∀ y, y ∈ its -> ∃ k : An, DW B s y u k /\ ∀ j (h : j<its.length), its[j] = y -> eqD (ds.getD j .non) d = k := fun y hy => by
  obtain⟨j, hj, rfl⟩ := D7 hy;obtain⟨x, rx, qx⟩ := Gc r rv hj;refine⟨eqD (ds.getD j .non) d, (Hk I n _ _ x v _ _ B (Gb hs j) hd rx q qx qv hu).2.1, fun j' hj' e => ?_⟩
  obtain⟨x', rx', qx'⟩ := Gc r rv hj';rw[e]at qx';have z := A4.inj qx qx';subst z;rw[HR I n _ _ (Gb hs j') (Gb hs j) rx' rx]
 have key2 : ∀ y, ∃ k : An, y ∈ its -> DW B s y u k /\ ∀ j (h : j<its.length), its[j] = y -> eqD (ds.getD j .non) d = k := fun y => by
  by_cases hy : y ∈ its
  ·obtain⟨k, hk⟩ := key y hy;exact⟨k, fun _ => hk⟩
  ·exact⟨Ac, fun h => absurd h hy⟩
 refine⟨fun y => NQ (key2 y), fun y hy => (CT (key2 y) (by simpa using hy)).1, ?_⟩
 rw[Dh];simp only[List.any_toArray, N2];constructor
 ·rintro⟨y, hy, hk⟩;obtain⟨j, hj, rfl⟩ := D7 hy;have z := (CT (key2 its[j]) hy).2 j hj rfl;rw[hk]at z;refine⟨ds.getD j .non, ?_, z⟩;rw[Co, BK (by omega)]
  exact EH _
 ·rintro⟨y, hy, hk⟩;obtain⟨j, hj, rfl⟩ := D7 hy;have hj' : j<its.length := by omega
  refine⟨its[j], EH _, ?_⟩;have z := (CT (key2 its[j]) (EH _)).2 j hj' rfl;rw[<-z, Co, BK hj];exact hk
theorem HL{g:Ae -> Ae -> An}(ho : OpR X (Bv op) (rI0 fun i j => .bl (g i j)))(hg : ∀ dx dy, (∃ i j, dx = .int i /\ dy = .int j /\ Bj op dx dy = .ok (.bl (g i j))) \/ Bj op dx dy = .bad) : OpD X CL W (Bv op) (Bj op) := by
 intro A pI s σ H x y v u Q I rx ry ⟨hA, dx, dy, hx, hy, p⟩;rcases hg dx dy with ⟨i, j, rfl, rfl, e⟩|e
 ·have ex := hx.int_of;have ey := hy.int_of
  subst ex ey;rw[e]at p;exact ho pI s σ H _ _ v u Q I rx ry ⟨i, j, rfl, rfl, p _ H (As.refl H) rfl⟩
 ·rw[e]at p;exact p.elim
theorem Mg{x:V}(h : BH X.K CL H A x d)(hd : d ≠ .non) : x ≠ .non := by
 rintro rfl;have h := h.plain;cases d with
 |non => exact hd rfl
 |tup => obtain⟨_, _, e, _⟩ := h;cases e
 |lst => obtain⟨_, _, e, _⟩ := h;cases e
 |obj => obtain⟨_, _, _, _, e, _⟩ := h;cases e
 |exc => obtain⟨_, _, _, e, _⟩ := h;cases e
 |dic => obtain⟨_, _, e, _⟩ := h;cases e
 |_ => cases h
theorem GE(hu : X.A.units+64<A6)(op : CS) : OpD X CL W (Bv op) (Bj op) := by
 cases op with
 |Eq=>
  intro A pI s σ H x y v u Q I rx ry ⟨hA, dx, dy, hx, hy, p⟩;rw[WL]at p;split at p
  ·rename_i h;simp only[Am]at h;exact(Hk I 5 dx dy x y v u X.A h.1 h.2 hx.plain hy.plain rx ry (by omega)).1 X.prog X.w X.xe _ ⟨.bl _, H, I, rfl, p _ H (As.refl H) rfl⟩
  ·exact p.elim
 |NotEq=>
  intro A pI s σ H x y v u Q I rx ry ⟨hA, dx, dy, hx, hy, p⟩;rw[We]at p;split at p
  ·rename_i h;simp only[Am]at h;exact(Hk I 5 dx dy x y v u X.A h.1 h.2 hx.plain hy.plain rx ry (by omega)).2.2 X.prog X.w X.xe _ ⟨.bl _, H, I, rfl, p _ H (As.refl H) rfl⟩
  ·exact p.elim
 |Lt => exact HL V6 fun dx dy => by cases dx <;> cases dy <;> first|exact .inl ⟨_, _, rfl, rfl, rfl⟩|exact .inr rfl
 |LtE => exact HL V7 fun dx dy => by cases dx <;> cases dy <;> first|exact .inl ⟨_, _, rfl, rfl, rfl⟩|exact .inr rfl
 |Gt => exact HL V8 fun dx dy => by cases dx <;> cases dy <;> first|exact .inl ⟨_, _, rfl, rfl, rfl⟩|exact .inr rfl
 |GtE => exact HL V9 fun dx dy => by cases dx <;> cases dy <;> first|exact .inl ⟨_, _, rfl, rfl, rfl⟩|exact .inr rfl
 |In=>
  intro A pI s σ H x y v u Q I rx ry ⟨hA, dx, dy, hx, hy, p⟩;cases dy with
  |lst es=>
   rw[Xj]at p;split at p
   ·rename_i h;simp only[Am]at h;obtain⟨a, xs, e, _, sq, r⟩ := hy.plain;subst e;cases ry;obtain⟨its, rv, pl, _⟩ := I.list sq;obtain⟨e, he, ha⟩ := Ic I (n := 5) X.A.in1 h.1 h.2 r rv hx.plain rx (by show X.A.units+1+5<A6;omega)
    refine SeqAt.in_listAt e (GL pl) he ?_;rw[ha];exact⟨.bl _, H, I, rfl, p _ H (As.refl H) rfl⟩
   ·exact p.elim
  |tup es=>
   rw[Xi]at p;split at p
   ·rename_i h;simp only[Am]at h;obtain⟨a, xs, e, _, sq, r⟩ := hy.plain;subst e;cases ry;obtain⟨its, rv, pl, _⟩ := I.tuple sq;obtain⟨e, he, ha⟩ := Ic I (n := 5) X.A.in1 h.1 h.2 r rv hx.plain rx (by show X.A.units+1+5<A6;omega)
    refine SeqAt.in_tupleAt e pl he ?_;rw[ha];exact⟨.bl _, H, I, rfl, p _ H (As.refl H) rfl⟩
   ·exact p.elim
  |dic kvs=>
   obtain⟨a, es, rfl, hH, rk⟩ := hy.dic_of;have p' : AS (fun H => Rep X.K CL H A) W H (match CJ dx with|some k => .ok (.bl (kvs.any fun p => p.1==k))|none => .bad) Q := p
   cases ek : CJ dx with
   |none => rw[ek]at p';exact p'.elim
   |some k=>
    rw[ek]at p';obtain⟨ka, rfl, hk⟩ := Gy hx ek;cases rx;cases ry;exact UA (by omega) I hH rk hk fun s' I' => ⟨.bl _, H, I', rfl, p' _ H (As.refl H) rfl⟩
  |_ => cases dx <;> exact p.elim
 |NotIn=>
  intro A pI s σ H x y v u Q I rx ry ⟨hA, dx, dy, hx, hy, p⟩;cases dy with
  |lst es=>
   rw[Wc]at p;split at p
   ·rename_i h;simp only[Am]at h;obtain⟨a, xs, e, _, sq, r⟩ := hy.plain;subst e;cases ry;obtain⟨its, rv, pl, _⟩ := I.list sq;obtain⟨e, he, ha⟩ := Ic I (n := 5) X.A.in1 h.1 h.2 r rv hx.plain rx (by show X.A.units+1+5<A6;omega)
    refine SeqAt.notIn_listAt e (GL pl) he ?_;rw[ha];exact⟨.bl _, H, I, rfl, p _ H (As.refl H) rfl⟩
   ·exact p.elim
  |tup es=>
   rw[Wb]at p;split at p
   ·rename_i h;simp only[Am]at h;obtain⟨a, xs, e, _, sq, r⟩ := hy.plain;subst e;cases ry;obtain⟨its, rv, pl, _⟩ := I.tuple sq;obtain⟨e, he, ha⟩ := Ic I (n := 5) X.A.in1 h.1 h.2 r rv hx.plain rx (by show X.A.units+1+5<A6;omega)
    refine SeqAt.notIn_tupleAt e pl he ?_;rw[ha];exact⟨.bl _, H, I, rfl, p _ H (As.refl H) rfl⟩
   ·exact p.elim
  |dic kvs=>
   obtain⟨a, es, rfl, hH, rk⟩ := hy.dic_of;have p' : AS (fun H => Rep X.K CL H A) W H (match CJ dx with|some k => .ok (.bl (!kvs.any fun p => p.1==k))|none => .bad) Q := p
   cases ek : CJ dx with
   |none => rw[ek]at p';exact p'.elim
   |some k=>
    rw[ek]at p';obtain⟨ka, rfl, hk⟩ := Gy hx ek;cases rx;cases ry;exact Sh (by omega) I hH rk hk fun s' I' => ⟨.bl _, H, I', rfl, p' _ H (As.refl H) rfl⟩
  |_ => cases dx <;> exact p.elim
 |Is=>
  intro A pI s σ H x y v u Q I rx ry ⟨hA, dx, dy, hx, hy, p⟩;cases dy with
  |non=>
   have ey := hy.non_of;subst ey;refine Ts pI s σ H _ _ v u Q I rx ry ⟨rfl, ?_⟩;cases dx with
   |non=>
    have ex := hx.non_of;subst ex;exact p _ H (As.refl H) rfl
   |exc => exact p.elim
   |dic => exact p.elim
   |_ => rw[B9 (Mg hx (by simp))];exact p _ H (As.refl H) rfl
  |bl b=>
   cases dx with
   |bl a=>
    have ey := hy.bl_of;have ex := hx.bl_of;subst ex ey;cases rx;cases ry;refine wpAny_is_plain rfl ⟨.bl (a==b), H, I, ?_, p _ H (As.refl H) rfl⟩;cases a <;> cases b <;> rfl
   |_ => exact p.elim
  |_ => cases dx <;> exact p.elim
 |IsNot=>
  intro A pI s σ H x y v u Q I rx ry ⟨hA, dx, dy, hx, hy, p⟩;cases dy with
  |non=>
   have ey := hy.non_of;subst ey;refine SK pI s σ H _ _ v u Q I rx ry ⟨rfl, ?_⟩;cases dx with
   |non=>
    have ex := hx.non_of;subst ex;exact p _ H (As.refl H) rfl
   |exc => exact p.elim
   |dic => exact p.elim
   |_ => rw[B9 (Mg hx (by simp))];exact p _ H (As.refl H) rfl
  |bl b=>
   cases dx with
   |bl a=>
    have ey := hy.bl_of;have ex := hx.bl_of;subst ex ey;cases rx;cases ry;refine wpAny_isNot_plain rfl ⟨.bl (!(a==b)), H, I, ?_, p _ H (As.refl H) rfl⟩;cases a <;> cases b <;> rfl
   |_ => exact p.elim
  |_ => cases dx <;> exact p.elim
end
section
variable{X : Cx}{CL : ClA}{W : XW}{a b c : Ao}{fa fb fc : Rho -> R D}{pos : AI}
theorem BY.bind{f:D -> R An}{Q:An -> Hp -> Prop}{Q':VK}(h : BY W H (r.bind f) Q)(k : ∀ d v H', r = .ok d -> As H H' -> Rp H' v d -> BY W H' (f d) Q -> Q' v H') : AS Rp W H r Q' := by
 cases r with
 |ok d => exact fun v H2 s2 q => k d v H2 rfl s2 q (BY.same s2 h)
 |exn x => exact h
 |bad => exact h
theorem BY.bindB{r:R An}{f:An -> R An}{Q:An -> Hp -> Prop}{Q':An -> Hp -> Prop}(h : BY W H (r.bind f) Q)(k : ∀ b H', r = .ok b -> As H H' -> BY W H' (f b) Q -> Q' b H') : BY W H r Q' := by
 cases r with
 |ok d => exact fun H2 s2 => k d H2 rfl s2 (BY.same s2 h)
 |exn x => exact h
 |bad => exact h
theorem EV.bind{Rp:Hp -> Ab V -> Ab D -> Prop}{r:R (Ab D)}{f:Ab D -> R D}{Q':Ab V -> Hp -> Prop}(h : AS Rq W H (r.bind f) Q)(k : ∀ d v H', r = .ok d -> As H H' -> Rp H' v d -> AS Rq W H' (f d) Q -> Q' v H') : EV Rp W H r Q' := by
 cases r with
 |ok d => exact fun v H2 s2 q => k d v H2 rfl s2 q (AS.same s2 h)
 |exn x => exact h
 |bad => exact h
theorem HQ{f:An -> R D}(h : AS Rq W H ((Cs d).bind f) Q) : ∃ c, d = .bl c /\ AS Rq W H (f c) Q := by
 cases d with
 |bl c => exact⟨c, rfl, h⟩
 |_ => exact h.elim
theorem T8(ha : ST X CL W a fa) : SE X CL W (.UnaryOp .Not a pos) (fun ρ => (fa ρ).bind fun x => (Cs x).bind fun b => .ok (.bl (!b))) := fun A => PE.weak (TX (ha A)) fun σ H Q ⟨hA, ρ, g, p⟩ => ⟨hA, ρ, g, AS.bind p fun d v H1 _ s1 r1 p1 => by
 obtain⟨c, rfl, p2⟩ := HQ p1;exact⟨c, r1.bl_of, p2 _ H1 (As.refl H1) rfl⟩⟩
theorem Mv{op}(ha : SE X CL W a fa) : SE X CL W (.BoolOp op [a] pos) fa := fun A => TW (ha A)
theorem Uf{rest : Ab Ao}(ha : SE X CL W a fa)(hb : SE X CL W (.BoolOp .And (b::rest) pos) fb) : SE X CL W (.BoolOp .And (a::b::rest) pos) (fun ρ => (fa ρ).bind fun x => (Cs x).bind fun c => if c = Ac then fb ρ else .ok (.bl Ad)):=
 fun A => PE.weak (T3 (ha A) (hb A)) fun σ H Q ⟨hA, ρ, g, p⟩ => ⟨hA, ρ, g, AS.bind p fun d v H1 _ s1 r1 p1 => by
  obtain⟨c, rfl, p2⟩ := HQ p1;refine⟨c, r1, ?_⟩;cases c with
  |true => exact⟨hA.same s1, ρ, g.same s1, p2⟩
  | false => exact p2 _ H1 (As.refl H1) rfl⟩
theorem Vq{rest : Ab Ao}(ha : SE X CL W a fa)(hb : SE X CL W (.BoolOp .Or (b::rest) pos) fb) : SE X CL W (.BoolOp .Or (a::b::rest) pos) (fun ρ => (fa ρ).bind fun x => (Cs x).bind fun c => if c = Ac then .ok (.bl Ac) else fb ρ):=
 fun A => PE.weak (V1 (ha A) (hb A)) fun σ H Q ⟨hA, ρ, g, p⟩ => ⟨hA, ρ, g, AS.bind p fun d v H1 _ s1 r1 p1 => by
  obtain⟨c, rfl, p2⟩ := HQ p1;refine⟨c, r1, ?_⟩;cases c with
  |false => exact⟨hA.same s1, ρ, g.same s1, p2⟩
  | true => exact p2 _ H1 (As.refl H1) rfl⟩
theorem P2(hu : X.A.units+64<A6)(ha : ST X CL W a fa)(hb : ST X CL W b fb)(hc : ST X CL W c fc)(hm : FQ [op, op'] [b, c] = Ad):SE X CL W (.Compare a [op,op'] [b,c] pos) (fun ρ =>(fa ρ).bind fun x =>(fb ρ).bind fun y =>(Bj op x y).bind fun z =>(Cs z).bind fun k =>if k = Ac then (fc ρ).bind fun u =>Bj op' y u else .ok (.bl Ad)):=
 fun A => PE.weak (QG (GE hu op A) (GE hu op' A) (ha A) (hb A) (hc A) hm) fun σ H Q ⟨hA, ρ, g, p⟩ => ⟨hA, ρ, g, AS.bind p fun dx x H1 _ s1 r1 p1 => ⟨hA.same s1, ρ, g.same s1, AS.bind p1 fun dy y H2 _ s2 r2 p2=>
  ⟨(hA.same s1).same s2, dx, dy, r1.same s2, r2, AS.bind p2 fun dz z H3 _ s3 r3 p3 => by
   obtain⟨k, rfl, p4⟩ := HQ p3;refine⟨k, r3, ?_⟩;cases k with
   |false => exact p4 _ H3 (As.refl H3) rfl
   | true => exact⟨((hA.same s1).same s2).same s3, ρ, ((g.same s1).same s2).same s3, AS.bind p4 fun du u H4 _ s4 r4 p5 => ⟨(((hA.same s1).same s2).same s3).same s4, dy, du, (r2.same s3).same s4, r4, p5⟩⟩⟩⟩⟩
theorem Sb{xs:Ab D}{i:Ae}(h : CH xs i = .ok d) : ∃ k, plD xs.length i = Aa k /\ xs[k]? = Aa d := by
 unfold CH at h;split at h
 ·rename_i k e;split at h
  ·rename_i d' e';cases h;exact⟨k, e, e'⟩
  ·cases h
 ·cases h
theorem Ld{xs:Ab D}{i:Ae}(h : CH xs i = .exn x) : AX := by
 unfold CH at h;split at h
 ·split at h <;> cases h
 ·cases h
theorem LZ{ds : Ab D}{i:Ae}(r : Reps K CL H A xs ds)(h : CH ds i = .ok d) : ∃ v, atI xs i = Aa v /\ Rep K CL H A v d := by
 obtain⟨k, e, q⟩ := Sb h;obtain⟨v, hv, rv⟩ := r.get q;refine⟨v, ?_, rv⟩;unfold atI;have : ixN xs.length i = Aa k := by rw[r.length];exact e
 rw[this];exact hv
theorem Uc(hu : X.A.units+64<A6)(hs : Jz b)(ha : ST X CL W a fa)(hb : ST X CL W b fb) : SE X CL W (.Subscript a b pos) (fun ρ => (fa ρ).bind fun x => (fb ρ).bind fun y => DH x y):=
 fun A => PE.weak (V2 (r := fun x y H Q => (NH X.K x y H Q \/ NG X.K x y H Q) \/ NI X.K CL A x y H Q) ((R6.or UU).or (UV (by omega))) (ha A) (hb A) hs) fun σ H Q h => by
  obtain⟨hA, ρ, g, h⟩ := op2 h;refine⟨hA, ρ, g, ?_⟩;cases e : fa ρ with
  |bad => rw[e]at h;exact h
  |exn x => rw[e]at h;exact h
  |ok dx0=>
   rw[e]at h;intro x H1 s1 r1;obtain⟨hA1, ρ1, g1, h1⟩ := h x H1 s1 r1;refine⟨hA1, ρ1, g1, ?_⟩;cases e1 : fb ρ1 with
   |bad => rw[e1]at h1;exact h1
   |exn x => rw[e1]at h1;exact h1
   |ok dy0=>
    rw[e1]at h1;intro y H2 s2 r2;obtain⟨hA2, dx, dy, rx, ry, p⟩ := h1 y H2 s2 r2;cases dy with
    |int i=>
     have ey := ry.int_of;subst ey;cases dx with
     |lst ds=>
      obtain⟨q, xs, rfl, sq, r⟩ := rx.lst_of;rw[WO]at p;cases e2 : CH ds i with
      |ok d=>
       rw[e2]at p;obtain⟨v, hv, rv⟩ := LZ r e2;exact .inl (.inl ⟨q, xs, i, v, rfl, rfl, sq, hv, p v H2 (As.refl H2) rv⟩)
      |exn x => exact(Ld e2).elim
      |bad => rw[e2]at p;exact p.elim
     |tup ds=>
      obtain⟨q, xs, rfl, _, sq, r⟩ := rx.tup_of;rw[WN]at p;cases e2 : CH ds i with
      |ok d=>
       rw[e2]at p;obtain⟨v, hv, rv⟩ := LZ r e2;exact .inl (.inr ⟨q, xs, i, v, rfl, rfl, sq, hv, p v H2 (As.refl H2) rv⟩)
      |exn x => exact(Ld e2).elim
      |bad => rw[e2]at p;exact p.elim
     |_ => exact p.elim
    |tup es=>
     cases dx with
     |dic kvs=>
      have p' : AS (fun H => Rep X.K CL H A) W H2 (match (CJ (.tup es)).bind (C1 kvs) with|some d => .ok d|none => .bad) Q := p
      cases ek : CJ (.tup es) with
      |none => rw[ek]at p';exact p'.elim
      |some k=>
       rw[ek]at p';have p2 : AS (fun H => Rep X.K CL H A) W H2 (match C1 kvs k with|some d => .ok d|none => .bad) Q := p'
       cases eg : C1 kvs k with
       |none => rw[eg]at p2;exact p2.elim
       |some d=>
        rw[eg]at p2;obtain⟨a, es', rfl, hH, rk⟩ := rx.dic_of;obtain⟨ka, rfl, hk⟩ := Gy ry ek;exact .inr ⟨a, ka, es', kvs, k, d, rfl, rfl, hH, rk, hk, eg, fun v rv => p2 v H2 (As.refl H2) rv⟩
     |_ => exact p.elim
    |_ => cases dx <;> exact p.elim
theorem Uj : SA X CL W [] (fun _ => .ok []) := fun A => PA.weak Gf fun σ H Q ⟨hA, ρ, g, p⟩ => p [] H (As.refl H) trivial
theorem Rl{es:Ab Ao}(ha : SE X CL W a fa)(hs : SA X CL W es fs)(hst : At (a::es) X.env = (Ad, eval a X.env)::At es X.env) : SA X CL W (a::es) (fun ρ => (fa ρ).bind fun x => (fs ρ).bind fun xs => .ok (x::xs)):=
 fun A => PA.weak (EN (ha A) (hs A) hst) fun σ H Q ⟨hA, ρ, g, p⟩ => by
  dsimp only at p;refine⟨hA, ρ, g, ?_⟩;cases e : fa ρ with
  |bad => rw[e]at p;exact p
  |exn x => rw[e]at p;exact p
  |ok d=>
   rw[e]at p;intro v H1 s1 r1;refine⟨hA.same s1, ρ, g.same s1, ?_⟩;cases e1 : fs ρ with
   |bad => rw[R.bind_ok, e1]at p;exact p
   |exn x => rw[R.bind_ok, e1]at p;exact fun H2 s2 => p H2 (s1.trans s2)
   |ok ds=>
    rw[R.bind_ok, e1]at p;exact fun vs H2 s2 r2 => p (v::vs) H2 (s1.trans s2) ⟨r1.same s2, r2⟩
theorem T6{es:Ab Ao}{k:Ag}(hs : SA X CL W es fs)(hz : ∀ ρ ds, fs ρ = .ok ds -> ds.length <= 100000) : SE X CL W (.Tuple es k pos) (fun ρ => (fs ρ).bind fun xs => .ok (.tup xs)):=
 fun A => PE.weak (TU (hs A)) fun σ H Q ⟨hA, ρ, g, p⟩ => ⟨hA, ρ, g, EV.bind p fun ds vs H1 e s1 r1 p1 => ⟨by
  rw[r1.length, Dz];have := hz ρ ds e;omega, fun q hq => p1 _ _ (Ed hq _) (HW (hA.same s1) hq r1)⟩⟩
noncomputable def Gj(W : XW)(H : Hp)(r : R (Al Ae))(Q : Al Ae -> Hp -> Prop) : Prop := match r with
  |.ok o => ∀ H', As H H' -> Q o H'
  |.exn x => ∀ H', As H H' -> W x H'
  |.bad => AX
theorem Gj.bind{r:R (Al Ae)}{f:Al Ae -> R D}(h : AS Rq W H (r.bind f) Q)(k : ∀ o H', r = .ok o -> As H H' -> AS Rq W H' (f o) Q -> Q' o H') : Gj W H r Q' := by
 cases r with
 |ok d => exact fun H2 s2 => k d H2 rfl s2 (AS.same s2 h)
 |exn x => exact h
 |bad => exact h
noncomputable def SO(X : Cx)(CL : ClA)(W : XW)(e : Al Ao)(f : Rho -> R (Al Ae)) : Prop := ∀ A, PO X e (fun σ H Q => AOk H A /\ ∃ ρ, Good X.K CL A ρ σ H /\ Gj W H (f ρ) Q)
theorem PO.weak{e:Al Ao}{t t':TO}(h : PO X e t)(k : ∀ σ H Q, t' σ H Q -> t σ H Q) : PO X e t' := fun pI s σ H Q I q => h pI s σ H Q I (k _ _ _ q)
theorem Rb : SO X CL W Af (fun _ => .ok Af) := fun A => PO.weak Sr fun σ H Q ⟨hA, ρ, g, p⟩ => p H (As.refl H)
theorem Ra(ha : ST X CL W a fa) : SO X CL W (Aa a) (fun ρ => (fa ρ).bind fun d => (C2 d).bind fun i => .ok (Aa i)) := fun A => PO.weak (Sq (ha A)) fun σ H Q ⟨hA, ρ, g, p⟩ => by
 dsimp only at p;refine⟨hA, ρ, g, ?_⟩;cases e : fa ρ with
 |bad => rw[e]at p;exact p
 |exn x => rw[e]at p;exact p
 |ok d=>
  rw[e]at p;intro v H1 s1 r1;cases d with
  |int i => exact⟨i, r1.int_of, p H1 s1⟩
  |_ => exact p.elim
theorem Ma{ds : Ab D}(lo hi : Al Ae)(r : Reps K CL H A xs ds) : Reps K CL H A (FY xs lo hi) (GV ds lo hi) := by
 unfold FY GV;have e : ∀ d o, HT.sIx xs.length d o = FA ds.length d o := fun d o => by rw[r.length];cases o <;> rfl
 rw[e, e, r.length];exact(r.drop _).take _
end
section
variable{X : Cx}{CL : ClA}{W : XW}{a b c : Ao}{fa fb fc : Rho -> R D}{pos : AI}
def DF(K : Fg)(CL : ClA)(H : Hp)(A : Ai -> Prop) : Ab V -> Ab D -> Prop
 |[], [] => E4
 |v::vs, d::ds => BH K CL H A v d /\ DF K CL H A vs ds
 |_, _ => AX
theorem DF.same{K : Fg}{H H' : Hp}{A : Ai -> Prop}(s : As H H') : ∀{vs : Ab V}{ds : Ab D}, DF K CL H A vs ds -> DF K CL H' A vs ds
 |[], [], h => h
 |_::_, _::_, h => ⟨h.1.same s, DF.same s h.2⟩
 |[], _::_, h => h.elim
 |_::_, [], h => h.elim
theorem DF.one(h : DF K CL H A vs [d]) : ∃ v, vs = [v] /\ BH K CL H A v d := by
 cases vs with
 |nil => exact h.elim
 |cons v vs=>
  cases vs with
  |nil => exact⟨v, rfl, h.1⟩
  |cons => exact h.2.elim
theorem DF.two{e:D}(h : DF K CL H A vs [d, e]) : ∃ v w', vs = [v, w'] /\ BH K CL H A v d /\ BH K CL H A w' e := by
 cases vs with
 |nil => exact h.elim
 |cons v vs=>
  cases vs with
  |nil => exact h.2.elim
  |cons w' vs=>
   cases vs with
   |nil => exact⟨v, w', rfl, h.1, h.2.1⟩
   |cons => exact h.2.2.elim
noncomputable def SAT(X : Cx)(CL : ClA)(W : XW)(es : Ab Ao)(f : Rho -> R (Ab D)) : Prop := ∀ A, PA X es (fun σ H Q => AOk H A /\ ∃ ρ, Good X.K CL A ρ σ H /\ EV (fun H => DF X.K CL H A) W H (f ρ) Q)
theorem Rk : SAT X CL W [] (fun _ => .ok []) := fun A => PA.weak Gf fun σ H Q ⟨hA, ρ, g, p⟩ => p [] H (As.refl H) trivial
theorem P5{es:Ab Ao}(ha : ST X CL W a fa)(hs : SAT X CL W es fs)(hst : At (a::es) X.env = (Ad, eval a X.env)::At es X.env) : SAT X CL W (a::es) (fun ρ => (fa ρ).bind fun x => (fs ρ).bind fun xs => .ok (x::xs)):=
 fun A => PA.weak (EN (ha A) (hs A) hst) fun σ H Q ⟨hA, ρ, g, p⟩ => by
  dsimp only at p;refine⟨hA, ρ, g, ?_⟩;cases e : fa ρ with
  |bad => rw[e]at p;exact p
  |exn x => rw[e]at p;exact p
  |ok d=>
   rw[e]at p;intro v H1 s1 r1;refine⟨hA.same s1, ρ, g.same s1, ?_⟩;cases e1 : fs ρ with
   |bad => rw[R.bind_ok, e1]at p;exact p
   |exn x => rw[R.bind_ok, e1]at p;exact fun H2 s2 => p H2 (s1.trans s2)
   |ok ds=>
    rw[R.bind_ok, e1]at p;exact fun vs H2 s2 r2 => p (v::vs) H2 (s1.trans s2) ⟨r1.same s2, r2⟩
noncomputable def Gk(X : Cx)(CL : ClA)(W : XW)(f : Ah)(g : Ab D -> R D) : Prop := ∀ A, EW X f (fun xs H Q => AOk H A /\ ∃ ds, DF X.K CL H A xs ds /\ AS (fun H => Rep X.K CL H A) W H (g ds) Q)
theorem HZ{x:Aj}{id:Cc}{p:AI}{es:Ab Ao}{g:Ab D -> R D}(hc : Gk X CL W (.builtin id) g)(hg : Gl X x)(hm : X.mg x = Af)(hv : BW x = Aa (.builtin id))(ha : SAT X CL W (e::es) fs)(hn : x ≠ "__name__")(hdb : (x==("__debug__" : Aj)) = Ad)(he : At (e::es) X.env = (Ad, eval e X.env)::At es X.env)(hpl : ∀ pos, (BN pos (At es X.env)).any (·.1) = Ad):SE X CL W (.Call (.Name x p) (e::es) [] pos) (fun ρ =>(fs ρ).bind g) := fun A => PE.weak (Lq (hc A) hg hm hv (ha A) hn hdb he (hpl _)) fun σ H Q ⟨hA, ρ, gd, q⟩ => ⟨hA, ρ, gd, EV.bind q fun ds vs H1 _ s1 r1 p1 => ⟨hA.same s1, ds, r1, p1⟩⟩
theorem Ue{x:Aj}{p:AI}{es:Ab Ao}{g:Ab D -> R D}(hc : Gk X CL W (.type T) g)(hg : Gl X x)(hm : X.mg x = Af)(hv : BW x = Aa (.type T))(ha : SAT X CL W (e::es) fs)(hn : x ≠ "__name__")(hdb : (x==("__debug__" : Aj)) = Ad)(he : At (e::es) X.env = (Ad, eval e X.env)::At es X.env)(hpl : ∀ pos, (BN pos (At es X.env)).any (·.1) = Ad):SE X CL W (.Call (.Name x p) (e::es) [] pos) (fun ρ =>(fs ρ).bind g) := fun A => PE.weak (KJ (hc A) hg hm hv (ha A) hn hdb he (hpl _)) fun σ H Q ⟨hA, ρ, gd, q⟩ => ⟨hA, ρ, gd, EV.bind q fun ds vs H1 _ s1 r1 p1 => ⟨hA.same s1, ds, r1, p1⟩⟩
theorem U4 : Gk X CL W (.builtin "len") (biD .len) := by
  intro A pI s σ H xs us Q I r ⟨hA, ds, rs, p⟩
  match ds, rs, p with
  |[.lst es], rs, p=>
    obtain⟨v, rfl, rv⟩ := rs.one;obtain⟨q, ys, rfl, sq, ry⟩ := rv.lst_of;exact KF pI s σ H _ us Q I r ⟨q, ys, rfl, .inl sq, p _ H (As.refl H) (by rw[ry.length];rfl)⟩
  |[.tup es], rs, p=>
    obtain⟨v, rfl, rv⟩ := rs.one;obtain⟨q, ys, rfl, _, sq, ry⟩ := rv.tup_of;exact KF pI s σ H _ us Q I r ⟨q, ys, rfl, .inr sq, p _ H (As.refl H) (by rw[ry.length];rfl)⟩
  |[.str x], rs, p=>
    obtain⟨v, rfl, rv⟩ := rs.one;have e := rv.str_of;subst e;have p' : AS (fun H => Rep X.K CL H A) W H (if Cb x.length = Ac then .ok (.int x.length) else .bad) Q := p
    split at p'
    · rename_i h;exact Pj pI s σ H _ us Q I r ⟨x, rfl, Fv h, p' _ H (As.refl H) rfl⟩
    · exact p'.elim
  |[], _, p => exact p.elim
  |[.non], _, p => exact p.elim
  |[.bl _], _, p => exact p.elim
  |[.int _], _, p => exact p.elim
  |[.obj _ _], _, p => exact p.elim
  |[.exc _ _], _, p => exact p.elim
  |[.dic kvs], rs, p=>
    obtain⟨v, rfl, rv⟩ := rs.one;have p' : AS (fun H => Rep X.K CL H A) W H (if Cb kvs.length = Ac then .ok (.int kvs.length) else .bad) Q := p
    split at p'
    · rename_i h;obtain⟨a, es, rfl, hH, rk⟩ := rv.dic_of;cases r with
      |cons r1 r2=>
        cases r1;cases r2;exact Sj I hH rk (Fv h) fun s' t I' => ⟨.int _, H, I', ⟨t, rfl⟩, p' _ H (As.refl H) rfl⟩
    · exact p'.elim
  |x::_::_, _, p => cases x <;> exact p.elim
theorem Pn(ds : Ab D) : (∃ i j, ds = [.int i, .int j]) \/ biD .max ds = .bad := by
  match ds with
  |[.int i, .int j] => exact .inl ⟨i, j, rfl⟩
  |[] => exact .inr rfl
  |[x] => cases x <;> exact .inr rfl
  |x::y::z::r => cases x <;> cases y <;> exact .inr rfl
  |[x, .non] => cases x <;> exact .inr rfl
  |[x, .bl _] => cases x <;> exact .inr rfl
  |[x, .str _] => cases x <;> exact .inr rfl
  |[x, .tup _] => cases x <;> exact .inr rfl
  |[x, .lst _] => cases x <;> exact .inr rfl
  |[x, .obj _ _] => cases x <;> exact .inr rfl
  |[x, .exc _ _] => cases x <;> exact .inr rfl
  |[x, .dic _] => cases x <;> exact .inr rfl
  |[.non, .int _] => exact .inr rfl
  |[.bl _, .int _] => exact .inr rfl
  |[.str _, .int _] => exact .inr rfl
  |[.tup _, .int _] => exact .inr rfl
  |[.lst _, .int _] => exact .inr rfl
  |[.obj _ _, .int _] => exact .inr rfl
  |[.exc _ _, .int _] => exact .inr rfl
  |[.dic _, .int _] => exact .inr rfl
theorem KN : ∀(is : Ab Ae)(i : Ae), E6 i is ∈ i::is /\ ∀ a ∈ i::is, E6 i is <= a
 |[], i => ⟨Au, fun a h => by rw[Bh]at h;rw[h];exact F3 _⟩
 |j::r, i => by
  obtain⟨h1, h2⟩ := KN r (if j<i then j else i)
  refine⟨?_, fun a h => ?_⟩
  ·show E6 (if j<i then j else i) r ∈ _
   rcases AQ.mp h1 with e|e
   ·rw[e];split
    ·exact Ar _ Au
    ·exact Au
   ·exact Ar _ (Ar _ e)
  ·show E6 (if j<i then j else i) r <= a
   have h0 := h2 _ Au;rcases AQ.mp h with e|e
   ·subst e;refine NU h0 ?_;split <;> omega
   ·rcases AQ.mp e with e|e
    ·subst e;refine NU h0 ?_;split <;> omega
    ·exact h2 a (Ar _ e)
theorem K5 : ∀{is : Ab Ae}{its : Ab Ah}, AR (is.map V.int) its -> ∃ xs : A8 (Ae × Ca), its.toArray = G4 xs /\ xs.toList.map (·.1) = is
 |[], _, h => by cases h;exact⟨#[], by simp[G4], rfl⟩
 |i::is, _, h => by
  cases h with
  |cons h1 h2=>
   obtain⟨t, rfl⟩ := h1;obtain⟨xs, e1, e2⟩ := K5 h2;refine⟨((i, t)::xs.toList).toArray, ?_, ?_⟩
   ·apply Array.toList_inj.mp
    have e1' := congrArg FI e1;simp[G4]at e1' ⊢;exact e1'
   ·simp[e2]
theorem Qr(hc : X.calm = Ac) : EW X (.builtin "min") (fun xs H Q => ∃ a i is, xs = [.ref a] /\ SqL X.K H a ((i::is).map V.int) /\ Q (.int (E6 i is)) H) := by
 intro pI s σ H xs us Q I r h;obtain⟨a, i, is, rfl, sq, q⟩ := h;obtain⟨u, rfl, ru⟩ := GN r;cases ru;obtain⟨its, rv, pl, hz⟩ := I.list sq;obtain⟨ys, e1, e2⟩ := K5 rv;have hsz : 0<ys.size := by
  have := congrArg Oa e2;simp at this;omega
 have hl := pl.isList;rw[e1]at hl;refine min_intList (I.ok.hd hc) hl hsz fun v h' tk hv hk => ?_
 obtain⟨t, rfl⟩ := intItems_at hv;obtain⟨h1, h2⟩ := argBest_lt (Ft ys) (ys.size-1);have nm : ∀ j, j<ys.size -> Ft ys j ∈ i::is := fun j hj => by
  rw[<-e2];unfold Ft;rw[NO hj];simp only[Dj, Option.getD_some];exact CB.mpr ⟨ys[j], by simp, rfl⟩
 have nx : ∀ x ∈ i::is, ∃ j, j<ys.size /\ Ft ys j = x := fun x hx => by
  rw[<-e2]at hx;obtain⟨y, hy, rfl⟩ := CB.mp hx;obtain⟨j, hj, ej⟩ := Array.mem_iff_getElem.mp (Array.mem_toList_iff.mp hy);refine⟨j, hj, ?_⟩;unfold Ft;rw[NO hj, ej];rfl
 obtain⟨m1, m2⟩ := KN is i;have em : Ft ys (argBest (fun i j => decide (Ft ys i<Ft ys j)) (ys.size-1)) = E6 i is := by
  refine Int.le_antisymm ?_ (m2 _ (nm _ (by omega)))
  obtain⟨j, hj, ej⟩ := nx _ m1;rw[<-ej];exact h2 j (by omega)
 rw[em];exact⟨.int (E6 i is), H, I.kept hk, ⟨_, rfl⟩, q⟩
theorem K6{K : Fg}{CL : ClA}{H : Hp}{A : Ai -> Prop} : ∀{es : Ab D}{is : Ab Ae}{ys : Ab V}, FV es = Aa is -> Reps K CL H A ys es -> ys = is.map V.int
 |[], _, [], h, _ => by cases h;rfl
 |[], _, _::_, _, r => r.elim
 |_::_, _, [], _, r => r.elim
 |e::es, is, y::ys, h, r => by
  cases e with
  |int i=>
   have h' : (FV es).map (i :: ·) = Aa is := h;cases e2 : FV es with
   |none => rw[e2]at h';cases h'
   |some js=>
    rw[e2]at h';cases h';have ih := K6 e2 r.2;have e1 : y = .int i := r.1;rw[ih, e1];rfl
  |_ => cases h
theorem Pl(ds : Ab D)(hl : ∀ es, ds ≠ [.lst es]) : (∃ i j, ds = [.int i, .int j]) \/ biD .min ds = .bad := by
  match ds with
  |[.int i, .int j] => exact .inl ⟨i, j, rfl⟩
  |[] => exact .inr rfl
  |[x] => cases x <;> first|exact .inr rfl|exact absurd rfl (hl _)
  |x::y::z::r => cases x <;> cases y <;> exact .inr rfl
  |[x, .non] => cases x <;> exact .inr rfl
  |[x, .bl _] => cases x <;> exact .inr rfl
  |[x, .str _] => cases x <;> exact .inr rfl
  |[x, .tup _] => cases x <;> exact .inr rfl
  |[x, .lst _] => cases x <;> exact .inr rfl
  |[x, .obj _ _] => cases x <;> exact .inr rfl
  |[x, .exc _ _] => cases x <;> exact .inr rfl
  |[x, .dic _] => cases x <;> exact .inr rfl
  |[.non, .int _] => exact .inr rfl
  |[.bl _, .int _] => exact .inr rfl
  |[.str _, .int _] => exact .inr rfl
  |[.tup _, .int _] => exact .inr rfl
  |[.lst _, .int _] => exact .inr rfl
  |[.obj _ _, .int _] => exact .inr rfl
  |[.exc _ _, .int _] => exact .inr rfl
  |[.dic _, .int _] => exact .inr rfl
theorem U3(hc : X.calm = Ac) : Gk X CL W (.builtin "max") (biD .max) := by
 intro A pI s σ H xs us Q I r ⟨hA, ds, rs, p⟩;rcases Pn ds with ⟨i, j, rfl⟩|e
 ·obtain⟨v, w', rfl, rv, rw'⟩ := rs.two;have e1 := rv.int_of;have e2 := rw'.int_of
  subst e1 e2;exact Qt hc pI s σ H _ us Q I r ⟨i, j, rfl, p _ H (As.refl H) rfl⟩
 ·rw[e]at p;exact p.elim
theorem Uw(hc : X.calm = Ac) : Gk X CL W (.builtin "min") (biD .min) := by
  intro A pI s σ H xs us Q I r ⟨hA, ds, rs, p⟩;by_cases hls : ∃ es, ds = [.lst es]
  · obtain⟨es, rfl⟩ := hls;obtain⟨v, rfl, rv⟩ := rs.one;obtain⟨a, ys, rfl, sq, ry⟩ := rv.lst_of;have p' : AS (Rep X.K CL · A) W H (match FV es with
      |some (i::is) => R.ok (.int (E6 i is))
      | _ => .bad) Q := p
    cases e1 : FV es with
    |none => rw[e1]at p';exact p'.elim
    |some is=>
      cases is with
      |nil => rw[e1]at p';exact p'.elim
      |cons i is=>
        rw[e1]at p';have ey := K6 e1 ry;subst ey;exact Qr hc pI s σ H _ us Q I r ⟨a, i, is, rfl, sq, p' _ H (As.refl H) rfl⟩
  rcases Pl ds (fun es z => hls ⟨es, z⟩) with ⟨i, j, rfl⟩|e
  · obtain⟨v, w', rfl, rv, rw'⟩ := rs.two;have e1 := rv.int_of;have e2 := rw'.int_of
    subst e1 e2;exact Qs hc pI s σ H _ us Q I r ⟨i, j, rfl, p _ H (As.refl H) rfl⟩
  · rw[e]at p;exact p.elim
theorem Qu : Gk X CL W (.type "tuple") (biD .tuple) := by
  intro A pI s σ H xs us Q I r ⟨hA, ds, rs, p⟩
  match ds, rs, p with
  |[.lst es], rs, p=>
    obtain⟨v, rfl, rv⟩ := rs.one;obtain⟨q, ys, rfl, sq, ry⟩ := rv.lst_of;exact Ks pI s σ H _ us Q I r ⟨q, ys, rfl, .inl ⟨sq, fun l hl => p _ _ (Ed hl _) (HW hA hl ry)⟩⟩
  |[.tup es], rs, p=>
    obtain⟨v, rfl, rv⟩ := rs.one;obtain⟨q, ys, rfl, na, sq, ry⟩ := rv.tup_of;exact Ks pI s σ H _ us Q I r ⟨q, ys, rfl, .inr ⟨sq, p _ H (As.refl H) ⟨q, ys, rfl, na, sq, ry⟩⟩⟩
  |[], _, p => exact p.elim
  |[.non], _, p => exact p.elim
  |[.bl _], _, p => exact p.elim
  |[.int _], _, p => exact p.elim
  |[.str _], _, p => exact p.elim
  |[.obj _ _], _, p => exact p.elim
  |[.exc _ _], _, p => exact p.elim
  |[.dic _], rs, p => first|exact p.elim|(obtain⟨v, rfl, rv⟩ := rs.one;exact rv.plain.elim)
  |x::_::_, _, p => cases x <;> exact p.elim
end
section
variable{X : Cx}{CL : ClA}{W : XW}{a b c : Ao}{fa fb fc : Rho -> R D}{pos : AI}
theorem SB.congr{g:Rho -> R An}(h : SB X CL W a f)(e : ∀ ρ, g ρ = f ρ) : SB X CL W a g := fun A => PT.weak (h A) fun σ H Q ⟨hA, ρ, q, p⟩ => ⟨hA, ρ, q, by rw[<-e];exact p⟩
theorem Uh(ha : SB X CL W a f) : SB X CL W (.UnaryOp .Not a pos) (fun ρ => (f ρ).bind fun b => .ok (!b)) := fun A => PT.weak (TF (ha A)) fun σ H Q ⟨hA, ρ, g, p⟩ => ⟨hA, ρ, g, BY.bindB p fun b H1 _ s1 p1 => p1 H1 (As.refl H1)⟩
noncomputable def SW(X : Cx)(CL : ClA)(W : XW)(e : Ao)(f : Rho -> R An) : Prop := ∀ A, PW X e (fun σ H Q => AOk H A /\ ∃ ρ, Good X.K CL A ρ σ H /\ BY W H (f ρ) Q)
theorem PW.weak{t:TT}(h : PW X e t)(k : ∀ σ H Q, t' σ H Q -> t σ H Q) : PW X e t' := fun wh pI s σ H Q I q => h wh pI s σ H Q I (k _ _ _ q)
theorem SW.sb(h : SW X CL W a f) : SB X CL W a f := fun A => PW.pt (h A)
theorem SW.congr{g:Rho -> R An}(h : SW X CL W a f)(e : ∀ ρ, g ρ = f ρ) : SW X CL W a g := fun A => PW.weak (h A) fun σ H Q ⟨hA, ρ, q, p⟩ => ⟨hA, ρ, q, by rw[<-e];exact p⟩
theorem RN(ha : SB X CL W a f) : SW X CL W (.BoolOp .And [a] pos) f := fun A => QY (ha A)
theorem Tb(ha : SB X CL W a f) : SW X CL W (.BoolOp .Or [a] pos) f := fun A => TC (ha A)
theorem Td{g:Rho -> R An}{rest : Ab Ao}(ha : SB X CL W a f)(hb : SW X CL W (.BoolOp .And (b::rest) pos) g) : SW X CL W (.BoolOp .And (a::b::rest) pos) (fun ρ => (f ρ).bind fun c => if c = Ac then g ρ else .ok Ad):=
 fun A => PW.weak (TD (ha A) (hb A)) fun σ H Q ⟨hA, ρ, gd, p⟩ => ⟨hA, ρ, gd, BY.bindB p fun c H1 _ s1 p1 => by
  cases c with
  |true => exact⟨hA.same s1, ρ, gd.same s1, p1⟩
  | false => exact p1 H1 (As.refl H1)⟩
theorem VJ{g:Rho -> R An}{rest : Ab Ao}(ha : SB X CL W a f)(hb : SW X CL W (.BoolOp .Or (b::rest) pos) g) : SW X CL W (.BoolOp .Or (a::b::rest) pos) (fun ρ => (f ρ).bind fun c => if c = Ac then .ok Ac else g ρ):=
 fun A => PW.weak (VY (ha A) (hb A)) fun σ H Q ⟨hA, ρ, gd, p⟩ => ⟨hA, ρ, gd, BY.bindB p fun c H1 _ s1 p1 => by
  cases c with
  |false => exact⟨hA.same s1, ρ, gd.same s1, p1⟩
  | true => exact p1 H1 (As.refl H1)⟩
theorem Ui(ho : OpD X CL W (Bv op) g)(ha : ST X CL W a fa)(hb : ST X CL W b fb)(hm : Eo op b = Ad) : SB X CL W (.Compare a [op] [b] pos) (fun ρ => (fa ρ).bind fun x => (fb ρ).bind fun y => (g x y).bind Cs):=
 fun A => PT.weak (Q1 (ho A) (ha A) (hb A) hm) fun σ H Q ⟨hA, ρ, gd, p⟩ => ⟨hA, ρ, gd, BY.bind p fun dx x H1 _ s1 r1 p1 => ⟨hA.same s1, ρ, gd.same s1, BY.bind p1 fun dy y H2 _ s2 r2 p2=>
  ⟨(hA.same s1).same s2, dx, dy, r1.same s2, r2, BY.bind p2 fun dz z H3 _ s3 r3 p3 => by
   cases dz with
   |bl k => exact⟨k, r3, p3 H3 (As.refl H3)⟩
   | _ => exact p3.elim⟩⟩⟩
theorem P3(hu : X.A.units+64<A6)(ha : ST X CL W a fa)(hb : ST X CL W b fb)(hc : ST X CL W c fc)(hm : FQ [op, op'] [b, c] = Ad):SB X CL W (.Compare a [op,op'] [b,c] pos) (fun ρ =>(fa ρ).bind fun x =>(fb ρ).bind fun y =>(Bj op x y).bind fun z =>(Cs z).bind fun k =>if k = Ac then (fc ρ).bind fun u =>(Bj op' y u).bind Cs else .ok Ad):=
  fun A => PT.weak (QB (GE hu op A) (GE hu op' A) (ha A) (hb A) (hc A) hm) fun σ H Q ⟨hA, ρ, g, p⟩ => ⟨hA, ρ, g, BY.bind p fun dx x H1 _ s1 r1 p1 => ⟨hA.same s1, ρ, g.same s1, BY.bind p1 fun dy y H2 _ s2 r2 p2=>
    ⟨(hA.same s1).same s2, dx, dy, r1.same s2, r2, BY.bind p2 fun dz z H3 _ s3 r3 p3 => by
      cases dz with
      |bl k=>
        refine⟨k, r3, ?_⟩;cases k with
        |false => exact⟨Ad, rfl, p3 H3 (As.refl H3)⟩
        | true => exact⟨((hA.same s1).same s2).same s3, ρ, ((g.same s1).same s2).same s3, BY.bind p3 fun du u H4 _ s4 r4 p5 => ⟨(((hA.same s1).same s2).same s3).same s4, dy, du, (r2.same s3).same s4, r4, BY.bind p5 fun dv v H5 _ s5 r5 p6 => by
            cases dv with
            |bl k' => exact⟨k', r5, p6 H5 (As.refl H5)⟩
            | _ => exact p6.elim⟩⟩
      | _ => exact p3.elim⟩⟩⟩
theorem Ug(ha : ST X CL W a fa)(he : ∀ whole, Fh a X.env whole = (do let v <-whole;Fk a.pos;holding [v] (truthy v))) : SB X CL W a (fun ρ => (fa ρ).bind Bu):=
 fun A => PT.weak (QA (ha A) he) fun σ H Q ⟨hA, ρ, g, p⟩ => ⟨hA, ρ, g, BY.bind p fun d v H1 _ s1 r1 p1 => by
  cases d with
  |non=>
   have e := r1.non_of;subst e;exact⟨Ad, rfl, p1 H1 (As.refl H1)⟩
  |bl b=>
   have e := r1.bl_of;subst e;exact⟨b, rfl, p1 H1 (As.refl H1)⟩
  |int i=>
   have e := r1.int_of;subst e;exact⟨_, rfl, p1 H1 (As.refl H1)⟩
  |str x=>
   have e := r1.str_of;subst e;have p2 : BY W H1 (if Cb x.length = Ac then .ok (x.length != 0) else .bad) Q := p1
   split at p2
   ·rename_i h;refine⟨_, ⟨Fv h, rfl⟩, ?_⟩;have e : ((x.length : Ae) != 0) = (x.length != 0) := by
     rw[Dh];simp
    rw[e];exact p2 H1 (As.refl H1)
   ·exact p2.elim
  |tup ds=>
   obtain⟨q, xs, rfl, _, sq, r⟩ := r1.tup_of;refine⟨_, .inr (.inl ⟨xs, sq, rfl⟩), ?_⟩;have e : xs.isEmpty = ds.isEmpty := by
    have := r.length;cases xs <;> cases ds <;> first|rfl|cases this
   rw[e];exact p1 H1 (As.refl H1)
  |lst ds=>
   obtain⟨q, xs, rfl, sq, r⟩ := r1.lst_of;refine⟨_, .inl ⟨xs, sq, rfl⟩, ?_⟩;have e : xs.isEmpty = ds.isEmpty := by
    have := r.length;cases xs <;> cases ds <;> first|rfl|cases this
   rw[e];exact p1 H1 (As.refl H1)
  | _ => exact p1.elim⟩
noncomputable def Xn(K : Fg)(CL : ClA)(H : Hp)(A : Ai -> Prop)(cls : Ah)(dx : Al Ai)(x : Ex) : Prop:=
 ∃ C, CL x.c = Aa C /\ cls = .ref C /\ (x.fs = [] \/ ∃ d vs, dx = Aa d /\ ¬ A d /\ H d = Aa (.xd vs) /\ Repf K CL H A vs x.fs)
noncomputable def EU(K : Fg)(CL : ClA)(H : Hp)(cls : Ah)(dx : Al Ai)(x : Ex) : Prop := ∀ A, AOk H A -> Xn K CL H A cls dx x
end
noncomputable def Bt(B : Ai -> Prop)(ρ : Rho)(σ : L2.St) : Ai -> Prop := fun a => B a \/ ∃(j : Ag)(d : D), ρ[j]? = Aa (Aa (d, Ac)) /\ σ[j]? = Aa (Aa (.ref a))
structure Sx (K : Fg) (CL : ClA) (Fz : Ai -> HO -> Prop) (B : Ai -> Prop) (ρ : Rho) (σ : L2.St) (H : Hp) : Prop where
 good : Good K CL (Bt B ρ σ) ρ σ H
 aok : AOk H (Bt B ρ σ)
 new : ∀(j : Ag)(d : D)(a : Ai), ρ[j]? = Aa (Aa (d, Ac)) -> σ[j]? = Aa (Aa (.ref a)) -> (∀ o, ¬ Fz a o) /\ ¬ B a
 dis : ∀(i j : Ag)(d e : D)(a : Ai), ρ[i]? = Aa (Aa (d, Ac)) -> ρ[j]? = Aa (Aa (e, Ac)) -> σ[i]? = Aa (Aa (.ref a)) -> σ[j]? = Aa (Aa (.ref a)) -> i = j
 same : ∀ b o, Fz b o -> H b = Aa o
 len : ρ.length = σ.length
noncomputable def BD(K : Fg)(CL : ClA)(Fz : Ai -> HO -> Prop)(B : Ai -> Prop)(W : XW)(o : O)(D : Ends) : Prop := match o with
  |.next ρ => ∀ σ H, Sx K CL Fz B ρ σ H -> D.nx σ H
  |.brk ρ => ∀ σ H, Sx K CL Fz B ρ σ H -> D.bk σ H
  |.cont ρ => ∀ σ H, Sx K CL Fz B ρ σ H -> D.ct σ H
  |.ret d fr => ∀ v H, (∀ b o, Fz b o -> H b = Aa o) -> Rep K CL H B v d -> (fr = Ac -> ∀ ds, d = .lst ds -> ∃ a xs, v = .ref a /\ (∀ o, ¬ Fz a o) /\ H a = Aa (.lst xs) /\ Reps K CL H (fun b => B b \/ b = a) xs ds) -> D.rt v H
  |.exn x _ => ∀ H, (∀ b o, Fz b o -> H b = Aa o) -> W x H
  |.bad => AX
section
variable{K : Fg}{CL : ClA}{Fz Fy : Ai -> HO -> Prop}{B : Ai -> Prop}{ρ : Rho}{σ : L2.St}{H H' : Hp}
theorem Sx.mono(k : ∀ b o, Fz b o -> Fy b o)(x : Sx K CL Fy B ρ σ H) : Sx K CL Fz B ρ σ H := ⟨x.good, x.aok, fun j d a h1 h2 => ⟨fun o z => (x.new j d a h1 h2).1 o (k _ _ z), (x.new j d a h1 h2).2⟩, x.dis, fun b o z => x.same b o (k _ _ z), x.len⟩
theorem Sx.grow(x : Sx K CL Fz B ρ σ H)(s : As H H') : Sx K CL Fz B ρ σ H' := ⟨x.good.same s, x.aok.same s, x.new, x.dis, fun b o z => s _ _ (x.same b o z), x.len⟩
theorem BZ{l : Ab α}{v : α}(h : i ≠ j) : (l.set i v)[j]? = l[j]? := by rw[Bo h]
theorem ER{l : Ab α}{v w' : α}(h : (l.set i v)[i]? = Aa w') : w' = v := by
 rw[Dq]at h;cases e : l[i]? with
 |none => rw[e]at h;cases h
 |some x => rw[e]at h;cases h;rfl
theorem Sx.set(x : Sx K CL Fz B ρ σ H){v : V}{d : D}(i : Ag)(r : Rep K CL H (Bt B ρ σ) v d) : Sx K CL Fz B (ρ.set i (Aa (d, Ad))) (σ.set i (Aa v)) H := by
 have own : ∀(j : Ag)(e : D), (ρ.set i (Aa (d, Ad)))[j]? = Aa (Aa (e, Ac)) -> i ≠ j /\ ρ[j]? = Aa (Aa (e, Ac)) := fun j e h => by
  by_cases hj : i = j
  ·subst hj;have := ER h;cases this
  ·exact⟨hj, by rw[BZ hj]at h;exact h⟩
 have sub : ∀ a, Bt B (ρ.set i (Aa (d, Ad))) (σ.set i (Aa v)) a -> Bt B ρ σ a := fun a h => by
  rcases h with h|⟨j, e, h1, h2⟩
  ·exact .inl h
  ·obtain⟨hj, h1⟩ := own j e h1;rw[BZ hj]at h2;exact .inr ⟨j, e, h1, h2⟩
 refine⟨⟨fun j e h => ?_, fun j e h => ?_, by rw[AZ, AZ];exact x.len⟩, fun a h => x.aok a (sub a h), fun j e a h1 h2 => ?_, fun j k e f a h1 h2 h3 h4 => ?_, x.same, by rw[AZ, AZ];exact x.len⟩
 ·by_cases hj : i = j
  ·subst hj;have e1 := ER h;cases e1;refine⟨v, ?_, Rep.sub sub _ r⟩;have hl : i<σ.length := by
    rw[<-x.len];have := (AU.mp h).1;simpa using this
   rw[Bq hl]
  ·rw[BZ hj]at h;obtain⟨w', q, rw'⟩ := x.good.sh j e h;exact⟨w', by rw[BZ hj];exact q, Rep.sub sub _ rw'⟩
 ·obtain⟨hj, h1⟩ := own j e h;obtain⟨a, o, q, ha, hh, rr⟩ := x.good.ow j e h1;exact⟨a, o, by rw[BZ hj];exact q, .inr ⟨j, e, h, by rw[BZ hj];exact q⟩, hh, rr.sub sub⟩
 ·obtain⟨hj, h1⟩ := own j e h1;rw[BZ hj]at h2;exact x.new j e a h1 h2
 ·obtain⟨hj, h1⟩ := own j e h1;obtain⟨hk, h2⟩ := own k f h2;rw[BZ hj]at h3;rw[BZ hk]at h4;exact x.dis j k e f a h1 h2 h3 h4
end
section
variable{X : Cx}{CL : ClA}{W : XW}{pos : AI}{e : Ao}{fe : Rho -> R D}
noncomputable def SS(X : Cx)(CL : ClA)(W : XW)(st : Bc)(f : Rho -> O) : Prop := ∀ Fz B, PS X st (fun D σ H => ∃ ρ, Sx X.K CL Fz B ρ σ H /\ BD X.K CL Fz B W (f ρ) D)
noncomputable def SSs(X : Cx)(CL : ClA)(W : XW)(st : Ab Bc)(f : Rho -> O) : Prop := ∀ Fz B, PSs X st (fun D σ H => ∃ ρ, Sx X.K CL Fz B ρ σ H /\ BD X.K CL Fz B W (f ρ) D)
theorem PS.weak{e : Bc}{t t':TS}(h : PS X e t)(k : ∀ D σ H, t' D σ H -> t D σ H) : PS X e t' := fun pI s σ H D I q => h pI s σ H D I (k _ _ _ q)
theorem PSs.weak{e : Ab Bc}{t t':TS}(h : PSs X e t)(k : ∀ D σ H, t' D σ H -> t D σ H) : PSs X e t' := fun pI s σ H D I q => h pI s σ H D I (k _ _ _ q)
theorem BD.ex{f:D -> O}(x : Sx X.K CL Fz B ρ σ H)(h : BD X.K CL Fz B W (O.of ρ r f) D')(k : ∀ d v H', r = .ok d -> As H H' -> Rp H' v d -> Sx X.K CL Fz B ρ σ H' -> BD X.K CL Fz B W (f d) D' -> Q v H') : AS Rp W H r Q := by
 cases r with
 |ok d => exact fun v H' s r => k d v H' rfl s r (x.grow s) h
 |exn y => exact fun H' s => h H' fun b o z => s _ _ (x.same b o z)
 |bad => exact h
theorem BD.exB{r:R An}{f:An -> O}{Q:An -> Hp -> Prop}(x : Sx X.K CL Fz B ρ σ H)(h : BD X.K CL Fz B W (O.of ρ r f) D')(k : ∀ b H', r = .ok b -> As H H' -> Sx X.K CL Fz B ρ σ H' -> BD X.K CL Fz B W (f b) D' -> Q b H') : BY W H r Q := by
 cases r with
 |ok d => exact fun H' s => k d H' rfl s (x.grow s) h
 |exn y => exact fun H' s => h H' fun b o z => s _ _ (x.same b o z)
 |bad => exact h
theorem Q7(he : SE X CL W e fe)(hs : CA e Af pos.line X.env = pure Ad) : SS X CL W (.Expr e pos) (fun ρ => O.of ρ (fe ρ) fun _ => .next ρ) := fun Fz B pI s σ H D I ⟨ρ, x, p⟩=>
 LV (he (Bt B ρ σ)) hs pI s σ H D I ⟨x.aok, ρ, x.good, BD.ex x p fun d v H' _ s r x' q => q σ H' x'⟩
theorem Q5(he : SE X CL W e fe) : SS X CL W (.Return (Aa e) pos) (fun ρ => O.of ρ (fe ρ) fun d => .ret d Ad) := fun Fz B pI s σ H D I ⟨ρ, x, p⟩=>
 JM (he (Bt B ρ σ)) pI s σ H D I ⟨x.aok, ρ, x.good, BD.ex x p fun d v H' _ s r x' q => q v H' x'.same (Rep.sub (fun a h => .inl h) _ r) fun z => nomatch z⟩
theorem VR{a b:Ab Bc}{fa fb:Rho -> O}(hc : SB X CL W c fc)(ha : SSs X CL W a fa)(hb : SSs X CL W b fb) : SS X CL W (.If c a b pos) (fun ρ => O.of ρ (fc ρ) fun k => if k = Ac then fa ρ else fb ρ) := fun Fz B pI s σ H D I ⟨ρ, x, p⟩=>
 V0 (hc (Bt B ρ σ)) (ha Fz B) (hb Fz B) pI s σ H D I ⟨x.aok, ρ, x.good, BD.exB x p fun k H' _ s x' q => by
  cases k with
  |true => exact⟨ρ, x', q⟩
  | false => exact⟨ρ, x', q⟩⟩
theorem Q3 : SSs X CL W [] (fun ρ => .next ρ) := fun Fz B => PSs.weak Q2 fun D σ H ⟨ρ, x, p⟩ => p σ H x
theorem Qg{st : Bc}{rest : Ab Bc}{f g:Rho -> O}(h1 : SS X CL W st f)(h2 : SSs X CL W rest g) : SSs X CL W (st::rest) (fun ρ => (f ρ).seq g) := fun Fz B => PSs.weak (QC (h1 Fz B) (h2 Fz B)) fun D σ H ⟨ρ, x, p⟩ => ⟨ρ, x, by
 dsimp only at p;cases e : f ρ with
 |next ρ' => rw[e]at p;exact fun σ' H' x' => ⟨ρ', x', p⟩
 |ret d b => rw[e]at p;exact p
 |brk ρ' => rw[e]at p;exact p
 |cont ρ' => rw[e]at p;exact p
 |exn y ρ' => rw[e]at p;exact p
 | bad => rw[e]at p;exact p⟩
end
noncomputable def Gp(K : Fg)(CL : ClA)(A : Ai -> Prop)(ds : Ab D)(J : It)(H1 : Hp) : Prop := ∀ H, Kp A H1 H -> ∀ i : Ag, (ds.length <= i -> J.stop i H) /\ ∀ d, ds[i]? = Aa d -> J.go i H /\ ∀ x H', J.yld i H x H' -> As H H' /\ ∀ B, (∀ a, B a -> A a \/ H1 a = Af) -> AOk H B -> Rep K CL H' B x d
noncomputable def Du(K : Fg)(CL : ClA)(A : Ai -> Prop)(W : XW)(H : Hp)(r : R (Ab D))(Q : It -> Hp -> Prop) : Prop := match r with
  |.ok ds => ∀ J H', As H H' -> Gp K CL A ds J H' -> ds.length <= sizeLine -> Q J H'
  |.exn x => ∀ H', As H H' -> W x H'
  |.bad => AX
noncomputable def SI(X : Cx)(CL : ClA)(W : XW)(tg iter : Ao)(f : Rho -> R (Ab D)) : Prop := ∀ A, PI X tg iter (fun σ H R => AOk H A /\ ∃ ρ, Good X.K CL A ρ σ H /\ Du X.K CL A W H (f ρ) R)
theorem PI.weak{t t':TI}(h : PI X tg e t)(k : ∀ σ H Q, t' σ H Q -> t σ H Q) : PI X tg e t' := fun pI s σ H Q I q => h pI s σ H Q I (k _ _ _ q)
section
variable{X : Cx}{CL : ClA}{W : XW}{pos p : AI}{tg e a b : Ao}{fe fa fb : Rho -> R D}
theorem Du.ex{f:D -> R (Ab D)}{Q:It -> Hp -> Prop}{Q':VK}(h : Du X.K CL A W H (r.bind f) Q)(k : ∀ d v H', r = .ok d -> As H H' -> Rp H' v d -> Du X.K CL A W H' (f d) Q -> Q' v H') : AS Rp W H r Q' := by
  cases r with
  | ok d => exact fun v H' s q => k d v H' rfl s q (by
      have h' : Du X.K CL A W H (f d) Q := h;cases e : f d with
      |ok ds => rw[e]at h';exact fun J H2 s2 y z => h' J H2 (s.trans s2) y z
      |exn y => rw[e]at h';exact fun H2 s2 => h' H2 (s.trans s2)
      | bad => rw[e]at h';exact h')
  |exn y => exact h
  |bad => exact h
theorem KW{x:V}(r : Rep K CL H1 A x d)(k : Kp A H1 H)(hB : ∀ a, B a -> A a \/ H1 a = Af) : Rep K CL H B x d := by
 have r1 : Rep K CL H1 (fun a => A a \/ B a) x d := Rep.wide (fun a ha => ha.elim .inl (hB a)) _ r
 have r2 : Rep K CL H (fun a => A a \/ B a) x d := Rep.kp (fun b o e na => k b o e fun z => na (.inl z)) _ r1
 exact Rep.sub (fun a ha => .inr ha) _ r2
theorem PC{ds : Ab D}(na : ¬ A q \/ KL K q xs)(s : SqL K H q xs)(r : Reps K CL H A xs ds) : Gp K CL A ds (Itl K q) H := fun H' k i => by
 have s' := JJ k na s;refine⟨fun h => ⟨xs, s', by rw[r.length];exact h⟩, fun d hd => ?_⟩
 obtain⟨v, hv, rv⟩ := r.get hd;exact⟨⟨xs, v, s', hv⟩, fun x H2 ⟨e, y⟩ => by
  subst e;have := y xs s';rw[hv]at this;cases this;exact⟨As.refl _, fun B hB _ => KW rv k hB⟩⟩
theorem Qa{ds : Ab D}(na : ¬ A q \/ KT K q xs)(s : SqT K H q xs)(r : Reps K CL H A xs ds) : Gp K CL A ds (Itt K q) H := fun H' k i => by
 have s' := HY k na s;refine⟨fun h => ⟨xs, s', by rw[r.length];exact h⟩, fun d hd => ?_⟩
 obtain⟨v, hv, rv⟩ := r.get hd;exact⟨⟨xs, v, s', hv⟩, fun x H2 ⟨e, y⟩ => by
  subst e;have := y xs s';rw[hv]at this;cases this;exact⟨As.refl _, fun B hB _ => KW rv k hB⟩⟩
theorem Ll(lo : Ae)(n : Ag) : Gp K CL A (CY lo n) (Itr lo n) H := fun H' k i => by
 refine⟨fun h => by rw[IJ]at h;exact h, fun d hd => ?_⟩
 obtain⟨h1, rfl⟩ := QN hd;exact⟨h1, fun x H2 ⟨e, y⟩ => by
  subst e y;exact⟨As.refl _, fun _ _ _ => rfl⟩⟩
theorem TN{l:Ao}{tl:TE}(hl : PE X l tl) : PI X tg l (fun σ H R => tl σ H fun x H1 => (∃ a, x = .ref a /\ (∃ xs, SqL X.K H1 a xs /\ (xs.length <= sizeLine -> R (Itl X.K a) H1))) \/ ∃ a, x = .ref a /\ (∃ xs, SqT X.K H1 a xs /\ (xs.length <= sizeLine -> R (Itt X.K a) H1))) := by
 intro pI s σ H R I h;refine thn (hl pI s σ H _ I h) fun v s1 ⟨x, H1, I1, r1, q1⟩ => ?_
 rcases q1 with ⟨a, e, xs, hq, q⟩|⟨a, e, xs, hq, q⟩
 ·subst e;cases r1;obtain⟨its, rv, p, hz⟩ := I1.list hq;refine O4 p.isList ?_;refine⟨s1.heap.objs.size, [s1.heap.objs.size], _, _, H1, rfl, I1.kept (t' := s1.toks) fun b o e => Aw _ e, P1 a _, ⟨_, Ba _ rfl, rfl, rfl⟩, fun b hb => ?_, q hz⟩
  have e : b = s1.heap.objs.size := by simpa using hb
  subst e;exact I1.fpOk (AG _) (I1.hok.fresh (AG _))
 ·subst e;cases r1;obtain⟨its, rv, p, hz⟩ := I1.tuple hq;refine wpAny_pyIter_tuple (show s1.heap.IsTuple a its.toArray from p) ?_
  refine⟨s1.heap.objs.size, [s1.heap.objs.size], _, _, H1, rfl, I1.kept (t' := s1.toks) fun b o e => Aw _ e, PD a _, ⟨_, Ba _ rfl, rfl, rfl⟩, fun b hb => ?_, q hz⟩
  have e : b = s1.heap.objs.size := by simpa using hb
  subst e;exact I1.fpOk (AG _) (I1.hok.fresh (AG _))
theorem XC(he : SE X CL W e fe) : SI X CL W tg e (fun ρ => (fe ρ).bind Dd) := fun A => PI.weak (TN (he A)) fun σ H R ⟨hA, ρ, g, p⟩ => ⟨hA, ρ, g, Du.ex p fun d v H1 _ s1 r1 p1 => by
 cases d with
 |lst ds=>
  obtain⟨q, xs, rfl, na, sq, r⟩ := r1;exact .inl ⟨q, rfl, xs, sq, fun hz => p1 _ H1 (As.refl H1) (PC na sq r) (by rw[<-r.length];exact hz)⟩
 |tup ds=>
  obtain⟨q, xs, rfl, na, sq, r⟩ := r1;exact .inr ⟨q, rfl, xs, sq, fun hz => p1 _ H1 (As.refl H1) (Qa na sq r) (by rw[<-r.length];exact hz)⟩
 | _ => exact p1.elim⟩
theorem KY{ds : Ab D}(h : Cy lo hi = .ok ds) : (-(2 ^ 62) <= lo /\ lo<2 ^ 62) /\ (-(2 ^ 62) <= hi /\ hi<2 ^ 62) /\ ds = CY lo (hi-lo).toNat /\ (CY lo (hi-lo).toNat).length <= sizeLine := by
 unfold Cy at h;split at h
 ·rename_i q;cases h;exact⟨by omega, by omega, rfl, by rw[IJ, Dz];omega⟩
 ·cases h
theorem K2(h : Cy lo hi = .exn x) : AX := by
 unfold Cy at h;split at h <;> cases h
theorem T4(ha : ST X CL W a fa)(hg : Gl X "range")(hm : X.mg "range" = Af)(hs : At [a] X.env = [(Ad, eval a X.env)]) : SI X CL W tg (.Call (.Name "range" p) [a] [] pos) (fun ρ => (fa ρ).bind fun x => (C2 x).bind fun j => Cy 0 j):=
 fun A => PI.weak (PB hg hm (EN (ha A) Gf hs) hs) fun σ H R ⟨hA, ρ, g, q⟩ => ⟨hA, ρ, g, Du.ex q fun d v H1 _ s1 r1 p1 => by
  cases d with
  |int j=>
   have e := r1.int_of;subst e;have p2 : Du X.K CL A W H1 (Cy 0 j) R := p1;cases e2 : Cy 0 j with
   |ok ds=>
    rw[e2]at p2;obtain⟨_, h2, rfl, hz⟩ := KY e2;exact⟨j, rfl, h2.1, h2.2, p2 _ H1 (As.refl H1) (by rw[FK];exact Ll 0 j.toNat) hz⟩
   |exn y => exact(K2 e2).elim
   |bad => rw[e2]at p2;exact p2.elim
  | _ => exact p1.elim⟩
theorem Re(ha : ST X CL W a fa)(hb : ST X CL W b fb)(hg : Gl X "range")(hm : X.mg "range" = Af)(hs : At [a, b] X.env = [(Ad, eval a X.env), (Ad, eval b X.env)])(hs2 : At [b] X.env = [(Ad, eval b X.env)]):
  SI X CL W tg (.Call (.Name "range" p) [a, b] [] pos) (fun ρ => (fa ρ).bind fun x => (fb ρ).bind fun y => (C2 x).bind fun i => (C2 y).bind fun j => Cy i j):=
 fun A => PI.weak (Pz hg hm (EN (ha A) (EN (hb A) Gf hs2) (by rw[hs, hs2])) hs hs2) fun σ H R ⟨hA, ρ, g, q⟩ => ⟨hA, ρ, g, Du.ex q fun d v H1 _ s1 r1 p1 => ⟨hA.same s1, ρ, g.same s1, Du.ex p1 fun d2 v2 H2 _ s2 r2 p2 => by
  cases d with
  |int i=>
   cases d2 with
   |int j=>
    have e := r1.int_of;have e' := r2.int_of
    subst e e';have p3 : Du X.K CL A W H2 (Cy i j) R := p2;cases e2 : Cy i j with
    |ok ds=>
     rw[e2]at p3;obtain⟨h1, h2, rfl, hz⟩ := KY e2;exact⟨i, j, rfl, ⟨h1.1, h1.2, h2.1, h2.2⟩, p3 _ H2 (As.refl H2) (Ll _ _) hz⟩
    |exn y => exact(K2 e2).elim
    |bad => rw[e2]at p3;exact p3.elim
   |_ => exact p2.elim
  | _ => exact p2.elim⟩⟩
theorem BD.exI{r:R (Ab D)}{f:Ab D -> O}{Q:It -> Hp -> Prop}(x : Sx X.K CL Fz B ρ σ H)(h : BD X.K CL Fz B W (O.of ρ r f) D')(k : ∀ ds J H', r = .ok ds -> As H H' -> Gp X.K CL A ds J H' -> ds.length <= sizeLine -> Sx X.K CL Fz B ρ σ H' -> BD X.K CL Fz B W (f ds) D' -> Q J H') : Du X.K CL A W H r Q := by
 cases r with
 |ok d => exact fun J H' s y z => k d J H' rfl s y z (x.grow s) h
 |exn y => exact fun H' s => h H' fun b o z => s _ _ (x.same b o z)
 |bad => exact h
theorem BD.turn{Fy:Ai -> HO -> Prop}{o:O}{g:Rho -> O}{N:L2.St -> Hp -> Prop}(hf : ∀ b q, Fz b q -> Fy b q)(h : BD K CL Fz B W (o.turn g) D')(k : ∀ ρ' σ' H', Sx K CL Fy B ρ' σ' H' -> BD K CL Fz B W (g ρ') D' -> N σ' H'):BD K CL Fy B W o {D' with nx := N,ct := N,bk := D'.nx} := by
 cases o with
 |next ρ' => exact fun σ' H' x => k ρ' σ' H' x h
 |cont ρ' => exact fun σ' H' x => k ρ' σ' H' x h
 |brk ρ' => exact fun σ' H' x => h σ' H' (x.mono hf)
 |ret d b => exact fun v H' s r n => h v H' (fun b o z => s b o (hf b o z)) r fun z ds e => let ⟨a, xs, h1, h2, h3⟩ := n z ds e;⟨a, xs, h1, fun o q => h2 o (hf a o q), h3⟩
 |exn y ρ' => exact fun H' s => h H' (fun b o z => s b o (hf b o z))
 |bad => exact h
noncomputable def DZ(ts : Ab Ag)(ρ : Rho) : Rho := ts.foldl (fun ρ t => ρ.set t Af) ρ
noncomputable def GT(K : Fg)(CL : ClA)(as : D -> Rho -> R Rho)(g : TG) : Prop := ∀ Fz B ρ σ H v d ρ' Q, Sx K CL Fz B ρ σ H -> Rep K CL H (Bt B ρ σ) v d -> as d ρ = .ok ρ' -> (∀ σ', Sx K CL Fz B ρ' σ' H -> Q σ' H) -> g v σ H Q
theorem R8(i : Ag) : GT K CL (fun d ρ => .ok (ρ.set i (Aa (d, Ad)))) (Ew i) := fun Fz B ρ σ H v d ρ' Q x r e k => by
 cases e;exact k _ (x.set i r)
theorem Mi{K : Fg}{Fz : Ai -> HO -> Prop}{B : Ai -> Prop}{H : Hp} : ∀(ts : Ab Ag)(ds : Ab D)(vs : Ab V)(ρ ρ' : Rho)(σ : L2.St)(Q : L2.St -> Hp -> Prop), Sx K CL Fz B ρ σ H -> Reps K CL H (Bt B ρ σ) vs ds -> DY ts ds ρ = Aa ρ' -> (∀ σ', Sx K CL Fz B ρ' σ' H -> Q σ' H) -> (ts.foldr (fun t u => Ho (Ew t) u) Hu) vs σ H Q
 |[], [], [], ρ, ρ', σ, Q, x, _, e, k => by
  cases e;exact⟨rfl, k σ x⟩
 |t::ts, d::ds, v::vs, ρ, ρ', σ, Q, x, r, e, k => by
  refine⟨v, vs, rfl, Mi ts ds vs _ ρ' _ Q (x.set t r.1) (Reps.sub (fun a ha => ?_) ds r.2) e k⟩
  rcases ha with ha|⟨j, c, h1, h2⟩
  ·exact .inl ha
  ·by_cases hj : t = j
   ·subst hj;have := ER h1;cases this
   ·rw[BZ hj]at h1 h2;exact .inr ⟨j, c, h1, h2⟩
 |[], _::_, _, _, _, _, _, _, _, e, _ => by cases e
 |_::_, [], _, _, _, _, _, _, _, e, _ => by cases e
 |[], [], _::_, _, _, _, _, _, r, _, _ => r.elim
 |_::_, _::_, [], _, _, _, _, _, r, _, _ => r.elim
theorem K1 : ∀(ts : Ab Ag)(ds : Ab D)(ρ ρ' : Rho), DY ts ds ρ = Aa ρ' -> ds.length = ts.length
 |[], [], _, _, _ => rfl
 |_::ts, _::ds, _, _, e => congrArg (· + 1) (K1 ts ds _ _ e)
 |[], _::_, _, _, e => by cases e
 |_::_, [], _, _, e => by cases e
theorem UY(ts : Ab Ag) : GT K CL (D0 ts) (Kf K ts.length (ts.foldr (fun t u => Ho (Ew t) u) Hu)) := fun Fz B ρ σ H v d ρ' Q x r e k => by
 cases d with
 |tup ds=>
  obtain⟨a, xs, rfl, na, sq, rs⟩ := r;rw[PX]at e;cases e2 : DY ts ds ρ with
  |none => rw[e2]at e;cases e
  |some ρ2=>
   rw[e2]at e;cases e;exact⟨a, xs, rfl, sq, by rw[rs.length];exact K1 _ _ _ _ e2, Mi ts ds xs ρ _ σ Q x rs e2 k⟩
 |_ => cases e
theorem Mt{body:Ab Bc}{fbd:Rho -> O}{g:TG}(hp : DM (model X.prog X.w) X.A X.env X.xe)(hc : X.calm = Ac)(hGT : GT X.K CL as g)(hg : PG X tg g)(hit : SI X CL W tg iter fi)(hb : SSs X CL W body fbd)(hs : ∀ x, BP iter X.env x = pure x)(hax : ∀ d ρ x, as d ρ ≠ .exn x):SS X CL W (.For tg iter body [] pos) (fun ρ =>O.of ρ (fi ρ) fun xs =>Ck (fun x ρ' =>O.of ρ' (as x ρ') fbd) xs ρ) := fun Fz B pI s σ H D I ⟨ρ, x, p⟩ => by
 refine TH hp hc (hit (Bt B ρ σ)) hg (tb := fun D σ H => ∃ Fy, (fun D σ H => ∃ ρ, Sx X.K CL Fy B ρ σ H /\ BD X.K CL Fy B W (fbd ρ) D) D σ H) (fun pI s σ H D I ⟨Fy, q⟩ => hb Fy B pI s σ H D I q) hs pI s σ H D I ⟨x.aok, ρ, x.good, BD.exI x p fun ds J H1 _ s1 y _ x1 q => ?_⟩
 let Fy : Ai -> HO -> Prop := fun b o => H1 b = Aa o /\ ¬ ∃(j : Ag)(d : Ov.D), ρ[j]? = Aa (Aa (d, Ac)) /\ σ[j]? = Aa (Aa (.ref b))
 have hfy : ∀ b o, Fz b o -> Fy b o := fun b o z => ⟨x1.same b o z, fun ⟨j, d, h1, h2⟩ => (x1.new j d b h1 h2).1 o z⟩
 have xy : Sx X.K CL Fy B ρ σ H1 := ⟨x1.good, x1.aok, fun j d a h1 h2 => ⟨fun o z => z.2 ⟨j, d, h1, h2⟩, (x1.new j d a h1 h2).2⟩, x1.dis, fun b o z => z.1, x1.len⟩
 refine⟨fun k m σ' H' => m = ds.length-k /\ k <= ds.length /\ ∃ ρ', Sx X.K CL Fy B ρ' σ' H' /\ BD X.K CL Fz B W (Ck (fun x ρ' => O.of ρ' (as x ρ') fbd) (ds.drop k) ρ') D, ⟨ds.length, by simp, F5 _, ρ, xy, q⟩, ?_⟩
 rintro k m σ' H' ⟨rfl, hk, ρ', x', q'⟩;have kp : Kp (Bt B ρ σ) H1 H' := fun b o e na => x'.same b o ⟨e, fun z => na (.inr z)⟩
 obtain⟨yst, ygo⟩ := y H' kp k;by_cases hlt : k<ds.length
 ·have hd : ds[k]? = Aa ds[k] := BK hlt;obtain⟨hgo, hyl⟩ := ygo _ hd;refine .inr ⟨hgo, fun σ'' H'' => ∃ ρ'', Sx X.K CL Fy B ρ'' σ'' H'' /\ BD X.K CL Fz B W (Ck (fun x ρ' => O.of ρ' (as x ρ') fbd) (ds.drop (k+1)) ρ'') D, fun σ'' H'' z => ⟨ds.length-(k+1), by omega, rfl, hlt, z⟩, fun v H2 hv => ?_⟩
  obtain⟨e2, rv⟩ := hyl v H2 hv;rw[N5 hlt]at q';have q2 : BD X.K CL Fz B W ((O.of ρ' (as ds[k] ρ') fbd).turn (Ck (fun x ρ' => O.of ρ' (as x ρ') fbd) (ds.drop (k+1)))) D := q'
  have rv' : Rep X.K CL H2 (Bt B ρ' σ') v ds[k] := rv _ (fun a ha => by
    rcases ha with ha|⟨j, d, h1, h2⟩
    ·exact .inl (.inl ha)
    ·cases e : H1 a with
     |none => exact .inr rfl
     |some o=>
      by_cases ho : ∃(j : Ag)(d : Ov.D), ρ[j]? = Aa (Aa (d, Ac)) /\ σ[j]? = Aa (Aa (.ref a))
      ·exact .inl (.inr ho)
      ·exact absurd ⟨e, ho⟩ ((x'.new j d a h1 h2).1 o)) x'.aok
  cases ea : as ds[k] ρ' with
  |bad => rw[ea]at q2;exact q2.elim
  |exn z => exact absurd ea (hax _ _ z)
  |ok ρ2=>
   rw[ea, O.of_ok]at q2;exact hGT Fy B ρ' σ' H2 v ds[k] ρ2 _ (x'.grow e2) rv' ea fun σ3 x3 => ⟨Fy, ρ2, x3, BD.turn hfy q2 fun ρ3 σ3 H3 x3 q3 => ⟨ρ3, x3, q3⟩⟩
 ·have hk' : ds.length <= k := by omega
  rw[N6 hk']at q';exact .inl ⟨yst hk', q' σ' H' (x'.mono hfy)⟩
end
section
variable{X : Cx}{CL : ClA}{W : XW}{a b c : Ao}{fa fb fc : Rho -> R D}{pos : AI}
noncomputable def tyK : Ki -> Al Cc
 |.int => Aa "int"
 |.bool => Aa "bool"
 |.str => Aa "str"
 |.list => Aa "list"
 |.tuple => Aa "tuple"
 |_ => Af
noncomputable def JN : D -> An
 |.obj _ _ => Ad
 |.exc _ _ => Ad
 |.dic _ => Ad
 |_ => Ac
theorem UW{k:Ki}{Q:Ah -> Ak -> Prop}{E : Ah -> Ak -> Prop}(I : Inv X pI σ H s)(r : BH X.K CL H A v d)(q : A4 v u)(hT : tyK k = Aa T)(hd : JN d = Ac)(h : ∀ s', Inv X pI σ H s' -> Q (.bool (kiD up k d)) s'):
  Ay (model X.prog X.w) X.A (call (.builtin "isinstance") [u, .type T]) Q E s := by
 have r' := r.plain;have it := fun t => h _ (I.tok t)
 cases d with
 |obj => cases hd
 |exc => cases hd
 |dic => cases hd
 |non=>
  cases r';cases q;cases k <;> simp only[tyK]at hT <;> cases hT
  ·exact IsiPair.NoneType_int (it _)
  ·exact IsiPair.NoneType_bool (it _)
  ·exact IsiPair.NoneType_str (it _)
  ·exact IsiPair.NoneType_list (it _)
  ·exact IsiPair.NoneType_tuple (it _)
 |bl b=>
  cases r';cases q;cases k <;> simp only[tyK]at hT <;> cases hT
  ·exact IsiPair.bool_int (h _ I)
  ·exact IsiPair.bool_bool (h _ I)
  ·exact IsiPair.bool_str (it _)
  ·exact IsiPair.bool_list (it _)
  ·exact IsiPair.bool_tuple (it _)
 |int i=>
  cases r';obtain⟨t, rfl⟩ := q;cases k <;> simp only[tyK]at hT <;> cases hT
  ·exact IsiPair.int_int (h _ I)
  ·exact IsiPair.int_bool (it _)
  ·exact IsiPair.int_str (it _)
  ·exact IsiPair.int_list (it _)
  ·exact IsiPair.int_tuple (it _)
 |str x=>
  cases r';obtain⟨t, rfl⟩ := q;cases k <;> simp only[tyK]at hT <;> cases hT
  ·exact IsiPair.str_int (it _)
  ·exact IsiPair.str_bool (it _)
  ·exact IsiPair.str_str (h _ I)
  ·exact IsiPair.str_list (it _)
  ·exact IsiPair.str_tuple (it _)
 |tup ds=>
  obtain⟨p, xs, rfl, _, sq, rr⟩ := r';obtain⟨its, rv, pt, _⟩ := I.tuple sq;cases q;have pt' : s.heap.IsTuple p its.toArray := pt;cases k <;> simp only[tyK]at hT <;> cases hT
  ·exact IsiPair.isTuple_int pt' (fun _ _ e => e) (it _)
  ·exact IsiPair.isTuple_bool pt' (fun _ _ e => e) (it _)
  ·exact IsiPair.isTuple_str pt' (fun _ _ e => e) (it _)
  ·exact IsiPair.isTuple_list pt' (fun _ _ e => e) (it _)
  ·exact IsiPair.isTuple_tuple pt' (fun _ _ e => e) (h _ I)
 |lst ds=>
  obtain⟨p, xs, rfl, _, sq, rr⟩ := r';obtain⟨its, rv, pl, _⟩ := I.list sq;cases q;have pt' : s.heap.IsList p its.toArray := GL pl;cases k <;> simp only[tyK]at hT <;> cases hT
  ·exact IsiPair.isList_int pt' (fun _ _ e => e) (it _)
  ·exact IsiPair.isList_bool pt' (fun _ _ e => e) (it _)
  ·exact IsiPair.isList_str pt' (fun _ _ e => e) (it _)
  ·exact IsiPair.isList_list pt' (fun _ _ e => e) (h _ I)
  ·exact IsiPair.isList_tuple pt' (fun _ _ e => e) (it _)
theorem Ql{k:Ki}(hT : tyK k = Aa T)(p : AS Rp W H (EY up [k] d) Q) : JN d = Ac /\ AS Rp W H (.ok (.bl (kiD up k d))) Q := by
 cases k <;> simp only[tyK]at hT <;> cases hT <;> cases d <;> first|exact p.elim|exact⟨rfl, by simpa using p⟩
theorem Ua{k:Ki}{x:Aj}{p:AI}(hT : tyK k = Aa T)(hg : Gl X "isinstance")(hm : X.mg "isinstance" = Af)(hg2 : Gl X x)(hm2 : X.mg x = Af)(hv : BW x = Aa (.type T))(hn : x ≠ "__name__")(hdb : (x==("__debug__" : Aj)) = Ad)(ha : ST X CL W a fa)(he : At [a, .Name x p2] X.env = (Ad, eval a X.env)::At [.Name x p2] X.env) : SE X CL W (.Call (.Name "isinstance" p) [a, .Name x p2] [] pos) (fun ρ => (fa ρ).bind fun x => EY up [k] x) := fun A=>
 PE.weak (Lq (r := fun xs H Q => ∃ y d, xs = [y, .ty T] /\ BH X.K CL H A y d /\ JN d = Ac /\ Q (.bl (kiD up k d)) H) (fun pI s σ H xs us Q I r ⟨y, d, e, ry, hd, q⟩ => by
   subst e;obtain⟨u, w', rfl, r1, r2⟩ := JT r;cases r2;exact UW I ry r1 hT hd fun s' I' => ⟨.bl _, H, I', rfl, q⟩)
  hg hm boot_isinstance (EN (ha A) (EN (Sy (v := .ty T) hg2 hm2 hv rfl hn hdb) Gf rfl) he) (by decide) (by decide) he rfl) fun σ H Q ⟨hA, ρ, g, q⟩ => ⟨hA, ρ, g, AS.bind q fun d v H1 _ s1 r1 p1 => by
   obtain⟨hd, p2⟩ := Ql hT p1;exact⟨v, d, rfl, r1, hd, p2 _ H1 (As.refl H1) rfl⟩⟩
theorem RD{b : An}{A':AM}{E : Ah -> Ak -> Prop}{Q:An -> Ak -> Prop}{prog:AC}{w:AJ}(r : Rep X.K CL H A v d)(q : A4 v u)(h : D4 d = .ok b)(hq : Q b s) : Ay (model prog w) A' (truthy u) Q E s := by
 cases d with
 |non=>
  cases r;cases q;cases h;exact truthy_none hq
 |bl k=>
  cases r;cases q;cases h;exact BA hq
 |int i=>
  cases r;obtain⟨t, rfl⟩ := q;cases h;exact truthy_int hq
 |_ => cases h
theorem Ky : ∀{ds : Ab D}{b : An}, Ev ds = .ok b -> (∀ j, j<ds.length -> ∃ c, D4 (ds.getD j .non) = .ok c) /\ b = (B7 ds.length).all fun j => match D4 (ds.getD j .non) with
  |.ok c => c
  |_ => Ad
 |[], b, h => by cases h;exact⟨fun j hj => absurd hj (Nat.not_lt_zero _), rfl⟩
 |d::ds, b, h => by
  rw[Jp]at h;cases e : D4 d with
  |bad => rw[e]at h;cases h
  |exn x => rw[e]at h;cases h
  |ok c=>
   rw[e, R.bind_ok]at h;cases e2 : Ev ds with
   |bad => rw[e2]at h;cases h
   |exn x => rw[e2]at h;cases h
   |ok c2=>
    rw[e2, R.bind_ok]at h;cases h;obtain⟨h1, h2⟩ := Ky e2;refine⟨fun j hj => ?_, ?_⟩
    ·cases j with
     |zero => exact⟨c, e⟩
     |succ j => exact h1 j (by simpa using hj)
    ·rw[DB, Ku, h2];show (c&&_) = ((match D4 d with | .ok c => c|_ => Ad)&&_)
     rw[e];rfl
theorem Ti{ds : Ab D}(r : Reps X.K CL H A0 xs ds)(rv : AR xs its){v:Ah}(h : its.toArray[j]? = Aa v) : j<ds.length /\ ∃ x, Rep X.K CL H A0 x (ds.getD j .non) /\ A4 x v := by
 have h' : its[j]? = Aa v := by simpa using h
 obtain⟨hj, e⟩ := AU.mp h';obtain⟨x, rx, q⟩ := Gc r rv hj;have l1 := rv.length;have l2 := r.length
 exact⟨by omega, x, rx, by rw[<-e];exact q⟩
theorem VU{o:AB}(k : ∀ b q, b ∉ [h.objs.size] -> (h.push o).get? b = Aa q -> h'.get? b = Aa q) : ∀ b q, h.get? b = Aa q -> h'.get? b = Aa q := fun b q e => k b q (by
 intro z;have := Bh.mp z;rw[this]at e;exact absurd (Az e) (A7 _)) (Aw _ e)
theorem U5(hc : X.calm = Ac) : Gk X CL W (.builtin "all") (biD .all) := by
  intro A pI s σ H xs us Q I r ⟨hA, ds, rs, p⟩
  match ds, rs, p with
  |[.lst es], rs, p=>
    obtain⟨v, rfl, rv⟩ := rs.one;obtain⟨q, ys, e, _, sq, ry⟩ := rv.plain;subst e;obtain⟨u, rfl, ru⟩ := GN r;cases ru;rw[W5]at p;cases e1 : Ev es with
    |bad => rw[e1]at p;exact p.elim
    |exn x=>
      exfalso
      have : ∀(es : Ab D) x, Ev es ≠ .exn x := by
        intro es
        induction es with
        |nil => intro x h;cases h
        |cons d ds ih=>
          intro x h;rw[Jp]at h;cases e : D4 d with
          |bad => rw[e]at h;cases h
          |exn y => cases d <;> cases e
          |ok c=>
            rw[e, R.bind_ok]at h;cases e2 : Ev ds with
            |bad => rw[e2]at h;cases h
            |exn y => exact ih y e2
            |ok c2 => rw[e2]at h;cases h
      exact this es x e1
    |ok b=>
      rw[e1, R.bind_ok]at p;obtain⟨h1, h2⟩ := Ky e1;obtain⟨its, rvv, pl, _⟩ := I.list sq;have hlt : q<s.heap.objs.size := by obtain⟨o, n, e, _⟩ := pl;exact Az e
      have hl : its.toArray.size = es.length := by rw[AE, <-rvv.length, ry.length]
      refine call_all_walk (O4 (GL pl) ⟨s.heap.objs.size, _, _, _, _, _, (fun j => match D4 (es.getD j .non) with | .ok c => c|_ => Ad), rfl, Walks.list (A := X.A.in1) (I.ok.hd hc) s.heap.objs.size q (Bw hlt) its.toArray, ⟨⟨_, Ba _ rfl, rfl, rfl⟩, (GL pl).push _⟩, fun j v s' Q' E' hv hQ => ?_, fun h' tk k => ?_⟩)
      · obtain⟨hj, x, rx, qx⟩ := Ti ry rvv hv;obtain⟨c, ec⟩ := h1 j hj;exact RD rx qx ec (by dsimp only at hQ;rw[ec]at hQ;exact hQ)
      · rw[hl, <-h2];exact⟨.bl b, H, I.kept (VU k), rfl, p _ H (As.refl H) rfl⟩
  |[], _, p => exact p.elim
  |[.non], _, p => exact p.elim
  |[.bl _], _, p => exact p.elim
  |[.int _], _, p => exact p.elim
  |[.str _], _, p => exact p.elim
  |[.tup _], _, p => exact p.elim
  |[.obj _ _], _, p => exact p.elim
  |[.exc _ _], _, p => exact p.elim
  |[.dic _], _, p => exact p.elim
  |x::_::_, _, p => cases x <;> exact p.elim
end
section
variable(K : Fg)(CL : ClA)
noncomputable def WT(H0 : Hp)(A : Ai -> Prop)(H : Hp)(v : V)(d : D) : Prop := ∀ ds, d = .lst ds -> ∃ a xs, v = .ref a /\ H0 a = Af /\ H a = Aa (.lst xs) /\ Reps K CL H (fun b => A b \/ b = a) xs ds
noncomputable def CW(fr : An)(H0 : Hp)(A : Ai -> Prop)(H : Hp)(v : V)(d : D) : Prop := Rep K CL H A v d /\ (fr = Ac -> WT K CL H0 A H v d)
end
section
variable{X : Cx}{CL : ClA}{W : XW}{a b c : Ao}{fa fb fc : Rho -> R D}{pos : AI}
noncomputable def SC(X : Cx)(CL : ClA)(W : XW)(fr : An)(e : Ao)(f : Rho -> R D) : Prop := ∀ A, PE X e (fun σ H Q => AOk H A /\ ∃ ρ, Good X.K CL A ρ σ H /\ AS (CW X.K CL fr H A) W H (f ρ) Q)
theorem SC.se{fr : An}(h : SC X CL W fr a fa) : SE X CL W a fa := fun A => PE.weak (h A) fun σ H Q ⟨hA, ρ, g, p⟩ => ⟨hA, ρ, g, by
 cases e : fa ρ with
 |ok d => rw[e]at p;exact fun v H' s r => p v H' s r.1
 |exn x => rw[e]at p;exact p
 | bad => rw[e]at p;exact p⟩
theorem SE.sc(h : SE X CL W a fa) : SC X CL W Ad a fa := fun A => PE.weak (h A) fun σ H Q ⟨hA, ρ, g, p⟩ => ⟨hA, ρ, g, by
 cases e : fa ρ with
 |ok d => rw[e]at p;exact fun v H' s r => p v H' s ⟨r, fun z => nomatch z⟩
 |exn x => rw[e]at p;exact p
 | bad => rw[e]at p;exact p⟩
theorem SC.congr{fr : An}{f g:Rho -> R D}(h : SC X CL W fr a f)(e : ∀ ρ, g ρ = f ρ) : SC X CL W fr a g := fun A => PE.weak (h A) fun σ H Q ⟨hA, ρ, q, p⟩ => ⟨hA, ρ, q, by rw[<-e];exact p⟩
theorem Gz{ds : Ab D}(s : As H0 H)(hA : AOk H A)(hp : H p = Af)(r : Reps K CL H A xs ds) : CW K CL Ac H0 A (upd H p (.lst xs)) (.ref p) (.lst ds):=
 ⟨LM hA hp r, fun _ ds' e => by
  cases e;exact⟨p, xs, rfl, s.free hp, Fu, (Reps.wide (fun a ha => ha.imp id fun e => by rw[e];exact hp) _ r).same (Ed hp _)⟩⟩
theorem LU{fr : An}(r : Rep K CL H A v d)(h : ∀ ds, d ≠ .lst ds) : CW K CL fr H0 A H v d := ⟨r, fun _ ds e => absurd e (h ds)⟩
theorem S3{es:Ab Ao}(hs : SA X CL W es fs)(hz : ∀ ρ ds, fs ρ = .ok ds -> ds.length <= 100000) : SC X CL W Ac (.List es pos) (fun ρ => (fs ρ).bind fun xs => .ok (.lst xs)):=
 fun A => PE.weak (TZ (hs A)) fun σ H Q ⟨hA, ρ, g, p⟩ => ⟨hA, ρ, g, EV.bind p fun ds vs H1 e s1 r1 p1 => ⟨by
  rw[r1.length, Dz];have := hz ρ ds e;omega, fun q hq => p1 _ _ (Ed hq _) (Gz s1 (hA.same s1) hq r1)⟩⟩
theorem AS.bindF{fr : An}{f:D -> R D}{Q':VK}(h : AS (CW K CL fr H A) W H (r.bind f) Q)(k : ∀ d v H', r = .ok d -> As H H' -> Rp H' v d -> AS (CW K CL fr H A) W H' (f d) Q -> Q' v H') : AS Rp W H r Q' := by
 cases r with
 |ok d => exact fun v H2 s2 q => k d v H2 rfl s2 q (AS.same s2 h)
 |exn x => exact h
 |bad => exact h
theorem EV.bindF{Rp:Hp -> Ab V -> Ab D -> Prop}{r:R (Ab D)}{f:Ab D -> R D}{Q':Ab V -> Hp -> Prop}(h : AS Rq W H (r.bind f) Q)(k : ∀ d v H', r = .ok d -> As H H' -> Rp H' v d -> AS Rq W H' (f d) Q -> Q' v H') : EV Rp W H r Q' := by
 cases r with
 |ok d => exact fun v H2 s2 q => k d v H2 rfl s2 q (AS.same s2 h)
 |exn x => exact h
 |bad => exact h
theorem Gj.bindF{r:R (Al Ae)}{f:Al Ae -> R D}(h : AS Rq W H (r.bind f) Q)(k : ∀ o H', r = .ok o -> As H H' -> AS Rq W H' (f o) Q -> Q' o H') : Gj W H r Q' := by
 cases r with
 |ok d => exact fun H2 s2 => k d H2 rfl s2 (AS.same s2 h)
 |exn x => exact h
 |bad => exact h
theorem VS{lo hi:Al Ao}{fl fh:Rho -> R (Al Ae)}(ha : ST X CL W a fa)(hl : SO X CL W lo fl)(hh : SO X CL W hi fh) : SC X CL W Ac (.Subscript a (.Slice lo hi Af p2) pos) (fun ρ => (fa ρ).bind fun x => (fl ρ).bind fun l => (fh ρ).bind fun h => slD x l h):=
 fun A => PE.weak (QF (r := fun x l h H Q => Nd X.K x l h H Q \/ Nc X.K x l h H Q) (fun pI s σ H x v vl vu lo hi sl Q I rx hs pl pu h => h.elim (Rc pI s σ H x v vl vu lo hi sl Q I rx hs pl pu) (S6 pI s σ H x v vl vu lo hi sl Q I rx hs pl pu)) (ha A) (hl A) (hh A)) fun σ H Q ⟨hA, ρ, g, p⟩ => ⟨hA, ρ, g, AS.bindF p fun dx x H1 _ s1 r1 p1 => ⟨hA.same s1, ρ, g.same s1, Gj.bindF p1 fun l H2 _ s2 p2 => ⟨(hA.same s1).same s2, ρ, (g.same s1).same s2, Gj.bindF p2 fun h H3 _ s3 p3 => by
  cases dx with
  |lst ds=>
   obtain⟨q, xs, rfl, sq, r⟩ := ((r1.same s2).same s3).lst_of;exact .inl ⟨q, xs, rfl, sq, fun t ht => p3 _ _ (Ed ht _) (Gz ((s1.trans s2).trans s3) (((hA.same s1).same s2).same s3) ht (Ma l h r))⟩
  |tup ds=>
   obtain⟨q, xs, rfl, _, sq, r⟩ := ((r1.same s2).same s3).tup_of;rw[XB]at p3;split at p3
   ·exact p3.elim
   ·rename_i hw;refine .inr ⟨q, xs, rfl, sq, ?_, fun t ht => p3 _ _ (Ed ht _) (LU (HW (((hA.same s1).same s2).same s3) ht (Ma l h r)) (by intro _ z;cases z))⟩
    rintro⟨h1, h2⟩;refine hw ?_;have e : ∀ d o, HT.sIx xs.length d o = FA ds.length d o := fun d o => by rw[r.length];cases o <;> rfl
    rw[e]at h1 h2;rw[r.length]at h2;simp[h1, h2]
  | _ => exact p3.elim⟩⟩⟩
noncomputable def OpN(X : Cx)(CL : ClA)(W : XW)(f : Ah -> Ah -> Sem Ah)(g : D -> D -> R D) : Prop:=
 ∀ A H0, OpR X f (fun x y H Q => As H0 H /\ AOk H A /\ ∃ dx dy, BH X.K CL H A x dx /\ BH X.K CL H A y dy /\ AS (CW X.K CL Ac H0 A) W H (g dx dy) Q)
theorem SD : OpN X CL W (Bl .Add) (BR .Add) := by
 intro A H0 pI s σ H x y v u Q I rx ry ⟨s0, hA, dx, dy, hx, hy, p⟩;have key : (∀ ds, dx ≠ .lst ds) -> EP X pI σ Q = EP X pI σ Q -> Ay (model X.prog X.w) X.A (Bl .Add v u) (EP X pI σ Q) X.xe s := fun hd _ => by
  refine LJ (W := W) A pI s σ H x y v u Q I rx ry ⟨hA, dx, dy, hx, hy, ?_⟩;cases e : BR .Add dx dy with
  |bad => rw[e]at p;exact p
  |exn x => rw[e]at p;exact p
  |ok d=>
   rw[e]at p;refine fun v' H' s' r' => p v' H' s' (LU r' fun ds z => ?_)
   subst z;cases dx with
   |lst ds => exact hd _ rfl
   |_ => cases dy <;> first|(cases e;done)|(simp only[BR]at e;split at e <;> cases e)
 cases dx with
 |lst ds=>
  cases dy with
  |lst es=>
   obtain⟨a, xs, rfl, s1, r1⟩ := hx.lst_of;obtain⟨b, ys, rfl, s2, r2⟩ := hy.lst_of;simp only[MG]at p;split at p
   ·rename_i h;refine LK pI s σ H _ _ v u Q I rx ry ⟨a, b, xs, ys, rfl, rfl, s1, s2, by rw[r1.length, r2.length];exact Fv h, fun q hq => ?_⟩
    exact p _ _ (Ed hq _) (Gz s0 hA hq (r1.append r2))
   ·exact p.elim
  |_ => exact p.elim
 |_ => exact key (by intro _ z;cases z) rfl
theorem S5(ha : ST X CL W a fa)(hb : ST X CL W b fb) : SC X CL W Ac (.BinOp a .Add b pos) (fun ρ => (fa ρ).bind fun x => (fb ρ).bind fun y => BR .Add x y):=
 fun A pI s σ H Q I h => by
  obtain⟨hA, ρ, g, p⟩ := h;exact MT (SD (W := W) A H) (ha A) (hb A) pI s σ H Q I ⟨hA, ρ, g, AS.bindF p fun dx x H1 _ s1 r1 p1 => ⟨hA.same s1, ρ, g.same s1, AS.bind (Rq := CW X.K CL Ac H A) p1 fun dy y H2 _ s2 r2 p2 => ⟨s1.trans s2, (hA.same s1).same s2, dx, dy, r1.same s2, r2, p2⟩⟩⟩
noncomputable def M8(X : Cx)(CL : ClA)(W : XW)(f : Ah)(g : Ab D -> R D) : Prop := ∀ A H0, EW X f (fun xs H Q => As H0 H /\ AOk H A /\ ∃ ds, DF X.K CL H A xs ds /\ AS (CW X.K CL Ac H0 A) W H (g ds) Q)
theorem RT : M8 X CL W (.type "list") (biD .list) := by
  intro A H0 pI s σ H xs us Q I r ⟨s0, hA, ds, rs, p⟩
  match ds, rs, p with
  |[.lst es], rs, p=>
    obtain⟨v, rfl, rv⟩ := rs.one;obtain⟨q, ys, rfl, sq, ry⟩ := rv.lst_of;exact KD pI s σ H _ us Q I r ⟨q, ys, rfl, .inl sq, fun l hl => p _ _ (Ed hl _) (Gz s0 hA hl ry)⟩
  |[.tup es], rs, p=>
    obtain⟨v, rfl, rv⟩ := rs.one;obtain⟨q, ys, rfl, _, sq, ry⟩ := rv.tup_of;exact KD pI s σ H _ us Q I r ⟨q, ys, rfl, .inr sq, fun l hl => p _ _ (Ed hl _) (Gz s0 hA hl ry)⟩
  |[], _, p => exact p.elim
  |[.non], _, p => exact p.elim
  |[.bl _], _, p => exact p.elim
  |[.int _], _, p => exact p.elim
  |[.str _], _, p => exact p.elim
  |[.obj _ _], _, p => exact p.elim
  |[.exc _ _], _, p => exact p.elim
  |[.dic _], _, p => exact p.elim
  |x::_::_, _, p => cases x <;> exact p.elim
theorem S4{x:Aj}{p:AI}{es:Ab Ao}{g:Ab D -> R D}(hc : M8 X CL W (.type T) g)(hg : Gl X x)(hm : X.mg x = Af)(hv : BW x = Aa (.type T))(ha : SAT X CL W (e::es) fs)(hn : x ≠ "__name__")(hdb : (x==("__debug__" : Aj)) = Ad)(he : At (e::es) X.env = (Ad, eval e X.env)::At es X.env)(hpl : ∀ pos, (BN pos (At es X.env)).any (·.1) = Ad):SC X CL W Ac (.Call (.Name x p) (e::es) [] pos) (fun ρ =>(fs ρ).bind g) := fun A pI s σ H Q I ⟨hA, ρ, gd, q⟩=>
 KJ (hc A H) hg hm hv (ha A) hn hdb he (hpl _) pI s σ H Q I ⟨hA, ρ, gd, EV.bindF q fun ds vs H1 _ s1 r1 p1 => ⟨s1, hA.same s1, ds, r1, p1⟩⟩
mutual
theorem MQ{K : Fg}{H : Hp}{A : Ai -> Prop}(hA : AOk H A) : ∀(n : Ag)(d : D){v : V}, nlD n d = Ac -> Rep K CL H A0 v d -> Rep K CL H A v d
 |_, .non, _, _, h => h
 |_, .bl _, _, _, h => h
 |_, .int _, _, _, h => h
 |_, .str _, _, _, h => h
 |0, .tup _, _, hn, _ => by cases hn
 |n+1, .tup ds, _, hn, h => by
  obtain⟨a, xs, e, _, s, r⟩ := h;refine⟨a, xs, e, ?_, s, nls_up hA n ds hn r⟩;rcases s with s|s
  ·refine .inl fun z => ?_
   obtain⟨u, q, ⟨ys, rfl⟩|⟨ys, rfl⟩⟩ := hA a z <;> rcases s with s|⟨o, s⟩ <;> rw[q]at s <;> cases s
  ·exact .inr s
 |n, .lst _, _, hn, _ => by cases n <;> cases hn
 |n, .obj _ _, _, hn, _ => by cases n <;> cases hn
 |n, .exc _ _, _, hn, _ => by cases n <;> cases hn
 |n, .dic _, _, hn, _ => by cases n <;> cases hn
theorem nls_up{K : Fg}{H : Hp}{A : Ai -> Prop}(hA : AOk H A) : ∀(n : Ag)(ds : Ab D){vs : Ab V}, ds.all (nlD n) = Ac -> Reps K CL H A0 vs ds -> Reps K CL H A vs ds
 |_, [], [], _, h => h
 |n, d::ds, _::_, hn, h => by
  simp only[En, Am]at hn;exact⟨MQ hA n d hn.1 h.1, nls_up hA n ds hn.2 h.2⟩
 |_, [], _::_, _, h => h.elim
 |_, _::_, [], _, h => h.elim
end
theorem UH{fr : An}(hA0 : AOk H0 A)(s : As H0 H)(hc : GQ fr d = Ac)(r : CW K CL fr H0 A0 H v d) : CW K CL fr H0 A H v d := by
 have hA := hA0.same s;cases d with
 |lst ds=>
  have hc' : (fr&&ds.all (nlD 5)) = Ac := hc;rw[Am]at hc';obtain⟨a, xs, e, h0, h1, rs⟩ := r.2 hc'.1 ds rfl;have hA2 : AOk H (fun b => A b \/ b = a) := fun b hb => hb.elim (hA b) fun e => by rw[e];exact⟨_, h1, .inl ⟨xs, rfl⟩⟩
  have rs' := nls_up hA2 5 ds hc'.2 (Reps.sub (fun _ z => z.elim) _ rs)
  refine⟨⟨a, xs, e, .inl (hA0.new h0), SqL.of h1, Reps.sub (fun _ z => .inl z) _ rs'⟩, fun _ ds' e' => ?_⟩
  cases e';exact⟨a, xs, e, h0, h1, rs'⟩
 |_ => exact⟨MQ hA 5 _ hc r.1, fun _ _ z => nomatch z⟩
noncomputable def spD(K : Fg)(CL : ClA)(n : Ag)(fr : An)(F : Ab D -> R D) : Sp := fun vs H Q E => ∃(ds : Ab D)(A : Ai -> Prop), vs.length = n /\ AOk H A /\ Reps K CL H A vs ds /\ (match F ds with
  |.ok d => ∀ v H', As H H' -> CW K CL fr H A H' v d -> Q v H'
  |.exn x => ∀ cls dx H', As H H' -> EU K CL H' cls dx x -> E cls dx H'
  | .bad => AX)
noncomputable def EKW(K : Fg)(CL : ClA)(A : Ai -> Prop)(W : XW) : XK := fun cls dx H' => ∃ x, EU K CL H' cls dx x /\ W x H'
theorem DF.plain{K : Fg}{H : Hp}{A : Ai -> Prop} : ∀{vs : Ab V}{ds : Ab D}, DF K CL H A vs ds -> Reps K CL H A0 vs ds
 |[], [], h => trivial
 |_::_, _::_, h => ⟨h.1.plain, DF.plain h.2⟩
 |[], _::_, h => h.elim
 |_::_, [], h => h.elim
theorem Rj{CX:CXT}{k:Ag}{fr : An}{f:Ai}{fd:Bs}{ps:Ab Aj}{F:Ab D -> R D}{x:Aj}{p:AI}{es:Ab Ao}{ft:Rho -> R (Ab D)}{sh : Rho -> An}(G : FnOk X.prog X.w X.K X.mg X.base CX k f fd ps (spD X.K CL n fr F))(hr : Room k X.A)(hg : Gl X x)(hm : X.mg x = Aa (.ref f))(hk : Cd X.K (.ref f) = Ac)(hb : EX X.K fd ps [])(hx : ∀ A, GH CX X (EKW X.K CL A W))(ha : SA X CL W (e::es) fs)(hat : SAT X CL W (e::es) ft)(hst : ∀ ρ, sh ρ = Ac -> ft ρ = fs ρ)(hn : ∀ ρ ds, ft ρ = .ok ds -> ds.length = n)(hdb : (x==("__debug__" : Aj)) = Ad)(he : At (e::es) X.env = (Ad, eval e X.env)::At es X.env)(hpl : ∀ pos, (BN pos (At es X.env)).any (·.1) = Ad):SC X CL W fr (.Call (.Name x p) (e::es) [] pos) (fun ρ =>(ft ρ).bind fun ds =>(F ds).bind fun d =>if sh ρ = Ac then .ok d else if GQ fr d = Ac then .ok d else .bad) := fun A pI s σ H Q I ⟨hA, ρ, gd, q⟩ => by
 dsimp only at q;by_cases hs : sh ρ = Ac
 ·rw[hst ρ hs]at q;refine LW G hr hg hm hk hb .nil (hx A) (ha A) hdb he (hpl _) pI s σ H Q I ⟨hA, ρ, gd, ?_⟩;cases e1 : fs ρ with
  |bad => rw[e1]at q;exact q
  |exn y => rw[e1]at q;exact q
  |ok ds=>
   rw[e1]at q;intro vs H1 s1 r1;refine⟨ds, A, by rw[Cm, r1.length];exact hn ρ ds (by rw[hst ρ hs];exact e1), hA.same s1, by rw[Cm];exact r1, ?_⟩
   have q' : AS (CW X.K CL fr H A) W H ((F ds).bind fun d => if sh ρ = Ac then .ok d else if GQ fr d = Ac then .ok d else .bad) Q := q
   cases e2 : F ds with
   |ok d=>
    rw[e2, R.bind_ok, AF hs]at q';exact fun v H2 s2 r2 => q' v H2 (s1.trans s2) ⟨r2.1, fun z ds' e' => let ⟨a, xs, z1, z2, z3⟩ := r2.2 z ds' e';⟨a, xs, z1, s1.free z2, z3⟩⟩
   |exn y => rw[e2]at q';exact fun cls dx H2 s2 xr => ⟨y, xr, q' H2 (s1.trans s2)⟩
   |bad => rw[e2]at q';exact q'.elim
 ·refine LW G hr hg hm hk hb .nil (hx A0) (hat A) hdb he (hpl _) pI s σ H Q I ⟨hA, ρ, gd, ?_⟩;cases e1 : ft ρ with
  |bad => rw[e1]at q;exact q
  |exn y => rw[e1]at q;exact q
  |ok ds=>
   rw[e1]at q;intro vs H1 s1 r1;refine⟨ds, A0, by rw[Cm, r1.plain.length];exact hn ρ ds e1, fun _ z => z.elim, by rw[Cm];exact r1.plain, ?_⟩
   have q' : AS (CW X.K CL fr H A) W H ((F ds).bind fun d => if sh ρ = Ac then .ok d else if GQ fr d = Ac then .ok d else .bad) Q := q
   cases e2 : F ds with
   |ok d=>
    rw[e2, R.bind_ok, AH hs]at q';split at q'
    ·rename_i hc;exact fun v H2 s2 r2 => q' v H2 (s1.trans s2) (UH hA (s1.trans s2) hc ⟨r2.1, fun z ds' e' => let ⟨a, xs, z1, z2, z3⟩ := r2.2 z ds' e';⟨a, xs, z1, s1.free z2, z3⟩⟩)
    ·exact q'.elim
   |exn y => rw[e2]at q';exact fun cls dx H2 s2 xr => ⟨y, xr, q' H2 (s1.trans s2)⟩
   |bad => rw[e2]at q';exact q'.elim
end
theorem Jm(env : BG) : ∀(ns : Ab (Aj × CD))(acc : Ab (Aj × Ai)), (∀ x ∈ ns, x.2 = .free -> ∃ c, env.cells.lookup x.1 = Aa c) -> (∀ x c, acc.lookup x = Aa c -> env.cells.lookup x = Aa c) ->
  ∃ cl, (forIn ns acc fun(x : Aj × CD)(cs : Ab (Aj × Ai)) => (if (x.2==.free) = Ac then do let c <-cellOf env x.1;pure (CN ((x.1, c)::cs)) else pure (CN cs) : Sem (ForInStep (Ab (Aj × Ai))))) = pure cl /\
   (∀ x c, cl.lookup x = Aa c -> env.cells.lookup x = Aa c) /\ (∀ x, ((x, Cq) ∈ ns \/ ∃ c, acc.lookup x = Aa c) -> ∃ c, cl.lookup x = Aa c)
 |[], acc, _, h2 => ⟨acc, by rw[N7], h2, fun x hx => hx.elim (fun z => nomatch z) id⟩
 |(n, k)::r, acc, h1, h2 => by
  rw[List.forIn_cons];by_cases hk : k = .free
  ·subst hk;obtain⟨c, hc⟩ := h1 (n, .free) Au rfl;obtain⟨cl, e, p, q⟩ := Jm env r ((n, c)::acc) (fun x hx => h1 x (Ar _ hx)) (fun x d hd => by
    rw[Br]at hd;split at hd
    ·rename_i hx;cases hd;rw[eq_of_beq hx];exact hc
    ·exact h2 x d hd)
   refine⟨cl, ?_, p, fun x hx => q x ?_⟩
   ·have e1 : cellOf env n = pure c := by unfold cellOf;dsimp only at hc;rw[hc]
    rw[AF (by rfl), e1]
    exact e
   ·rcases hx with hx|⟨d, hd⟩
    ·rcases AQ.mp hx with z|z
     ·cases z;exact .inr ⟨c, by simp[Br]⟩
     ·exact .inl z
    ·by_cases hxn : x = n
     ·exact .inr ⟨c, by subst hxn;simp[Br]⟩
     ·exact .inr ⟨d, by rw[Br];rw[BF.mpr hxn];exact hd⟩
  ·obtain⟨cl, e, p, q⟩ := Jm env r acc (fun x hx => h1 x (Ar _ hx)) h2
   refine⟨cl, ?_, p, fun x hx => q x ?_⟩
   ·rw[AH (by simpa using hk)]
    exact e
   ·rcases hx with hx|hx
    ·rcases AQ.mp hx with z|z
     ·cases z;exact absurd rfl hk
     ·exact .inl z
    ·exact .inr hx
theorem K8(h : ∀ x ∈ scope.names, x.2 = .free -> ∃ c, env.cells.lookup x.1 = Aa c):∃ cl,closureFor scope env = pure cl/\(∀ x c,cl.lookup x = Aa c->env.cells.lookup x = Aa c)/\∀ x,(x,Cq) ∈ scope.names->∃ c,cl.lookup x = Aa c := by
 obtain⟨cl, e, p, q⟩ := Jm env scope.names [] h (fun x c z => by simp at z)
 refine⟨cl, ?_, p, fun x hx => q x (.inl hx)⟩
 unfold closureFor
 first
  |exact e
  |(simp only[bind_pure];exact e)
  |(rw[show (forIn scope.names ([] : Ab (Aj × Ai)) _ : Sem _) = pure cl from e];rfl)
theorem IY :∀(names :Ab (Aj × CD))(h :AD)(acc :Ab (Aj × Ai))(x :Aj)(c :Ai),(B1 h.objs.size names acc).lookup x = Aa c->acc.lookup x = Aa c\/((x,Be) ∈ names/\h.objs.size <= c/\(Ej h names).IsCell c Af)
 |[], _, _, _, _, e => .inl e
 |(n, k)::r, h, acc, x, c, e => by
  unfold B1 at e;unfold Ej;by_cases hk : (k==Be) = Ac
  ·rw[AF hk]at e ⊢;have hs : h.objs.size+1 = (h.push { cls := .type "cell", data := .cell Af }).objs.size := (Dp ..).symm;rw[hs]at e;rcases IY r _ _ x c e with q|⟨q1, q2, q3⟩
   ·rw[Br]at q;cases hx : x==n with
    |true=>
     rw[hx]at q;cases q;refine .inr ⟨?_, AG _, ?_⟩
     ·rw[eq_of_beq hx, eq_of_beq hk];exact Au
     ·exact⟨_, E2 r _ _ _ (Ba _ rfl), rfl⟩
    |false => rw[hx]at q;exact .inl q
   ·exact .inr ⟨Ar _ q1, by omega, q3⟩
  ·rw[AH hk]at e ⊢;rcases IY r h acc x c e with q|⟨q1, q2, q3⟩
   ·exact .inl q
   ·exact .inr ⟨Ar _ q1, q2, q3⟩
theorem IZ :∀(names :Ab (Aj × CD))(h :AD)(acc :Ab (Aj × Ai)),(∀ x y c,acc.lookup x = Aa c->acc.lookup y = Aa c->x = y)->(∀ x c,acc.lookup x = Aa c->c<h.objs.size)->∀ x y c,(B1 h.objs.size names acc).lookup x = Aa c->(B1 h.objs.size names acc).lookup y = Aa c->x = y
 |[], _, _, i, _, x, y, c, e1, e2 => i x y c e1 e2
 |(n, k)::r, h, acc, i, b, x, y, c, e1, e2 => by
  unfold B1 at e1 e2;by_cases hk : (k==Be) = Ac
  ·rw[AF hk]at e1 e2;have hs : h.objs.size+1 = (h.push { cls := .type "cell", data := .cell Af }).objs.size := (Dp ..).symm;rw[hs]at e1 e2;have look : ∀ z d, Od z ((n, h.objs.size)::acc) = Aa d -> (z = n /\ d = h.objs.size) \/ (z ≠ n /\ acc.lookup z = Aa d) := fun z d q => by
    rw[Br]at q;cases hx : z==n with
    |true => rw[hx]at q;cases q;exact .inl ⟨eq_of_beq hx, rfl⟩
    |false => rw[hx]at q;exact .inr ⟨fun e => by rw[e]at hx;simp at hx, q⟩
   refine IZ r _ _ (fun z z' d q q' => ?_) (fun z d q => ?_) x y c e1 e2
   ·rcases look z d q with ⟨rfl, q1⟩|⟨_, q1⟩ <;> rcases look z' d q' with ⟨rfl, q2⟩|⟨_, q2⟩
    ·rfl
    ·exact absurd (b _ _ q2) (by rw[q1];exact A7 _)
    ·exact absurd (b _ _ q1) (by rw[q2];exact A7 _)
    ·exact i _ _ _ q1 q2
   ·rw[<-hs];rcases look z d q with ⟨_, q1⟩|⟨_, q1⟩
    ·rw[q1];exact Oo _
    ·exact Ez (b _ _ q1)
  ·rw[AH hk]at e1 e2;exact IZ r h acc i b x y c e1 e2
theorem Jo : ∀(names : Ab (Aj × CD))(n : Ag)(acc : Ab (Aj × Ai))(x : Aj), (x, Be) ∉ names -> (B1 n names acc).lookup x = acc.lookup x
 |[], _, _, _, _ => rfl
 |(m, k)::r, n, acc, x, hx => by
  unfold B1;have hr : (x, Be) ∉ r := fun z => hx (Ar _ z)
  by_cases hk : (k==Be) = Ac
  ·rw[AF hk, Jo r _ _ x hr, Br];cases q : x==m with
   |true => exact absurd (by rw[eq_of_beq q, eq_of_beq hk];exact Au) hx
   |false => rfl
  ·rw[AH hk];exact Jo r n acc x hr
theorem Ja(n0 : Ag) : ∀(names : Ab (Aj × CD))(n : Ag)(acc : Ab (Aj × Ai))(x : Aj), n0 <= n -> ((x, Be) ∈ names \/ ∃ c, acc.lookup x = Aa c /\ n0 <= c) -> ∃ c, (B1 n names acc).lookup x = Aa c /\ n0 <= c
 |[], _, _, _, _, h => h.elim (fun z => nomatch z) id
 |(m, k)::r, n, acc, x, hn, h => by
  unfold B1;by_cases hk : (k==Be) = Ac
  ·rw[AF hk];refine Ja n0 r _ _ x (by omega) ?_
   by_cases hx : (x==m) = Ac
   ·exact .inr ⟨n, by rw[Br, hx], hn⟩
   ·rcases h with h|⟨c, h, hc⟩
    ·rcases AQ.mp h with z|z
     ·cases z;simp at hx
     ·exact .inl z
    ·exact .inr ⟨c, by rw[Br];simp only[hx];exact h, hc⟩
  ·rw[AH hk];refine Ja n0 r _ _ x hn (h.imp (fun h => ?_) id)
   rcases AQ.mp h with z|z
   ·cases z;simp at hk
   ·exact z
theorem Ph{M:F0}{A:AM}{E : Ah -> Ak -> Prop}{globals:Ai}{qual:Aj}{Q:BG -> Ak -> Prop}(hQ : Q (newEnv scope s.heap.objs.size globals (B1 (s.heap.objs.size+1) scope.names cl) qual Af .none (Aa env) Fq) { s with heap := Ej (s.heap.push { cls := .type "dict", data := .dict #[] }) scope.names }):Ay M A (Fi scope globals cl [] qual Af .none (Aa env)) Q E s := by
 simp only[Fi, Option.isSome_some, Fm];refine Aq (wpAny_alloc ?_);refine Aq (wpAny_layCells _ (fun name kind cells => by cases hkc : kind==Be <;> simp[hkc]) _ _ _ _ ?_)
 rw[show ({ s with heap := s.heap.push { cls := .type "dict", data := .dict #[] } } : Ak).heap.objs.size = s.heap.objs.size+1 from Dp ..]
 rw[N7];exact Aq (AK (AK hQ))
noncomputable def cxC(X : Cx)(scope : Bx)(cl : Ab (Aj × Ai))(C : Ai)(N' : Ab Aj)(s₀ : Ak)(H₀ : Hp)(fp : Ab Ai) : Cx where
 prog := X.prog
 w := X.w
 K := X.K
 mg := X.mg
 base := X.base
 A := X.A
 N := N'
 s₀ := s₀
 H₀ := H₀
 env := compEnvC scope cl C X.env
 outer := X.stack
 stack := X.stack
 ex := fp
 fn := fun x => scope.names.lookup x==Aa Be
 calm := X.calm
 pn := []
 xe := fun _ _ => AX
theorem HC{env : BG} :∀{names :Ab (Aj × CD)}{x :Aj}{k :CD},(names.map fun (n,k) =>if (k==Cq&&env.scope.kind==.function&&env.kindOf n==Aa .cell) then (n,Be) else (n,k)).lookup x = Aa k->names.lookup x = Aa k\/(k = .cell/\names.lookup x = Aa .free)
 |[], _, _, h => by simp at h
 |(n, j)::r, x, k, h => by
  have ih := @HC env r x k;have h' : Od x ((if (j==Cq&&env.scope.kind==.function&&env.kindOf n==Aa .cell) = Ac then (n, Be) else (n, j))::(r.map fun (n, k) => if (k==Cq&&env.scope.kind==.function&&env.kindOf n==Aa .cell) then (n, Be) else (n, k))) = Aa k := h
  by_cases hc : (j==Cq&&env.scope.kind==.function&&env.kindOf n==Aa .cell) = Ac
  ·rw[AF hc]at h';rw[Br]at h' ⊢;cases hx : x==n with
   |true=>
    rw[hx]at h';cases h';simp only[Am]at hc;exact .inr ⟨rfl, by rw[eq_of_beq hc.1.1]⟩
   |false => rw[hx]at h';exact ih h'
  ·rw[AH hc]at h';rw[Br]at h' ⊢;cases hx : x==n with
   |true => rw[hx]at h';exact .inl h'
   |false => rw[hx]at h';exact ih h'
structure BlockOk (X : Cx) (scope : Bx) (N' : Ab Aj) (ts : Ab Ag) : Prop where
 kind : scope.kind = .function
 uniq : ∀ y ∈ scope.names, scope.names.lookup y.1 = Aa y.2
 names : ∀ y ∈ scope.names, y.2 = .local -> scope.names.lookup y.1 = Aa .local
 free : ∀ y ∈ scope.names, y.2 = .free -> X.env.scope.names.lookup y.1 = Aa .cell \/ X.env.scope.names.lookup y.1 = Aa .free
 len : N'.length = X.N.length
 same : ∀ i x, N'[i]? = Aa x -> scope.names.lookup x = Aa .free -> i ∉ ts -> X.N[i]? = Aa x
 loc : ∀ i x, N'[i]? = Aa x -> (scope.names.lookup x = Aa .local \/ scope.names.lookup x = Aa .cell) -> i ∈ ts
structure BCells (X : Cx) (scope : Bx) (cl : Ab (Aj × Ai)) (C : Ai) (h : AD) : Prop where
 own : ∀ x c, cl.lookup x = Aa c -> X.env.cells.lookup x = Aa c \/ (scope.names.lookup x = Aa .cell /\ C<c /\ h.IsCell c Af)
 inj : ∀ x y c, cl.lookup x = Aa c -> cl.lookup y = Aa c -> x = y
 has : ∀ x, scope.names.lookup x = Aa .cell -> ∃ c, cl.lookup x = Aa c /\ C<c
 fr : ∀ x, (x, Cq) ∈ scope.names -> ∃ c, cl.lookup x = Aa c /\ X.env.cells.lookup x = Aa c
section
variable{X : Cx}{pI : Ab (Ai × AB)}{σ : L2.St}{H : Hp}{s : Ak}
noncomputable def hideT(ts : Ab Ag)(σ : L2.St) : L2.St := ts.foldl (fun σ t => σ.set t Af) σ
theorem Jh : ∀(ts : Ab Ag)(σ : L2.St), (hideT ts σ).length = σ.length
 |[], _ => rfl
 |t::ts, σ => by show (hideT ts (σ.set t Af)).length = _;rw[Jh ts, AZ]
theorem KP : ∀(ts : Ab Ag)(σ : L2.St){i : Ag}{v : V}, (hideT ts σ)[i]? = Aa (Aa v) -> σ[i]? = Aa (Aa v) /\ i ∉ ts
 |[], _, _, _, h => ⟨h, by simp⟩
 |t::ts, σ, i, v, h => by
  obtain⟨h1, h2⟩ := KP ts (σ.set t Af) (i := i) (v := v) h;by_cases e : t = i
  ·subst e;have := ER h1;cases this
  ·rw[BZ e]at h1;exact⟨h1, by simp only[AQ, Hx];exact⟨fun z => e z.symm, h2⟩⟩
theorem Pi{tk:Ag}{C:Ai}{m:Aj -> Al Ah}(I : Inv X pI σ H s)(B : BlockOk X scope N' ts)(hf : ∀ b ∈ fp, Fb X pI H b)(hfo : ∀ b ∈ fp, b<s.heap.objs.size)(hb : BCells X scope cl C h')(hk : ∀ b o, s.heap.get? b = Aa o -> h'.get? b = Aa o)(hC : s.heap.objs.size <= C)(hn : h'.Ns C m) : Inv (cxC X scope cl C N' s H fp) [] (hideT ts σ) H {s with heap := h', toks := tk} := by
 have stf : ∀ b ∈ fp, b ∉ frs X.stack := fun b hb z => by
  rcases AQ.mp (I.stkSub b z) with e|e
  ·exact(hf b hb).2.1 e
  ·exact(hf b hb).2.2.1 e
 have frOf : ∀ x, ((relabel scope X.env).names.lookup x = Aa .cell \/ (relabel scope X.env).names.lookup x = Aa .free) -> scope.names.lookup x = Aa .free \/ scope.names.lookup x = Aa .cell := fun x hx => by
  rcases hx with z|z
  ·rcases HC z with z|⟨_, z⟩
   ·exact .inr z
   ·exact .inl z
  ·rcases HC z with z|⟨z, _⟩
   ·exact .inl z
   ·cases z
 have gtC : ∀ c : Ai, C<c -> s.heap.objs.size <= c := fun c z => BL hC (DS z)
 have cellK : ∀ c v, s.heap.IsCell c v -> h'.IsCell c v := fun c v ⟨o, ho, hd⟩ => ⟨o, hk _ _ ho, hd⟩
 refine⟨⟨I.ok.mod, B.kind, I.ok.glob, I.ok.blt, hC, hb.inj, fun x hx => ?_, fun x c h e => ?_, I.ok.hd, I.ok.frames, .inl rfl, fun b hbb => ⟨?_, fun x c e => ?_⟩, I.bs, BL I.ok.bsz I.sz, fun b o e hbb => ?_, stf, I.stack, I.stkFree⟩, rfl, I.bare, Un.kept hk, ⟨m, hn, fun i x v h1 h2 h3 => ?_⟩, fun x c e => ?_, I.hok.fresh hC, fun x c e => (hb.own x c e).elim (I.freeC x c) (fun z => I.hok.fresh (gtC c z.2.1)), fun p hp => absurd (show p ∈ ([] : Ab (Ai × AB)) from hp) (by simp), I.hok.kept hk, ?_⟩
 ·rcases frOf x hx with z|z
  ·obtain⟨c, q, _⟩ := hb.fr x (BB z);exact⟨c, q⟩
  ·obtain⟨c, q, _⟩ := hb.has x z;exact⟨c, q⟩
 ·obtain⟨c', q, z⟩ := hb.has x (eq_of_beq h);have e' : cl.lookup x = Aa c := e;rw[q]at e';cases e';exact gtC _ z
 ·intro z;have z' : b = C := z;have := hfo b hbb;rw[z']at this;exact absurd (Av this hC) (A7 _)
 ·rcases hb.own x c e with z|z
  ·exact(hf b hbb).2.2.2.2.1 x c z
  ·intro q;have := hfo b hbb;have := gtC c z.2.1;rw[q]at this;exact absurd ‹b<_› (Os.mpr this)
 ·rcases (hf b hbb).2.2.2.1 with z|z
  ·exact I.ok.noex b o e z
  ·exact absurd (Av (Az e) (BL I.ok.bsz z)) (A7 _)
 ·obtain⟨h2, hts⟩ := KP ts σ h2;have h3' : (relabel scope X.env).names.lookup x = Aa .local \/ (relabel scope X.env).names.lookup x = Aa .cell \/ (relabel scope X.env).names.lookup x = Aa .free := h3;have h1' : N'[i]? = Aa x := h1;rcases h3' with z|z
  ·rcases HC z with z|⟨z, _⟩
   ·exact absurd (B.loc i x h1' (.inl z)) hts
   ·cases z
  ·have fr := (frOf x z).resolve_right fun q => hts (B.loc i x h1' (.inr q))
   have hm := BB fr;have hX := B.same i x h1' fr hts;obtain⟨m0, hn0, hl0⟩ := I.loc;obtain⟨u, ru, lk⟩ := hl0 i x v hX h2 (by
    rcases B.free _ hm rfl with q|q
    ·exact .inr (.inl q)
    ·exact .inr (.inr q))
   refine⟨u, ru, ?_⟩;obtain⟨c, hc, hcX⟩ := hb.fr x hm;rcases lk with ⟨q, _⟩|⟨_, c', hc', hcell⟩
   ·have q' : X.env.scope.names.lookup x = Aa .local := q;rcases B.free _ hm rfl with p|p
    ·rw[show X.env.scope.names.lookup x = _ from p]at q';cases q'
    ·rw[show X.env.scope.names.lookup x = _ from p]at q';cases q'
   ·have e := hcX;rw[hc']at e;cases e;exact .inr ⟨z, c, hc, cellK _ _ hcell⟩
 ·rcases hb.own x c e with z|z
  ·obtain⟨v, q⟩ := I.cell x c z;exact⟨v, cellK _ _ q⟩
  ·exact⟨_, z.2.2⟩
 ·show (hideT ts σ).length = N'.length;rw[Jh, I.len, B.len]
theorem LA{C D : Ai}{s':Ak}{σ':L2.St}{pins':Ab (Ai × AB)}{h'':AD}{ys:Ab Ah}(I : Inv X pI σ H s)(hf : ∀ b ∈ fp, Fb X pI H b)(I' : Inv (cxC X scope cl C N' s H fp) pins' σ' H' s')(hD : s.heap.objs.size <= D)(hDC : D ≠ C)(hC : s.heap.objs.size <= C)(hd : s'.heap.get? D = Aa { cls := .type "list", data := .seq ys.toArray n })(hDn : H' D = Af)(rv : AR xs ys)(hz : xs.length <= sizeLine)(hs : DU C s'.heap h'') : Inv X pI σ (upd H' D (.lst xs)) {s' with heap := h''} := by
 have u : Un (frs X.stack) fp H H' s.heap s'.heap := I'.base;have lt : ∀ b o, s.heap.get? b = Aa o -> b ≠ C /\ b ≠ D := fun b o e => ⟨fun z => absurd (Av (Az e) (z ▸ hC)) (A7 _), fun z => absurd (Av (Az e) (z ▸ hD)) (A7 _)⟩
 have HD : H D = Af := I.hok.fresh hD;have hCn : H' C = Af := I'.free;have kb : ∀ b o, b ≠ C -> s'.heap.get? b = Aa o -> h''.get? b = Aa o := fun b o hb e => (hs.2 b hb).trans e
 have u2 : Un (frs X.stack) fp H (upd H' D (.lst xs)) s.heap h'' := ⟨fun b o e q hb hx => kb b o (lt b o e).1 (u.keep b o e q hb hx), fun b o e q hb hx => by
   obtain⟨sl, e1⟩ := u.slot b o e q hb hx;exact⟨sl, kb b _ (lt b o e).1 e1⟩, fun b o e q hx => by rw[B8 (lt b o e).2];exact u.free b o e q hx, fun b o e hx => by
   obtain⟨o', e1⟩ := u.there b o e hx;exact⟨o', kb b _ (lt b o e).1 e1⟩, fun b zs q => by rw[B8 (DE q HD)];exact u.tups b zs q, fun b o zs q => by rw[B8 (DE q HD)];exact u.frzs b o zs q, fun b ps q => by rw[B8 (DE q HD)];exact u.tbls b ps q⟩
 have hok : HOk X.prog X.w (upd H' D (.lst xs)) h'' := fun b o e => by
  by_cases hb : b = D
  ·subst hb;rw[Fu]at e;cases e;exact⟨hz, ys, n, rv, kb _ _ hDC hd⟩
  ·rw[B8 hb]at e;refine(I'.hok b o e).stay (fun c v hc q => kb c v ?_ q) (fun c q => by rw[B8 (DE q hDn)];exact q) fun c zs q => by rw[B8 (DE q hDn)];exact q
   rcases hc with rfl|hc
   ·exact DE e hCn
   ·exact DE hc hCn
 exact I.call' (s' := {s' with heap := h''}) (ch := fp) I'.os u2 hok I'.bare fun b hb => ⟨(hf b hb).2.2.2.1, (hf b hb).2.1, (hf b hb).2.2.2.2.1, (hf b hb).2.2.2.2.2⟩
end
noncomputable def PTs(X : Cx)(ifs : Ab Ao)(tt : TT) : Prop := ∀(pI : Ab (Ai × AB))(s : Ak)(σ : L2.St)(H : Hp)(Q : An -> Hp -> Prop), Inv X pI σ H s -> tt σ H Q ->
 Ay (model X.prog X.w) X.A (forIn ifs Ac fun c r => if r = Ac then do let ok <-Fh c X.env (eval c X.env);pure (CN ok) else pure (CN r)) (TP X pI σ Q) X.xe s
theorem Q0 : PTs X [] (fun σ H Q => Q Ac H) := fun pI s σ H Q I h => wpAny_tests_nil ⟨H, I, h⟩
theorem QZ{t:TT}(h : PT X c t) : PTs X [c] t := fun pI s σ H Q I q => wpAny_tests_one (h pI s σ H Q I q)
theorem P0{D : Ai}{ys:Ab Ah}{E : Ah -> Ak -> Prop}{Q:Ah -> Ak -> Prop}(I : Inv X ((D, { cls := .type "list", data := .seq ys.toArray n })::pI) σ H s)(hD : X.s₀.heap.objs.size <= D)(hp : ∀ p ∈ X.pn++pI, p.1 ≠ D)(hc : ∀ x c, X.env.cells.lookup x = Aa c -> c ≠ D)(hz : ys.length <= sizeLine)(h : ∀ s', Inv X ((D, { cls := .type "list", data := .seq (ys++[y]).toArray (n+1) })::pI) σ H s' -> (∀ b o, b ≠ D -> s.heap.get? b = Aa o -> s'.heap.get? b = Aa o) -> Q .none s') : Ay (model X.prog X.w) X.A (call (.builtin "list.append") [.ref D, y]) Q E s := by
 obtain⟨e, hn, hL, hfs, _⟩ := I.pin (D, { cls := .type "list", data := .seq ys.toArray n }) (AW _ Au);refine append_at (hsz := by rw[AE];exact hz) e fun h' hs hd => ?_
 have hd' : h'.get? D = Aa { cls := .type "list", data := .seq (ys++[y]).toArray (n+1) } := by rw[hd];simp
 have kb : ∀ b o, b ≠ D -> s.heap.get? b = Aa o -> h'.get? b = Aa o := fun b o hb q => (hs.2 b hb).trans q
 have I0 : Inv X pI σ H s := I.pins_of fun p hp => I.pin p (AW _ (Ar _ hp))
 have I1 : Inv X pI σ H {s with heap := h'} := I0.turned (t' := s.toks) kb hn hL (.inr hD) hc hp
 refine h _ (I1.pins_of fun p hp => ?_) kb
 rcases AQ.mp hp with rfl|hp
 ·exact⟨hd', hn, hL, hfs, fun v z => by
   have z' : GZ _ _ = GY v := z;cases z'⟩
 ·exact I1.pin p (AW _ hp)
section
variable{prog : AC}{w : AJ}{A : AM}{R : Gr -> Ak -> Prop}{s : Ak}
theorem Pk{target:Ao}{it acc:Ah}(I : Ag -> Ak -> Prop)(turn : ∀ n s, I n s -> Ay (model prog w) A (pyNext it) (fun r s₁ => match r with
      |none => R (.ok .next) s₁
      | some v => Ay (model prog w) A (DX target it v) (fun _ s₁' => Ay (model prog w) A (assign target env v) (fun _ s₂=>
          Ay (model prog w) A (forIn ifs Ac fun c r => if r = Ac then do let ok <-Fh c env (eval c env);pure (CN ok) else pure (CN r)) (fun ok s₃=>
            if ok = Ac then Ay (model prog w) A (eval elt env) (fun x s₄=>
              Ay (model prog w) A (call (.builtin "list.append") [acc, x]) (fun _ s₅ => ∃ m, m<n /\ I m s₅) (Fj (model prog w) A env fun e s' => R (.error e) s') s₄) (Fj (model prog w) A env fun e s' => R (.error e) s') s₃
            else ∃ m, m<n /\ I m s₃) (Fj (model prog w) A env fun e s' => R (.error e) s') s₂) (Fj (model prog w) A env fun e s' => R (.error e) s') s₁') (Fj (model prog w) A env fun e s' => R (.error e) s') s₁) (Fj (model prog w) A env fun e s' => R (.error e) s') s)(n : Ag)(h : I n s):Ec (model prog w) A (.compLoop (.ListComp elt [⟨target,iter,ifs,0⟩] scope pos) 0 it acc env) R s := by
  refine codeAny_loop rfl I (fun n s hI => ?_) n h
  show Ay _ A ((compTurn (.ListComp elt [⟨target, iter, ifs, 0⟩] scope pos) 0 it acc env).onRaise (fun x => do FR x env;theTreesLotGoes x)) _ _ s
  refine wpAny_noted ?_;rw[compTurn_list];refine Aq (FH (Aq (Bz (turn n s hI) (fun r s₁ h₁ => ?_) fun _ _ h' => h')))
  cases r with
  |none => exact AK h₁
  |some v=>
    refine Aq (Bz h₁ (fun _ s₁' h₁' => ?_) fun _ _ h' => h')
    refine Aq (Bz h₁' (fun _ s₂ h₂ => Aq (Bz h₂ (fun ok s₃ h₃ => ?_) fun _ _ h' => h')) fun _ _ h' => h')
    cases ok with
    |false => exact AK ⟨rfl, h₃⟩
    |true=>
      exact Aq (Aq (Bz h₃ (fun x s₄ h₄ => Aq (Bz h₄ (fun _ s₅ h₅ => AK (AK ⟨rfl, h₅⟩)) fun _ _ h' => h')) fun _ _ h' => h'))
end
noncomputable def Hf(J : It)(ts : Ab Ag)(g : TG)(tt : TT)(te : TE)(σ : L2.St)(H : Hp)(Q : VK) : Prop := ∃ W : Ag -> Ag -> Ab V -> L2.St -> Hp -> Prop, (∃ m, W 0 m [] (hideT ts σ) H) /\ ∀ i m xs σ H, W i m xs σ H ->
 (J.stop i H /\ ∀ p, H p = Af -> Q (.ref p) (upd H p (.lst xs))) \/
 (J.go i H /\ xs.length<sizeLine /\ ∀ x H', J.yld i H x H' -> g x σ H' fun σ2 H2 => tt σ2 H2 fun b H3 => if b = Ac then te σ2 H3 fun y H4 => ∃ m', m'<m /\ W (i+1) m' (xs++[y]) σ2 H4 else ∃ m', m'<m /\ W (i+1) m' xs σ2 H3)
theorem Lh{g:TG}{it:Ai}{tn:Ag -> AD -> Prop}{E : Ah -> Ak -> Prop}{RR:Ah -> Ai -> Gr -> Ak -> Prop}(hc : X.calm = Ac)(B : BlockOk X scope N' ts)(I : Inv X pI σ H s)(T : Turn X.prog X.w X.K tg J fp it tn)(st : tn 0 s.heap)(hf : ∀ b ∈ fp, Fb X pI H b)(hcl : ∀ x c, cl.lookup x = Aa c -> X.env.cells.lookup x = Aa c)(hcl2 : ∀ x, (x, Cq) ∈ scope.names -> ∃ c, cl.lookup x = Aa c)(hg : ∀ cl C s H, PG (cxC X scope cl C N' s H fp) tg g)(ht : ∀ cl C s H, PTs (cxC X scope cl C N' s H fp) ifs tt)(he : ∀ cl C s H, PE (cxC X scope cl C N' s H fp) elt te)(h : Hf J ts g tt te σ H Q)(hRR : ∀ cl D C s' H' σ' pins' xs ys n m, Inv (cxC X scope cl C N' s H fp) pins' σ' H' s' -> s'.heap.get? D = Aa { cls := .type "list", data := .seq (DR ys) n } -> H' D = Af -> AR xs ys -> xs.length <= sizeLine -> s.heap.objs.size <= D -> D ≠ C -> s.heap.objs.size <= C -> s'.heap.Ns C m -> Q (.ref D) (upd H' D (.lst xs)) -> RR (.ref D) C (.ok .next) s'):Ay (model X.prog X.w) X.A (newList []) (fun acc s₃ =>Ay (model X.prog X.w) X.A (Fi scope X.env.globals cl [] X.env.qual Af .none (Aa X.env)) (fun cenv s₄=>Ec (model X.prog X.w) X.A (.compStart (.ListComp elt [⟨tg,iter,ifs,0⟩] scope pos) 0 (.ref it) acc {cenv with scope := relabel scope X.env}) (RR acc cenv.locals) s₄) E s₃) E s := by
 refine Ct (Ph ?_);dsimp only;generalize hH2 : s.heap.push { cls := .type "list", dict := Af, data := .seq ([] : Ab Ah).toArray } = H2;have hns₁ : (Ej (H2.push { cls := .type "dict", data := .dict #[] }) scope.names).Ns H2.objs.size (fun _ => Af) := (Heap.Ns.new H2 (.type "dict")).keeps (E2 _ _)
 have hkp₁ : ∀ b o, H2.get? b = Aa o -> (Ej (H2.push { cls := .type "dict", data := .dict #[] }) scope.names).get? b = Aa o := fun b o e => E2 _ _ b o (Aw _ e)
 have hown := IY scope.names (H2.push { cls := .type "dict", data := .dict #[] }) cl;have hinj := IZ scope.names (H2.push { cls := .type "dict", data := .dict #[] }) cl;rw[Dp]at hown hinj;generalize hcl' : B1 (H2.objs.size+1) scope.names cl = cl' at hown hinj;have hcf : ∀ x, (x, Be) ∉ scope.names -> cl'.lookup x = cl.lookup x := fun x hx => by rw[<-hcl'];exact Jo _ _ _ x hx
 have hch : ∀ x, (x, Be) ∈ scope.names -> ∃ c, cl'.lookup x = Aa c /\ H2.objs.size+1 <= c := fun x hx => by rw[<-hcl'];exact Ja _ _ _ _ x (AG _) (.inl hx)
 generalize hh₁ : Ej (H2.push { cls := .type "dict", data := .dict #[] }) scope.names = h₁ at hns₁ hkp₁ hown;have hC : H2.objs.size = s.heap.objs.size+1 := by rw[<-hH2, Dp]
 have hCle : s.heap.objs.size <= H2.objs.size := by rw[hC];exact Nat.le_succ _
 have hDC : s.heap.objs.size ≠ H2.objs.size := by rw[hC];exact Bw (Oo _)
 have below : ∀ b, b<s.heap.objs.size -> b ≠ H2.objs.size := fun b hb => by rw[hC];exact Bw (Ez hb)
 have old : ∀ b o, s.heap.get? b = Aa o -> h₁.get? b = Aa o := fun b o e => hkp₁ b o (hH2 ▸ Aw _ e)
 have hacc : h₁.get? s.heap.objs.size = Aa { cls := .type "list", data := .seq ([] : Ab Ah).toArray 0 } := hkp₁ _ _ (hH2 ▸ Ba _ rfl);have clt : ∀ x c, cl.lookup x = Aa c -> c<s.heap.objs.size := fun x c e => by
  obtain⟨v, q⟩ := I.cell x c (hcl x c e);exact q.lt
 have bc : BCells X scope cl' H2.objs.size h₁ := by
  refine⟨fun x c e => ?_, hinj (fun x y c e1 e2 => I.ok.inj x y c (hcl x c e1) (hcl y c e2)) (fun x c e => Ez (Av (clt x c e) hCle)), fun x hx => ?_, fun x hx => ?_⟩
  ·rcases hown x c e with q|⟨q1, q2, q3⟩
   ·exact .inl (hcl x c q)
   ·exact .inr ⟨B.uniq _ q1, q2, q3⟩
  ·have hm := BB hx;obtain⟨c, e, hc⟩ := hch x hm;exact⟨c, e, hc⟩
  ·have hno : (x, Be) ∉ scope.names := fun z => by
    have e1 := B.uniq _ hx;have e2 := B.uniq _ z;rw[show scope.names.lookup x = _ from e1]at e2
    cases e2
   obtain⟨c, e⟩ := hcl2 x hx;exact⟨c, by rw[hcf x hno];exact e, hcl x c e⟩
 have hfo : ∀ b ∈ fp, b<s.heap.objs.size := fun b hb => by
  obtain⟨o, e, _⟩ := T.obj 0 _ st b hb;exact Az e
 generalize hD : s.heap.objs.size = D at *;generalize hC' : H2.objs.size = C at *;have I0 : Inv (cxC X scope cl' C N' s H fp) [] (hideT ts σ) H {s with heap := h₁, toks := s.toks+([] : Ab (Aj × Ah)).length} := Pi (tk := s.toks+([] : Ab (Aj × Ah)).length) I B hf (fun b hb => by rw[hD];exact hfo b hb) bc old (by rw[hD];exact hCle) hns₁
 have nD : H D = Af := I.hok.fresh (by rw[hD];exact AG _)
 have noD : ∀ b ∈ fp, b ≠ D := fun b hb => Bw (hfo b hb)
 have noC : ∀ b ∈ fp, b ≠ C := fun b hb => below b (hfo b hb)
 have stfs : D ∉ frs X.stack := fun z => by
  obtain⟨_, o, ho, _⟩ := I.stack.mem z;exact absurd (Az ho) (by rw[hD];exact A7 _)
 have cD : ∀ x c, cl'.lookup x = Aa c -> c ≠ D := fun x c e z => by
  rcases bc.own x c e with q|⟨_, q, _⟩
  ·obtain⟨v, q⟩ := I.cell x c q;exact absurd q.lt (by rw[z, hD];exact A7 _)
  ·rw[z]at q;exact absurd (Av q hCle) (A7 _)
 have I1 : Inv (cxC X scope cl' C N' s H fp) [(D, { cls := .type "list", data := .seq ([] : Ab Ah).toArray 0 })] (hideT ts σ) H {s with heap := h₁, toks := s.toks+([] : Ab (Aj × Ah)).length} := I0.pins_of fun p hp => by
  have e := Bh.mp hp;subst e;exact⟨hacc, nD, hDC, stfs, fun v z => by
   have z' : GZ _ _ = GY v := z;cases z'⟩
 have st1 : tn 0 h₁ := T.keep _ _ _ st fun b _ o e => old b o e
 obtain⟨W, ⟨m0, w0⟩, turn⟩ := h;have fpk : ∀{pl : Ab (Ai × AB)}{H' : Hp}, (∀ p ∈ pl, p.1 = D) -> (∀ b ∈ fp, H' b = Af) -> ∀ b ∈ fp, Fb (cxC X scope cl' C N' s H fp) pl H' b := fun {pl H'} hp hn b hb=>
  ⟨hn b hb, noC b hb, fun z => by
   rcases AQ.mp (I.stkSub b z) with e|e
   ·exact(hf b hb).2.1 e
   ·exact(hf b hb).2.2.1 e, .inl hb, fun x c e => (bc.own x c e).elim ((hf b hb).2.2.2.2.1 x c) (fun z q => absurd (Nat.lt_of_le_of_lt hCle z.2.1) (Os.mpr (by rw[q];exact DS (hfo b hb)))), fun p hp' => by
   have hp2 : p ∈ pl := hp';rw[hp p hp2];exact(noD b hb).symm⟩
 have loop : ∀ s₃ : Ak, s₃ = {s with heap := h₁, toks := s.toks+([] : Ab (Aj × Ah)).length} ->
   Ec (model X.prog X.w) X.A (.compLoop (.ListComp elt [⟨tg, iter, ifs, 0⟩] scope pos) 0 (.ref it) (.ref D) (compEnvC scope cl' C X.env)) (RR (.ref D) C) s₃ := by
  rintro s₃ rfl;refine Pk (fun k s' => ∃ i σ' H' xs ys n, Inv (cxC X scope cl' C N' s H fp) [(D, { cls := .type "list", data := .seq (DR ys) n })] σ' H' s' /\ tn i s'.heap /\ (∀ b ∈ fp, H' b = Af) /\ AR xs ys /\ xs.length <= sizeLine /\ W i k xs σ' H') ?_ m0
   ⟨0, _, H, [], [], 0, I1, st1, fun b hb => (hf b hb).1, .nil, F5 _, w0⟩
  rintro k s' ⟨i, σ', H', xs, ys, n, I', st', fr', rv, hz, w'⟩;have one : ∀ p ∈ [((D, { cls := .type "list", data := .seq (DR ys) n }) : Ai × AB)], p.1 = D := fun p hp => by rw[Bh.mp hp]
  rcases turn i k xs σ' H' w' with ⟨stop, q⟩|⟨go, hlt, step⟩
  ·refine Bz (T.done (cxC X scope cl' C N' s H fp) rfl rfl rfl hc i _ s' σ' H' (fun _ _ => AX) I' (fpk one fr') st' stop) (fun r s1 ⟨hr, J1⟩ => ?_) fun _ _ f => f.elim
   subst hr;obtain⟨e, hn, _⟩ := J1.pin _ (AW _ Au);obtain⟨m, hm, _⟩ := J1.loc;exact hRR cl' D C s1 H' σ' _ xs ys n m J1 e hn rv hz (AG _) hDC hCle hm (q D hn)
  ·refine Bz (T.item (cxC X scope cl' C N' s H fp) rfl rfl rfl hc i _ s' σ' H' (fun _ _ => AX) I' (fpk one fr') st' go) (fun r s1 ⟨u, hr, h4⟩ => ?_) fun _ _ f => f.elim
   subst hr;refine Bz h4 (fun _ s5 ⟨x, H5, I5, r5, y5, st5, fr5⟩ => ?_) fun _ _ f => f.elim
   have I5' := I5.pinned (fpk one fr5) (T.obj _ _ st5);refine Bz (hg cl' C s H _ s5 σ' H5 x u _ I5' r5 (step x H5 y5)) (fun _ s6 ⟨σ6, H6, I6, q6⟩ => ?_) fun _ _ f => f.elim
   refine Bz (ht cl' C s H _ s6 σ6 H6 _ I6 q6) (fun ok s7 ⟨H7, I7, q7⟩ => ?_) fun _ _ f => f.elim
   have again : ∀{s8 : Ak}{H8 : Hp}{ys' : Ab Ah}{n' : Ag}, Inv (cxC X scope cl' C N' s H fp) ((D, { cls := .type "list", data := .seq (DR ys') n' })::Ge fp s5.heap) σ6 H8 s8 -> Inv (cxC X scope cl' C N' s H fp) [(D, { cls := .type "list", data := .seq (DR ys') n' })] σ6 H8 s8 /\ tn (i+1) s8.heap /\ ∀ b ∈ fp, H8 b = Af := fun {s8 H8 ys' n'} I8=>
    ⟨I8.pins_of fun p hp => I8.pin p (AW _ (by rw[Bh.mp hp];exact Au)), T.keep _ _ _ st5 fun b hb o e => (I8.pin (b, o) (AW _ (Ar _ (HG hb e)))).1, fun b hb => by
     obtain⟨o, e, d⟩ := T.obj _ _ st5 b hb;exact(I8.pin (b, o) (AW _ (Ar _ (HG hb e)))).2.1⟩
   cases ok with
   |false=>
    rw[AH (by decide)]at q7
    obtain⟨m', hm, w7⟩ := q7;obtain⟨a1, a2, a3⟩ := again I7;rw[AH (by decide)]
    exact⟨m', hm, i+1, σ6, H7, xs, ys, n, a1, a2, a3, rv, hz, w7⟩
   |true=>
    rw[AF rfl]at q7;rw[AF rfl];refine Bz (he cl' C s H _ s7 σ6 H7 _ I7 q7) (fun val s8 ⟨y, H8, I8, r8, m', hm, w8⟩ => ?_) fun _ _ f => f.elim
    have hl := rv.length;refine P0 (X := cxC X scope cl' C N' s H fp) (ys := ys) (n := n) (pI := Ge fp s5.heap) I8 (by show s.heap.objs.size <= D;rw[hD];exact AG _) (fun p hp => ?_) cD (by omega) fun s9 I9 kb => ?_
    ·have hp2 : p ∈ Ge fp s5.heap := hp;exact noD _ (KM hp2).1
    ·obtain⟨a1, a2, a3⟩ := again I9;exact⟨m', hm, i+1, σ6, H8, xs++[y], ys++[val], n+1, a1, a2, a3, rv.append (.cons r8 .nil), by rw[Ci];exact hlt, w8⟩
 exact codeAny_compStart_list (loop _ rfl) (T.self _ 0 _ _ _ st1 (loop _ rfl))
theorem Sv{g:TG}(hc : X.calm = Ac)(B : BlockOk X scope N' ts)(hi : PI X tg iter wi)(hg : ∀ cl C s H fp, PG (cxC X scope cl C N' s H fp) tg g)(ht : ∀ cl C s H fp, PTs (cxC X scope cl C N' s H fp) ifs tt)(he : ∀ cl C s H fp, PE (cxC X scope cl C N' s H fp) elt te)(hs : ∀ x, BP iter X.env x = pure x):PE X (.ListComp elt [⟨tg,iter,ifs,0⟩] scope pos) (fun σ H Q =>wi σ H fun J H1 =>Hf J ts g tt te σ H1 Q) := by
 intro pI s σ H Q I h;obtain⟨cl, hclos, hcl, hcl2⟩ := K8 (scope := scope) (env := X.env) fun x hx hk => I.ok.has x.1 ((B.free x hx hk).imp id id)
 rw[eval_ListComp];refine O1 (use := Af) rfl hs hclos B.kind B.names (thn (hi pI s σ H _ I h) fun v s1 h1 => thn h1 fun itv s2 h2 => ?_)
 obtain⟨it, fp, tn, J, H2, e, I2, T, st2, f2, h3⟩ := h2;subst e;refine Lh (RR := fun acc C => compPost (model X.prog X.w) X.A X.xe Af (EP X pI σ Q) acc C) hc B I2 T st2 f2 hcl hcl2 (fun cl C s H => hg cl C s H fp) (fun cl C s H => ht cl C s H fp) (fun cl C s H => he cl C s H fp) h3 fun cl' D C s' H' σ' pins' xs ys n m I' hd hDn rv hz hD hDC hC hm q => ?_
 exact⟨m, hm, fun h'' hs'' => ⟨.ref D, _, LA I2 f2 I' hD hDC hC hd hDn rv hz hs'', rfl, q⟩⟩
theorem So{n:Aj}{g:TG}(hc : X.calm = Ac)(B : BlockOk X scope N' ts)(hi : PI X tg iter wi)(hg : ∀ cl C s H fp, PG (cxC X scope cl C N' s H fp) tg g)(ht : ∀ cl C s H fp, PTs (cxC X scope cl C N' s H fp) ifs tt)(he : ∀ cl C s H fp, PE (cxC X scope cl C N' s H fp) elt te)(hs : ∀ x, BP iter X.env x = pure x)(hN : X.N.Nodup)(hni : X.N[i]? = Aa n)(hx : X.env.scope.names.lookup n = Aa .local)(hsw : CA (.ListComp elt [⟨tg, iter, ifs, 0⟩] scope pos) (Aa (.Name n pos')) pos2.line X.env = pure Ac):PS X (.Assign [.Name n pos'] (.ListComp elt [⟨tg,iter,ifs,0⟩] scope pos) pos2) (Ir (fun σ H Q =>wi σ H fun J H1 =>Hf J ts g tt te σ H1 Q) (Ew i)) := by
 intro pI s σ H Dn I h;obtain⟨cl, hclos, hcl, hcl2⟩ := K8 (scope := scope) (env := X.env) fun x hx hk => I.ok.has x.1 ((B.free x hx hk).imp id id)
 rw[exec_Assign_Name_used _ _ _ _ hsw];refine Aq (FH (Aq ?_));show Ay _ X.A (do let _ <-comprehension (.ListComp elt [⟨tg, iter, ifs, 0⟩] scope pos) scope X.env _ (newList []) Ad (eval iter X.env) (Aa (assign (.Name n pos') X.env))) _ _ s
 refine Aq (Bz (O1 (use := Aa (assign (.Name n pos') X.env)) (Q := fun _ s' => SP X pI Dn .next s') rfl hs hclos B.kind B.names
  (thn (hi pI s σ H _ I h) fun v s1 h1 => thn h1 fun itv s2 h2 => ?_)) (fun _ s' hq => AK (AK hq)) fun _ _ e => e)
 obtain⟨it, fp, tn, J, H2, e, I2, T, st2, f2, h3⟩ := h2;subst e;refine Lh (RR := fun acc C => compPost (model X.prog X.w) X.A X.xe (Aa (assign (.Name n pos') X.env)) (fun _ s' => SP X pI Dn .next s') acc C) hc B I2 T st2 f2 hcl hcl2 (fun cl C s H => hg cl C s H fp) (fun cl C s H => ht cl C s H fp) (fun cl C s H => he cl C s H fp) h3 fun cl' D C s' H' σ' pins' xs ys n' m I' hd hDn rv hz hD hDC hC hm q => ?_
 have J0 : Inv X pI σ (upd H' D (.lst xs)) s' := LA I2 f2 I' hD hDC hC hd hDn rv hz (Heap.SameBut.refl ..);refine OZ (KS J0 hN hni (.inl hx) (show A4 (.ref D) (.ref D) from rfl) (fun s'' J1 ⟨a, sb, ha⟩ => ?_) (.inr hx))
 have hC0 : X.s₀.heap.objs.size <= C := BL I2.sz hC;have hL : C ≠ X.env.locals := fun z => absurd (Av I2.lt (z ▸ hC)) (A7 _)
 have hcC : ∀ x c, X.env.cells.lookup x = Aa c -> c ≠ C := fun x c e z => by
  obtain⟨v, q'⟩ := I2.cell x c e;exact absurd (Av q'.lt (by rw[z];exact hC)) (A7 _)
 have hp : ∀ p ∈ X.pn++pI, p.1 ≠ C := fun p hp z => absurd (Av (Az (I2.pin p hp).1) (by rw[z];exact hC)) (A7 _)
 have hCn : upd H' D (.lst xs) C = Af := by rw[B8 hDC.symm];exact I'.free
 have hCa : C ≠ a := by
  rcases ha with rfl|ha
  ·exact hL
  ·exact fun z => hcC n a ha z.symm
 refine⟨m, hm.sameBut sb hCa, fun h'' hs'' => ⟨_, _, J1.turned (t' := s''.toks) (fun b o hb e => (hs''.2 b hb).trans e) hCn hL (.inr hC0) hcC hp, q⟩⟩
theorem Jj : ∀(ts : Ab Ag)(ρ : Rho)(j : Ag), (DZ ts ρ)[j]? = if j ∈ ts then (ρ[j]?).map (fun _ => Af) else ρ[j]?
 |[], ρ, j => by simp[DZ]
 |t::ts, ρ, j => by
  show (DZ ts (ρ.set t Af))[j]? = _;rw[Jj ts];by_cases h1 : j ∈ ts
  ·rw[AF h1, AF (Ar _ h1)];by_cases h2 : t = j
   ·subst h2;rw[Dq];cases ρ[t]? <;> rfl
   ·rw[BZ h2]
  ·rw[AH h1];by_cases h2 : t = j
   ·subst h2;rw[AF Au, Dq];cases ρ[t]? <;> rfl
   ·rw[BZ h2, AH (by simp only[AQ, Hx];exact⟨fun z => h2 z.symm, h1⟩)]
theorem Ji : ∀(ts : Ab Ag)(ρ : Rho), (DZ ts ρ).length = ρ.length
 |[], _ => rfl
 |t::ts, ρ => by show (DZ ts (ρ.set t Af)).length = _;rw[Ji ts, AZ]
theorem Jl : ∀(ts : Ab Ag)(σ : L2.St){i : Ag}, i ∉ ts -> (hideT ts σ)[i]? = σ[i]?
 |[], _, _, _ => rfl
 |t::ts, σ, i, h => by
  simp only[AQ, Hx]at h;show (hideT ts (σ.set t Af))[i]? = _;rw[Jl ts _ h.2, BZ (fun z => h.1 z.symm)]
section
variable{K : Fg}{CL : ClA}{A : Ai -> Prop}{ρ ρ' : Rho}{σ : L2.St}{H : Hp}
theorem Good.less(g : Good K CL A ρ σ H)(hl : ρ'.length = ρ.length)(h : ∀(i : Ag)(d : D)(o : An), ρ'[i]? = Aa (Aa (d, o)) -> ρ[i]? = Aa (Aa (d, o))) : Good K CL A ρ' σ H := ⟨fun i d e => g.sh i d (h i d Ad e), fun i d e => g.ow i d (h i d Ac e), hl.trans g.len⟩
theorem Good.put(g : Good K CL A ρ σ H)(t : Ag)(r : Rep K CL H A v d) : Good K CL A (ρ.set t (Aa (d, Ad))) (σ.set t (Aa v)) H := by
 refine⟨fun j e h => ?_, fun j e h => ?_, by rw[AZ, AZ];exact g.len⟩
 ·by_cases hj : t = j
  ·subst hj;have e1 := ER h;cases e1;have hl : t<σ.length := by
    rw[<-g.len];have := (AU.mp h).1;simpa using this
   exact⟨v, by rw[Bq hl], r⟩
  ·rw[BZ hj]at h;obtain⟨w', q, rw'⟩ := g.sh j e h;exact⟨w', by rw[BZ hj];exact q, rw'⟩
 ·have hj : t ≠ j := by
   rintro rfl;have := ER h;cases this
  rw[BZ hj]at h;obtain⟨a, xs, q, z⟩ := g.ow j e h;exact⟨a, xs, by rw[BZ hj];exact q, z⟩
theorem Good.hide(g : Good K CL A ρ σ H)(ts : Ab Ag) : Good K CL A (DZ ts ρ) σ H := g.less (Ji _ _) fun i d o e => by
 rw[Jj]at e;split at e
 ·cases q : ρ[i]? with
  |none => rw[q]at e;cases e
  |some x => rw[q]at e;cases e
 ·exact e
theorem Good.hideT(g : Good K CL A ρ σ H)(ts : Ab Ag) : Good K CL A (DZ ts ρ) (hideT ts σ) H := by
 have key : ∀ i x, (DZ ts ρ)[i]? = Aa (Aa x) -> ρ[i]? = Aa (Aa x) /\ i ∉ ts := fun i x e => by
  rw[Jj]at e;split at e
  ·cases q : ρ[i]? with
   |none => rw[q]at e;cases e
   |some x => rw[q]at e;cases e
  ·exact⟨e, by assumption⟩
 refine⟨fun i d e => ?_, fun i d e => ?_, by rw[Ji, Jh];exact g.len⟩
 ·obtain⟨e1, e2⟩ := key i _ e;obtain⟨v, q, r⟩ := g.sh i d e1;exact⟨v, by rw[Jl _ _ e2];exact q, r⟩
 ·obtain⟨e1, e2⟩ := key i _ e;obtain⟨a, xs, q, r⟩ := g.ow i d e1;exact⟨a, xs, by rw[Jl _ _ e2];exact q, r⟩
end
noncomputable def GG(K : Fg)(CL : ClA)(ts : Ab Ag)(as : D -> Rho -> R Rho)(g : TG) : Prop := ∀ A ρ σ H v d ρ' Q, Good K CL A (DZ ts ρ) σ H -> Rep K CL H A v d -> as d ρ = .ok ρ' -> (∀ σ', Good K CL A ρ' σ' H -> Good K CL A (DZ ts ρ) σ' H -> Q σ' H) -> g v σ H Q
theorem R9(i : Ag) : GG K CL [i] (fun d ρ => .ok (ρ.set i (Aa (d, Ad)))) (Ew i) := fun A ρ σ H v d ρ' Q g r e k => by
 cases e;have g2 := g.put i r;have e1 : (DZ [i] ρ).set i (Aa (d, Ad)) = ρ.set i (Aa (d, Ad)) := by
  show (ρ.set i Af).set i (Aa (d, Ad)) = _;rw[Ol]
 rw[e1]at g2;refine k _ g2 ?_;have := g2.hide [i];have e2 : DZ [i] (ρ.set i (Aa (d, Ad))) = DZ [i] ρ := by
  show (ρ.set i _).set i Af = ρ.set i Af;rw[Ol]
 rw[e2]at this;exact this
noncomputable abbrev W0 : XW := fun _ _ => AX
noncomputable def STs(X : Cx)(CL : ClA)(ifs : Ab Ao)(f : Rho -> R An) : Prop := ∀ A, PTs X ifs (fun σ H Q => AOk H A /\ ∃ ρ, Good X.K CL A ρ σ H /\ BY W0 H (f ρ) Q)
theorem RP : STs X CL [] (fun _ => .ok Ac) := fun A pI s σ H Q I ⟨hA, ρ, g, p⟩ => Q0 pI s σ H Q I (p H (As.refl H))
theorem RO(h : SB X CL W0 c f) : STs X CL [c] f := fun A pI s σ H Q I q => QZ (h A) pI s σ H Q I q
section
variable{X : Cx}{CL : ClA}{W : XW}{tg iter elt : Ao}{ifs : Ab Ao}{scope : Bx}{pos : AI}{N' : Ab Aj}{ts : Ab Ag}{fi : Rho -> R (Ab D)}{fc : Rho -> R An}{fe : Rho -> R D}{as : D -> Rho -> R Rho}{g : TG}
theorem Pd{g : D -> R An}{f:D -> R D}{x:D}{xs ys:Ab D}(h : Bp g f (x::xs) = .ok ys) : (g x = .ok Ad /\ Bp g f xs = .ok ys) \/ ∃ y r, g x = .ok Ac /\ f x = .ok y /\ Bp g f xs = .ok r /\ ys = y::r := by
 unfold Bp at h;cases e : g x with
 |bad => rw[e]at h;cases h
 |exn z => rw[e]at h;cases h
 |ok b=>
  rw[e, R.bind_ok]at h;cases b with
  |false => exact .inl ⟨rfl, h⟩
  |true=>
   rw[AF rfl]at h;cases e2 : f x with
   |bad => rw[e2]at h;cases h
   |exn z => rw[e2]at h;cases h
   |ok y=>
    rw[e2, R.bind_ok]at h;cases e3 : Bp g f xs with
    |bad => rw[e3]at h;cases h
    |exn z => rw[e3]at h;cases h
    |ok r=>
     rw[e3, R.bind_ok]at h;cases h;exact .inr ⟨y, r, rfl, rfl, rfl, rfl⟩
theorem Ga{β:Type}{r : R α}{f : α -> R β}{b : β}(h : r.bind f = .ok b) : ∃ a, r = .ok a /\ f a = .ok b := by
 cases r with
 |ok a => exact⟨a, rfl, h⟩
 |exn x => cases h
 |bad => cases h
theorem Qq{ds ys : Ab D}(hGG : GG K CL ts as g)(hA : AOk H1 A)(gd : Good K CL A ρ σ H1)(yl : Gp K CL A ds J H1)(hz : ds.length <= sizeLine)(hcp : Bp (fun x => (as x ρ).bind fc) (fun x => (as x ρ).bind fe) ds = .ok ys)(q : ∀ xs H2, As H1 H2 -> Reps K CL H2 A xs ys -> ∀ p, H2 p = Af -> Q (.ref p) (upd H2 p (.lst xs))):Hf J ts g (fun σ H Q =>AOk H A/\∃ ρ,Good K CL A ρ σ H/\BY W0 H (fc ρ) Q) (fun σ H Q =>AOk H A/\∃ ρ,Good K CL A ρ σ H/\AS (fun H =>Rep K CL H A) W0 H (fe ρ) Q) σ H1 Q := by
 refine⟨fun i m xs σ' H' => m = ds.length-i /\ i <= ds.length /\ xs.length <= i /\ As H1 H' /\ Good K CL A (DZ ts ρ) σ' H' /\ ∃ outs rest, Reps K CL H' A xs outs /\ Bp (fun x => (as x ρ).bind fc) (fun x => (as x ρ).bind fe) (ds.drop i) = .ok rest /\ ys = outs++rest,
  ⟨ds.length, by simp, F5 _, AG _, As.refl _, gd.hideT ts, [], ys, trivial, hcp, rfl⟩, ?_⟩
 rintro i m xs σ' H' ⟨rfl, hi, hxl, sm, g', outs, rest, rs, hc, e⟩;obtain⟨yst, ygo⟩ := yl H' (Kp.of sm) i;by_cases hlt : i<ds.length
 ·have hd : ds[i]? = Aa ds[i] := BK hlt;obtain⟨hgo, hyl⟩ := ygo _ hd;refine .inr ⟨hgo, by omega, fun x H2 hx => ?_⟩
  obtain⟨s2, rx⟩ := hyl x H2 hx;have rx' := rx A (fun a ha => .inl ha) (hA.same sm)
  rw[N5 hlt]at hc;have sm2 := sm.trans s2;rcases Pd hc with ⟨h1, h2⟩|⟨y, r, h1, h2, h3, h4⟩
  ·obtain⟨ρ', ea, ec⟩ := Ga h1;refine hGG A ρ σ' H2 x ds[i] ρ' _ (g'.same s2) rx' ea fun σ3 g3 g4 => ⟨hA.same sm2, ρ', g3, ?_⟩
   rw[ec];exact fun H3 s3 => by
    dsimp only;rw[AH (by decide)]
    exact⟨ds.length-(i+1), by omega, rfl, hlt, by omega, sm2.trans s3, g4.same s3, outs, rest, (rs.same s2).same s3, h2, e⟩
  ·obtain⟨ρ', ea, ec⟩ := Ga h1;obtain⟨ρ2, ea2, ee⟩ := Ga h2;rw[ea]at ea2;cases ea2;refine hGG A ρ σ' H2 x ds[i] ρ' _ (g'.same s2) rx' ea fun σ3 g3 g4 => ⟨hA.same sm2, ρ', g3, ?_⟩
   rw[ec];exact fun H3 s3 => by
    dsimp only;rw[AF rfl];refine⟨(hA.same sm2).same s3, ρ', g3.same s3, ?_⟩;rw[ee];exact fun v H4 s4 r4 => ⟨ds.length-(i+1), by omega, rfl, hlt, by rw[Ci, List.length_singleton];omega, (sm2.trans s3).trans s4, (g4.same s3).same s4, outs++[y], r, (((rs.same s2).same s3).same s4).append ⟨r4, trivial⟩, h3, by rw[e, h4];simp⟩
 ·have hk' : ds.length <= i := by omega
  rw[N6 hk']at hc;have hr : rest = [] := by cases hc;rfl
  subst hr;rw[Cm]at e;subst e;exact .inl ⟨yst hk', fun p hp => q xs H' sm rs p hp⟩
theorem Du.ok_of{r:R (Ab D)}{f:Ab D -> R D}{Q':It -> Hp -> Prop}(h : AS Rq W H (r.bind f) Q)(k : ∀ ds J H', r = .ok ds -> As H H' -> Gp K CL A ds J H' -> ds.length <= sizeLine -> AS Rq W H' (f ds) Q -> Q' J H') : Du K CL A W H r Q' := by
 cases r with
 |ok d => exact fun J H2 s2 y z => k d J H2 rfl s2 y z (AS.same s2 h)
 |exn x => exact h
 |bad => exact h
theorem Tu{r : R α}{a : α}(h : noX r = .ok a) : r = .ok a := by
 cases r with
 |ok b => exact h
 |exn x => cases h
 |bad => cases h
theorem Lz(hGG : GG X.K CL ts as g)(hA : AOk H A)(gd : Good X.K CL A ρ σ H)(p : AS (CW X.K CL Ac H A) W H ((fi ρ).bind fun xs => (noX (Bp (fun x => (as x ρ).bind fc) (fun x => (as x ρ).bind fe) xs)).bind fun ys => .ok (.lst ys)) Q):Du X.K CL A W H (fi ρ) (fun J H1 =>Hf J ts g (fun σ H Q =>AOk H A/\∃ ρ,Good X.K CL A ρ σ H/\BY W0 H (fc ρ) Q) (fun σ H Q =>AOk H A/\∃ ρ,Good X.K CL A ρ σ H/\AS (fun H =>Rep X.K CL H A) W0 H (fe ρ) Q) σ H1 Q):=
 Du.ok_of p fun ds J H1 e1 s1 yl hz p1 => by
  cases e2 : noX (Bp (fun x => (as x ρ).bind fc) (fun x => (as x ρ).bind fe) ds) with
  |ok ys=>
   rw[e2]at p1;exact Qq hGG (hA.same s1) (gd.same s1) yl hz (Tu e2) fun xs H2 s2 rs q hq => p1 _ _ (s2.trans (Ed hq _)) (Gz (s1.trans s2) ((hA.same s1).same s2) hq rs)
  |exn x => rw[e2]at p1;cases hq : Bp (fun x => (as x ρ).bind fc) (fun x => (as x ρ).bind fe) ds <;> rw[hq]at e2 <;> cases e2
  |bad => rw[e2]at p1;exact p1.elim
theorem Ri(hc : X.calm = Ac)(B : BlockOk X scope N' ts)(hi : SI X CL W tg iter fi)(hGG : GG X.K CL ts as g)(hg : ∀ cl C s H fp, PG (cxC X scope cl C N' s H fp) tg g)(ht : ∀ cl C s H fp, STs (cxC X scope cl C N' s H fp) CL ifs fc)(he : ∀ cl C s H fp, SE (cxC X scope cl C N' s H fp) CL W0 elt fe)(hs : ∀ x, BP iter X.env x = pure x) : SC X CL W Ac (.ListComp elt [⟨tg, iter, ifs, 0⟩] scope pos) (fun ρ => (fi ρ).bind fun xs => (noX (Bp (fun x => (as x ρ).bind fc) (fun x => (as x ρ).bind fe) xs)).bind fun ys => .ok (.lst ys)) := fun A pI s σ H Q I ⟨hA, ρ, gd, p⟩=>
 Sv hc B (hi A) hg (fun cl C s H fp => ht cl C s H fp A) (fun cl C s H fp => he cl C s H fp A) hs pI s σ H Q I ⟨hA, ρ, gd, Lz hGG hA gd p⟩
end
section
variable{K : Fg}{CL : ClA}{Fz : Ai -> HO -> Prop}{B : Ai -> Prop}{ρ : Rho}{σ : L2.St}{H H' : Hp}
theorem BS.rep(h : BS K CL H A a o d)(na : ¬ A' a)(hh : H a = Aa o)(sub : ∀ b, A' b -> A b) : Rep K CL H A' (.ref a) d := by
 rcases h with ⟨xs, ds, rfl, rfl, r⟩|⟨es, ds, rfl, rfl, r⟩
 ·exact⟨a, xs, rfl, .inl na, SqL.of hh, Reps.sub sub _ r⟩
 ·exact⟨a, es, rfl, na, hh, Repk.sub sub _ r⟩
theorem Sx.setO(x : Sx K CL Fz B ρ σ H)(s : As H H'){u:HO}(h0 : H a = Af)(h1 : H' a = Aa u)(r : BS K CL H' (fun b => Bt B ρ σ b \/ b = a) a u d) : Sx K CL Fz B (ρ.set i (Aa (d, Ac))) (σ.set i (Aa (.ref a))) H' := by
 have nA : ¬ Bt B ρ σ a := x.aok.new h0;have own : ∀(j : Ag)(e : D), (ρ.set i (Aa (d, Ac)))[j]? = Aa (Aa (e, Ac)) -> (i = j /\ e = d) \/ (i ≠ j /\ ρ[j]? = Aa (Aa (e, Ac))) := fun j e h => by
  by_cases hj : i = j
  ·subst hj;have := ER h;cases this;exact .inl ⟨rfl, rfl⟩
  ·exact .inr ⟨hj, by rw[BZ hj]at h;exact h⟩
 have atI : ∀{j : Ag}{y : Sl}, (ρ.set i (Aa (d, Ac)))[j]? = Aa y -> i = j -> (σ.set i (Aa (.ref a)))[j]? = Aa (Aa (.ref a)) := fun {j y} h e => by
  subst e;have hl : i<σ.length := by
   rw[<-x.len];have := (AU.mp h).1;simpa using this
  rw[Bq hl]
 have sub : ∀ b, Bt B (ρ.set i (Aa (d, Ac))) (σ.set i (Aa (.ref a))) b -> Bt B ρ σ b \/ b = a := fun b h => by
  rcases h with h|⟨j, e, h1, h2⟩
  ·exact .inl (.inl h)
  ·rcases own j e h1 with ⟨hj, _⟩|⟨hj, h1'⟩
   ·rw[atI h1 hj]at h2;cases h2;exact .inr rfl
   ·rw[BZ hj]at h2;exact .inl (.inr ⟨j, e, h1', h2⟩)
 have wide : ∀{v : V}{e : D}, Rep K CL H (Bt B ρ σ) v e -> Rep K CL H' (Bt B (ρ.set i (Aa (d, Ac))) (σ.set i (Aa (.ref a)))) v e := fun r => (Rep.wide (fun b hb => (sub b hb).imp id fun e => by rw[e];exact h0) _ r).same s
 have wides : ∀{b : Ai}{o : HO}{e : D}, BS K CL H (Bt B ρ σ) b o e -> BS K CL H' (Bt B (ρ.set i (Aa (d, Ac))) (σ.set i (Aa (.ref a)))) b o e := fun r => (r.wide (fun b hb => (sub b hb).imp id fun e => by rw[e];exact h0)).same s
 refine⟨⟨fun j e h => ?_, fun j e h => ?_, by rw[AZ, AZ];exact x.len⟩, fun b h => ?_, fun j e b g1 g2 => ?_, fun j k e f b g1 g2 g3 g4 => ?_, fun b o z => s _ _ (x.same b o z), by rw[AZ, AZ];exact x.len⟩
 ·have hj : i ≠ j := by
   rintro rfl;have := ER h;cases this
  rw[BZ hj]at h;obtain⟨w', q, rw'⟩ := x.good.sh j e h;exact⟨w', by rw[BZ hj];exact q, wide rw'⟩
 ·rcases own j e h with ⟨hj, rfl⟩|⟨hj, h'⟩
  ·have q := atI h hj;exact⟨a, u, q, .inr ⟨j, _, h, q⟩, h1, r.sub sub⟩
  ·obtain⟨b, o, q, ha, hh, rr⟩ := x.good.ow j e h';have q' : (σ.set i (Aa (.ref a)))[j]? = Aa (Aa (.ref b)) := by rw[BZ hj];exact q
   exact⟨b, o, q', .inr ⟨j, e, h, q'⟩, s _ _ hh, wides rr⟩
 ·rcases sub b h with z|z
  ·obtain⟨ys, q, w⟩ := x.aok b z;exact⟨ys, s _ _ q, w⟩
  ·rw[z];exact⟨u, h1, r.owk⟩
 ·rcases own j e g1 with ⟨hj, _⟩|⟨hj, h'⟩
  ·rw[atI g1 hj]at g2;cases g2;refine⟨fun o z => ?_, fun z => nA (.inl z)⟩
   have := x.same a o z;rw[h0]at this;cases this
  ·rw[BZ hj]at g2;exact x.new j e b h' g2
 ·rcases own j e g1 with ⟨hj, _⟩|⟨hj, h'⟩
  ·rw[atI g1 hj]at g3;cases g3;rcases own k f g2 with ⟨hk, _⟩|⟨hk, h''⟩
   ·exact hj.symm.trans hk
   ·rw[BZ hk]at g4;exact absurd (.inr ⟨k, f, h'', g4⟩) nA
  ·rw[BZ hj]at g3;rcases own k f g2 with ⟨hk, _⟩|⟨hk, h''⟩
   ·rw[atI g2 hk]at g4;cases g4;exact absurd (.inr ⟨j, e, h', g3⟩) nA
   ·rw[BZ hk]at g4;exact x.dis j k e f b h' h'' g3 g4
theorem Sx.setF(x : Sx K CL Fz B ρ σ H)(s : As H H'){ds : Ab D}(h0 : H a = Af)(h1 : H' a = Aa (.lst xs))(r : Reps K CL H' (fun b => Bt B ρ σ b \/ b = a) xs ds) : Sx K CL Fz B (ρ.set i (Aa (.lst ds, Ac))) (σ.set i (Aa (.ref a))) H' := x.setO s h0 h1 (.lst r)
theorem Sx.updO(x : Sx K CL Fz B ρ σ H){u:HO}{d':D}(hi : ρ[i]? = Aa (Aa (d, Ac)))(ha : σ[i]? = Aa (Aa (.ref a)))(r : BS K CL H (Bt B ρ σ) a u d') : Sx K CL Fz B (ρ.set i (Aa (d', Ac))) σ (L2.upd H a u) := by
 have oa : Bt B ρ σ a := .inr ⟨i, d, hi, ha⟩;have hil : i<ρ.length := (AU.mp hi).1;have get : ∀(j : Ag)(e : D), (ρ.set i (Aa (d', Ac)))[j]? = Aa (Aa (e, Ac)) ↔ (i = j /\ e = d') \/ (i ≠ j /\ ρ[j]? = Aa (Aa (e, Ac))) := fun j e => by
  by_cases hj : i = j
  ·subst hj;rw[Bq hil];simp;exact⟨fun z => z.symm, fun z => z.symm⟩
  ·rw[BZ hj];simp[hj]
 have same : ∀ b, Bt B (ρ.set i (Aa (d', Ac))) σ b ↔ Bt B ρ σ b := fun b => by
  constructor
  ·rintro (h|⟨j, e, h1, h2⟩)
   ·exact .inl h
   ·rcases (get j e).mp h1 with ⟨rfl, _⟩|⟨_, h1⟩
    ·exact .inr ⟨i, d, hi, h2⟩
    ·exact .inr ⟨j, e, h1, h2⟩
  ·rintro (h|⟨j, e, h1, h2⟩)
   ·exact .inl h
   ·by_cases hj : i = j
    ·subst hj;exact .inr ⟨i, d', (get i _).mpr (.inl ⟨rfl, rfl⟩), h2⟩
    ·exact .inr ⟨j, e, (get j e).mpr (.inr ⟨hj, h1⟩), h2⟩
 have kp : Kp (Bt B ρ σ) H (L2.upd H a u) := fun b o e na => by
  have hne : b ≠ a := by
   rintro rfl;exact na oa
  rw[B8 hne];exact e
 refine⟨⟨fun j e h => ?_, fun j e h => ?_, by rw[AZ];exact x.len⟩, fun b h => ?_, fun j e b g1 g2 => ?_, fun j k e f b g1 g2 g3 g4 => ?_, fun b o z => ?_, by rw[AZ];exact x.len⟩
 ·have hj : i ≠ j := by
   rintro rfl;have := ER h;cases this
  rw[BZ hj]at h;obtain⟨w', q, rw'⟩ := x.good.sh j e h;exact⟨w', q, Rep.sub (fun b hb => (same b).mp hb) _ (Rep.kp kp _ rw')⟩
 ·rcases (get j e).mp h with ⟨rfl, rfl⟩|⟨hj, h'⟩
  ·exact⟨a, u, ha, (same a).mpr oa, Fu, (r.kp kp).sub fun b hb => (same b).mp hb⟩
  ·obtain⟨b, o, q, hb, hh, rr⟩ := x.good.ow j e h';have hne : b ≠ a := fun z => hj (x.dis i j d e a hi h' ha (z ▸ q))
   exact⟨b, o, q, (same b).mpr hb, by rw[B8 hne];exact hh, (rr.kp kp).sub fun b hb => (same b).mp hb⟩
 ·obtain⟨ys, q, w⟩ := x.aok b ((same b).mp h);by_cases e : b = a
  ·rw[e];exact⟨u, Fu, r.owk⟩
  ·exact⟨ys, by rw[B8 e];exact q, w⟩
 ·rcases (get j e).mp g1 with ⟨rfl, _⟩|⟨_, h'⟩
  ·exact x.new i d b hi g2
  ·exact x.new j e b h' g2
 ·rcases (get j e).mp g1 with ⟨rfl, _⟩|⟨hj, h'⟩
  ·rcases (get k f).mp g2 with ⟨rfl, _⟩|⟨hk, h''⟩
   ·rfl
   ·exact x.dis i k d f b hi h'' g3 g4
  ·rcases (get k f).mp g2 with ⟨rfl, _⟩|⟨hk, h''⟩
   ·exact x.dis j i e d b h' hi g3 g4
   ·exact x.dis j k e f b h' h'' g3 g4
 ·have hne : b ≠ a := fun e => (x.new i d a hi ha).1 o (e ▸ z)
  rw[B8 hne];exact x.same b o z
theorem Sx.upd(x : Sx K CL Fz B ρ σ H){ds : Ab D}(hi : ρ[i]? = Aa (Aa (d, Ac)))(ha : σ[i]? = Aa (Aa (.ref a)))(r : Reps K CL H (Bt B ρ σ) xs ds) : Sx K CL Fz B (ρ.set i (Aa (.lst ds, Ac))) σ (L2.upd H a (.lst xs)) := x.updO hi ha (.lst r)
theorem Sx.rel(x : Sx K CL Fz B ρ σ H)(hi : ρ[i]? = Aa (Aa (d, Ac))) : Sx K CL Fz B (ρ.set i (Aa (d, Ad))) σ H := by
 obtain⟨a, u, q, oa, hh, rr⟩ := x.good.ow i d hi;have own : ∀(j : Ag)(e : D), (ρ.set i (Aa (d, Ad)))[j]? = Aa (Aa (e, Ac)) -> i ≠ j /\ ρ[j]? = Aa (Aa (e, Ac)) := fun j e h => by
  by_cases hj : i = j
  ·subst hj;have := ER h;cases this
  ·exact⟨hj, by rw[BZ hj]at h;exact h⟩
 have sub : ∀ b, Bt B (ρ.set i (Aa (d, Ad))) σ b -> Bt B ρ σ b := fun b h => by
  rcases h with h|⟨j, e, h1, h2⟩
  ·exact .inl h
  ·exact .inr ⟨j, e, (own j e h1).2, h2⟩
 have na : ¬ Bt B (ρ.set i (Aa (d, Ad))) σ a := fun h => by
  rcases h with h|⟨j, e, h1, h2⟩
  ·exact(x.new i _ a hi q).2 h
  ·obtain⟨hj, h1⟩ := own j e h1;exact hj (x.dis i j _ e a hi h1 q h2)
 refine⟨⟨fun j e h => ?_, fun j e h => ?_, by rw[AZ];exact x.len⟩, fun b h => x.aok b (sub b h), fun j e b g1 g2 => x.new j e b (own j e g1).2 g2, fun j k e f b g1 g2 g3 g4 => x.dis j k e f b (own j e g1).2 (own k f g2).2 g3 g4, x.same, by rw[AZ];exact x.len⟩
 ·by_cases hj : i = j
  ·subst hj;have e1 := ER h;cases e1;exact⟨_, q, rr.rep na hh sub⟩
  ·rw[BZ hj]at h;obtain⟨w', q', rw'⟩ := x.good.sh j e h;exact⟨w', q', Rep.sub sub _ rw'⟩
 ·obtain⟨hj, h'⟩ := own j e h;obtain⟨b, o, q', hb, hh', rr'⟩ := x.good.ow j e h';exact⟨b, o, q', .inr ⟨j, e, h, q'⟩, hh', rr'.sub sub⟩
end
section
variable{X : Cx}{CL : ClA}{W : XW}{pos : AI}{e : Ao}{fe : Rho -> R D}{fr : An}
theorem BD.exC{f:D -> O}(x : Sx X.K CL Fz B ρ σ H)(h : BD X.K CL Fz B W (O.of ρ r f) D')(k : ∀ d v H', r = .ok d -> As H H' -> CW X.K CL fr H A H' v d -> Sx X.K CL Fz B ρ σ H' -> BD X.K CL Fz B W (f d) D' -> Q v H') : AS (CW X.K CL fr H A) W H r Q := by
 cases r with
 |ok d => exact fun v H' s r => k d v H' rfl s r (x.grow s) h
 |exn y => exact fun H' s => h H' fun b o z => s _ _ (x.same b o z)
 |bad => exact h
noncomputable def SAs(X : Cx)(CL : ClA)(W : XW)(fr : An)(i : Ag)(st : Bc)(f : Rho -> R D) : Prop := ∀ A, PS X st (Ir (fun σ H Q => AOk H A /\ ∃ ρ, Good X.K CL A ρ σ H /\ AS (CW X.K CL fr H A) W H (f ρ) Q) (Ew i))
theorem SC.sas{n:Aj}(hN : X.N.Nodup)(hi : X.N[i]? = Aa n)(hx : Loc X.env.scope n)(he : SC X CL W fr e fe)(hs : CA e (Aa (.Name n pos')) pos.line X.env = pure Ad)(hf : X.fn n = Ac \/ X.env.scope.names.lookup n = Aa .local) : SAs X CL W fr i (.Assign [.Name n pos'] e pos) fe:=
 fun A => Mz hN hi hx (he A) hs hf
theorem P6{n:Aj}{fe:Rho -> R D}{g:TG}(hc : X.calm = Ac)(B : BlockOk X scope N' ts)(hi : SI X CL W tg iter fi)(hGG : GG X.K CL ts as g)(hg : ∀ cl C s H fp, PG (cxC X scope cl C N' s H fp) tg g)(ht : ∀ cl C s H fp, STs (cxC X scope cl C N' s H fp) CL ifs fc)(he : ∀ cl C s H fp, SE (cxC X scope cl C N' s H fp) CL W0 elt fe)(hs : ∀ x, BP iter X.env x = pure x)(hN : X.N.Nodup)(hni : X.N[i]? = Aa n)(hx : X.env.scope.names.lookup n = Aa .local)(hsw : CA (.ListComp elt [⟨tg, iter, ifs, 0⟩] scope pos) (Aa (.Name n pos')) pos2.line X.env = pure Ac):SAs X CL W Ac i (.Assign [.Name n pos'] (.ListComp elt [⟨tg,iter,ifs,0⟩] scope pos) pos2) (fun ρ =>(fi ρ).bind fun xs =>(noX (Bp (fun x =>(as x ρ).bind fc) (fun x =>(as x ρ).bind fe) xs)).bind fun ys =>.ok (.lst ys)) := fun A pI s σ H Dn I ⟨hA, ρ, gd, p⟩=>
 So hc B (hi A) hg (fun cl C s H fp => ht cl C s H fp A) (fun cl C s H fp => he cl C s H fp A) hs hN hni hx hsw pI s σ H Dn I ⟨hA, ρ, gd, Lz hGG hA gd p⟩
theorem Mu{st : Bc}(h : SAs X CL W fr i st fe) : SS X CL W st (fun ρ => O.of ρ (fe ρ) fun d => .next (ρ.set i (Aa (d, Ad)))) := fun Fz B pI s σ H D I ⟨ρ, x, p⟩=>
 h (Bt B ρ σ) pI s σ H D I ⟨x.aok, ρ, x.good, BD.exC x p fun d v H' _ s r x' q => q _ H' (x'.set i r.1)⟩
theorem Q9{st : Bc}(h : SAs X CL W Ac i st fe) : SS X CL W st (fun ρ => O.of ρ (fe ρ) fun d => setF ρ i d) := fun Fz B pI s σ H D I ⟨ρ, x, p⟩=>
 h (Bt B ρ σ) pI s σ H D I ⟨x.aok, ρ, x.good, BD.exC x p fun d v H' _ s r x' q => by
  cases d with
  |lst ds=>
   obtain⟨a, xs, rfl, h0, h1, rs⟩ := r.2 rfl ds rfl;exact q _ H' (x.setF s h0 h1 rs)
  | _ => exact q.elim⟩
theorem Q6(he : SC X CL W Ac e fe) : SS X CL W (.Return (Aa e) pos) (fun ρ => O.of ρ (fe ρ) fun d => .ret d Ac) := fun Fz B pI s σ H D I ⟨ρ, x, p⟩=>
 JM (he (Bt B ρ σ)) pI s σ H D I ⟨x.aok, ρ, x.good, BD.exC x p fun d v H' _ s r x' q => q v H' x'.same (Rep.sub (fun a h => .inl h) _ r.1) fun _ ds e => by
  obtain⟨a, xs, h0, h1, h2, h3⟩ := r.2 rfl ds e;refine⟨a, xs, h0, fun o z => ?_, h2, Reps.sub (fun b hb => hb.imp .inl id) _ h3⟩
  have := x.same a o z;rw[h1]at this;cases this⟩
noncomputable def Kd(ρ : Rho)(i : Ag) : An := match ρ[i]? with
  |some (Aa (_, o)) => o
  |_ => Ad
theorem Q4(he : PE X e (FC i)) : SS X CL W (.Return (Aa e) pos) (fun ρ => O.of ρ (Bg ρ i) fun d => .ret d (Kd ρ i)) := fun Fz B pI s σ H D I ⟨ρ, x, p⟩=>
 JM he pI s σ H D I (by
  dsimp only at p;cases e : Bg ρ i with
  |bad => rw[e]at p;exact p.elim
  |exn z => exact(Lm e).elim
  |ok d=>
   rw[e]at p;obtain⟨o, e⟩ := LX e;have eo : Kd ρ i = o := by unfold Kd;rw[e]
   rw[O.of_ok, eo]at p;cases o with
   |false=>
    obtain⟨v, q, r⟩ := x.good.sh i d e;exact⟨v, q, p v H x.same (Rep.sub (fun a h => .inl h) _ r) fun z => nomatch z⟩
   |true=>
    obtain⟨a, u, q, ha, hh, r⟩ := x.good.ow i d e;obtain⟨n1, n2⟩ := x.new i _ a e q;refine⟨_, q, p _ H x.same (r.rep n2 hh fun a h => .inl h) fun _ ds' e' => ?_⟩
    cases e';obtain⟨xs, rfl, r'⟩ := r.lst_of;exact⟨a, xs, rfl, n1, hh, Reps.sub (fun b hb => hb.elim .inl fun z => z ▸ ha) _ r'⟩)
theorem Sz{ds : Ab D}(h : CG ρ i = .ok ds) : ρ[i]? = Aa (Aa (.lst ds, Ac)) := by
 unfold CG at h;split at h
 ·rename_i e;cases h;exact e
 ·cases h
theorem QH(h : CG ρ i = .exn x) : AX := by
 unfold CG at h;split at h <;> cases h
variable{o : Ao}{i : Ag}{apos cpos : AI}
theorem S0{k:Ao}{fk:Rho -> R Ov.D}(ho : PE X o (FC i))(hk : ST X CL W k fk)(he : SE X CL W e fe)(ha : ∀ v, assign (.Subscript o k spos) X.env v = (do
      let ov <-holding [v] (eval o X.env)
      let iv <-holding [v, ov] (eval k X.env)
      Fk spos
      holding [v, ov, iv] (F2 ov iv v)
      release [v, ov, iv] []))(hs : Ep [.Subscript o k spos] e pos.line X.env = pure Ad)(hw : FG [.Subscript o k spos] e X.env = pure Af)(h1 : (BX [.Subscript o k spos] X.env).map (·.2) = [assign (.Subscript o k spos) X.env]):
    SS X CL W (.Assign [.Subscript o k spos] e pos) (fun ρ => O.of ρ (fe ρ) fun d => O.of ρ (CG ρ i) fun xs => O.of ρ ((fk ρ).bind C2) fun j => match plD xs.length j with
      |some n => .next (ρ.set i (Aa (.lst (xs.set n d), Ac)))
      | none => .bad) := fun Fz B pI s σ H D I ⟨ρ, x, p⟩=>
  MA (he (Bt B ρ σ)) (MB ho (hk (Bt B ρ σ)) Qj ha) hs hw h1 pI s σ H D I ⟨x.aok, ρ, x.good, BD.ex x p fun d v H' _ s rv x' q' => by
    cases e1 : CG ρ i with
    |bad => rw[e1]at q';exact q'.elim
    |exn z => exact(QH e1).elim
    |ok ds=>
      rw[e1, O.of_ok]at q';have hi := Sz e1;obtain⟨a, xs, ds', q, e2, ha, hh, r⟩ := x'.good.owL hi;cases e2;refine⟨_, q, x'.aok, ρ, x'.good, ?_⟩;cases e3 : fk ρ with
      |bad => rw[e3]at q';exact q'.elim
      |exn z => rw[e3]at q';exact fun H2 s2 => q' H2 fun b o z => s2 _ _ (x'.same b o z)
      |ok dk=>
        rw[e3]at q';intro y H2 s2 ry;cases dk with
        |int j=>
          have ey := ry.int_of;subst ey;rw[R.bind_ok, P9, O.of_ok]at q';cases e4 : plD ds.length j with
          |none => rw[e4]at q';exact q'.elim
          |some n=>
            rw[e4]at q';refine⟨a, xs, j, n, rfl, rfl, s2 _ _ hh, ?_, q' _ _ ((x'.grow s2).upd hi q (Reps.set (rv.same s2) n (r.same s2)))⟩;rw[r.length];exact e4
        | _ => exact q'.elim⟩
theorem RQ{rest : Ab Bc}{f:Rho -> O}(i : Ag)(h : SSs X CL W rest f) : SSs X CL W rest (fun ρ => (match ρ[i]? with
   |some (Aa (d, Ac)) => O.next (ρ.set i (Aa (d, Ad)))
   | _ => O.next ρ).seq f) := fun Fz B => PSs.weak (h Fz B) fun D σ H ⟨ρ, x, p⟩ => by
 dsimp only at p;split at p
 ·rename_i d e;exact⟨_, x.rel e, p⟩
 ·exact⟨ρ, x, p⟩
end
section
variable{X : Cx}{pI : Ab (Ai × AB)}{σ : L2.St}{H : Hp}{s : Ak}{a ka : Ai}{k : Ab Ae}{CL : ClA}{A : Ai -> Prop}{es : Ab (Ab Ae × Ai × V)}{kvs : Ab (Ab Ae × D)}
noncomputable def sdD(kvs : Ab (Ab Ae × D))(k : Ab Ae)(d : D) : Ab (Ab Ae × D) := if (kvs.any fun p => p.1==k) = Ac then kvs else Ds kvs k d
theorem PJ{B:AM}{E : Ah -> Ak -> Prop}{v:Ah}{Q:Ah -> Ak -> Prop}(hu : (TK X.prog X.w).room B)(hkey : (TK X.prog X.w).is s.heap k ka)(hm : s.heap.DictOfH (TK X.prog X.w) a ys)(hsz : ys.length <= sizeLine)(q1 : ∀ p, Ei ys k = Aa p -> Q p.2 {s with toks := s.toks+(TK X.prog X.w).draws k})(q2 : Ei ys k = Af -> ∀ h', h'.DictOfH (TK X.prog X.w) a (ys++[(k, ka, v)]) -> DU a s.heap h' -> Q v {s with heap := h', toks := s.toks+(TK X.prog X.w).draws k}):Ay (model X.prog X.w) B (Ff a (.ref ka) v) Q E s := by
 obtain⟨o, es, ep, ho, hc, hd, he, his, hn⟩ := hm;unfold Ff
 try with_reducible refine C5 ?_
 refine Aq ((TK X.prog X.w).pyHash hu hkey ?_);refine Aq (wpAny_dictFind_heap (knd := TK X.prog X.w) (s := {s with toks := s.toks+(TK X.prog X.w).draws k}) hu hkey ho hd he his hn ?_ ?_)
 ·intro hno;have hnot : k ∉ ys.map (·.1) := not_mem_keys_of_get hno;refine Aq (wpAny_rule (Aq (wpAny_updateDictKeys (hz := by have e := size_of_entries he;omega) (s := {s with toks := s.toks+(TK X.prog X.w).draws k}) ho hd (AK (q2 (atKey_none_of_get hno) _ ⟨_, _, ep+1, Cn _ ho (Obj.isFreed_of_dict (OH hd _)),
   hc.mapDictKeys _, OH hd _, ?_, ?_, ?_⟩ (D8 ..))))))
  ·simp[he, Fs]
  ·intro x hx;rcases DO.mp hx with hx|hx
   ·exact(TK X.prog X.w).keeps (his x hx) ho hd (D8 ..)
   ·simp only[Bh]at hx;subst hx;exact(TK X.prog X.w).keeps hkey ho hd (D8 ..)
  ·rw[List.map_append, List.nodup_append];refine⟨hn, by simp, ?_⟩
   intro x hx y hy;simp only[Bm, FL, Bh]at hy;subst hy;exact fun e => hnot (e ▸ hx)
 ·intro j p hj;refine Aq (O2 (s := {s with toks := s.toks+(TK X.prog X.w).draws k}) ho hd ?_)
  have ej : es[j]? = Aa (Fs (TK X.prog X.w) (k, p)) := by
   rw[<-Array.getElem?_toList, he, CQ, hj];rfl
  rw[ej];exact Aq (wpAny_rule (AK (q1 p (atKey_of_get hn hj))))
theorem O9(hd : (a==Cw) = Ad)(v : Ah):MeetsIn X.prog X.w (Builtin.«dict.setdefault» ⟨[.ref a,.ref ka,v],[]⟩) (fun B R s =>(TK X.prog X.w).room B.in1/\∃ k ys,(TK X.prog X.w).is s.heap k ka/\s.heap.DictOfH (TK X.prog X.w) a ys/\ys.length <= sizeLine/\(∀ p,Ei ys k = Aa p->R (.ok (.ret p.2)) {s with toks := s.toks+(TK X.prog X.w).draws k})/\(Ei ys k = Af->∀ h',h'.DictOfH (TK X.prog X.w) a (ys++[(k,ka,v)])->DU a s.heap h'->R (.ok (.ret v)) {s with heap := h',toks := s.toks+(TK X.prog X.w).draws k})):=
 .of_wp fun B R s ⟨hu, k, ys, hkey, hm, hz, h1, h2⟩ => by
  unfold Builtin.«dict.setdefault»;refine Aq ?_;unfold Builtin.Dict.keyAndDefault;refine Aq (wpAny_notOrdered_dict hm.typeIs ?_);show Ay _ _ (pure (a, E1 ka, Aa v)) _ _ s;refine AK ?_;show Ay _ _ (if (a==Cw) = Ac then _ else (Ff a (.ref ka) v >>= _)) _ _ s
  rw[AH (by rw[hd];exact Ap)]
  exact Aq (PJ hu hkey hm hz (fun p hp => AK ⟨p.2, rfl, h1 p hp⟩) fun hn h' hm' hs' => AK ⟨v, rfl, h2 hn h' hm' hs'⟩)
theorem Uz{x:V}{v:Ah}{E : Ah -> Ak -> Prop}(hu : X.A.units+1<A6)(I : Inv X pI σ H s)(hH : H a = Aa (.ext (B4 a es)))(r : Repk X.K CL H A es kvs)(hk : Cf X.K H A ka k)(rx : A4 x v)(rd : Rep X.K CL H A x d)(hz : kvs.length <= sizeLine)(q : ∀ x' es', Repk X.K CL H A es' (sdD kvs k d) -> Q x' (upd H a (.ext (B4 a es')))) : Ay (model X.prog X.w) X.A (call (.builtin "dict.setdefault") [.ref a, .ref ka, v]) (EP X pI σ Q) E s := by
 obtain⟨ys, ve, hs, m⟩ := dic_of I hH r;have zz : ys.length <= sizeLine := by rw[<-ve.length, r.length];exact hz
 refine FN F.slot_dict_setdefault m.typeIs F.entry_dict_setdefault (F.args_dict_setdefault_3 _ _ _) (O9 hs v) ⟨Cj hu, k, ys, Gh I hk, m, zz, fun p hp => ?_, fun hp h' m' sb => ?_⟩
 ·rcases Gd ve k r with ⟨z1, _⟩|⟨p', x', d', z1, z2, z3, z4, z5⟩
  ·rw[hp]at z1;cases z1
  ·rw[hp]at z1;cases z1;have e1 : sdD kvs k d = kvs := AF z3;have I2 : Inv X pI σ (upd H a (.ext (B4 a es))) {s with toks := s.toks+(TK X.prog X.w).draws k} := by
    have e : upd H a (.ext (B4 a es)) = H := by
     funext b
     unfold upd;split
     ·rename_i e;rw[e, hH]
     ·rfl
    rw[e];exact I.kept fun b o e => e
   exact⟨x', _, I2, z4, q x' es (by rw[e1];exact r)⟩
 ·rcases Gd ve k r with ⟨z1, z2, z3⟩|⟨p', _, _, z1, _⟩
  ·obtain⟨es', ve', r'⟩ := LS ve hk rx rd r;have e1 : sdD kvs k d = kvs++[(k, d)] := by
    unfold sdD Ds;rw[AH (by rw[z3];exact Ap), AH (by rw[z3];exact Ap)]
   obtain⟨o, _, _, h1, _⟩ := id m';exact⟨x, upd H a (.ext (B4 a es')), I.write (x := a) (e := a) (by rw[hH];exact trivial) (.inl rfl) (fun b u hb hu => (sb.2 b hb).trans hu) ⟨o, h1⟩ ⟨⟨_, ve', (D5.to hs m').any⟩, ⟨o, h1⟩, fun h1 h2 d k => d.keep k⟩, rx, q x es' (by rw[e1];exact r')⟩
  ·rw[hp]at z1;cases z1
theorem Sk{x:V}{v:Ah}{E : Ah -> Ak -> Prop}(hu : X.A.units+1<A6)(I : Inv X pI σ H s)(hH : H a = Aa (.ext (B4 a es)))(r : Repk X.K CL H A es kvs)(hk : Cf X.K H A ka k)(rx : A4 x v)(rd : Rep X.K CL H A x d)(q : ∀ x', Rep X.K CL H A x' ((C1 kvs k).getD d) -> Q x' H) : Ay (model X.prog X.w) X.A (call (.builtin "dict.get") [.ref a, .ref ka, v]) (EP X pI σ Q) E s := by
 obtain⟨ys, ve, hs, m⟩ := dic_of I hH r;refine FN F.slot_dict_get m.typeIs F.entry_dict_get (F.args_dict_get_3 _ _ _) (meetsH_dict_get_default (TK X.prog X.w) a ka hs v) ⟨Cj hu, k, ys, Gh I hk, m, ?_⟩;rcases Gd ve k r with ⟨z1, z2, _⟩|⟨p', x', d', z1, z2, z3, z4, z5⟩
 ·rw[z1];rw[z2]at q;exact⟨x, H, I.kept fun b o e => e, rx, q x rd⟩
 ·rw[z1];rw[z2]at q;exact⟨x', H, I.kept fun b o e => e, z4, q x' z5⟩
end
section
variable{X : Cx}{o e : Ao}{es : Ab Ao}{t : TA}{name : Aj}{apos cpos : AI}{id : Cc}{r : V -> Ab V -> Hp -> VK -> Prop}{to : TE}
theorem MC(slot : Slot "dict" name id)(hty : typeOf (.builtin id) = pure (.type "method_descriptor"))(hm : MtR X id r)(ho : PE X o to)(ha : PA X (e::es) t)(hbase : FF o name X.env (eval o X.env) = eval o X.env)(hfew : ((BN cpos (At (e::es) X.env)).all (fun x => !x.1)&&(G2 cpos (F6 [] X.env)).all (fun x => x.1.isSome)
   && decide ((e::es).length+([] : Ab Ea).length+(if ([] : Ab Ea).isEmpty then 0 else 1)<30)) = Ac)(hline : (apos.endLine==cpos.line) = Ac)(hs : At (e::es) X.env = (Ad, eval e X.env)::At es X.env)(hplain : (BN cpos (At es X.env)).any (·.1) = Ad):PE X (.Call (.Attribute o name apos) (e::es) [] cpos) (fun σ H Q =>to σ H fun x H1 =>(∃ a es,x = .ref a/\H1 a = Aa (.ext (B4 a es)))/\t σ H1 fun xs H2 =>r x xs H2 Q) := by
 intro pI s σ H Q I h;refine wpAny_Call_method_late hbase hfew hline rfl (thn (ho pI s σ H _ I h) fun v s1 ⟨x, H1, I1, r1, ⟨a, xs, e0, hH⟩, q1⟩ => ?_)
 subst e0;obtain⟨ys, _, d⟩ := (I1.hok a _ hH).1;obtain⟨_, ob, _, _, h1, h2, h3, _⟩ := d X.prog X.w;cases r1;have ty : s1.TypeIs (.ref a) "dict" := ⟨ob, h1, h2.1⟩;refine⟨"dict", id, F.plainAttrs_dict, slot, hty, ty, fun b e => by cases e;exact⟨ob, h1, h2.2.1⟩, ?_⟩
 have hA := ha cpos pI s1 σ H1 _ I1 q1;rw[hs]at hA ⊢;refine Calls.callWith_builtin (by show (Ad||(BN cpos (At es X.env)).any (·.1)) = Ad;rw[hplain] <;> rfl) (Calls.evalArgs_plain ?_)
 exact thn hA fun us s2 ⟨vs, H2, I2, r2, q2⟩ => hm pI s2 σ H2 (.ref a) vs _ us Q I2 rfl r2 q2
end
section
variable{X : Cx}{CL : ClA}{W : XW}{pos : AI}{e k o : Ao}{fe fk : Rho -> R D}{i : Ag}{apos cpos : AI}
noncomputable def WG(K : Fg)(CL : ClA)(A : Ai -> Prop) : Iw := fun o i v H Q => ∃ a ka es kvs k d, o = .ref a /\ i = .ref ka /\ H a = Aa (.ext (B4 a es)) /\ Repk K CL H A es kvs /\ Cf K H A ka k /\ Rep K CL H A v d /\ kvs.length <= sizeLine /\ ∀ es', Repk K CL H A es' (Ds kvs k d) -> Q (upd H a (.ext (B4 a es')))
theorem Rg(hu : X.A.units+1<A6) : Ko X (WG X.K CL A) := by
 intro pI s σ H o i v ov iv u Q I ro ri rv h;obtain⟨a, ka, es, kvs, k, d, rfl, rfl, hH, r, hk, rd, hz, q⟩ := h;cases ro;cases ri;exact Sg hu I hH r hk rv rd hz fun s' es' r' I' => ⟨_, I', q es' r'⟩
theorem LG{ds : Ab (Ab Ae × D)}(h : Ee ρ i = .ok ds) : ρ[i]? = Aa (Aa (.dic ds, Ac)) := by
 unfold Ee at h;split at h
 ·rename_i e;cases h;exact e
 ·cases h
theorem Lr(h : Ee ρ i = .exn x) : AX := by
 unfold Ee at h;split at h <;> cases h
theorem Jv{j:Ab Ae}(h : De d = .ok j) : CJ d = Aa j := by
 unfold De at h;split at h
 ·rename_i e;cases h;exact e
 ·cases h
theorem Je(h : De d = .exn x) : AX := by
 unfold De at h;split at h <;> cases h
theorem S2{n:Aj}{dpos:AI}(hN : X.N.Nodup)(hi : X.N[i]? = Aa n)(hx : Loc X.env.scope n)(hs : CA (.Dict [] [] dpos) (Aa (.Name n pos')) pos.line X.env = pure Ad)(hf : X.fn n = Ac \/ X.env.scope.names.lookup n = Aa .local):SS X CL W (.Assign [.Name n pos'] (.Dict [] [] dpos) pos) (fun ρ =>.next (ρ.set i (Aa (.dic [],Ac)))) := fun Fz B pI s σ H D I ⟨ρ, x, p⟩=>
 Mz hN hi hx Si hs hf pI s σ H D I fun a ha => p _ _ (x.setO (Ed ha _) ha Fu (.dic trivial))
theorem Q8(hu : X.A.units+1<A6)(ho : PE X o (FC i))(hk : ST X CL W k fk)(he : SE X CL W e fe)(ha : ∀ v, assign (.Subscript o k spos) X.env v = (do
   let ov <-holding [v] (eval o X.env)
   let iv <-holding [v, ov] (eval k X.env)
   Fk spos
   holding [v, ov, iv] (F2 ov iv v)
   release [v, ov, iv] []))(hs : Ep [.Subscript o k spos] e pos.line X.env = pure Ad)(hw : FG [.Subscript o k spos] e X.env = pure Af)(h1 : (BX [.Subscript o k spos] X.env).map (·.2) = [assign (.Subscript o k spos) X.env]):SS X CL W (.Assign [.Subscript o k spos] e pos) (fun ρ =>O.of ρ (fe ρ) fun d =>O.of ρ (Ee ρ i) fun xs =>O.of ρ ((fk ρ).bind De) fun j =>if Cb (xs.length+1) = Ac then .next (ρ.set i (Aa (.dic (Ds xs j d),Ac))) else .bad) := fun Fz B pI s σ H D I ⟨ρ, x, p⟩=>
 MA (he (Bt B ρ σ)) (MB ho (hk (Bt B ρ σ)) (Rg (A := Bt B ρ σ) hu) ha) hs hw h1 pI s σ H D I ⟨x.aok, ρ, x.good, BD.ex x p fun d v H' _ s rv x' q' => by
  cases e1 : Ee ρ i with
  |bad => rw[e1]at q';exact q'.elim
  |exn z => exact(Lr e1).elim
  |ok ds=>
   rw[e1, O.of_ok]at q';have hi := LG e1;obtain⟨a, xs, q, ha, hh, r⟩ := x'.good.owK hi;refine⟨_, q, x'.aok, ρ, x'.good, ?_⟩;cases e3 : fk ρ with
   |bad => rw[e3]at q';exact q'.elim
   |exn z => rw[e3]at q';exact fun H2 s2 => q' H2 fun b o z => s2 _ _ (x'.same b o z)
   |ok dk=>
    rw[e3, R.bind_ok]at q';intro y H2 s2 ry;cases e4 : De dk with
    |bad => rw[e4]at q';exact q'.elim
    |exn z => exact(Je e4).elim
    |ok j=>
     rw[e4, O.of_ok]at q';split at q'
     ·rename_i hz;have hz := Fv hz;obtain⟨ka, rfl, kr⟩ := Gy ry (Jv e4);exact⟨a, ka, xs, ds, j, d, rfl, rfl, s2 _ _ hh, Repk.kp (Kp.of s2) _ r, kr, rv.same s2, by omega, fun es' r' => q' _ _ ((x'.grow s2).updO hi q (.dic r'))⟩
     ·exact q'.elim⟩
theorem Wf(hu : X.A.units+1<A6) : MtR X "dict.setdefault" (fun x xs H Q => ∃ a ka es kvs k v d, x = .ref a /\ xs = [.ref ka, v] /\ H a = Aa (.ext (B4 a es)) /\ Repk X.K CL H A es kvs /\ Cf X.K H A ka k /\ Rep X.K CL H A v d /\ kvs.length <= sizeLine /\ ∀ x' es', Repk X.K CL H A es' (sdD kvs k d) -> Q x' (upd H a (.ext (B4 a es')))) := by
 intro pI s σ H x xs v us Q I rx rs h;obtain⟨a, ka, es, kvs, k, v', d, rfl, rfl, hH, r, hk, rd, hz, q⟩ := h;cases rx;cases rs with
 |cons r1 r2=>
  cases r1;cases r2 with
  |cons r3 r4=>
   cases r4;exact Uz hu I hH r hk r3 rd hz q
theorem UM(hu : X.A.units+1<A6) : MtR X "dict.get" (fun x xs H Q => ∃ a ka es kvs k v d, x = .ref a /\ xs = [.ref ka, v] /\ H a = Aa (.ext (B4 a es)) /\ Repk X.K CL H A es kvs /\ Cf X.K H A ka k /\ Rep X.K CL H A v d /\ ∀ x', Rep X.K CL H A x' ((C1 kvs k).getD d) -> Q x' H) := by
 intro pI s σ H x xs v us Q I rx rs h;obtain⟨a, ka, es, kvs, k, v', d, rfl, rfl, hH, r, hk, rd, q⟩ := h;cases rx;cases rs with
 |cons r1 r2=>
  cases r1;cases r2 with
  |cons r3 r4=>
   cases r4;exact Sk hu I hH r hk r3 rd q
theorem S1(hu : X.A.units+1<A6)(ho : PE X o (FC i))(hk : ST X CL W k fk)(he : SE X CL W e fe)(hbase : FF o "setdefault" X.env (eval o X.env) = eval o X.env)(hfew : ((BN cpos (At [k, e] X.env)).all (fun x => !x.1)&&(G2 cpos (F6 [] X.env)).all (fun x => x.1.isSome)&&decide ([k, e].length+([] : Ab Ea).length+(if ([] : Ab Ea).isEmpty then 0 else 1)<30)) = Ac)(hline : (apos.endLine==cpos.line) = Ac)(hs : At [k, e] X.env = (Ad, eval k X.env)::At [e] X.env)(hs2 : At [e] X.env = [(Ad, eval e X.env)])(hpl : (BN cpos (At [e] X.env)).any (·.1) = Ad)(hsw : CA (.Call (.Attribute o "setdefault" apos) [k, e] [] cpos) Af pos.line X.env = pure Ad):
  SS X CL W (.Expr (.Call (.Attribute o "setdefault" apos) [k, e] [] cpos) pos) (fun ρ => O.of ρ (Ee ρ i) fun xs => O.of ρ ((fk ρ).bind De) fun j => O.of ρ (fe ρ) fun d => if Cb (xs.length+1) = Ac then .next (ρ.set i (Aa (.dic (if (xs.any fun p => p.1==j) = Ac then xs else Ds xs j d), Ac))) else .bad) := fun Fz B pI s σ H D I ⟨ρ, x, p⟩ => by
 refine LV (MC PySem.F.slot_dict_setdefault PySem.F.type_dict_setdefault (Wf (A := Bt B ρ σ) (CL := CL) hu) ho (EN (hk (Bt B ρ σ)) (EN (he (Bt B ρ σ)) Gf hs2) hs) hbase hfew hline hs hpl) hsw pI s σ H D I ?_;dsimp only at p;cases e1 : Ee ρ i with
 |bad => rw[e1]at p;exact p.elim
 |exn z => exact(Lr e1).elim
 |ok ds=>
  rw[e1, O.of_ok]at p;have hi := LG e1;obtain⟨a, xs, q, ha, hh, r⟩ := x.good.owK hi;refine⟨_, q, ⟨a, xs, rfl, hh⟩, x.aok, ρ, x.good, ?_⟩;cases e3 : fk ρ with
  |bad => rw[e3]at p;exact p.elim
  |exn z => rw[e3]at p;exact fun H2 s2 => p H2 fun b o z => s2 _ _ (x.same b o z)
  |ok dk=>
   rw[e3, R.bind_ok]at p;intro y H1 s1 ry;cases e4 : De dk with
   |bad => rw[e4]at p;exact p.elim
   |exn z => exact(Je e4).elim
   |ok j=>
    rw[e4, O.of_ok]at p;have x1 := x.grow s1;refine⟨x1.aok, ρ, x1.good, BD.ex x1 p fun d v H' _ s2 rv x' q' => ?_⟩
    split at q'
    ·rename_i hz;have hz := Fv hz;obtain⟨ka, rfl, kr⟩ := Gy ry (Jv e4);exact⟨a, ka, xs, ds, j, v, d, rfl, rfl, s2 _ _ (s1 _ _ hh), Repk.kp (Kp.of (s1.trans s2)) _ r, kr.kp (Kp.of s2), rv, by omega, fun x2 es' r' => q' _ _ (x'.updO hi q (.dic r'))⟩
    ·exact q'.elim
theorem Rh(hu : X.A.units+1<A6)(ho : PE X o (FC i))(hk : ST X CL W k fk)(he : SE X CL W e fe)(hbase : FF o "get" X.env (eval o X.env) = eval o X.env)(hfew : ((BN cpos (At [k, e] X.env)).all (fun x => !x.1)&&(G2 cpos (F6 [] X.env)).all (fun x => x.1.isSome)&&decide ([k, e].length+([] : Ab Ea).length+(if ([] : Ab Ea).isEmpty then 0 else 1)<30)) = Ac)(hline : (apos.endLine==cpos.line) = Ac)(hs : At [k, e] X.env = (Ad, eval k X.env)::At [e] X.env)(hs2 : At [e] X.env = [(Ad, eval e X.env)])(hpl : (BN cpos (At [e] X.env)).any (·.1) = Ad):
  SE X CL W (.Call (.Attribute o "get" apos) [k, e] [] cpos) (fun ρ => (Bg ρ i).bind fun d => (Ii d).bind fun kvs => (fk ρ).bind fun a => (De a).bind fun j => (fe ρ).bind fun y => .ok ((C1 kvs j).getD y)) := fun A pI s σ H Q I ⟨hA, ρ, gd, p⟩ => by
 refine MC PySem.F.slot_dict_get PySem.F.type_dict_get (UM (A := A) (CL := CL) hu) (Ms (CL := CL) (W := W) ho A) (EN (hk A) (EN (he A) Gf hs2) hs) hbase hfew hline hs hpl pI s σ H Q I ⟨hA, ρ, gd, AS.bind p fun d v H1 _ s1 r1 p1 => ?_⟩
 cases d with
 |dic kvs=>
  have p1 : AS (fun H => Rep X.K CL H A) W H1 ((fk ρ).bind fun a => (De a).bind fun j => (fe ρ).bind fun y => .ok ((C1 kvs j).getD y)) Q := p1
  obtain⟨a, es, rfl, hH, rk⟩ := r1.dic_of;refine⟨⟨a, es, rfl, hH⟩, hA.same s1, ρ, gd.same s1, AS.bind p1 fun dk y H2 _ s2 r2 p2 => ?_⟩
  cases e4 : De dk with
  |bad => rw[e4]at p2;exact p2.elim
  |exn z => exact(Je e4).elim
  |ok j=>
   rw[e4, R.bind_ok]at p2;obtain⟨ka, rfl, kr⟩ := Gy r2 (Jv e4);refine⟨(hA.same s1).same s2, ρ, (gd.same s1).same s2, AS.bind p2 fun d v H3 _ s3 r3 p3 => ?_⟩
   exact⟨a, ka, es, kvs, j, v, d, rfl, rfl, s3 _ _ (s2 _ _ hH), Repk.kp (Kp.of (s2.trans s3)) _ rk, kr.kp (Kp.of s3), r3, fun x' r' => p3 x' H3 (As.refl H3) r'⟩
 |_ => exact p1.elim
end
section
variable{prog : AC}{w : AJ}{A : AM}{E : Ah -> Ak -> Prop}{s : Ak}
end
noncomputable def GU(t : An)(h : AD)(j l : Ai)(i : Ag) : Prop := match t with
  |true => h.IsTupleIter j l i
  |false => h.IsListIter j l i
noncomputable def Hv(t : An)(h : AD)(l : Ai)(its : A8 Ah) : Prop := match t with
  |true => h.IsTuple l its
  |false => h.IsList l its
section
variable{prog : AC}{w : AJ}{A : AM}{E : Ah -> Ak -> Prop}{s : Ak}
end
section
variable{prog : AC}{w : AJ}{A : AM}{E : Ah -> Ak -> Prop}{s : Ak}
theorem Hv.push{its:A8 Ah}(z : Hv t h l its)(o : AB) : Hv t (h.push o) l its := by
 cases t with
 |true => exact PySem.Heap.IsTuple.at z fun _ e => Aw _ e
 |false => exact PySem.Heap.IsList.at z fun _ e => Aw _ e
end
theorem Hv.lt{its:A8 Ah}(z : Hv t h a its) : a<h.objs.size := by
 cases t with
 |true => obtain⟨o, e, _⟩ := z;exact Az e
 |false => obtain⟨o, e, _⟩ := z;exact Az e
section
variable{X : Cx}{CL : ClA}{W : XW}{pos p : AI}{a b : Ao}{fa fb : Rho -> R D}
end
theorem GU.keep{h2:AD}{l:Ag}(z : GU t h j l i)(k : ∀ o, h.get? j = Aa o -> h2.get? j = Aa o) : GU t h2 j l i := by
 cases t with
 |true => exact PySem.Heap.IsTupleIter.at z k
 |false => exact PySem.Heap.IsListIter.at z k
section
variable{prog : AC}{w : AJ}{A : AM}{E : Ah -> Ak -> Prop}{s : Ak}
end
section
variable{X : Cx}{CL : ClA}{W : XW}{pos p : AI}{a : Ao}{fa : Rho -> R D}
end
noncomputable abbrev ND(h : AD)(z TI TO : Ai)(f0 f1 : Ah) : Prop := h.get? z = Aa { cls := .type "zip", dict := Af, data := .fields #[f0, f1, .bool Ad, .ref TI, .ref TO], slots := #[] }
noncomputable abbrev NE(h : AD)(T : Ai)(a b c : Ah) : Prop := h.get? T = Aa { cls := .type "tuple", data := .seq #[a, b, c] }
section
variable{prog : AC}{w : AJ}{A : AM}{E : Ah -> Ak -> Prop}{s : Ak}
noncomputable def Z3(t1 t2 t3 : An)(I l1 l2 l3 i : Ag)(h : AD) : Prop := NE h (I+3) (.ref (I+0)) (.ref (I+1)) (.ref (I+2)) /\ GU t1 h (I+0) l1 i /\ GU t2 h (I+1) l2 i /\ GU t3 h (I+2) l3 i /\ (∃ a b c, NE h (I+4) a b c) /\
 (ND h (I+5) (I+3) (I+4) .none (.bool Ad) \/ ∃(T1 : Ag)(f1 : An), ND h (I+5) (I+3) (I+4) (Ek T1) (.bool f1))
end
section
variable{prog : AC}{w : AJ}{A : AM}{R : Gr -> Ak -> Prop}
end
section
variable{prog : AC}{w : AJ}{A : AM}{E : Ah -> Ak -> Prop}{s : Ak}
end
theorem Z3.ty{t1 t2 t3 : An}{I l1 l2 l3 i : Ag}(z : Z3 t1 t2 t3 I l1 l2 l3 i s.heap) : s.TypeIs (.ref (I+5)) "zip" := by
 obtain⟨_, _, _, _, _, hz|⟨_, _, hz⟩⟩ := z
 ·exact⟨_, hz, rfl⟩
 ·exact⟨_, hz, rfl⟩
theorem Z3.lt{t1 t2 t3 : An}{I l1 l2 l3 i : Ag}(z : Z3 t1 t2 t3 I l1 l2 l3 i s.heap) : I+5<s.heap.objs.size := by
 obtain⟨o, h, _⟩ := z.ty;exact Az h
section
variable{prog : AC}{w : AJ}{A : AM}{E : Ah -> Ak -> Prop}{s : Ak}
end
section
variable{X : Cx}{CL : ClA}{W : XW}{pos p pos' p' : AI}{a b c : Ao}{fa fb fc : Rho -> R D}
end
section
variable{X : Cx}{CL : ClA}{W : XW}{pos p tpos : AI}{a b c : Ao}{fa fb fc : Rho -> R D}{x : Aj}
end
section
variable{X : Cx}{CL : ClA}{W : XW}{a : Ao}{fa : Rho -> R D}
end
section
variable{X : Cx}{CL : ClA}{W : XW}{o o' e : Ao}{fe : Rho -> R D}{i j : Ag}{apos cpos apos' cpos' pos : AI}
end
section
variable{X : Cx}{CL : ClA}{W : XW}
end
section
variable{X : Cx}
variable{CL : ClA}{W : XW}{pos p pos' p' : AI}{a b : Ao}{fa fb : Rho -> R D}
end
section
variable{X : Cx}{CL : ClA}{W : XW}{e o o' k l : Ao}{fe : Rho -> R Ov.D}{i ik il : Ag}{pos spos spos' tpos : AI}{kt : Ag}
end
section
variable{prog : AC}{w : AJ}{A : AM}{E : Ah -> Ak -> Prop}{s : Ak}
end
section
variable{X : Cx}{pos : AI}{CL : ClA}
end
section
variable{X : Cx}{CL : ClA}{W : XW}
end
end Ov
namespace Ov
open PySem PySem.W PyProof.Rows
variable{p:A8 Ag}{m:Ag}
def Kr{α : Type}(lt : Ag -> Ag -> An)(n : Ag) : KasT α -> (α -> Prop) -> Prop
 |.ret a, Q => Q a
 |.ask i j k, Q => i<n /\ j<n /\ Kr lt n (k (lt i j)) Q
theorem Kr.mono{α : Type}{lt : Ag -> Ag -> An}{n : Ag}{Q Q' : α -> Prop} : ∀{t : KasT α}, Kr lt n t Q -> (∀ a, Q a -> Q' a) -> Kr lt n t Q'
 |.ret _, h, k => k _ h
 |.ask i j f, h, k => ⟨h.1, h.2.1, Kr.mono (t := f (lt i j)) h.2.2 k⟩
theorem Kr.bind{α β : Type}{lt : Ag -> Ag -> An}{n : Ag}{f : α -> KasT β}{Q : β -> Prop} : ∀{t : KasT α}, Kr lt n t (fun a => Kr lt n (f a) Q) -> Kr lt n (t.bind f) Q
 |.ret _, h => h
 |.ask i j k, h => ⟨h.1, h.2.1, Kr.bind (t := k (lt i j)) h.2.2⟩
structure Sto (lt : Ag -> Ag -> An) (n : Ag) : Prop where
 tr : ∀ i j k, i<n -> j<n -> k<n -> lt i j = Ac -> lt j k = Ac -> lt i k = Ac
 tot : ∀ i j, i<n -> j<n -> i ≠ j -> lt i j = Ad -> lt j i = Ac
 asy : ∀ i j, i<n -> j<n -> lt i j = Ac -> lt j i = Ad
noncomputable def at0(p : A8 Ag)(x : Ag) : Ag := p.getD x 0
structure Pm (n : Ag) (p : A8 Ag) : Prop where
 sz : p.size = n
 lt : ∀ x, x<n -> at0 p x<n
 inj : ∀ x y, x<n -> y<n -> at0 p x = at0 p y -> x = y
section
variable{lt : Ag -> Ag -> An}{n : Ag}
noncomputable def Km(lt : Ag -> Ag -> An)(p : A8 Ag)(m : Ag) : Prop := ∀ x y, x<y -> y<m -> lt (at0 p x) (at0 p y) = Ac
noncomputable def Kj(lt : Ag -> Ag -> An)(p : A8 Ag)(m : Ag) : Prop := ∀ x y, x<y -> y<m -> lt (at0 p y) (at0 p x) = Ac
theorem Km.succ(S : Sto lt n)(hp : Pm n p)(h1 : 1 <= m)(hm : m<n)(h : Km lt p m)(e : lt (at0 p (m-1)) (at0 p m) = Ac) : Km lt p (m+1) := fun x y hxy hy => by
 by_cases hym : y<m
 ·exact h x y hxy hym
 ·have : y = m := by omega
  subst this;by_cases hx : x = y-1
  ·rw[hx];exact e
  ·exact S.tr _ _ _ (hp.lt _ (by omega)) (hp.lt _ (by omega)) (hp.lt _ hm) (h x (y-1) (by omega) (by omega)) e
theorem Kj.succ(S : Sto lt n)(hp : Pm n p)(h1 : 1 <= m)(hm : m<n)(h : Kj lt p m)(e : lt (at0 p m) (at0 p (m-1)) = Ac) : Kj lt p (m+1) := fun x y hxy hy => by
 by_cases hym : y<m
 ·exact h x y hxy hym
 ·have : y = m := by omega
  subst this;by_cases hx : x = y-1
  ·rw[hx];exact e
  ·exact S.tr _ _ _ (hp.lt _ hm) (hp.lt _ (by omega)) (hp.lt _ (by omega)) e (h x (y-1) (by omega) (by omega))
end
section
variable{prog : AC}{w : AJ}{A : AM}{E : Ah -> Ak -> Prop}{κ : SortKind}{it : A8 Keyed}
end
section
variable{lt : Ag -> Ag -> An}{n : Ag}
end
noncomputable def Jy(h : AD)(v : Ah)(r : Ab Ae) : Prop := ∃ a its, v = .ref a /\ Gq h a its /\ Fd its.toList r /\ r ≠ []
theorem Jy.kept{h h':AD}{v:Ah}{r:Ab Ae}(t : Jy h v r)(k : ∀ b o, h.get? b = Aa o -> h'.get? b = Aa o) : Jy h' v r := by
 obtain⟨a, its, e, ⟨o, ho, q⟩, i, n⟩ := t;exact⟨a, its, e, ⟨o, k _ _ ho, q⟩, i, n⟩
section
variable{prog : AC}{w : AJ}{A : AM}{E : Ah -> Ak -> Prop}{s : Ak}
end
end Ov
namespace Ov
open PySem PySem.Spec PyProof.Rows L2
variable{ex fs:Ab Ai}{h h1 h2 h':AD}{P:AC}{w:AJ}{H:Hp}{a T':Ai}{oe:AB}{vs:A8 Ah}{Q:FT -> Ak -> Prop}{a0:Ah}{X:Cx}{pI:Ab (Ai × AB)}{σ:L2.St}{s:Ak}
section
variable{X : Cx}{CL : ClA}{W : XW}
end
section
variable{X : Cx}
variable{CL : ClA}{W : XW}{pos p pos' p' : AI}{a : Ao}{fa : Rho -> R D}
end
section
end
section
variable{X : Cx}
variable{CL : ClA}{W : XW}{o e : Ao}{fe : Rho -> R D}{i : Ag}{apos cpos pos : AI}
end
section
open PySem.AutoSeq1 (wpAny_loadPart')
end
section
variable{prog : AC}{w : AJ}{A : AM}{R : Gr -> Ak -> Prop}{I S T : Ai}{u v : Ah}{c : Ag}{P : Ag -> Ah -> Prop}{St : Ag -> AD -> Prop}{s : Ak}{r q : Ab Ae}
end
section
variable{X : Cx}{CL : ClA}{W : XW}
end
noncomputable def Ix(e T : Ai)(cls : Ah)(dx : Al Ai)(fl : Ah)(h : AD) : Prop := ∃ oe vs oT ts a0, h.get? e = Aa oe /\ oe.cls = cls /\ oe.dict = dx /\ vs[0]? = Aa a0 /\ oe.data = .fields vs /\ vs[1]? = Aa (.ref T) /\ T ≠ e /\ h.get? T = Aa oT /\ oT.data = .fields ts /\ ts[3]? = Aa fl
noncomputable abbrev Fly(e T : Ai)(cls : Ah)(dx : Al Ai)(h : AD) : Prop := Ix e T cls dx CP h
noncomputable def WS(C : Ai)(dx : Al Ai)(t : Ai) : AB := {cls := .ref C, dict := dx, data := .fields #[.ref t, .none, .none, .none, .bool Ad, .none]}
structure Shift (ex fs : Ab Ai) (h h' : AD) : Prop where
 keep : ∀ b o, h.get? b = Aa o -> b ∉ ex -> b ∉ fs -> h'.get? b = Aa o
 slot : ∀ b o, h.get? b = Aa o -> b ∈ fs -> ∃ sl, h'.get? b = Aa {o with slots := sl}
theorem Shift.trans(a : Shift ex fs h h1)(b : Shift ex fs h1 h2) : Shift ex fs h h2:=
 ⟨fun c o q n m => b.keep c o (a.keep c o q n m) n m, fun c o q m => by
  obtain⟨sl, e1⟩ := a.slot c o q m;obtain⟨sl', e2⟩ := b.slot c _ e1 m;exact⟨sl', e2⟩⟩
theorem ObjOk.isThere : ∀(o : HO), L2.ObjOk P w H h a o -> ∃ ob, h.get? a = Aa ob
 |.lst _, x => by obtain⟨_, _, _, _, e⟩ := x;exact⟨_, e⟩
 |.tup _, x => by obtain⟨_, _, _, p⟩ := x;obtain⟨o, e, _⟩ := p;exact⟨_, e⟩
 |.dK _, x => by obtain⟨_, _, _, _, o, _, _, e, _⟩ := x;exact⟨_, e⟩
 |.dT _, x => by obtain⟨_, _, _, _, o, _, _, e, _⟩ := x;exact⟨_, e⟩
 |.set _ _, x => by obtain⟨o, _, _, _, e, _⟩ := x;exact⟨_, e⟩
 |.ins _ _ _, x => by obtain⟨_, _, _, e, _⟩ := x;exact⟨_, e⟩
 |.own _, x => x
 |.xd _, x => by obtain⟨_, ⟨_, _, _, e, _⟩, _⟩ := x;exact⟨_, e⟩
 |.met _ _, x => ⟨_, x⟩
 |.rng _ _, x => by obtain⟨_, _, _, e⟩ := x;exact⟨_, e⟩
 |.frz _ _, x => ⟨_, x.1⟩
 |.tbl _, x => ⟨_, x⟩
 |.ext _, x => x.2.1
theorem Lc(x : HOk P w H h)(e : h.get? a = Af) : H a = Af := by
 cases q : H a with
 |none => rfl
 |some o=>
  obtain⟨ob, z⟩ := ObjOk.isThere o (x a o q);rw[e]at z;cases z
theorem HOk.shift(x : HOk P w H h)(sh : Shift ex fs h h')(h1 : ∀ b ∈ ex, H b = Af)(h2 : ∀ b ∈ fs, H b = Af) : HOk P w H h' := fun a o e=>
 (x a o e).stay (fun b u hb q => by
  have hs : ∃ v, H b = Aa v := by
   rcases hb with rfl|hb
   ·exact⟨_, e⟩
   ·exact⟨_, hb⟩
  obtain⟨v, hv⟩ := hs;exact sh.keep b u q (fun z => by rw[h1 b z]at hv;cases hv) (fun z => by rw[h2 b z]at hv;cases hv)) (fun _ q => q) fun _ _ q => q
theorem Un.shift{fs0 fs ex : Ab Ai}{H':Hp}{h0:AD}(u : Un fs0 [] H H' h0 h)(sh : Shift ex fs h h')(h1 : ∀ b ∈ ex, h0.get? b = Af)(h2 : ∀ b ∈ fs, b ∈ fs0 \/ h0.get? b = Af) : Un fs0 [] H H' h0 h' where
 keep := fun b o q n hb hx => sh.keep b o (u.keep b o q n hb hx) (fun z => by rw[h1 b z]at q;cases q) fun z => (h2 b z).elim hb fun e => by rw[e]at q;cases q
 slot := fun b o q n hb hx => by
  obtain⟨sl, e1⟩ := u.slot b o q n hb hx;by_cases hf : b ∈ fs
  ·obtain⟨sl', e2⟩ := sh.slot b _ e1 hf;exact⟨sl', e2⟩
  ·exact⟨sl, sh.keep b _ e1 (fun z => by rw[h1 b z]at q;cases q) hf⟩
 free := u.free
 there := fun b o q hx => by
  obtain⟨o', e1⟩ := u.there b o q hx;by_cases hf : b ∈ fs
  ·obtain⟨sl', e2⟩ := sh.slot b _ e1 hf;exact⟨_, e2⟩
  ·exact⟨o', sh.keep b _ e1 (fun z => by rw[h1 b z]at q;cases q) hf⟩
 tups := u.tups
 frzs := u.frzs
 tbls := u.tbls
theorem Sf(f : A8 Ah -> A8 Ah)(o : AB) : (DA f o).dict = o.dict := by
 obtain⟨c, d, dt, sl⟩ := o;cases dt <;> rfl
section
variable{M : F0}{A : AM}{E : Ah -> Ak -> Prop}{s : Ak}{env : BG}{outer : Ab BG}{L e T : Ai}{cls : Ah}{dx : Al Ai}{base h : AD}
theorem KZ{hd:Ah}{nx:An}(hfr : A.frames = Aa (env::outer))(hf : env.frame = Aa L)(ff : s.heap.FunFrames base (env::outer))(he : s.heap.get? e = Aa oe)(dt : oe.data = .fields vs)(hz : 1<vs.size)(hQ : ∀ h' T' oT ts, h'.get? e = Aa (DA (·.setIfInBounds 1 (.ref T')) oe) -> T' ≠ e -> s.heap.get? T' = Af -> h'.get? T' = Aa oT -> oT.data = .fields ts -> ts[3]? = Aa (Ek L) -> Shift [e] (frs (env::outer)) s.heap h' -> Q () {s with heap := h'}):
  Ay M A (do
   let fr <-frameOf env
   let pl <-entryPlaceOf L nx
   let en <-OC hd fr .none (Ek L) .none pl
   setField (.ref e) 1 en) Q E s := by
 have nf : e ∉ frs (env::outer) := fun z => by
  obtain⟨_, o, q, n⟩ := ff.mem z;rw[he]at q;cases q;exact n vs dt
 refine Aq (wpAny_frameOf_fun hfr ff hf fun k1 so => Aq (wpAny_entryPlaceOf fun pl ip => ?_))
 obtain⟨sz, sm, sl⟩ := so;have e1 : k1.get? e = Aa oe := (sm e nf).trans he;unfold OC;unfold newFields;refine Aq (Ct ?_ (ip.sizeOk5 _ _ _ _ _));generalize hX : ({ cls := .type "traceback", dict := Af, data := .fields ([hd, .ref L, .none, Ek L, .none]++(if pl.isEmpty then D9 6 CP else pl)).toArray } : AB) = ob
 have od : ob.data = .fields ([hd, .ref L, .none, Ek L, .none]++(if pl.isEmpty then D9 6 CP else pl)).toArray := by rw[<-hX]
 have nl : k1.objs.size ≠ e := Oq (Az e1);have e2 := Aw ob e1;refine Fl e2 dt hz ?_;have up : ∀ b, b ≠ e -> ((k1.push ob).update e (DA (·.setIfInBounds 1 (.ref k1.objs.size)))).get? b = (k1.push ob).get? b := fun b nb => BV _ _ (C8 nb)
 have lf : ob.isFreed = Ad := by rw[<-hX];rfl
 refine hQ _ k1.objs.size ob _ (Cn _ e2 (DL (CO dt _))) nl ?_ ((up _ nl).trans (Ba k1 lf)) od ?_ ⟨fun b o q n1 n2 => ?_, fun b o q hb => ?_⟩
 ·rw[sz];exact DV (AG _)
 ·simp
 ·have nb : b ≠ e := fun z => n1 (by rw[z];exact Au)
  rw[up b nb];exact Aw ob ((sm b n2).trans q)
 ·obtain⟨sl', q'⟩ := sl b o q;have nb : b ≠ e := fun z => nf (z ▸ hb)
  exact⟨sl', (up b nb).trans (Aw ob q')⟩
theorem Lx{oT:AB}{ts:A8 Ah}{fl:Ah}(hc : oe.cls = cls)(hx : oe.dict = dx)(h0 : vs[0]? = Aa a0)(dt : oe.data = .fields vs)(hz : 1<vs.size)(g : h'.get? e = Aa (DA (·.setIfInBounds 1 (.ref T')) oe))(ne : T' ≠ e)(gT : h'.get? T' = Aa oT)(dT : oT.data = .fields ts)(f3 : ts[3]? = Aa fl) : Ix e T' cls dx fl h':=
 ⟨_, _, oT, ts, a0, g, (Obj.cls_mapFields _ _).trans hc, (Sf _ _).trans hx, by rw[Array.getElem?_setIfInBounds_ne (by decide)];exact h0, CO dt _, by simp[hz], ne, gT, dT, f3⟩
theorem GC{i:Ag}{v:Ah}(q : vs[i]? = Aa v) : i<vs.size := (Array.getElem?_eq_some_iff.mp q).1
theorem QP(hfr : A.frames = Aa (env::outer))(hf : env.frame = Aa L)(ff : s.heap.FunFrames base (env::outer))(fl : Fly e T cls dx s.heap)(hQ : ∀ h' T', Ix e T' cls dx (Ek L) h' -> Shift [e, T] (frs (env::outer)) s.heap h' -> s.heap.get? T' = Af -> Q () {s with heap := h'}) : Ay M A (FR (.ref e) env) Q E s := by
 obtain⟨oe, vs, oT, ts, a0, he, hc, hx, h0, dt, h1, ne, hT, dT, h3⟩ := fl;have z3 := GC h3;unfold FR;simp only[hf];refine Aq (Da he dt h1 ?_);rw[AF (by simp : (E1 T != CP) = Ac)]
 refine Aq (Da hT dT h3 ?_);rw[AH (by simp[Ek] : ¬ (CP==Ek L) = Ac)]
 refine Aq (Fl hT dT z3 ?_);have up : ∀ b, b ≠ T -> (s.heap.update T (DA (·.setIfInBounds 3 CP))).get? b = s.heap.get? b := fun b nb => BV _ _ (C8 nb)
 have rcd : ∀ b o, s.heap.get? b = Aa o -> (∀ us, o.data ≠ .fields us) -> b ≠ T := fun b o q n z => by
  rw[z, hT]at q;cases q;exact n ts dT
 refine KZ (base := base) hfr hf (ff.of_keeps fun b o q n => ⟨o, (up b (rcd b o q n)).trans q, rfl⟩) ((up e (C8 ne)).trans he) dt (GC h1) fun h' T' oT' ts' g nT gn gT dT' f3 sh => ?_
 have T0 : s.heap.get? T' = Af := by
  by_cases z : T' = T
  ·rw[z]at gn;rw[Cn _ hT (DL (CO dT _))]at gn;cases gn
  ·rw[<-up T' z];exact gn
 refine hQ h' T' (Lx hc hx h0 dt (GC h1) g nT gT dT' f3) ⟨fun b o q n1 n2 => ?_, fun b o q hb => ?_⟩ T0
 ·simp only[AQ, Oi, or_false, Hx]at n1;exact sh.keep b o ((up b n1.2).trans q) (by simp[n1.1]) n2
 ·obtain⟨_, o', q', n⟩ := ff.mem hb;rw[q]at q';cases q';exact sh.slot b o ((up b (rcd b o q n)).trans q) hb
theorem L7{fv:Ah}(fl : Ix e T cls dx fv s.heap)(hQ : ∀ h', Fly e T cls dx h' -> (∀ b o, b ≠ T -> s.heap.get? b = Aa o -> h'.get? b = Aa o) -> Q () {s with heap := h'}) : Ay M A (setFlight (.ref e) Af) Q E s := by
 obtain⟨oe, vs, oT, ts, a0, he, hc, hx, h0, dt, h1, ne, hT, dT, h3⟩ := fl;have z3 := GC h3;unfold setFlight;refine Aq (Da he dt h1 ?_);rw[AF (by simp : (E1 T != CP) = Ac)]
 refine Fl hT dT z3 (hQ _ ?_ fun b o nb q => (BV _ _ (C8 nb)).trans q)
 exact⟨oe, vs, _, _, a0, (BV _ _ ne).trans he, hc, hx, h0, dt, h1, ne, Cn _ hT (DL (CO dT _)), CO dT _, by simp[z3]⟩
theorem KU(ff : s.heap.FunFrames base (env::outer))(sh : Shift ex (frs (env::outer)) s.heap h1)(hT : s.heap.get? T' = Af)(k : ∀ b o, b ≠ T' -> h1.get? b = Aa o -> h2.get? b = Aa o) : Shift ex (frs (env::outer)) s.heap h2:=
 ⟨fun b o q n1 n2 => k b o (fun z => by rw[z, hT]at q;cases q) (sh.keep b o q n1 n2), fun b o q hb => let ⟨sl, q'⟩ := sh.slot b o q hb;⟨sl, k b _ (fun z => by rw[z, hT]at q;cases q) q'⟩⟩
theorem Qo(hfr : A.frames = Aa (env::outer))(hf : env.frame = Aa L)(ff : s.heap.FunFrames base (env::outer))(fl : Fly e T cls dx s.heap)(hQ : ∀ h' T', Fly e T' cls dx h' -> Shift [e, T] (frs (env::outer)) s.heap h' -> (T' = T \/ s.heap.get? T' = Af) -> Q () {s with heap := h'}) : Ay M A (leaving env (.ref e)) Q E s := by
 unfold leaving;exact Aq (QP hfr hf ff fl fun h1 T' f1 sh hT => L7 f1 fun h2 f2 k => hQ h2 T' f2 (KU ff sh hT k) (.inr hT))
theorem PR(hfr : A.frames = Aa (env::outer))(hf : env.frame = Aa L)(ff : s.heap.FunFrames base (env::outer))(he : s.heap.get? e = Aa oe)(hc : oe.cls = cls)(hx : oe.dict = dx)(dt : oe.data = .fields vs)(h0 : vs[0]? = Aa a0)(h1 : vs[1]? = Aa .none)(hQ : ∀ h' T', Fly e T' cls dx h' -> Shift [e] (frs (env::outer)) s.heap h' -> s.heap.get? T' = Af -> Q () {s with heap := h'}) : Ay M A (leaving env (.ref e)) Q E s := by
 unfold leaving FR;simp only[hf];refine Aq (Aq (Da he dt h1 ?_));rw[AH (by decide)]
 exact KZ (base := base) hfr hf ff he dt (GC h1) fun h' T' oT ts g nT gn gT dT f3 sh => L7 (Lx hc hx h0 dt (GC h1) g nT gT dT f3) fun h2 f2 k => hQ h2 T' f2 (KU ff sh gn k) gn
end
noncomputable def CXR(P : AC)(w : AJ) : CXT := fun outer H s E ev s' => ∃ e T cls dx H', ev = .ref e /\ s'.os = s.os /\ Do s'.gens /\ Un (frs outer) [] H H' s.heap s'.heap /\ HOk P w H' s'.heap /\ Fly e T cls dx s'.heap /\ H' e = Af /\ H' T = Af /\ s.heap.get? e = Af /\ s.heap.get? T = Af /\ E cls dx H'
noncomputable def Kn(X : Cx)(CL : ClA)(W : XW) : Prop := ∀ pI σ H s e C dx t x, Inv X pI σ H s -> (X.ex = [] -> X.s₀.heap.get? e = Af) -> H e = Af -> s.heap.get? e = Aa (WS C dx t) -> EU X.K CL H (.ref C) dx x -> W x H -> X.xe (.ref e) s
section
variable{P : AC}{w : AJ}{K : Fg}{mg : Aj -> Al Ah}{base : AD}{N : Ab Aj}{qual : Aj}{scope : Bx}{f : Ai}{cd : Ah}{A : AM}{outer : Ab BG}{s : Ak}{H : Hp}{E : XK}{CL : ClA}{W : XW}
theorem L6(I : Inv X pI σ H s) : ∀ b ∈ frs X.stack, b ∈ X.fs \/ X.s₀.heap.get? b = Af := fun b hb => by
 rcases AQ.mp (I.stkSub b hb) with z|z
 ·exact .inr (by rw[z];exact DV I.ok.above)
 ·exact .inl z
theorem HM{b:Ai}(I : Inv X pI σ H s)(hx : X.ex = [])(h : s.heap.get? b = Af) : X.s₀.heap.get? b = Af := by
 cases q : X.s₀.heap.get? b with
 |none => rfl
 |some o=>
  obtain⟨o', z⟩ := I.base.there b o q (by rw[hx];simp)
  rw[h]at z;cases z
theorem V5(hE : ∀ x cls dx H', W x H' -> EU K CL H' cls dx x -> E cls dx H') : ∀ A', GH (CXR P w) (Ef (CXR P w) P w K mg base N qual scope f cd A outer s H E) (EKW K CL A' W) := by
 intro A' pI σ H1 s1 ev s2 I h;obtain⟨e, T, cls, dx, H', rfl, os, bare, un, hok, fl, he, hT, ne, nT, x, xr, wx⟩ := h;have I' := I.call' (s' := s2) (ch := []) os un hok bare (fun b z => absurd z (by simp))
 have hb0 : Un (frs outer) [] H H' s.heap s2.heap := I'.base;show Ay (model P w) (A.deeper (C4 qual scope s.heap.objs.size f cd)) (leaving (C4 qual scope s.heap.objs.size f cd) (.ref e)) _ _ s2;refine Qo (L := s.heap.objs.size) I'.ok.frames rfl I'.stack fl fun h' T' fl' sh hT' => ?_
 have e0 : s.heap.get? e = Af := HM I rfl ne;have T0 : s.heap.get? T = Af := HM I rfl nT;refine⟨e, T', cls, dx, H', rfl, I'.os, bare, Un.shift hb0 sh ?_ (L6 I'), HOk.shift hok sh ?_ I'.stkFree, fl', he, ?_, e0, ?_, ?_⟩
 ·intro b hb;rcases AQ.mp hb with rfl|hb
  ·exact e0
  ·rw[Bh.mp hb];exact T0
 ·intro b hb;rcases AQ.mp hb with rfl|hb
  ·exact he
  ·rw[Bh.mp hb];exact hT
 ·rcases hT' with rfl|z
  ·exact hT
  ·exact Lc hok z
 ·rcases hT' with rfl|z
  ·exact T0
  ·exact HM I' rfl z
 ·exact hE x cls dx H' wx xr
theorem rzR(hE : ∀ x cls dx H', W x H' -> EU K CL H' cls dx x -> E cls dx H') : Kn (Ef (CXR P w) P w K mg base N qual scope f cd A outer s H E) CL W := by
 intro pI σ H1 s1 e C dx t x I e0 he ge xr hw;have hb0 : Un (frs outer) [] H H1 s.heap s1.heap := I.base;have e0' : s.heap.get? e = Af := e0 rfl;show Ay (model P w) (A.deeper (C4 qual scope s.heap.objs.size f cd)) (leaving (C4 qual scope s.heap.objs.size f cd) (.ref e)) _ _ s1;refine PR (cls := .ref C) (dx := dx) (L := s.heap.objs.size) I.ok.frames rfl I.stack ge rfl rfl rfl (a0 := .ref t) rfl rfl fun h' T' fl' sh hT' => ?_
 have one : ∀{Z : Ai -> Prop}, Z e -> ∀ b ∈ [e], Z b := fun {Z} z b hb => by rw[Bh.mp hb];exact z
 exact⟨e, T', .ref C, dx, H1, rfl, I.os, I.bare, Un.shift hb0 sh (one e0') (L6 I), HOk.shift I.hok sh (one (Z := fun b => H1 b = Af) he) I.stkFree, fl', he, Lc I.hok hT', e0', HM I rfl hT', hE x _ dx H1 hw xr⟩
theorem ownR : DM (model P w) (Ef (CXR P w) P w K mg base N qual scope f cd A outer s H E).A (Ef (CXR P w) P w K mg base N qual scope f cd A outer s H E).env (Ef (CXR P w) P w K mg base N qual scope f cd A outer s H E).xe := PassesOwn.leaving
end
noncomputable def veB : Ab Ah := [.type "ValueError", .type "Exception", .type "BaseException", .type "object"]
noncomputable def J9(K : Fg)(C : Ai)(v : Al Ah) : An := match K.lookup C with
  | some ⟨.type "type", _, .cls c, z⟩ => (match c.mro, z.toList with
    |.ref c0::tl, [_, _, _, _, Aa (.builtin nw), _] => c0==C&&(nw == "ValueError.__new__" && (!c.hasDel&&(PySem.W.tailIn K veB tl&&(PySem.W.nsOkIn K c.ns&&BM K c.ns "__init__" == Aa v))))
    | _, _ => Ad)
  |_ => Ad
structure XcOk (K : Fg) (C : Ai) : Prop where
 exc : ∃ v, J9 K C v = Ac
 ga : CV K (.ref C) "__getattribute__" = Aa (Aa (.builtin "BaseException.__getattribute__"))
 gt : CV K (.ref C) "__getattr__" = Aa Af
 cl : CV K (.ref C) "__class__" = Aa (Aa (.builtin "object.__class__"))
 ob : PySem.W.mroIn K C (.type "object") = Aa Ac
 be : OU K (.ref C) (.type "BaseException") = Aa Ac
 cs : (PySem.W.clsIn K C).isSome = Ac
 ve : OT K (.ref C) (.type "ValueError") = Aa Ac
section
variable{prog : AC}{w : AJ}{A : AM}{E : Ah -> Ak -> Prop}{h : AD}{g : A8 DC}{d : Fn}{t : Ag}{os : Fe}{K : Fg}{e C : Ai}
end
noncomputable def M9(X : Cx)(pI : Ab (Ai × AB))(e : Ai) : Prop := e ≠ X.env.locals /\ (∀ x c, X.env.cells.lookup x = Aa c -> c ≠ e) /\ (∀ p ∈ X.pn++pI, p.1 ≠ e) /\ X.s₀.heap.get? e = Af
section
variable{X : Cx}{pI : Ab (Ai × AB)}{σ : L2.St}{H : Hp}{s : Ak}{e : Ai}
end
noncomputable def Cx.hot(X : Cx)(e : Ai) : Cx := {X with A := X.A.mark (Aa (.ref e)), calm := Ad, xe := fun _ _ => AX}
section
variable{X : Cx}{pI : Ab (Ai × AB)}{σ : L2.St}{H : Hp}{s : Ak}{e : Ai}
end
noncomputable def W6(X : Cx)(CL : ClA)(pI : Ab (Ai × AB))(σ : L2.St)(H : Hp)(y : Ex)(Xw : Ah -> Ak -> Prop) : Prop:=
 ∀ s' H' e T cls dx, Inv X pI σ H' s' -> As H H' -> Fly e T cls dx s'.heap -> H' e = Af -> H' T = Af -> M9 X pI e -> M9 X pI T -> EU X.K CL H' cls dx y -> Xw (.ref e) s'
noncomputable def STB(X : Cx)(CL : ClA)(body : Ab Bc)(f : Rho -> O) : Prop := ∀ Fz B pI s σ H D ρ (Xw : Ah -> Ak -> Prop), DM (model X.prog X.w) X.A X.env Xw -> Inv X pI σ H s -> Sx X.K CL Fz B ρ σ H ->
  (match f ρ with
   |.exn y ρ' => ρ' = ρ -> W6 X CL pI σ H y Xw
   | o => BD X.K CL Fz B (fun _ _ => AX) o D) -> (∀ y ρ', f ρ = .exn y ρ' -> ρ' = ρ) -> Ay (model X.prog X.w) X.A (execs body X.env) (SP X pI D) Xw s
noncomputable def Cx.pw(X : Cx)(pI : Ab (Ai × AB))(Xw : Ah -> Ak -> Prop) : Cx := {X with pn := X.pn++pI, xe := Xw}
section
variable{X : Cx}{pI pins' : Ab (Ai × AB)}{σ : L2.St}{H : Hp}{s : Ak}{Xw : Ah -> Ak -> Prop}
end
section
variable{X : Cx}{CL : ClA}{k n : Ag}{fr : An}{f : Ai}{fd : Bs}{ps : Ab Aj}{F : Ab D -> R D}{x : Aj}{p pos pos2 : AI}{e : Ao}{es : Ab Ao}{fs ft : Rho -> R (Ab D)}{sh : Rho -> An}
variable(hx0 : X.ex = [])(G : FnOk X.prog X.w X.K X.mg X.base (CXR X.prog X.w) k f fd ps (spD X.K CL n fr F))(hr : Room k X.A)(hg : Gl X x)(hm : X.mg x = Aa (.ref f))
    (hk : Cd X.K (.ref f) = Ac) (hb : EX X.K fd ps []) (hst : ∀ ρ, sh ρ = Ac -> ft ρ = fs ρ) (hn : ∀ ρ ds, ft ρ = .ok ds -> ds.length = n) (hnx : ∀ ρ y, ft ρ ≠ .exn y)
    (hdb : (x==("__debug__" : Aj)) = Ad) (he : At (e::es) X.env = (Ad, eval e X.env)::At es X.env) (hpl : ∀ pos, (BN pos (At es X.env)).any (·.1) = Ad)
    (ha : ∀ pI Xw, DM (model X.prog X.w) X.A X.env Xw -> SA (Cx.pw X pI Xw) CL (fun _ _ => AX) (e::es) fs /\ SAT (Cx.pw X pI Xw) CL (fun _ _ => AX) (e::es) ft)
include hx0 G hr hg hm hk hb hst hn hnx hdb he hpl ha
end
section
variable{X : Cx}{CL : ClA}{W : XW}
noncomputable def Ve(K : Fg)(CL : ClA)(up : Ag -> Ab Ag)(c' : Ag)(C' : Ai) : Prop := ∀ c C, CL c = Aa C -> OT K (.ref C) (.ref C') = Aa ((up c).contains c')
variable{a : Ao}{fa : Rho -> R D}{up : Ag -> Ab Ag}{x : Aj}{p p2 pos : AI}
end
end Ov
section
namespace Ov
open PySem PySem.Spec PyProof.Rows L2
end Ov
end
namespace Ov
open PySem PySem.Spec PyProof.Rows L2
variable{α:Type}{x qual n x0 x1:Aj}{X:Cx}{CL:ClA}{fr:An}{pos p:AI}{xs ys:Ab Ao}{env:BG}{y:Ao}{l m id k:Ag}{scope:Bx}{ts:Ab Ag}{H:Hp}{as:Es}{vs:Ab V}{fd:Bs}{CX:CXT}{ps:Ab Aj}{F:Ab D -> R D}{h:AD}
noncomputable abbrev Xr : CXT := fun _ _ _ _ _ _ => AX
structure HotOk (P : AC) (w : AJ) (K : Fg) (mg : Aj -> Al Ah) (base : AD) (k : Ag) (f : Ai) (fd : Bs) (ps : Ab Aj) (sp : Sp) : Prop where
 len : ∀ vs H Q E, sp vs H Q E -> vs.length = ps.length
 run : ∀(A : AM)(ev : Ai)(outer : Ab BG)(s : Ak)(H : Hp)(args : Args)(us : Ab Ah)(vs : Ab V)(Q : VK)(E : XK), Room k A -> Env0 P w K mg base (A.mark (Aa (.ref ev))) outer s H -> EC s fd args (ps.zip us) -> AR vs us -> sp vs H Q E ->
  Ec (model P w) (A.mark (Aa (.ref ev))) (.call (.ref f) args) (CR Xr outer P w H s Q E) s
noncomputable def spH(K : Fg)(CL : ClA)(n : Ag)(fr : An)(F : Ab D -> R D) : Sp := fun vs H Q _ => ∃(ds : Ab D)(A : Ai -> Prop), vs.length = n /\ AOk H A /\ Reps K CL H A vs ds /\ (match F ds with
  |.ok d => ∀ v H', As H H' -> CW K CL fr H A H' v d -> Q v H'
  |.exn _ => AX
  | .bad => AX)
section
variable{X : Cx}{CL : ClA}{ev : Ai}
end
section
variable{M : F0}{A : AM}{E : Ah -> Ak -> Prop}{s : Ak}{env : BG}{nm q : Aj}{C N : Ai}{bs bm bmB : Ab Ah}{hdct : An}{sn : Ab Aj}{sub : Ab Ah}{ab : An}{col : Al An}{dd : Al Ai}{k0 k1 k2 k3 k5 : Al Ah}{B newId initId : Cc}
end
section
variable{prog : AC}{w : AJ}{A : AM}{E : Ah -> Ak -> Prop}{h : AD}{g : A8 DC}{d : Fn}{t : Ag}{os : Fe}
variable{nm q : Aj}{C N fI : Ai}{bs bm bmB : Ab Ah}{hdct : An}{sn : Ab Aj}{sub : Ab Ah}{ab : An}{col : Al An}{dd : Al Ai}{k0 k1 k2 k3 k5 : Al Ah}{B newId initId : Cc}{mN : Aj -> Al Ah}{rest : Ab Ah}{oI : AB}
end
section
variable{prog : AC}{w : AJ}{A : AM}{E : Ah -> Ak -> Prop}{s : Ak}{env : BG}
variable{nm q : Aj}{C N fI : Ai}{bs bm bmB : Ab Ah}{hdct : An}{sn : Ab Aj}{sub : Ab Ah}{ab : An}{col : Al An}{dd : Al Ai}{k0 k1 k2 k3 k5 : Al Ah}{B newId initId : Cc}{mN : Aj -> Al Ah}
end
section
variable{prog : AC}{w : AJ}{A : AM}{E : Ah -> Ak -> Prop}{h : AD}{g : A8 DC}{d : Fn}{tk0 : Ag}{os : Fe}
variable{nm q : Aj}{C N e t : Ai}{dx : Al Ai}{bs bm bmB : Ab Ah}{hdct : An}{sn : Ab Aj}{sub : Ab Ah}{ab : An}{col : Al An}{dd : Al Ai}{k0 k1 k2 k3 k5 : Al Ah}{B newId initId : Cc}
end
section
variable{X : Cx}{CL : ClA}{pI : Ab (Ai × AB)}{σ : L2.St}{H : Hp}{s : Ak}
end
section
variable{X : Cx}{CL : ClA}
end
section
variable{X : Cx}{CL : ClA}{C : Ai}{nm q : Aj}{N : Ai}{bs bm : Ab Ah}{hdct : An}{sn : Ab Aj}{sub : Ab Ah}{ab : An}{col : Al An}{dd : Al Ai}{k0 k1 k2 k3 k5 : Al Ah}
end
section
variable{prog : AC}{w : AJ}{A : AM}{E : Ah -> Ak -> Prop}{h : AD}{g : A8 DC}{d : Fn}{tk0 : Ag}{os : Fe}{K : Fg}
variable{nm q : Aj}{C N e t : Ai}{bs bm bmB : Ab Ah}{sn : Ab Aj}{sub : Ab Ah}{ab : An}{col : Al An}{dd : Al Ai}{k0 k1 k2 k3 k5 : Al Ah}{B newId sa owner : Cc}
end
section
variable{prog : AC}{w : AJ}{A : AM}{E : Ah -> Ak -> Prop}{h : AD}{g : A8 DC}{d : Fn}{tk0 : Ag}{os : Fe}{K : Fg}
variable{nm q : Aj}{C N e t : Ai}{bs bm bmB : Ab Ah}{sn : Ab Aj}{sub : Ab Ah}{ab : An}{col : Al An}{dd : Al Ai}{k0 k1 k2 k3 k5 : Al Ah}{B newId sa owner : Cc}
end
section
variable{X : Cx}{pI : Ab (Ai × AB)}{σ : L2.St}{H : Hp}{s : Ak}{e : Ai}
end
section
variable{X : Cx}{C : Ai}{nm q : Aj}{N : Ai}{bs bm : Ab Ah}{sn : Ab Aj}{sub : Ab Ah}{ab : An}{col : Al An}{dd : Al Ai}{k0 k1 k2 k3 k5 : Al Ah}
end
noncomputable def Nf(K : Fg)(C : Ai) : An := match K.lookup C with
  |some ⟨_, _, .cls c, _⟩ => c.hasDict
  |_ => Ad
noncomputable def XM(g par f z : Aj)(k : Ag)(np apos p1 p2 p3 p4 p5 cpos p6 p7 p8 p9 p10 : AI) : Ab Bc:=
 [.Expr (.Call (.Attribute (.Name g np) "__init__" apos) [.Name "self" p1, .JoinedStr [.FormattedValue (.Name par p2) (-1) Af p3, .Constant (.str z) k p4] p5] [] cpos) p6, .Assign [.Attribute (.Name "self" p7) f p8] (.Name par p9) p10]
inductive XIn (K : Fg) (mg : Aj -> Al Ah) (C : Ai) (f : Aj) : Prop
 |mk {fI OV : Ai} {x qual g par z : Aj} {st : Bc} {fd : Bs} {k : Ag} {np apos p1 p2 p3 p4 p5 cpos p6 p7 p8 p9 p10 : AI} (xc : J9 K C (Aa (.ref fI)) = Ac) (dc : Nf K C = Ac) (fn : Fun K x qual st fI fd) (ty : PySem.W.typeIn K (.ref fI) = Aa (.type "function"))
  (S : FnScope ["self", par] ["self", par] (Dm st)) (l1 : (Dm st).names.lookup ("self" : Aj) = Aa .local) (l2 : (Dm st).names.lookup par = Aa .local) (bd : EX K fd ["self", par] []) (body : EO st = XM g par f z k np apos p1 p2 p3 p4 p5 cpos p6 p7 p8 p9 p10)
  (gl : (Dm st).names.lookup g = Aa .globalImplicit) (mo : mg g = Aa (.ref OV)) (dg : (g==("__debug__" : Aj)) = Ad) (dp : (par==("__debug__" : Aj)) = Ad) (dq : (par==("__classdict__" : Aj)) = Ad)
  (s1 : PySem.W.specialIn K (.ref OV) "__getattribute__" = Aa (Aa (.builtin "type.__getattribute__"))) (s2 : PySem.W.readsIn K OV (.type "type") = Ac) (s3 : PySem.W.findCls K (.ref OV) (.type "type") "__init__" = Aa (.val (.builtin "ValueError.__init__")))
  (hl : (apos.endLine==cpos.line) = Ac) (hz : z.length <= 1000) (hf : CV K (.ref C) f = Aa Af) (hs : CV K (.ref C) "__setattr__" = Aa (Aa (.builtin "object.__setattr__"))) : XIn K mg C f
section
variable{P : AC}{w : AJ}{K : Fg}{mg : Aj -> Al Ah}{base : AD}{CL : ClA}{C fI OV : Ai}{x qual g par z f : Aj}{st : Bc}{fd : Bs}{k : Ag}{np apos p1 p2 p3 p4 p5 cpos p6 p7 p8 p9 p10 : AI}
variable{nm q : Aj}{N : Ai}{bs bm : Ab Ah}{sn : Ab Aj}{sub : Ab Ah}{ab : An}{col : Al An}{dd : Al Ai}{k0 k1 k2 k3 k5 : Al Ah}
end
section
variable{X : Cx}{CL : ClA}{W : XW}
noncomputable def W7(xn : Ag -> Ab D -> R Ex)(c : Ag)(f : Aj)(ds : Ab D) : Prop := ∃ d n, ds = [d] /\ xfD (n+1) d = Ac /\ n <= 1 /\ xn c ds = .ok ⟨c, [(f, d)]⟩
end
section
variable{prog : AC}{w : AJ}{A : AM}{E : Ah -> Ak -> Prop}{h : AD}{g : A8 DC}{d : Fn}{t : Ag}{os : Fe}{K : Fg}{e C dx : Ai}{f : Aj}{mA : Aj -> Al Ah}{v : Ah}
end
section
variable{X : Cx}{CL : ClA}{W : XW}{K : Fg}{H : Hp}{A : Ai -> Prop}
end
structure Tc where
 sc : Bx
 N : Ab Aj
 /-- a def's name, its number, how many parameters it has -/
 fns : Ab (Aj × Ag × Ag)
 /-- built-in names that the text does not hide -/
 bl : Ab Aj
 /-- exceptions' classes by their names: those that are raised, all that are asked for -/
 rzs : Ab (Aj × Ag)
 exs : Ab (Aj × Ag)
 /-- the text's constants -/
 gls : Ab (Aj × Ag)
noncomputable def Kb(T : Tc)(x : Aj) : An := match T.sc.names.lookup x with
  |some .local => Ac
  |some .cell => Ac
  |some .free => Ac
  |_ => Ad
noncomputable def Gn(T : Tc)(x : Aj) : An := match T.sc.names.lookup x with
  |some .local => Ac
  |some .cell => Ac
  |_ => Ad
noncomputable def glB(T : Tc)(x : Aj) : An := T.sc.names.lookup x==Aa .globalImplicit
noncomputable def Nh : Ao -> Al (Aj × AI)
 |.Name x p => Aa (x, p)
 |_ => Af
theorem Rw{e : Ao}{t : Aj × AI}(h : Nh e = Aa t) : e = .Name t.1 t.2 := by
 cases e with
 |Name x p => cases h;rfl
 |_ => exact nomatch (show Af = Aa t from h)
noncomputable def Nj : Ao -> Al (Ao × Ab Ao × AI)
  | .Call f as ks p => (match ks with
    |[] => Aa (f, as, p)
    | _ => Af)
  |_ => Af
theorem Ry{e : Ao}{t : Ao × Ab Ao × AI}(h : Nj e = Aa t) : e = .Call t.1 t.2.1 [] t.2.2 := by
 cases e with
 |Call f as ks p=>
  cases ks with
  |nil => cases h;rfl
  |cons => exact nomatch (show Af = Aa t from h)
 |_ => exact nomatch (show Af = Aa t from h)
noncomputable def Ng{α : Type} : Ab α -> Al (α × α)
 |[a, b] => Aa (a, b)
 |_ => Af
theorem Rv{l : Ab α}{t : α × α}(h : Ng l = Aa t) : l = [t.1, t.2] := by
 cases l with
 |nil => exact nomatch (show Af = Aa t from h)
 |cons a l=>
  cases l with
  |nil => exact nomatch (show Af = Aa t from h)
  |cons b l=>
   cases l with
   |nil => cases h;rfl
   |cons => exact nomatch (show Af = Aa t from h)
noncomputable def Nk : Ao -> Al (Ao × Aj × AI)
 |.Attribute o m p => Aa (o, m, p)
 |_ => Af
theorem Rz{e : Ao}{t : Ao × Aj × AI}(h : Nk e = Aa t) : e = .Attribute t.1 t.2.1 t.2.2 := by
 cases e with
 |Attribute o m p => cases h;rfl
 |_ => exact nomatch (show Af = Aa t from h)
noncomputable def xMt(e : Ao) : Al (Aj × Aj × Ao × Ao) := (Nj e).bind fun c => (Nk c.1).bind fun a => (Nh a.1).bind fun x => (Ng c.2.1).bind fun ab => if a.2.2.endLine = c.2.2.line then Aa (x.1, a.2.1, ab.1, ab.2) else Af
theorem Mp{e y v : Ao}{m:Aj}(h : xMt e = Aa (x, m, y, v)) : ∃ p ap cp, e = .Call (.Attribute (.Name x p) m ap) [y, v] [] cp /\ ap.endLine = cp.line := by
 obtain⟨c, e1, h⟩ := CI.mp h;obtain⟨a, e2, h⟩ := CI.mp h;obtain⟨x', e3, h⟩ := CI.mp h;obtain⟨ab, e4, h⟩ := CI.mp h;by_cases hl : a.2.2.endLine = c.2.2.line
 ·rw[AF hl]at h;cases h;rw[Ry e1, Rz e2, Rw e3, Rv e4];exact⟨_, _, _, rfl, hl⟩
 ·rw[AH hl]at h;cases h
noncomputable def Ni : Ao -> An
 |.Dict ks vs _ => ks.isEmpty&&vs.isEmpty
 |_ => Ad
theorem Rx{e : Ao}(h : Ni e = Ac) : ∃ p, e = .Dict [] [] p := by
 cases e with
 |Dict ks vs p=>
  cases ks with
  |nil=>
   cases vs with
   |nil => exact⟨p, rfl⟩
   |cons => exact nomatch (show Ad = Ac from h)
  |cons => exact nomatch (show Ad = Ac from h)
 |_ => exact nomatch (show Ad = Ac from h)
noncomputable def Ht(x : Aj) : An := !(x==("__debug__" : Aj)) && !(x==("__classdict__" : Aj)) && !(x==("__name__" : Aj))
noncomputable def isV(T : Tc)(x : Aj)(i : Ag) : An := T.N[i]? == Aa x&&Kb T x&&Ht x
noncomputable def isB(T : Tc)(x : Aj) : An := T.bl.contains x&&glB T x&&Ht x
noncomputable def C0 : Ao -> An
 |.Starred _ _ => Ad
 |_ => Ac
noncomputable def HV : Ao -> An
 |.Slice _ _ _ _ => Ad
 |_ => Ac
noncomputable def Ik : Ao -> An
 |.Set _ _ _ => Ad
 |_ => Ac
noncomputable def GJ : Ao -> An
 |.ListComp _ _ _ _ => Ad
 |.SetComp _ _ _ _ => Ad
 |.DictComp _ _ _ _ _ => Ad
 |_ => Ac
noncomputable def Nn(tu : An) : Ao -> An
 |.Tuple .. => tu
 |.Name .. => !tu
 |_ => Ad
noncomputable def WM : Ao -> An
 |.Tuple _ _ _ => Ac
 |_ => Ad
noncomputable def Jg : Ao -> An
 |.UnaryOp _ _ _ => Ad
 |.BoolOp _ _ _ => Ad
 |.IfExp _ _ _ _ => Ad
 |.Compare _ _ _ _ => Ad
 |_ => Ac
noncomputable def JX : Ki -> Al Aj
 |.int => Aa "int"
 |.bool => Aa "bool"
 |.str => Aa "str"
 |.list => Aa "list"
 |.tuple => Aa "tuple"
 |_ => Af
noncomputable def JY : BI -> Al Aj
 |.len => Aa "len"
 |.abs => Af
 |.max => Aa "max"
 |.min => Aa "min"
 |.int => Af
 |.list => Aa "list"
 |.tuple => Aa "tuple"
 |.all => Aa "all"
 |.any => Af
 |.sum => Af
 |.sorted => Af
 |.tmin => Af
 |.tmax => Af
 |_ => Af
noncomputable def JS(o scope : Bx) : Bx := {scope with names := scope.names.map fun (n, k) => if (k==.free&&o.kind==.function&&o.names.lookup n==Aa .cell) then (n, .cell) else (n, k)}
noncomputable def Hq : Ab Ag -> Ab Aj -> Ab Aj -> Ab Aj
 |t::ts, x::xs, N => Hq ts xs ((N.map fun y => if y==x then N.getD t x else y).set t x)
 |_, _, N => N
noncomputable def Hg : Ab Aj -> An
 |[] => Ac
 |x::xs => !xs.contains x&&Hg xs
noncomputable def Iv(T : Tc)(scope : Bx)(ts : Ab Ag)(N' : Ab Aj) : An:=
  scope.kind==.function&&scope.names.all (fun y => scope.names.lookup y.1==Aa y.2) &&
  scope.names.all (fun y => y.2 != .free||T.sc.names.lookup y.1==Aa .cell||T.sc.names.lookup y.1==Aa .free) &&
  N'.length==T.N.length&&Hg N' &&
  (B7 N'.length).all fun i => ts.contains i||(match N'[i]? with
    |some x => (scope.names.lookup x != Aa .local&&scope.names.lookup x != Aa .cell)&&(scope.names.lookup x != Aa .free||T.N[i]? == Aa x)
    | none => Ac)
noncomputable def EM : Ab Ao -> Al (Ab Aj)
 |[] => Aa []
 |.Name x _::r => (EM r).map (x :: ·)
 |_ => Af
noncomputable def tgN(ys : Ab Ao) : Ab Aj := (EM ys).getD []
noncomputable def tgO(T : Tc)(scope : Bx)(t : Ag)(x : Aj) : An := T.N[t]? == Aa x&&(T.sc.names.lookup x==Aa .local||(T.sc.names.lookup x==Aa .cell&&scope.names.lookup x==Aa .cell))
noncomputable def tgC(T : Tc) : Ab Ag -> Ab Aj -> An
 |[], [] => Ac
 |t::ts, x::xs => T.N[t]? == Aa x&&Gn T x&&tgC T ts xs
 |_, _ => Ad
noncomputable def Tc.blk(T : Tc)(scope : Bx)(ts : Ab Ag)(xs : Ab Aj) : Tc := {T with sc := JS T.sc scope, N := Hq ts xs T.N}
noncomputable def NA : Ao -> Al (Ao × Ao × AI)
  | .Compare x ops ys p => (match ops with
    | [.Lt] => (match ys with
      |[y] => Aa (x, y, p)
      | _ => Af)
    | _ => Af)
  |_ => Af
noncomputable def J2(_ : Es) : Al (E × E) := Af
noncomputable def Nm(_ : Tc)(_ : Tc -> Ao -> E -> An)(_ : Ao)(_ : Ab CS)(_ : Ab Ao)(_ : BI)(_ : Es) : An := Ad
noncomputable def Nw(T : Tc)(e : Ao)(b : BI)(as : Es) : An := Ad
noncomputable def Mn : Ao -> Al (Aj × AI)
 |.Name x p => Aa (x, p)
 |_ => Af
noncomputable def Mo : Ao -> Al (Ao × Ab Ao × Ab Ea × AI)
 |.Call f as ks p => Aa (f, as, ks, p)
 |_ => Af
noncomputable def W2 : Ao -> Al (Ab Ao × Ag × AI)
 |.Tuple es k p => Aa (es, k, p)
 |_ => Af
noncomputable def one{α : Type} : Ab α -> Al α
 |[a] => Aa a
 |_ => Af
noncomputable def Nx(e : Ao) : Al (Aj × Aj × Ab Ao) := (Mo e).bind fun c => (Mn c.1).bind fun g => (one c.2.1).bind fun a => (Mo a).bind fun d => (Mn d.1).bind fun h => if (c.2.2.1.isEmpty&&d.2.2.1.isEmpty) = Ac then Aa (g.1, h.1, d.2.1) else Af
noncomputable def NM(e : Ao) : Al (Aj × Aj × Ao × Ao) := match Nx e with
  | some (g, h, bs) => (match bs with
    |[x, y] => Aa (g, h, x, y)
    | _ => Af)
  |none => Af
noncomputable def J6(_ : Es) : Al (E × E) := Af
noncomputable def NL(e : Ao) : Al (Aj × Aj × Ao) := match Nx e with
  | some (g, h, bs) => (match bs with
    |[x] => Aa (g, h, x)
    | _ => Af)
  |none => Af
noncomputable def J4(_ : Es) : Al E := Af
noncomputable def two(e : Ao) : Al (Ao × Ao) := (W2 e).bind fun t => match t.1 with
  |[a, b] => Aa (a, b)
  |_ => Af
noncomputable def Kl(_ : Es) : Al E := Af
noncomputable def Nb(_ : Ao) : Al Ao := Af
noncomputable def No : Ao -> Al (Ao × Ae)
  | .Subscript v s _ => (match s with
    | .Slice lo hi st _ => (match lo with
      | some (.Constant (.int k) _ _) => (match hi with
        | none => (match st with
          |some (.Constant (.int j) _ _) => if j = 2 then Aa (v, k) else Af
          | _ => Af)
        | some _ => Af)
      | _ => Af)
    | _ => Af)
  |_ => Af
noncomputable def J3(_ : Es) : Al (E × Ae) := Af
mutual
noncomputable def AT : Ag -> Tc -> Ao -> E -> An
  |0, _, _, _ => Ad
  |n+1, T, e, c => match c with
    |.non => (match e with | .Constant .none _ _ => Ac|_ => Ad)
    |.bl b => (match e with | .Constant (.bool b') _ _ => b' == b|_ => Ad)
    |.int i => (match e with | .Constant (.int j) _ _ => decide (j = i)|_ => Ad)
    |.str x => (match e with | .Constant (.str y) _ _ => decide (y = x)|_ => Ad)
    |.var i => (match e with | .Name x _ => isV T x i|_ => Ad)
    |.glob g => Ad
    |.bin op a b => (match e with | .BinOp x op' y _ => decide (op' = op)&&AT n T x a&&AT n T y b|_ => Ad)
    |.un op a => Ad
    |.no a => (match e with | .UnaryOp .Not x _ => AT n T x a|_ => Ad)
    |.and es => (match e with | .BoolOp .And xs _ => chkEs n T xs es && !xs.isEmpty|_ => Ad)
    |.or es => (match e with | .BoolOp .Or xs _ => chkEs n T xs es && !xs.isEmpty|_ => Ad)
    |.cmp op a b => (match e with | .Compare x [op'] [y] _ => decide (op' = op) && !behindInMarks op y&&AT n T x a&&AT n T y b|_ => Ad)
    |.cmp2 op1 op2 a b c => (match e with | .Compare x [o1, o2] [y, z] _ => decide (o1 = op1)&&decide (o2 = op2) && !lastMarks [op1, op2] [y, z]&&AT n T x a&&AT n T y b&&AT n T z c|_ => Ad)
    |.ite c a b => Ad
    |.call f as => (match e with | .Call (.Name g _) (x::xs) [] _ => (T.fns.any fun p => p.1==g&&p.2.1==f&&p.2.2==xs.length+1)&&decide (xs.length<900)&&glB T g&&Ht g&&chkEs n T (x::xs) as|_ => Ad)
    |.bi b as => (match e with | .Call (.Name g _) (x::xs) [] _ => JY b==Aa g&&isB T g&&chkEs n T (x::xs) as|_ => Ad)||Nw T e b as||(match J6 as with|some (a, c) => (match NM e with|some (g, h, x, y) => decide (b = .list)&&g==("list" : Aj)&&h==("range" : Aj)&&isB T g&&isB T h&&C0 x&&C0 y&&AT n T x a&&AT n T y c|none => Ad)|none => Ad)||(match J3 as with|some (a, k) => (match No e with|some (x, j) => decide (b = .stp)&&decide (j = k)&&decide (0 <= k)&&AT n T x a|none => Ad)|none => Ad)||(match J4 as with|some a => (match NL e with|some (g, h, x) => decide (b = .lset)&&g==("len" : Aj)&&h==("set" : Aj)&&isB T g&&isB T h&&C0 x&&AT n T x a|none => Ad)|none => Ad)||(match J2 as with|some (a, c) => (match NA e with|some (x, y, _) => decide (b = .tlt) && !behindInMarks .Lt y&&AT n T x a&&AT n T y c|none => Ad)|none => Ad)||(match Kl as with|some a => (match Nb e with|some x => decide (b = .rvs)&&AT n T x a|none => Ad)|none => Ad)
    |.isi a ks => (match ks with | [k] => (match e with | .Call (.Name g _) [x, .Name t _] [] _ => g==("isinstance" : Aj)&&isB T g&&JX k==Aa t&&isB T t&&C0 x&&AT n T x a|_ => Ad)|_ => Ad)
    |.idx a i => (match e with | .Subscript x y _ => HV y&&AT n T x a&&AT n T y i|_ => Ad)
    |.sl a lo hi => (match e with | .Subscript x (.Slice l h Af _) _ => AT n T x a&&chkO n T l lo&&chkO n T h hi|_ => Ad)
    |.tup es => (match e with | .Tuple xs _ _ => chkEs n T xs es&&decide (xs.length <= 1000)|_ => Ad)
    |.lst es => (match e with | .List xs _ => chkEs n T xs es&&decide (xs.length <= 1000)|_ => Ad)
    |.comp elt t it c => (match e with | .ListComp x [⟨.Name y _, iter, ifs, 0⟩] scope _ => chkI n T Ad iter it&&Ik iter&&Iv T scope [t] (Hq [t] [y] T.N)&&tgO (T.blk scope [t] [y]) scope t y&&chkT n (T.blk scope [t] [y]) ifs c&&AT n (T.blk scope [t] [y]) x elt|_ => Ad)
    |.compT elt ts it c => Ad
    |.tupI _ => Ad
    |.dget i a c => (match xMt e with|some (x, m, y, z) => m==("get" : Aj)&&isV T x i&&C0 y&&C0 z&&AT n T y a&&AT n T z c|none => Ad)
    |.fld _ _ => Ad
noncomputable def Go : Ag -> Tc -> Ao -> E -> An
  |0, _, _, _ => Ad
  |n+1, T, e, c => match e with
    |.UnaryOp .Not x _ => (match c with | .no a => Go n T x a|_ => Ad)
    |.BoolOp .And xs _ => (match c with | .and es => chkBs n T xs es && !xs.isEmpty|_ => Ad)
    |.BoolOp .Or xs _ => (match c with | .or es => chkBs n T xs es && !xs.isEmpty|_ => Ad)
    | .Compare x ops ys _ => (match c with
      |.cmp op a b => (match ops, ys with | [op'], [y] => decide (op' = op) && !behindInMarks op y&&AT n T x a&&AT n T y b|_, _ => Ad)
      |.cmp2 op1 op2 a b c => (match ops, ys with | [o1, o2], [y, z] => decide (o1 = op1)&&decide (o2 = op2) && !lastMarks [op1, op2] [y, z]&&AT n T x a&&AT n T y b&&AT n T z c|_, _ => Ad)
      |.bi b as => Nm T (AT n) x ops ys b as
      | _ => Ad)
    |e => Jg e&&AT n T e c
noncomputable def chkBs : Ag -> Tc -> Ab Ao -> Es -> An
  |0, _, _, _ => Ad
  |n+1, T, xs, es => match xs, es with
    |[], .nil => Ac
    |x::xs, .cons e es => Go n T x e&&chkBs n T xs es
    |_, _ => Ad
noncomputable def chkEs : Ag -> Tc -> Ab Ao -> Es -> An
  |0, _, _, _ => Ad
  |n+1, T, xs, es => match xs, es with
    |[], .nil => Ac
    |x::xs, .cons e es => C0 x&&AT n T x e&&chkEs n T xs es
    |_, _ => Ad
noncomputable def chkO : Ag -> Tc -> Al Ao -> E -> An
  |0, _, _, _ => Ad
  |n+1, T, x, e => match x with
    |none => (match e with | .non => Ac|_ => Ad)
    |some x => (match e with | .non => Ad|e => AT n T x e)
noncomputable def chkT : Ag -> Tc -> Ab Ao -> E -> An
  |0, _, _, _ => Ad
  |n+1, T, xs, e => match xs with
    |[] => (match e with | .bl Ac => Ac|_ => Ad)
    |[x] => Go n T x e
    |_ => Ad
noncomputable def chkI : Ag -> Tc -> An -> Ao -> I -> An
  |0, _, _, _, _ => Ad
  |n+1, T, tu, e, i => match i with
    |.e a => AT n T e a
    |.rng a => (match e with | .Call (.Name g _) [x] [] _ => g==("range" : Aj)&&isB T g&&C0 x&&AT n T x a|_ => Ad)
    |.enm a => Ad
    |.zip a b => Ad
    |.rng2 a b => (match e with | .Call (.Name g _) [x, y] [] _ => g==("range" : Aj)&&isB T g&&C0 x&&C0 y&&AT n T x a&&AT n T y b|_ => Ad)
    |.zip3 a b c => Ad
end
noncomputable def MX(_ : Ag)(_ : Tc)(_ : Ag)(_ : Ab Bc)(_ : Ss) : An := Ad
mutual
noncomputable def DG : Ag -> Tc -> Bc -> S -> An
  |0, _, _, _ => Ad
  |n+1, T, st, s => match s with
    |.pass => Ad
    |.brk => Ad
    |.cont => Ad
    |.asg i _ e => (match st with | .Assign [.Name x _] v _ => T.N[i]? == Aa x&&Gn T x&&AT n T v e|_ => Ad)
    |.asgT ts e => Ad
    |.expr e => (match st with | .Expr v _ => GJ v&&AT n T v e|_ => Ad)
    |.ret e => (match st with | .Return (Aa v) _ => AT n T v e|_ => Ad)
    |.retN => Ad
    |.ife c a b => (match st with | .If t xs ys _ => Go n T t c&&chkSs n T xs a&&chkSs n T ys b|_ => Ad)
    |.fors t it body => (match st with | .For (.Name x _) iter xs [] _ => tgC T [t] [x]&&Ik iter&&chkI n T Ad iter it&&chkSs n T xs body|_ => Ad)
    |.forT ts it body => (match st with | .For (.Tuple ys _ _) iter xs [] _ => (EM ys).isSome&&tgC T ts (tgN ys)&&Ik iter&&chkI n T Ac iter it&&chkSs n T xs body|_ => Ad)
    |.whl c body => Ad
    |.rais c as => !(T.rzs.any fun p => p.2==c)
    |.tryx _ _ _ _ => Ad
    |.try2 _ _ _ _ _ _ _ => Ad
    |.app i e => Ad
    |.ext i e => Ad
    |.rev i => Ad
    |.clr i => Ad
    |.put i k e => (match st with | .Assign [.Subscript (.Name x _) y _] v _ => isV T x i&&HV y&&AT n T y k&&AT n T v e|_ => Ad)
    |.swp _ _ _ => Ad
    |.apop _ _ _ => Ad
    |.ins _ _ _ => Ad
    |.dnw i => (match st with | .Assign [.Name x _] v _ => T.N[i]? == Aa x&&Gn T x&&Ni v|_ => Ad)
    |.dput i k e => (match st with | .Assign [.Subscript (.Name x _) y _] v _ => isV T x i&&HV y&&AT n T y k&&AT n T v e|_ => Ad)
    |.dsd i k e => (match st with | .Expr w _ => (match xMt w with|some (x, m, y, v) => m==("setdefault" : Aj)&&isV T x i&&C0 y&&C0 v&&AT n T y k&&AT n T v e|none => Ad)|_ => Ad)
    |.rel _ => Ad
noncomputable def chkSs : Ag -> Tc -> Ab Bc -> Ss -> An
  |0, _, _, _ => Ad
  |n+1, T, sts, ss => match ss with
    |.nil => sts.isEmpty
    |.cons (.rel i) ss => chkSs n T sts ss
    | .cons s ss => (match sts with
      |st::r => DG n T st s&&chkSs n T r ss
      | [] => Ad)
end
noncomputable def EZ(fuel : Ag)(hot : An)(fns : Ab (Aj × Ag × Ag))(bl : Ab Aj)(rzs exs gls : Ab (Aj × Ag))(ps N : Ab Aj)(st : Bc)(df : Df) : An:=
  let sc := Dm st
  sc.kind==.function && !sc.isCoroutine && !sc.isGenerator&&Hg N&&N.take ps.length==ps&&ps.all (fun x => sc.names.lookup x==Aa .local||sc.names.lookup x==Aa .cell)&&sc.names.all (fun y => y.2 != .free)&&N.length==df.n &&
  (match hot with
  |true => MX fuel ⟨sc, N, fns, bl, rzs, exs, gls⟩ 0 (EO st) df.body
  | false => chkSs fuel ⟨sc, N, fns, bl, rzs, exs, gls⟩ (EO st) df.body)
structure XT (up : Ag -> Ab Ag) (xn : Ag -> Ab D -> R Ex) (CL : ClA) (rzs exs : Ab (Aj × Ag)) (K : Fg) (mg : Aj -> Al Ah) : Prop where
 xc : ∀ c C, CL c = Aa C -> XcOk K C
 rz : ∀ p ∈ rzs, ∃ C, CL p.2 = Aa C /\ mg p.1 = Aa (.ref C)
 ex : ∀ p ∈ exs, ∃ C, mg p.1 = Aa (.ref C) /\ Ve K CL up p.2 C /\ ∀ c D, CL c = Aa D -> OU K (.ref D) (.ref C) = Aa ((up c).contains p.2)
 made : ∀ c C ds, CL c = Aa C -> xn c ds = .bad \/ (xn c ds = .ok ⟨c, []⟩ /\ J9 K C Af = Ac) \/ ∃ f, XIn K mg C f /\ W7 xn c f ds
 nf : ∀ c C, CL c = Aa C -> ∀ f : Aj, (f==("triple" : Aj)||f==("points" : Aj)) = Ac -> Nf K C = Ac /\ CV K (.ref C) f = Aa Af
 xb : ∀ c, (∀ p ∈ rzs, p.2 ≠ c) -> ∀ ds, xn c ds = .bad
noncomputable def Kh(K : Fg)(mg : Aj -> Al Ah)(CL : ClA)(x : Aj)(d : D) : Prop := ∃ u v, mg x = Aa u /\ A4 v u /\ ∀ H A, Rep K CL H A v d
structure VX (Γ : Gam) (CL : ClA) (k : Ag) (W : XW) (T : Tc) (X : Cx) : Prop where
 sc : X.env.scope = T.sc
 kd : T.sc.kind = .function
 N : X.N = T.N
 nd : T.N.Nodup
 calm : X.calm = Ac
 room : Room k X.A
 bl : ∀ x, x ∈ T.bl -> X.mg x = Af
 fn : ∀ p ∈ T.fns, ∃ f fd ps, X.mg p.1 = Aa (.ref f) /\ Cd X.K (.ref f) = Ac /\ EX X.K fd ps [] /\ ps.length = p.2.2%1000 /\ (p.2.2<1000 -> FnOk X.prog X.w X.K X.mg X.base (CXR X.prog X.w) k f fd ps (spD X.K CL (p.2.2%1000) (Γ.fr p.2.1) (Γ.F p.2.1))) /\ (1000 <= p.2.2 -> HotOk X.prog X.w X.K X.mg X.base k f fd ps (spH X.K CL (p.2.2%1000) (Γ.fr p.2.1) (Γ.F p.2.1)))
 own : DM (model X.prog X.w) X.A X.env X.xe
 px : ∀ A, GH (CXR X.prog X.w) X (EKW X.K CL A W)
 rz : Kn X CL W
 xt : XT Γ.up Γ.xn CL T.rzs T.exs X.K X.mg
 gl : ∀ p ∈ T.gls, Kh X.K X.mg CL p.1 (Γ.G p.2)
theorem MD : ∀ A, GH (CXR X.prog X.w) X (EKW X.K CL A W0) := fun A pI σ H s ev s' I h => by
 obtain⟨e, T, cls, dx, H', _, _, _, _, _, _, _, _, _, _, x, _, w⟩ := h;exact w.elim
theorem Na : Kn X CL W0 := fun _ _ _ _ _ _ _ _ _ _ _ _ _ _ z => z.elim
noncomputable def Rf{α : Type}(g f : Rho -> R α) : Prop := ∀ ρ, g ρ = .bad \/ g ρ = f ρ
section
variable{X : Cx}{CL : ClA}{W : XW}{a : Ao}{f g : Rho -> R D}
theorem SE.ref(h : SE X CL W a f)(r : Rf g f) : SE X CL W a g := fun A => PE.weak (h A) fun σ H Q ⟨hA, ρ, q, p⟩ => ⟨hA, ρ, q, by
 rcases r ρ with e|e
 ·rw[e]at p;exact p.elim
 ·rw[e]at p;exact p⟩
theorem SB.ref{f g : Rho -> R An}(h : SB X CL W a f)(r : Rf g f) : SB X CL W a g := fun A => PT.weak (h A) fun σ H Q ⟨hA, ρ, q, p⟩ => ⟨hA, ρ, q, by
 rcases r ρ with e|e
 ·rw[e]at p;exact p.elim
 ·rw[e]at p;exact p⟩
theorem SW.ref{f g : Rho -> R An}(h : SW X CL W a f)(r : Rf g f) : SW X CL W a g := fun A => PW.weak (h A) fun σ H Q ⟨hA, ρ, q, p⟩ => ⟨hA, ρ, q, by
 rcases r ρ with e|e
 ·rw[e]at p;exact p.elim
 ·rw[e]at p;exact p⟩
theorem SC.ref(h : SC X CL W fr a f)(r : Rf g f) : SC X CL W fr a g := fun A => PE.weak (h A) fun σ H Q ⟨hA, ρ, q, p⟩ => ⟨hA, ρ, q, by
 rcases r ρ with e|e
 ·rw[e]at p;exact p.elim
 ·rw[e]at p;exact p⟩
theorem SS.ref{st : Bc}{f g : Rho -> O}(h : SS X CL W st f)(r : ∀ ρ, g ρ = .bad \/ g ρ = f ρ) : SS X CL W st g := fun Fz B => PS.weak (h Fz B) fun D σ H ⟨ρ, x, p⟩ => ⟨ρ, x, by
 rcases r ρ with e|e
 ·rw[e]at p;exact p.elim
 ·rw[e]at p;exact p⟩
end
theorem HE : ∀{l : Ab Aj}, Hg l = Ac -> l.Nodup
 |[], _ => Oh
 |x::xs, h => by
  unfold Hg at h;simp only[Am, Bk, N4, decide_eq_false_iff_not]at h;exact List.nodup_cons.mpr ⟨h.1, HE h.2⟩
section
variable{T : Tc}{X : Cx}{Γ : Gam}{CL : ClA}{k : Ag}{W : XW}
theorem RA(h : Kb T x = Ac) : Vis T.sc x := by
 unfold Kb at h;split at h
 ·exact .inl (by assumption)
 ·exact .inr (.inl (by assumption))
 ·exact .inr (.inr (by assumption))
 ·cases h
theorem HX(h : Gn T x = Ac) : Loc T.sc x := by
 unfold Gn at h;split at h
 ·exact .inl (by assumption)
 ·exact .inr (by assumption)
 ·cases h
theorem JB(h : Ht x = Ac) : (x==("__debug__" : Aj)) = Ad /\ (x==("__classdict__" : Aj)) = Ad /\ x ≠ "__name__" := by
 unfold Ht at h;simp only[Am, Bk]at h;exact⟨h.1.1, h.1.2, fun e => by subst e;exact absurd h.2 (by simp)⟩
theorem Gi{i : Ag}(v : VX Γ CL k W T X)(h : isV T x i = Ac) : PE X (.Name x pos) (FC i) := by
 unfold isV at h;simp only[Am, A9]at h;obtain⟨h2, h3, _⟩ := JB h.2;exact TR (by rw[v.N];exact h.1.1) (by rw[v.sc];exact RA h.1.2) h2 h3
theorem Hi(v : VX Γ CL k W T X)(h : isB T x = Ac) : Gl X x /\ X.mg x = Af /\ x ≠ "__name__" /\ (x==("__debug__" : Aj)) = Ad := by
 unfold isB glB at h;simp only[Am, A9, N4, A1]at h;obtain⟨h2, h3, h4⟩ := JB h.2;exact⟨by show X.env.scope.names.lookup x = _;rw[v.sc];exact h.1.2, v.bl x h.1.1, h4, h2⟩
theorem Cr{x:Ao}(h : C0 x = Ac) : At (x::xs) env = (Ad, eval x env)::At xs env := by
 cases x <;> first|rfl|cases h
theorem Qi(h : HV y = Ac) : Jz y := by
 intro o i;cases y <;> first|rfl|cases h
theorem JK{e : Ao}(h : Ik e = Ac) : ∀ x, BP e env x = pure x := by
 intro x;cases e <;> first|rfl|cases h
theorem Mb{e : Ao}{t : Al Ao}(h : GJ e = Ac) : CA e t l env = pure Ad := by
 cases e <;> first|rfl|cases h
theorem RK{e : Ao}(h : Jg e = Ac) : ∀ whole, Fh e env whole = (do let v <-whole;Fk e.pos;holding [v] (truthy v)) := by
 intro whole;cases e <;> first|rfl|cases h
theorem PK(v : VX Γ CL k W T X)(scope : Bx) : relabel scope X.env = JS T.sc scope := by
 unfold relabel JS;have : ∀ n, X.env.kindOf n = T.sc.names.lookup n := fun n => by show X.env.scope.names.lookup n = _;rw[v.sc]
 simp only[this, v.sc]
theorem Mm{N':Ab Aj}(v : VX Γ CL k W T X)(h : Iv T scope ts N' = Ac) : BlockOk X scope N' ts /\ N'.Nodup /\ scope.kind = .function := by
 unfold Iv at h;simp only[Am, A9, NY, CK, Gw, ne_eq]at h;obtain⟨⟨⟨⟨⟨h1, h2⟩, h4⟩, h5⟩, h6⟩, h7⟩ := h;have at7 : ∀ i x, N'[i]? = Aa x -> i ∈ ts \/ ((scope.names.lookup x ≠ Aa .local /\ scope.names.lookup x ≠ Aa .cell) /\ (scope.names.lookup x ≠ Aa .free \/ T.N[i]? = Aa x)) := fun i x e => by
  have hi := (AU.mp e).1;have := h7 i (B0.mpr hi);rcases this with z|z
  ·exact .inl (by simpa using z)
  ·rw[e]at z;simp only[Am, Gw, ne_eq, CK, A9]at z;exact .inr z
 refine⟨⟨h1, h2, fun y hy hl => by rw[h2 y hy, hl], fun y hy hf => ?_, by rw[v.N];exact h5, fun i x e hf hn => ?_, fun i x e hl => ?_⟩, HE h6, h1⟩
 ·rw[v.sc];rcases h4 y hy with (z|z)|z
  ·exact absurd hf z
  ·exact .inl z
  ·exact .inr z
 ·rw[v.N];rcases at7 i x e with z|⟨_, z⟩
  ·exact absurd z hn
  ·exact z.resolve_left fun q => q hf
 ·rcases at7 i x e with z|⟨z, _⟩
  ·exact z
  ·exact hl.elim (fun q => absurd q z.1) (fun q => absurd q z.2)
theorem VX.blk{xs:Ab Aj}{cl:Ab (Aj × Ai)}{C:Ai}{s : Ak}{fp:Ab Ai}(v : VX Γ CL k W T X)(h : Iv T scope ts (Hq ts xs T.N) = Ac) : VX Γ CL k W0 (T.blk scope ts xs) (cxC X scope cl C (Hq ts xs T.N) s H fp) := by
 obtain⟨_, h2, h3⟩ := Mm v h;exact⟨PK v scope, h3, rfl, h2, v.calm, v.room, v.bl, v.fn, PassesOwn.never, MD, Na, v.xt, v.gl⟩
theorem RG{t : Ag}(v : VX Γ CL k W T X)(hfn : scope.names.lookup x = Aa .cell -> X.fn x = Ac)(h : tgO T scope t x = Ac) : PG X (.Name x pos) (Ew t) := by
 unfold tgO at h;simp only[Am, CK, A9]at h;rcases h with ⟨h1, h2|h2⟩
 ·exact HS (by rw[v.N];exact v.nd) (by rw[v.N];exact h1) (by rw[v.sc];exact .inl h2) (.inr (by rw[v.sc];exact h2))
 ·exact HS (by rw[v.N];exact v.nd) (by rw[v.N];exact h1) (by rw[v.sc];exact .inr h2.1) (.inl (hfn h2.2))
theorem KC{r:Ab Ao}{zs:Ab Aj}(h : EM (y::r) = Aa zs) : ∃ x p ws, y = .Name x p /\ EM r = Aa ws /\ zs = x::ws := by
 cases y with
 |Name x p=>
  have h' : (EM r).map (x :: ·) = Aa zs := h;cases e : EM r with
  |none => rw[e]at h';cases h'
  |some ws => rw[e]at h';cases h';exact⟨x, p, ws, rfl, rfl, rfl⟩
 |_ => cases h
theorem Ly(x : Aj)(p : AI)(r : Ab Ao)(env : BG) : BX (.Name x p::r) env = (Ad, assign (.Name x p) env)::BX r env := rfl
theorem Pe : ∀(ys : Ab Ao)(zs : Ab Aj), EM ys = Aa zs -> (BX ys env).length = ys.length /\ (BX ys env).findIdx? (·.1) = Af /\ (BX ys env).map (·.2) = ys.map fun y => assign y env := by
 intro ys
 induction ys with
 |nil => intro _ _;exact⟨rfl, rfl, rfl⟩
 |cons y r ih=>
  intro zs h;obtain⟨x, p, ws, rfl, e, rfl⟩ := KC h;obtain⟨h1, h2, h3⟩ := ih ws e;rw[Ly];refine⟨?_, ?_, ?_⟩
  ·rw[DB, DB, h1]
  ·rw[List.findIdx?_cons, h2];simp
  ·rw[Bm, Bm, h3]
end
noncomputable def Es.len : Es -> Ag
 |.nil => 0
 |.cons _ es => es.len+1
theorem JF(Γ : Gam)(ρ : Rho) : ∀(es : Es)(ds : Ab D), evA Γ ρ es = .ok ds -> ds.length = es.len
 |.nil, ds, h => by cases h;rfl
 |.cons e es, ds, h => by
  obtain⟨x, h1, h2⟩ := Ga (Lg Γ ρ e es ▸ h);obtain⟨xs, h3, h4⟩ := Ga h2;cases h4;exact congrArg (· + 1) (JF Γ ρ es xs h3)
theorem L8(Γ : Gam)(ρ : Rho) : ∀(es : Es)(ds : Ab D), evB Γ ρ es = .ok ds -> ds.length = es.len
 |.nil, ds, h => by cases h;rfl
 |.cons e es, ds, h => by
  obtain⟨x, h1, h2⟩ := Ga (Lf Γ ρ e es ▸ h);obtain⟨xs, h3, h4⟩ := Ga h2;cases h4;exact congrArg (· + 1) (L8 Γ ρ es xs h3)
theorem Mq(Γ : Gam)(ρ : Rho)(e : E)(h : shE ρ e = Ac) : top ρ e (evE Γ ρ e) = evE Γ ρ e := by
 cases e with
 |var i=>
  show Bg ρ i = Dv ρ i;have h' : shV ρ i = Ac := h;unfold shV at h';unfold Bg Dv;cases q : ρ[i]? with
  |none => rfl
  |some x=>
   cases x with
   |none => rfl
   |some y=>
    obtain⟨d, o⟩ := y;cases o with
    |true => rw[q]at h';cases h'
    |false => rfl
 |_ => rfl
theorem Mk(Γ : Gam)(ρ : Rho) : ∀(es : Es), FZ ρ es = Ac -> evB Γ ρ es = evA Γ ρ es
 |.nil, _ => rfl
 |.cons e es, h => by
  simp only[Ps, Am]at h;rw[Lg, Lf, Mq Γ ρ e h.1, Mk Γ ρ es h.2]
theorem JH(Γ : Gam)(c : E) : Rf (fun ρ => evE Γ ρ c) (fun ρ => top ρ c (evE Γ ρ c)) := fun ρ => by
 by_cases h : shE ρ c = Ac
 ·exact .inr (Mq Γ ρ c h).symm
 ·cases c with
  |var i=>
   refine .inl ?_;show Dv ρ i = .bad;have h' : ¬ shV ρ i = Ac := h;unfold shV at h';unfold Dv;cases q : ρ[i]? with
   |none => rfl
   |some x=>
    cases x with
    |none => rfl
    |some y=>
     obtain⟨d, o⟩ := y;cases o with
     |true => rfl
     |false => rw[q]at h';exact absurd rfl h'
  |_ => exact absurd rfl h
noncomputable def Pcs(X : Cx)(CL : ClA)(W : XW)(e : Ao)(f : Rho -> R D) : Prop := ∃ tg iter elt ifs scope pos N' ts fi fc fe as g, e = .ListComp elt [⟨tg, iter, ifs, 0⟩] scope pos /\ BlockOk X scope N' ts /\ SI X CL W tg iter fi /\ GG X.K CL ts as g /\
 (∀ cl C s H fp, PG (cxC X scope cl C N' s H fp) tg g) /\ (∀ cl C s H fp, STs (cxC X scope cl C N' s H fp) CL ifs fc) /\ (∀ cl C s H fp, SE (cxC X scope cl C N' s H fp) CL W0 elt fe) /\ (∀ x, BP iter X.env x = pure x) /\
 ∀ ρ, f ρ = (fi ρ).bind fun xs => (noX (Bp (fun x => (as x ρ).bind fc) (fun x => (as x ρ).bind fe) xs)).bind fun ys => .ok (.lst ys)
theorem Pcs.sc{W:XW}{e : Ao}{f : Rho -> R D}(hc : X.calm = Ac)(h : Pcs X CL W e f) : SC X CL W Ac e f := by
 obtain⟨tg, iter, elt, ifs, scope, pos, N', ts, fi, fc, fe, as, g, rfl, B, hi, hGG, hg, ht, he, hs, ef⟩ := h;exact SC.congr (Ri hc B hi hGG hg ht he hs) ef
structure OkE (Γ : Gam) (CL : ClA) (W : XW) (X : Cx) (e : Ao) (c : E) : Prop where
 se : SE X CL W e (fun ρ => evE Γ ρ c)
 st : ST X CL W e (fun ρ => top ρ c (evE Γ ρ c))
 nw : Dw Γ c = Ac -> SC X CL W Ac e (fun ρ => evE Γ ρ c)
 cp : GJ e = Ad -> Pcs X CL W e (fun ρ => evE Γ ρ c)
section
variable{Γ : Gam}{CL : ClA}{W : XW}{X : Cx}{e : Ao}{c : E}
theorem Dc(h : SE X CL W e (fun ρ => evE Γ ρ c))(ht : ∀ ρ r, top ρ c r = r)(hn : Dw Γ c = Ad)(hc : GJ e = Ac) : OkE Γ CL W X e c:=
 ⟨h, by simp only[ht];exact h.st, fun z => absurd z (by rw[hn];decide), fun z => absurd z (by rw[hc];decide)⟩
theorem JG(h : SC X CL W Ac e (fun ρ => evE Γ ρ c))(ht : ∀ ρ r, top ρ c r = r)(hc : GJ e = Ac) : OkE Γ CL W X e c:=
 ⟨h.se, by simp only[ht];exact h.se.st, fun _ => h, fun z => absurd z (by rw[hc];decide)⟩
theorem Wa(hc : X.calm = Ac)(h : Pcs X CL W e (fun ρ => evE Γ ρ c))(ht : ∀ ρ r, top ρ c r = r) : OkE Γ CL W X e c:=
 ⟨(h.sc hc).se, by simp only[ht];exact(h.sc hc).se.st, fun _ => h.sc hc, fun _ => h⟩
end
theorem WZ{k:Ki}(h : JX k = Aa x) : ∃ T, tyK k = Aa T /\ BW x = Aa (.type T) := by
 cases k <;> simp only[JX]at h <;> cases h
 ·exact⟨_, rfl, PyProof.Rows.boot_int⟩
 ·exact⟨_, rfl, PyProof.Rows.boot_bool⟩
 ·exact⟨_, rfl, PyProof.Rows.boot_str⟩
 ·exact⟨_, rfl, Ou⟩
 ·exact⟨_, rfl, Ow⟩
structure Snd (Γ : Gam) (CL : ClA) (k : Ag) (n : Ag) : Prop where
 e : ∀(W : XW)(T : Tc)(X : Cx)(x : Ao)(c : E), VX Γ CL k W T X -> AT n T x c = Ac -> OkE Γ CL W X x c
 b : ∀(W : XW)(T : Tc)(X : Cx)(x : Ao)(c : E), VX Γ CL k W T X -> Go n T x c = Ac -> SB X CL W x (fun ρ => (top ρ c (evE Γ ρ c)).bind Bu)
 bs : ∀(W : XW)(T : Tc)(X : Cx)(xs : Ab Ao)(es : Es)(pos : AI), VX Γ CL k W T X -> chkBs n T xs es = Ac -> xs ≠ [] -> SW X CL W (.BoolOp .And xs pos) (fun ρ => (evN Γ ρ es).bind Bu) /\ SW X CL W (.BoolOp .Or xs pos) (fun ρ => (evO Γ ρ es).bind Bu)
 es : ∀(W : XW)(T : Tc)(X : Cx)(xs : Ab Ao)(es : Es), VX Γ CL k W T X -> chkEs n T xs es = Ac -> SA X CL W xs (fun ρ => evA Γ ρ es) /\ SAT X CL W xs (fun ρ => evB Γ ρ es) /\ xs.length = es.len /\ (∀ pos, xs ≠ [] -> SE X CL W (.BoolOp .And xs pos) (fun ρ => evN Γ ρ es) /\ SE X CL W (.BoolOp .Or xs pos) (fun ρ => evO Γ ρ es)) /\ (∀ pos, (BN pos (At xs X.env)).any (·.1) = Ad)
 o : ∀(W : XW)(T : Tc)(X : Cx)(x : Al Ao)(c : E), VX Γ CL k W T X -> chkO n T x c = Ac -> SO X CL W x (fun ρ => (top ρ c (evE Γ ρ c)).bind (slE c))
 t : ∀(T : Tc)(X : Cx)(xs : Ab Ao)(c : E), VX Γ CL k W0 T X -> chkT n T xs c = Ac -> STs X CL xs (fun ρ => (top ρ c (evE Γ ρ c)).bind Bu)
 i : ∀(W : XW)(T : Tc)(X : Cx)(tu : An)(tg x : Ao)(i : I), VX Γ CL k W T X -> Nn tu tg = Ac -> chkI n T tu x i = Ac -> SI X CL W tg x (fun ρ => evI Γ ρ i)
section
variable{Γ : Gam}{CL : ClA}{W : XW}{k n : Ag}{T : Tc}{X : Cx}
theorem Qh : Snd Γ CL k 0 := ⟨fun _ _ _ _ _ _ h => absurd (show Ad = Ac from h) Ap, fun _ _ _ _ _ _ h => absurd (show Ad = Ac from h) Ap, fun _ _ _ _ _ _ _ h => absurd (show Ad = Ac from h) Ap, fun _ _ _ _ _ _ h => absurd (show Ad = Ac from h) Ap, fun _ _ _ _ _ _ h => absurd (show Ad = Ac from h) Ap, fun _ _ _ _ _ h => absurd (show Ad = Ac from h) Ap, fun _ _ _ _ _ _ _ _ _ h => absurd (show Ad = Ac from h) Ap⟩
theorem KI{x:Ao}(h : C0 x = Ac)(hx : (BN pos (At xs env)).any (·.1) = Ad) : (BN pos (At (x::xs) env)).any (·.1) = Ad := by
 rw[Cr h];show (Ad||(BN pos (At xs env)).any (·.1)) = Ad;rw[hx];rfl
theorem Tg(S : Snd Γ CL k n)(W : XW)(T : Tc)(X : Cx)(xs : Ab Ao)(es : Es)(v : VX Γ CL k W T X)(h : chkEs (n+1) T xs es = Ac) : SA X CL W xs (fun ρ => evA Γ ρ es) /\ SAT X CL W xs (fun ρ => evB Γ ρ es) /\ xs.length = es.len /\ (∀ pos, xs ≠ [] -> SE X CL W (.BoolOp .And xs pos) (fun ρ => evN Γ ρ es) /\ SE X CL W (.BoolOp .Or xs pos) (fun ρ => evO Γ ρ es)) /\ (∀ pos, (BN pos (At xs X.env)).any (·.1) = Ad) := by
 cases xs with
 |nil=>
  cases es with
  |nil => exact⟨Uj, Rk, rfl, fun _ z => absurd rfl z, fun _ => rfl⟩
  |cons => simp[chkEs]at h
 |cons x xs=>
  cases es with
  |nil => simp[chkEs]at h
  |cons e es=>
   simp only[chkEs, Am]at h;obtain⟨⟨h0, h1⟩, h2⟩ := h;have he := S.e W T X x e v h1;obtain⟨a1, a2, a3, a4, a5⟩ := S.es W T X xs es v h2;refine⟨Rl he.se a1 (Cr h0), P5 he.st a2 (Cr h0), congrArg (· + 1) a3, fun pos _ => ?_, fun pos => KI h0 (a5 pos)⟩
   cases xs with
   |nil=>
    cases es with
    |nil => exact⟨Mv he.se, Mv he.se⟩
    |cons => cases a3
   |cons y ys=>
    cases es with
    |nil => cases a3
    |cons e' es'=>
     obtain⟨b1, b2⟩ := a4 pos (by simp)
     exact⟨Uf he.se b1, Vq he.se b2⟩
theorem VN(S : Snd Γ CL k n)(W : XW)(T : Tc)(X : Cx)(x : Al Ao)(c : E)(v : VX Γ CL k W T X)(h : chkO (n+1) T x c = Ac) : SO X CL W x (fun ρ => (top ρ c (evE Γ ρ c)).bind (slE c)) := by
 cases x with
 |none=>
  simp only[chkO]at h;split at h
  ·exact Rb
  ·cases h
 |some x=>
  simp only[chkO]at h;split at h
  ·cases h
  ·rename_i hne;have q := Ra (S.e W T X x c v h).st;have e : slE c = fun d => (C2 d).bind fun i => .ok (Aa i) := by
    funext d
    cases c <;> first|rfl|exact absurd rfl hne
   rw[e];exact q
theorem VL(S : Snd Γ CL k n)(T : Tc)(X : Cx)(xs : Ab Ao)(c : E)(v : VX Γ CL k W0 T X)(h : chkT (n+1) T xs c = Ac) : STs X CL xs (fun ρ => (top ρ c (evE Γ ρ c)).bind Bu) := by
 cases xs with
 |nil=>
  simp only[chkT]at h;split at h
  ·exact RP
  ·cases h
 |cons x xs=>
  cases xs with
  |nil=>
   simp only[chkT]at h;exact RO (S.b W0 T X x c v h)
  |cons y ys => simp[chkT]at h
theorem VO(S : Snd Γ CL k n)(W : XW)(T : Tc)(X : Cx)(tu : An)(tg x : Ao)(i : I)(v : VX Γ CL k W T X)(ht' : Nn tu tg = Ac)(h : chkI (n+1) T tu x i = Ac) : SI X CL W tg x (fun ρ => evI Γ ρ i) := by
 have ht : tu = Ac -> WM tg = Ac := fun z => by
  subst z;cases tg <;> first|rfl|cases ht'
 cases i with
 |e a=>
  simp only[chkI]at h;exact XC (S.e W T X x a v h).se
 |rng a=>
  simp only[chkI]at h;split at h
  ·simp only[Am, A9]at h;obtain⟨⟨⟨rfl, h1⟩, h2⟩, h3⟩ := h;obtain⟨g1, g2, _, _⟩ := Hi v h1;exact T4 (S.e W T X _ a v h3).st g1 g2 (Cr h2)
  ·cases h
 |rng2 a b=>
  simp only[chkI]at h;split at h
  ·simp only[Am, A9]at h;obtain⟨⟨⟨⟨⟨rfl, h1⟩, h2⟩, h3⟩, h4⟩, h5⟩ := h;obtain⟨g1, g2, _, _⟩ := Hi v h1;exact Re (S.e W T X _ a v h4).st (S.e W T X _ b v h5).st g1 g2 (by rw[Cr h2, Cr h3];rfl) (by rw[Cr h3];rfl)
  ·cases h
 |zip a b => simp[chkI]at h
 |zip3 a b c => simp[chkI]at h
 |enm a => simp[chkI]at h
theorem GB{c:Prop}[DK c]{b : An} : (if c then R.ok (D.bl b) else .bad) = .bad \/ ∃ b', (if c then R.ok (D.bl b) else .bad) = .ok (.bl b') := by
 by_cases h : c
 ·rw[AF h];exact .inr ⟨_, rfl⟩
 ·rw[AH h];exact .inl rfl
theorem QS(op : CS)(d d' : D) : Bj op d d' = .bad \/ ∃ b, Bj op d d' = .ok (.bl b) := by
 cases op with
 |Eq => exact GB
 |NotEq => exact GB
 |In=>
  cases d' with
  |lst ys => exact GB
  |tup ys => exact GB
  |dic kvs=>
   show (match CJ d with|some k => R.ok (D.bl (kvs.any fun p => p.1==k))|none => .bad) = .bad \/ ∃ b, (match CJ d with|some k => R.ok (D.bl (kvs.any fun p => p.1==k))|none => .bad) = .ok (.bl b)
   cases CJ d with
   |some k => exact .inr ⟨_, rfl⟩
   |none => exact .inl rfl
  |_ => cases d <;> exact .inl rfl
 |NotIn=>
  cases d' with
  |lst ys => exact GB
  |tup ys => exact GB
  |dic kvs=>
   show (match CJ d with|some k => R.ok (D.bl (!kvs.any fun p => p.1==k))|none => .bad) = .bad \/ ∃ b, (match CJ d with|some k => R.ok (D.bl (!kvs.any fun p => p.1==k))|none => .bad) = .ok (.bl b)
   cases CJ d with
   |some k => exact .inr ⟨_, rfl⟩
   |none => exact .inl rfl
  |_ => cases d <;> exact .inl rfl
 |Is=>
  cases d' with
  |non => cases d <;> first|exact .inr ⟨_, rfl⟩|exact .inl rfl
  |_ => cases d <;> first|exact .inl rfl|exact .inr ⟨_, rfl⟩
 |IsNot=>
  cases d' with
  |non => cases d <;> first|exact .inr ⟨_, rfl⟩|exact .inl rfl
  |_ => cases d <;> first|exact .inl rfl|exact .inr ⟨_, rfl⟩
 |_=>
  cases d with
  |int i => cases d' <;> first|exact .inr ⟨_, rfl⟩|exact .inl rfl
  |_ => exact .inl rfl
theorem Md(op : CS)(d d' : D) : (Bj op d d').bind Bu = .bad \/ (Bj op d d').bind Bu = (Bj op d d').bind Cs := by
 rcases QS op d d' with h|⟨b, h⟩
 ·rw[h];exact .inl rfl
 ·rw[h];exact .inr rfl
theorem U7(e e' : E)(es : Es) : Rf (fun ρ => (evN Γ ρ (.cons e (.cons e' es))).bind Bu) (fun ρ => ((top ρ e (evE Γ ρ e)).bind Bu).bind fun c => if c = Ac then (evN Γ ρ (.cons e' es)).bind Bu else .ok Ad) := fun ρ => by
 have e0 : evN Γ ρ (.cons e (.cons e' es)) = (evE Γ ρ e).bind fun x => (Cs x).bind fun c => if c = Ac then evN Γ ρ (.cons e' es) else .ok (.bl Ad) := rfl
 dsimp only;rw[e0];rcases JH Γ e ρ with z|z <;> dsimp only at z
 ·rw[z];exact .inl rfl
 ·rw[<-z];cases evE Γ ρ e with
  |bad => exact .inl rfl
  |exn x => exact .inr rfl
  |ok d=>
   cases d with
   |bl b => cases b <;> exact .inr rfl
   |_ => exact .inl rfl
theorem U6(e e' : E)(es : Es) : Rf (fun ρ => (evO Γ ρ (.cons e (.cons e' es))).bind Bu) (fun ρ => ((top ρ e (evE Γ ρ e)).bind Bu).bind fun c => if c = Ac then .ok Ac else (evO Γ ρ (.cons e' es)).bind Bu) := fun ρ => by
 have e0 : evO Γ ρ (.cons e (.cons e' es)) = (evE Γ ρ e).bind fun x => (Cs x).bind fun c => if c = Ac then .ok (.bl Ac) else evO Γ ρ (.cons e' es) := rfl
 dsimp only;rw[e0];rcases JH Γ e ρ with z|z <;> dsimp only at z
 ·rw[z];exact .inl rfl
 ·rw[<-z];cases evE Γ ρ e with
  |bad => exact .inl rfl
  |exn x => exact .inr rfl
  |ok d=>
   cases d with
   |bl b => cases b <;> exact .inr rfl
   |_ => exact .inl rfl
theorem Rf.tru(e : E) : Rf (fun ρ => (evE Γ ρ e).bind Bu) (fun ρ => (top ρ e (evE Γ ρ e)).bind Bu) := fun ρ => by
 rcases JH Γ e ρ with z|z <;> dsimp only at z ⊢
 ·rw[z];exact .inl rfl
 ·rw[<-z];exact .inr rfl
theorem SY(S : Snd Γ CL k n)(W : XW)(T : Tc)(X : Cx)(xs : Ab Ao)(es : Es)(pos : AI)(v : VX Γ CL k W T X)(h : chkBs (n+1) T xs es = Ac)(hne : xs ≠ []) : SW X CL W (.BoolOp .And xs pos) (fun ρ => (evN Γ ρ es).bind Bu) /\ SW X CL W (.BoolOp .Or xs pos) (fun ρ => (evO Γ ρ es).bind Bu) := by
 cases xs with
 |nil => exact absurd rfl hne
 |cons x xs=>
  cases es with
  |nil => simp[chkBs]at h
  |cons e es=>
   simp only[chkBs, Am]at h;obtain⟨h1, h2⟩ := h;have he := S.b W T X x e v h1;cases xs with
   |nil=>
    cases es with
    |nil => exact⟨SW.ref (RN he) (Rf.tru e), SW.ref (Tb he) (Rf.tru e)⟩
    |cons=>
     cases n with
     |zero => simp[chkBs]at h2
     |succ n => simp[chkBs]at h2
   |cons y ys=>
    cases es with
    |nil=>
     cases n with
     |zero => simp[chkBs]at h2
     |succ n => simp[chkBs]at h2
    |cons e' es'=>
     obtain⟨b1, b2⟩ := S.bs W T X (y::ys) (.cons e' es') pos v h2 (by simp)
     exact⟨SW.ref (Td he b1) (U7 e e' es'), SW.ref (VJ he b2) (U6 e e' es')⟩
theorem RF(S : Snd Γ CL k n){x:Ao}{ops:Ab CS}{b : BI}(v : VX Γ CL k W T X)(h : Nm T (AT n) x ops ys b as = Ac) : SB X CL W (.Compare x ops ys pos) (fun ρ => (top ρ (.bi b as) (evE Γ ρ (.bi b as))).bind Bu) := by
 exact absurd (show Ad = Ac from h) Ap
theorem VQ(S : Snd Γ CL k n)(W : XW)(T : Tc)(X : Cx)(x : Ao)(c : E)(v : VX Γ CL k W T X)(h : Go (n+1) T x c = Ac) : SB X CL W x (fun ρ => (top ρ c (evE Γ ρ c)).bind Bu) := by
 have plain : ∀ e, Jg e = Ac -> AT n T e c = Ac -> SB X CL W e (fun ρ => (top ρ c (evE Γ ρ c)).bind Bu) := fun e h1 h2 => Ug (S.e W T X e c v h2).st (RK h1)
 simp only[Go]at h;split at h
 ·split at h
  ·rename_i a;refine SB.ref (Uh (S.b W T X _ a v h)) fun ρ => ?_
   show ((top ρ a (evE Γ ρ a)).bind fun x => (Cs x).bind fun b => .ok (.bl (!b))).bind Bu = .bad \/ ((top ρ a (evE Γ ρ a)).bind fun x => (Cs x).bind fun b => .ok (.bl (!b))).bind Bu = _
   cases top ρ a (evE Γ ρ a) with
   |bad => exact .inl rfl
   |exn x => exact .inr rfl
   |ok d => cases d <;> first|exact .inr rfl|exact .inl rfl
  ·cases h
 ·split at h
  ·simp only[Am, Bk, Cu]at h;exact(S.bs W T X _ _ _ v h.1 h.2).1.sb
  ·cases h
 ·split at h
  ·simp only[Am, Bk, Cu]at h;exact(S.bs W T X _ _ _ v h.1 h.2).2.sb
  ·cases h
 ·split at h
  ·split at h
   ·rename_i op a b _ _ op' y;simp only[Am, Bk, A1]at h;obtain⟨⟨⟨rfl, h1⟩, h2⟩, h3⟩ := h;refine SB.ref (Ui (GE v.room.units _) (S.e W T X _ a v h2).st (S.e W T X _ b v h3).st h1) fun ρ => ?_
    show ((top ρ a (evE Γ ρ a)).bind fun x => (top ρ b (evE Γ ρ b)).bind fun y => Bj op' x y).bind Bu = .bad \/ ((top ρ a (evE Γ ρ a)).bind fun x => (top ρ b (evE Γ ρ b)).bind fun y => Bj op' x y).bind Bu = _
    cases top ρ a (evE Γ ρ a) with
    |bad => exact .inl rfl
    |exn x => exact .inr rfl
    |ok d=>
     cases top ρ b (evE Γ ρ b) with
     |bad => exact .inl rfl
     |exn x => exact .inr rfl
     |ok d'=>
      dsimp only[R.bind];exact Md _ d d'
   ·cases h
  ·split at h
   ·rename_i op1 op2 a b c _ _ o1 o2 y z;simp only[Am, Bk, A1]at h;obtain⟨⟨⟨⟨⟨rfl, rfl⟩, h1⟩, h2⟩, h3⟩, h4⟩ := h;refine SB.ref (P3 v.room.units (S.e W T X _ a v h2).st (S.e W T X _ b v h3).st (S.e W T X _ c v h4).st h1) fun ρ => ?_
    show ((top ρ a (evE Γ ρ a)).bind fun x => (top ρ b (evE Γ ρ b)).bind fun y => (Bj o1 x y).bind fun z => (Cs z).bind fun k => if k = Ac then (top ρ c (evE Γ ρ c)).bind fun u => Bj o2 y u else .ok (.bl Ad)).bind Bu = .bad \/ ((top ρ a (evE Γ ρ a)).bind fun x => (top ρ b (evE Γ ρ b)).bind fun y => (Bj o1 x y).bind fun z => (Cs z).bind fun k => if k = Ac then (top ρ c (evE Γ ρ c)).bind fun u => Bj o2 y u else .ok (.bl Ad)).bind Bu = _
    cases top ρ a (evE Γ ρ a) with
    |bad => exact .inl rfl
    |exn x => exact .inr rfl
    |ok d=>
     cases top ρ b (evE Γ ρ b) with
     |bad => exact .inl rfl
     |exn x => exact .inr rfl
     |ok d'=>
      dsimp only[R.bind];cases Bj o1 d d' with
      |bad => exact .inl rfl
      |exn x => exact .inr rfl
      |ok d3=>
       cases d3 with
       |bl k=>
        cases k with
        |false => exact .inr rfl
        |true=>
         dsimp only[R.bind, Cs];rw[AF rfl, AF rfl];cases top ρ c (evE Γ ρ c) with
         |bad => exact .inl rfl
         |exn x => exact .inr rfl
         |ok d4 => exact Md _ d' d4
       |_ => exact .inl rfl
   ·cases h
  ·exact RF S v h
  ·cases h
 ·simp only[Am]at h;exact plain _ h.1 h.2
end
section
variable{Γ : Gam}{CL : ClA}{W : XW}{k n : Ag}{T : Tc}{X : Cx}
theorem W1{b : BI}{g:Aj}{x:Ao}(v : VX Γ CL k W T X)(hb : JY b = Aa g)(hg : isB T g = Ac)(hs : SAT X CL W (x::xs) (fun ρ => evB Γ ρ as))(h0 : C0 x = Ac)(hpl : ∀ pos, (BN pos (At xs X.env)).any (·.1) = Ad) : OkE Γ CL W X (.Call (.Name g p) (x::xs) [] pos) (.bi b as) := by
 obtain⟨g1, g2, g3, g4⟩ := Hi v hg;cases b <;> simp only[JY]at hb <;> cases hb
 ·exact Dc (HZ U4 g1 g2 PySem.boot_len hs g3 g4 (Cr h0) hpl) (fun _ _ => rfl) rfl rfl
 ·exact Dc (HZ (U3 v.calm) g1 g2 PyProof.Rows.boot_max hs g3 g4 (Cr h0) hpl) (fun _ _ => rfl) rfl rfl
 ·exact Dc (HZ (Uw v.calm) g1 g2 PyProof.Rows.boot_min hs g3 g4 (Cr h0) hpl) (fun _ _ => rfl) rfl rfl
 ·exact JG (S4 RT g1 g2 Ou hs g3 g4 (Cr h0) hpl) (fun _ _ => rfl) rfl
 ·exact Dc (Ue Qu g1 g2 Ow hs g3 g4 (Cr h0) hpl) (fun _ _ => rfl) rfl rfl
 ·exact Dc (HZ (U5 v.calm) g1 g2 PyProof.Rows.boot_all hs g3 g4 (Cr h0) hpl) (fun _ _ => rfl) rfl rfl
theorem Jn{x:Ao}{es : Es}(h : chkEs n T (x::xs) es = Ac) : C0 x = Ac /\ ∃ e es', es = .cons e es' /\ ∃ m, n = m+1 /\ chkEs m T xs es' = Ac := by
 cases n with
 |zero => simp[chkEs]at h
 |succ m=>
  cases es with
  |nil => simp[chkEs]at h
  |cons e es=>
   simp only[chkEs, Am]at h;exact⟨h.1.1, e, es, rfl, m, rfl, h.2⟩
theorem K9 : ∀(m : Ag)(xs : Ab Ao)(es : Es), chkEs m T xs es = Ac -> ∀ pos, (BN pos (At xs X.env)).any (·.1) = Ad := by
 intro m
 induction m with
 |zero => intro xs es h;simp[chkEs]at h
 |succ m ih=>
  intro xs es h pos;cases xs with
  |nil => rfl
  |cons x xs=>
   obtain⟨h0, e, es', rfl, m', e1, h1⟩ := Jn h;cases e1;exact KI h0 (ih xs es' h1 pos)
theorem Ul(S : Snd Γ CL k n){x:Ao}{b : BI}(v : VX Γ CL k W T X)(h : (match Kl as with|some a => (match Nb x with|some y => decide (b = .rvs)&&AT n T y a|none => Ad)|none => Ad) = Ac) : OkE Γ CL W X x (.bi b as) := by
 simp[Kl]at h
theorem S9(S : Snd Γ CL k n){x:Ao}{b : BI}(v : VX Γ CL k W T X)(h : (match J2 as with|some (a, c) => (match NA x with|some (y, z, _) => decide (b = .tlt) && !behindInMarks .Lt z&&AT n T y a&&AT n T z c|none => Ad)|none => Ad) = Ac) : OkE Γ CL W X x (.bi b as) := by
 simp[J2]at h
theorem UG{x:Ao}{b : BI}(v : VX Γ CL k W T X)(h : Nw T x b as = Ac) : OkE Γ CL W X x (.bi b as) := by
 exact absurd h Ap
theorem Te(S : Snd Γ CL k n){x:Ao}{b : BI}(v : VX Γ CL k W T X)(h : (match J3 as with|some (a, k) => (match No x with|some (y, j) => decide (b = .stp)&&decide (j = k)&&decide (0 <= k)&&AT n T y a|none => Ad)|none => Ad) = Ac) : OkE Γ CL W X x (.bi b as) := by
 simp[J3]at h
theorem UO(S : Snd Γ CL k n){x:Ao}{b : BI}(v : VX Γ CL k W T X)(h : (match J6 as with|some (a, c) => (match NM x with|some (g, h, y, z) => decide (b = .list)&&g==("list" : Aj)&&h==("range" : Aj)&&isB T g&&isB T h&&C0 y&&C0 z&&AT n T y a&&AT n T z c|none => Ad)|none => Ad) = Ac) : OkE Γ CL W X x (.bi b as) := by
 simp[J6]at h
theorem SX(S : Snd Γ CL k n){x:Ao}{b : BI}(v : VX Γ CL k W T X)(h : (match J4 as with|some a => (match NL x with|some (g, h, y) => decide (b = .lset)&&g==("len" : Aj)&&h==("set" : Aj)&&isB T g&&isB T h&&C0 y&&AT n T y a|none => Ad)|none => Ad) = Ac) : OkE Γ CL W X x (.bi b as) := by
 simp[J4]at h
theorem VP(S : Snd Γ CL k n)(W : XW)(T : Tc)(X : Cx)(x : Ao)(c : E)(v : VX Γ CL k W T X)(h : AT (n+1) T x c = Ac) : OkE Γ CL W X x c := by
 cases c with
 |non=>
  unfold AT at h;dsimp only at h;split at h
  ·exact Dc T9 (fun _ _ => rfl) rfl rfl
  ·cases h
 |bl b=>
  unfold AT at h;dsimp only at h;split at h
  ·have e := eq_of_beq h;subst e;exact Dc Vr (fun _ _ => rfl) rfl rfl
  ·cases h
 |int i=>
  unfold AT at h;dsimp only at h;split at h
  ·have e := XN h;subst e;exact Dc Ub (fun _ _ => rfl) rfl rfl
  ·cases h
 |str i=>
  unfold AT at h;dsimp only at h;split at h
  ·have e := XN h;subst e;exact Dc T7 (fun _ _ => rfl) rfl rfl
  ·cases h
 |var i=>
  unfold AT at h;dsimp only at h;split at h
  ·exact⟨T5 (Gi v h), Ms (Gi v h), fun z => (nomatch z), fun z => (nomatch z)⟩
  ·cases h
 |glob g => exact absurd (show Ad = Ac from h) Ap
 |bin op a b=>
  unfold AT at h;dsimp only at h;split at h
  ·simp only[Am, A1]at h;obtain⟨⟨rfl, h1⟩, h2⟩ := h;have ha := (S.e W T X _ a v h1).st;have hb := (S.e W T X _ b v h2).st;refine⟨Mw (LH _) ha hb, (Mw (LH _) ha hb).st, fun z => ?_, fun z => nomatch z⟩
   rename_i op' _ _;cases op' <;> first|exact S5 ha hb|cases z
  ·cases h
 |un op a => exact absurd (show Ad = Ac from h) Ap
 |no a=>
  unfold AT at h;dsimp only at h;split at h
  ·exact Dc (T8 (S.e W T X _ a v h).st) (fun _ _ => rfl) rfl rfl
  ·cases h
 |and es=>
  unfold AT at h;dsimp only at h;split at h
  ·simp only[Am, Bk, Cu]at h;exact Dc ((S.es W T X _ es v h.1).2.2.2.1 _ h.2).1 (fun _ _ => rfl) rfl rfl
  ·cases h
 |or es=>
  unfold AT at h;dsimp only at h;split at h
  ·simp only[Am, Bk, Cu]at h;exact Dc ((S.es W T X _ es v h.1).2.2.2.1 _ h.2).2 (fun _ _ => rfl) rfl rfl
  ·cases h
 |cmp op a b=>
  unfold AT at h;dsimp only at h;split at h
  ·simp only[Am, Bk, A1]at h;obtain⟨⟨⟨rfl, h1⟩, h2⟩, h3⟩ := h;exact Dc (Ud (GE v.room.units _) (S.e W T X _ a v h2).st (S.e W T X _ b v h3).st h1) (fun _ _ => rfl) rfl rfl
  ·cases h
 |cmp2 op1 op2 a b c=>
  unfold AT at h;dsimp only at h;split at h
  ·simp only[Am, Bk, A1]at h;obtain⟨⟨⟨⟨⟨rfl, rfl⟩, h1⟩, h2⟩, h3⟩, h4⟩ := h;exact Dc (P2 v.room.units (S.e W T X _ a v h2).st (S.e W T X _ b v h3).st (S.e W T X _ c v h4).st h1) (fun _ _ => rfl) rfl rfl
  ·cases h
 |ite c a b => exact absurd (show Ad = Ac from h) Ap
 |call f as=>
  unfold AT at h;dsimp only at h;split at h
  ·rename_i g pp y ys qq;simp only[Am, N2, A9, A1]at h;obtain⟨⟨⟨⟨⟨p, hp, ⟨rfl, rfl⟩, hl⟩, h900⟩, h1⟩, h2⟩, h3⟩ := h;obtain⟨fa, fd, ps, m1, m2, m3, m4, m5, _⟩ := v.fn p hp;have hlt : p.2.2<1000 := by omega
   rw[Nat.mod_eq_of_lt hlt]at m4 m5;have m5 := m5 hlt;obtain⟨n2, n3, n4⟩ := JB h2;obtain⟨a1, a2, a3, a4, a5⟩ := S.es W T X _ as v h3;obtain⟨s0, e, es', rfl, m, rfl, s1⟩ := Jn h3;have q : SC X CL W (Γ.fr p.2.1) (.Call (.Name p.1 pp) (y::ys) [] qq) (fun ρ => evE Γ ρ (.call p.2.1 (.cons e es'))) := Rj (sh := fun ρ => FZ ρ (.cons e es')) m5 v.room (by unfold glB at h1;show X.env.scope.names.lookup p.1 = _;rw[v.sc];exact eq_of_beq h1) m1 m2 m3 v.px a1 a2 (fun ρ z => Mk Γ ρ _ z) (fun ρ ds z => by rw[L8 Γ ρ _ _ z, <-a3, hl];rfl) n2 (Cr s0) (K9 m ys es' s1)
   exact⟨q.se, q.se.st, fun z => by
    have z' : Γ.fr p.2.1 = Ac := z;rw[z']at q;exact q, fun z => nomatch z⟩
  ·cases h
 |bi b as=>
  unfold AT at h;dsimp only at h;simp only[CK]at h;rcases h with (((((h|h)|h)|h)|h)|h)|h
  ·split at h
   ·simp only[Am, A9]at h;obtain⟨⟨h1, h2⟩, h3⟩ := h;obtain⟨s0, e, es', rfl, m, rfl, s1⟩ := Jn h3;exact W1 v h1 h2 (S.es W T X _ _ v h3).2.1 s0 (K9 m _ es' s1)
   ·cases h
  ·exact UG v h
  ·exact UO S v h
  ·exact Te S v h
  ·exact SX S v h
  ·exact S9 S v h
  ·exact Ul S v h
 |isi a ks=>
  cases ks with
  |nil => exact absurd (show Ad = Ac from h) Ap
  |cons k' ks=>
   cases ks with
   |cons => exact absurd (show Ad = Ac from h) Ap
   |nil=>
    unfold AT at h;dsimp only at h;split at h
    ·simp only[Am, A9]at h;obtain⟨⟨⟨⟨⟨rfl, h1⟩, h2⟩, h3⟩, h4⟩, h5⟩ := h;obtain⟨g1, g2, _, _⟩ := Hi v h1;obtain⟨b1, b2, b3, b4⟩ := Hi v h3;obtain⟨ty, t1, t2⟩ := WZ h2;exact Dc (Ua t1 g1 g2 b1 b2 t2 b3 b4 (S.e W T X _ a v h5).st (Cr h4)) (fun _ _ => rfl) rfl rfl
    ·cases h
 |idx a i=>
  unfold AT at h;dsimp only at h;split at h
  ·simp only[Am]at h;obtain⟨⟨h1, h2⟩, h3⟩ := h;exact Dc (Uc v.room.units (Qi h1) (S.e W T X _ a v h2).st (S.e W T X _ i v h3).st) (fun _ _ => rfl) rfl rfl
  ·cases h
 |sl a lo hi=>
  unfold AT at h;dsimp only at h;split at h
  ·simp only[Am]at h;obtain⟨⟨h1, h2⟩, h3⟩ := h;refine JG (SC.congr (VS (S.e W T X _ a v h1).st (S.o W T X _ lo v h2) (S.o W T X _ hi v h3)) fun ρ => ?_) (fun _ _ => rfl) rfl
   show ((top ρ a (evE Γ ρ a)).bind fun x => (top ρ lo (evE Γ ρ lo)).bind fun l => (slE lo l).bind fun l' => (top ρ hi (evE Γ ρ hi)).bind fun h => (slE hi h).bind fun h' => slD x l' h') = _
   simp only[R.bind_assoc]
  ·cases h
 |tup es=>
  unfold AT at h;dsimp only at h;split at h
  ·simp only[Am, A1]at h;have q := S.es W T X _ es v h.1;exact Dc (T6 q.1 fun ρ ds z => by rw[JF Γ ρ _ _ z, <-q.2.2.1];omega) (fun _ _ => rfl) rfl rfl
  ·cases h
 |lst es=>
  unfold AT at h;dsimp only at h;split at h
  ·simp only[Am, A1]at h;have q := S.es W T X _ es v h.1;exact JG (S3 q.1 fun ρ ds z => by rw[JF Γ ρ _ _ z, <-q.2.2.1];omega) (fun _ _ => rfl) rfl
  ·cases h
 |comp elt t it c=>
  unfold AT at h;dsimp only at h;split at h
  ·simp only[Am]at h;obtain⟨⟨⟨⟨⟨h1, h2⟩, h3⟩, h4⟩, h5⟩, h6⟩ := h;refine Wa v.calm ⟨_, _, _, _, _, _, _, _, _, _, _, _, _, rfl, (Mm v h3).1, S.i W T X Ad _ _ it v rfl h1, R9 t, fun cl C s H fp => RG (v.blk h3) (fun z => A9.mpr z) h4, fun cl C s H fp => S.t _ _ _ c (v.blk h3) h5, fun cl C s H fp => (S.e W0 _ _ _ elt (v.blk h3) h6).se, JK h2, fun ρ => rfl⟩ (fun _ _ => rfl)
  ·cases h
 |compT elt ts it c => exact absurd (show Ad = Ac from h) Ap
 |tupI it => exact absurd (show Ad = Ac from h) Ap
 |dget i a c=>
  unfold AT at h;dsimp only at h;cases q : xMt x with
  |none => rw[q]at h;cases h
  |some t=>
   obtain⟨x, m, y, z⟩ := t;rw[q]at h;simp only[Am, A9]at h;obtain⟨⟨⟨⟨⟨rfl, h1⟩, h2⟩, h3⟩, h4⟩, h5⟩ := h;obtain⟨p, ap, cp, rfl, hl⟩ := Mp q;have hu := v.room.units;exact Dc (Rh (by omega) (Gi v h1) (S.e W T X _ a v h4).st (S.e W T X _ c v h5).se rfl (by rw[Cr h2, Cr h3];rfl) (by rw[hl];exact DJ _) (Cr h2) (Cr h3) (by rw[Cr h3];rfl)) (fun _ _ => rfl) rfl rfl
 |fld o f => exact absurd (show Ad = Ac from h) Ap
theorem snd : ∀ n, Snd Γ CL k n
 |0 => Qh
 |n+1 => ⟨VP (snd n), VQ (snd n), SY (snd n), Tg (snd n), VN (snd n), VL (snd n), VO (snd n)⟩
end
section
variable{Γ : Gam}{CL : ClA}{W : XW}{k n : Ag}{T : Tc}{X : Cx}
theorem RI{t : Ag}(v : VX Γ CL k W T X)(hf : ∀ x, X.fn x = Ac)(h : tgC T [t] [x] = Ac) : PG X (.Name x pos) (Ew t) := by
 unfold tgC at h;simp only[Am, A9]at h;exact HS (by rw[v.N];exact v.nd) (by rw[v.N];exact h.1.1) (by rw[v.sc];exact HX h.1.2) (.inl (hf x))
theorem RJ(v : VX Γ CL k W T X)(hf : ∀ x, X.fn x = Ac) : ∀(ys : Ab Ao)(ts : Ab Ag)(zs : Ab Aj), EM ys = Aa zs -> tgC T ts zs = Ac -> PGs X ys (ts.foldr (fun t u => Ho (Ew t) u) Hu) /\ ts.length = ys.length := by
 intro ys
 induction ys with
 |nil=>
  intro ts zs e h;cases e;cases ts with
  |nil => exact⟨Su, rfl⟩
  |cons t ts => cases h
 |cons y r ih=>
  intro ts zs e h;obtain⟨x, p, ws, rfl, e2, rfl⟩ := KC e;cases ts with
  |nil => cases h
  |cons t ts=>
   have h' : (T.N[t]? == Aa x&&Gn T x&&tgC T ts ws) = Ac := h;simp only[Am, A9]at h';obtain⟨h1, h2⟩ := ih ts ws e2 h'.2;exact⟨QE (HS (by rw[v.N];exact v.nd) (by rw[v.N];exact h'.1.1) (by rw[v.sc];exact HX h'.1.2) (.inl (hf x))) h1 (by rw[Ly];rfl), congrArg (· + 1) h2⟩
theorem RH{kk:Ag}(v : VX Γ CL k W T X)(hf : ∀ x, X.fn x = Ac)(hn : (EM ys).isSome = Ac)(h : tgC T ts (tgN ys) = Ac) : PG X (.Tuple ys kk pos) (Kf X.K ts.length (ts.foldr (fun t u => Ho (Ew t) u) Hu)) := by
 cases e : EM ys with
 |none => rw[e]at hn;cases hn
 |some zs=>
  have e2 : tgN ys = zs := by unfold tgN;rw[e];rfl
  rw[e2]at h;obtain⟨h1, h2⟩ := RJ v hf ys ts zs e h;obtain⟨h3, h4, _⟩ := Pe (env := X.env) ys zs e;exact TQ v.calm h1 (by rw[h3, h2]) h4
theorem PY(ts : Ab Ag) : ∀ d ρ x, D0 ts d ρ ≠ .exn x := fun d ρ x h => by
 unfold D0 at h;cases d with
 |tup xs=>
  dsimp only at h;cases e : DY ts xs ρ with
  |some r => rw[e]at h;cases h
  |none => rw[e]at h;cases h
 |_ => cases h
theorem Qf{elt:Ao}{gs:Ab Comprehension}{pos':AI} : ∃ b, CA (.ListComp elt gs scope pos) (Aa (.Name x pos')) l env = pure b /\ (b = Ac -> env.scope.names.lookup x = Aa .local) := by
 refine⟨_, rfl, fun h => ?_⟩
 simp only[Am, A9]at h;exact h.1.1.2
theorem JL{v0:Ao}{i : Ag}{e : E}(v : VX Γ CL k W T X)(hf : ∀ x, X.fn x = Ac)(hi : T.N[i]? = Aa x)(hl : Gn T x = Ac)(o : OkE Γ CL W X v0 e)(hfr : fr = Ac -> Dw Γ e = Ac) : SAs X CL W fr i (.Assign [.Name x p] v0 pos) (fun ρ => evE Γ ρ e) := by
 have hN : X.N.Nodup := by rw[v.N];exact v.nd
 have hi' : X.N[i]? = Aa x := by rw[v.N];exact hi
 have hx : Loc X.env.scope x := by rw[v.sc];exact HX hl
 have sc : SC X CL W fr v0 (fun ρ => evE Γ ρ e) := by
  cases fr with
  |false => exact o.se.sc
  |true => exact o.nw (hfr rfl)
 cases hc : GJ v0 with
 |true => exact SC.sas hN hi' hx sc (Mb hc) (.inl (hf x))
 |false=>
  obtain⟨tg, iter, elt, ifs, scope, pos2, N', ts, fi, fc, fe, as, g, rfl, B, h2, hGG, hg, ht, he, hs, ef⟩ := o.cp hc;obtain⟨b, hb, hb'⟩ := Qf (elt := elt) (gs := [⟨tg, iter, ifs, 0⟩]) (scope := scope) (pos := pos2) (pos' := p) (x := x) (l := pos.line) (env := X.env);cases b with
  |false => exact SC.sas hN hi' hx sc hb (.inl (hf x))
  |true=>
   have q := P6 (pos2 := pos) v.calm B h2 hGG hg ht he hs hN hi' (hb' rfl) hb;have q' : SAs X CL W Ac i (.Assign [.Name x p] (.ListComp elt [⟨tg, iter, ifs, 0⟩] scope pos2) pos) (fun ρ => evE Γ ρ e) := by
    have : (fun ρ => evE Γ ρ e) = _ := funext ef
    rw[this];exact q
   cases fr with
   |true => exact q'
   | false => exact fun A => PS.weak (q' A) fun D σ H ⟨hA, ρ, gd, z⟩ => ⟨hA, ρ, gd, by
     dsimp only at z ⊢;cases e0 : evE Γ ρ e with
     |ok d=>
      rw[e0]at z;exact fun v' H' s' r' => z v' H' s' ⟨r'.1, fun _ => r'.2 rfl⟩
     |exn y => rw[e0]at z;exact z
     | bad => rw[e0]at z;exact z⟩
theorem LP{e t : Ao}(h : ∀ x p, t ≠ .Name x p) : Ep [t] e l env = pure Ad := by
 show CA e (Aa t) l env = pure Ad;cases e <;> first|rfl|(cases t <;> first|rfl|exact absurd rfl (h _ _))
theorem Lw(ρ : Rho)(e : E)(h : ∀ i, e ≠ .var i) : evS Γ ρ (.ret e) = O.of ρ (evE Γ ρ e) fun d => .ret d (Dw Γ e) := by
 cases e <;> first|exact absurd rfl (h _)|(simp only[evS, top, Bool.or_false])
structure DefX (X : Cx) : Prop where
 fn : ∀ x, X.fn x = Ac
 ex : X.ex = []
 st : X.stack = X.env::X.outer
 fm : X.env.frame = Aa X.env.locals
structure SndS (Γ : Gam) (CL : ClA) (k : Ag) (n : Ag) : Prop where
 s : ∀(W : XW)(T : Tc)(X : Cx)(x : Bc)(c : S), VX Γ CL k W T X -> DefX X -> DG n T x c = Ac -> SS X CL W x (fun ρ => evS Γ ρ c)
 ss : ∀(W : XW)(T : Tc)(X : Cx)(x : Ab Bc)(c : Ss), VX Γ CL k W T X -> DefX X -> chkSs n T x c = Ac -> SSs X CL W x (fun ρ => evSs Γ ρ c)
theorem VX.pw(v : VX Γ CL k W T X){pI:Ab (Ai × AB)}{Xw:Ah -> Ak -> Prop}(own : DM (model X.prog X.w) X.A X.env Xw) : VX Γ CL k W0 T (Cx.pw X pI Xw) := ⟨v.sc, v.kd, v.N, v.nd, v.calm, v.room, v.bl, v.fn, own, MD, Na, v.xt, v.gl⟩
theorem STB.congr{st : Ab Bc}{f g : Rho -> O}(h : STB X CL st f)(e : ∀ ρ, g ρ = f ρ) : STB X CL st g := by
 have : g = f := funext e;rw[this];exact h
theorem VM(Z : SndS Γ CL k n)(W : XW)(T : Tc)(X : Cx)(st : Bc)(c : S)(v : VX Γ CL k W T X)(hf : DefX X)(h : DG (n+1) T st c = Ac) : SS X CL W st (fun ρ => evS Γ ρ c) := by
  have E := snd (Γ := Γ) (CL := CL) (k := k) n;cases c with
  |pass => exact absurd (show Ad = Ac from h) Ap
  |brk => exact absurd (show Ad = Ac from h) Ap
  |cont => exact absurd (show Ad = Ac from h) Ap
  |asg i fresh e=>
    unfold DG at h;dsimp only at h;split at h
    · simp only[Am, A9]at h;obtain⟨⟨h1, h2⟩, h3⟩ := h;have o := E.e W T X _ e v h3;cases fresh with
      |false => exact Mu (JL (fr := Ad) v hf.fn h1 h2 o (fun z => nomatch z))
      |true=>
        cases hn : Dw Γ e with
        |true=>
          refine SS.ref (Q9 (JL (fr := Ac) v hf.fn h1 h2 o (fun _ => hn))) fun ρ => .inr ?_
          show O.of ρ (evE Γ ρ e) (fun d => if Ac = Ac then (if Dw Γ e = Ac then (match d with
            |.lst xs => .next (ρ.set i (Aa (.lst xs, Ac)))
            | _ => .bad) else .bad) else .next (ρ.set i (Aa (d, Ad)))) = _
          rw[hn];rfl
        |false=>
          refine SS.ref (Mu (JL (fr := Ad) v hf.fn h1 h2 o (fun z => nomatch z))) fun ρ => ?_
          have e0 : evS Γ ρ (.asg i Ac e) = O.of ρ (evE Γ ρ e) (fun d => if Ac = Ac then (if Dw Γ e = Ac then (match d with
            |.lst xs => .next (ρ.set i (Aa (.lst xs, Ac)))
            | _ => .bad) else .bad) else .next (ρ.set i (Aa (d, Ad)))) := rfl
          rw[e0, hn];cases evE Γ ρ e with
          |ok d => exact .inl rfl
          |exn y => exact .inr rfl
          |bad => exact .inl rfl
    · cases h
  |asgT ts e => exact absurd (show Ad = Ac from h) Ap
  |expr e=>
    unfold DG at h;dsimp only at h;split at h
    · simp only[Am]at h;exact Q7 (E.e W T X _ e v h.2).se (Mb h.1)
    · cases h
  |ret e=>
    unfold DG at h;dsimp only at h;split at h
    · have o := E.e W T X _ e v h;cases hv : Dw Γ e with
      |true=>
        refine SS.ref (Q6 (o.nw hv)) fun ρ => .inr ?_
        rw[Lw ρ e (fun i z => by subst z;cases hv), hv]
      |false=>
        cases e with
        |var i=>
          cases n with
          |zero => exact absurd (show Ad = Ac from h) Ap
          |succ n=>
            unfold AT at h;dsimp only at h;split at h
            · exact Q4 (Gi v h)
            · cases h
        |_=>
          refine SS.ref (Q5 o.se) fun ρ => .inr ?_
          rw[Lw ρ _ (by intro i z;cases z), hv]
    · cases h
  |retN => exact absurd (show Ad = Ac from h) Ap
  |ife c a b=>
    unfold DG at h;dsimp only at h;split at h
    · simp only[Am]at h;exact VR (E.b W T X _ c v h.1.1) (Z.ss W T X _ a v hf h.1.2) (Z.ss W T X _ b v hf h.2)
    · cases h
  |fors t it body=>
    unfold DG at h;dsimp only at h;split at h
    · simp only[Am]at h;obtain⟨⟨⟨h1, h2⟩, h3⟩, h4⟩ := h;exact Mt v.own v.calm (R8 t) (RI v hf.fn h1) (E.i W T X Ad _ _ it v rfl h3) (Z.ss W T X _ body v hf h4) (JK h2) (fun _ _ _ z => nomatch z)
    · cases h
  |forT ts it body=>
    unfold DG at h;dsimp only at h;split at h
    · simp only[Am]at h;obtain⟨⟨⟨⟨h0, h1⟩, h2⟩, h3⟩, h4⟩ := h;exact Mt v.own v.calm (UY ts) (RH v hf.fn h0 h1) (E.i W T X Ac _ _ it v rfl h3) (Z.ss W T X _ body v hf h4) (JK h2) (PY ts)
    · cases h
  |whl c body => exact absurd (show Ad = Ac from h) Ap
  |rais c as=>
    unfold DG at h;dsimp only at h;cases hc : T.rzs.any (fun p => p.2==c) with
    |false=>
      have hb : ∀ ds, Γ.xn c ds = .bad := v.xt.xb c fun p hp z => by
        have : T.rzs.any (fun p => p.2==c) = Ac := List.any_eq_true.mpr ⟨p, hp, A9.mpr z⟩
        rw[hc]at this;cases this
      intro Fz B pI s σ H D I ⟨ρ, x, p⟩;have p' : BD X.K CL Fz B W (O.of ρ (noX (evA Γ ρ as)) fun xs => O.of ρ (Γ.xn c xs) fun x => .exn x ρ) D := p
      cases e1 : evA Γ ρ as with
      |bad => rw[e1]at p';exact p'.elim
      |exn y => rw[e1]at p';exact p'.elim
      |ok ds=>
        rw[e1]at p';have p2 : BD X.K CL Fz B W (O.of ρ (Γ.xn c ds) fun x => .exn x ρ) D := p'
        rw[hb ds]at p2;exact p2.elim
    |true => rw[hc]at h;cases h
  |app i e => exact absurd (show Ad = Ac from h) Ap
  |ext i e => exact absurd (show Ad = Ac from h) Ap
  |rev i => exact absurd (show Ad = Ac from h) Ap
  |clr i => exact absurd (show Ad = Ac from h) Ap
  |put i k e=>
    unfold DG at h;dsimp only at h;split at h
    · simp only[Am]at h;obtain⟨⟨⟨h1, h2⟩, h4⟩, h5⟩ := h;rename_i x p y sp v0 pos;exact S0 (Gi v h1) (E.e W T X _ k v h4).st (E.e W T X _ e v h5).se (fun w => by cases y <;> first|rfl|cases h2) (LP (fun _ _ z => by cases z)) rfl rfl
    · cases h
  |tryx body c x hh => exact absurd (show Ad = Ac from h) Ap
  |try2 body c x hd c' hd' els => exact absurd (show Ad = Ac from h) Ap
  |swp i k l => exact absurd (show Ad = Ac from h) Ap
  |apop j i e => exact absurd (show Ad = Ac from h) Ap
  |ins => exact absurd (show Ad = Ac from h) Ap
  |dnw i=>
    unfold DG at h;dsimp only at h;split at h
    · simp only[Am, A9]at h;obtain⟨⟨h1, h2⟩, h3⟩ := h;obtain⟨p, rfl⟩ := Rx h3;exact S2 (by rw[v.N];exact v.nd) (by rw[v.N];exact h1) (by rw[v.sc];exact HX h2) rfl (.inl (hf.fn _))
    · cases h
  |dput i k e=>
    unfold DG at h;dsimp only at h;split at h
    · simp only[Am]at h;obtain⟨⟨⟨h1, h2⟩, h4⟩, h5⟩ := h;rename_i x p y sp v0 pos;have hu := v.room.units;exact Q8 (by omega) (Gi v h1) (E.e W T X _ k v h4).st (E.e W T X _ e v h5).se (fun w => by cases y <;> first|rfl|cases h2) (LP (fun _ _ z => by cases z)) rfl rfl
    · cases h
  |dsd i k e=>
    unfold DG at h;dsimp only at h;split at h
    · rename_i w pos;cases q : xMt w with
      |none => rw[q]at h;cases h
      |some t=>
        obtain⟨x, m, y, z⟩ := t;rw[q]at h;simp only[Am, A9]at h;obtain⟨⟨⟨⟨⟨rfl, h1⟩, h2⟩, h3⟩, h4⟩, h5⟩ := h;obtain⟨p, ap, cp, rfl, hl⟩ := Mp q;have hu := v.room.units;exact S1 (by omega) (Gi v h1) (E.e W T X _ k v h4).st (E.e W T X _ e v h5).se rfl (by rw[Cr h2, Cr h3];rfl) (by rw[hl];exact DJ _) (Cr h2) (Cr h3) (by rw[Cr h3];rfl) rfl
    · cases h
  |rel => exact absurd (show Ad = Ac from h) Ap
theorem Tf(Z : SndS Γ CL k n)(W : XW)(T : Tc)(X : Cx)(xs : Ab Bc)(c : Ss)(v : VX Γ CL k W T X)(hf : DefX X)(h : chkSs (n+1) T xs c = Ac) : SSs X CL W xs (fun ρ => evSs Γ ρ c) := by
 cases c with
 |nil=>
  simp only[chkSs, List.isEmpty_iff]at h;subst h;exact Q3
 |cons s ss=>
  by_cases hr : ∃ i, s = .rel i
  ·obtain⟨i, rfl⟩ := hr;simp only[chkSs]at h;exact RQ i (Z.ss W T X xs ss v hf h)
  ·cases xs with
   |nil => cases s <;> first|(simp[chkSs]at h;done)|exact absurd ⟨_, rfl⟩ hr
   |cons st r=>
    have h' : DG n T st s = Ac /\ chkSs n T r ss = Ac := by
     cases s <;> first|(simp only[chkSs, Am]at h;exact h)|exact absurd ⟨_, rfl⟩ hr
    exact Qg (Z.s W T X st s v hf h'.1) (Z.ss W T X r ss v hf h'.2)
theorem Kc : ∀ n, SndS Γ CL k n
 |0 => ⟨fun _ _ _ _ _ _ _ h => absurd (show Ad = Ac from h) Ap, fun _ _ _ _ _ _ _ h => absurd (show Ad = Ac from h) Ap⟩
 |n+1 => ⟨VM (Kc n), Tf (Kc n)⟩
end
theorem Hd{n:Ag}{ds : Ab D}{i : Ag}{d:D}{o : An}(h : (BQ n ds)[i]? = Aa (Aa (d, o))) : o = Ad /\ ds[i]? = Aa d := by
 unfold BQ at h;by_cases hi : i<ds.length
 ·rw[Di (by simpa using hi), CQ]at h
  cases e : ds[i]? with
  |none => rw[e]at h;cases h
  |some x => rw[e]at h;cases h;exact⟨rfl, rfl⟩
 ·rw[N8 (by simpa using Nat.le_of_not_lt hi), N9]at h
  split at h <;> cases h
theorem Pq{N : Ab Aj}{i : Ag}{v:V}(h : vs[i]? = Aa v) : (L2.start N vs)[i]? = Aa (Aa v) := by
 unfold L2.start;have hi := (AU.mp h).1;rw[Di (by simpa using hi), CQ, h]
 rfl
theorem Qe{K:Fg}{A:Ai -> Prop}{N : Ab Aj}{n:Ag}{ds : Ab D}(hn : N.length = n)(hA : AOk H A)(r : Reps K CL H A vs ds) : Sx K CL (fun b o => H b = Aa o) A (BQ n ds) (L2.start N vs) H := by
 have own : ∀ a, Bt A (BQ n ds) (L2.start N vs) a -> A a := fun a h => by
  rcases h with h|⟨j, d, h, _⟩
  ·exact h
  ·exact absurd (Hd h).1 (by decide)
 have hlen : (BQ n ds).length = (L2.start N vs).length := by
  unfold BQ L2.start;simp only[Ci, B6, Oc, r.length, hn]
 refine⟨⟨fun i d h => ?_, fun i d h => absurd (Hd h).1 (by decide), hlen⟩, fun a h => hA a (own a h), fun j d a h _ => absurd (Hd h).1 (by decide), fun i j d e a h _ _ _ => absurd (Hd h).1 (by decide), fun b o h => h, hlen⟩
 obtain⟨v, h1, h2⟩ := r.get (Hd h).2;exact⟨v, Pq h1, Rep.sub own _ h2⟩
noncomputable def GS(K : Fg)(mg : Aj -> Al Ah)(fns : Ab (Aj × Ag × Ag))(bl : Ab Aj)(rzs exs gls : Ab (Aj × Ag))(Pg : Prg)(fuel : Ag)(p : Aj × Ag × Ag) : Prop := ∃ f fd ps qual st N, mg p.1 = Aa (.ref f) /\ Fun K p.1 qual st f fd /\ EX K fd ps [] /\ ps.length = p.2.2%1000 /\ EZ fuel (C7 1000 p.2.2) fns bl rzs exs gls ps N st (Pg.defs p.2.1) = Ac
structure Tab (K : Fg) (mg : Aj -> Al Ah) (CL : ClA) (fns : Ab (Aj × Ag × Ag)) (bl : Ab Aj) (rzs exs gls : Ab (Aj × Ag)) (Pg : Prg) (fuel : Ag) : Prop where
 xt : XT Pg.up Pg.xn CL rzs exs K mg
 bln : ∀ x, x ∈ bl -> mg x = Af
 gl : ∀ p ∈ gls, Kh K mg CL p.1 (Pg.G p.2)
 fn : ∀ p ∈ fns, GS K mg fns bl rzs exs gls Pg fuel p
theorem U1(Pg : Prg)(n i : Ag) : (gam Pg n).fr i = (Pg.defs i).fr := by cases n <;> rfl
theorem U0(Pg : Prg)(n : Ag) : (gam Pg n).up = Pg.up := by cases n <;> rfl
theorem WR(Pg : Prg)(n : Ag) : (gam Pg n).G = Pg.G := by cases n <;> rfl
theorem UZ(Pg : Prg)(n : Ag) : (gam Pg n).xn = Pg.xn := by cases n <;> rfl
section
variable{P : AC}{w : AJ}{K : Fg}{mg : Aj -> Al Ah}{base : AD}{CL : ClA}{fns : Ab (Aj × Ag × Ag)}{bl : Ab Aj}{rzs exs gls : Ab (Aj × Ag)}{Pg : Prg}{fuel : Ag}
noncomputable def Lvl(P : AC)(w : AJ)(K : Fg)(mg : Aj -> Al Ah)(base : AD)(CL : ClA)(Pg : Prg)(n : Ag)(p : Aj × Ag × Ag) : Prop := ∃ f fd ps, mg p.1 = Aa (.ref f) /\ Cd K (.ref f) = Ac /\ EX K fd ps [] /\ ps.length = p.2.2%1000 /\ (p.2.2<1000 -> FnOk P w K mg base (CXR P w) n f fd ps (spD K CL (p.2.2%1000) ((gam Pg n).fr p.2.1) ((gam Pg n).F p.2.1))) /\ (1000 <= p.2.2 -> HotOk P w K mg base n f fd ps (spH K CL (p.2.2%1000) ((gam Pg n).fr p.2.1) ((gam Pg n).F p.2.1)))
theorem Ml(t : Tab K mg CL fns bl rzs exs gls Pg fuel){n:Ag}(hlv : ∀ q ∈ fns, Lvl P w K mg base CL Pg n q){st : Bc}{f : Ai}{ps N : Ab Aj}(h2 : Fun K x qual st f fd)(h4 : ps.length = m)(h5 : EZ fuel Ad fns bl rzs exs gls ps N st (Pg.defs id) = Ac):FnOk P w K mg base (CXR P w) (n+1) f fd ps (spD K CL m ((gam Pg (n+1)).fr id) ((gam Pg (n+1)).F id)) := by
  unfold EZ at h5;simp only[Am, A9, Bk, NY, CK, Gw, ne_eq]at h5;obtain⟨⟨⟨⟨⟨⟨⟨⟨c1, c2⟩, c3⟩, c4⟩, c5⟩, c6⟩, c7⟩, c8⟩, c9⟩ := h5;obtain⟨oc, od, kV, doc, pm, an, cdv, ct, osl, rfl, lk, hcd⟩ := h2.ex;refine M1 (N := N) lk hcd ⟨c1, c2, c3, HE c4, c5, c6, c7⟩ (fun vs H Q E ⟨ds, A, z, _⟩ => z.trans h4.symm) fun A outer s H vs Q E hr ⟨ds, B, hl, hA, hreps, hpost⟩ => ?_
  have xt : XT (gam Pg n).up (gam Pg n).xn CL rzs exs K mg := by rw[U0, UZ];exact t.xt
  have gl : ∀ p ∈ gls, Kh K mg CL p.1 ((gam Pg n).G p.2) := by rw[WR];exact t.gl
  have key : ∀ W : XW, (∀ x cls dx H', W x H' -> EU K CL H' cls dx x -> E cls dx H') -> BD K CL (fun b o => H b = Aa o) B W (evSs (gam Pg n) (BQ (Pg.defs id).n ds) (Pg.defs id).body) {nx := fun _ H' => Q .non H', rt := Q} ->
      ∃ t, PSs (Ef (CXR P w) P w K mg base N qual (Dm st) f cdv A outer s H E) (EO st) t /\ t {nx := fun _ H' => Q .non H', rt := Q} (start N vs) H := fun W hW hp => by
    have v : VX (gam Pg n) CL n W ⟨Dm st, N, fns, bl, rzs, exs, gls⟩ (Ef (CXR P w) P w K mg base N qual (Dm st) f cdv A outer s H E) := ⟨rfl, c1, rfl, HE c4, rfl, hr, t.bln, hlv, ownR, V5 hW, rzR hW, xt, gl⟩;exact⟨_, (Kc fuel).ss W _ _ _ (Pg.defs id).body v ⟨fun _ => rfl, rfl, rfl, rfl⟩ c9 (fun b o => H b = Aa o) B, _, Qe c8 hA hreps, hp⟩
  have no : ∀ x cls dx H', W0 x H' -> EU K CL H' cls dx x -> E cls dx H' := fun _ _ _ _ z => z.elim
  have e : (gam Pg (n+1)).F id ds = D1 Pg.xs ((evSs (gam Pg n) (BQ (Pg.defs id).n ds) (Pg.defs id).body).ans (Pg.defs id).fr) := rfl;rw[e, U1]at hpost;have cutO : ∀ r : R D, (∀ x, r ≠ .exn x) -> D1 Pg.xs r = r := fun r hr => by
    cases Pg.xs <;> cases r <;> first|rfl|exact absurd rfl (hr _)
  cases eo : evSs (gam Pg n) (BQ (Pg.defs id).n ds) (Pg.defs id).body with
  |next ρ'=>
    refine key W0 no ?_;rw[eo]at hpost ⊢;cases ef : (Pg.defs id).fr with
    |true => rw[ef]at hpost;rw[cutO _ (by intro x z;cases z)]at hpost;exact hpost.elim
    |false=>
      rw[ef]at hpost;rw[cutO _ (by intro x z;cases z)]at hpost
      exact fun σ' H' x' => hpost .non H' (fun b o z => x'.same b o z) ⟨rfl, fun z => nomatch z⟩
  |ret d b=>
    refine key W0 no ?_;rw[eo]at hpost ⊢;intro v H' sm rp fr;have hp2 : (match D1 Pg.xs (if ((Pg.defs id).fr&&(!b&&isL d)) = Ac then R.bad else R.ok d) with
      |.ok d => ∀ v H', As H H' -> CW K CL (Pg.defs id).fr H B H' v d -> Q v H'
      |.exn x => ∀ cls dx H', As H H' -> EU K CL H' cls dx x -> E cls dx H'
      | .bad => AX) := hpost
    cases ec : ((Pg.defs id).fr&&(!b&&isL d)) with
    |true => rw[ec, AF rfl, cutO _ (by intro x z;cases z)]at hp2;exact hp2.elim
    |false=>
      rw[ec, AH (by decide), cutO _ (by intro x z;cases z)]at hp2
      refine hp2 v H' sm ⟨rp, fun efr es hd => ?_⟩
      subst hd;have eb : b = Ac := by
        cases b with
        |true => rfl
        |false => rw[efr]at ec;cases ec
      obtain⟨a, xs, h1, h2, h3, h4⟩ := fr eb es rfl;refine⟨a, xs, h1, ?_, h3, h4⟩;cases ha : H a with
      |none => rfl
      |some o => exact absurd ha (h2 o)
  |brk ρ' => rw[eo]at hpost;have hp2 : (match D1 Pg.xs (R.bad : R D) with | .ok _ => _ | .exn _ => _ | .bad => AX) := hpost;rw[cutO _ (by intro x z;cases z)]at hp2;exact hp2.elim
  |cont ρ' => rw[eo]at hpost;have hp2 : (match D1 Pg.xs (R.bad : R D) with | .ok _ => _ | .exn _ => _ | .bad => AX) := hpost;rw[cutO _ (by intro x z;cases z)]at hp2;exact hp2.elim
  |bad => rw[eo]at hpost;have hp2 : (match D1 Pg.xs (R.bad : R D) with | .ok _ => _ | .exn _ => _ | .bad => AX) := hpost;rw[cutO _ (by intro x z;cases z)]at hp2;exact hp2.elim
  |exn x ρ'=>
    rw[eo]at hpost;have hp2 : (match D1 Pg.xs (R.exn x : R D) with
      |.ok d => ∀ v H', As H H' -> CW K CL (Pg.defs id).fr H B H' v d -> Q v H'
      |.exn x => ∀ cls dx H', As H H' -> EU K CL H' cls dx x -> E cls dx H'
      | .bad => AX) := hpost
    cases ex : Pg.xs with
    |false => rw[ex]at hp2;exact hp2.elim
    |true=>
      rw[ex]at hp2;have hp3 : ∀ cls dx H', As H H' -> EU K CL H' cls dx x -> E cls dx H' := hp2;refine key (fun y H' => y = x /\ As H H') (fun y cls dx H' ⟨e1, sm⟩ xr => ?_) ?_
      · subst e1;exact hp3 cls dx H' sm xr
      · rw[eo];exact fun H' sm => ⟨rfl, sm⟩
theorem UX(t : Tab K mg CL fns bl rzs exs gls Pg fuel){n:Ag}(hlv : ∀ q ∈ fns, Lvl P w K mg base CL Pg n q){st : Bc}{f : Ai}{ps N : Ab Aj}(h2 : Fun K x qual st f fd)(h4 : ps.length = m)(h5 : EZ fuel Ac fns bl rzs exs gls ps N st (Pg.defs id) = Ac):HotOk P w K mg base (n+1) f fd ps (spH K CL m ((gam Pg (n+1)).fr id) ((gam Pg (n+1)).F id)) := by
 exfalso
 unfold EZ at h5;simp[MX]at h5
theorem JI(t : Tab K mg CL fns bl rzs exs gls Pg fuel) : ∀ n, ∀ p ∈ fns, Lvl P w K mg base CL Pg n p
 |0, p, hp => by
  obtain⟨f, fd, ps, qual, st, N, h1, h2, h3, h4, h5⟩ := t.fn p hp;exact⟨f, fd, ps, h1, h2.kp, h3, h4, fun _ => ⟨fun vs H Q E ⟨ds, A, _, _, _, z⟩ => z.elim, fun A outer s H args us vs Q E _ _ _ _ ⟨ds, A, _, _, _, z⟩ => z.elim⟩, fun _ => ⟨fun vs H Q E ⟨ds, A, _, _, _, z⟩ => z.elim, fun A ev outer s H args us vs Q E _ _ _ _ ⟨ds, A, _, _, _, z⟩ => z.elim⟩⟩
 |n+1, p, hp => by
  obtain⟨f, fd, ps, qual, st, N, h1, h2, h3, h4, h5⟩ := t.fn p hp;refine⟨f, fd, ps, h1, h2.kp, h3, h4, fun hlt => ?_, fun hge => ?_⟩
  ·have eb : C7 1000 p.2.2 = Ad := by
    cases e : C7 1000 p.2.2 with
    |false => rfl
    |true => exact absurd (On e) (by omega)
   rw[eb]at h5;exact Ml t (fun q hq => JI t n q hq) h2 h4 h5
  ·rw[Om hge]at h5;exact UX t (fun q hq => JI t n q hq) h2 h4 h5
theorem UC{s s' : Ak}{e : Ah}(h : CXR P w [] H s (fun _ _ _ => AX) e s') : AX := by
 obtain⟨_, _, _, _, _, _, _, _, _, _, _, _, _, _, _, z⟩ := h;exact z
theorem Ru{up:Ag -> Ab Ag}{xn:Ag -> Ab D -> R Ex}(h : ∀ c ds, xn c ds = .bad) : XT up xn (fun _ => Af) [] [] K mg := ⟨fun _ _ z => (nomatch z), fun _ z => (nomatch z), fun _ z => (nomatch z), fun c _ ds z => .inl (h c ds), fun _ _ z => (nomatch z), fun c _ ds => h c ds⟩
noncomputable def Hn(K : Fg) : Sp := fun vs H Q _ => ∃(a : Ai)(ns : Ab Ae), vs = [.ref a] /\ ns.length <= 63 /\ SqL K H a (ns.map V.int) /\ ∀ v H', v = V.bl Ac -> Q v H'
theorem law_fn{f : Ai}(G : FnOk P w K mg base CX k f fd ps (spD K CL 1 Ad F))(h : ∀ ns : Ab Ae, F [.lst (ns.map .int)] = .ok (.bl Ac)) : FnOk P w K mg base CX k f fd ps (Hn K) := G.imp fun vs H Q E ⟨a, ns, e, hl, hS, q⟩ => by
 subst e;have rs : ∀ l : Ab Ae, Reps K CL H A0 (l.map V.int) (l.map D.int) := fun l => by
  induction l with
  |nil => trivial
  |cons x l ih => exact⟨rfl, ih⟩
 refine⟨[.lst (ns.map .int)], A0, rfl, fun _ z => z.elim, ⟨⟨a, _, rfl, .inl (fun z => z), hS, rs ns⟩, trivial⟩, ?_⟩
 rw[h ns];exact fun v H' _ r => q v H' r.1
theorem R4{f : Ai}(G : FnOk P w K mg base CX k f fd ps (spD K CL 1 Ad F))(h : ∀ ns : Ab Ae, ns.length <= 63 -> F [.lst (ns.map .int)] = .ok (.bl Ac)) : FnOk P w K mg base CX k f fd ps (Hn K) := G.imp fun vs H Q E ⟨a, ns, e, hl, hS, q⟩ => by
 subst e;have rs : ∀ l : Ab Ae, Reps K CL H A0 (l.map V.int) (l.map D.int) := fun l => by
  induction l with
  |nil => trivial
  |cons x l ih => exact⟨rfl, ih⟩
 refine⟨[.lst (ns.map .int)], A0, rfl, fun _ z => z.elim, ⟨⟨a, _, rfl, .inl (fun z => z), hS, rs ns⟩, trivial⟩, ?_⟩
 rw[h ns hl];exact fun v H' _ r => q v H' r.1
theorem Jx{Q : α -> Prop} : ∀ x ∈ ([] : Ab α), Q x := fun _ h => nomatch h
theorem all_cons{Q : α -> Prop}{a : α}{l : Ab α}(h1 : Q a)(h2 : ∀ x ∈ l, Q x) : ∀ x ∈ a::l, Q x := List.forall_mem_cons.2 ⟨h1, h2⟩
noncomputable def FnI(K : Fg)(f : Ai)(n : Aj)(st : Bc) : Prop := ∃ fd, Fun K n n st f fd /\ BM K AV n = Aa (Aa (.ref f))
theorem fni{st : Bc}{f : Ai}{oc:Ah}{od an:Al Ai}{osl:A8 (Al Ah)}{kV doc pm cdv ct : Ah}(a : BM K AV n = Aa (Aa (.ref f)))(l : K.lookup f = Aa ⟨oc, od, .func (CF n n (GF st) (EO st) (Dm st) .none kV doc pm an cdv ct), osl⟩)(c : Eb K cdv n = Ac)(k : Cd K (.ref f) = Ac) : FnI K f n st := ⟨_, U2 l c k, a⟩
noncomputable def Bd(n : Aj)(st : Bc)(ps : Ab Aj)(us : Ab Ah) : Prop := ∀(kV doc pm : Ah)(an : Al Ai)(cdv ct : Ah), G3 (CF n n (GF st) (EO st) (Dm st) .none kV doc pm an cdv ct) ⟨us, []⟩ = pure (ps.zip us)
theorem Ia{f : Ai}{st : Bc}{ps N : Ab Aj}(m id : Ag)(X : K.In h)(G : h.Ns AV mg)(A : FnI K f n st)(hl : ps.length = m%1000)(hc : EZ fuel (C7 1000 m) fns bl rzs exs gls ps N st (Pg.defs id) = Ac)(hb : ∀ us : Ab Ah, us.length = ps.length -> Bd n st ps us) : GS K mg fns bl rzs exs gls Pg fuel (n, id, m) := by
 obtain⟨fd, F, a⟩ := A;exact⟨_, _, _, _, _, _, FE X G a, F, F.binds fun kV doc pm an cdv ct us hu => hb us hu kV doc pm an cdv ct, hl, hc⟩
theorem Hs{f : Ai}{st : Bc}{N : Ab Aj}(m id : Ag)(X : K.In h)(G : h.Ns AV mg)(A : FnI K f n st)(hl : 1 = m%1000)(hc : EZ fuel (C7 1000 m) fns bl rzs exs gls [x0] N st (Pg.defs id) = Ac)(hb : ∀ u0, Bd n st [x0] [u0]) : GS K mg fns bl rzs exs gls Pg fuel (n, id, m):=
 Ia (ps := [x0]) m id X G A hl hc fun us hu => match us, hu with | [u0], _ => hb u0
theorem FB{f : Ai}{st : Bc}{N : Ab Aj}(m id : Ag)(X : K.In h)(G : h.Ns AV mg)(A : FnI K f n st)(hl : 2 = m%1000)(hc : EZ fuel (C7 1000 m) fns bl rzs exs gls [x0, x1] N st (Pg.defs id) = Ac)(hb : ∀ u0 u1, Bd n st [x0, x1] [u0, u1]) : GS K mg fns bl rzs exs gls Pg fuel (n, id, m):=
 Ia (ps := [x0, x1]) m id X G A hl hc fun us hu => match us, hu with | [u0, u1], _ => hb u0 u1
theorem Iu{f : Ai}{st : Bc}{N : Ab Aj}{x2:Aj}(m id : Ag)(X : K.In h)(G : h.Ns AV mg)(A : FnI K f n st)(hl : 3 = m%1000)(hc : EZ fuel (C7 1000 m) fns bl rzs exs gls [x0, x1, x2] N st (Pg.defs id) = Ac)(hb : ∀ u0 u1 u2, Bd n st [x0, x1, x2] [u0, u1, u2]) : GS K mg fns bl rzs exs gls Pg fuel (n, id, m):=
 Ia (ps := [x0, x1, x2]) m id X G A hl hc fun us hu => match us, hu with | [u0, u1, u2], _ => hb u0 u1 u2
theorem XD{f : Ai}{st : Bc}{N : Ab Aj}{x2 x3:Aj}(m id : Ag)(X : K.In h)(G : h.Ns AV mg)(A : FnI K f n st)(hl : 4 = m%1000)(hc : EZ fuel (C7 1000 m) fns bl rzs exs gls [x0, x1, x2, x3] N st (Pg.defs id) = Ac)(hb : ∀ u0 u1 u2 u3, Bd n st [x0, x1, x2, x3] [u0, u1, u2, u3]) : GS K mg fns bl rzs exs gls Pg fuel (n, id, m):=
 Ia (ps := [x0, x1, x2, x3]) m id X G A hl hc fun us hu => match us, hu with | [u0, u1, u2, u3], _ => hb u0 u1 u2 u3
end
end Ov
namespace OvC
open PySem Ov
variable{x p k:Ae}{xs ns:Ab Ae}{ρ:Rho}{Γ:Gam}{m n:Ag}
noncomputable abbrev tr(a b c : Ae) : D := .tup [.int a, .int b, .int c]
noncomputable def det(a0 a1 a2 b0 b1 b2 c0 c1 c2 : Ae) : Ae := a0*(b1*c2-b2*c1)-a1*(b0*c2-b2*c0)+a2*(b0*c1-b1*c0)
noncomputable def Sm(x : Ae) : Prop := 0 <= x /\ x<11
theorem mo(h : Sm x)(y : Ae) : BO x y = Ac := Er (by have := h.1;omega) (by have := h.2;omega)
theorem g30(x y z : D) : CH [x, y, z] 0 = .ok x := rfl
theorem g31(x y z : D) : CH [x, y, z] 1 = .ok y := rfl
theorem g32(x y z : D) : CH [x, y, z] 2 = .ok z := rfl
theorem XE : CY 0 3 = [.int 0, .int 1, .int 2] := rfl
theorem Sm.of(h : P4 p)(x : Ae) : Sm (x%p) := ⟨AY _ (by have := h.pos;omega), by have := A2 x h.pos;have := h.hi;omega⟩
theorem K7{body : D -> Rho -> O}(I : Rho -> Prop)(g : Ae -> An) :∀(L :Ab Ae),(∀ t ∈ L,∀ ρ,I ρ->(g t = Ac/\body (.int t) ρ = .ret (.int t) Ad)\/(g t = Ad/\∃ ρ',body (.int t) ρ = .next ρ'/\I ρ'))->∀ ρ,I ρ->(∃ t ∈ L,g t = Ac/\Ck body (L.map D.int) ρ = .ret (.int t) Ad)\/((∀ t ∈ L,g t = Ad)/\∃ ρ',Ck body (L.map D.int) ρ = .next ρ'/\I ρ')
 |[], _, ρ, i => .inr ⟨(fun _ h => nomatch h), ρ, rfl, i⟩
 |m::L, h, ρ, i => by
  rcases h m (Au ..) ρ i with ⟨e1, e2⟩|⟨e1, ρ', e2, i'⟩
  ·refine .inl ⟨m, Au .., e1, ?_⟩;show (body (.int m) ρ).turn _ = _;rw[e2];rfl
  ·rcases K7 I g L (fun m' h' => h m' (Ar _ h')) ρ' i' with ⟨t, ht, a, b⟩|⟨a, r, b, c⟩
   ·refine .inl ⟨t, Ar _ ht, a, ?_⟩;show (body (.int m) ρ).turn _ = _;rw[e2];exact b
   ·refine .inr ⟨fun t ht => ?_, r, ?_, c⟩
    ·rcases AQ.mp ht with rfl|ht
     ·exact e1
     ·exact a t ht
    ·show (body (.int m) ρ).turn _ = _;rw[e2];exact b
noncomputable def Gx : Ss := (.cons (.ife (.cmp .Eq (.call 1 (.cons (.var 0) (.cons (.bin .Mult (.var 1) (.var 2)) .nil))) (.int 1)) (.cons (.ret (.var 2)) .nil) .nil) .nil)
noncomputable def Hy : Df := ⟨3, Ad, (.cons (.fors 2 (.rng2 (.int 1) (.var 0)) Gx) (.cons (.rais 2 (.cons (.str (CU "a number with the rest 0 is not turned over")) .nil)) .nil))⟩
noncomputable def D3(p : Ae) : Ab Ae := (B7 (p-1).toNat).map fun(k : Ag) => 1+(k : Ae)
theorem GA{t:Ae} : t ∈ D3 p ↔ 1 <= t /\ t<p := by
 unfold D3;rw[List.mem_map];constructor
 ·rintro⟨k, hk, rfl⟩;have := B0.mp hk;omega
 ·rintro⟨h1, h2⟩;exact⟨(t-1).toNat, B0.mpr (by omega), by omega⟩
theorem Lo(h : P4 p) : Cy 1 p = .ok ((D3 p).map D.int) := by
 rcases h with rfl|rfl|rfl|rfl <;> rfl
theorem R7 : ∀ p : Fin 12, (p.val = 3 \/ p.val = 5 \/ p.val = 7 \/ p.val = 11) -> ∀ r : Fin 12, r.val<p.val -> r.val ≠ 0 -> ∃ t : Fin 12, 1 <= t.val /\ t.val<p.val /\ r.val*t.val%p.val = 1 := by decide +kernel
theorem GM{n:Ae}(h : P4 p)(hn : n%p ≠ 0) : ∃ t, 1 <= t /\ t<p /\ n*t%p = 1 := by
 have p0 : 0<p /\ p<12 := by rcases h with rfl|rfl|rfl|rfl <;> decide
 obtain⟨q, rfl⟩ : ∃ q : Ag, p = q := ⟨p.toNat, by omega⟩
 have h0 := AY n (b := (q : Ae)) (by omega)
 have h1 := A2 n p0.1;obtain⟨r, hr⟩ : ∃ r : Ag, n%(q : Ae) = r := ⟨(n%(q : Ae)).toNat, by omega⟩
 obtain⟨t, t1, t2, t3⟩ := R7 ⟨q, by omega⟩ (by rcases h with e|e|e|e <;> simp <;> omega) ⟨r, by omega⟩ (by show r<q;omega) (by show r ≠ 0;omega)
 refine⟨(t.val : Ae), by omega, by show (t.val : Ae)<q;exact Int.ofNat_lt.mpr t2, ?_⟩
 have e : ((r*t.val%q : Ag) : Ae) = 1 := by rw[show r*t.val%q = 1 from t3];rfl
 rw[<-e, Int.natCast_emod, Int.natCast_mul, <-hr];exact(Bi n _ _).trans (by rw[Bi (n%(q : Ae)) (t.val : Ae) (q : Ae), A5 n (BJ _)])
theorem DD{r:R D}{d:D}(h : r = .ok d) : D1 Ac r = .ok d := by rw[h];rfl
noncomputable def Ey(p n t : Ae) : Prop := 1 <= t /\ t<p /\ n*t%p = 1
theorem KO{n t u:Ae}(h1 : Ey p n t)(h2 : Ey p n u) : t = u := by
 have hp : 1<p := by have := h1.1;have := h1.2.1;omega
 have e : t%p = u%p := by
  have a : t%p = t*(n*u)%p := by rw[Bi, h2.2.2, E3, A5 _ (BJ p)]
  have b : u%p = (n*t)*u%p := by rw[Bi (n*t) u p, h1.2.2, Eh, A5 _ (BJ p)]
  rw[a, b]
  congr 1
  rw[<-Em, Ch t n]
 rw[Ax (by have := h1.1;omega) h1.2.1, Ax (by have := h2.1;omega) h2.2.1]at e
 exact e
theorem Eu{c:Ae}(hp : P4 p)(hc : c%p ≠ 0)(hx : x%p ≠ 0) : c*x%p ≠ 0 := fun z => by
 obtain⟨t, _, _, e⟩ := GM hp hc;refine hx ?_;have e1 : x%p = (c*t)*x%p := by rw[Bi (c*t) x p, e, Eh, A5 _ (BJ p)]
 rw[e1, show c*t*x = t*(c*x) by rw[Ch c t, Em], Bi, z, FJ, C3]
noncomputable def Bb(p : Ae) : Ab Ae -> Al Ae
 |[] => Af
 |x::xs => if x%p = 0 then Bb p xs else Aa (x%p)
theorem HF{p : Ae} : ∀{xs : Ab Ae}, Bb p xs = Af ↔ ∀ x ∈ xs, x%p = 0
 |[] => by simp[Bb]
 |x::xs => by
  unfold Bb;by_cases h : x%p = 0
  ·rw[AF h, HF (xs := xs)];simp[h]
  ·rw[AH h];simp[h]
theorem Hc{p l : Ae}(hp : 0<p) : ∀{xs : Ab Ae}, Bb p xs = Aa l -> l%p ≠ 0 /\ 0<l /\ l<p
 |[], h => by cases h
 |x::xs, h => by
  unfold Bb at h;by_cases hx : x%p = 0
  ·rw[AF hx]at h;exact Hc hp h
  ·rw[AH hx]at h;cases h;have h0 := AY x (b := p) (by omega)
   have h1 := A2 x hp;exact⟨by rw[A5 _ (BJ p)];exact hx, by omega, h1⟩
theorem G9{p c : Ae}(hp : P4 p)(hc : c%p ≠ 0){f : Ae -> Ae}(hf : ∀ x, f x%p = c*x%p) : ∀ xs : Ab Ae, Bb p (xs.map f) = (Bb p xs).map fun l => c*l%p
 |[] => rfl
 |x::xs => by
  rw[Bm];unfold Bb;rw[hf x];by_cases hx : x%p = 0
  ·rw[AF hx, AF (by rw[Bi, hx, FJ, C3]), G9 hp hc hf xs]
  ·rw[AH hx, AH (Eu hp hc hx), Dj]
   congr 1
   rw[Bi c (x%p), A5 _ (BJ p), <-Bi]
noncomputable def ds(xs : Ab Ae) : Ab D := xs.map D.int
noncomputable def B5(b : An)(xs : Ab Ae) : D := if b = Ac then .tup (ds xs) else .lst (ds xs)
theorem La(b xs) : Dd (B5 b xs) = .ok (ds xs) := by unfold B5;cases b <;> rfl
theorem GD{g : D -> R An}{f : D -> R D}{φ : Ae -> Ae} : ∀(xs : Ab Ae), (∀ x ∈ xs, g (.int x) = .ok Ac /\ f (.int x) = .ok (.int (φ x))) -> Bp g f (ds xs) = .ok (ds (xs.map φ))
 |[], _ => rfl
 |x::xs, h => by
  obtain⟨h1, h2⟩ := h x (Au ..);show (g (.int x)).bind _ = _;rw[h1, R.bind_ok, AF rfl, h2, R.bind_ok];show (Bp g f (ds xs)).bind _ = _;rw[GD xs fun y hy => h y (Ar _ hy)]
  rfl
noncomputable def KB : E := (.bl Ac)
noncomputable def IS : E := (.call 1 (.cons (.var 0) (.cons (.var 5) .nil)))
noncomputable def Kt : E := (.bl Ac)
noncomputable def IR : E := (.call 1 (.cons (.var 0) (.cons (.bin .Mult (.var 4) (.var 6)) .nil)))
noncomputable def EQ : Ss := (.cons (.ife (.cmp .NotEq (.var 3) (.int 0)) (.cons (.asg 4 Ad (.call 9 (.cons (.var 0) (.cons (.var 3) .nil)))) (.cons (.ret (.bi .tuple (.cons (.comp IR 6 (.e (.var 2)) Kt) .nil))) .nil)) .nil) .nil)
noncomputable def HH : Df := ⟨7, Ad, (.cons (.asg 2 Ad (.comp IS 5 (.e (.var 1)) KB)) (.cons (.fors 3 (.e (.var 2)) EQ) (.cons (.rais 3 (.cons (.str (CU "all the numbers have the rest 0")) .nil)) .nil)))⟩
noncomputable def fmI(p t : Ae)(xs : Ab Ae) : Ab Ae := xs.map fun x => t*(x%p)%p
section
variable{Γ : Gam}{p : Ae}{xs : Ab Ae}{b : An}
end
theorem IK{g : D -> R An}{f : D -> R D}{q : Ae -> An} : ∀(xs : Ab Ae), (∀ x ∈ xs, g (.int x) = .ok (q x) /\ f (.int x) = .ok (.int x)) -> Bp g f (ds xs) = .ok (ds (xs.filter q))
 |[], _ => rfl
 |x::xs, h => by
  obtain⟨h1, h2⟩ := h x (Au ..);have ih := IK xs fun y hy => h y (Ar _ hy)
  show (g (.int x)).bind _ = _;rw[h1, R.bind_ok];cases hq : q x with
  |true=>
   rw[AF rfl, h2, R.bind_ok, EG, hq, AF rfl];show (Bp g f (ds xs)).bind _ = _;rw[ih];rfl
  |false=>
   rw[AH (by decide), EG, hq, AH (by decide)]
   exact ih
theorem Kz{p : Ae}(hp : 0<p) : ∀(xs : Ab Ae), ((xs.map fun x => x%p).filter fun r => decide (0<r)).head? = Bb p xs
 |[] => rfl
 |x::xs => by
  have h0 := AY x (b := p) (by omega)
  unfold Bb;rw[Bm, EG];by_cases h : x%p = 0
  ·rw[AF h, AH (by simp[h]), Kz hp xs]
  ·rw[AH h, AF (by simp;omega)]
   rfl
theorem PV{p l t : Ae}(it : Ey p l t) : ((D3 p).filter fun k => decide (k*l%p = 1)).head? = Aa t := by
 have hm : t ∈ (D3 p).filter fun k => decide (k*l%p = 1) := DP.mpr ⟨GA.mpr ⟨it.1, it.2.1⟩, by simp[Ch t l, it.2.2]⟩
 cases e : (D3 p).filter fun k => decide (k*l%p = 1) with
 |nil => rw[e]at hm;cases hm
 |cons u us=>
  have hu : u ∈ (D3 p).filter fun k => decide (k*l%p = 1) := by rw[e];exact Au ..
  obtain⟨h1, h2⟩ := DP.mp hu;obtain⟨a, b⟩ := GA.mp h1;have h3 : u*l%p = 1 := by simpa using h2
  rw[KO it ⟨a, b, by rw[Ch];exact h3⟩]
  rfl
theorem KQ{l : Ae}(h : xs.head? = Aa l) : CH (ds xs) 0 = .ok (.int l) := by
 cases xs with
 |nil => cases h
 |cons x xs => cases h;exact Js (by omega) rfl
theorem Lj : ∀ xs : Ab Ae, Ev (xs.map fun _ => D.bl Ac) = .ok Ac
 |[] => rfl
 |x::xs => by
  rw[Bm, Jp, Lj xs];rfl
theorem Mc{g : D -> R An}{f : D -> R D} : ∀(xs : Ab Ae), (∀ x ∈ xs, g (.int x) = .ok Ac /\ f (.int x) = .ok (.bl Ac)) -> Bp g f (ds xs) = .ok (xs.map fun _ => D.bl Ac)
 |[], _ => rfl
 |x::xs, h => by
  obtain⟨h1, h2⟩ := h x (Au ..);show (g (.int x)).bind _ = _;rw[h1, R.bind_ok, AF rfl, h2, R.bind_ok];show (Bp g f (ds xs)).bind _ = _;rw[Mc xs fun y hy => h y (Ar _ hy)]
  rfl
noncomputable abbrev own(xs : Ab Ae) : Sl := Aa (.lst (ds xs), Ac)
section
variable{Γ : Gam}{ns : Ab Ae}{a1 a2 a4 a6 a7 a8 a9 b0 b1 b2 b3 b4 : Sl}{p : Ae}
end
section
variable{Γ : Gam}{ns : Ab Ae}{a1 a4 a6 a7 a8 a9 b2 b3 b4 : Sl}{p m : Ae}{xs : Ab Ae}
end
noncomputable def Cg(p x y : Ae) : Prop := x%p = y%p
section
variable{p a b c d : Ae}
theorem Cg.rfl : Cg p a a := Eq.refl _
theorem Cg.of(h : a = b) : Cg p a b := by unfold Cg;rw[h]
theorem Cg.trans{a b c : Ae}(h : Cg p a b)(g : Cg p b c) : Cg p a c := Eq.trans h g
theorem Cg.symm(h : Cg p a b) : Cg p b a := Eq.symm h
theorem Cg.add(h : Cg p a b)(g : Cg p c d) : Cg p (a+c) (b+d) := by unfold Cg at *;rw[NS, h, g, <-NS]
theorem Cg.sub(h : Cg p a b)(g : Cg p c d) : Cg p (a-c) (b-d) := by unfold Cg at *;rw[NV, h, g, <-NV]
theorem Cg.mul(h : Cg p a b)(g : Cg p c d) : Cg p (a*c) (b*d) := by unfold Cg at *;rw[Bi, h, g, <-Bi]
theorem Cg.md(h : a = b%p) : Cg p a b := by unfold Cg;rw[h, A5 _ (BJ p)]
end
theorem ET{p a0 a1 a2 b0 b1 b2 c0 c1 c2 x0 x1 x2 y0 y1 y2 z0 z1 z2 : Ae}(h0 : Cg p a0 x0)(h1 : Cg p a1 x1)(h2 : Cg p a2 x2)(h3 : Cg p b0 y0)(h4 : Cg p b1 y1)(h5 : Cg p b2 y2)(h6 : Cg p c0 z0)(h7 : Cg p c1 z1)(h8 : Cg p c2 z2):Cg p (a0*(b1*c2-b2*c1)-a1*(b0*c2-b2*c0)+a2*(b0*c1-b1*c0)) (x0*(y1*z2-y2*z1)-x1*(y0*z2-y2*z0)+x2*(y0*z1-y1*z0)):=
 ((h0.mul ((h4.mul h8).sub (h5.mul h7))).sub (h1.mul ((h3.mul h8).sub (h5.mul h6)))).add (h2.mul ((h3.mul h7).sub (h4.mul h6)))
theorem P4.m1(h : P4 p) : (-1 : Ae)%p ≠ 0 := by rcases h with rfl|rfl|rfl|rfl <;> decide
theorem P4.o1(h : P4 p) : (1 : Ae)%p ≠ 0 := by rcases h with rfl|rfl|rfl|rfl <;> decide
noncomputable abbrev R3 := Ae × Ae × Ae
variable{y a r g:R3}
noncomputable def A3(a : R3) : D := .lst [.int a.1, .int a.2.1, .int a.2.2]
noncomputable def AN(a b c : R3) : Ae := det a.1 a.2.1 a.2.2 b.1 b.2.1 b.2.2 c.1 c.2.1 c.2.2
noncomputable def In3(p : Ae)(a : R3) : Prop := (0 <= a.1 /\ a.1<p) /\ (0 <= a.2.1 /\ a.2.1<p) /\ (0 <= a.2.2 /\ a.2.2<p)
structure GoodR (p : Ae) (a b c : R3) : Prop where
 p4 : P4 p
 ia : In3 p a
 ib : In3 p b
 ic : In3 p c
 nz : AN a b c%p ≠ 0
theorem GoodR.of{a b c a' b' c' : R3}(h : GoodR p a b c)(hk : k%p ≠ 0)(e : Cg p (AN a' b' c') (k*AN a b c))(hin : In3 p a' /\ In3 p b' /\ In3 p c') : GoodR p a' b' c' := ⟨h.p4, hin.1, hin.2.1, hin.2.2, by rw[show AN a' b' c'%p = _ from e];exact Eu h.p4 hk h.nz⟩
noncomputable def Gm(t : Ae)(a : R3) : R3 := (a.1*t, a.2.1*t, a.2.2*t)
noncomputable def Eg(t : Ae)(a b : R3) : R3 := (a.1+t*b.1, a.2.1+t*b.2.1, a.2.2+t*b.2.2)
noncomputable def mdR(p : Ae)(a : R3) : R3 := (a.1%p, a.2.1%p, a.2.2%p)
noncomputable def scR(p t : Ae)(a : R3) : R3 := mdR p (Gm t a)
noncomputable def adR(p t : Ae)(a b : R3) : R3 := mdR p (Eg t a b)
theorem M3(h : 0<p)(a : R3) : In3 p (mdR p a) := ⟨⟨AY _ (by omega), A2 _ h⟩, ⟨AY _ (by omega), A2 _ h⟩, ⟨AY _ (by omega), A2 _ h⟩⟩
theorem GO(h : 0<p)(t : Ae)(a : R3) : In3 p (scR p t a) := M3 h _
theorem GP(h : 0<p)(t : Ae)(a b : R3) : In3 p (adR p t a b) := M3 h _
theorem Nv(p t : Ae)(a b c : R3) : Cg p (AN (scR p t a) b c) (t*AN a b c) := by
 refine Cg.trans (b := AN (Gm t a) b c) ?_ (Cg.of (by unfold AN det Gm;grind))
 unfold AN det;exact ET (Cg.md (by rfl)) (Cg.md (by rfl)) (Cg.md (by rfl)) Cg.rfl Cg.rfl Cg.rfl Cg.rfl Cg.rfl Cg.rfl
theorem WV(p t : Ae)(a b c : R3) : Cg p (AN (adR p t a b) b c) (1*AN a b c) := by
 refine Cg.trans (b := AN (Eg t a b) b c) ?_ (Cg.of (by unfold AN det Eg;grind))
 unfold AN det;exact ET (Cg.md (by rfl)) (Cg.md (by rfl)) (Cg.md (by rfl)) Cg.rfl Cg.rfl Cg.rfl Cg.rfl Cg.rfl Cg.rfl
theorem WU(p t : Ae)(a b c : R3) : Cg p (AN (adR p t a c) b c) (1*AN a b c) := by
 refine Cg.trans (b := AN (Eg t a c) b c) ?_ (Cg.of (by unfold AN det Eg;grind))
 unfold AN det;exact ET (Cg.md (by rfl)) (Cg.md (by rfl)) (Cg.md (by rfl)) Cg.rfl Cg.rfl Cg.rfl Cg.rfl Cg.rfl Cg.rfl
theorem Nu(p t : Ae)(a b c : R3) : Cg p (AN a (scR p t b) c) (t*AN a b c) := by
 refine Cg.trans (b := AN a (Gm t b) c) ?_ (Cg.of (by unfold AN det Gm;grind))
 unfold AN det;exact ET Cg.rfl Cg.rfl Cg.rfl (Cg.md (by rfl)) (Cg.md (by rfl)) (Cg.md (by rfl)) Cg.rfl Cg.rfl Cg.rfl
theorem WK(p t : Ae)(a b c : R3) : Cg p (AN a (adR p t b a) c) (1*AN a b c) := by
 refine Cg.trans (b := AN a (Eg t b a) c) ?_ (Cg.of (by unfold AN det Eg;grind))
 unfold AN det;exact ET Cg.rfl Cg.rfl Cg.rfl (Cg.md (by rfl)) (Cg.md (by rfl)) (Cg.md (by rfl)) Cg.rfl Cg.rfl Cg.rfl
theorem WJ(p t : Ae)(a b c : R3) : Cg p (AN a (adR p t b c) c) (1*AN a b c) := by
 refine Cg.trans (b := AN a (Eg t b c) c) ?_ (Cg.of (by unfold AN det Eg;grind))
 unfold AN det;exact ET Cg.rfl Cg.rfl Cg.rfl (Cg.md (by rfl)) (Cg.md (by rfl)) (Cg.md (by rfl)) Cg.rfl Cg.rfl Cg.rfl
theorem Nt(p t : Ae)(a b c : R3) : Cg p (AN a b (scR p t c)) (t*AN a b c) := by
 refine Cg.trans (b := AN a b (Gm t c)) ?_ (Cg.of (by unfold AN det Gm;grind))
 unfold AN det;exact ET Cg.rfl Cg.rfl Cg.rfl Cg.rfl Cg.rfl Cg.rfl (Cg.md (by rfl)) (Cg.md (by rfl)) (Cg.md (by rfl))
theorem WI(p t : Ae)(a b c : R3) : Cg p (AN a b (adR p t c a)) (1*AN a b c) := by
 refine Cg.trans (b := AN a b (Eg t c a)) ?_ (Cg.of (by unfold AN det Eg;grind))
 unfold AN det;exact ET Cg.rfl Cg.rfl Cg.rfl Cg.rfl Cg.rfl Cg.rfl (Cg.md (by rfl)) (Cg.md (by rfl)) (Cg.md (by rfl))
theorem WH(p t : Ae)(a b c : R3) : Cg p (AN a b (adR p t c b)) (1*AN a b c) := by
 refine Cg.trans (b := AN a b (Eg t c b)) ?_ (Cg.of (by unfold AN det Eg;grind))
 unfold AN det;exact ET Cg.rfl Cg.rfl Cg.rfl Cg.rfl Cg.rfl Cg.rfl (Cg.md (by rfl)) (Cg.md (by rfl)) (Cg.md (by rfl))/-! ### draws -/
theorem Sa(h0 : 0 <= k)(h1 : k<ns.length) : CH (ns.map D.int) k = .ok (.int (ns.getD k.toNat 0)) := Js h0 (by
 have : k.toNat<ns.length := by omega
 simp[this])
noncomputable def IV : E := (.bl Ac)
noncomputable def Hz : E := (.bin .Mod (.bin .Mult (.var 13) (.var 9)) (.var 1))
noncomputable def IU : E := (.bl Ac)
noncomputable def IW : E := (.bin .Mod (.bin .Add (.idx (.var 11) (.var 14)) (.bin .Mult (.var 9) (.idx (.var 12) (.var 14)))) (.var 1))
noncomputable def Et : Ss := (.cons (.asg 6 Ad (.call 79 (.cons (.var 0) (.cons (.bin .Add (.var 2) (.var 5)) .nil)))) (.cons (.asg 7 Ad (.bin .Mod (.var 6) (.int 3))) (.cons (.asg 8 Ad (.bin .Mod (.bin .Add (.bin .Add (.var 7) (.int 1)) (.bin .Mod (.bin .FloorDiv (.var 6) (.int 3)) (.int 2))) (.int 3))) (.cons (.asg 9 Ad (.bin .Add (.int 1) (.bin .Mod (.bin .FloorDiv (.var 6) (.int 6)) (.bin .Sub (.var 1) (.int 1))))) (.cons (.ife (.cmp .Eq (.bin .Mod (.bin .FloorDiv (.var 6) (.int 66)) (.int 3)) (.int 0)) (.cons (.asg 10 Ad (.idx (.var 4) (.var 7))) (.cons (.put 4 (.var 7) (.idx (.var 4) (.var 8))) (.cons (.put 4 (.var 8) (.var 10)) .nil))) (.cons (.ife (.cmp .Eq (.bin .Mod (.bin .FloorDiv (.var 6) (.int 66)) (.int 9)) (.int 1)) (.cons (.put 4 (.var 7) (.comp Hz 13 (.e (.idx (.var 4) (.var 7))) IV)) .nil) (.cons (.asg 11 Ad (.idx (.var 4) (.var 7))) (.cons (.asg 12 Ad (.idx (.var 4) (.var 8))) (.cons (.put 4 (.var 7) (.comp IW 14 (.rng (.int 3)) IU)) .nil)))) .nil)) .nil)))))
noncomputable abbrev ownR(a b c : R3) : Sl := Aa (.lst [A3 a, A3 b, A3 c], Ac)
section
variable{Γ : Gam}{ns : Ab Ae}{at_ many s5 s0 s1 s2 : Sl}{p t m : Ae}{a b c : R3}
theorem WW(r : R3)(e1 : Bg ρ 9 = .ok (.int t))(e2 : Bg ρ 1 = .ok (.int p))(hl : 13<ρ.length)(hp : 0<p)(mt : ∀ x, BO x t = Ac) : Bp (cG Γ ρ 13 IV) (cF Γ ρ 13 Hz) [.int r.1, .int r.2.1, .int r.2.2] = .ok [.int (scR p t r).1, .int (scR p t r).2.1, .int (scR p t r).2.2] := by
 have key : ∀ x : Ae, cF Γ ρ 13 Hz (.int x) = .ok (.int (x*t%p)) := fun x => by
  have v13 : Bg (ρ.set 13 (Aa (.int x, Ad))) 13 = .ok (.int x) := by unfold Bg;rw[Bq hl]
  have v9 : Bg (ρ.set 13 (Aa (.int x, Ad))) 9 = .ok (.int t) := by unfold Bg at e1 ⊢;rw[Bo (by decide)];exact e1
  have v1 : Bg (ρ.set 13 (Aa (.int x, Ad))) 1 = .ok (.int p) := by unfold Bg at e2 ⊢;rw[Bo (by decide)];exact e2
  show (((Bg (ρ.set 13 (Aa (.int x, Ad))) 13).bind fun y => (Bg (ρ.set 13 (Aa (.int x, Ad))) 9).bind fun z => BR .Mult y z).bind fun y => (Bg (ρ.set 13 (Aa (.int x, Ad))) 1).bind fun z => BR .Mod y z) = _
  rw[v13, v9, v1];simp[mt, hp]
 have := GD (g := cG Γ ρ 13 IV) (f := cF Γ ρ 13 Hz) (φ := fun x => x*t%p) [r.1, r.2.1, r.2.2] fun x _ => ⟨rfl, key x⟩
 exact this
theorem WX(r q : R3)(e9 : Bg ρ 9 = .ok (.int t))(e1 : Bg ρ 1 = .ok (.int p))(e11 : Bg ρ 11 = .ok (A3 r))(e12 : Bg ρ 12 = .ok (A3 q))(hl : 14<ρ.length)(hp : 0<p)(mt : ∀ x, BO t x = Ac) : Bp (cG Γ ρ 14 IU) (cF Γ ρ 14 IW) [.int 0, .int 1, .int 2] = .ok [.int (adR p t r q).1, .int (adR p t r q).2.1, .int (adR p t r q).2.2] := by
 have key : ∀(k : Ae)(x y : Ae), CH [.int r.1, .int r.2.1, .int r.2.2] k = .ok (.int x) -> CH [.int q.1, .int q.2.1, .int q.2.2] k = .ok (.int y) -> cF Γ ρ 14 IW (.int k) = .ok (.int ((x+t*y)%p)) := fun k x y hx hy => by
  have v14 : Bg (ρ.set 14 (Aa (.int k, Ad))) 14 = .ok (.int k) := by unfold Bg;rw[Bq hl]
  have v9 : Bg (ρ.set 14 (Aa (.int k, Ad))) 9 = .ok (.int t) := by unfold Bg at e9 ⊢;rw[Bo (by decide)];exact e9
  have v1 : Bg (ρ.set 14 (Aa (.int k, Ad))) 1 = .ok (.int p) := by unfold Bg at e1 ⊢;rw[Bo (by decide)];exact e1
  have v11 : Bg (ρ.set 14 (Aa (.int k, Ad))) 11 = .ok (A3 r) := by unfold Bg at e11 ⊢;rw[Bo (by decide)];exact e11
  have v12 : Bg (ρ.set 14 (Aa (.int k, Ad))) 12 = .ok (A3 q) := by unfold Bg at e12 ⊢;rw[Bo (by decide)];exact e12
  show ((((Bg (ρ.set 14 (Aa (.int k, Ad))) 11).bind fun y => (Bg (ρ.set 14 (Aa (.int k, Ad))) 14).bind fun z => DH y z).bind fun u => ((Bg (ρ.set 14 (Aa (.int k, Ad))) 9).bind fun y => ((Bg (ρ.set 14 (Aa (.int k, Ad))) 12).bind fun y => (Bg (ρ.set 14 (Aa (.int k, Ad))) 14).bind fun z => DH y z).bind fun z => BR .Mult y z).bind fun v => BR .Add u v).bind fun y => (Bg (ρ.set 14 (Aa (.int k, Ad))) 1).bind fun z => BR .Mod y z) = _
  rw[v14, v9, v1, v11, v12];simp[A3, hx, hy, mt, hp]
 have g : ∀ x, cG Γ ρ 14 IU x = .ok Ac := fun _ => rfl
 simp[Bp, g, key 0 r.1 q.1 rfl rfl, key 1 r.2.1 q.2.1 rfl rfl, key 2 r.2.2 q.2.2 rfl rfl];exact⟨rfl, rfl, rfl⟩
theorem GI{L:Ab D}{i j:Ae}{i' j':Ag}{x:R3}(hi : CH L i = .ok (A3 x))(hj : CH L j = .ok (A3 y))(pi : plD L.length i = Aa i')(pj : plD L.length j = Aa j')(p0 : 0<p)(mt : ∀ x, BO x t = Ac)(mt2 : ∀ x, BO t x = Ac):(m /66%3 = 0->evSs Γ [sh (scr ns),si p,at_,many,Aa (.lst L,Ac),s5,si m,si i,si j,si t,s0,s1,s2,Af,Af] (Et.drop 4) = .next [sh (scr ns),si p,at_,many,Aa (.lst ((L.set i' (A3 y)).set j' (A3 x)),Ac),s5,si m,si i,si j,si t,sh (A3 x),s1,s2,Af,Af])/\(¬ m /66%3 = 0->m /66%9 = 1->evSs Γ [sh (scr ns),si p,at_,many,Aa (.lst L,Ac),s5,si m,si i,si j,si t,s0,s1,s2,Af,Af] (Et.drop 4) = .next [sh (scr ns),si p,at_,many,Aa (.lst (L.set i' (A3 (scR p t x))),Ac),s5,si m,si i,si j,si t,s0,s1,s2,Af,Af])/\(¬ m /66%3 = 0->¬ m /66%9 = 1->evSs Γ [sh (scr ns),si p,at_,many,Aa (.lst L,Ac),s5,si m,si i,si j,si t,s0,s1,s2,Af,Af] (Et.drop 4) = .next [sh (scr ns),si p,at_,many,Aa (.lst (L.set i' (A3 (adR p t x y))),Ac),s5,si m,si i,si j,si t,s0,sh (A3 x),sh (A3 y),Af,Af]) := by
 refine⟨fun k0 => ?_, fun k0 k1 => ?_, fun k0 k1 => ?_⟩
 ·simp[Et, Ss.drop, k0, JE, CG, hi, hj, pi, pj]
 ·have cp := WW (Γ := Γ) (ρ := [sh (scr ns), si p, at_, many, Aa (.lst L, Ac), s5, si m, si i, si j, si t, s0, s1, s2, Af, Af]) x rfl rfl (by simp) p0 mt
  rw[A3]at hi;simp[Et, Ss.drop, k0, k1, JE, CG, hi, pi, cp];rfl
 ·have cp := WX (Γ := Γ) (ρ := [sh (scr ns), si p, at_, many, Aa (.lst L, Ac), s5, si m, si i, si j, si t, s0, sh (A3 x), sh (A3 y), Af, Af]) x y rfl rfl rfl rfl (by simp) p0 mt2
  simp[Et, Ss.drop, k0, k1, JE, CG, hi, hj, pi, Jf (hi := 3) (by decide) (by decide), XE, cp]
  rfl
theorem Vx(h : GoodR p a b c)(ht : 0<t /\ t<p) : ∃ a' b' c' u0 u1 u2, GoodR p a' b' c' /\ evSs Γ [sh (scr ns), si p, at_, many, ownR a b c, s5, si m, si 0, si 1, si t, s0, s1, s2, Af, Af] (Et.drop 4) = .next [sh (scr ns), si p, at_, many, ownR a' b' c', s5, si m, si 0, si 1, si t, u0, u1, u2, Af, Af] := by
 have p0 := h.p4.pos;have mt : ∀ x, BO x t = Ac := fun x => E5 (by have := h.p4.hi;omega) (by have := h.p4.hi;omega)
 have mt2 : ∀ x, BO t x = Ac := fun x => Er (by have := h.p4.hi;omega) (by have := h.p4.hi;omega)
 have g := GI (Γ := Γ) (ns := ns) (m := m) (at_ := at_) (many := many) (s5 := s5) (s0 := s0) (s1 := s1) (s2 := s2) (L := [A3 a, A3 b, A3 c]) (i := 0) (j := 1) (i' := 0) (j' := 1) (x := a) (y := b) rfl rfl rfl rfl p0 mt mt2;by_cases k0 : m / 66%3 = 0
 ·refine⟨b, a, c, sh (A3 a), s1, s2, ?_, ?_⟩
  ·exact h.of (k := -1) h.p4.m1 (Cg.of (by unfold AN det;grind)) ⟨h.ib, h.ia, h.ic⟩
  ·exact g.1 k0
 ·by_cases k1 : m / 66%9 = 1
  ·refine⟨(scR p t a), b, c, s0, s1, s2, ?_, ?_⟩
   ·exact h.of (k := t) (by rw[Ax (by omega) ht.2];omega) (Nv p t a b c) ⟨GO p0 _ _, h.ib, h.ic⟩
   ·exact g.2.1 k0 k1
  ·refine⟨(adR p t a b), b, c, s0, sh (A3 a), sh (A3 b), ?_, ?_⟩
   ·exact h.of (k := 1) h.p4.o1 (WV p t a b c) ⟨GP p0 _ _ _, h.ib, h.ic⟩
   ·exact g.2.2 k0 k1
theorem Vw(h : GoodR p a b c)(ht : 0<t /\ t<p) : ∃ a' b' c' u0 u1 u2, GoodR p a' b' c' /\ evSs Γ [sh (scr ns), si p, at_, many, ownR a b c, s5, si m, si 0, si 2, si t, s0, s1, s2, Af, Af] (Et.drop 4) = .next [sh (scr ns), si p, at_, many, ownR a' b' c', s5, si m, si 0, si 2, si t, u0, u1, u2, Af, Af] := by
 have p0 := h.p4.pos;have mt : ∀ x, BO x t = Ac := fun x => E5 (by have := h.p4.hi;omega) (by have := h.p4.hi;omega)
 have mt2 : ∀ x, BO t x = Ac := fun x => Er (by have := h.p4.hi;omega) (by have := h.p4.hi;omega)
 have g := GI (Γ := Γ) (ns := ns) (m := m) (at_ := at_) (many := many) (s5 := s5) (s0 := s0) (s1 := s1) (s2 := s2) (L := [A3 a, A3 b, A3 c]) (i := 0) (j := 2) (i' := 0) (j' := 2) (x := a) (y := c) rfl rfl rfl rfl p0 mt mt2;by_cases k0 : m / 66%3 = 0
 ·refine⟨c, b, a, sh (A3 a), s1, s2, ?_, ?_⟩
  ·exact h.of (k := -1) h.p4.m1 (Cg.of (by unfold AN det;grind)) ⟨h.ic, h.ib, h.ia⟩
  ·exact g.1 k0
 ·by_cases k1 : m / 66%9 = 1
  ·refine⟨(scR p t a), b, c, s0, s1, s2, ?_, ?_⟩
   ·exact h.of (k := t) (by rw[Ax (by omega) ht.2];omega) (Nv p t a b c) ⟨GO p0 _ _, h.ib, h.ic⟩
   ·exact g.2.1 k0 k1
  ·refine⟨(adR p t a c), b, c, s0, sh (A3 a), sh (A3 c), ?_, ?_⟩
   ·exact h.of (k := 1) h.p4.o1 (WU p t a b c) ⟨GP p0 _ _ _, h.ib, h.ic⟩
   ·exact g.2.2 k0 k1
theorem Vv(h : GoodR p a b c)(ht : 0<t /\ t<p) : ∃ a' b' c' u0 u1 u2, GoodR p a' b' c' /\ evSs Γ [sh (scr ns), si p, at_, many, ownR a b c, s5, si m, si 1, si 0, si t, s0, s1, s2, Af, Af] (Et.drop 4) = .next [sh (scr ns), si p, at_, many, ownR a' b' c', s5, si m, si 1, si 0, si t, u0, u1, u2, Af, Af] := by
 have p0 := h.p4.pos;have mt : ∀ x, BO x t = Ac := fun x => E5 (by have := h.p4.hi;omega) (by have := h.p4.hi;omega)
 have mt2 : ∀ x, BO t x = Ac := fun x => Er (by have := h.p4.hi;omega) (by have := h.p4.hi;omega)
 have g := GI (Γ := Γ) (ns := ns) (m := m) (at_ := at_) (many := many) (s5 := s5) (s0 := s0) (s1 := s1) (s2 := s2) (L := [A3 a, A3 b, A3 c]) (i := 1) (j := 0) (i' := 1) (j' := 0) (x := b) (y := a) rfl rfl rfl rfl p0 mt mt2;by_cases k0 : m / 66%3 = 0
 ·refine⟨b, a, c, sh (A3 b), s1, s2, ?_, ?_⟩
  ·exact h.of (k := -1) h.p4.m1 (Cg.of (by unfold AN det;grind)) ⟨h.ib, h.ia, h.ic⟩
  ·exact g.1 k0
 ·by_cases k1 : m / 66%9 = 1
  ·refine⟨a, (scR p t b), c, s0, s1, s2, ?_, ?_⟩
   ·exact h.of (k := t) (by rw[Ax (by omega) ht.2];omega) (Nu p t a b c) ⟨h.ia, GO p0 _ _, h.ic⟩
   ·exact g.2.1 k0 k1
  ·refine⟨a, (adR p t b a), c, s0, sh (A3 b), sh (A3 a), ?_, ?_⟩
   ·exact h.of (k := 1) h.p4.o1 (WK p t a b c) ⟨h.ia, GP p0 _ _ _, h.ic⟩
   ·exact g.2.2 k0 k1
theorem Vu(h : GoodR p a b c)(ht : 0<t /\ t<p) : ∃ a' b' c' u0 u1 u2, GoodR p a' b' c' /\ evSs Γ [sh (scr ns), si p, at_, many, ownR a b c, s5, si m, si 1, si 2, si t, s0, s1, s2, Af, Af] (Et.drop 4) = .next [sh (scr ns), si p, at_, many, ownR a' b' c', s5, si m, si 1, si 2, si t, u0, u1, u2, Af, Af] := by
 have p0 := h.p4.pos;have mt : ∀ x, BO x t = Ac := fun x => E5 (by have := h.p4.hi;omega) (by have := h.p4.hi;omega)
 have mt2 : ∀ x, BO t x = Ac := fun x => Er (by have := h.p4.hi;omega) (by have := h.p4.hi;omega)
 have g := GI (Γ := Γ) (ns := ns) (m := m) (at_ := at_) (many := many) (s5 := s5) (s0 := s0) (s1 := s1) (s2 := s2) (L := [A3 a, A3 b, A3 c]) (i := 1) (j := 2) (i' := 1) (j' := 2) (x := b) (y := c) rfl rfl rfl rfl p0 mt mt2;by_cases k0 : m / 66%3 = 0
 ·refine⟨a, c, b, sh (A3 b), s1, s2, ?_, ?_⟩
  ·exact h.of (k := -1) h.p4.m1 (Cg.of (by unfold AN det;grind)) ⟨h.ia, h.ic, h.ib⟩
  ·exact g.1 k0
 ·by_cases k1 : m / 66%9 = 1
  ·refine⟨a, (scR p t b), c, s0, s1, s2, ?_, ?_⟩
   ·exact h.of (k := t) (by rw[Ax (by omega) ht.2];omega) (Nu p t a b c) ⟨h.ia, GO p0 _ _, h.ic⟩
   ·exact g.2.1 k0 k1
  ·refine⟨a, (adR p t b c), c, s0, sh (A3 b), sh (A3 c), ?_, ?_⟩
   ·exact h.of (k := 1) h.p4.o1 (WJ p t a b c) ⟨h.ia, GP p0 _ _ _, h.ic⟩
   ·exact g.2.2 k0 k1
theorem Vt(h : GoodR p a b c)(ht : 0<t /\ t<p) : ∃ a' b' c' u0 u1 u2, GoodR p a' b' c' /\ evSs Γ [sh (scr ns), si p, at_, many, ownR a b c, s5, si m, si 2, si 0, si t, s0, s1, s2, Af, Af] (Et.drop 4) = .next [sh (scr ns), si p, at_, many, ownR a' b' c', s5, si m, si 2, si 0, si t, u0, u1, u2, Af, Af] := by
 have p0 := h.p4.pos;have mt : ∀ x, BO x t = Ac := fun x => E5 (by have := h.p4.hi;omega) (by have := h.p4.hi;omega)
 have mt2 : ∀ x, BO t x = Ac := fun x => Er (by have := h.p4.hi;omega) (by have := h.p4.hi;omega)
 have g := GI (Γ := Γ) (ns := ns) (m := m) (at_ := at_) (many := many) (s5 := s5) (s0 := s0) (s1 := s1) (s2 := s2) (L := [A3 a, A3 b, A3 c]) (i := 2) (j := 0) (i' := 2) (j' := 0) (x := c) (y := a) rfl rfl rfl rfl p0 mt mt2;by_cases k0 : m / 66%3 = 0
 ·refine⟨c, b, a, sh (A3 c), s1, s2, ?_, ?_⟩
  ·exact h.of (k := -1) h.p4.m1 (Cg.of (by unfold AN det;grind)) ⟨h.ic, h.ib, h.ia⟩
  ·exact g.1 k0
 ·by_cases k1 : m / 66%9 = 1
  ·refine⟨a, b, (scR p t c), s0, s1, s2, ?_, ?_⟩
   ·exact h.of (k := t) (by rw[Ax (by omega) ht.2];omega) (Nt p t a b c) ⟨h.ia, h.ib, GO p0 _ _⟩
   ·exact g.2.1 k0 k1
  ·refine⟨a, b, (adR p t c a), s0, sh (A3 c), sh (A3 a), ?_, ?_⟩
   ·exact h.of (k := 1) h.p4.o1 (WI p t a b c) ⟨h.ia, h.ib, GP p0 _ _ _⟩
   ·exact g.2.2 k0 k1
theorem Vs(h : GoodR p a b c)(ht : 0<t /\ t<p) : ∃ a' b' c' u0 u1 u2, GoodR p a' b' c' /\ evSs Γ [sh (scr ns), si p, at_, many, ownR a b c, s5, si m, si 2, si 1, si t, s0, s1, s2, Af, Af] (Et.drop 4) = .next [sh (scr ns), si p, at_, many, ownR a' b' c', s5, si m, si 2, si 1, si t, u0, u1, u2, Af, Af] := by
 have p0 := h.p4.pos;have mt : ∀ x, BO x t = Ac := fun x => E5 (by have := h.p4.hi;omega) (by have := h.p4.hi;omega)
 have mt2 : ∀ x, BO t x = Ac := fun x => Er (by have := h.p4.hi;omega) (by have := h.p4.hi;omega)
 have g := GI (Γ := Γ) (ns := ns) (m := m) (at_ := at_) (many := many) (s5 := s5) (s0 := s0) (s1 := s1) (s2 := s2) (L := [A3 a, A3 b, A3 c]) (i := 2) (j := 1) (i' := 2) (j' := 1) (x := c) (y := b) rfl rfl rfl rfl p0 mt mt2;by_cases k0 : m / 66%3 = 0
 ·refine⟨a, c, b, sh (A3 c), s1, s2, ?_, ?_⟩
  ·exact h.of (k := -1) h.p4.m1 (Cg.of (by unfold AN det;grind)) ⟨h.ia, h.ic, h.ib⟩
  ·exact g.1 k0
 ·by_cases k1 : m / 66%9 = 1
  ·refine⟨a, b, (scR p t c), s0, s1, s2, ?_, ?_⟩
   ·exact h.of (k := t) (by rw[Ax (by omega) ht.2];omega) (Nt p t a b c) ⟨h.ia, h.ib, GO p0 _ _⟩
   ·exact g.2.1 k0 k1
  ·refine⟨a, b, (adR p t c b), s0, sh (A3 c), sh (A3 b), ?_, ?_⟩
   ·exact h.of (k := 1) h.p4.o1 (WH p t a b c) ⟨h.ia, h.ib, GP p0 _ _ _⟩
   ·exact g.2.2 k0 k1
end
section
variable{Γ : Gam}{ns : Ab Ae}{many s5 s6 s7 s8 s9 s0 s1 s2 : Sl}{p : Ae}{a b c : R3}
end
noncomputable def Ig(a b c : R3) : D := .lst [A3 a, A3 b, A3 c]
noncomputable def Kx : E := (.bl Ac)
noncomputable def IF : E := (.bin .Mod (.var 5) (.var 0))
noncomputable def IB : E := (.cmp .Gt (.var 6) (.int 0))
noncomputable def IE : E := (.var 6)
noncomputable def IA : E := (.cmp .Eq (.bin .Mod (.bin .Mult (.var 7) (.var 3)) (.var 0)) (.int 1))
noncomputable def ID : E := (.var 7)
noncomputable def Kw : E := (.bl Ac)
noncomputable def IC : E := (.bin .Mod (.bin .Mult (.var 8) (.var 4)) (.var 0))
noncomputable def IX : Df := ⟨9, Ad, (.cons (.asg 2 Ad (.comp IF 5 (.e (.var 1)) Kx)) (.cons (.asg 3 Ad (.idx (.comp IE 6 (.e (.var 2)) IB) (.int 0))) (.cons (.asg 4 Ad (.idx (.comp ID 7 (.rng2 (.int 1) (.var 0)) IA) (.int 0))) (.cons (.ret (.bi .tuple (.cons (.comp IC 8 (.e (.var 2)) Kw) .nil))) .nil))))⟩
noncomputable def Hj(Γ : Gam) : Prop := ∀(p : Ae)(b : An)(xs : Ab Ae)(l t : Ae), P4 p -> Bb p xs = Aa l -> Ey p l t -> Γ.F 82 [.int p, B5 b xs] = .ok (.tup (ds (fmI p t xs)))
theorem QV(Γ : Gam){b : An}{l t : Ae}(hp : P4 p)(e : Bb p xs = Aa l)(it : Ey p l t) : IX.run Γ [.int p, B5 b xs] = .ok (.tup (ds (fmI p t xs))) := by
 have p0 := hp.pos;have ph := hp.hi;have c1 : Bp (cG Γ [si p, sh (B5 b xs), Af, Af, Af, Af, Af, Af, Af] 5 Kx) (cF Γ [si p, sh (B5 b xs), Af, Af, Af, Af, Af, Af, Af] 5 IF) (ds xs) = .ok (ds (xs.map fun x => x%p)) := by
  refine GD xs fun x _ => ⟨rfl, ?_⟩
  simp[cF, IF, p0]
 generalize hR : (xs.map fun x => x%p) = rs at c1
 have c2 : Bp (cG Γ [si p, sh (B5 b xs), sh (.lst (ds rs)), Af, Af, Af, Af, Af, Af] 6 IB) (cF Γ [si p, sh (B5 b xs), sh (.lst (ds rs)), Af, Af, Af, Af, Af, Af] 6 IE) (ds rs) = .ok (ds (rs.filter fun r => decide (0<r))) := by
  refine IK rs fun x _ => ⟨?_, ?_⟩
  ·simp[cG, IB]
  ·simp[cF, IE]
 have hl := Kz p0 xs;rw[hR, e]at hl;generalize hL : (rs.filter fun r => decide (0<r)) = ls at c2 hl
 have g0 := KQ hl;obtain⟨_, l0, l1⟩ := Hc p0 e;have c3 : Bp (cG Γ [si p, sh (B5 b xs), sh (.lst (ds rs)), si l, Af, Af, Af, Af, Af] 7 IA) (cF Γ [si p, sh (B5 b xs), sh (.lst (ds rs)), si l, Af, Af, Af, Af, Af] 7 ID) (ds (D3 p)) = .ok (ds ((D3 p).filter fun k => decide (k*l%p = 1))) := by
  refine IK (D3 p) fun x hx => ⟨?_, ?_⟩
  ·obtain⟨x1, x2⟩ := GA.mp hx;have m : BO x l = Ac := Er (by omega) (by omega)
   simp[cG, IA, m, p0];rw[Dh];simp
  ·simp[cF, ID]
 have g1 := KQ (PV it);have c4 : Bp (cG Γ [si p, sh (B5 b xs), sh (.lst (ds rs)), si l, si t, Af, Af, Af, Af] 8 Kw) (cF Γ [si p, sh (B5 b xs), sh (.lst (ds rs)), si l, si t, Af, Af, Af, Af] 8 IC) (ds rs) = .ok (ds (rs.map fun r => t*r%p)) := by
  refine GD rs fun x _ => ⟨rfl, ?_⟩
  have m : BO x t = Ac := E5 (by have := it.1;omega) (by have := it.2.1;omega)
  simp[cF, IC, m, p0, Ch]
 have ru : Cy 1 p = .ok (ds (D3 p)) := Lo hp;have fe : fmI p t xs = rs.map fun r => t*r%p := by rw[<-hR];simp[fmI, Oe, NR]
 simp[IX, Df.run, BQ, La, c1, c2, g0, ru, c3, g1, c4, fe]
noncomputable def Ce(a b c : R3) : Ab Ae := [a.1, a.2.1, a.2.2, b.1, b.2.1, b.2.2, c.1, c.2.1, c.2.2]
noncomputable def trR(a : R3) : D := .tup [.int a.1, .int a.2.1, .int a.2.2]
noncomputable def Cz(a b c : R3) : D := .tup [trR a, trR b, trR c]
noncomputable def fmR(p t : Ae)(a : R3) : R3 := (t*(a.1%p)%p, t*(a.2.1%p)%p, t*(a.2.2%p)%p)
theorem Sd(p t : Ae)(a b c : R3) : fmI p t (Ce a b c) = Ce (fmR p t a) (fmR p t b) (fmR p t c) := rfl
theorem Po{a b c : R3}(h : AN a b c%p ≠ 0) : ∃ l, Bb p (Ce a b c) = Aa l := by
 cases e : Bb p (Ce a b c) with
 |some l => exact⟨l, rfl⟩
 |none=>
  refine absurd ?_ h;have z := HF.mp e;have q : ∀ x ∈ Ce a b c, Cg p x 0 := fun x hx => by
   have := z x hx;show x%p = 0%p;rw[this];simp
  have := ET (p := p) (q a.1 (by simp[Ce])) (q a.2.1 (by simp[Ce])) (q a.2.2 (by simp[Ce])) (q b.1 (by simp[Ce])) (q b.2.1 (by simp[Ce])) (q b.2.2 (by simp[Ce])) (q c.1 (by simp[Ce])) (q c.2.1 (by simp[Ce])) (q c.2.2 (by simp[Ce]))
  have e2 : AN a b c%p = (0*(0*0-0*0)-0*(0*0-0*0)+0*(0*0-0*0))%p := this;rw[e2];simp
theorem Xl(a b c : R3) : slD (.tup (ds (Ce a b c))) Af (Aa 3) = .ok (trR a) /\ slD (.tup (ds (Ce a b c))) (Aa 3) (Aa 6) = .ok (trR b) /\ slD (.tup (ds (Ce a b c))) (Aa 6) Af = .ok (trR c) := ⟨rfl, rfl, rfl⟩
noncomputable def IL : Df := ⟨3, Ad, (.cons (.asg 2 Ad (.call 82 (.cons (.var 0) (.cons (.bin .Add (.bin .Add (.idx (.var 1) (.int 0)) (.idx (.var 1) (.int 1))) (.idx (.var 1) (.int 2))) .nil)))) (.cons (.ret (.tup (.cons (.sl (.var 2) .non (.int 3)) (.cons (.sl (.var 2) (.int 3) (.int 6)) (.cons (.sl (.var 2) (.int 6) .non) .nil))))) .nil))⟩
noncomputable def Tk(Γ : Gam) : Prop := ∀(p : Ae)(a b c : R3)(l t : Ae), P4 p -> Bb p (Ce a b c) = Aa l -> Ey p l t -> Γ.F 84 [.int p, Ig a b c] = .ok (Cz (fmR p t a) (fmR p t b) (fmR p t c))
theorem Qv(a b c : R3) : BR .Add (A3 a) (A3 b) = .ok (.lst [.int a.1, .int a.2.1, .int a.2.2, .int b.1, .int b.2.1, .int b.2.2]) /\ BR .Add (.lst [.int a.1, .int a.2.1, .int a.2.2, .int b.1, .int b.2.1, .int b.2.2]) (A3 c) = .ok (.lst (ds (Ce a b c))) := ⟨rfl, rfl⟩
theorem Rt(h : Hj Γ)(p : Ae)(a b c : R3)(l t : Ae)(hp : P4 p)(e : Bb p (Ce a b c) = Aa l)(it : Ey p l t) : IL.run Γ [.int p, Ig a b c] = .ok (Cz (fmR p t a) (fmR p t b) (fmR p t c)) := by
 have f := h p Ad (Ce a b c) l t hp e it;rw[Sd]at f;have f' : Γ.F 82 [.int p, .lst (ds (Ce a b c))] = .ok (.tup (ds (Ce (fmR p t a) (fmR p t b) (fmR p t c)))) := f;obtain⟨x1, x2⟩ := Qv a b c;obtain⟨y1, y2, y3⟩ := Xl (fmR p t a) (fmR p t b) (fmR p t c);simp[IL, Df.run, BQ, Ig, g30, g31, g32, x1, x2, f', y1, y2, y3, slE];rfl
noncomputable def Bd(n : Ag)(x : Ae) : Prop := x.natAbs<2 ^ n
theorem Bd.mul{y:Ae}(h : Bd m x)(g : Bd n y) : Bd (m+n) (x*y) := by
 unfold Bd at *;rw[Int.natAbs_mul, Nat.pow_add];exact Nat.mul_lt_mul'' h g
theorem Bd.sub{y:Ae}(h : Bd n x)(g : Bd n y) : Bd (n+1) (x-y) := by
 unfold Bd at *;rw[Nat.pow_succ];omega
theorem JO{y:Ae}(h : Bd m x)(g : Bd n y)(hm : m <= 2000)(hn : n <= 2000) : Fx x y = Ac := by
 unfold Fx Bd at *;rw[Am, A1, A1];exact⟨Av h (DT (by decide) hm), Av g (DT (by decide) hn)⟩
noncomputable def B3(a : R3) : Prop := Bd 300 a.1 /\ Bd 300 a.2.1 /\ Bd 300 a.2.2
noncomputable def AA(q : An)(a : R3) : D := B5 q [a.1, a.2.1, a.2.2]
theorem GK(q : An)(a : R3) : DH (AA q a) (.int 0) = .ok (.int a.1) /\ DH (AA q a) (.int 1) = .ok (.int a.2.1) /\ DH (AA q a) (.int 2) = .ok (.int a.2.2) := by cases q <;> exact⟨rfl, rfl, rfl⟩
section
variable{Γ : Gam}{ns : Ab Ae}{p t : Ae}{a b c r : R3}{made s6 s7 : Sl}
end
noncomputable def IN : Df := ⟨1, Ad, (.cons (.ret (.and (.cons (.isi (.var 0) [.int]) (.cons (.no (.isi (.var 0) [.bool])) .nil)))) .nil)⟩
noncomputable def Qw(Γ : Gam) : Prop := ∀ x : Ae, Γ.F 85 [.int x] = .ok (.bl Ac)
theorem P8(Γ : Gam)(x : Ae) : IN.run Γ [.int x] = .ok (.bl Ac) := by
 simp[IN, Df.run, BQ, kiD, Dg]
noncomputable def Kv : E := (.bl Ac)
noncomputable def Iz : E := (.and (.cons (.call 85 (.cons (.var 3) .nil)) (.cons (.cmp2 .LtE .Lt (.int 0) (.var 3) (.var 1)) .nil)))
noncomputable def IP : Df := ⟨4, Ad, (.cons (.ife (.or (.cons (.no (.isi (.var 0) [.tuple])) (.cons (.cmp .NotEq (.bi .len (.cons (.var 0) .nil)) (.var 2)) .nil))) (.cons (.ret (.bl Ad)) .nil) .nil) (.cons (.ret (.bi .all (.cons (.comp Iz 3 (.e (.var 0)) Kv) .nil))) .nil))⟩
noncomputable def Qx(Γ : Gam) : Prop := ∀(p : Ae)(xs : Ab Ae), (∀ x ∈ xs, 0 <= x /\ x<p) -> Γ.F 86 [.tup (ds xs), .int p, .int xs.length] = .ok (.bl Ac)
theorem Qy(h : Qw Γ)(p : Ae)(xs : Ab Ae)(hx : ∀ x ∈ xs, 0 <= x /\ x<p) : IP.run Γ [.tup (ds xs), .int p, .int xs.length] = .ok (.bl Ac) := by
 have c1 : Bp (cG Γ [sh (.tup (ds xs)), si p, si xs.length, Af] 3 Kv) (cF Γ [sh (.tup (ds xs)), si p, si xs.length, Af] 3 Iz) (ds xs) = .ok (xs.map fun _ => D.bl Ac) := by
  refine Mc xs fun x hm => ⟨rfl, ?_⟩
  obtain⟨h0, h1⟩ := hx x hm;simp[cF, Iz, h x, h0, h1]
 have dl : (ds xs).length = xs.length := B6 ..;simp[IP, Df.run, BQ, kiD, Dg, dl, c1, Lj]
theorem K3{p : Ae} : ∀{xs ys : Ab Ae}, xs.map (fun x => x%p) = ys.map (fun x => x%p) -> Bb p xs = Bb p ys
 |[], [], _ => rfl
 |x::xs, y::ys, h => by
  rw[Bm, Bm, N3]at h;unfold Bb;rw[h.1, K3 h.2]
 |[], _::_, h => by simp at h
 |_::_, [], h => by simp at h
theorem Im(hp : 0<p)(t : Ae)(a : R3) : In3 p (fmR p t a) := ⟨⟨AY _ (by omega), A2 _ hp⟩, ⟨AY _ (by omega), A2 _ hp⟩, ⟨AY _ (by omega), A2 _ hp⟩⟩
section
variable{Γ : Gam}{ns : Ab Ae}{p m : Ae}{a b c : R3}{fa fb fc : R3}{q : An}{s9 s0 s1 s2 : Sl}
end
noncomputable def Jw(Γ : Gam) : Prop := ∀ p n : Ae, P4 p -> n%p ≠ 0 -> ∃ t, 1 <= t /\ t<p /\ n*t%p = 1 /\ Γ.F 9 [.int p, .int n] = .ok (.int t)
noncomputable def L3(Γ : Gam) : Prop := ∀(p : Ae)(b : An)(xs : Ab Ae)(l t : Ae), P4 p -> Bb p xs = Aa l -> Ey p l t -> Γ.F 17 [.int p, B5 b xs] = .ok (.tup (ds (fmI p t xs)))
theorem Pw(hr : Hl Γ)(p n : Ae)(hp : P4 p)(z : n%p ≠ 0):∃ t,1 <= t/\t<p/\n*t%p = 1/\Hy.run Γ [.int p,.int n] = .ok (.int t) := by
 have p0 := hp.pos;have ph := hp.hi;have body : ∀ t ∈ D3 p, ∀ ρ, (∃ s, ρ = [si p, si n, s]) -> (decide (n*t%p = 1) = Ac /\ B2 Γ 2 Gx (.int t) ρ = .ret (.int t) Ad) \/ (decide (n*t%p = 1) = Ad /\ ∃ ρ', B2 Γ 2 Gx (.int t) ρ = .next ρ' /\ ∃ s, ρ' = [si p, si n, s]) := by
  rintro t ht ρ ⟨s, rfl⟩;obtain⟨t1, t2⟩ := GA.mp ht;have m : BO n t = Ac := E5 (by omega) (by omega)
  by_cases e : n*t%p = 1
  ·exact .inl ⟨by simp[e], by simp[B2, Gx, hr p (n*t) p0, m, e, Dw]⟩
  ·exact .inr ⟨by simp[e], _, by simp[B2, Gx, hr p (n*t) p0, m, e];rfl, _, rfl⟩
 have run : ∀ o, Ck (B2 Γ 2 Gx) ((D3 p).map D.int) [si p, si n, Af] = o -> Hy.run Γ [.int p, .int n] = (DI Γ (.cons (.rais 2 (.cons (.str (CU "a number with the rest 0 is not turned over")) .nil)) .nil) o).ans Ad := by
  rintro o rfl;simp[Hy, Df.run, BQ, Lo hp]
 rcases K7 (fun ρ => ∃ s, ρ = [si p, si n, s]) (fun t => decide (n*t%p = 1)) (D3 p) body [si p, si n, Af] ⟨_, rfl⟩ with ⟨t, ht, a, b⟩|⟨a, r, b, s, rfl⟩
 ·obtain⟨t1, t2⟩ := GA.mp ht;have a' : n*t%p = 1 := by simpa using a
  exact⟨t, t1, t2, a', by rw[run _ b];rfl⟩
 ·obtain⟨t, t1, t2, e⟩ := GM hp z;have := a t (GA.mpr ⟨t1, t2⟩);simp[e]at this
section
variable{Γ : Gam}{p : Ae}{xs : Ab Ae}{b : An}
theorem Ls(hr : Hl Γ)(ht : Jw Γ)(hp : P4 p)(rs : Ab Ae) :∀(ys :Ab Ae),(∀ y ∈ ys,0 <= y/\y<p)->∀ s3,(Bb p ys = Af->∃ s3',Ck (B2 Γ 3 EQ) (ds ys) [si p,sh (B5 b xs),sh (.lst (ds rs)),s3,Af,Af,Af] = .next [si p,sh (B5 b xs),sh (.lst (ds rs)),s3',Af,Af,Af])/\(∀ l t,Bb p ys = Aa l->Ey p l t->Ck (B2 Γ 3 EQ) (ds ys) [si p,sh (B5 b xs),sh (.lst (ds rs)),s3,Af,Af,Af] = .ret (.tup (ds (rs.map fun r =>t*r%p))) Ad)
 |[], _, s3 => ⟨fun _ => ⟨s3, rfl⟩, (fun l t h => nomatch h)⟩
 |y::ys, hy, s3 => by
  obtain⟨y0, y1⟩ := hy y (Au ..);have ym : y%p = y := Ax y0 y1;have ih := Ls hr ht hp rs ys (fun z hz => hy z (Ar _ hz)) (si y)
  have step : ∀ o, B2 Γ 3 EQ (.int y) [si p, sh (B5 b xs), sh (.lst (ds rs)), s3, Af, Af, Af] = o -> Ck (B2 Γ 3 EQ) (ds (y::ys)) [si p, sh (B5 b xs), sh (.lst (ds rs)), s3, Af, Af, Af] = o.turn (Ck (B2 Γ 3 EQ) (ds ys)) := by
   rintro o rfl;rfl
  unfold Bb;rw[ym];by_cases hz : y = 0
  ·have e : B2 Γ 3 EQ (.int y) [si p, sh (B5 b xs), sh (.lst (ds rs)), s3, Af, Af, Af] = .next [si p, sh (B5 b xs), sh (.lst (ds rs)), si y, Af, Af, Af] := by
    simp[B2, EQ, hz]
   rw[AF hz, step _ e];exact ih
  ·rw[AH hz];refine⟨(fun z => nomatch z), fun l t e it => ?_⟩
   cases e;obtain⟨u, u1, u2, u3, u4⟩ := ht p y hp (by rw[ym];exact hz)
   have : t = u := KO it ⟨u1, u2, u3⟩;subst this;have p0 := hp.pos;have ph := hp.hi;have cp : Bp (cG Γ [si p, sh (B5 b xs), sh (.lst (ds rs)), si y, si t, Af, Af] 6 Kt) (cF Γ [si p, sh (B5 b xs), sh (.lst (ds rs)), si y, si t, Af, Af] 6 IR) (ds rs) = .ok (ds (rs.map fun r => t*r%p)) := by
    refine GD rs fun r _ => ⟨rfl, ?_⟩
    have m : BO t r = Ac := Er (by omega) (by omega)
    simp[cF, IR, m, hr p (t*r) p0]
   have e : B2 Γ 3 EQ (.int y) [si p, sh (B5 b xs), sh (.lst (ds rs)), s3, Af, Af, Af] = .ret (.tup (ds (rs.map fun r => t*r%p))) Ad := by
    simp[B2, EQ, hz, u4, cp, Dw]
   rw[step _ e];rfl
theorem QU(hr : Hl Γ)(ht : Jw Γ)(hp : P4 p){l t : Ae}(e : Bb p xs = Aa l)(it : Ey p l t) : HH.run Γ [.int p, B5 b xs] = .ok (.tup (ds (fmI p t xs))) := by
 have p0 := hp.pos;have cp : Bp (cG Γ [si p, sh (B5 b xs), Af, Af, Af, Af, Af] 5 KB) (cF Γ [si p, sh (B5 b xs), Af, Af, Af, Af, Af] 5 IS) (ds xs) = .ok (ds (xs.map fun x => x%p)) := by
  refine GD xs fun x _ => ⟨rfl, ?_⟩
  simp[cF, IS, hr p x p0]
 have run : ∀ o, Ck (B2 Γ 3 EQ) (ds (xs.map fun x => x%p)) [si p, sh (B5 b xs), sh (.lst (ds (xs.map fun x => x%p))), Af, Af, Af, Af] = o -> HH.run Γ [.int p, B5 b xs] = (DI Γ (.cons (.rais 3 (.cons (.str (CU "all the numbers have the rest 0")) .nil)) .nil) o).ans Ad := by
  rintro o rfl;simp[HH, Df.run, BQ, La, cp]
 have le : Bb p (xs.map fun x => x%p) = Bb p xs := by
  have := G9 (c := 1) hp (by rcases hp with rfl|rfl|rfl|rfl <;> decide) (f := fun x => x%p) (fun x => by rw[Eh, A5 _ (BJ p)]) xs
  rw[this];cases e : Bb p xs with
  |none => rfl
  |some l=>
   obtain⟨_, l0, l1⟩ := Hc p0 e;simp[Ax (Int.le_of_lt l0) l1]
 obtain⟨a, c⟩ := Ls (b := b) (xs := xs) hr ht hp (xs.map fun x => x%p) (xs.map fun x => x%p) (fun y hy => by
  obtain⟨x, _, rfl⟩ := CB.mp hy;exact⟨AY _ (by omega), A2 _ p0⟩) Af
 rw[le]at a c;rw[run _ (c l t e it)];simp[fmI, Oe, NR]
end
noncomputable def Dt(t q : An)(a b c : R3) : D := if t = Ac then .tup [AA q a, AA q b, AA q c] else .lst [AA q a, AA q b, AA q c]
theorem XJ(t q : An)(a b c : R3) : DH (Dt t q a b c) (.int 0) = .ok (AA q a) /\ DH (Dt t q a b c) (.int 1) = .ok (AA q b) /\ DH (Dt t q a b c) (.int 2) = .ok (AA q c) := by cases t <;> exact⟨rfl, rfl, rfl⟩
theorem XA(t q : An)(a b c : R3) : Dd (Dt t q a b c) = .ok [AA q a, AA q b, AA q c] := by cases t <;> rfl
noncomputable def Fa(a b c : R3) : R3 := (a.1, b.1, c.1)
noncomputable def E9(a b c : R3) : R3 := (a.2.1, b.2.1, c.2.1)
noncomputable def E8(a b c : R3) : R3 := (a.2.2, b.2.2, c.2.2)
noncomputable def AO(a x : R3) : Ae := a.1*x.1+a.2.1*x.2.1+a.2.2*x.2.2
noncomputable def IG : E := (.bl Ac)
noncomputable def HA : E := (.call 1 (.cons (.var 0) (.cons (.bin .Add (.bin .Add (.bin .Mult (.idx (.var 3) (.int 0)) (.idx (.var 2) (.int 0))) (.bin .Mult (.idx (.var 3) (.int 1)) (.idx (.var 2) (.int 1)))) (.bin .Mult (.idx (.var 3) (.int 2)) (.idx (.var 2) (.int 2)))) .nil)))
noncomputable def Jb : Df := ⟨4, Ad, (.cons (.ret (.bi .tuple (.cons (.comp HA 3 (.e (.var 1)) IG) .nil))) .nil)⟩
noncomputable def MH(Γ : Gam) : Prop := ∀(p : Ae)(t q q' : An)(a b c x : R3), 0<p -> B3 a -> B3 b -> B3 c -> B3 x -> Γ.F 91 [.int p, Dt t q a b c, AA q' x] = .ok (AA Ac (AO a x%p, AO b x%p, AO c x%p))
theorem Tv(h : Hl Γ)(p : Ae)(t q q' : An)(a b c x : R3)(hp : 0<p)(ha : B3 a)(hb : B3 b)(hc : B3 c)(hx : B3 x) : Jb.run Γ [.int p, Dt t q a b c, AA q' x] = .ok (AA Ac (AO a x%p, AO b x%p, AO c x%p)) := by
 obtain⟨x0, x1, x2⟩ := GK q' x;have k : ∀ {u v}, Bd 300 u -> Bd 300 v -> Fx u v = Ac := fun hu hv => JO hu hv (by decide) (by decide)
 have key : ∀ r : R3, B3 r -> cF Γ [si p, sh (Dt t q a b c), sh (AA q' x), Af] 3 HA (AA q r) = .ok (.int (AO r x%p)) := fun r hr => by
  obtain⟨y0, y1, y2⟩ := GK q r;simp[cF, HA, x0, x1, x2, y0, y1, y2, k hr.1 hx.1, k hr.2.1 hx.2.1, k hr.2.2 hx.2.2, h p _ hp];rfl
 have g : ∀ r, cG Γ [si p, sh (Dt t q a b c), sh (AA q' x), Af] 3 IG r = .ok Ac := fun _ => rfl
 have cp : Bp (cG Γ [si p, sh (Dt t q a b c), sh (AA q' x), Af] 3 IG) (cF Γ [si p, sh (Dt t q a b c), sh (AA q' x), Af] 3 HA) [AA q a, AA q b, AA q c] = .ok [.int (AO a x%p), .int (AO b x%p), .int (AO c x%p)] := by
  simp[Bp, g, key a ha, key b hb, key c hc]
 simp[Jb, Df.run, BQ, XA, cp];rfl
noncomputable def crs(a b : R3) : R3 := (a.2.1*b.2.2-a.2.2*b.2.1, a.2.2*b.1-a.1*b.2.2, a.1*b.2.1-a.2.1*b.1)
theorem L9 : ∀ xs ys : Ab Ae, eqDs (ds xs) (ds ys) = decide (xs = ys)
 |[], [] => rfl
 |[], _::_ => rfl
 |_::_, [] => rfl
 |x::xs, y::ys => by
  show ((x==y)&&eqDs (ds xs) (ds ys)) = _;rw[L9 xs ys, Dh];simp
theorem Uy(a b : R3) : eqD (AA Ac a) (AA Ac b) = decide (a = b) := by
 show eqDs (ds [a.1, a.2.1, a.2.2]) (ds [b.1, b.2.1, b.2.2]) = _;rw[L9, Dh];simp only[N3, and_true, A1];exact⟨fun ⟨h1, h2, h3⟩ => by obtain⟨a1, a2, a3⟩ := a;obtain⟨b1, b2, b3⟩ := b;simp at h1 h2 h3;rw[h1, h2, h3], fun h => by rw[h];exact⟨rfl, rfl, rfl⟩⟩
noncomputable def Tl(Γ : Gam) : Prop := ∀ a b : R3, B3 a -> B3 b -> a ≠ b -> Γ.F 23 [AA Ac a, AA Ac b] = .ok (AA Ac (crs a b))
noncomputable def IQ : Df := ⟨1, Ad, (.cons (.ret (.tup (.cons (.call 23 (.cons (.idx (.var 0) (.int 1)) (.cons (.idx (.var 0) (.int 2)) .nil))) (.cons (.call 23 (.cons (.idx (.var 0) (.int 2)) (.cons (.idx (.var 0) (.int 0)) .nil))) (.cons (.call 23 (.cons (.idx (.var 0) (.int 0)) (.cons (.idx (.var 0) (.int 1)) .nil))) .nil))))) .nil)⟩
noncomputable def L4(Γ : Gam) : Prop := ∀ a b c : R3, B3 a -> B3 b -> B3 c -> a ≠ b -> b ≠ c -> c ≠ a -> Γ.F 98 [Dt Ac Ac a b c] = .ok (Dt Ac Ac (crs b c) (crs c a) (crs a b))
theorem QW(h : Tl Γ)(a b c : R3)(ha : B3 a)(hb : B3 b)(hc : B3 c)(n1 : a ≠ b)(n2 : b ≠ c)(n3 : c ≠ a) : IQ.run Γ [Dt Ac Ac a b c] = .ok (Dt Ac Ac (crs b c) (crs c a) (crs a b)) := by
 obtain⟨r0, r1, r2⟩ := XJ Ac Ac a b c;simp[IQ, Df.run, BQ, r0, r1, r2, h b c hb hc n2, h c a hc ha n3, h a b ha hb n1];rfl
noncomputable def bk0(a b c : R3) : R3 := Fa (crs b c) (crs c a) (crs a b)
noncomputable def bk1(a b c : R3) : R3 := E9 (crs b c) (crs c a) (crs a b)
noncomputable def bk2(a b c : R3) : R3 := E8 (crs b c) (crs c a) (crs a b)
theorem Il(hp : P4 p)(h0 : 0 <= x)(h1 : x<p) : Bd 10 x := by
 unfold Bd;have := hp.hi;omega
theorem Bd.mono(h : Bd m x)(hm : m <= n) : Bd n x := Av h (DT (by decide) hm)
noncomputable def Bn(n : Ag)(a : R3) : Prop := Bd n a.1 /\ Bd n a.2.1 /\ Bd n a.2.2
theorem Bn.b3(h : Bn n a)(hn : n <= 300) : B3 a := ⟨h.1.mono hn, h.2.1.mono hn, h.2.2.mono hn⟩
theorem Iq(hp : P4 p)(h : In3 p a) : Bn 10 a := ⟨Il hp h.1.1 h.1.2, Il hp h.2.1.1 h.2.1.2, Il hp h.2.2.1 h.2.2.2⟩
theorem JV{a b : R3}(ha : Bn n a)(hb : Bn n b) : Bn (n+n+1) (crs a b):=
 ⟨(ha.2.1.mul hb.2.2).sub (ha.2.2.mul hb.2.1), (ha.2.2.mul hb.1).sub (ha.1.mul hb.2.2), (ha.1.mul hb.2.1).sub (ha.2.1.mul hb.1)⟩
noncomputable def Bf(k : Ae)(a : R3) : R3 := (k*a.1, k*a.2.1, k*a.2.2)
noncomputable def fk0(p : Ae)(a b c d : R3) : Ae := AN d b c%p
noncomputable def fs0(p : Ae)(a b c d : R3) : R3 := Bf (fk0 p a b c d) a
noncomputable def CgR(p : Ae)(x y : R3) : Prop := Cg p x.1 y.1 /\ Cg p x.2.1 y.2.1 /\ Cg p x.2.2 y.2.2
section
variable{p : Ae}{a b c a' b' c' x y z x' : R3}{k l m k' : Ae}
theorem CgR.rfl : CgR p a a := ⟨Cg.rfl, Cg.rfl, Cg.rfl⟩
theorem CgR.of(h : a = b) : CgR p a b := by rw[h];exact CgR.rfl
theorem CgR.trans(h : CgR p a b)(g : CgR p b c) : CgR p a c := ⟨h.1.trans g.1, h.2.1.trans g.2.1, h.2.2.trans g.2.2⟩
theorem CgR.symm(h : CgR p a b) : CgR p b a := ⟨h.1.symm, h.2.1.symm, h.2.2.symm⟩
theorem CgR.sc(hk : Cg p k k')(h : CgR p a b) : CgR p (Bf k a) (Bf k' b) := ⟨hk.mul h.1, hk.mul h.2.1, hk.mul h.2.2⟩
theorem Sn(ha : CgR p a a')(hb : CgR p b b')(hc : CgR p c c') : Cg p (AN a b c) (AN a' b' c') := by
 unfold AN det;exact ET ha.1 ha.2.1 ha.2.2 hb.1 hb.2.1 hb.2.2 hc.1 hc.2.1 hc.2.2
theorem ES(ha : CgR p a a')(hb : CgR p b b') : Cg p (AO a b) (AO a' b') := ((ha.1.mul hb.1).add (ha.2.1.mul hb.2.1)).add (ha.2.2.mul hb.2.2)
theorem UF(ha : CgR p a a')(hb : CgR p b b')(hc : CgR p c c') : CgR p (Fa a b c) (Fa a' b' c') /\ CgR p (E9 a b c) (E9 a' b' c') /\ CgR p (E8 a b c) (E8 a' b' c') := ⟨⟨ha.1, hb.1, hc.1⟩, ⟨ha.2.1, hb.2.1, hc.2.1⟩, ⟨ha.2.2, hb.2.2, hc.2.2⟩⟩
theorem UE(ha : CgR p a a')(hb : CgR p b b') : CgR p (crs a b) (crs a' b'):=
 ⟨(ha.2.1.mul hb.2.2).sub (ha.2.2.mul hb.2.1), (ha.2.2.mul hb.1).sub (ha.1.mul hb.2.2), (ha.1.mul hb.2.1).sub (ha.2.1.mul hb.1)⟩
theorem Io(p t : Ae)(a : R3) : CgR p (fmR p t a) (Bf t a) := by
 have key : ∀ x : Ae, Cg p (t*(x%p)%p) (t*x) := fun x => (Cg.md _root_.rfl).trans (Cg.rfl.mul (Cg.md _root_.rfl))
 exact⟨key _, key _, key _⟩
noncomputable def rm(a x y z : R3) : R3 := (AO (Fa x y z) a, AO (E9 x y z) a, AO (E8 x y z) a)
noncomputable def ap(a b c x : R3) : R3 := (AO a x, AO b x, AO c x)
theorem UB(k l m : Ae)(x y z : R3) : AN (Bf k x) (Bf l y) (Bf m z) = k*l*m*AN x y z := by
 unfold AN det Bf;grind
theorem JR(k l : Ae)(x : R3) : Bf k (Bf l x) = Bf (k*l) x := by
 unfold Bf;simp only[Em]
theorem W3(a b c x : R3)(k : Ae) : ap a b c (Bf k x) = Bf k (ap a b c x) := by
 unfold ap Bf AO;refine Cp ?_ (Cp ?_ ?_) <;> (simp only;grind)
end
theorem Ju(a b : R3) : AO a b = AO b a := by unfold AO;grind
theorem WY{y:Ae}(h : Cg p x y)(hy : y%p ≠ 0) : x%p ≠ 0 := fun z => hy ((show x%p = y%p from h).symm.trans z)
theorem nz3{y z:Ae}(hp : P4 p)(hx : x%p ≠ 0)(hy : y%p ≠ 0)(hz : z%p ≠ 0) : x*y*z%p ≠ 0 := Eu hp (Eu hp hx hy) hz
section
variable{p : Ae}{a b c f0 f1 f2 f3 g0 g1 g2 g3 : R3}{d0 d1 d2 d3 : Ae}
end
noncomputable def G7 : Ss := (.cons (.asg 2 Ad (.bin .FloorDiv (.var 2) (.int 999983))) .nil)
noncomputable def G5 : Df := ⟨4, Ad, (.cons (.asg 2 Ad (.int 0)) (.cons (.ife (.cmp .Gt (.bi .len (.cons (.var 0) .nil)) (.int 0)) (.cons (.asg 2 Ad (.idx (.var 0) (.bin .Mod (.var 1) (.bi .len (.cons (.var 0) .nil))))) .nil) .nil) (.cons (.ife (.cmp .Eq (.bin .Mod (.bi .len (.cons (.var 0) .nil)) (.int 2)) (.int 0)) (.cons (.fors 3 (.rng (.bi .min (.cons (.int 60) (.cons (.bin .FloorDiv (.var 1) (.bi .max (.cons (.int 1) (.cons (.bi .len (.cons (.var 0) .nil)) .nil)))) .nil)))) G7) (.cons (.ret (.bin .Mod (.var 2) (.int 999983))) .nil)) .nil) (.cons (.ret (.bin .Mod (.bin .Mult (.bin .Mod (.bin .Mult (.bin .Add (.bin .Add (.bin .Mod (.var 2) (.int 1000003)) (.bin .Mult (.int 7919) (.var 1))) (.int 11)) (.int 48271)) (.int 1000033)) (.int 69621)) (.int 999983))) .nil))))⟩
noncomputable def Hm(Γ : Gam)(ns : Ab Ae) : Prop := ∀ k : Ae, 0 <= k -> ∃ m, 0 <= m /\ Γ.F 100 [scr ns, .int k] = .ok (.int m)
section
variable{Γ : Gam}{ns : Ab Ae}
theorem QJ(k x : Ae)(n : Ag) : ∃ y s3, Ck (B2 Γ 3 G7) (CY 0 n) [sh (scr ns), si k, si x, Af] = .next [sh (scr ns), si k, si y, s3] := by
 obtain⟨ρ', e, y, s3, rfl⟩ := Jt (body := B2 Γ 3 G7) (fun ρ => ∃ y s3, ρ = [sh (scr ns), si k, si y, s3]) (CY 0 n) [sh (scr ns), si k, si x, Af] ⟨x, Af, rfl⟩ (by
  rintro z hz ρ ⟨y, s3, rfl⟩;obtain⟨j, _, rfl⟩ := Lv hz;exact⟨[sh (scr ns), si k, si (y / 999983), si (0+(j : Ae))], by simp[B2, G7], _, _, rfl⟩)
 exact⟨y, s3, e⟩
theorem Tz(Γ : Gam)(ns : Ab Ae)(hl : ns.length <= 63)(k : Ae)(k0 : 0 <= k) : ∃ m, 0 <= m /\ G5.run Γ [scr ns, .int k] = .ok (.int m) := by
 have m1 : BO 7919 k = Ac := Er (by decide) (by decide)
 have m2 : ∀ x, BO x 48271 = Ac := fun x => E5 (by decide) (by decide)
 have m3 : ∀ x, BO x 69621 = Ac := fun x => E5 (by decide) (by decide)
 generalize hn : (ns.length : Ae) = n;have n0 : 0 <= n := by omega
 have n1 : n <= 63 := by omega
 have len : biD .len [scr ns] = .ok (.int n) := by rw[<-hn];show R.ok (D.int ((ns.map D.int).length : Ag)) = _;rw[B6]
 have fin : ∀ x hi : Ae, 0 <= hi -> hi <= 60 -> ∃ y s3, Kg Γ 3 G7 [sh (scr ns), si k, si x, Af] (Cy 0 hi) = .next [sh (scr ns), si k, si y, s3] := fun x hi h0 h1 => by
  rw[Jf h0 (by omega)]
  exact QJ (Γ := Γ) (ns := ns) k x hi.toNat
 have mx : 0<(if 1<n then n else 1) /\ (if 1<n then n else 1)<1073741824 := by split <;> omega
 generalize hM : (if 1<n then n else 1) = M at mx
 have hi : ∀ q : Ae, 0 <= q -> 0 <= (if q<60 then q else 60) /\ (if q<60 then q else 60) <= 60 := fun q h => by split <;> omega
 have q0 : 0 <= k / M := NT k0 (by omega)
 obtain⟨u1, u2⟩ := hi _ q0;by_cases hp : 0<n
 ·have r0 : 0 <= k%n := AY _ (by omega)
  have r1 : k%n<ns.length := by rw[hn];exact A2 _ hp
  have g := Sa r0 r1;generalize ns.getD (k%n).toNat 0 = x at g;by_cases h2 : n%2 = 0
  ·obtain⟨y, s3, e⟩ := fin x _ u1 u2;refine⟨y%999983, AY _ (by decide), ?_⟩
   have gx : DH (scr ns) (.int (k%n)) = .ok (.int x) := g;simp[G5, Df.run, BQ, len, hp, gx, h2, hM, mx.1, mx.2, e]
  ·refine⟨((x%1000003+7919*k+11)*48271%1000033)*69621%999983, AY _ (by decide), ?_⟩
   have gx : DH (scr ns) (.int (k%n)) = .ok (.int x) := g;simp[G5, Df.run, BQ, len, hp, gx, h2, m1, m2, m3]
 ·have z : n = 0 := by omega
  subst z;obtain⟨y, s3, e⟩ := fin 0 _ u1 u2;refine⟨y%999983, AY _ (by decide), ?_⟩
  have hM' : M = 1 := by rw[<-hM];rfl
  subst hM';simp at e;simp[G5, Df.run, BQ, len, e]
end
noncomputable def HB : Df := ⟨1, Ad, (.cons (.ret (.idx (.lst (.cons (.int 3) (.cons (.int 5) (.cons (.int 7) (.cons (.int 11) .nil))))) (.bin .Mod (.call 100 (.cons (.var 0) (.cons (.int 0) .nil))) (.int 4)))) .nil)⟩
theorem Qz(h : Hm Γ ns) : ∃ p, P4 p /\ HB.run Γ [scr ns] = .ok (.int p) := by
 obtain⟨m, m0, e⟩ := h 0 (by decide)
 exact⟨pr4 m, TL m, by simp[HB, Df.run, BQ, e, QO]⟩
noncomputable def O5 : E := (.bl Ac)
noncomputable def O7 : E := (.bin .Mod (.bin .Mult (.var 13) (.var 9)) (.var 1))
noncomputable def Pb : E := (.bl Ac)
noncomputable def O6 : E := (.bin .Mod (.bin .Add (.idx (.var 11) (.var 14)) (.bin .Mult (.var 9) (.idx (.var 12) (.var 14)))) (.var 1))
noncomputable def FU : Ss := (.cons (.asg 6 Ad (.call 100 (.cons (.var 0) (.cons (.bin .Add (.var 2) (.var 5)) .nil)))) (.cons (.asg 7 Ad (.bin .Mod (.var 6) (.int 3))) (.cons (.asg 8 Ad (.bin .Mod (.bin .Add (.bin .Add (.var 7) (.int 1)) (.bin .Mod (.bin .FloorDiv (.var 6) (.int 3)) (.int 2))) (.int 3))) (.cons (.asg 9 Ad (.bin .Add (.int 1) (.bin .Mod (.bin .FloorDiv (.var 6) (.int 6)) (.bin .Sub (.var 1) (.int 1))))) (.cons (.ife (.cmp .Eq (.bin .Mod (.bin .FloorDiv (.var 6) (.int 66)) (.int 3)) (.int 0)) (.cons (.asg 10 Ad (.idx (.var 4) (.var 7))) (.cons (.put 4 (.var 7) (.idx (.var 4) (.var 8))) (.cons (.put 4 (.var 8) (.var 10)) .nil))) (.cons (.ife (.cmp .Eq (.bin .Mod (.bin .FloorDiv (.var 6) (.int 66)) (.int 9)) (.int 1)) (.cons (.put 4 (.var 7) (.comp O7 13 (.e (.idx (.var 4) (.var 7))) O5)) .nil) (.cons (.asg 11 Ad (.idx (.var 4) (.var 7))) (.cons (.asg 12 Ad (.idx (.var 4) (.var 8))) (.cons (.put 4 (.var 7) (.comp O6 14 (.rng (.int 3)) Pb)) .nil)))) .nil)) .nil)))))
noncomputable def IT : Df := ⟨15, Ad, (.cons (.asg 4 Ac (.lst (.cons (.lst (.cons (.int 1) (.cons (.int 0) (.cons (.int 0) .nil)))) (.cons (.lst (.cons (.int 0) (.cons (.int 1) (.cons (.int 0) .nil)))) (.cons (.lst (.cons (.int 0) (.cons (.int 0) (.cons (.int 1) .nil)))) .nil))))) (.cons (.fors 5 (.rng (.var 3)) FU) (.cons (.ret (.var 4)) .nil)))⟩
section
variable{Γ : Gam}{ns : Ab Ae}{many s5 s6 s7 s8 s9 s0 s1 s2 : Sl}{p : Ae}{a b c : R3}
theorem PF(hm : Hm Γ ns)(h : GoodR p a b c){at_:Ae}(ha : 0 <= at_)(hk : 0 <= k) : ∃ a' b' c' v6 v7 v8 v9 v0 v1 v2, GoodR p a' b' c' /\ B2 Γ 5 FU (.int k) [sh (scr ns), si p, si at_, many, ownR a b c, s5, s6, s7, s8, s9, s0, s1, s2, Af, Af] = .next [sh (scr ns), si p, si at_, many, ownR a' b' c', si k, v6, v7, v8, v9, v0, v1, v2, Af, Af] := by
 have p0 := h.p4.pos;have pl := h.p4.lo;obtain⟨m, m0, e0⟩ := hm (at_+k) (by omega)
 have q1 : 0<p-1 := by omega
 have q2 : 1<p := by omega
 have t0 : 0<1+m / 6%(p-1) := by have := AY (m / 6) (b := p-1) (by omega);omega
 have t1 : 1+m / 6%(p-1)<p := by have := A2 (m / 6) q1;omega
 generalize ht : 1+m / 6%(p-1) = t at t0 t1;generalize hi : m%3 = i;generalize hj : (i+1+m / 3%2)%3 = j;have hd : evSs Γ [sh (scr ns), si p, si at_, many, ownR a b c, si k, s6, s7, s8, s9, s0, s1, s2, Af, Af] (FU.take 4) = .next [sh (scr ns), si p, si at_, many, ownR a b c, si k, si m, si i, si j, si t, s0, s1, s2, Af, Af] := by
  simp[FU, Ss.take, e0, hi, hj, q1, q2, ht]
 have ij : (i = 0 /\ j = 1) \/ (i = 0 /\ j = 2) \/ (i = 1 /\ j = 0) \/ (i = 1 /\ j = 2) \/ (i = 2 /\ j = 0) \/ (i = 2 /\ j = 1) := by
  have i3 : i = 0 \/ i = 1 \/ i = 2 := by omega
  have e2 : m / 3%2 = 0 \/ m / 3%2 = 1 := by omega
  rcases i3 with z|z|z <;> rcases e2 with e|e <;> rw[z, e]at hj
  ·exact .inl ⟨z, hj.symm⟩
  ·exact .inr (.inl ⟨z, hj.symm⟩)
  ·exact .inr (.inr (.inr (.inl ⟨z, hj.symm⟩)))
  ·exact .inr (.inr (.inl ⟨z, hj.symm⟩))
  ·exact .inr (.inr (.inr (.inr (.inl ⟨z, hj.symm⟩))))
  ·exact .inr (.inr (.inr (.inr (.inr ⟨z, hj.symm⟩))))
 have tl : ∃ a' b' c' u0 u1 u2, GoodR p a' b' c' /\ evSs Γ [sh (scr ns), si p, si at_, many, ownR a b c, si k, si m, si i, si j, si t, s0, s1, s2, Af, Af] (FU.drop 4) = .next [sh (scr ns), si p, si at_, many, ownR a' b' c', si k, si m, si i, si j, si t, u0, u1, u2, Af, Af] := by
  rcases ij with ⟨rfl, rfl⟩|⟨rfl, rfl⟩|⟨rfl, rfl⟩|⟨rfl, rfl⟩|⟨rfl, rfl⟩|⟨rfl, rfl⟩
  ·exact Vx h ⟨t0, t1⟩
  ·exact Vw h ⟨t0, t1⟩
  ·exact Vv h ⟨t0, t1⟩
  ·exact Vu h ⟨t0, t1⟩
  ·exact Vt h ⟨t0, t1⟩
  ·exact Vs h ⟨t0, t1⟩
 obtain⟨a', b', c', u0, u1, u2, g, e⟩ := tl;refine⟨a', b', c', si m, si i, si j, si t, u0, u1, u2, g, ?_⟩;unfold B2;rw[Le Γ 4];have hd' : evSs Γ (List.set [sh (scr ns), si p, si at_, many, ownR a b c, s5, s6, s7, s8, s9, s0, s1, s2, Af, Af] 5 (Aa (.int k, Ad))) (FU.take 4) = .next [sh (scr ns), si p, si at_, many, ownR a b c, si k, si m, si i, si j, si t, s0, s1, s2, Af, Af] := hd;rw[hd'];exact e
end
theorem QT(hm : Hm Γ ns)(p at_ n : Ae)(hp : P4 p)(ha : 0 <= at_)(n0 : 0 <= n)(n1 : n <= 24) : ∃ a b c, GoodR p a b c /\ IT.run Γ [scr ns, .int p, .int at_, .int n] = .ok (Ig a b c) := by
 have p1 := hp.lo;have g0 : GoodR p (1, 0, 0) (0, 1, 0) (0, 0, 1) := by
  refine⟨hp, ⟨⟨by decide, by show (1 : Ae)<p;omega⟩, ⟨by decide, by show (0 : Ae)<p;omega⟩, ⟨by decide, by show (0 : Ae)<p;omega⟩⟩, ⟨⟨by decide, by show (0 : Ae)<p;omega⟩, ⟨by decide, by show (1 : Ae)<p;omega⟩, ⟨by decide, by show (0 : Ae)<p;omega⟩⟩, ⟨⟨by decide, by show (0 : Ae)<p;omega⟩, ⟨by decide, by show (0 : Ae)<p;omega⟩, ⟨by decide, by show (1 : Ae)<p;omega⟩⟩, ?_⟩
  show (1 : Ae)%p ≠ 0;exact hp.o1
 obtain⟨ρ', e, a, b, c, s5, s6, s7, s8, s9, s0, s1, s2, g, rfl⟩ := Jt (body := B2 Γ 5 FU) (fun ρ => ∃ a b c s5 s6 s7 s8 s9 s0 s1 s2, GoodR p a b c /\ ρ = [sh (scr ns), si p, si at_, si n, ownR a b c, s5, s6, s7, s8, s9, s0, s1, s2, Af, Af]) (CY 0 n.toNat)
  [sh (scr ns), si p, si at_, si n, ownR (1, 0, 0) (0, 1, 0) (0, 0, 1), Af, Af, Af, Af, Af, Af, Af, Af, Af, Af] ⟨_, _, _, _, _, _, _, _, _, _, _, g0, rfl⟩ (by
   rintro x hx ρ ⟨a, b, c, s5, s6, s7, s8, s9, s0, s1, s2, g, rfl⟩;obtain⟨k, _, rfl⟩ := Lv hx;obtain⟨a', b', c', v6, v7, v8, v9, v0, v1, v2, g', q⟩ := PF (Γ := Γ) (ns := ns) (many := si n) (s5 := s5) (s6 := s6) (s7 := s7) (s8 := s8) (s9 := s9) (s0 := s0) (s1 := s1) (s2 := s2) hm g (k := 0+(k : Ae)) ha (by omega)
   exact⟨_, q, a', b', c', _, _, _, _, _, _, _, _, g', rfl⟩)
 refine⟨a, b, c, g, ?_⟩;have e' : Ck (B2 Γ 5 FU) (CY 0 n.toNat) [sh (scr ns), si p, si at_, si n, Aa (.lst [.lst [.int 1, .int 0, .int 0], .lst [.int 0, .int 1, .int 0], .lst [.int 0, .int 0, .int 1]], Ac), Af, Af, Af, Af, Af, Af, Af, Af, Af, Af] = _ := e;simp[IT, Df.run, BQ, Jf n0 (by omega), Dw, e', isL]
 rfl
noncomputable def Jd : Df := ⟨2, Ad, (.cons (.ret (.bin .Add (.bin .Add (.bin .Mult (.idx (.var 0) (.int 0)) (.idx (.var 1) (.int 0))) (.bin .Mult (.idx (.var 0) (.int 1)) (.idx (.var 1) (.int 1)))) (.bin .Mult (.idx (.var 0) (.int 2)) (.idx (.var 1) (.int 2))))) .nil)⟩
noncomputable def Ij(Γ : Gam) : Prop := ∀(q q' : An)(a x : R3), B3 a -> B3 x -> Γ.F 95 [AA q a, AA q' x] = .ok (.int (AO a x))
theorem WE(Γ : Gam)(q q' : An)(a x : R3)(ha : B3 a)(hx : B3 x) : Jd.run Γ [AA q a, AA q' x] = .ok (.int (AO a x)) := by
 obtain⟨x0, x1, x2⟩ := GK q a;obtain⟨y0, y1, y2⟩ := GK q' x;have k : ∀ {u v}, Bd 300 u -> Bd 300 v -> Fx u v = Ac := fun hu hv => JO hu hv (by decide) (by decide)
 simp[Jd, Df.run, BQ, x0, x1, x2, y0, y1, y2, k ha.1 hx.1, k ha.2.1 hx.2.1, k ha.2.2 hx.2.2];rfl
noncomputable def KG : E := (.bl Ac)
noncomputable def IH : E := (.call 95 (.cons (.var 3) (.cons (.var 2) .nil)))
noncomputable def HN : Df := ⟨4, Ad, (.cons (.ret (.call 82 (.cons (.var 0) (.cons (.comp IH 3 (.e (.var 1)) KG) .nil)))) .nil)⟩
noncomputable def InL(p : Ae)(xs : Ab Ae) : Prop := ∀ x ∈ xs, 0 <= x /\ x<p
theorem InL.set(h : InL p xs)(k : Ag){v:Ae}(h0 : 0 <= v)(h1 : v<p) : InL p (xs.set k v) := fun x hx => by
 rcases List.mem_or_eq_of_mem_set hx with z|rfl
 ·exact h x z
 ·exact⟨h0, h1⟩
section
variable{Γ : Gam}{ns : Ab Ae}{p at_ : Ae}
end
section
variable{Γ : Gam}{ns : Ab Ae}{p t : Ae}
end
structure C6 where
 c0 : Ae
 c1 : Ae
 c2 : Ae
 c3 : Ae
 c4 : Ae
 c5 : Ae
noncomputable def C6.l(C : C6) : Ab Ae := [C.c0, C.c1, C.c2, C.c3, C.c4, C.c5]
noncomputable def vI(C : C6)(x : R3) : Ae := C.c0*x.1*x.1+C.c1*x.2.1*x.2.1+C.c2*x.2.2*x.2.2+(C.c3*x.1*x.2.1+C.c4*x.1*x.2.2+C.c5*x.2.1*x.2.2)
noncomputable def tw0(C : C6) : R3 := (2*C.c0, C.c3, C.c4)
noncomputable def tw1(C : C6) : R3 := (C.c3, 2*C.c1, C.c5)
noncomputable def tw2(C : C6) : R3 := (C.c4, C.c5, 2*C.c2)
noncomputable def bI(C : C6)(x y : R3) : Ae := AO (ap (tw0 C) (tw1 C) (tw2 C) x) y
noncomputable def scC(k : Ae)(C : C6) : C6 := ⟨k*C.c0, k*C.c1, k*C.c2, k*C.c3, k*C.c4, k*C.c5⟩
noncomputable def CgC(p : Ae)(C D : C6) : Prop := Cg p C.c0 D.c0 /\ Cg p C.c1 D.c1 /\ Cg p C.c2 D.c2 /\ Cg p C.c3 D.c3 /\ Cg p C.c4 D.c4 /\ Cg p C.c5 D.c5
noncomputable def pb(C : C6)(a b c : R3) : C6 := ⟨vI C (Fa a b c), vI C (E9 a b c), vI C (E8 a b c), bI C (Fa a b c) (E9 a b c), bI C (Fa a b c) (E8 a b c), bI C (E9 a b c) (E8 a b c)⟩
section
variable{p : Ae}{C D E : C6}{a b c a' b' c' x y x' y' : R3}{k k' : Ae}
theorem C6.ext'(h0 : C.c0 = D.c0)(h1 : C.c1 = D.c1)(h2 : C.c2 = D.c2)(h3 : C.c3 = D.c3)(h4 : C.c4 = D.c4)(h5 : C.c5 = D.c5) : C = D := by
 cases C;cases D;simp_all
theorem CgC.rfl : CgC p C C := ⟨Cg.rfl, Cg.rfl, Cg.rfl, Cg.rfl, Cg.rfl, Cg.rfl⟩
theorem CgC.of(h : C = D) : CgC p C D := by rw[h];exact CgC.rfl
theorem CgC.symm(h : CgC p C D) : CgC p D C := ⟨h.1.symm, h.2.1.symm, h.2.2.1.symm, h.2.2.2.1.symm, h.2.2.2.2.1.symm, h.2.2.2.2.2.symm⟩
theorem CgC.trans(h : CgC p C D)(g : CgC p D E) : CgC p C E := ⟨h.1.trans g.1, h.2.1.trans g.2.1, h.2.2.1.trans g.2.2.1, h.2.2.2.1.trans g.2.2.2.1, h.2.2.2.2.1.trans g.2.2.2.2.1, h.2.2.2.2.2.trans g.2.2.2.2.2⟩
theorem CgC.sc(hk : Cg p k k')(h : CgC p C D) : CgC p (scC k C) (scC k' D) := ⟨hk.mul h.1, hk.mul h.2.1, hk.mul h.2.2.1, hk.mul h.2.2.2.1, hk.mul h.2.2.2.2.1, hk.mul h.2.2.2.2.2⟩
theorem JU(h : CgC p C D)(hx : CgR p x x') : Cg p (vI C x) (vI D x'):=
 (((((h.1.mul hx.1).mul hx.1).add ((h.2.1.mul hx.2.1).mul hx.2.1)).add ((h.2.2.1.mul hx.2.2).mul hx.2.2))).add ((((h.2.2.2.1.mul hx.1).mul hx.2.1).add ((h.2.2.2.2.1.mul hx.1).mul hx.2.2)).add ((h.2.2.2.2.2.mul hx.2.1).mul hx.2.2))
theorem Vf(h : CgC p C D) : CgR p (tw0 C) (tw0 D) /\ CgR p (tw1 C) (tw1 D) /\ CgR p (tw2 C) (tw2 D):=
 ⟨⟨Cg.rfl.mul h.1, h.2.2.2.1, h.2.2.2.2.1⟩, ⟨h.2.2.2.1, Cg.rfl.mul h.2.1, h.2.2.2.2.2⟩, ⟨h.2.2.2.2.1, h.2.2.2.2.2, Cg.rfl.mul h.2.2.1⟩⟩
theorem U9(ha : CgR p a a')(hb : CgR p b b')(hc : CgR p c c')(hx : CgR p x x') : CgR p (ap a b c x) (ap a' b' c' x') := ⟨ES ha hx, ES hb hx, ES hc hx⟩
theorem JZ(h : CgC p C D)(hx : CgR p x x')(hy : CgR p y y') : Cg p (bI C x y) (bI D x' y'):=
 let ⟨t0, t1, t2⟩ := Vf h
 ES (U9 t0 t1 t2 hx) hy
theorem MO(h : CgC p C D)(ha : CgR p a a')(hb : CgR p b b')(hc : CgR p c c') : CgC p (pb C a b c) (pb D a' b' c'):=
 let ⟨s0, s1, s2⟩ := UF ha hb hc
 ⟨JU h s0, JU h s1, JU h s2, JZ h s0 s1, JZ h s0 s2, JZ h s1 s2⟩
theorem Mx(k l : Ae)(C : C6) : scC k (scC l C) = scC (k*l) C := by
 unfold scC;simp only[Em]
theorem LR(C : C6) : scC 1 C = C := by unfold scC;simp only[Eh]
theorem V4(k : Ae)(C : C6)(a b c : R3) : pb (scC k C) a b c = scC k (pb C a b c) := by
 unfold pb scC vI bI ap tw0 tw1 tw2 AO;refine C6.ext' ?_ ?_ ?_ ?_ ?_ ?_ <;> (simp only;grind)
theorem To(k : Ae)(C : C6)(a b c : R3) : pb C (Bf k a) (Bf k b) (Bf k c) = scC (k*k) (pb C a b c) := by
 unfold pb scC vI bI ap tw0 tw1 tw2 AO Fa E9 E8 Bf;refine C6.ext' ?_ ?_ ?_ ?_ ?_ ?_ <;> (simp only;grind)
noncomputable def PrC(p : Ae)(C D : C6) : Prop := ∃ d, d%p ≠ 0 /\ CgC p C (scC d D)
theorem PrC.rfl(hp : P4 p) : PrC p C C := ⟨1, hp.o1, CgC.of (LR C).symm⟩
theorem PrC.trans(hp : P4 p)(i : PrC p C D)(j : PrC p D E) : PrC p C E := by
 obtain⟨d, dz, e⟩ := i;obtain⟨d', dz', e'⟩ := j;exact⟨d*d', Eu hp dz dz', e.trans ((CgC.sc Cg.rfl e').trans (CgC.of (Mx _ _ _)))⟩
theorem Mh(hp : P4 p)(dz : k%p ≠ 0) : ∃ u, u%p ≠ 0 /\ Cg p (u*k) 1 := by
 obtain⟨u, u1, u2, u3⟩ := GM hp dz;refine⟨u, by rw[Ax (by omega) u2];omega, ?_⟩
 show u*k%p = 1%p;rw[Ch, u3, Ax (by decide) (by have := hp.lo;omega)]
theorem PrC.symm(hp : P4 p)(i : PrC p C D) : PrC p D C := by
 obtain⟨d, dz, e⟩ := i;obtain⟨u, uz, o⟩ := Mh hp dz;refine⟨u, uz, ?_⟩;have q := CgC.sc (k := u) (k' := u) Cg.rfl e;rw[Mx]at q;exact(q.trans ((CgC.sc o CgC.rfl).trans (CgC.of (LR D)))).symm
theorem PrC.pb(i : PrC p C D) : PrC p (OvC.pb C a b c) (OvC.pb D a b c) := by
 obtain⟨d, dz, e⟩ := i;exact⟨d, dz, (MO e CgR.rfl CgR.rfl CgR.rfl).trans (CgC.of (V4 d D a b c))⟩
theorem PrC.tab(hp : P4 p)(kz : k%p ≠ 0)(ha : CgR p a (Bf k a'))(hb : CgR p b (Bf k b'))(hc : CgR p c (Bf k c')) : PrC p (OvC.pb C a b c) (OvC.pb C a' b' c'):=
 ⟨k*k, Eu hp kz kz, (MO CgC.rfl ha hb hc).trans (CgC.of (To k C a' b' c'))⟩
noncomputable def InC(p : Ae)(C : C6) : Prop := ∀ x ∈ C.l, 0 <= x /\ x<p
end
structure BC (C : C6) : Prop where
 b0 : Bd 10 C.c0
 b1 : Bd 10 C.c1
 b2 : Bd 10 C.c2
 b3 : Bd 10 C.c3
 b4 : Bd 10 C.c4
 b5 : Bd 10 C.c5
theorem InC.b{C:C6}(hp : P4 p)(h : InC p C) : BC C := by
 have k : ∀ x ∈ C.l, Bd 10 x := fun x hx => Il hp (h x hx).1 (h x hx).2
 exact⟨k _ (by simp[C6.l]), k _ (by simp[C6.l]), k _ (by simp[C6.l]), k _ (by simp[C6.l]), k _ (by simp[C6.l]), k _ (by simp[C6.l])⟩
noncomputable def t0(p : Ae)(C : C6) : R3 := (2*C.c0%p, C.c3, C.c4)
noncomputable def t1(p : Ae)(C : C6) : R3 := (C.c3, 2*C.c1%p, C.c5)
noncomputable def t2(p : Ae)(C : C6) : R3 := (C.c4, C.c5, 2*C.c2%p)
section
variable{Γ : Gam}{ns : Ab Ae}{p at_ : Ae}{φ : Ae -> Ae}
end
noncomputable def Pr(p : Ae)(x y : R3) : Prop := ∃ d, d%p ≠ 0 /\ CgR p x (Bf d y)
section
variable{p : Ae}{a b c x y z f g h : R3}{k : Ae}
theorem H9(x : R3) : Bf 1 x = x := by unfold Bf;simp only[Eh]
theorem Pr.rfl(hp : P4 p) : Pr p x x := ⟨1, hp.o1, CgR.of (H9 x).symm⟩
theorem Pr.trans(hp : P4 p)(i : Pr p x y)(j : Pr p y z) : Pr p x z := by
 obtain⟨d, dz, e⟩ := i;obtain⟨d', dz', e'⟩ := j;exact⟨d*d', Eu hp dz dz', e.trans ((CgR.sc Cg.rfl e').trans (CgR.of (JR _ _ _)))⟩
theorem Pr.symm(hp : P4 p)(i : Pr p x y) : Pr p y x := by
 obtain⟨d, dz, e⟩ := i;obtain⟨u, u1, u2, u3⟩ := GM hp dz;have uz : u%p ≠ 0 := by rw[Ax (by omega) u2];omega
 have o : Cg p (u*d) 1 := by
  show u*d%p = 1%p;rw[Ch, u3, Ax (by decide) (by have := hp.lo;omega)]
 refine⟨u, uz, ?_⟩;have q := CgR.sc (k := u) (k' := u) Cg.rfl e;rw[JR]at q;exact(q.trans ((CgR.sc o CgR.rfl).trans (CgR.of (H9 y)))).symm
theorem J7{a' b' c' x':R3}(ha : CgR p a a')(hb : CgR p b b')(hc : CgR p c c')(hx : CgR p x x') : CgR p (ap a b c x) (ap a' b' c' x') := ⟨ES ha hx, ES hb hx, ES hc hx⟩
theorem Pr.ap(i : Pr p x y) : Pr p (OvC.ap a b c x) (OvC.ap a b c y) := by
 obtain⟨d, dz, e⟩ := i;exact⟨d, dz, (J7 CgR.rfl CgR.rfl CgR.rfl e).trans (CgR.of (W3 a b c y d))⟩
theorem U8(k : Ae)(a b c x : R3) : ap (Bf k a) (Bf k b) (Bf k c) x = Bf k (ap a b c x) := by
 unfold ap Bf AO;refine Cp ?_ (Cp ?_ ?_) <;> (simp only;grind)
theorem Pr.tab{a' b' c':R3}(kz : k%p ≠ 0)(ha : CgR p a (Bf k a'))(hb : CgR p b (Bf k b'))(hc : CgR p c (Bf k c')) : Pr p (OvC.ap a b c x) (OvC.ap a' b' c' x):=
 ⟨k, kz, (J7 ha hb hc CgR.rfl).trans (CgR.of (U8 k a' b' c' x))⟩
theorem W4(a b c v : R3) : ap (bk0 a b c) (bk1 a b c) (bk2 a b c) (ap a b c v) = Bf (AN a b c) v := by
 unfold ap Bf AO bk0 bk1 bk2 Fa E9 E8 crs AN det;refine Cp ?_ (Cp ?_ ?_) <;> (simp only;grind)
end
noncomputable def tri(g : R3) : Ab Ae := [g.1, g.2.1, g.2.2]
theorem SQ{x:R3}(hp : P4 p)(ix : In3 p x)(iy : In3 p y)(lx : Bb p (tri x) = Aa 1)(ly : Bb p (tri y) = Aa 1)(h : Pr p x y) : x = y := by
 obtain⟨d, dz, e⟩ := h;have p1 : 1<p := by have := hp.lo;omega
 have rs : (tri x).map (fun x => x%p) = ((tri y).map fun x => d*x).map (fun x => x%p) := by
  simp only[tri, Bm, FL];rw[show x.1%p = d*y.1%p from e.1, show x.2.1%p = d*y.2.1%p from e.2.1, show x.2.2%p = d*y.2.2%p from e.2.2]
 have el := G9 hp dz (f := fun x => d*x) (fun _ => rfl) (tri y)
 rw[ly, <-K3 rs, lx, Dj, Dr, E3]at el;have o : Cg p d 1 := by
  show d%p = 1%p;rw[<-el, Ax (by decide) p1]
 have q := e.trans ((CgR.sc o CgR.rfl).trans (CgR.of (H9 y)));have same : ∀{u v : Ae}, (0 <= u /\ u<p) -> (0 <= v /\ v<p) -> Cg p u v -> u = v := fun hu hv huv => by
  have := show _%p = _%p from huv
  rwa [Ax hu.1 hu.2, Ax hv.1 hv.2]at this
 exact Cp (same ix.1 iy.1 q.1) (Cp (same ix.2.1 iy.2.1 q.2.1) (same ix.2.2 iy.2.2 q.2.2))
theorem Pp{a b c : R3}(hp : P4 p)(nz : AN a b c%p ≠ 0) : ∃ l t, Bb p (Ce a b c) = Aa l /\ Ey p l t /\ t%p ≠ 0 /\ GoodR p (fmR p t a) (fmR p t b) (fmR p t c) /\ Bb p (Ce (fmR p t a) (fmR p t b) (fmR p t c)) = Aa 1 := by
 have p0 := hp.pos;obtain⟨l, el⟩ := Po nz;obtain⟨lz, _, _⟩ := Hc p0 el;obtain⟨t, t1, t2, t3⟩ := GM hp lz;have tz : t%p ≠ 0 := by rw[Ax (by omega) t2];omega
 have ff : ∀ x, (t*(x%p)%p)%p = t*x%p := fun x => by rw[A5 _ (BJ p), Bi t (x%p) p, A5 _ (BJ p), <-Bi]
 have lv := G9 hp tz (f := fun x => t*(x%p)%p) ff (Ce a b c)
 rw[el]at lv;refine⟨l, t, el, ⟨t1, t2, t3⟩, tz, ⟨hp, Im p0 t a, Im p0 t b, Im p0 t c, WY ((Sn (Io p t a) (Io p t b) (Io p t c)).trans (Cg.of (UB t t t a b c))) (Eu hp (nz3 hp tz tz tz) nz)⟩, ?_⟩;have e : Bb p ((Ce a b c).map fun x => t*(x%p)%p) = Aa 1 := by rw[lv, Dj, Ch, t3]
 exact e
section
variable{p : Ae}{a b c a' b' c' f0 f1 f2 f3 g0 g1 g2 g3 h0 h1 h2 h3 : R3}
end
section
variable{Γ : Gam}{ns : Ab Ae}{p : Ae}
end
section
variable{Γ : Gam}{ns : Ab Ae}{mid : Ag}{p : Ae}{a b c : R3}{s2 s4 s5 s6 s7 s8 : Sl}
end
theorem Pu{lo hi:Ae}(h1 : -1000 <= lo)(h2 : lo <= 1000)(h3 : -1000 <= hi)(h4 : hi <= 1000) : Cy lo hi = .ok (CY lo (hi-lo).toNat) := by
 unfold Cy;rw[AF (by refine⟨⟨by omega, by omega⟩, ⟨by omega, by omega⟩, ?_⟩;omega)]
theorem UP(h : 1<p) : Bb p [0, 0, 1] = Aa 1 := by
 simp[Bb, Ax (by decide : (0 : Ae) <= 1) h]
theorem Wg(h : 1<p)(z : Ae) : Bb p [0, 1, z] = Aa 1 := by
 simp[Bb, Ax (by decide : (0 : Ae) <= 1) h]
theorem XG(h : 1<p)(y z : Ae) : Bb p [1, y, z] = Aa 1 := by
 simp[Bb, Ax (by decide : (0 : Ae) <= 1) h]
theorem HK{p l : Ae}(hp : P4 p)(el : Bb p (tri r) = Aa l) : ∃ u, Ey p l u /\ In3 p (fmR p u r) /\ Bb p (tri (fmR p u r)) = Aa 1 /\ Pr p (fmR p u r) r /\ fmI p u (tri r) = tri (fmR p u r) := by
 have p0 := hp.pos;obtain⟨lz, _, _⟩ := Hc p0 el;obtain⟨t, t1, t2, t3⟩ := GM hp lz;have tz : t%p ≠ 0 := by rw[Ax (by omega) t2];omega
 have ff : ∀ x, (t*(x%p)%p)%p = t*x%p := fun x => by rw[A5 _ (BJ p), Bi t (x%p) p, A5 _ (BJ p), <-Bi]
 have lv := G9 hp tz (f := fun x => t*(x%p)%p) ff (tri r)
 rw[el, Dj, Ch, t3]at lv;exact⟨t, ⟨t1, t2, t3⟩, Im p0 t r, lv, ⟨t, tz, Io p t r⟩, rfl⟩
theorem Lk(h : Bb p (tri g) = Af) : CgR p g (0, 0, 0) := by
 have hz := HF.mp h;have k : ∀ x ∈ tri g, Cg p x 0 := fun x hx => by show x%p = 0%p;rw[hz x hx, C3]
 exact⟨k _ (by simp[tri]), k _ (by simp[tri]), k _ (by simp[tri])⟩
theorem P7(h : CgR p g (0, 0, 0)) : Bb p (tri g) = Af := by
 refine HF.mpr fun x hx => ?_
 have k : ∀{x : Ae}, Cg p x 0 -> x%p = 0 := fun {x} h => by rw[show x%p = _ from h, C3]
 simp only[tri, AQ, Oi, or_false]at hx;rcases hx with rfl|rfl|rfl
 ·exact k h.1
 ·exact k h.2.1
 ·exact k h.2.2
theorem L1{p l : Ae}{a b c f g : R3}(hp : P4 p)(z : AN a b c%p ≠ 0)(lf : Bb p (tri f) = Aa l)(h : CgR p g (ap a b c f)) : ∃ l, Bb p (tri g) = Aa l := by
 cases el : Bb p (tri g) with
 |some l => exact⟨l, rfl⟩
 |none=>
  have q0 : CgR p (ap a b c f) (0, 0, 0) := h.symm.trans (Lk el);have q1 : CgR p (Bf (AN a b c) f) (0, 0, 0) := by
   have := J7 (CgR.rfl (a := bk0 a b c)) (CgR.rfl (a := bk1 a b c)) (CgR.rfl (a := bk2 a b c)) q0;rw[W4]at this;refine this.trans (CgR.of ?_);unfold ap AO;simp
  obtain⟨u, uz, o⟩ := Mh hp z;have q2 : CgR p f (0, 0, 0) := by
   have w := CgR.sc (k := u) (k' := u) Cg.rfl q1;rw[JR]at w;refine((CgR.of (H9 f).symm).trans (CgR.sc o.symm CgR.rfl)).trans (w.trans (CgR.of ?_));unfold Bf;simp
  rw[P7 q2]at lf;cases lf
section
variable{Γ : Gam}{ns : Ab Ae}{p : Ae}{C : C6}{s3 s4 s5 s6 s7 s8 : Sl}
end
section
variable{Γ : Gam}{ns : Ab Ae}
end
theorem ME(hp : P4 p)(kz : k%p ≠ 0) : k*x%p = 0 ↔ x%p = 0 := by
 constructor
 ·intro z;exact Classical.byContradiction fun n => Eu hp kz n z
 ·intro z;rw[Bi, z, FJ, C3]
theorem MP{x x' y':R3}(hp : P4 p)(hx : Pr p x x')(hy : Pr p y y') : (AO x y%p = 0) ↔ (AO x' y'%p = 0) := by
 obtain⟨d, dz, e⟩ := hx;obtain⟨d', dz', e'⟩ := hy;have q : Cg p (AO x y) (d*d'*AO x' y') := (ES e e').trans (Cg.of (by unfold AO Bf;simp only;grind))
 rw[show AO x y%p = _ from q]
 exact ME hp (Eu hp dz dz')
section
variable{Γ : Gam}{ns : Ab Ae}{p : Ae}{C : C6}{s3 s4 s5 s6 s7 s8 : Sl}
end
noncomputable def NF(p : Ae)(x : R3) : Prop := In3 p x /\ Bb p (tri x) = Aa 1
noncomputable def ptI(p n : Ae) : R3 := if n = 0 then (0, 0, 1) else if n <= p then (0, 1, n-1) else (1, (n-p-1) / p, (n-p-1)%p)
noncomputable def D2(p : Ae) : Ab R3 := (B7 (p*p+p+1).toNat).map fun(n : Ag) => ptI p n
theorem VZ{n:Ae}(hp : P4 p)(h0 : 0 <= n)(h1 : n<p*p+p+1) : NF p (ptI p n) := by
 have p1 : 1<p := by have := hp.lo;omega
 have p0 := hp.pos;unfold ptI;by_cases z : n = 0
 ·rw[AF z];exact⟨⟨⟨by decide, p0⟩, ⟨by decide, p0⟩, ⟨by decide, p1⟩⟩, UP p1⟩
 ·rw[AH z];by_cases z1 : n <= p
  ·rw[AF z1];exact⟨⟨⟨F3 0, p0⟩, ⟨(by decide : (0 : Ae) <= 1), p1⟩, ⟨by show 0 <= n-1;omega, by show n-1<p;omega⟩⟩, Wg p1 _⟩
  ·rw[AH z1];have d0 : 0 <= (n-p-1) / p := NT (by omega) (by omega)
   have d1 : (n-p-1) / p<p := by rw[Int.ediv_lt_iff_lt_mul p0];omega
   exact⟨⟨⟨(by decide : (0 : Ae) <= 1), p1⟩, ⟨d0, d1⟩, ⟨AY _ (by omega), A2 _ p0⟩⟩, XG p1 _ _⟩
theorem Wd{x:R3}(hp : P4 p)(h : NF p x) : ∃ n : Ae, 0 <= n /\ n<p*p+p+1 /\ x = ptI p n := by
 obtain⟨⟨i0, i1, i2⟩, l⟩ := h;have p1 : 1<p := by have := hp.lo;omega
 have p0 := hp.pos;have pp := F4 p0 p0;obtain⟨x0, x1, x2⟩ := x;simp only at i0 i1 i2;unfold tri Bb at l;simp only at l;rw[Ax i0.1 i0.2]at l;by_cases z0 : x0 = 0
 ·rw[AF z0]at l;unfold Bb at l;rw[Ax i1.1 i1.2]at l;by_cases z1 : x1 = 0
  ·rw[AF z1]at l;unfold Bb at l;rw[Ax i2.1 i2.2]at l;by_cases z2 : x2 = 0
   ·rw[AF z2]at l;cases l
   ·rw[AH z2, Dr]at l;exact⟨0, F3 0, by omega, by rw[z0, z1, l];rfl⟩
  ·rw[AH z1, Dr]at l;refine⟨x2+1, by omega, by omega, ?_⟩
   unfold ptI;rw[AH (by omega), AF (by omega), z0, l, Int.add_sub_cancel]
 ·rw[AH z0, Dr]at l;have m1 : p*x1 <= p*(p-1) := Int.mul_le_mul_of_nonneg_left (by omega) (by omega)
  have m0 : 0 <= p*x1 := Int.mul_nonneg (by omega) i1.1
  rw[Int.mul_sub, E3]at m1;refine⟨p+1+p*x1+x2, by omega, by omega, ?_⟩
  unfold ptI;have e : p+1+p*x1+x2-p-1 = x2+p*x1 := by omega
  rw[AH (by omega), AH (by omega), e, Int.add_mul_ediv_left _ _ (by omega), Int.ediv_eq_zero_of_lt i2.1 i2.2, Int.add_mul_emod_self_left, Ax i2.1 i2.2, NX, l]
theorem JD{x:R3}(hp : P4 p) : x ∈ D2 p ↔ NF p x := by
 have p0 := hp.pos;have pp := F4 p0 p0;constructor
 ·intro h;obtain⟨n, hn, rfl⟩ := CB.mp h;have := B0.mp hn;exact VZ hp (by omega) (by omega)
 ·intro h;obtain⟨n, n0, n1, rfl⟩ := Wd hp h;refine CB.mpr ⟨n.toNat, B0.mpr (by omega), ?_⟩
  rw[NW n0]
noncomputable def nrm(p : Ae)(r : R3) : R3 := open Classical in if h : ∃ y, NF p y /\ Pr p y r then NQ h else r
theorem Jq{p l : Ae}(hp : P4 p)(el : Bb p (tri r) = Aa l) : NF p (nrm p r) /\ Pr p (nrm p r) r := by
 have h : ∃ y, NF p y /\ Pr p y r := by
  obtain⟨u, iu, j, l1, pr, _⟩ := HK hp el;exact⟨_, ⟨j, l1⟩, pr⟩
 unfold nrm;rw[dif_pos h];exact CT h
theorem Jr{a b c x : R3}(hp : P4 p)(z : AN a b c%p ≠ 0)(hx : NF p x) : NF p (nrm p (ap a b c x)) /\ Pr p (nrm p (ap a b c x)) (ap a b c x) := by
 obtain⟨l, el⟩ := L1 hp z hx.2 CgR.rfl;exact Jq hp el
theorem Ib{x:R3}(hp : P4 p)(hx : NF p x)(hy : NF p y)(h : Pr p x y) : x = y := SQ hp hx.1 hy.1 hx.2 hy.2 h
noncomputable def q4(w : Ag)(k : Ae)(y : R3) : Ae := match w with
  |0 => y.1*y.2.2-y.2.1*y.2.1
  |1 => y.1*y.1
  |2 => y.1*y.2.1
  |_ => y.1*y.1-k*(y.2.1*y.2.1)
noncomputable def MV(pts : Ab R3) : D := .lst (pts.map (AA Ac))
section
variable{Γ : Gam}{p i j k d N : Ae}{PP x y u : D}{RL : Ab D}{s t s' t' v : Sl}
end
section
variable{Γ : Gam}{p : Ae}{pts : Ab R3}
end
theorem RE{x:R3}(h : tri x = tri y) : x = y := by
 obtain⟨x0, x1, x2⟩ := x;obtain⟨y0, y1, y2⟩ := y;unfold tri at h;simp at h;obtain⟨rfl, rfl, rfl⟩ := h;rfl
theorem UD(k l : Ae)(a b : R3) : crs (Bf k a) (Bf l b) = Bf (k*l) (crs a b) := by
 unfold crs Bf;simp only;refine Cp ?_ (Cp ?_ ?_) <;> (simp only;grind)
theorem Pr.crs{a b a' b' : R3}(hp : P4 p)(h : Pr p a a')(g : Pr p b b') : Pr p (OvC.crs a b) (OvC.crs a' b') := by
 obtain⟨d, dz, e⟩ := h;obtain⟨d', dz', e'⟩ := g;exact⟨d*d', Eu hp dz dz', (UE e e').trans (CgR.of (UD ..))⟩
noncomputable def G8 : Df := ⟨2, Ad, (.cons (.asg 1 Ad (.bin .Mod (.var 1) (.bin .Add (.bin .Add (.bin .Mult (.var 0) (.var 0)) (.var 0)) (.int 1)))) (.cons (.ife (.cmp .Eq (.var 1) (.int 0)) (.cons (.ret (.tup (.cons (.int 0) (.cons (.int 0) (.cons (.int 1) .nil))))) .nil) .nil) (.cons (.ife (.cmp .LtE (.var 1) (.var 0)) (.cons (.ret (.tup (.cons (.int 0) (.cons (.int 1) (.cons (.bin .Sub (.var 1) (.int 1)) .nil))))) .nil) .nil) (.cons (.ret (.tup (.cons (.int 1) (.cons (.bin .FloorDiv (.bin .Sub (.bin .Sub (.var 1) (.var 0)) (.int 1)) (.var 0)) (.cons (.bin .Mod (.bin .Sub (.bin .Sub (.var 1) (.var 0)) (.int 1)) (.var 0)) .nil))))) .nil))))⟩
noncomputable def JP(Γ : Gam) : Prop := ∀(p n : Ae), P4 p -> Γ.F 93 [.int p, .int n] = .ok (AA Ac (ptI p (n%(p*p+p+1))))
theorem pN{n:Ae}(hp : P4 p) : 0<p*p+p+1 /\ 0 <= n%(p*p+p+1) /\ n%(p*p+p+1)<p*p+p+1 := by
 have p0 := hp.pos;have N0 : 0<p*p+p+1 := by have := F4 p0 p0;omega
 exact⟨N0, AY n (Int.ne_of_gt N0), A2 n N0⟩
theorem Tx(Γ : Gam)(p n : Ae)(hp : P4 p) : G8.run Γ [.int p, .int n] = .ok (AA Ac (ptI p (n%(p*p+p+1)))) := by
 have pp : BO p p = Ac := Er (by have := hp.lo;omega) (by have := hp.hi;omega)
 have p0 := hp.pos;have ph := hp.hi;obtain⟨N0, h0, h1⟩ := pN (n := n) hp;have pb : p<1073741824 := by omega
 generalize hr : n%(p*p+p+1) = r at *;unfold ptI;by_cases z0 : r = 0
 ·rw[AF z0];simp[G8, Df.run, BQ, pp, N0, hr, z0];rfl
 ·rw[AH z0];by_cases z1 : r <= p
  ·rw[AF z1];simp[G8, Df.run, BQ, pp, N0, hr, z0, z1];rfl
  ·rw[AH z1];simp[G8, Df.run, BQ, pp, N0, hr, z0, z1, p0, pb];rfl
noncomputable def II : E := (.bl Ac)
noncomputable def G6 : E := (.call 93 (.cons (.var 0) (.cons (.var 1) .nil)))
noncomputable def HP : Df := ⟨2, Ad, (.cons (.ret (.comp G6 1 (.rng (.bin .Add (.bin .Add (.bin .Mult (.var 0) (.var 0)) (.var 0)) (.int 1))) II)) .nil)⟩
noncomputable def Tn(Γ : Gam) : Prop := ∀ p : Ae, P4 p -> Γ.F 94 [.int p] = .ok (MV (D2 p))
theorem QX(h : JP Γ)(p : Ae)(hp : P4 p) : HP.run Γ [.int p] = .ok (MV (D2 p)) := by
 have pp : BO p p = Ac := Er (by have := hp.lo;omega) (by have := hp.hi;omega)
 have N1 : 0 <= p*p+p+1 /\ p*p+p+1 <= 1000 := by rcases hp with rfl|rfl|rfl|rfl <;> decide
 have rg : Cy 0 (p*p+p+1) = .ok (CY 0 (p*p+p+1-0).toNat) := Pu (by decide) (by decide) (by omega) (by omega)
 rw[FK]at rg;have cp : Bp (cG Γ [si p, Af] 1 II) (cF Γ [si p, Af] 1 G6) (CY 0 (p*p+p+1).toNat) = .ok ((D2 p).map (AA Ac)) := by
  have key : ∀ L : Ab Ag, (∀ k ∈ L, (k : Ae)<p*p+p+1) -> Bp (cG Γ [si p, Af] 1 II) (cF Γ [si p, Af] 1 G6) (L.map fun(k : Ag) => D.int (0+(k : Ae))) = .ok ((L.map fun(n : Ag) => ptI p n).map (AA Ac)) := fun L => by
   induction L with
   |nil => intro _;rfl
   |cons k L ih=>
    intro hL;have e := h p k hp;rw[Ax (by omega) (hL k Au)]at e
    have f : cF Γ [si p, Af] 1 G6 (.int (0+(k : Ae))) = .ok (AA Ac (ptI p k)) := by
     rw[NX];simp[cF, G6, e]
    have ih' := ih fun m hm => hL m (Ar _ hm)
    show (R.ok Ac).bind _ = _;rw[R.bind_ok, AF rfl, f, R.bind_ok, show Bp _ _ (List.map _ L) = _ from ih']
    rfl
  exact key _ fun k hk => by have := B0.mp hk;omega
 generalize hN : p*p+p+1 = N at *;generalize CY 0 N.toNat = RL at *;have e1 : p*p+p+1 = N := hN;simp[HP, Df.run, BQ, pp, e1, rg, cp];rfl
noncomputable def Vd(Γ : Gam) : Prop := ∀(p : Ae)(a b c x : R3), GoodR p a b c -> NF p x -> Γ.F 96 [.int p, Cz a b c, AA Ac x] = .ok (AA Ac (nrm p (ap a b c x)))
theorem RS(hd : Ij Γ){a b c x : R3}{g f : D -> R D}{gg:D -> R An}(hp : P4 p)(ha : In3 p a)(hb : In3 p b)(hc : In3 p c)(hx : In3 p x)(hg : ∀ r, gg r = .ok Ac)(hf : ∀ r y, Γ.F 95 [AA Ac r, AA Ac x] = .ok y -> f (AA Ac r) = .ok y) : Bp gg f [AA Ac a, AA Ac b, AA Ac c] = .ok [.int (AO a x), .int (AO b x), .int (AO c x)] := by
 have b3 : ∀ {r}, In3 p r -> B3 r := fun h => (Iq hp h).b3 (by decide)
 have k : ∀ r, In3 p r -> f (AA Ac r) = .ok (.int (AO r x)) := fun r hr => hf r _ (hd Ac Ac r x (b3 hr) (b3 hx))
 simp[Bp, hg, k a ha, k b hb, k c hc]
theorem TB(hd : Ij Γ)(hf : Hj Γ)(p : Ae)(a b c x : R3)(G : GoodR p a b c)(hx : NF p x) : HN.run Γ [.int p, Cz a b c, AA Ac x] = .ok (AA Ac (nrm p (ap a b c x))) := by
 have hp := G.p4;obtain⟨l, el⟩ := L1 hp G.nz hx.2 CgR.rfl;obtain⟨u, iu, j, l1, pr, ef⟩ := HK hp el;obtain⟨n1, n2⟩ := Jr hp G.nz hx;have e0 : fmR p u (ap a b c x) = nrm p (ap a b c x) := Ib hp ⟨j, l1⟩ n1 (pr.trans hp (n2.symm hp));have e := hf p Ad _ l u hp el iu;rw[ef, e0]at e;have e' : Γ.F 82 [.int p, .lst [.int (AO a x), .int (AO b x), .int (AO c x)]] = .ok (AA Ac (nrm p (ap a b c x))) := e;have cp := RS (g := fun _ => .bad) (gg := cG Γ [si p, sh (Cz a b c), sh (AA Ac x), Af] 3 KG) (f := cF Γ [si p, sh (Cz a b c), sh (AA Ac x), Af] 3 IH) hd hp G.ia G.ib G.ic hx.1 (fun _ => rfl) (fun r y e => by
  generalize AA Ac r = rr at *;generalize AA Ac x = xx at *;simp[cF, IH, e])
 have sq : Dd (Cz a b c) = .ok [AA Ac a, AA Ac b, AA Ac c] := rfl;generalize AA Ac (nrm p (ap a b c x)) = Y at *;generalize AA Ac x = xx at *;generalize Cz a b c = TT at *;generalize [AA Ac a, AA Ac b, AA Ac c] = LL at *;simp[HN, Df.run, BQ, sq, cp, e']
section
variable{Γ : Gam}{ns : Ab Ae}
end
noncomputable def b4(u v : R3) : Ae := u.1*v.2.2+u.2.2*v.1-2*(u.2.1*v.2.1)
section
variable{p : Ae}{a b c : R3}{C : C6}
end
section
variable{p : Ae}{a b c : R3}{C : C6}
end
section
variable{p : Ae}{C R : C6}{A B P U x : R3}
end
section
variable{p : Ae}{C E : C6}{a b c A B P U A' B' P' U' x y : R3}
end
end OvC
section
namespace OvC
open PySem Ov
end OvC
end
namespace OvC
open PySem Ov
variable{n k:Ae}{l l' a b c:R3}{kvs:Ab (Ab Ae × D)}{F:D}{s8 s9 s10:Sl}
section
variable{Γ : Gam}{ns : Ab Ae}{p : Ae}{a b c : R3}{s2 s4 s5 s6 s7 s8 : Sl}
end
section
variable{p : Ae}{C : C6}{a b c A B P U l m : R3}
theorem swp(h : AO U m%p = 0) : AO m U%p = 0 := by rw[Ju];exact h
end
section
variable{p : Ae}{C : C6}{a b c x y l P Q : R3}
theorem XH(h : Cg p n 0) : n%p = 0 := by
 have : n%p = 0%p := h;rw[this, C3]
theorem nz_lead{r s:R3}(h : AO r s%p ≠ 0) : ∃ l, Bb p (tri r) = Aa l := by
 cases el : Bb p (tri r) with
 |some l => exact⟨l, rfl⟩
 |none=>
  refine absurd (XH ?_) h;refine(ES (Lk el) (CgR.rfl (a := s))).trans (Cg.of ?_);unfold AO;simp
end
section
variable{Γ : Gam}{p : Ae}{C : C6}{a b c : R3}
end
section
variable{Γ : Gam}{p : Ae}{C : C6}{a b c : R3}
end
section
variable{Γ : Gam}{p : Ae}{C : C6}{a b c : R3}
noncomputable def hx(p : Ae)(x : R3) : Ae := (x.1*x.2.2-x.2.1*x.2.1)%p
end
noncomputable def HI : Df := ⟨3, Ad, (.cons (.ret (.call 17 (.cons (.var 0) (.cons (.call 91 (.cons (.var 0) (.cons (.call 98 (.cons (.var 1) .nil)) (.cons (.var 2) .nil)))) .nil)))) .nil)⟩
section
variable{Γ : Gam}{p k : Ae}{C D : C6}{a b c m0 m1 m2 l x : R3}
theorem JA(z : AN a b c%p ≠ 0) : a ≠ b /\ b ≠ c /\ c ≠ a := by
 refine⟨?_, ?_, ?_⟩
 ·rintro rfl;exact z (by rw[show AN a a c = 0 by unfold AN det;grind];simp)
 ·rintro rfl;exact z (by rw[show AN a b b = 0 by unfold AN det;grind];simp)
 ·rintro rfl;exact z (by rw[show AN c b c = 0 by unfold AN det;grind];simp)
noncomputable def tlR(m0 m1 m2 l : R3) : R3 := (AO (crs m1 m2) l, AO (crs m2 m0) l, AO (crs m0 m1) l)
theorem VA(hp : P4 p)(h : Pr p l l') : Pr p (tlR m0 m1 m2 l) (tlR m0 m1 m2 l') := by
 obtain⟨d, dz, e⟩ := h;refine⟨d, dz, ?_⟩;have k : ∀ u, Cg p (AO u l) (d*AO u l') := fun u => (ES (CgR.rfl (a := u)) e).trans (Cg.of (by unfold AO Bf;simp only;grind))
 exact⟨k _, k _, k _⟩
noncomputable def Xq(Γ : Gam) : Prop := ∀(p : Ae)(m0 m1 m2 l l' : R3), GoodR p m0 m1 m2 -> NF p l -> Pr p l l' -> (∃ s, AO (tlR m0 m1 m2 l') s%p ≠ 0) -> Γ.F 99 [.int p, Cz m0 m1 m2, AA Ac l] = .ok (AA Ac (nrm p (tlR m0 m1 m2 l')))
theorem XF(hs : MH Γ)(hc : L4 Γ)(hf : L3 Γ)(G : GoodR p m0 m1 m2)(nl : NF p l)(pl : Pr p l l')(z : ∃ s, AO (tlR m0 m1 m2 l') s%p ≠ 0) : HI.run Γ [.int p, Cz m0 m1 m2, AA Ac l] = .ok (AA Ac (nrm p (tlR m0 m1 m2 l'))) := by
 have hp := G.p4;have p0 := hp.pos;have bb : ∀ {r}, In3 p r -> Bn 10 r := fun h => Iq hp h
 have b3 : ∀ {r}, In3 p r -> B3 r := fun h => (Iq hp h).b3 (by decide)
 have e1 : Γ.F 98 [Cz m0 m1 m2] = .ok (Dt Ac Ac (crs m1 m2) (crs m2 m0) (crs m0 m1)) := hc m0 m1 m2 (b3 G.ia) (b3 G.ib) (b3 G.ic) (JA G.nz).1 (JA G.nz).2.1 (JA G.nz).2.2;have e2 := hs p Ac Ac Ac (crs m1 m2) (crs m2 m0) (crs m0 m1) l p0 ((JV (bb G.ib) (bb G.ic)).b3 (by decide)) ((JV (bb G.ic) (bb G.ia)).b3 (by decide)) ((JV (bb G.ia) (bb G.ib)).b3 (by decide)) (b3 nl.1)
 obtain⟨s, hz⟩ := z;have pt := VA (m0 := m0) (m1 := m1) (m2 := m2) hp pl;have gm : CgR p (AO (crs m1 m2) l%p, AO (crs m2 m0) l%p, AO (crs m0 m1) l%p) (tlR m0 m1 m2 l) := ⟨Cg.md rfl, Cg.md rfl, Cg.md rfl⟩;have pm : Pr p (AO (crs m1 m2) l%p, AO (crs m2 m0) l%p, AO (crs m0 m1) l%p) (tlR m0 m1 m2 l') := Pr.trans hp ⟨1, hp.o1, gm.trans (CgR.of (by unfold Bf;simp))⟩ pt
 obtain⟨ll, ell⟩ := nz_lead hz;obtain⟨n1, n2⟩ := Jq hp ell;have nzr : ∃ l2 : Ae, Bb p (tri (AO (crs m1 m2) l%p, AO (crs m2 m0) l%p, AO (crs m0 m1) l%p)) = Aa l2 := by
  refine nz_lead (s := s) ?_;intro h;refine hz ((MP hp pm ⟨1, hp.o1, CgR.of (by unfold Bf;simp)⟩).mp h)
 generalize (AO (crs m1 m2) l%p, AO (crs m2 m0) l%p, AO (crs m0 m1) l%p) = R at *;obtain⟨l2, el⟩ := nzr;obtain⟨u, iu, j, l1, pr, ef⟩ := HK hp el;have e3 := hf p Ac _ l2 u hp el iu;rw[ef]at e3;have e3' : Γ.F 17 [.int p, AA Ac R] = .ok (AA Ac (fmR p u R)) := e3;have q : fmR p u R = nrm p (tlR m0 m1 m2 l') := Ib hp ⟨j, l1⟩ n1 ((pr.trans hp pm).trans hp (n2.symm hp));rw[q]at e3';generalize AA Ac (nrm p (tlR m0 m1 m2 l')) = Y at *;generalize AA Ac R = RR at *;generalize AA Ac l = lt at *;generalize Cz m0 m1 m2 = TT at *;generalize Dt Ac Ac (crs m1 m2) (crs m2 m0) (crs m0 m1) = XX at *;simp[HI, Df.run, BQ, e1, e2, e3']
end
noncomputable def IM : Df := ⟨2, Ad, (.cons (.ife (.cmp .Eq (.var 0) (.var 1)) (.cons (.rais 107 (.cons (.var 0) .nil)) .nil) .nil) (.cons (.ret (.tup (.cons (.bin .Sub (.bin .Mult (.idx (.var 0) (.int 1)) (.idx (.var 1) (.int 2))) (.bin .Mult (.idx (.var 0) (.int 2)) (.idx (.var 1) (.int 1)))) (.cons (.bin .Sub (.bin .Mult (.idx (.var 0) (.int 2)) (.idx (.var 1) (.int 0))) (.bin .Mult (.idx (.var 0) (.int 0)) (.idx (.var 1) (.int 2)))) (.cons (.bin .Sub (.bin .Mult (.idx (.var 0) (.int 0)) (.idx (.var 1) (.int 1))) (.bin .Mult (.idx (.var 0) (.int 1)) (.idx (.var 1) (.int 0)))) .nil))))) .nil))⟩
theorem Px(Γ : Gam)(a b : R3)(ha : B3 a)(hb : B3 b)(ne : a ≠ b) : IM.run Γ [AA Ac a, AA Ac b] = .ok (AA Ac (crs a b)) := by
 obtain⟨x0, x1, x2⟩ := GK Ac a;obtain⟨y0, y1, y2⟩ := GK Ac b;have k : ∀ {u v}, Bd 300 u -> Bd 300 v -> Fx u v = Ac := fun hu hv => JO hu hv (by decide) (by decide)
 have f : ∀ r : R3, flD 5 (AA Ac r) = Ac := fun _ => rfl
 have e : eqD (AA Ac a) (AA Ac b) = Ad := by rw[Uy];exact B9 ne
 simp[IM, Df.run, BQ, f, e, x0, x1, x2, y0, y1, y2, k ha.2.1 hb.2.2, k ha.2.2 hb.2.1, k ha.2.2 hb.1, k ha.1 hb.2.2, k ha.1 hb.2.1, k ha.2.1 hb.1];rfl
section
variable{Γ : Gam}{ns : Ab Ae}
theorem in1(b : An) : biD .int [.bl b] = .ok (.int (if b = Ac then 1 else 0)) := by cases b <;> rfl
end
noncomputable def KH : E := (.bl Ac)
noncomputable def HJ : E := (.tup (.cons (.var 10) (.cons (.call 96 (.cons (.var 1) (.cons (.var 2) (.cons (.var 10) .nil)))) .nil)))
noncomputable def F9 : Ss := (.cons (.ife (.cmp .NotEq (.cmp .Eq (.bin .Mod (.call 95 (.cons (.var 8) (.cons (.var 6) .nil))) (.var 1)) (.int 0)) (.cmp .Eq (.bin .Mod (.call 95 (.cons (.var 9) (.cons (.var 7) .nil))) (.var 1)) (.int 0))) (.cons (.ret (.bl Ad)) .nil) .nil) .nil)
noncomputable def F8 : Ss := (.cons (.asg 6 Ad (.call 93 (.cons (.var 1) (.cons (.call 100 (.cons (.var 0) (.cons (.bin .Add (.int 1) (.var 5)) .nil))) .nil)))) (.cons (.asg 7 Ad (.call 99 (.cons (.var 1) (.cons (.var 2) (.cons (.var 6) .nil))))) (.cons (.ife (.or (.cons (.no (.call 86 (.cons (.var 7) (.cons (.var 1) (.cons (.int 3) .nil))))) (.cons (.cmp .NotEq (.var 7) (.call 82 (.cons (.var 1) (.cons (.var 7) .nil)))) .nil))) (.cons (.ret (.bl Ad)) .nil) .nil) (.cons (.forT [8, 9] (.e (.var 3)) F9) (.cons (.ife (.cmp .NotEq (.dget 4 (.var 7) (.var 6)) (.var 6)) (.cons (.ret (.bl Ad)) .nil) .nil) (.cons (.dput 4 (.var 7) (.var 6)) .nil))))))
noncomputable def Jc : Df := ⟨11, Ad, (.cons (.asg 1 Ad (.call 101 (.cons (.var 0) .nil))) (.cons (.asg 2 Ad (.call 84 (.cons (.var 1) (.cons (.call 102 (.cons (.var 0) (.cons (.var 1) (.cons (.int 5) (.cons (.int 14) .nil))))) .nil)))) (.cons (.asg 3 Ad (.comp HJ 10 (.e (.call 94 (.cons (.var 1) .nil))) KH)) (.cons (.dnw 4) (.cons (.fors 5 (.rng (.int 4)) F8) (.cons (.ret (.bl Ac)) .nil))))))⟩
theorem UK{p:Ae}(h : Bb p (tri l) = Aa k) : ∃ x, AO l x%p ≠ 0 := by
 by_cases h0 : l.1%p = 0
 ·by_cases h1 : l.2.1%p = 0
  ·by_cases h2 : l.2.2%p = 0
   ·exfalso;simp[Bb, tri, h0, h1, h2]at h
   ·exact⟨(0, 0, 1), by unfold AO;simpa using h2⟩
  ·exact⟨(0, 1, 0), by unfold AO;simpa using h1⟩
 ·exact⟨(1, 0, 0), by unfold AO;simpa using h0⟩
theorem MM(m0 m1 m2 l x : R3) : AO (tlR m0 m1 m2 l) (ap m0 m1 m2 x) = AN m0 m1 m2*AO l x := by
 unfold tlR ap AO crs AN det;grind
theorem MW(m0 m1 m2 l : R3) : rm (tlR m0 m1 m2 l) m0 m1 m2 = Bf (AN m0 m1 m2) l := by
 unfold tlR rm AO crs AN det Fa E9 E8 Bf;refine Cp ?_ (Cp ?_ ?_) <;> (simp only;grind)
section
variable{Γ : Gam}{ns : Ab Ae}{p : Ae}{m0 m1 m2 l l' x : R3}
theorem WD(h : Pr p l l') : Pr p (rm l m0 m1 m2) (rm l' m0 m1 m2) := by
 obtain⟨d, dz, e⟩ := h;refine⟨d, dz, ?_⟩;have k : ∀ u, Cg p (AO u l) (d*AO u l') := fun u => (ES (CgR.rfl (a := u)) e).trans (Cg.of (by unfold AO Bf;simp only;grind))
 exact⟨k _, k _, k _⟩
theorem ML(G : GoodR p m0 m1 m2)(nl : NF p l) : ∃ s, AO (tlR m0 m1 m2 l) s%p ≠ 0 := by
 obtain⟨x, hx⟩ := UK nl.2;exact⟨ap m0 m1 m2 x, by rw[MM];exact Eu G.p4 G.nz hx⟩
theorem He(G : GoodR p m0 m1 m2)(nl : NF p l) : NF p (nrm p (tlR m0 m1 m2 l)) /\ Pr p (nrm p (tlR m0 m1 m2 l)) (tlR m0 m1 m2 l) := by
 obtain⟨s, hs⟩ := ML G nl;obtain⟨k, ek⟩ := OvC.nz_lead hs;exact Jq G.p4 ek
theorem TJ(hp : P4 p) : Pr p l l := ⟨1, hp.o1, CgR.of (by unfold Bf;simp)⟩
theorem Ta(G : GoodR p m0 m1 m2)(nl : NF p l)(nl' : NF p l')(e : nrm p (tlR m0 m1 m2 l) = nrm p (tlR m0 m1 m2 l')) : l = l' := by
 have hp := G.p4;have h1 := (He G nl).2;rw[e]at h1;have h := WD (m0 := m0) (m1 := m1) (m2 := m2) ((h1.symm hp).trans hp (He G nl').2);rw[MW, MW]at h;have k : ∀ r : R3, Pr p (Bf (AN m0 m1 m2) r) r := fun r => ⟨AN m0 m1 m2, G.nz, CgR.rfl⟩
 exact Ib hp nl nl' (((k l).symm hp).trans hp (h.trans hp (k l')))
theorem VB(G : GoodR p m0 m1 m2)(nl : NF p l)(nx : NF p x) : AO (nrm p (ap m0 m1 m2 x)) (nrm p (tlR m0 m1 m2 l))%p = 0 ↔ AO x l%p = 0 := by
 have hp := G.p4;rw[MP hp (Jr hp G.nz nx).2 (He G nl).2, Ju, MM, ME hp G.nz, Ju]
theorem Sc(hf : Hj Γ)(hp : P4 p){g:R3}(n : NF p g) : Γ.F 82 [.int p, AA Ac g] = .ok (AA Ac g) := by
 obtain⟨u, iu, j, l1, pr, ef⟩ := HK hp n.2;have e := hf p Ac _ 1 u hp n.2 iu;rw[ef, Ib hp ⟨j, l1⟩ n pr]at e;exact e
structure H23 (Γ : Gam) (ns : Ab Ae) : Prop where
 prime : ∃ p, P4 p /\ Γ.F 101 [scr ns] = .ok (.int p)
 tab : ∀ p, P4 p -> ∃ R a b c, Γ.F 102 [scr ns, .int p, .int 5, .int 14] = .ok R /\ Γ.F 84 [.int p, R] = .ok (Cz a b c) /\ GoodR p a b c
 all : Tn Γ
 law : Vd Γ
 rst : Qx Γ
 pt : JP Γ
 mix : Hm Γ ns
 ll : Xq Γ
 fm : Hj Γ
 dt : Ij Γ
noncomputable def prX(p : Ae)(a b c x : R3) : D := .tup [AA Ac x, AA Ac (nrm p (ap a b c x))]
noncomputable def GR(p : Ae)(a b c : R3)(kvs : Ab (Ab Ae × D)) : Prop := ∀ q ∈ kvs, ∃ l, NF p l /\ q = (tri (nrm p (tlR a b c l)), AA Ac l)
theorem Qc(h : GR p a b c kvs)(nl : NF p l) : GR p a b c (Ds kvs (tri (nrm p (tlR a b c l))) (AA Ac l)) /\ (Ds kvs (tri (nrm p (tlR a b c l))) (AA Ac l)).length <= kvs.length+1 := by
 unfold Ds;split
 ·refine⟨fun q hq => ?_, by rw[B6];omega⟩
  obtain⟨r, hr, rfl⟩ := CB.mp hq;split
  ·exact⟨l, nl, rfl⟩
  ·exact h r hr
 ·refine⟨fun q hq => ?_, by simp⟩
  rcases DO.mp hq with hq|hq
  ·exact h q hq
  ·exact⟨l, nl, Bh.mp hq⟩
theorem Qd(G : GoodR p a b c)(h : GR p a b c kvs)(nl : NF p l) : (C1 kvs (tri (nrm p (tlR a b c l)))).getD (AA Ac l) = AA Ac l := by
 unfold C1;cases e : kvs.find? fun q => q.1==tri (nrm p (tlR a b c l)) with
 |none => rfl
 |some q=>
  obtain⟨l2, n2, rfl⟩ := h q (List.mem_of_find?_eq_some e);have k := List.find?_some e;have k2 : nrm p (tlR a b c l2) = nrm p (tlR a b c l) := RE (A9.mp k);rw[Ta G n2 nl k2];rfl
theorem Va(hp : P4 p) : NF p (ptI p (n%(p*p+p+1))) := by
 obtain⟨N0, h0, h1⟩ := pN (n := n) hp;refine(JD hp).mp ?_;unfold D2;refine CB.mpr ⟨(n%(p*p+p+1)).toNat, B0.mpr (by omega), ?_⟩
 rw[NW h0]
theorem flT(b : An)(g : R3) : flD 5 (AA b g) = Ac := by cases b <;> rfl
theorem eqT(b : An)(g : R3) : eqD (AA b g) (AA b g) = Ac := by cases b <;> simp[AA, B5, ds]
theorem RC{S T L K : D}{kk X Y LI:D}{i j:Ae}(h1 : Γ.F 95 [X, LI] = .ok (.int i))(h2 : Γ.F 95 [Y, F] = .ok (.int j))(p0 : 0<p)(p1 : p<1073741824)(h : j%p = 0 ↔ i%p = 0):FW Γ [8,9] F9 (.tup [X,Y]) [sh S,si p,sh T,sh L,Aa (K,Ac),sh kk,sh LI,sh F,s8,s9,s10] = .next [sh S,si p,sh T,sh L,Aa (K,Ac),sh kk,sh LI,sh F,sh X,sh Y,s10] := by
 by_cases z : i%p = 0
 ·simp[FW, F9, h1, h2, p0, p1, z, h.mpr z, D0, DY]
 ·have z' : ¬ j%p = 0 := fun y => z (h.mp y)
  have zb : (i%p==0) = Ad := BF.mpr z;have zb' : (j%p==0) = Ad := BF.mpr z';simp[FW, F9, h1, h2, p0, p1, zb, zb', D0, DY]
theorem LN(h : H23 Γ ns){S K kk : D}{a b c : R3}(G : GoodR p a b c)(nl : NF p l){L : D} :∀(xs :Ab R3)(s8 s9 s10 :Sl),(∀ x ∈ xs,NF p x)->∃ s8' s9',Ck (FW Γ [8,9] F9) (xs.map (prX p a b c)) [sh S,si p,sh (Cz a b c),sh L,Aa (K,Ac),sh kk,sh (AA Ac l),sh (AA Ac (nrm p (tlR a b c l))),s8,s9,s10] = .next [sh S,si p,sh (Cz a b c),sh L,Aa (K,Ac),sh kk,sh (AA Ac l),sh (AA Ac (nrm p (tlR a b c l))),s8',s9',s10]
 |[], s8, s9, s10, _ => ⟨s8, s9, rfl⟩
 |x::xs, s8, s9, s10, hx => by
  have hp := G.p4;have nx := hx x Au;have b3 : ∀ {r}, In3 p r -> B3 r := fun h => (Iq hp h).b3 (by decide)
  have t := RC (S := S) (T := Cz a b c) (L := L) (K := K) (kk := kk) (s8 := s8) (s9 := s9) (s10 := s10) (h.dt Ac Ac x l (b3 nx.1) (b3 nl.1)) (h.dt Ac Ac (nrm p (ap a b c x)) (nrm p (tlR a b c l)) (b3 (Jr hp G.nz nx).1.1) (b3 (He G nl).1.1)) hp.pos (by have := hp.hi;omega) (VB G nl nx)
  obtain⟨s8', s9', ih⟩ := LN h G nl (S := S) (K := K) (kk := kk) (L := L) xs (sh (AA Ac x)) (sh (AA Ac (nrm p (ap a b c x)))) s10 fun y hy => hx y (Ar _ hy)
  refine⟨s8', s9', ?_⟩;rw[<-ih];show (FW Γ [8, 9] F9 (.tup [AA Ac x, AA Ac (nrm p (ap a b c x))]) _).turn _ = _;rw[t];rfl
theorem S7{S T : D}{AL:Ab D}{m:Ae}{LI:D}{kf:Ab Ae}{s5 s6 s7 s8' s9':Sl}(h1 : Γ.F 100 [S, .int (1+k)] = .ok (.int m))(h2 : Γ.F 93 [.int p, .int m] = .ok LI)(h3 : Γ.F 99 [.int p, T, LI] = .ok F)(h4 : Γ.F 86 [F, .int p, .int 3] = .ok (.bl Ac))(h5 : Γ.F 82 [.int p, F] = .ok F)(fl : flD 5 F = Ac)(eq : eqD F F = Ac)(fl' : flD 5 LI = Ac)(eq' : eqD LI LI = Ac)(lp : Ck (FW Γ [8, 9] F9) AL [sh S, si p, sh T, sh (.lst AL), Aa (.dic kvs, Ac), si k, sh LI, sh F, s8, s9, s10] = .next [sh S, si p, sh T, sh (.lst AL), Aa (.dic kvs, Ac), si k, sh LI, sh F, s8', s9', s10])(ek : De F = .ok kf)(eg : (C1 kvs kf).getD LI = LI)(sz : Cb (kvs.length+1) = Ac):B2 Γ 5 F8 (.int k) [sh S,si p,sh T,sh (.lst AL),Aa (.dic kvs,Ac),s5,s6,s7,s8,s9,s10] = .next [sh S,si p,sh T,sh (.lst AL),Aa (.dic (Ds kvs kf LI),Ac),si k,sh LI,sh F,s8',s9',s10] := by
 simp[B2, F8, h1, h2, h3, h4, h5, fl, eq, lp, ek, eg, fl', eq', sz, Ii, Ee]
theorem SZ(h : H23 Γ ns)(G : GoodR p a b c){s5 s6 s7:Sl}(k0 : 0 <= k)(hT : GR p a b c kvs)(hz : kvs.length <= 100):∃ kvs' s5' s6' s7' s8' s9',GR p a b c kvs'/\kvs'.length <= kvs.length+1/\B2 Γ 5 F8 (.int k) [sh (scr ns),si p,sh (Cz a b c),sh (.lst ((D2 p).map (prX p a b c))),Aa (.dic kvs,Ac),s5,s6,s7,s8,s9,s10] = .next [sh (scr ns),si p,sh (Cz a b c),sh (.lst ((D2 p).map (prX p a b c))),Aa (.dic kvs',Ac),s5',s6',s7',s8',s9',s10] := by
 have hp := G.p4;obtain⟨m, m0, e1⟩ := h.mix (1+k) (by omega)
 have e2 := h.pt p m hp;have nl := Va hp (n := m);generalize ptI p (m%(p*p+p+1)) = l at *;have ft := (He G nl).1;obtain⟨s8', s9', lp⟩ := LN h G nl (S := scr ns) (K := .dic kvs) (kk := .int k) (L := .lst ((D2 p).map (prX p a b c))) (D2 p) s8 s9 s10 fun x hx => (JD hp).mp hx
 obtain⟨t1, t2⟩ := Qc hT nl;refine⟨_, _, _, _, s8', s9', t1, t2, S7 e1 e2 (h.ll p a b c l l G nl (TJ hp) (ML G nl)) (h.rst p (tri (nrm p (tlR a b c l))) fun i hi => ?_) (Sc h.fm hp ft) (flT Ac _) (eqT Ac _) (flT Ac _) (eqT Ac _) lp rfl (Qd G hT nl) (Om (by omega))⟩
 obtain⟨⟨i1, i2, i3⟩, _⟩ := ft;rcases AQ.mp hi with rfl|hi
 ·exact i1
 rcases AQ.mp hi with rfl|hi
 ·exact i2
 rcases AQ.mp hi with rfl|hi
 ·exact i3
 ·cases hi
theorem MF(h : H23 Γ ns){a b c : R3}(G : GoodR p a b c) :∀(xs :Ab Ae)(kvs :Ab (Ab Ae × D))(s5 s6 s7 s8 s9 s10 :Sl),(∀ k ∈ xs,0 <= k)->GR p a b c kvs->kvs.length+xs.length <= 100->∃ ρ',Ck (B2 Γ 5 F8) (xs.map D.int) [sh (scr ns),si p,sh (Cz a b c),sh (.lst ((D2 p).map (prX p a b c))),Aa (.dic kvs,Ac),s5,s6,s7,s8,s9,s10] = .next ρ'
 |[], kvs, s5, s6, s7, s8, s9, s10, _, _, _ => ⟨_, rfl⟩
 |k::xs, kvs, s5, s6, s7, s8, s9, s10, hk, hT, hz => by
  have hz' : kvs.length+(xs.length+1) <= 100 := hz;obtain⟨kvs', s5', s6', s7', s8', s9', t1, t2, e⟩ := SZ h G (s5 := s5) (s6 := s6) (s7 := s7) (s8 := s8) (s9 := s9) (s10 := s10) (hk k Au) hT (by omega)
  obtain⟨ρ', ih⟩ := MF h G xs kvs' s5' s6' s7' s8' s9' s10 (fun i hi => hk i (Ar _ hi)) t1 (by omega)
  refine⟨ρ', ?_⟩;rw[<-ih];show (B2 Γ 5 F8 (.int k) _).turn _ = _;rw[e];rfl
theorem MS(h : H23 Γ ns){a b c : R3}(G : GoodR p a b c){S : D}{s3 s4 s5 s6 s7 s8 s9 : Sl} : ∀ xs : Ab R3, (∀ x ∈ xs, NF p x) -> Bp (cG Γ [sh S, si p, sh (Cz a b c), s3, s4, s5, s6, s7, s8, s9, Af] 10 KH) (cF Γ [sh S, si p, sh (Cz a b c), s3, s4, s5, s6, s7, s8, s9, Af] 10 HJ) (xs.map (AA Ac)) = .ok (xs.map (prX p a b c))
 |[], _ => rfl
 |x::xs, hx => by
  have e := h.law p a b c x G (hx x Au);have f : cF Γ [sh S, si p, sh (Cz a b c), s3, s4, s5, s6, s7, s8, s9, Af] 10 HJ (AA Ac x) = .ok (prX p a b c x) := by
   unfold prX;generalize AA Ac (nrm p (ap a b c x)) = Y at *;generalize AA Ac x = X at *;generalize Cz a b c = TT at *;simp[cF, HJ, e]
  have ih := MS h G (S := S) (s3 := s3) (s4 := s4) (s5 := s5) (s6 := s6) (s7 := s7) (s8 := s8) (s9 := s9) xs fun y hy => hx y (Ar _ hy)
  show (R.ok Ac).bind _ = _;rw[R.bind_ok, AF rfl, f, R.bind_ok, show Bp _ _ (List.map _ xs) = _ from ih]
  rfl
theorem Ux(h : H23 Γ ns) : Jc.run Γ [scr ns] = .ok (.bl Ac) := by
 obtain⟨p, hp, e1⟩ := h.prime;obtain⟨RR, a, b, c, e2, e3, G⟩ := h.tab p hp;have e4 : Γ.F 94 [.int p] = .ok (.lst ((D2 p).map (AA Ac))) := h.all p hp;have e5 := MS h G (S := scr ns) (s3 := Af) (s4 := Af) (s5 := Af) (s6 := Af) (s7 := Af) (s8 := Af) (s9 := Af) (D2 p) fun x hx => (JD hp).mp hx
 obtain⟨ρ', e6⟩ := MF h G [0, 1, 2, 3] [] Af Af Af Af Af Af (by decide) (fun q hq => by cases hq) (by decide)
 have rg : Cy 0 4 = .ok [.int 0, .int 1, .int 2, .int 3] := rfl;have e6' : Ck (B2 Γ 5 F8) [.int 0, .int 1, .int 2, .int 3] _ = _ := e6;generalize (D2 p).map (AA Ac) = AL at *;generalize (D2 p).map (prX p a b c) = PL at *;generalize Cz a b c = TT at *;generalize scr ns = S at *;simp[Jc, Df.run, BQ, e1, e2, e3, e4, e5, rg, e6']
end
noncomputable def W8 : Ag -> Ab Ag := fun _ => []
noncomputable def Xh : Ag -> Ab D -> R Ex := fun _ _ => .bad
noncomputable def Q23 : Prg := ⟨Ac, fun
 |1 => JQ
 |9 => Hy
 |17 => HH
 |23 => IM
 |91 => Jb
 |98 => IQ
 |99 => HI
 |100 => G5
 |101 => HB
 |82 => IX
 |93 => G8
 |94 => HP
 |95 => Jd
 |102 => IT
 |84 => IL
 |96 => HN
 |85 => IN
 |86 => IP
 |103 => Jc
 | _ => ⟨0, Ad, .nil⟩, fun _ => .non, W8, Xh⟩
theorem VT(ns : Ab Ae)(hl : ns.length <= 63) : (gam Q23 6).F 103 [scr ns] = .ok (.bl Ac) := by
 have rs : ∀ n, Hl (gam Q23 (n+1)) := fun n p m hp => DD (Tw _ p m hp)
 have mi : ∀ n, Hm (gam Q23 (n+1)) ns := fun n k hk => let ⟨m, m0, e⟩ := Tz _ ns hl k hk;⟨m, m0, DD e⟩
 have tu : ∀ n, Jw (gam Q23 (n+2)) := fun n p m hp z => let ⟨t, t1, t2, t3, e⟩ := Pw (rs n) p m hp z;⟨t, t1, t2, t3, DD e⟩
 have fo : ∀ n, L3 (gam Q23 (n+3)) := fun n p b xs l t hp e it => DD (QU (rs (n+1)) (tu n) hp e it)
 have su : ∀ n, MH (gam Q23 (n+2)) := fun n p t q q' a b c x hp ha hb hc hx => DD (Tv (rs n) p t q q' a b c x hp ha hb hc hx)
 have f2 : ∀ n, Hj (gam Q23 (n+1)) := fun n p b xs l t hp e it => DD (QV _ hp e it)
 have tb : ∀ n, Tk (gam Q23 (n+2)) := fun n p a b c l t hp e it => DD (Rt (f2 n) p a b c l t hp e it)
 have dt : ∀ n, Ij (gam Q23 (n+1)) := fun n q q' a x ha hx => DD (WE _ q q' a x ha hx)
 have pt : ∀ n, JP (gam Q23 (n+1)) := fun n p k hp => DD (Tx _ p k hp)
 have cr : ∀ n, L4 (gam Q23 (n+2)) := fun n a b c ha hb hc n1 n2 n3 => DD (QW (fun a b ha hb ne => DD (Px _ a b ha hb ne)) a b c ha hb hc n1 n2 n3)
 have gF : ∀ n i ds, (gam Q23 (n+1)).F i ds = D1 Ac ((Q23.defs i).run (gam Q23 n) ds) := fun _ _ _ => rfl
 have d94 : Q23.defs 94 = HP := rfl;have d99 : Q23.defs 99 = HI := rfl;have d96 : Q23.defs 96 = HN := rfl;have d101 : Q23.defs 101 = HB := rfl;have h : H23 (gam Q23 5) ns := by
  refine⟨?_, fun p hp => ?_, fun p hp => ?_, fun p a b c x G hx => ?_, fun p xs hx => DD (Qy (fun x => DD (P8 _ x)) p xs hx), pt 4, mi 4, fun p m0 m1 m2 l l' G nl pl z => ?_, f2 4, dt 4⟩
  ·obtain⟨p, hp, e⟩ := Qz (mi 3);exact⟨p, hp, by rw[gF, d101, e];rfl⟩
  ·obtain⟨a, b, c, g, e2⟩ := QT (mi 3) p 5 14 hp (by decide) (by decide) (by decide)
   obtain⟨l, t, el, it, tz, gd, l1⟩ := Pp hp g.nz;exact⟨_, _, _, _, DD e2, tb 3 p a b c l t hp el it, gd⟩
  ·rw[gF, d94, QX (pt 3) p hp];rfl
  ·rw[gF, d96, TB (dt 3) (f2 3) p a b c x G hx];rfl
  ·rw[gF, d99, XF (su 2) (cr 2) (fo 1) G nl pl z];rfl
 exact DD (Ux h)
end OvC
namespace OvC
open PySem PySem.Spec PyProof.Rows Ov L2
variable{l:Dy}
noncomputable def tp23(i : Ag) : Bc := PySem.Challenge.pw_ovalfield_k23_whole_lines_led.main.body.getD i (.Pass ⟨0, 0, 0, 0⟩)
noncomputable def M0 : Ab (Aj × Ag × Ag) := ([("rest", 1, 2), ("turned_over", 9, 2), ("one_form", 17, 2), ("crossed", 23, 2), ("sums_by", 91, 3), ("crossed_rows", 98, 1), ("led_line", 99, 3), ("_law_mixed", 100, 2), ("_law_prime", 101, 1), ("_law_form", 82, 2), ("_law_triple", 93, 2), ("_law_all", 94, 1), ("_law_dot", 95, 2), ("_law_rows", 102, 4), ("_law_table", 84, 2), ("_law_led", 96, 3), ("_law_whole", 85, 1), ("_law_rests", 86, 3), ("law", 103, 1)] : Ab (Aj × Ag × Ag))
noncomputable def Ny : Ab Aj := ["all", "bool", "int", "isinstance", "len", "max", "min", "range", "tuple"]
noncomputable def MU : Ab (Aj × Ag) := []
noncomputable def M2 : Ab (Aj × Ag) := []
noncomputable def M7 : Ab (Aj × Ag) := []
noncomputable abbrev C23(h : An)(ps N : Ab Aj)(i d : Ag) : An := EZ 80 h M0 Ny MU M2 M7 ps N (tp23 i) (Q23.defs d)
theorem Uv : C23 Ad ["p", "n"] ["p", "n"] 6 1 = Ac := by decide +kernel
theorem Uu : C23 Ad ["p", "n"] ["p", "n", "turned"] 7 9 = Ac := by decide +kernel
theorem Ut : C23 Ad ["p", "numbers"] ["p", "numbers", "rests", "first", "factor", "#5", "#6"] 9 17 = Ac := by decide +kernel
theorem Us : C23 Ad ["one", "other"] ["one", "other"] 10 23 = Ac := by decide +kernel
theorem Ur : C23 Ad ["p", "rows", "numbers"] ["p", "rows", "numbers", "#3"] 12 91 = Ac := by decide +kernel
theorem Uq : C23 Ad ["table"] ["table"] 13 98 = Ac := by decide +kernel
theorem Up : C23 Ad ["p", "table", "line"] ["p", "table", "line"] 14 99 = Ac := by decide +kernel
theorem Uo : C23 Ad ["_law_script", "_law_k"] ["_law_script", "_law_k", "_law_cell", "_law_step"] 16 100 = Ac := by decide +kernel
theorem UJ : C23 Ad ["_law_script"] ["_law_script"] 17 101 = Ac := by decide +kernel
theorem UI : C23 Ad ["_law_p", "_law_numbers"] ["_law_p", "_law_numbers", "_law_rests_here", "_law_first", "_law_over", "#5", "#6", "#7", "#8"] 18 82 = Ac := by decide +kernel
theorem Th : C23 Ad ["_law_p", "_law_number"] ["_law_p", "_law_number"] 19 93 = Ac := by decide +kernel
theorem R0 : C23 Ad ["_law_p"] ["_law_p", "#1"] 20 94 = Ac := by decide +kernel
theorem RZ : C23 Ad ["_law_one", "_law_other"] ["_law_one", "_law_other"] 21 95 = Ac := by decide +kernel
theorem RY : C23 Ad ["_law_script", "_law_p", "_law_at", "_law_many"] ["_law_script", "_law_p", "_law_at", "_law_many", "_law_rows_here", "_law_k", "_law_cell", "_law_one", "_law_other", "_law_times", "_law_kept", "_law_here", "_law_there", "#13", "#14"] 22 102 = Ac := by decide +kernel
theorem RX : C23 Ad ["_law_p", "_law_rows_here"] ["_law_p", "_law_rows_here", "_law_numbers"] 23 84 = Ac := by decide +kernel
theorem RW : C23 Ad ["_law_p", "_law_table_here", "_law_point"] ["_law_p", "_law_table_here", "_law_point", "#3"] 24 96 = Ac := by decide +kernel
theorem RV : C23 Ad ["_law_found"] ["_law_found"] 25 85 = Ac := by decide +kernel
theorem RU : C23 Ad ["_law_found", "_law_p", "_law_many"] ["_law_found", "_law_p", "_law_many", "#3"] 26 86 = Ac := by decide +kernel
theorem Mf : C23 Ad ["_law_script"] ["_law_script", "_law_p", "_law_table_here", "_law_points", "_law_told", "_law_k", "_law_line", "_law_found", "_law_point", "_law_goal", "#10"] 27 103 = Ac := by decide +kernel
set_option maxHeartbeats 0 in
theorem all23{w:AJ}{K:Fg}{h:AD}{mg:Aj -> Al Ah}{fa f0 f1 f2 f3 f4 f5 f6 f7 f8 f9 f10 f11 f12 f13 f14 f15 f16 f17 f18:Ai}(X : K.In h)(G : h.Ns AV mg)(hfa : mg "law" = Aa (.ref fa))(a0 : FnI K f0 "rest" (tp23 6))(a1 : FnI K f1 "turned_over" (tp23 7))(a2 : FnI K f2 "one_form" (tp23 9))(a3 : FnI K f3 "crossed" (tp23 10))(a4 : FnI K f4 "sums_by" (tp23 12))(a5 : FnI K f5 "crossed_rows" (tp23 13))(a6 : FnI K f6 "led_line" (tp23 14))(a7 : FnI K f7 "_law_mixed" (tp23 16))(a8 : FnI K f8 "_law_prime" (tp23 17))(a9 : FnI K f9 "_law_form" (tp23 18))(a10 : FnI K f10 "_law_triple" (tp23 19))(a11 : FnI K f11 "_law_all" (tp23 20))(a12 : FnI K f12 "_law_dot" (tp23 21))(a13 : FnI K f13 "_law_rows" (tp23 22))(a14 : FnI K f14 "_law_table" (tp23 23))(a15 : FnI K f15 "_law_led" (tp23 24))(a16 : FnI K f16 "_law_whole" (tp23 25))(a17 : FnI K f17 "_law_rests" (tp23 26))(a18 : FnI K f18 "law" (tp23 27))(z0 : BM K AV "all" = Aa Af)(z1 : BM K AV "bool" = Aa Af)(z2 : BM K AV "int" = Aa Af)(z3 : BM K AV "isinstance" = Aa Af)(z4 : BM K AV "len" = Aa Af)(z5 : BM K AV "max" = Aa Af)(z6 : BM K AV "min" = Aa Af)(z7 : BM K AV "range" = Aa Af)(z8 : BM K AV "tuple" = Aa Af):
    ∃ fd : Bs, (∀(s : Ak)(v : Ah), EC s fd ⟨[v], []⟩ [("_law_script", v)]) /\ ∀ base : AD, K.In base -> base.Ns AV mg -> FnOk l.prog w K mg base (CXR l.prog w) 6 fa fd ["_law_script"] (Hn K) := by
  obtain⟨_, F, e⟩ := a18;obtain⟨_, _, _, _, _, _, _, _, _, rfl, _, _⟩ := F.ex;cases hfa.symm.trans (FE X G e);have T : Tab K mg (fun _ => Af) M0 Ny MU M2 M7 Q23 80 := ⟨Ru fun _ _ => rfl, all_cons (By X G z0) (all_cons (By X G z1) (all_cons (By X G z2) (all_cons (By X G z3) (all_cons (By X G z4) (all_cons (By X G z5) (all_cons (By X G z6) (all_cons (By X G z7) (all_cons (By X G z8) (Jx))))))))), Jx, all_cons (FB 2 1 X G a0 rfl Uv fun _ _ _ _ _ _ _ _ => rfl) (all_cons (FB 2 9 X G a1 rfl Uu fun _ _ _ _ _ _ _ _ => rfl) (all_cons (FB 2 17 X G a2 rfl Ut fun _ _ _ _ _ _ _ _ => rfl) (all_cons (FB 2 23 X G a3 rfl Us fun _ _ _ _ _ _ _ _ => rfl) (all_cons (Iu 3 91 X G a4 rfl Ur fun _ _ _ _ _ _ _ _ _ => rfl) (all_cons (Hs 1 98 X G a5 rfl Uq fun _ _ _ _ _ _ _ => rfl) (all_cons (Iu 3 99 X G a6 rfl Up fun _ _ _ _ _ _ _ _ _ => rfl) (all_cons (FB 2 100 X G a7 rfl Uo fun _ _ _ _ _ _ _ _ => rfl) (all_cons (Hs 1 101 X G a8 rfl UJ fun _ _ _ _ _ _ _ => rfl) (all_cons (FB 2 82 X G a9 rfl UI fun _ _ _ _ _ _ _ _ => rfl) (all_cons (FB 2 93 X G a10 rfl Th fun _ _ _ _ _ _ _ _ => rfl) (all_cons (Hs 1 94 X G a11 rfl R0 fun _ _ _ _ _ _ _ => rfl) (all_cons (FB 2 95 X G a12 rfl RZ fun _ _ _ _ _ _ _ _ => rfl) (all_cons (XD 4 102 X G a13 rfl RY fun _ _ _ _ _ _ _ _ _ _ => rfl) (all_cons (FB 2 84 X G a14 rfl RX fun _ _ _ _ _ _ _ _ => rfl) (all_cons (Iu 3 96 X G a15 rfl RW fun _ _ _ _ _ _ _ _ _ => rfl) (all_cons (Hs 1 85 X G a16 rfl RV fun _ _ _ _ _ _ _ => rfl) (all_cons (Iu 3 86 X G a17 rfl RU fun _ _ _ _ _ _ _ _ _ => rfl) (all_cons (Hs 1 103 X G ⟨_, F, e⟩ rfl Mf fun _ _ _ _ _ _ _ => rfl) (Jx)))))))))))))))))))⟩
  exact⟨_, fun s v => .of_eq rfl, fun base _ _ => R4 (Ml T (JI T 5) F rfl Mf) VT⟩
theorem walk23{q:AC}{loose:Ab Aj}{XP:(Aj -> Al Ah) -> AD -> Prop}{YP:AJ -> AD -> Prop}{d:DefRec}{K:G1 -> Fg}(hn : l.most = Aa 63)(hdf : d.params.defaults = [])(hY : ∀(w : AJ)(h : AD), YP w h -> (K w.params).In h)(F : ∀(w : AJ)(mg : Aj -> Al Ah)(fa : Ai)(h : AD), (K w.params).In h -> h.Ns AV mg -> mg d.name = Aa (.ref fa) ->
   ∃ fd : Bs, (∀(s : Ak)(u : Ah), EC s fd ⟨[u], []⟩ [("_law_script", u)]) /\ ∀ base : AD, (K w.params).In base -> base.Ns AV mg -> FnOk l.prog w (K w.params) mg base (CXR l.prog w) 6 fa fd ["_law_script"] (Hn (K w.params))):OQ q loose XP YP l.row.toRowW d [] (fun f vs =>Gu f vs):=
 L2.walk_of (n := 63) (k := 6) (x := "_law_script") (CX := fun w => CXR l.prog w) (sp := fun w => Hn (K w.params)) hn (by decide) hdf ⟨rfl, by decide, by decide, rfl⟩ hY F (fun _ H a ns hl _ hS => ⟨a, ns, rfl, hl, hS, fun _ _ z => z⟩) fun _ _ _ _ _ z => UC z
end OvC
open PySem PySem.W PyProof.Rows
noncomputable def OvC.view23 : PySem.Program := { PySem.Challenge.pw_ovalfield_k23_whole_lines_led with main := {PySem.Challenge.pw_ovalfield_k23_whole_lines_led.main with body := [OvC.tp23 1, OvC.tp23 2, OvC.tp23 3, OvC.tp23 4, OvC.tp23 6, OvC.tp23 7, OvC.tp23 9, OvC.tp23 10, OvC.tp23 12, OvC.tp23 13, OvC.tp23 14, OvC.tp23 16, OvC.tp23 17, OvC.tp23 18, OvC.tp23 19, OvC.tp23 20, OvC.tp23 21, OvC.tp23 22, OvC.tp23 23, OvC.tp23 24, OvC.tp23 25, OvC.tp23 26, OvC.tp23 27]} }
set_option hygiene false
local macro_rules | `(tactic| o_head $H) => `(tactic| refine holds_open (q := OvC.view23) (loose := []) (Xt := fun s => xlAt OvC.view23 [] s&&recOk (RowW.records (OpenRow.toRowW (PySem.Challenge.rw_ovalfield_k23_whole_lines_led.row))) s) (XP := XL OvC.view23 []) (Yf := Hook.obs $H) (Ya := Hook.val $H) (YP := Hook.says $H) (N := 3010) ?hl (Hook.of $H) (Hook.keeps $H) (fun s e => xl_of s (Bool.and_eq_true_iff.mp e).1) XL.keeps (by rfl) (by rfl) (by rfl) (fun s e => recFacts_of (Bool.and_eq_true_iff.mp e).2) (by rfl) (by first|assumption|decide +kernel) (by decide +kernel) ⟨rfl, rfl, rfl, rfl, rfl, by decide +kernel⟩ ?hw ?hc)
set_option maxRecDepth 100000 in
set_option maxHeartbeats 0 in
theorem PySem.Challenge.cw_ovalfield_k23_whole_lines_led_holds : PySem.Challenge.rw_ovalfield_k23_whole_lines_led.Holds := by
 w_on;refine holds_law (by decide +kernel) fun said => ?_;k_head
 (case hl => intro w;unfold openEnds fencedOpening topFrom;rw[PySem.W.Fast.te10274390034422433532, PySem.W.Fast.te14364793385576792824, PySem.W.Fast.te1435165496053646825, PySem.W.Fast.te14289696077712309145, PySem.W.Fast.te14082659384304107361, PySem.W.Fast.te4187177175401517315];kernel_rfl)
 (case hw => w_witness2)
 k_fill
 refine OvC.walk23 (l := PySem.Challenge.rw_ovalfield_k23_whole_lines_led) rfl rfl (fun w h Y => OS Y) ?F
 case F=>
  intro w mg fa h KX G hmg
  refine' OvC.all23 KX G hmg ?a0 ?a1 ?a2 ?a3 ?a4 ?a5 ?a6 ?a7 ?a8 ?a9 ?a10 ?a11 ?a12 ?a13 ?a14 ?a15 ?a16 ?a17 ?a18 ?z0 ?z1 ?z2 ?z3 ?z4 ?z5 ?z6 ?z7 ?z8
  case a0|a1|a2|a3|a4|a5|a6|a7|a8|a9|a10|a11|a12|a13|a14|a15|a16|a17|a18 => (refine' Ov.fni ?a ?l ?c ?k;(case a => k_is);(case l => k_is);(case c => k_is);(case k => k_is))
  (case z0 => k_is)
  (case z1 => k_is)
  (case z2 => k_is)
  (case z3 => k_is)
  (case z4 => k_is)
  (case z5 => k_is)
  (case z6 => k_is)
  (case z7 => k_is)
  (case z8 => k_is)
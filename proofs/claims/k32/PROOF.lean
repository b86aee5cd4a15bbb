import PyProof.Rows.All
import Wide.All
import OpenK.AllK
import Wide.FinOn
import PyProof.EqAt
import KE.KSortTup
import PyProof.EqKinds
import PyProof.TupleCall
import Lean
import KE.KNest
import KE.KNestM
import PySem.Challenge.RW_ovalfield_k32_values_and_points
set_option Elab.async false
set_option linter.all false
set_option maxRecDepth 100000
set_option maxHeartbeats 4000000
open Option renaming some→Aa,none→Ad,bind_eq_some_iff→AO,isSome_iff_exists→DV,map_some→Q4
open Bool renaming true→Ab,false→Ae,and_eq_true→An,false_ne_true→Aw,not_eq_true'→Bv,or_eq_true→B0,eq_iff_iff→Dg,and_false→D5,false_eq_true→E6,or_false→Fa,and_true→Qz
open _root_ renaming List→Ac,Nat→Af,Int→Aj,Bool→Ak,Option→Ao,if_pos→AD,if_neg→AL,decide_eq_true_eq→AR,False→AV,Array→AW,beq_iff_eq→A5,of_decide_eq_true→Bk,beq_eq_false_iff_ne→Bs,dif_neg→BL,String→Ce,decide_eq_false→Cr,beq_self_eq_true→CF,or_false→Dl,Decidable→EA,not_or→EW,True→FU,Unit→Gf,bne_iff_ne→Gq,if_false→IF,decide_eq_true→bO
open PySem renaming Addr→Ag,Value→Ah,Str→Ai,Shared→Al,Expr→Am,wpAny_bind→Ap,Heap→As,starEach→At,Program→Ay,Pos→Az,Obj→AB,wpAny→AE,mainGlobals→AF,World→AH,Stmt→AJ,Around→AN,wpAny_pure→AY,Scope→Bf,FuncData→Bh,cLine→Bo,mem_of_lookup→Br,cellsFrom→Bt,binaryOp→Bw,assignEach→BB,wpAny_mono→BD,wpAny_field→BH,Env→BM,compareOp→BW,wpAny_truthy_bool→BX,backTo→B2,bootBuiltins→B4,foldedSetIterable→Ca,rawInt→Cn,CmpOp→Co,Keyword→CA,Tok→CB,wpAny_seqItems→CC,builtinsNs→CG,swapsWith→CI,wpAny_setField_rec→CJ,wpAny_holding→CW,NameKind→C8,wpAny_callSpecial?_slot→Db,callerA→De,wpAny_pyIter_list→Dm,BindsTo→Dp,IsPair→Dr,GenState→DA,attributeBase→DL,wpAny_passesOwn→DT,Arguments→DW,wpAny_Call_Name_kw→DY,codeAny→D6,wpAny_setField→D7,wpAny_newObj_type→Eb,keywordEach→Eh,sizeLine_eq→Ei,swappedStores→El,wpAny_onRaise→Em,Operator→Eo,wpAny_call_entry→Ep,PassesOwn→EB,IsZip→EK,codeAny_mono→EM,letOwnedTupleGo→EN,wpAny_updateSeq_pair→EO,pushCells→E8,wpAny_pyIter_tuple→E9,behindInMarks→Fc,swapsWithSole→Fd,wpAny_standAt→Fe,closureFor→Fq,Paired→FA,backToKw→FB,bindArgs→FC,wpAny_execs_cons→FD,pushCells_keeps→FQ,OsState→F3,isTrue→F6,newFunctionEnv→F7,notedBy→F8,pyNext→F9,Drawn→Ga,bindC→Gb,bindL→Gc,call→Gd,call_meets→Ge,Comprehension→Gr,Result→Gw,concat_meets→Gz,lastMarks→GA,noteFrame→GB,preSum→GC,seqIndex_neg→GD,Model→GQ,standAt→GR,seqIndex_of→GV,wpAny_letGo→GW,Params→Hb,qualnameIn→He,sysModules→Hf,wpAny_Name→Hg,wpAny_rule→Hh,UnaryOp→Hi,DefRec→HS,IntMulOk→HU,annTrees→HV,pyIter→HW,call_sum_walkG→Sn,codeAny_call_function→So,firstArgMember→Sq,noFill_tuple_add→Sr,recursionLimit→Su,wpAny_Return_some→Sv,wpAny_assign_Name→Sw,wpAny_comprehension_free→Sy,wpAny_execs_nil→Sz,wpAny_newFunctionEnv_cells→SD,wpAny_pyIter_zip→SF,wpAny_pyNext_list_end→SG,wpAny_pyNext_list_item→SH
open PySem.Heap renaming get?_push_of_some→Aq,lt_size→Au,get?_push_size→AC,size_push→By,get?_update_other→Cd,get?_update_self→CP,SameBut→DX,get?_none_of_le→EJ,ExtBut→FT
open Nat renaming lt_of_lt_of_le→Ar,ne_of_lt→AI,le_refl→AS,lt_irrefl→A8,le_trans→Cc,lt_succ_of_lt→Cs,ble→Cz,le_of_ble_eq_true→CO,lt_succ_self→Dz,le_of_lt→DU,ne_of_gt→EG,pow_le_pow_right→EH,lt_of_le_of_lt→E7,zero_le→FS,le_of_eq→Gv,le_add_right→QY,le_succ→QZ,min_self→Q1,not_lt→Q2,not_lt_zero→Q3
open List renaming size_toArray→Av,mem_cons_of_mem→AG,mem_cons→AK,mem_cons_self→AM,getElem?_eq_some_iff→AT,length_set→AX,mem_append_right→A2,mem_singleton→A6,all_eq_true→Bg,getElem?_set_self→Bm,lookup_cons→BF,not_mem_nil→BG,getElem?_eq_getElem→BJ,length_append→BP,getElem?_set_ne→BS,range→B1,length_map→Cb,length_cons→Cf,mem_range→Ck,append_nil→Cp,filter_cons→Cy,getD_eq_getElem?_getD→CS,getElem?_map→CZ,isEmpty_eq_false_iff→C0,lookup→Dj,all_cons→DJ,map_cons→DK,getElem_of_mem→DM,drop_eq_getElem_cons→DQ,getElem?_append_left→DR,mem_filter→DS,getElem?_set_self'→D8,getElem_mem→En,mem_map→EC,nodup_cons→ED,of_mem_zip→EE,toArray→EF,filterMap_cons→EX,forIn_nil→EY,replicate→EZ,getElem?_set→Fn,all_map→Fx,forIn_cons→FN,map→HQ,any_eq_true→QJ,contains_eq_mem→QK,drop_eq_nil_of_le→QL,ext_getElem?→QM,getElem?_append_right→QN,getElem?_replicate→QO,length_replicate→QP,length_singleton→QQ,mem_append→QR,mem_append_left→QS,mem_of_getElem?→QT,reverse_cons→QU,set_set→QV,zipIdx_cons→QW,zipIdx_nil→QX
open Option.some renaming inj→AQ,injEq→Ea
open Int renaming emod_eq_of_lt→A3,emod_lt_of_pos→Bl,emod_nonneg→Bz,emod_emod_of_dvd→BR,mul_emod→BU,dvd_refl→C5,mul_comm→C7,mul_assoc→Fb,zero_add→Fw,one_mul→FR,sub_zero→Gu,mul_one→GS,mul_pos→GU,add_emod→QC,le_refl→QD,mul_nonneg→QE,mul_zero→QF,natCast_nonneg→QG,toNat_natCast→QH,zero_emod→QI
open PySem.W renaming findIn→Bb,nsIn→Bj,fnOf→Bp,mg_none_of→BA,keepIn→BK,fnMade→BV,CodeHd→B6,emptyDict→B9,instObj→CQ,tabIn→CV,codeIn→C4,tabObj→Dt,OpenLaw→Dy,cellsFrom_some→Ef,fnX→Eg,mg_of→Ek,methodObj→Fo,specialIn→Fp,findCls→FO,readsIn→FP,lookIn→F4,typeIn→F5,WalkO→Gs,codeRec_of→Sg,kitOne→Sh,plainGet→Si,subIn→Sj
open PySem.Builtin.SmallTypes renaming nextOf→Bc,ownedTupleIsFree→B5,ownedTupleHandOut→Rc
open PySem.NameKind renaming cell→Bi,free→CU
open False renaming elim→BQ
open PySem.Obj renaming data_mapFields→Cm,isFreed_of_fields→Ds,mapFields→Ej,mapSeq→EL,cls_mapFields→RW
open PySem.Builtin.List renaming listTooLong→Cq
open PySem.F renaming plainAttrs_list→Cv,slot_tuple_iterator_next→CT,slot_list_extend→Dq,slot_list_count→D9,slot_zip_next→EI,args_list_extend_2→RH,args_tuple_add_2→RI,args_tuple_iterator_next_1→RJ,args_zip_next_1→RK,entry_list_extend→RM,entry_tuple_add→RN,entry_tuple_iterator_next→RO,entry_zip_next→RP,slot_tuple_add→RQ,type_list_count→RS,type_list_extend→RT
open PyProof.Rows renaming envOfC→Cw,callWith_type1→CH,AllBare→Do,IntsAre→Fs,IsTup→HP,boot_list→Q6,boot_tuple→Q7,subscriptTail_builtinR→Q8
open Classical renaming choose_spec→CN,byContradiction→QA,choose→QB
open PySem.Value renaming none→C1,ref→Gy,bool→Hd,int→Sc,str→Sd
open Ne renaming symm→Dd
open ForInStep renaming yield→Dh
open PySem.SeqAt renaming EqAt→Di,RcNeAt→Gx,RcAt→Hc
open Sum renaming inl→Ft,inr→Fu
open Prod renaming ext→GX
open NeZero renaming ne→HM
open PySem.Data renaming cell→HN,seq→HR
open Array renaming length_toList→Qx,toList→Qy
open PyProof.Rows.IsTup renaming new→Q5
open PySem.Around renaming frames_deeper→Q9
open PySem.AutoSeq1 renaming wpAny_loadPart'→Ra
open PySem.Builtin.Int renaming intBits→Rb
open PySem.Calls renaming Name_function_global→Re
open PySem.EntryCells renaming newEntry→Rg
open PySem.Expr renaming Attribute→Rh,BinOp→Rj,BoolOp→Rl,Call→Rn,Compare→Rr,Constant→Rt,List→Rv,ListComp→Rx,Name→Rz,Subscript→RB,Tuple→RD,UnaryOp→RF
open PySem.Expr.Attribute renaming elim→Ri
open PySem.Expr.BinOp renaming elim→Rk
open PySem.Expr.BoolOp renaming elim→Rm
open PySem.Expr.Call renaming elim→Ro
open PySem.Expr.Compare renaming elim→Rs
open PySem.Expr.Constant renaming elim→Ru
open PySem.Expr.List renaming elim→Rw
open PySem.Expr.ListComp renaming elim→Ry
open PySem.Expr.Name renaming elim→RA
open PySem.Expr.Subscript renaming elim→RC
open PySem.Expr.Tuple renaming elim→RE
open PySem.Expr.UnaryOp renaming elim→RG
open PySem.Heap.SameBut renaming refl→RU,update→RV
open PySem.Paired renaming length→RX
open PySem.SeqAt.EqAt renaming of_refs→RY,same→RZ
open PySem.Shared renaming heap→R0
open PySem.Stmt renaming Assign→R4,Expr→R6,Return→Sa
open PySem.Stmt.Assign renaming elim→R5
open PySem.Stmt.Expr renaming elim→R7
open PySem.Stmt.For renaming elim→R8
open PySem.Stmt.If renaming elim→R9
open PySem.Stmt.Return renaming elim→Sb
open PySem.W.WData renaming int→Se
open PySem.W.WShape renaming has→Sf
open PySem.Walks renaming list→Sk
abbrev Fg:=PySem.W.Frag
set_option genSizeOfSpec false
-- CHANGE: your row's module here, as the last of these rows
namespace L2
open PySem PySem.Spec PyProof.Rows
noncomputable abbrev Key:=Sum Aj Ai
noncomputable def Pw:Key->Ah->Ak
 |.inl k,v=>Value.isInt k v
 |.inr x,v=>Value.isStrOf x v
noncomputable def bH(w:AH):Key->Aj
 |.inl k=>hashInt k
 |.inr x=>hashStr w x
theorem Gi : ∀{k:Key}{v:Ah},Pw k v=Ab->(∃ i t,k=Ft i/\v=Sc i t)\/(∃ x t,k=Fu x/\v=Sd x t)
 |.inl i,v,h=>by
  obtain⟨t,e⟩:=Value.isInt_shape (k:=i) (v:=v) h;exact .inl ⟨i,t,rfl,e⟩
 |.inr x,v,h=>by
  obtain⟨t,e⟩:=Value.isStrOf_shape (x:=x) (v:=v) h;exact .inr ⟨x,t,rfl,e⟩
theorem Yg(a b:Aj):decide ((Ft a:Key)=Ft b)=(a==b):=by
 by_cases e:a=b
 .subst e;simp
 .have h : ¬ (Ft a:Key)=Ft b:=λq=>e (Sum.inl.inj q)
  rw[Cr h];exact(Bs.mpr e).symm
theorem Yc(a b:Ai):decide ((Fu a:Key)=Fu b)=decide (a=b):=by
 by_cases e:a=b
 .subst e;simp
 .have h : ¬ (Fu a:Key)=Fu b:=λq=>e (Sum.inr.inj q)
  rw[Cr h,Cr e]
theorem Ye(a:Aj)(b:Ai):decide ((Ft a:Key)=Fu b)=Ae:=Cr (λq=>nomatch q)
theorem Yd(a:Ai)(b:Aj):decide ((Fu a:Key)=Ft b)=Ae:=Cr (λq=>nomatch q)
noncomputable def Lb(prog:Ay)(w:AH):PySem.KeyKind prog w Key where
 is:=Pw
 hash:=bH w
 inj:=λv a b ha hb=>by
  rcases Gi ha with ⟨i,t,rfl,rfl⟩|⟨x,t,rfl,rfl⟩
  .rcases Gi hb with ⟨j,u,rfl,e⟩|⟨y,u,rfl,e⟩
   .injection e with e1 _;rw[e1]
   .exact nomatch e
  .rcases Gi hb with ⟨j,u,rfl,e⟩|⟨y,u,rfl,e⟩
   .exact nomatch e
   .injection e with e1 _;rw[e1]
 byValue:=λk v h=>by
  rcases Gi h with ⟨i,t,rfl,rfl⟩|⟨x,t,rfl,rfl⟩ <;> rfl
 pyHash:=λhv h=>by
  rcases Gi hv with ⟨i,t,rfl,rfl⟩|⟨x,t,rfl,rfl⟩
  .exact wpAny_pyHash_int h
  .exact wpAny_pyHash_str h
 eqBool:=λhu hv h=>by
  rcases Gi hu with ⟨i,t,rfl,rfl⟩|⟨x,t,rfl,rfl⟩
  .rcases Gi hv with ⟨j,u,rfl,rfl⟩|⟨y,u,rfl,rfl⟩
   .rw[Yg]at h;exact wpAny_eqBool_int h
   .rw[Ye]at h;exact SeqAt.EqAt.int_str i t y u _ _ _ _ h
  .rcases Gi hv with ⟨j,u,rfl,rfl⟩|⟨y,u,rfl,rfl⟩
   .rw[Yd]at h;exact SeqAt.EqAt.str_int x t j u _ _ _ _ h
   .rw[Yc]at h;exact wpAny_eqBool_str h
 «strs» := λk x t v h=>by
  rcases Gi h with ⟨i,u,rfl,e⟩|⟨y,u,rfl,e⟩
  .exact nomatch e
  .injection e with e1 _
   subst e1;cases v <;> rfl
end L2
namespace L2
open PySem PySem.Spec PyProof.Rows
variable{us:Ac Ah}{a b it dx:Ag}{P:Ay}{h:As}{o:AB}{g':AW DA}{t' i j k n:Af}{d':Ga}{ch fp:Ac Ag}{x qual:Ai}{M:GQ}{u:Ah}{Q:Gf->Al->Prop}{e tg:Am}{s:Al}{pos:Az}{pI:Ac (Ag × AB)}{es:Ac Am}{body:Ac AJ}{f:Ah->Ah->Sem Ah}{g:Aj->Aj->Aj}{op op':Co}{mA:Ai->Ao Ah}{fd:Bh}{ps:Ac Ai}{scope:Bf}
inductive V where
 |non|bl (b:Ak)|int (i:Aj)|str (x:Ai)|byt (b:AW UInt8)|flt (b:UInt64)|ref (a:Ag)|ty (n:Ce)
 deriving DecidableEq
variable{xs vs:Ac V}{v y:V}
def A7:V->Ah->Prop
 |.non,u=>u=C1
 |.bl b,u=>u=Hd b
 |.int i,u => ∃ t,u=Sc i t
 |.str x,u => ∃ t,u=Sd x t
 |.byt b,u => ∃ t,u=Value.bytes b t
 |.flt b,u => ∃ t,u=Value.float b t
 |.ref a,u=>u=Gy a
 |.ty n,u=>u=Value.type n
noncomputable abbrev AU:Ac V->Ac Ah->Prop:=FA A7
theorem AU.length(r:AU xs us):xs.length=us.length:=RX r
theorem AU.get : ∀{xs:Ac V}{us:Ac Ah}{i:Af}{x:V},AU xs us->xs[i]? = Aa x -> ∃ u,us[i]? = Aa u/\A7 x u
 |_,_,_,_,.nil,e=>by simp at e
 |_,_,0,_,.cons r _,e=>by simp at e;subst e;exact⟨_,rfl,r⟩
 |_,_,i+1,x,.cons _ t,e=>by
  obtain⟨u,h1,h2⟩:=AU.get (i:=i) (x:=x) t (by simpa using e)
  exact⟨u,by simpa using h1,h2⟩
theorem AU.set{x:V}{u:Ah}(r:A7 x u) : ∀{xs:Ac V}{us:Ac Ah}(i:Af),AU xs us->AU (xs.set i x) (us.set i u)
 |_,_,_,.nil => .nil
 |_,_,0,.cons _ t => .cons r t
 |_,_,i+1,.cons q t => .cons q (AU.set r i t)
theorem AU.append : ∀{xs ys:Ac V}{us ws:Ac Ah},AU xs us->AU ys ws->AU (xs++ys) (us++ws)
 |_,_,_,_,.nil,s=>s
 |_,_,_,_,.cons r t,s => .cons r (AU.append t s)
theorem AU.take : ∀{xs:Ac V}{us:Ac Ah}(n:Af),AU xs us->AU (xs.take n) (us.take n)
 |_,_,0,_ => .nil
 |_,_,_+1,.nil => .nil
 |_,_,n+1,.cons r t => .cons r (AU.take n t)
theorem AU.drop : ∀{xs:Ac V}{us:Ac Ah}(n:Af),AU xs us->AU (xs.drop n) (us.drop n)
 |_,_,0,r=>r
 |_,_,_+1,.nil => .nil
 |_,_,n+1,.cons _ t=>AU.drop n t
def Qj:Ao V->Ao Ah->Prop
 |some v,Aa u=>A7 v u
 |none,Ad=>FU
 |_,_=>AV
noncomputable def KV{κ:Type}:Ac (κ × V)->Ac (κ × Ah)->Prop:=FA fun(p:κ × V)(q:κ × Ah)=>p.1=q.1/\A7 p.2 q.2
noncomputable def kV:Key->V
 |.inl i => .int i
 |.inr x => .str x
inductive HO where
 /-- a list -/
 |lst (xs:Ac V)
 /-- a tuple (never changes) -/
 |tup (xs:Ac V)
 /-- a dict whose keys are ints and texts;one whose keys are tuples of ints and texts (the empty one is both) -/
 |dK (kvs:Ac (Key × V))|dT (kvs:Ac (Ac Key × V))
 /-- a set of ints: its members, its size -/
 |set (S:Aj->Ak) (n:Af)
 /-- an instance of the class at C, its dict at dx, its attributes -/
 |ins (C dx:Ag) (fs:Ac (Ai × V))
 /-- the dict of the instance at x -/
 |own (x:Ag)
 /-- the dict of an exception -/
 |xd (fs:Ac (Ai × V))
 /-- a bound method, f of x -/
 |met (f x:Ag)
 /-- a range object lo, lo+1, .. below hi -/
 |rng (lo hi:Aj)
 /-- a thing that is known to the object (the script;a dict while a loop walks it): read, never written while it is so -/
 |frz (o:AB) (u:HO)
 /-- a code object's table -/
 |tbl (ps:AW Ah)
 /-- any other thing, by what is Ab of its one object (a def of one's own: SetO a S n := HO.ext fun h => ..) -/
 |ext (φ:As->Prop)
noncomputable abbrev Hp:=Ag->Ao HO
variable{H:Hp}
noncomputable def upd(H:Hp)(a:Ag)(o:HO):Hp:=λb=>if b=a then Aa o else H b
theorem DZ{o:HO}:upd H a o a=Aa o:=by unfold upd;rw[AD rfl]
theorem Bq{o:HO}(h:b≠a):upd H a o b=H b:=by unfold upd;rw[AL h]
theorem Eu{o:HO}(h:H a=Aa o)(h':H b=Ad):a≠b:=by
 intro e;subst e;rw[h]at h';cases h'
section
variable(P:Ay)(w:AH)
def ObjOk(H:Hp)(h:As)(a:Ag):HO->Prop
  |.lst xs=>xs.length<=sizeLine /\ ∃(its:Ac Ah)(n:Af),AU xs its/\h.get? a=Aa { cls := .type "list",data := .seq its.toArray n }
  |.tup xs=>xs.length<=sizeLine /\ ∃ its:Ac Ah,AU xs its/\HP h a its.toArray
  |.dK kvs=>kvs.length<=sizeLine/\(a==Hf)=Ae /\ ∃ vs,KV kvs vs/\h.DictOf (Lb P w) a vs
  |.dT kvs=>kvs.length<=sizeLine/\(a==Hf)=Ae /\ ∃ xs:Ac (Ac Key × Ag × Ah),
      FA (fun(p:Ac Key × V)(q:Ac Key × Ag × Ah)=>p.1=q.1/\H q.2.1=Aa (.tup (p.1.map kV))/\A7 p.2 q.2.2) kvs xs /\
      ∃ o es ep,h.get? a=Aa o/\o.ExactDict/\o.data = .dict es ep/\es.toList=xs.map (entryOfKey (tupleKind (Lb P w)))/\(xs.map (·.1)).Nodup
  |.set S n=>h.SetOf (intKind P w) a S n
  |.ins C dx fs=>H dx=Aa (.own a)/\fs.length<=1000/\dx≠a/\h.get? a=Aa (CQ C dx) /\
      ∃ mA,h.Ns1 dx mA/\(∀ f,Qj (fs.lookup f) (mA f))/\PySem.Within mA (fs.map (·.1))
  |.own _ => ∃ o,h.get? a=Aa o
  |.xd fs => ∃ mA,h.Ns1 a mA /\ ∀ f,Qj (fs.lookup f) (mA f)
  |.rng lo hi => ∃ t u v,h.get? a=Aa { cls := .type "range",data := .fields #[.int lo t,.int hi u,.int 1 v] }
  |.frz o u=>h.get? a=Aa o/\ObjOk H h a u
  |.tbl ps=>h.get? a=Aa {cls := .none,data := .fields ps}
  |.met f x=>h.get? a=Aa (Fo (.ref f) (.ref x))
  |.ext φ=>φ h/\(∃ o,h.get? a=Aa o) /\ ∀ h1 h2:As,φ h1->(∀ o,h1.get? a=Aa o->h2.get? a=Aa o)->φ h2
noncomputable def HOk(H:Hp)(h:As):Prop := ∀ a o,H a=Aa o->ObjOk P w H h a o
end
section
variable{P:Ay}{w:AH}{H H':Hp}{h h':As}{a:Ag}{o:HO}
theorem ObjOk.lt(x:ObjOk P w H h a o):a<h.objs.size:=by
 cases o with
 |lst xs=>obtain⟨_,_,_,_,e⟩:=x;exact Au e
 |tup xs=>obtain⟨_,_,_,p⟩:=x;exact p.lt
 |dK kvs=>obtain⟨_,_,_,_,o,_,_,e,_⟩:=x;exact Au e
 |dT kvs=>obtain⟨_,_,_,_,o,_,_,e,_⟩:=x;exact Au e
 |set S n=>obtain⟨o,_,_,_,e,_⟩:=x;exact Au e
 |ins C dx fs=>obtain⟨_,_,_,e,_⟩:=x;exact Au e
 |own y=>obtain⟨_,e⟩:=x;exact Au e
 |xd fs=>obtain⟨_,⟨_,_,_,e,_⟩,_⟩:=x;exact Au e
 |rng lo hi=>obtain⟨_,_,_,e⟩:=x;exact Au e
 |frz ob u=>obtain⟨e,_⟩:=x;exact Au e
 |tbl ps=>exact Au (show h.get? a=Aa _ from x)
 |met f y=>exact Au (show h.get? a=Aa _ from x)
 |ext φ=>obtain⟨_,⟨_,e⟩,_⟩:=x;exact Au e
theorem FA.mapP{α β:Type}{F G:α->β->Prop} : ∀{l₁:Ac α}{l₂:Ac β},FA F l₁ l₂->(∀ a b,F a b->G a b)->FA G l₁ l₂
 |_,_,.nil,_ => .nil
 |_,_,.cons r t,f => .cons (f _ _ r) (FA.mapP t f)
theorem ObjOk.stay(x:ObjOk P w H h a o)(k : ∀ b u,(b=a\/H b=Aa (.own a))->h.get? b=Aa u->h'.get? b=Aa u)(ho : ∀ b,H b=Aa (.own a)->H' b=Aa (.own a))(ht : ∀ b xs,H b=Aa (.tup xs)->H' b=Aa (.tup xs)):ObjOk P w H' h' a o:=by
 induction o with
 |lst xs=>obtain⟨z,its,n,r,e⟩:=x;exact⟨z,its,n,r,k _ _ (.inl rfl) e⟩
 |tup xs=>obtain⟨z,its,r,ob,e,c⟩:=x;exact⟨z,its,r,ob,k _ _ (.inl rfl) e,c⟩
 |dK kvs=>obtain⟨z,y,vs,r,ob,es,ep,e,c⟩:=x;exact⟨z,y,vs,r,ob,es,ep,k _ _ (.inl rfl) e,c⟩
 |dT kvs=>
  obtain⟨z,y,xs,r,ob,es,ep,e,c⟩:=x;exact⟨z,y,xs,FA.mapP r λp q z=>⟨z.1,ht _ _ z.2.1,z.2.2⟩,ob,es,ep,k _ _ (.inl rfl) e,c⟩
 |set S n=>obtain⟨ob,es,ep,t,e,c⟩:=x;exact⟨ob,es,ep,t,k _ _ (.inl rfl) e,c⟩
 |ins C dx fs=>
  obtain⟨d,z,ne,e,mA,⟨od,es,ep,e2,c⟩,r⟩:=x;exact⟨ho _ d,z,ne,k _ _ (.inl rfl) e,mA,⟨od,es,ep,k _ _ (.inr d) e2,c⟩,r⟩
 |own y=>obtain⟨ob,e⟩:=x;exact⟨ob,k _ _ (.inl rfl) e⟩
 |xd fs=>obtain⟨mA,⟨od,es,ep,e,c⟩,r⟩:=x;exact⟨mA,⟨od,es,ep,k _ _ (.inl rfl) e,c⟩,r⟩
 |rng lo hi=>obtain⟨t,u,v,e⟩:=x;exact⟨t,u,v,k _ _ (.inl rfl) e⟩
 |frz ob u ih=>obtain⟨e,q⟩:=x;exact⟨k _ _ (.inl rfl) e,ih q⟩
 |tbl ps=>
  have e:h.get? a=Aa {cls := .none,data := .fields ps}:=x;show h'.get? a=Aa {cls := .none,data := .fields ps};exact k a _ (.inl rfl) e
 |met f y=>
  have e:h.get? a=Aa (Fo (.ref f) (.ref y)):=x;show h'.get? a=Aa (Fo (.ref f) (.ref y));exact k a _ (.inl rfl) e
 |ext φ=>obtain⟨p,⟨o,e⟩,st⟩:=x;exact⟨st _ _ p λo q=>k _ _ (.inl rfl) q,⟨o,k _ _ (.inl rfl) e⟩,st⟩
theorem HOk.lt(x:HOk P w H h)(e:H a=Aa o):a<h.objs.size:=(x a o e).lt
theorem HOk.fresh(x:HOk P w H h)(e:h.objs.size<=a):H a=Ad:=by
 cases q:H a with
 |none=>rfl
 |some u=>exact absurd (Ar (x.lt q) e) (A8 _)
theorem HOk.kept(x:HOk P w H h)(k : ∀ b u,h.get? b=Aa u->h'.get? b=Aa u):HOk P w H h':=λa o e=>
 (x a o e).stay (λb u _ q=>k b u q) (λ_ q=>q) λ_ _ q=>q
theorem HOk.laid(x:HOk P w H h)(k : ∀ b u,h.get? b=Aa u->h'.get? b=Aa u)(hp:h.objs.size<=a)(new:ObjOk P w (upd H a o) h' a o):HOk P w (upd H a o) h':=λb u e=>by
 have hn:=x.fresh hp;by_cases hb:b=a
 .subst hb;rw[DZ]at e;cases e;exact new
 .rw[Bq hb]at e;exact(x b u e).stay (λc v _ q=>k c v q) (λc q=>by rw[Bq (Eu q hn)];exact q) λc xs q=>by rw[Bq (Eu q hn)];exact q
end
noncomputable def Rd(H:Hp)(a:Ag)(u:HO):Prop:=H a=Aa u \/ ∃ o,H a=Aa (.frz o u)
theorem Rd.ok{w:AH}{u:HO}(r:Rd H a u)(x:HOk P w H h):ObjOk P w H h a u:=by
 rcases r with r|⟨o,r⟩
 .exact x a u r
 .obtain⟨_,q⟩:=x a _ r;exact q
def Mut:Ao HO->Prop
 |some (.lst _)=>FU
 |some (.dK _)=>FU
 |some (.dT _)=>FU
 |some (.set _ _)=>FU
 |some (.ins _ _ _)=>FU
 |some (.ext _)=>FU
 |_=>AV
section
variable{P:Ay}{w:AH}{H:Hp}{h h':As}{x e:Ag}{o':HO}
theorem HOk.write(ok:HOk P w H h)(mu:Mut (H x))(he:e=x\/H e=Aa (.own x))(k : ∀ b u,b≠e->h.get? b=Aa u->h'.get? b=Aa u)(heo : ∃ u,h'.get? e=Aa u)(new:ObjOk P w (upd H x o') h' x o'):HOk P w (upd H x o') h':=λb u q=>by
 have nown : ∀ c y,H c=Aa (.own y)->c≠x:=λc y r z=>by subst z;rw[r]at mu;exact mu
 have ntup : ∀ c xs,H c=Aa (.tup xs)->c≠x:=λc xs r z=>by subst z;rw[r]at mu;exact mu
 by_cases hb:b=x
 .subst hb;rw[DZ]at q;cases q;exact new
 .rw[Bq hb]at q;by_cases hbe:b=e
  .have q':H b=Aa (.own x):=by
    rcases he with z|z
    .exact absurd (hbe.trans z) hb
    .rw[hbe];exact z
   rw[q]at q';cases q';obtain⟨v,hv⟩:=heo;exact⟨v,by rw[hbe];exact hv⟩
  .refine(ok b u q).stay (λc v hc r=>k c v ?_ r) (λc r=>by rw[Bq (nown c b r)];exact r) λc xs r=>by rw[Bq (ntup c xs r)];exact r
   rcases hc with rfl|hc
   .exact hbe
   .rintro rfl;rcases he with z|z
    .exact nown c b hc z
    .rw[hc]at z;cases z;exact hb rfl
end
structure Un (fs ex:Ac Ag) (H H':Hp) (h h':As):Prop where
 keep : ∀ b o,h.get? b=Aa o->H b=Ad->b ∉ fs->b ∉ ex->h'.get? b=Aa o
 slot : ∀ b o,h.get? b=Aa o->H b=Ad->b∈fs->b ∉ ex -> ∃ sl,h'.get? b=Aa {o with slots:=sl}
 free : ∀ b o,h.get? b=Aa o->H b=Ad->b ∉ ex->H' b=Ad
 there : ∀ b o,h.get? b=Aa o->b ∉ ex -> ∃ o',h'.get? b=Aa o'
 tups : ∀ b xs,H b=Aa (.tup xs)->H' b=Aa (.tup xs)
 frzs : ∀ b o u,H b=Aa (.frz o u)->H' b=Aa (.frz o u)
 tbls : ∀ b ps,H b=Aa (.tbl ps) -> ∃ more,H' b=Aa (.tbl (ps++more))
section
variable{fs fs' ex ex':Ac Ag}{H H1 H2:Hp}{h h1 h2 h':As}{a x e:Ag}{o:HO}
theorem Un.any(u:Un fs ex H H1 h h1){ob:AB}(q:h.get? b=Aa ob)(n:H b=Ad)(hx:b ∉ ex) : ∃ sl,h1.get? b=Aa {ob with slots:=sl}:=by
 by_cases hb:b∈fs
 .exact u.slot b ob q n hb hx
 .exact⟨ob.slots,u.keep b ob q n hb hx⟩
theorem Un.kept(k : ∀ b u,h.get? b=Aa u->h'.get? b=Aa u):Un fs ex H H h h':=
 ⟨λb ob q _ _ _=>k b ob q,λb ob q _ _ _=>⟨ob.slots,k b ob q⟩,λ_ _ _ n _=>n,λb ob q _=>⟨ob,k b ob q⟩,λ_ _ q=>q,λ_ _ _ q=>q,λ_ ps q=>⟨#[],by rw[q];simp⟩⟩
theorem Un.refl:Un fs ex H H h h:=Un.kept λ_ _ q=>q
theorem Un.laid(k : ∀ b u,h.get? b=Aa u->h'.get? b=Aa u)(hp:h.objs.size<=a)(hn:H a=Ad):Un fs ex H (upd H a o) h h' where
 keep:=λb u q _ _ _=>k b u q
 slot:=λb u q _ _ _=>⟨u.slots,k b u q⟩
 free:=λb u q n _=>by rw[Bq (AI (Ar (Au q) hp))];exact n
 there:=λb u q _=>⟨u,k b u q⟩
 tups:=λb xs q=>by rw[Bq (Eu q hn)];exact q
 frzs:=λb u xs q=>by rw[Bq (Eu q hn)];exact q
 tbls:=λb ps q=>⟨#[],by rw[Bq (Eu q hn),q];simp⟩
theorem Un.write(mu:Mut (H x))(he:e=x\/H e=Aa (.own x))(k : ∀ b u,b≠e->h.get? b=Aa u->h'.get? b=Aa u)(heo : ∃ u,h'.get? e=Aa u):Un fs ex H (upd H x o) h h':=by
 have hx : ∀ b,H b=Ad->b≠x:=λb n z=>by subst z;rw[n]at mu;exact mu
 have hb : ∀ b,H b=Ad->b≠e:=λb n z=>by
  subst z;rcases he with r|r
  .exact hx b n r
  .rw[n]at r;cases r
 have hm : ∀ b u,H b=Aa u -> ¬ Mut (Aa u)->b≠x:=λb u q nm z=>by subst z;rw[q]at mu;exact nm mu
 refine⟨λb u q n _ _=>k b u (hb b n) q,λb u q n _ _=>⟨u.slots,k b u (hb b n) q⟩,λb u q n _=>by rw[Bq (hx b n)];exact n,λb u q _ => ?_,
  λb xs q=>by rw[Bq (hm b _ q λz=>z)];exact q,λb u xs q=>by rw[Bq (hm b _ q λz=>z)];exact q,λb ps q=>⟨#[],by rw[Bq (hm b _ q λz=>z),q];simp⟩⟩
 by_cases hbe:b=e
 .subst hbe;exact heo
 .exact⟨u,k b u hbe q⟩
end
noncomputable def trk(h:As)(H:Hp):Ac Ag:=(B1 h.objs.size).filter λa=>(H a).isSome
noncomputable def Ed(h:As)(H:Hp):As:=PySem.W.hideAll h (trk h H)
theorem MZ(h:As)(H:Hp):(Ed h H).objs.size=h.objs.size:=PySem.W.hideAll_size _ _
theorem Ng(e:h.get? b=Aa o)(n:H b=Ad):(Ed h H).get? b=Aa o:=
 PySem.W.hideAll_get _ e λhm=>by
  have q:(H b).isSome=Ab:=(DS.mp hm).2;rw[n]at q;simp at q
theorem Ol(e:(Ed h H).get? b=Aa o):h.get? b=Aa o/\H b=Ad:=by
 have e':h.get? b=Aa o:=PySem.W.of_hideAll (trk h H) e;refine⟨e',?_⟩;cases q:H b with
 |none=>rfl
 |some x=>
  have hm:b∈trk h H:=DS.mpr ⟨Ck.mpr (Au e'),by simp[q]⟩
  have z:(Ed h H).get? b=Ad:=PySem.W.hideAll_none (trk h H) hm;rw[z]at e;cases e
noncomputable def WL(g h:As)(L:Ag):Ac (Ag × AB):=(B1 h.objs.size).filterMap λa=>if a=L\/(g.get? a).isSome=Ab then Ad else (h.get? a).map λo=>(a,o)
noncomputable def rest(g h:As)(L d:Ag):Ac (Ag × AB):=(WL g h L).filter λp=>decide (p.1≠d)
structure Mod (K:Fg) (mg:Ai->Ao Ah) (base:As):Prop where
 kin:K.In base
 glob:base.Ns AF mg
 blt : ∃ mb,base.Ns CG mb /\ ∀ x:Ai,x ≠ "__name__" -> mb x=B4 x
 nolimit:base.NoLimit
structure Cx where
 prog:Ay
 w:AH
 K:Fg
 mg:Ai->Ao Ah
 base:As
 A:AN
 N:Ac Ai
 s₀:Al
 H₀:Hp
 env:BM
 outer:Ac BM
 stack:Ac BM
 ex:Ac Ag
 fn:Ai->Ak
 calm:Ak
 pn:Ac (Ag × AB)
 xe:Ah->Al->Prop
variable{X:Cx}
noncomputable def frs(l:Ac BM):Ac Ag:=l.filterMap (·.frame)
noncomputable abbrev Cx.fs(X:Cx):Ac Ag:=frs X.outer
noncomputable def Vis(sc:Bf)(x:Ai):Prop:=sc.names.lookup x=Aa .local\/sc.names.lookup x=Aa .cell\/sc.names.lookup x=Aa .free
noncomputable def Loc(sc:Bf)(x:Ai):Prop:=sc.names.lookup x=Aa .local\/sc.names.lookup x=Aa .cell
noncomputable def aX(env:BM)(h:As)(m:Ai->Ao Ah)(x:Ai)(u:Ah):Prop:=
 (env.kindOf x=Aa .local/\m x=Aa u)\/((env.kindOf x=Aa .cell\/env.kindOf x=Aa .free) /\ ∃ c,env.cells.lookup x=Aa c/\h.IsCell c (Aa u))
structure Cx.Ok (X:Cx):Prop where
 mod:Mod X.K X.mg X.base
 kind:X.env.scope.kind = .function
 glob:X.env.globals=AF
 blt:X.env.builtins=CG
 above:X.s₀.heap.objs.size<=X.env.locals
 inj : ∀ x y c,X.env.cells.lookup x=Aa c->X.env.cells.lookup y=Aa c->x=y
 has : ∀ x,(X.env.kindOf x=Aa .cell\/X.env.kindOf x=Aa .free) -> ∃ c,X.env.cells.lookup x=Aa c
 cab : ∀ x c,X.fn x=Ab->X.env.cells.lookup x=Aa c->X.s₀.heap.objs.size<=c
 hd:X.calm=Ab->X.A.handled=Ad
 frames:X.A.frames=Aa X.stack
 stk:X.stack=X.outer\/(X.stack=X.env::X.outer/\X.env.frame=Aa X.env.locals)
 exf : ∀ b∈X.ex,b≠X.env.locals /\ ∀ x c,X.env.cells.lookup x=Aa c->c≠b
 bs : ∀ b o,X.base.get? b=Aa o->X.s₀.heap.get? b=Aa o/\X.H₀ b=Ad
 bsz:X.base.objs.size<=X.s₀.heap.objs.size
 noex : ∀ b o,X.base.get? b=Aa o->b ∉ X.ex
 exfs : ∀ b∈X.ex,b ∉ X.fs
 funs:X.s₀.heap.FunFrames X.base X.outer
 frf : ∀ b∈X.fs,X.H₀ b=Ad
structure Inv (X:Cx) (pI:Ac (Ag × AB)) (Y:Ac (Ao V)) (H:Hp) (s:Al):Prop where
 ok:X.Ok
 os:s.os=X.s₀.os
 bare:Do s.gens
 base:Un X.fs X.ex X.H₀ H X.s₀.heap s.heap
 loc : ∃ m,s.heap.Ns X.env.locals m /\ ∀(i:Af)(x:Ai)(v:V),X.N[i]? = Aa x->Y[i]? = Aa (Aa v)->Vis X.env.scope x -> ∃ u,A7 v u/\aX X.env s.heap m x u
 cell : ∀ x c,X.env.cells.lookup x=Aa c -> ∃ v,s.heap.IsCell c v
 free:H X.env.locals=Ad
 freeC : ∀ x c,X.env.cells.lookup x=Aa c->H c=Ad
 pin : ∀ p∈X.pn++pI,s.heap.get? p.1=Aa p.2/\H p.1=Ad/\p.1≠X.env.locals/\p.1 ∉ X.fs /\ ∀ v,p.2.data ≠ .cell v
 hok:HOk X.prog X.w H s.heap
 len:Y.length=X.N.length
section
variable{X:Cx}{pI:Ac (Ag × AB)}{Y:Ac (Ao V)}{H H':Hp}{s:Al}{h':As}
theorem Cx.Ok.nofr(ok:X.Ok)(e:X.base.get? b=Aa o):b ∉ X.fs:=λhb=>by
 have:=(ok.funs.mem hb).1;rw[e]at this;cases this
theorem Inv.bs(I:Inv X pI Y H s) : ∀ b o,X.base.get? b=Aa o->s.heap.get? b=Aa o/\H b=Ad:=λb o e=>
 ⟨I.base.keep b o (I.ok.bs b o e).1 (I.ok.bs b o e).2 (I.ok.nofr e) (I.ok.noex b o e),I.base.free b o (I.ok.bs b o e).1 (I.ok.bs b o e).2 (I.ok.noex b o e)⟩
theorem Inv.bk(I:Inv X pI Y H s) : ∀ b o,X.base.get? b=Aa o->s.heap.get? b=Aa o:=λb o e=>(I.bs b o e).1
theorem Inv.mod(I:Inv X pI Y H s):Mod X.K X.mg X.base:=I.ok.mod
theorem Inv.kIn(I:Inv X pI Y H s):X.K.In s.heap:=I.ok.mod.kin.keeps I.bk
theorem Inv.nolimit(I:Inv X pI Y H s):s.heap.NoLimit:=I.ok.mod.nolimit.keeps I.bk
theorem Inv.lt(I:Inv X pI Y H s):X.env.locals<s.heap.objs.size:=let ⟨_,hn,_⟩:=I.loc;hn.lt
theorem Inv.sz(I:Inv X pI Y H s):X.s₀.heap.objs.size<=s.heap.objs.size:=Cc I.ok.above (DU I.lt)
theorem Inv.nofs(I:Inv X pI Y H s)(h:s.heap.objs.size<=a):a ∉ X.fs:=λhb=>by
 obtain⟨_,o,ho,_⟩:=I.ok.funs.mem hb;exact absurd (Ar (Au ho) (Cc I.sz h)) (A8 _)
theorem Inv.cne(I:Inv X pI Y H s) : ∀ x c,X.env.cells.lookup x=Aa c->c≠X.env.locals:=λx c e z=>by
 obtain⟨v,o,ho,hd⟩:=I.cell x c e;obtain⟨m,⟨o',es,ep,ho',hd',_⟩,_⟩:=I.loc;rw[z,ho']at ho;cases ho;rw[hd']at hd;cases hd
theorem Inv.funs(I:Inv X pI Y H s):s.heap.FunFrames X.base X.outer:=by
 have all : ∀(l:Ac BM),(∀ b∈frs l,b∈X.fs)->X.s₀.heap.FunFrames X.base l->s.heap.FunFrames X.base l:=by
  intro l
  induction l with
  |nil=>intro _ _;trivial
  |cons env r ih=>
   intro hs hl;obtain⟨hk,⟨L,o,hf,hn,ho,hd⟩,hr⟩:=hl;have hL:L∈X.fs:=hs L (by unfold frs;rw[EX,hf];exact AM)
   obtain⟨sl,e⟩:=I.base.slot L o ho (I.ok.frf L hL) hL λz=>I.ok.exfs L z hL
   exact⟨hk,⟨L,_,hf,hn,e,hd⟩,ih (λb hb=>hs b (by unfold frs;rw[EX,hf];exact AG _ hb)) hr⟩
 exact all X.outer (λ_ hb=>hb) I.ok.funs
theorem Inv.stack(I:Inv X pI Y H s):s.heap.FunFrames X.base X.stack:=by
 rcases I.ok.stk with e|⟨e,hf⟩
 .rw[e];exact I.funs
 .rw[e];obtain⟨m,hn,_⟩:=I.loc;refine .cons (by rw[I.ok.kind];decide) hf hn ?_ I.funs
  exact EJ (Cc I.ok.bsz I.ok.above)
theorem Inv.stkSub(I:Inv X pI Y H s) : ∀ b∈frs X.stack,b∈X.env.locals::X.fs:=λb hb=>by
 rcases I.ok.stk with e|⟨e,hf⟩
 .rw[e]at hb;exact AG _ hb
 .rw[e]at hb;unfold frs at hb;rw[EX,hf]at hb;exact hb
theorem Inv.stkFree(I:Inv X pI Y H s) : ∀ b∈frs X.stack,H b=Ad:=λb hb=>by
 rcases AK.mp (I.stkSub b hb) with e|hb
 .rw[e];exact I.free
 .obtain⟨_,o,ho,_⟩:=I.ok.funs.mem hb;exact I.base.free b o ho (I.ok.frf b hb) λz=>I.ok.exfs b z hb
theorem Inv.step(I:Inv X pI Y H s)(hch : ∀ b∈ch,(b∈X.ex\/X.s₀.heap.objs.size<=b)/\b≠X.env.locals/\(∀ x c,X.env.cells.lookup x=Aa c->c≠b) /\ ∀ p∈X.pn++pI,p.1≠b)(keep : ∀ b o,b≠X.env.locals->b ∉ X.fs->b ∉ ch->s.heap.get? b=Aa o->H b=Ad->h'.get? b=Aa o)(slot : ∀ b o,b≠X.env.locals->b∈X.fs->b ∉ ch->s.heap.get? b=Aa o->H b=Ad -> ∃ sl,h'.get? b=Aa {o with slots:=sl})(free : ∀ b o,b ∉ ch->s.heap.get? b=Aa o->H b=Ad->H' b=Ad)(there : ∀ b o,b ∉ ch->s.heap.get? b=Aa o -> ∃ o',h'.get? b=Aa o')(tups : ∀ b xs,H b=Aa (.tup xs)->H' b=Aa (.tup xs))(frzs : ∀ b o u,H b=Aa (.frz o u)->H' b=Aa (.frz o u))(tbls : ∀ b ps,H b=Aa (.tbl ps) -> ∃ more,H' b=Aa (.tbl (ps++more)))(ns : ∀ m,s.heap.Ns X.env.locals m->h'.Ns X.env.locals m)(hok:HOk X.prog X.w H' h')(hg:Do g'):Inv X pI Y H' {s with heap:=h',gens:=g',drawn:=d',toks:=t'}:=by
 have neL : ∀ b o,X.s₀.heap.get? b=Aa o->b≠X.env.locals:=λb o e=>AI (Ar (Au e) I.ok.above)
 have neC : ∀ b o,X.s₀.heap.get? b=Aa o->b ∉ X.ex->b ∉ ch:=λb o e hx hb=>by
  rcases (hch b hb).1 with z|z
  .exact hx z
  .exact absurd (Ar (Au e) z) (A8 _)
 have cellK : ∀ x c,X.env.cells.lookup x=Aa c -> ∀ v,s.heap.IsCell c v->h'.IsCell c v:=λx c e v ⟨o,ho,hd⟩=>by
  have nch:c ∉ ch:=λz=>(hch c z).2.2.1 x c e rfl
  by_cases hc:c∈X.fs
  .obtain⟨sl,q⟩:=slot c o (I.cne x c e) hc nch ho (I.freeC x c e);exact⟨_,q,hd⟩
  .exact⟨o,keep c o (I.cne x c e) hc nch ho (I.freeC x c e),hd⟩
 refine⟨I.ok,I.os,hg,⟨λb o e n hb hx => ?_,λb o e n hb hx => ?_,λb o e n hx => ?_,λb o e hx => ?_,λb xs e=>tups b xs (I.base.tups b xs e),λb o xs e=>frzs b o xs (I.base.frzs b o xs e),λb ps e => ?_⟩,?_,λx c e => ?_,?_,λx c e => ?_,λp hp => ?_,hok,I.len⟩
 .exact keep b o (neL b o e) hb (neC b o e hx) (I.base.keep b o e n hb hx) (I.base.free b o e n hx)
 .obtain⟨sl,e1⟩:=I.base.slot b o e n hb hx;obtain⟨sl',e2⟩:=slot b _ (neL b o e) hb (neC b o e hx) e1 (I.base.free b o e n hx);exact⟨sl',e2⟩
 .obtain⟨o',e1⟩:=I.base.there b o e hx;exact free b o' (neC b o e hx) e1 (I.base.free b o e n hx)
 .obtain⟨o',e1⟩:=I.base.there b o e hx;exact there b o' (neC b o e hx) e1
 .obtain⟨m1,e1⟩:=I.base.tbls b ps e;obtain⟨m2,e2⟩:=tbls b _ e1;exact⟨m1++m2,by rw[e2,Array.append_assoc]⟩
 .obtain⟨m,hn,hl⟩:=I.loc;refine⟨m,ns m hn,λi x v e1 e2 e3 => ?_⟩
  obtain⟨u,r,l⟩:=hl i x v e1 e2 e3;refine⟨u,r,?_⟩;rcases l with l|⟨k,c,e,z⟩
  .exact .inl l
  .exact .inr ⟨k,c,e,cellK x c e _ z⟩
 .obtain⟨v,z⟩:=I.cell x c e;exact⟨v,cellK x c e v z⟩
 .obtain⟨m,⟨o,_,_,ho,_⟩,_⟩:=I.loc;exact free _ o (λz=>(hch _ z).2.1 rfl) ho I.free
 .obtain⟨v,o,ho,hd⟩:=I.cell x c e;exact free c o (λz=>(hch c z).2.2.1 x c e rfl) ho (I.freeC x c e)
 .obtain⟨e,n,ne,nf,d⟩:=I.pin p hp;have nch:p.1 ∉ ch:=λz=>(hch p.1 z).2.2.2 p hp rfl
  exact⟨keep p.1 p.2 ne nf nch e n,free p.1 p.2 nch e n,ne,nf,d⟩
theorem Inv.un(I:Inv X pI Y H s)(u:Un X.fs [] H H' s.heap h')(hok:HOk X.prog X.w H' h'):Inv X pI Y H' {s with heap:=h',toks:=t'}:=by
 obtain⟨m,⟨o,es,ep,ho,r⟩,_⟩:=id I.loc;obtain⟨sl,hL⟩:=u.any ho I.free (by simp)
 exact I.step (g':=s.gens) (d':=s.drawn) (ch:=[]) (λ_ z=>nomatch z) (λb o _ hb _ e n=>u.keep b o e n hb (by simp)) (λb o _ hb _ e n=>u.slot b o e n hb (by simp)) (λb o _ e n=>u.free b o e n (by simp)) (λb o _ e=>u.there b o e (by simp)) u.tups u.frzs u.tbls (λm' hm=>by
  obtain⟨o',es',ep',ho',r'⟩:=hm;rw[ho]at ho';cases ho';exact⟨_,es',ep',hL,r'⟩) hok I.bare
theorem Inv.call(I:Inv X pI Y H s)(u:Un (frs X.stack) ch H H' s.heap h')(hok:HOk X.prog X.w H' h')(hg:Do g')(hch : ∀ b∈ch,(b∈X.ex\/X.s₀.heap.objs.size<=b)/\b≠X.env.locals/\(∀ x c,X.env.cells.lookup x=Aa c->c≠b) /\ ∀ p∈X.pn++pI,p.1≠b):Inv X pI Y H' {s with heap:=h',gens:=g',drawn:=d',toks:=t'}:=by
 obtain⟨m,⟨o,es,ep,ho,r⟩,_⟩:=id I.loc;obtain⟨sl,hL⟩:=u.any ho I.free λz=>(hch _ z).2.1 rfl
 exact I.step (ch:=ch) hch (λb o hL hb hc e n=>u.keep b o e n (λz=>(AK.mp (I.stkSub b z)).elim hL hb) hc) (λb o _ _ hc e n=>u.any e n hc) (λb o hc e n=>u.free b o e n hc) (λb o hc e=>u.there b o e hc) u.tups u.frzs u.tbls (λm' hm=>by
  obtain⟨o',es',ep',ho',r'⟩:=hm;rw[ho]at ho';cases ho';exact⟨_,es',ep',hL,r'⟩) hok hg
theorem Inv.turned(I:Inv X pI Y H s)(k : ∀ b o,b≠it->s.heap.get? b=Aa o->h'.get? b=Aa o)(hn:H it=Ad)(hL:it≠X.env.locals)(h1:it∈X.ex\/X.s₀.heap.objs.size<=it)(h2 : ∀ x c,X.env.cells.lookup x=Aa c->c≠it)(h3 : ∀ p∈X.pn++pI,p.1≠it):Inv X pI Y H {s with heap:=h',toks:=t'}:=by
 have nit : ∀ b u,H b=Aa u->b≠it:=λb u e z=>by rw[z,hn]at e;cases e
 refine I.step (g':=s.gens) (d':=s.drawn) (ch:=[it]) (λb hb => ?_) (λb o _ _ hc e _=>k b o (λz=>hc (by simp[z])) e) (λb o _ _ hc e _=>⟨o.slots,k b o (λz=>hc (by simp[z])) e⟩) (λ_ _ _ _ n=>n)
  (λb o hc e=>⟨o,k b o (λz=>hc (by simp[z])) e⟩) (λ_ _ e=>e) (λ_ _ _ e=>e) (λb ps e=>⟨#[],by rw[e];simp⟩) (λm hm => ?_) (λb u e => ?_) I.bare
 .have e:b=it:=by simpa using hb
  subst e;exact⟨h1,hL,h2,h3⟩
 .obtain⟨o,es,ep,ho,r⟩:=hm;exact⟨o,es,ep,k _ o (Dd hL) ho,r⟩
 .refine(I.hok b u e).stay (λc v hc q=>k c v ?_ q) (λ_ q=>q) λ_ _ q=>q
  rcases hc with z|z
  .rw[z];exact nit b u e
  .exact nit c _ z
theorem Inv.tok(I:Inv X pI Y H s)(t:Af):Inv X pI Y H {s with toks:=t}:=I.un (h':=s.heap) (t':=t) Un.refl I.hok
theorem Inv.kept{t':Af}(I:Inv X pI Y H s)(k : ∀ b u,s.heap.get? b=Aa u->h'.get? b=Aa u):Inv X pI Y H {s with heap:=h',toks:=t'}:=I.un (Un.kept k) (I.hok.kept k)
theorem Inv.laid{a:Ag}{o:HO}{t':Af}(I:Inv X pI Y H s)(k : ∀ b u,s.heap.get? b=Aa u->h'.get? b=Aa u)(hp:s.heap.objs.size<=a)(new:ObjOk X.prog X.w (upd H a o) h' a o):Inv X pI Y (upd H a o) {s with heap:=h',toks:=t'}:=I.un (Un.laid k hp (I.hok.fresh hp)) (I.hok.laid k hp new)
theorem Inv.write{x e:Ag}{o:HO}{t':Af}(I:Inv X pI Y H s)(mu:Mut (H x))(he:e=x\/H e=Aa (.own x))(k : ∀ b u,b≠e->s.heap.get? b=Aa u->h'.get? b=Aa u)(heo : ∃ u,h'.get? e=Aa u)(new:ObjOk X.prog X.w (upd H x o) h' x o):Inv X pI Y (upd H x o) {s with heap:=h',toks:=t'}:=I.un (Un.write mu he k heo) (I.hok.write mu he k heo new)
theorem Inv.pins_of{pins':Ac (Ag × AB)}(I:Inv X pI Y H s)(h : ∀ p∈pins',s.heap.get? p.1=Aa p.2/\H p.1=Ad/\p.1≠X.env.locals/\p.1 ∉ X.fs /\ ∀ v,p.2.data ≠ .cell v):Inv X pins' Y H s:=
 ⟨I.ok,I.os,I.bare,I.base,I.loc,I.cell,I.free,I.freeC,λp hp=>(QR.mp hp).elim (λz=>I.pin p (QS _ z)) (h p),I.hok,I.len⟩
theorem Nz{N:Ac Ai}(hN:N.Nodup)(a:N[i]? = Aa x)(b:N[j]? = Aa x):i=j:=by
 obtain⟨h1,e1⟩:=AT.mp a;obtain⟨h2,e2⟩:=AT.mp b;exact(List.getElem_inj hN).mp (e1.trans e2.symm)
theorem MQ{A:AN}{E:Ah->Al->Prop}(I:Inv X pI Y H s)(hN:X.N.Nodup)(hi:X.N[i]? = Aa x)(hx:Loc X.env.scope x)(r:A7 v u)(h : ∀ s',Inv X pI (Y.set i (Aa v)) H s'->(∃ a,DX a s.heap s'.heap/\(a=X.env.locals\/X.env.cells.lookup x=Aa a))->Q () s')(hf:X.fn x=Ab\/X.env.scope.names.lookup x=Aa .local:=by first|exact .inl rfl|exact .inr rfl|assumption):AE M A (storeName X.env x u) Q E s:=by
 obtain⟨m,hn,hl⟩:=id I.loc;have hcls:(X.env.scope.kind==.class||(X.env.scope.kind==.module&&X.env.locals != X.env.globals))=Ae:=by rw[I.ok.kind];rfl
 have hiσ:i<Y.length:=by rw[I.len];exact(AT.mp hi).1
 have cne:=I.cne;have tracked : ∀{a:Ag}{h':As},(∃ o,s.heap.get? a=Aa o/\H a=Ad)->DX a s.heap h'->HOk X.prog X.w H h':=λ{a h'} ha hs b ob e=>by
  obtain⟨_,_,hfree⟩:=ha;refine(I.hok b ob e).stay (λc w' hc q=>(hs.2 c ?_).trans q) (λ_ q=>q) λ_ _ q=>q
  rintro rfl;rcases hc with rfl|hc
  .rw[hfree]at e;cases e
  .rw[hfree]at hc;cases hc
 rcases hx with hk|hk
 .refine wpAny_storeName_local hk hn (λh' hn' hs => ?_) hcls
  obtain⟨oL,_,_,hoL,_⟩:=id hn;refine h _ ⟨I.ok,I.os,I.bare,⟨λb o e n hb hx => ?_,λb o e n hb hx => ?_,I.base.free,λb o e hx => ?_,I.base.tups,I.base.frzs,I.base.tbls⟩,⟨_,hn',λj y v' e1 e2 e3 => ?_⟩,λy c e => ?_,I.free,I.freeC,λp hp => ?_,tracked ⟨oL,hoL,I.free⟩ hs,by simpa using I.len⟩ ⟨_,hs,.inl rfl⟩
  .exact(hs.2 b (AI (Ar (Au e) I.ok.above))).trans (I.base.keep b o e n hb hx)
  .obtain⟨sl,e1⟩:=I.base.slot b o e n hb hx;exact⟨sl,(hs.2 b (AI (Ar (Au e) I.ok.above))).trans e1⟩
  .obtain⟨o',e1⟩:=I.base.there b o e hx;exact⟨o',(hs.2 b (AI (Ar (Au e) I.ok.above))).trans e1⟩
  .by_cases hj:j=i
   .subst hj;rw[hi]at e1;cases e1;rw[Bm hiσ]at e2;cases e2;exact⟨u,r,.inl ⟨hk,by simp⟩⟩
   .rw[BS (Dd hj)]at e2;obtain⟨u',r',q⟩:=hl j y v' e1 e2 e3;refine⟨u',r',?_⟩;rcases q with ⟨k,e⟩|⟨k,c,e,z⟩
    .refine .inl ⟨k,?_⟩;have:y≠x:=λe=>hj (Nz hN e1 (e ▸ hi))
     simp[this,e]
    .exact .inr ⟨k,c,e,z.sameBut hs (cne y c e)⟩
  .obtain⟨w',z⟩:=I.cell y c e;exact⟨w',z.sameBut hs (cne y c e)⟩
  .obtain⟨e,n,ne,nf,d⟩:=I.pin p hp;exact⟨(hs.2 p.1 ne).trans e,n,ne,nf,d⟩
 .have hfn:X.fn x=Ab:=by
   rcases hf with z|z
   .exact z
   .rw[z]at hk;cases hk
  obtain⟨c,hc⟩:=I.ok.has x (.inl hk);obtain⟨w',z⟩:=I.cell x c hc;refine wpAny_storeName_cell I.ok.kind hk hc z (λh' hc' hs => ?_)
  obtain⟨oc,hoc,hocd⟩:=id z;refine h {s with heap:=h'} ⟨I.ok,I.os,I.bare,⟨λb o e n hb hx => ?_,λb o e n hb hx => ?_,I.base.free,λb o e hx => ?_,I.base.tups,I.base.frzs,I.base.tbls⟩,⟨m,hn.sameBut hs (Dd (cne x c hc)),λj y v' e1 e2 e3 => ?_⟩,λy c' e => ?_,I.free,I.freeC,λp hp => ?_,tracked ⟨oc,hoc,I.freeC x c hc⟩ hs,by simpa using I.len⟩ ⟨c,hs,.inr hc⟩
  .exact(hs.2 b (AI (Ar (Au e) (I.ok.cab x c hfn hc)))).trans (I.base.keep b o e n hb hx)
  .obtain⟨sl,e1⟩:=I.base.slot b o e n hb hx;exact⟨sl,(hs.2 b (AI (Ar (Au e) (I.ok.cab x c hfn hc)))).trans e1⟩
  .obtain⟨o',e1⟩:=I.base.there b o e hx;exact⟨o',(hs.2 b (AI (Ar (Au e) (I.ok.cab x c hfn hc)))).trans e1⟩
  .by_cases hj:j=i
   .subst hj;rw[hi]at e1;cases e1;rw[Bm hiσ]at e2;cases e2;exact⟨u,r,.inr ⟨.inl hk,c,hc,hc'⟩⟩
   .rw[BS (Dd hj)]at e2;obtain⟨u',r',q⟩:=hl j y v' e1 e2 e3;refine⟨u',r',?_⟩;rcases q with q|⟨k,c',e,z'⟩
    .exact .inl q
    .refine .inr ⟨k,c',e,z'.sameBut hs ?_⟩;rintro rfl;exact hj (Nz hN e1 (I.ok.inj _ _ _ e hc ▸ hi))
  .by_cases hcc:c'=c
   .subst hcc;exact⟨_,hc'⟩
   .obtain⟨w2,z2⟩:=I.cell y c' e;exact⟨w2,z2.sameBut hs hcc⟩
  .obtain⟨e,n,ne,nf,d⟩:=I.pin p hp;refine⟨(hs.2 p.1 ?_).trans e,n,ne,nf,d⟩;intro q;rw[q,hoc]at e;have q':oc=p.2:=AQ e;exact d w' (by rw[<-q'];exact hocd)
theorem IS{A:AN}{E:Ah->Al->Prop}(I:Inv X pI Y H s)(hN:X.N.Nodup)(hi:X.N[i]? = Aa x)(hx:Loc X.env.scope x)(r:A7 v u)(h : ∀ s',Inv X pI (Y.set i (Aa v)) H s'->Q () s')(hf:X.fn x=Ab\/X.env.scope.names.lookup x=Aa .local:=by first|exact .inl rfl|exact .inr rfl|assumption):AE M A (storeName X.env x u) Q E s:=
 MQ I hN hi hx r (λs' I' _=>h s' I') hf
theorem Inv.call'{s':Al}(I:Inv X pI Y H s)(ho:s'.os=s.os)(u:Un (frs X.stack) ch H H' s.heap s'.heap)(hok:HOk X.prog X.w H' s'.heap)(hg:Do s'.gens)(hch : ∀ b∈ch,(b∈X.ex\/X.s₀.heap.objs.size<=b)/\b≠X.env.locals/\(∀ x c,X.env.cells.lookup x=Aa c->c≠b) /\ ∀ p∈X.pn++pI,p.1≠b):Inv X pI Y H' s':=by
 obtain⟨h',g',d',t',o'⟩:=s';have e:o'=s.os:=ho;subst e;exact I.call (g':=g') (t':=t') (d':=d') u hok hg hch
end
noncomputable abbrev XK:=Ah->Ao Ag->Hp->Prop
noncomputable abbrev St:=Ac (Ao V)
variable{Y:St}
noncomputable abbrev VK:=V->Hp->Prop
noncomputable abbrev TE:=St->Hp->VK->Prop
variable{te:TE}
noncomputable abbrev TT:=St->Hp->(Ak->Hp->Prop)->Prop
noncomputable abbrev TA:=St->Hp->(Ac V->Hp->Prop)->Prop
variable{ta:TA}
structure Ends where
 nx:St->Hp->Prop
 rt:VK
 bk:St->Hp->Prop:=λ_ _=>AV
 ct:St->Hp->Prop:=λ_ _=>AV
noncomputable abbrev TS:=Ends->St->Hp->Prop
noncomputable def EP(X:Cx)(pI:Ac (Ag × AB))(Y:St)(Q:VK)(u:Ah)(s':Al):Prop := ∃ v H',Inv X pI Y H' s'/\A7 v u/\Q v H'
noncomputable def TP(X:Cx)(pI:Ac (Ag × AB))(Y:St)(Q:Ak->Hp->Prop)(b:Ak)(s':Al):Prop := ∃ H',Inv X pI Y H' s'/\Q b H'
noncomputable def AP(X:Cx)(pI:Ac (Ag × AB))(Y:St)(Q:Ac V->Hp->Prop)(us:Ac Ah)(s':Al):Prop := ∃ vs H',Inv X pI Y H' s'/\AU vs us/\Q vs H'
noncomputable def SP(X:Cx)(pI:Ac (Ag × AB))(D:Ends)(f:Flow)(s':Al):Prop:=
  match f with
  |.next => ∃ Y' H',Inv X pI Y' H' s'/\D.nx Y' H'
  |.brk => ∃ Y' H',Inv X pI Y' H' s'/\D.bk Y' H'
  |.cont => ∃ Y' H',Inv X pI Y' H' s'/\D.ct Y' H'
  |.ret u => ∃ v Y' H',Inv X pI Y' H' s'/\A7 v u/\D.rt v H'
noncomputable def PE(X:Cx)(e:Am)(t:TE):Prop:=
 ∀(pI:Ac (Ag × AB))(s:Al)(Y:St)(H:Hp)(Q:VK),Inv X pI Y H s->t Y H Q->AE (model X.prog X.w) X.A (eval e X.env) (EP X pI Y Q) X.xe s
noncomputable def PT(X:Cx)(e:Am)(t:TT):Prop:=
 ∀(pI:Ac (Ag × AB))(s:Al)(Y:St)(H:Hp)(Q:Ak->Hp->Prop),Inv X pI Y H s->t Y H Q->AE (model X.prog X.w) X.A (F6 e X.env (eval e X.env)) (TP X pI Y Q) X.xe s
noncomputable def PW(X:Cx)(e:Am)(t:TT):Prop:=
 ∀(whole:Sem Ah)(pI:Ac (Ag × AB))(s:Al)(Y:St)(H:Hp)(Q:Ak->Hp->Prop),Inv X pI Y H s->t Y H Q->AE (model X.prog X.w) X.A (F6 e X.env whole) (TP X pI Y Q) X.xe s
theorem PW.pt{t:TT}(h:PW X e t):PT X e t:=h _
noncomputable def PA(X:Cx)(es:Ac Am)(t:TA):Prop:=
 ∀(pos:Az)(pI:Ac (Ag × AB))(s:Al)(Y:St)(H:Hp)(Q:Ac V->Hp->Prop),Inv X pI Y H s->t Y H Q->AE (model X.prog X.w) X.A (spliced (B2 pos (At es X.env))) (AP X pI Y Q) X.xe s
noncomputable def PS(X:Cx)(st:AJ)(t:TS):Prop:=
 ∀(pI:Ac (Ag × AB))(s:Al)(Y:St)(H:Hp)(D:Ends),Inv X pI Y H s->t D Y H->AE (model X.prog X.w) X.A (exec st X.env) (SP X pI D) X.xe s
noncomputable def PSs(X:Cx)(st:Ac AJ)(t:TS):Prop:=
 ∀(pI:Ac (Ag × AB))(s:Al)(Y:St)(H:Hp)(D:Ends),Inv X pI Y H s->t D Y H->AE (model X.prog X.w) X.A (execs st X.env) (SP X pI D) X.xe s
theorem thn{α:Type}{t:Sem α}{Q Q':α->Al->Prop}{A:AN}{E:Ah->Al->Prop}(h:AE M A t Q E s)(hQ : ∀ a s,Q a s->Q' a s):AE M A t Q' E s:=BD h hQ λ_ _ x=>x
section
variable{X:Cx}
noncomputable def Fk(i:Af):TE:=λY H Q => ∃ v,Y[i]? = Aa (Aa v)/\Q v H
noncomputable def tC(v:V):TE:=λ_ H Q=>Q v H
theorem Ij(hN:X.N[i]? = Aa x)(hv:Vis X.env.scope x)(hd:(x==("__debug__" : Ai))=Ae:=by decide)(hcd:(x==("__classdict__" : Ai))=Ae:=by decide):PE X (.Name x pos) (Fk i):=by
 intro pI s Y H Q I h;obtain⟨v,e,h⟩:=h;obtain⟨m,hn,hl⟩:=I.loc;obtain⟨u,r,l⟩:=hl i x v hN e hv;have fin:EP X pI Y Q u s:=⟨v,H,I,r,h⟩;rcases l with ⟨hk,hm⟩|⟨hk,c,hc,hcell⟩
 .exact Hg (wpAny_loadName_local I.ok.kind hk hn hm fin) hd
 .rcases hk with hk|hk
  .exact Hg (wpAny_loadName_cell I.ok.kind hk hc hcell fin) hd
  .exact Hg (wpAny_loadName_free I.ok.kind hk hc hcell fin hcd) hd
theorem Xg{i j pos}:PE X (.Constant (.int i) j pos) (tC (.int i)):=λ_ _ _ H _ I h=>wpAny_Constant_int ⟨.int i,H,I.tok _,⟨_,rfl⟩,h⟩
theorem Zj{b j pos}:PE X (.Constant (.bool b) j pos) (tC (.bl b)):=λ_ _ _ H _ I h=>Constant_bool ⟨.bl b,H,I,rfl,h⟩
theorem Xe{j pos}:PE X (.Constant .none j pos) (tC .non):=λ_ _ _ H _ I h=>Constant_none ⟨.non,H,I,rfl,h⟩
theorem Xb{x j pos}:PE X (.Constant (.str x) j pos) (tC (.str x)):=λ_ _ _ H _ I h=>Calls.Constant_str ⟨.str x,H,I.tok _,⟨_,rfl⟩,h⟩
noncomputable def Gl(X:Cx)(x:Ai):Prop:=X.env.kindOf x=Aa .globalImplicit
theorem Wq{E:Ah->Al->Prop}{Q:Ah->Al->Prop}(I:Inv X pI Y H s)(hg:Gl X x)(hm:X.mg x=Aa u)(h:Q u s)(hd:(x==("__debug__" : Ai))=Ae:=by decide):AE (model X.prog X.w) X.A (eval (.Name x pos) X.env) Q E s:=
 Re I.ok.kind hg (Calls.loadGlobal_global (by rw[I.ok.glob];exact I.mod.glob.keeps I.bk) hm h) hd
theorem Ht{E:Ah->Al->Prop}{Q:Ah->Al->Prop}(I:Inv X pI Y H s)(hg:Gl X x)(hm:X.mg x=Ad)(hv:B4 x=Aa u)(h:Q u s)(hn:x ≠ "__name__" := by decide)(hd:(x==("__debug__" : Ai))=Ae:=by decide):AE (model X.prog X.w) X.A (eval (.Name x pos) X.env) Q E s:=by
 obtain⟨mb,h1,h2⟩:=I.mod.blt;exact Re I.ok.kind hg (Calls.loadGlobal_builtin (by rw[I.ok.glob];exact I.mod.glob.keeps I.bk) hm (by rw[I.ok.blt];exact h1.keeps I.bk) ((h2 x hn).trans hv) h) hd
theorem UX(hg:Gl X x)(hm:X.mg x=Ad)(hv:B4 x=Aa u)(r:A7 v u)(hn:x ≠ "__name__" := by decide)(hd:(x==("__debug__" : Ai))=Ae:=by decide):PE X (.Name x pos) (tC v):=
 λ_ _ _ H _ I h=>Ht I hg hm hv ⟨v,H,I,r,h⟩ hn hd
variable{a b:Am}{ta tb:TE}{pos:Az}
variable{tA tB':TT}{rest:Ac Am}
noncomputable def bD(t u:TT):TT:=λY H Q=>t Y H λc H1=>if c=Ab then u Y H1 Q else Q Ae H1
noncomputable def tOr(t u:TT):TT:=λY H Q=>t Y H λc H1=>if c=Ab then Q Ab H1 else u Y H1 Q
noncomputable def aH(t:TT):TT:=λY H Q=>t Y H λc H1=>Q (!c) H1
theorem Vi(ha:PT X a tA):PW X (.BoolOp .And [a] pos) tA:=by
 intro wh pI s Y H Q I h;refine isTrue_and (thn (ha pI s Y H Q I h) λc s1 e => ?_)
 cases c with
 |true=>exact isTrue_and_nil e
 |false=>exact e
theorem WZ(ha:PT X a tA):PW X (.BoolOp .Or [a] pos) tA:=by
 intro wh pI s Y H Q I h;refine isTrue_or (thn (ha pI s Y H Q I h) λc s1 e => ?_)
 cases c with
 |false=>exact isTrue_or_nil e
 |true=>exact e
theorem W1(ha:PT X a tA)(hb:PW X (.BoolOp .And (b::rest) pos) tB'):PW X (.BoolOp .And (a::b::rest) pos) (bD tA tB'):=by
 intro wh pI s Y H Q I h;refine isTrue_and (thn (ha pI s Y H _ I h) λc s1 ⟨H1,I1,q1⟩ => ?_)
 cases c with
 |true=>exact hb wh pI s1 Y H1 Q I1 q1
 |false=>exact⟨H1,I1,q1⟩
theorem Zd(ha:PT X a tA)(hb:PW X (.BoolOp .Or (b::rest) pos) tB'):PW X (.BoolOp .Or (a::b::rest) pos) (tOr tA tB'):=by
 intro wh pI s Y H Q I h;refine isTrue_or (thn (ha pI s Y H _ I h) λc s1 ⟨H1,I1,q1⟩ => ?_)
 cases c with
 |true=>exact⟨H1,I1,q1⟩
 |false=>exact hb wh pI s1 Y H1 Q I1 q1
theorem W2(ha:PT X a tA):PT X (.UnaryOp .Not a pos) (aH tA):=by
 intro pI s Y H Q I h;exact isTrue_not (ha pI s Y H (λc H1=>Q (!c) H1) I h)
noncomputable def YT(ta tb:TE):TE:=λY H Q=>ta Y H λx H1 => ∃ c,x = .bl c/\if c=Ab then tb Y H1 Q else Q (.bl Ae) H1
noncomputable def aG(ta tb:TE):TE:=λY H Q=>ta Y H λx H1 => ∃ c,x = .bl c/\if c=Ab then Q (.bl Ab) H1 else tb Y H1 Q
noncomputable def YO(ta:TE):TE:=λY H Q=>ta Y H λx H1 => ∃ c,x = .bl c/\Q (.bl (!c)) H1
theorem Xc{op}{t:TE}(h:PE X a t):PE X (.BoolOp op [a] pos) t:=λpI s Y H Q I hw=>BoolOp_one (h pI s Y H Q I hw)
theorem WM(ha:PE X a ta)(hb:PE X (.BoolOp .And (b::rest) pos) tb):PE X (.BoolOp .And (a::b::rest) pos) (YT ta tb):=by
 intro pI s Y H Q I h;refine BoolOp_and (thn (ha pI s Y H _ I h) λv s1 ⟨x,H1,I1,r1,q1⟩ => ?_)
 obtain⟨c,rfl,q1⟩:=q1;cases r1;refine BX ?_;cases c with
 |true=>exact hb pI s1 Y H1 Q I1 q1
 |false=>exact⟨.bl Ae,H1,I1,rfl,q1⟩
theorem Zh(ha:PE X a ta)(hb:PE X (.BoolOp .Or (b::rest) pos) tb):PE X (.BoolOp .Or (a::b::rest) pos) (aG ta tb):=by
 intro pI s Y H Q I h;refine BoolOp_or (thn (ha pI s Y H _ I h) λv s1 ⟨x,H1,I1,r1,q1⟩ => ?_)
 obtain⟨c,rfl,q1⟩:=q1;cases r1;refine BX ?_;cases c with
 |false=>exact hb pI s1 Y H1 Q I1 q1
 |true=>exact⟨.bl Ab,H1,I1,rfl,q1⟩
theorem Xd(ha:PE X a ta):PE X (.UnaryOp .Not a pos) (YO ta):=by
 intro pI s Y H Q I h;refine UnaryOp_ (thn (ha pI s Y H _ I h) λv s1 ⟨x,H1,I1,r1,q1⟩ => ?_)
 obtain⟨c,rfl,q1⟩:=q1;cases r1;exact not_of (BX ⟨.bl (!c),H1,I1,rfl,q1⟩)
end
noncomputable def SqL(K:Fg)(H:Hp)(a:Ag)(xs:Ac V):Prop:=
 Rd H a (.lst xs) \/
  ∃(o:AB)(its:AW Ah)(n:Af),K.lookup a=Aa o/\o.cls = .type "list" /\ o.dict=Ad/\o.data = .seq its n/\its.size<=sizeLine/\AU xs its.toList
noncomputable def SqT(K:Fg)(H:Hp)(a:Ag)(xs:Ac V):Prop:=
 Rd H a (.tup xs) \/
  ∃(o:AB)(its:AW Ah)(n:Af),K.lookup a=Aa o/\o.cls = .type "tuple" /\ o.data = .seq its n/\its.size<=sizeLine/\AU xs its.toList
noncomputable def aS:Ah->Ao V
 |.none=>Aa .non
 |.bool b=>Aa (.bl b)
 |.int i _=>Aa (.int i)
 |.str x _=>Aa (.str x)
 |.bytes b _=>Aa (.byt b)
 |.float b _=>Aa (.flt b)
 |.ref a=>Aa (.ref a)
 |.type n=>Aa (.ty n)
 |_=>Ad
theorem A7.abs{x:V}(r:A7 x u):aS u=Aa x:=by
 cases x with
 |non=>cases r;rfl
 |bl _=>cases r;rfl
 |int _=>obtain⟨t,rfl⟩:=r;rfl
 |str _=>obtain⟨t,rfl⟩:=r;rfl
 |byt _=>obtain⟨t,rfl⟩:=r;rfl
 |flt _=>obtain⟨t,rfl⟩:=r;rfl
 |ref _=>cases r;rfl
 |ty _=>cases r;rfl
theorem A7.inj{x:V}(r:A7 x u)(q:A7 y u):x=y:=AQ (r.abs.symm.trans q.abs)
theorem AU.inj : ∀{xs ys:Ac V}{us:Ac Ah},AU xs us->AU ys us->xs=ys
 |_,_,_,.nil,.nil=>rfl
 |_,_,_,.cons r t,.cons r' t'=>by rw[r.inj r',AU.inj t t']
section
variable{X:Cx}{pI:Ac (Ag × AB)}{Y:St}{H:Hp}{s:Al}{a:Ag}{xs ys:Ac V}
theorem SqL.of{K:Fg}(h:H a=Aa (.lst xs)):SqL K H a xs := .inl (.inl h)
theorem SqT.of{K:Fg}(h:H a=Aa (.tup xs)):SqT K H a xs := .inl (.inl h)
theorem Inv.list(I:Inv X pI Y H s)(h:SqL X.K H a xs) : ∃ its:Ac Ah,AU xs its/\PlainL s.heap a its.toArray/\xs.length<=sizeLine:=by
 rcases h with h|⟨o,its,n,hk,hc,hd,hs,hz,r⟩
 .obtain⟨z,its,n,r,e⟩:=h.ok I.hok;exact⟨its,r,⟨_,n,e,rfl,rfl,rfl⟩,z⟩
 .refine⟨its.toList,r,⟨o,n,I.kIn a o hk,hc,hd,by simpa using hs⟩,?_⟩
  have e:=r.length;simp only[Qx]at e;omega
theorem Inv.tuple(I:Inv X pI Y H s)(h:SqT X.K H a xs) : ∃ its:Ac Ah,AU xs its/\HP s.heap a its.toArray/\xs.length<=sizeLine:=by
 rcases h with h|⟨o,its,n,hk,hc,hs,hz,r⟩
 .obtain⟨z,its,r,p⟩:=h.ok I.hok;exact⟨its,r,p,z⟩
 .refine⟨its.toList,r,⟨o,I.kIn a o hk,hc,n,by simpa using hs⟩,?_⟩
  have e:=r.length;simp only[Qx]at e;omega
theorem Inv.list_inj(I:Inv X pI Y H s)(h:SqL X.K H a xs)(h':SqL X.K H a ys):xs=ys:=by
 obtain⟨its,r,⟨o,n,e,_,_,d⟩,_⟩:=I.list h;obtain⟨its',r',⟨o',n',e',_,_,d'⟩,_⟩:=I.list h';rw[e]at e';cases e';rw[d]at d'
 injection d' with d1 _
 have:its=its':=by simpa using congrArg Qy d1
 subst this;exact r.inj r'
theorem Inv.tuple_inj(I:Inv X pI Y H s)(h:SqT X.K H a xs)(h':SqT X.K H a ys):xs=ys:=by
 obtain⟨its,r,⟨o,e,_,n,d⟩,_⟩:=I.tuple h;obtain⟨its',r',⟨o',e',_,n',d'⟩,_⟩:=I.tuple h';rw[e]at e';cases e';rw[d]at d'
 injection d' with d1 _
 have:its=its':=by simpa using congrArg Qy d1
 subst this;exact r.inj r'
end
noncomputable abbrev Cx.wish(X:Cx)(E:Ah->Al->Prop):Cx := {X with xe:=E}
noncomputable abbrev Cx.nox(X:Cx):Cx:=X.wish λ_ _=>AV
theorem Cx.Ok.wish(ok:X.Ok)(E:Ah->Al->Prop):(X.wish E).Ok:=
 ⟨ok.mod,ok.kind,ok.glob,ok.blt,ok.above,ok.inj,ok.has,ok.cab,ok.hd,ok.frames,ok.stk,ok.exf,ok.bs,ok.bsz,ok.noex,ok.exfs,ok.funs,ok.frf⟩
theorem Cx.Ok.unwish{E:Ah->Al->Prop}(ok:(X.wish E).Ok):X.Ok:=
 ⟨ok.mod,ok.kind,ok.glob,ok.blt,ok.above,ok.inj,ok.has,ok.cab,ok.hd,ok.frames,ok.stk,ok.exf,ok.bs,ok.bsz,ok.noex,ok.exfs,ok.funs,ok.frf⟩
section
variable{X:Cx}{pI:Ac (Ag × AB)}{Y:St}{H:Hp}{s:Al}{E:Ah->Al->Prop}
theorem Inv.wish(I:Inv X pI Y H s)(E:Ah->Al->Prop):Inv (X.wish E) pI Y H s:=⟨I.ok.wish E,I.os,I.bare,I.base,I.loc,I.cell,I.free,I.freeC,I.pin,I.hok,I.len⟩
theorem Inv.unwish(I:Inv (X.wish E) pI Y H s):Inv X pI Y H s:=⟨I.ok.unwish,I.os,I.bare,I.base,I.loc,I.cell,I.free,I.freeC,I.pin,I.hok,I.len⟩
theorem SP.unwish{D:Ends}{f:Flow}{s':Al}(h:SP (X.wish E) pI D f s'):SP X pI D f s':=by
 cases f with
 |next=>obtain⟨Y',H',I,q⟩:=h;exact⟨Y',H',I.unwish,q⟩
 |brk=>obtain⟨Y',H',I,q⟩:=h;exact⟨Y',H',I.unwish,q⟩
 |cont=>obtain⟨Y',H',I,q⟩:=h;exact⟨Y',H',I.unwish,q⟩
 |ret u=>obtain⟨v,Y',H',I,r,q⟩:=h;exact⟨v,Y',H',I.unwish,r,q⟩
theorem PSs.nox{st:Ac AJ}{t:TS}(h:PSs X.nox st t):PSs X st t:=λpI s Y H D I hw=>
 BD (h pI s Y H D (I.wish _) hw) (λ_ _ q=>q.unwish) λ_ _ z=>BQ z
end
section
variable{X:Cx}{st:AJ}{rest:Ac AJ}{t u:TS}{e:Am}{te:TE}{pos:Az}
noncomputable def YQ:TS:=λD Y H=>D.nx Y H
noncomputable def aE(t u:TS):TS:=λD Y H=>t {D with nx:=u D} Y H
theorem ND:PSs X [] YQ:=λ_ _ Y H _ I h=>Sz ⟨Y,H,I,h⟩
theorem GZ(h1:PS X st t)(h2:PSs X rest u):PSs X (st::rest) (aE t u):=by
 intro pI s Y H D I h;refine FD (thn (h1 pI s Y H {D with nx:=u D} I h) λf s1 q => ?_)
 cases f with
 |next=>
  obtain⟨Y',H',I',q⟩:=q;exact h2 pI s1 Y' H' D I' q
 |ret v=>exact q
 |brk=>exact q
 |cont=>exact q
theorem Inv.quiet(I:Inv X pI Y H s):interactive X.env=Ae:=by simp[interactive,I.ok.kind]
noncomputable def YS(te:TE):TS:=λD Y H=>te Y H λ_ H1=>D.nx Y H1
theorem IZ(he:PE X e te)(hs:CI e Ad pos.line X.env=pure Ae:=by rfl):PS X (.Expr e pos) (YS te):=by
 intro pI s Y H D I h;exact wpAny_Expr_any (thn (he pI s Y H _ I h) λv s1 ⟨x,H1,I1,r1,q1⟩=>⟨Y,H1,I1,q1⟩) I.quiet hs
noncomputable def aF(te:TE):TS:=λD Y H=>te Y H D.rt
theorem Jn(he:PE X e te):PS X (.Return (Aa e) pos) (aF te):=by
 intro pI s Y H D I h;exact Sv (thn (he pI s Y H _ I h) λv s1 ⟨x,H1,I1,r1,q1⟩=>⟨x,Y,H1,I1,r1,q1⟩)
noncomputable def bA(c:TT)(t u:TS):TS:=λD Y H=>c Y H λb H1=>if b=Ab then t D Y H1 else u D Y H1
theorem Zf{c:Am}{a b:Ac AJ}{tc:TT}(hc:PT X c tc)(ha:PSs X a t)(hb:PSs X b u):PS X (.If c a b pos) (bA tc t u):=by
 intro pI s Y H D I h;refine wpAny_If (thn (hc pI s Y H _ I h) λd s1 ⟨H1,I1,q1⟩ => ?_)
 cases d with
 |true=>exact ha pI s1 Y H1 D I1 q1
 |false=>exact hb pI s1 Y H1 D I1 q1
end
noncomputable abbrev TG:=V->St->Hp->(St->Hp->Prop)->Prop
noncomputable abbrev TGs:=Ac V->St->Hp->(St->Hp->Prop)->Prop
noncomputable def PG(X:Cx)(target:Am)(t:TG):Prop:=
 ∀(pI:Ac (Ag × AB))(s:Al)(Y:St)(H:Hp)(v:V)(u:Ah)(Q:St->Hp->Prop),Inv X pI Y H s->A7 v u->t v Y H Q ->
  AE (model X.prog X.w) X.A (assign target X.env u) (λ_ s' => ∃ Y' H',Inv X pI Y' H' s'/\Q Y' H') X.xe s
noncomputable def PGs(X:Cx)(ts:Ac Am)(t:TGs):Prop:=
 ∀(pI:Ac (Ag × AB))(s:Al)(Y:St)(H:Hp)(vs:Ac V)(us:Ac Ah)(Q:St->Hp->Prop),Inv X pI Y H s->AU vs us->t vs Y H Q ->
  AE (model X.prog X.w) X.A (assignInOrder ((BB ts X.env).map (·.2)) us) (λ_ s' => ∃ Y' H',Inv X pI Y' H' s'/\Q Y' H') X.xe s
noncomputable abbrev Mm:=V->V->V->Hp->(Hp->Prop)->Prop
noncomputable def Qk(X:Cx)(t:Mm):Prop:=
 ∀(pI:Ac (Ag × AB))(s:Al)(Y:St)(H:Hp)(o i v:V)(ov iv u:Ah)(Q:Hp->Prop),Inv X pI Y H s->A7 o ov->A7 i iv->A7 v u->t o i v H Q ->
  AE (model X.prog X.w) X.A (setItem ov iv u) (λ_ s' => ∃ H',Inv X pI Y H' s'/\Q H') X.xe s
section
variable{X:Cx}{pos:Az}
noncomputable def DE(i:Af):TG:=λv Y H Q=>Q (Y.set i (Aa v)) H
theorem Hj(hN:X.N.Nodup)(hi:X.N[i]? = Aa x)(hx:Loc X.env.scope x)(hf:X.fn x=Ab\/X.env.scope.names.lookup x=Aa .local:=by first|exact .inl rfl|exact .inr rfl|assumption):PG X (.Name x pos) (DE i):=by
 intro pI s Y H v u Q I r h;exact Sw (IS I hN hi hx r (λs' I'=>⟨_,H,I',h⟩) hf)
noncomputable def FL:TGs:=λvs Y H Q=>vs=[]/\Q Y H
noncomputable def FG(t:TG)(u:TGs):TGs:=λvs Y H Q => ∃ v r,vs=v::r/\t v Y H λY' H'=>u r Y' H' Q
theorem Od:PGs X [] FL:=by
 intro pI s Y H vs us Q I r h;obtain⟨e,h⟩:=h;subst e;cases r;exact assignInOrder_nil ⟨Y,H,I,h⟩
theorem No{t:TG}{u:TGs}(h1:PG X e t)(h2:PGs X es u)(hs:(BB (e::es) X.env).map (·.2)=assign e X.env::(BB es X.env).map (·.2):=by rfl):PGs X (e::es) (FG t u):=by
 intro pI s Y H vs us Q I r h;obtain⟨v,vr,e1,h⟩:=h;subst e1;cases r with
 |cons r rr=>
  rw[hs];refine assignInOrder_cons (thn (h1 pI s Y H _ _ _ I r h) λ_ s1 ⟨Y1,H1,I1,q1⟩ => ?_)
  exact h2 pI s1 Y1 H1 _ _ Q I1 rr q1
noncomputable def HI(K:Fg)(n:Af)(t:TGs):TG:=λv Y H Q => ∃ a xs,v = .ref a/\SqT K H a xs/\xs.length=n/\t xs Y H Q
theorem LA{t:TGs}(hc:X.calm=Ab)(h:PGs X es t)(hn:(BB es X.env).length=n:=by rfl)(hst:(BB es X.env).findIdx? (·.1)=Ad:=by rfl):PG X (.Tuple es k pos) (HI X.K n t):=by
 intro pI s Y H v u Q I r hw;obtain⟨a,xs,e1,hq,hl,hw⟩:=hw;subst e1;cases r;obtain⟨its,rv,ht,hz⟩:=I.tuple hq;refine assign_Tuple_tuple (I.ok.hd hc) ht (by simp[hn,<-hl,rv.length]) hst λh' hx => ?_
 have I1:Inv X pI Y H {s with heap:=h'}:=I.kept (t':=s.toks) λb o e=>hx b o (AI (Au e)) e
 exact h pI _ Y H xs _ Q I1 (by simpa using rv) hw
noncomputable def bN(to ti:TE)(t:Mm):TG:=λv Y H Q=>to Y H λo H1=>ti Y H1 λi H2=>t o i v H2 λH3=>Q Y H3
theorem W9{o i:Am}{to ti:TE}{t:Mm}(ho:PE X o to)(hi:PE X i ti)(hs:Qk X t)(ha : ∀ v,assign (.Subscript o i pos) X.env v=(do
   let ov <-holding [v] (eval o X.env)
   let iv <-holding [v,ov] (eval i X.env)
   GR pos
   holding [v,ov,iv] (setItem ov iv v)
   release [v,ov,iv] []):=by intro _;rfl):PG X (.Subscript o i pos) (bN to ti t):=by
 intro pI s Y H v u Q I r h;rw[ha];refine Ap (CW (thn (ho pI s Y H _ I h) λov s1 ⟨x,H1,I1,r1,q1⟩ => ?_))
 refine Ap (CW (thn (hi pI s1 Y H1 _ I1 q1) λiv s2 ⟨y,H2,I2,r2,q2⟩ => ?_))
 refine Ap (Fe (Ap (CW (thn (hs pI s2 Y H2 x y v ov iv u _ I2 r1 r2 r q2) λ_ s3 ⟨H3,I3,q3⟩ => ?_))))
 exact wpAny_release ⟨Y,H3,I3,q3⟩
noncomputable def Iu(te:TE)(g:TG):TS:=λD Y H=>te Y H λx H1=>g x Y H1 D.nx
theorem Lo{g:TG}(he:PE X e te)(hg:PG X tg g)(hs:Fd [tg] e pos.line X.env=pure Ae:=by rfl)(hw:El [tg] e X.env=pure Ad:=by rfl)(h1:(BB [tg] X.env).map (·.2)=[assign tg X.env]:=by rfl):PS X (.Assign [tg] e pos) (Iu te g):=by
 intro pI s Y H D I h;refine wpAny_Assign_stores (thn (he pI s Y H _ I h) λv s1 ⟨x,H1,I1,r1,q1⟩ => ?_) hs hw
 rw[h1];exact thn (hg pI s1 Y H1 x v _ I1 r1 q1) λ_ s2 q=>q
theorem W3{pos':Az}(hN:X.N.Nodup)(hi:X.N[i]? = Aa x)(hx:Loc X.env.scope x)(he:PE X e te)(hs:CI e (Aa (.Name x pos')) pos.line X.env=pure Ae:=by rfl)(hf:X.fn x=Ab\/X.env.scope.names.lookup x=Aa .local:=by first|exact .inl rfl|exact .inr rfl|assumption):PS X (.Assign [.Name x pos'] e pos) (Iu te (DE i)):=by
 intro pI s Y H D I h;refine wpAny_Assign_Name (thn (he pI s Y H _ I h) λv s1 ⟨y,H1,I1,r1,q1⟩ => ?_) hs
 exact IS I1 hN hi hx r1 (λs2 I2=>⟨_,H1,I2,q1⟩) hf
end
section
variable{X:Cx}{pos:Az}
end
structure It where
 go:Af->Hp->Prop
 yld:Af->Hp->V->Hp->Prop
 stop:Af->Hp->Prop
noncomputable def Fm(X:Cx)(pI:Ac (Ag × AB))(H:Hp)(b:Ag):Prop:=
 H b=Ad/\b≠X.env.locals/\b ∉ X.fs/\(b∈X.ex\/X.s₀.heap.objs.size<=b)/\(∀ x c,X.env.cells.lookup x=Aa c->c≠b) /\ ∀ p∈X.pn++pI,p.1≠b
theorem Inv.fpOk{H':Hp}(I:Inv X pI Y H s)(hb:s.heap.objs.size<=b)(hn:H' b=Ad):Fm X pI H' b:=by
 refine⟨hn,EG (Ar I.lt hb),I.nofs hb,.inr (Cc I.sz hb),λx c e z => ?_,λp hp z => ?_⟩
 .obtain⟨v,q⟩:=I.cell x c e;exact absurd (Ar q.lt (by rw[z];exact hb)) (A8 _)
 .exact absurd (Ar (Au (I.pin p hp).1) (by rw[z];exact hb)) (A8 _)
structure Turn (P:Ay) (w:AH) (K:Fg) (tg:Am) (J:It) (fp:Ac Ag) (it:Ag) (tn:Af->As->Prop):Prop where
 mem:it∈fp
 obj : ∀ i h,tn i h -> ∀ b∈fp,∃ o,h.get? b=Aa o /\ ∀ v,o.data ≠ .cell v
 keep : ∀ i h h',tn i h->(∀ b∈fp,∀ o,h.get? b=Aa o->h'.get? b=Aa o)->tn i h'
 item : ∀(X:Cx),X.prog=P->X.w=w->X.K=K->X.calm=Ab -> ∀(i:Af)(pI:Ac (Ag × AB))(s:Al)(Y:St)(H:Hp)(E:Ah->Al->Prop),Inv X pI Y H s->(∀ b∈fp,Fm X pI H b)->tn i s.heap->J.go i H ->
  AE (model P w) X.A (F9 (.ref it)) (λr s1 => ∃ u,r=Aa u /\
   AE (model P w) X.A (EN tg (.ref it) u) (λ_ s2 => ∃ x H',Inv X pI Y H' s2/\A7 x u/\J.yld i H x H'/\tn (i+1) s2.heap /\ ∀ b∈fp,H' b=Ad) E s1) E s
 done : ∀(X:Cx),X.prog=P->X.w=w->X.K=K->X.calm=Ab -> ∀(i:Af)(pI:Ac (Ag × AB))(s:Al)(Y:St)(H:Hp)(E:Ah->Al->Prop),Inv X pI Y H s->(∀ b∈fp,Fm X pI H b)->tn i s.heap->J.stop i H ->
  AE (model P w) X.A (F9 (.ref it)) (λr s1=>r=Ad/\Inv X pI Y H s1) E s
 self : ∀(A:AN)(i:Af)(s:Al)(Q:Ah->Al->Prop)(E:Ah->Al->Prop),tn i s.heap->Q (.ref it) s->AE (model P w) A (HW (.ref it)) Q E s
noncomputable abbrev TI:=St->Hp->(It->Hp->Prop)->Prop
noncomputable def PIE(X:Cx)(pI:Ac (Ag × AB))(Y:St)(tg:Am)(R:It->Hp->Prop)(itv:Ah)(s2:Al):Prop:=
 ∃(it:Ag)(fp:Ac Ag)(tn:Af->As->Prop)(J:It)(H':Hp),itv = .ref it/\Inv X pI Y H' s2/\Turn X.prog X.w X.K tg J fp it tn/\tn 0 s2.heap/\(∀ b∈fp,Fm X pI H' b)/\R J H'
noncomputable def PI(X:Cx)(tg iter:Am)(wi:TI):Prop:=
 ∀(pI:Ac (Ag × AB))(s:Al)(Y:St)(H:Hp)(R:It->Hp->Prop),Inv X pI Y H s->wi Y H R ->
  AE (model X.prog X.w) X.A (eval iter X.env) (λv s1=>AE (model X.prog X.w) X.A (HW v) (PIE X pI Y tg R) X.xe s1) X.xe s
theorem LI{A:AN}{E:Ah->Al->Prop}{n:Ce}{vs:AW Ah}(ho:s.heap.get? it=Aa o)(hc:o.cls = .type n)(hd:o.data = .fields vs)(hn:["enumerate", "zip", "dict_itemiterator", "dict_reverseitemiterator", "odict_iterator", "itertools.zip_longest", "itertools.pairwise"].contains n=Ae)(hQ:Q () s):AE M A (EN tg (.ref it) u) Q E s:=by
  unfold EN;cases tg <;> first
    |exact AY hQ
    | (cases u <;> first
        |exact AY hQ
        | (refine Ap (wpAny_load ho ?_)
           rw[hc,hd];show AE M A (if (["enumerate", "zip", "dict_itemiterator", "dict_reverseitemiterator", "odict_iterator", "itertools.zip_longest", "itertools.pairwise"].contains n&&vs[0]? == Aa (Cn _))=Ab then _ else _) Q E s
           rw[AL (by intro h;rw[hn,Bool.false_and]at h;cases h)]
           exact AY hQ))
noncomputable def Itl(K:Fg)(a:Ag):It:=
 ⟨λi H => ∃ xs x,SqL K H a xs/\xs[i]? = Aa x,λi H x H'=>H'=H /\ ∀ xs,SqL K H a xs->xs[i]? = Aa x,λi H => ∃ xs,SqL K H a xs/\xs.length<=i⟩
noncomputable def Itt(K:Fg)(a:Ag):It:=
 ⟨λi H => ∃ xs x,SqT K H a xs/\xs[i]? = Aa x,λi H x H'=>H'=H /\ ∀ xs,SqT K H a xs->xs[i]? = Aa x,λi H => ∃ xs,SqT K H a xs/\xs.length<=i⟩
noncomputable def Itr(lo:Aj)(n:Af):It:=⟨λi _=>i<n,λi H x H'=>H'=H/\x = .int (lo+i),λi _=>n<=i⟩
theorem S7{w:AH}{K:Fg}(a it:Ag):Turn P w K tg (Itl K a) [it] it (λi h=>h.IsListIter it a i) where
 mem:=by simp
 obj:=λi h st b hb=>by
  have e:b=it:=by simpa using hb
  subst e;obtain⟨o,e,c,d⟩:=st;exact⟨o,e,λv z=>by rw[d]at z;cases z⟩
 keep:=λi h h' st k=>st.at λo e=>k it (by simp) o e
 item:=by
  intro X hP hw hK hc i pI s Y H E I hf st hg;subst hP hw hK;obtain⟨xs,x,hq,hx⟩:=hg;obtain⟨its,rv,p,hz⟩:=I.list hq;obtain⟨u,hu,ru⟩:=rv.get hx;obtain⟨f0,f1,f2,f3,f4,f5⟩:=hf it (by simp)
  refine SH st p.isList (x:=u) (by simpa using hu) λh' st' sb => ?_
  have I1:Inv X pI Y H {s with heap:=h'}:=I.turned (t':=s.toks) (λb o hb e=>(sb.2 b hb).trans e) f0 f1 f3 f4 f5
  obtain⟨o,e,c,d⟩:=id st';exact⟨u,rfl,LI (s := {s with heap:=h'}) e c d (by decide) ⟨x,H,I1,ru,⟨rfl,λys hy=>by rw[I.list_inj hy hq];exact hx⟩,st',λb hb=>(hf b hb).1⟩⟩
 done:=by
  intro X hP hw hK hc i pI s Y H E I hf st hg;subst hP hw hK;obtain⟨xs,hq,hx⟩:=hg;obtain⟨its,rv,p,hz⟩:=I.list hq;obtain⟨f0,f1,f2,f3,f4,f5⟩:=hf it (by simp)
  have hl:=rv.length;exact SG (I.ok.hd hc) st p.isList (by simp;omega) λh' eb=>⟨rfl,I.turned (t':=s.toks) (λb o hb e=>eb b o hb e) f0 f1 f3 f4 f5⟩
 self:=λ_ _ _ _ _ st h=>wpAny_pyIter_listiter st h
theorem Te{w:AH}{K:Fg}(a it:Ag):Turn P w K tg (Itt K a) [it] it (λi h=>h.IsTupleIter it a i) where
 mem:=by simp
 obj:=λi h st b hb=>by
  have e:b=it:=by simpa using hb
  subst e;obtain⟨o,e,c,d⟩:=st;exact⟨o,e,λv z=>by rw[d]at z;cases z⟩
 keep:=λi h h' st k=>st.at λo e=>k it (by simp) o e
 item:=by
  intro X hP hw hK hc i pI s Y H E I hf st hg;subst hP hw hK;obtain⟨xs,x,hq,hx⟩:=hg;obtain⟨its,rv,p,hz⟩:=I.tuple hq;obtain⟨u,hu,ru⟩:=rv.get hx;obtain⟨f0,f1,f2,f3,f4,f5⟩:=hf it (by simp)
  refine wpAny_pyNext_tuple_item st (show s.heap.IsTuple a its.toArray from p) (x:=u) (by simpa using hu) λh' st' sb => ?_
  have I1:Inv X pI Y H {s with heap:=h'}:=I.turned (t':=s.toks) (λb o hb e=>(sb.2 b hb).trans e) f0 f1 f3 f4 f5
  obtain⟨o,e,c,d⟩:=id st';exact⟨u,rfl,LI (s := {s with heap:=h'}) e c d (by decide) ⟨x,H,I1,ru,⟨rfl,λys hy=>by rw[I.tuple_inj hy hq];exact hx⟩,st',λb hb=>(hf b hb).1⟩⟩
 done:=by
  intro X hP hw hK hc i pI s Y H E I hf st hg;subst hP hw hK;obtain⟨xs,hq,hx⟩:=hg;obtain⟨its,rv,p,hz⟩:=I.tuple hq;obtain⟨f0,f1,f2,f3,f4,f5⟩:=hf it (by simp)
  have hl:=rv.length;exact wpAny_pyNext_tuple_end (I.ok.hd hc) st (show s.heap.IsTuple a its.toArray from p) (by simp;omega) λh' eb=>⟨rfl,I.turned (t':=s.toks) (λb o hb e=>eb b o hb e) f0 f1 f3 f4 f5⟩
 self:=λ_ _ _ _ _ st h=>wpAny_pyIter_tupleiter st h
theorem Tf{w:AH}{K:Fg}(it:Ag)(lo:Aj)(n:Af):Turn P w K tg (Itr lo n) [it] it (λi h=>IsRangeIter h it (lo+(i:Af)*1) ((n:Aj)-(i:Af)) 1) where
 mem:=by simp
 obj:=λi h st b hb=>by
  have e:b=it:=by simpa using hb
  subst e;exact⟨_,st,λv z=>by
   have z':Data.fields _=HN v:=z;cases z'⟩
 keep:=λi h h' st k=>k it (by simp) _ st
 item:=by
  intro X hP hw hK hc i pI s Y H E I hf st hg;subst hP hw hK;obtain⟨f0,f1,f2,f3,f4,f5⟩:=hf it (by simp)
  have W:=Walks.range (prog:=X.prog) (w:=X.w) (I.ok.hd hc) it lo 1 n;refine W.item i s _ _ hg st λv h' tk hv st' kk => ?_
  obtain⟨t,rfl⟩:=hv;have I1:Inv X pI Y H {s with heap:=h',toks:=tk}:=I.turned (λb o hb e=>kk b o (by simpa using hb) e) f0 f1 f3 f4 f5
  refine⟨_,rfl,LI (s := {s with heap:=h',toks:=tk}) (n := "range_iterator") st' rfl rfl (by decide) ⟨.int (lo+i),H,I1,⟨t,?_⟩,⟨rfl,rfl⟩,st',λb hb=>(hf b hb).1⟩⟩
  rw[GS]
 done:=by
  intro X hP hw hK hc i pI s Y H E I hf st hg;subst hP hw hK;obtain⟨f0,f1,f2,f3,f4,f5⟩:=hf it (by simp)
  exact wpAny_pyNext_range_end (I.ok.hd hc) st (by have:n<=i:=hg;omega) λh' eb=>⟨rfl,I.turned (t':=s.toks) (λb o hb e=>eb b o hb e) f0 f1 f3 f4 f5⟩
 self:=λ_ _ _ _ _ st h=>wpAny_pyIter_rangeiter st h
section
variable{X:Cx}{tg:Am}
theorem Nn{R:It->Hp->Prop}{E:Ah->Al->Prop}{lo hi:Aj}{t u v:CB}{tk:Af}(I:Inv X pI Y H s)(h1 : -(2 ^ 62)<=lo)(h2:lo<2 ^ 62)(h3 : -(2 ^ 62)<=hi)(h4:hi<2 ^ 62)(q:R (Itr lo (hi-lo).toNat) H):AE (model X.prog X.w) X.A (HW (.ref s.heap.objs.size)) (PIE X pI Y tg R) E { s with heap:=s.heap.push { cls := .type "range",data := .fields #[.int lo t,.int hi u,.int 1 v] },toks:=tk }:=by
 refine wpAny_pyIter_range (IsRange.new ..) (small_one h1 h2 h3 h4) ?_;have I1:Inv X pI Y H { s with heap:=s.heap.push { cls := .type "range",data := .fields #[.int lo t,.int hi u,.int 1 v] },toks:=tk }:=I.kept λb o e=>Aq _ e
 refine⟨(s.heap.push { cls := .type "range",data := .fields #[.int lo t,.int hi u,.int 1 v] }).objs.size,[(s.heap.push { cls := .type "range",data := .fields #[.int lo t,.int hi u,.int 1 v] }).objs.size],_,_,H,rfl,
  I1.kept (t':=tk) λb o e=>Aq _ e,Tf _ lo (hi-lo).toNat,?_,λb hb => ?_,q⟩
 .have e1:lo+((0:Af):Aj)*1=lo:=by simp
  have e2:(((hi-lo).toNat:Af):Aj)-((0:Af):Aj)=Builtin.Range.rangeSize lo hi 1:=by rw[rangeSize_one];split <;> omega
  show IsRangeIter _ _ (lo+((0:Af):Aj)*1) ((((hi-lo).toNat:Af):Aj)-((0:Af):Aj)) 1;rw[e1,e2];exact AC _ rfl
 .have e:b=(s.heap.push { cls := .type "range",data := .fields #[.int lo t,.int hi u,.int 1 v] }).objs.size:=by simpa using hb
  subst e;exact I1.fpOk (AS _) (I1.hok.fresh (AS _))
noncomputable def Z_0(ta:TA):TI:=λY H R=>ta Y H λvs H1 => ∃ j:Aj,vs=[.int j] /\ -(2 ^ 62)<=j/\j<2 ^ 62/\R (Itr 0 j.toNat) H1
noncomputable def ZZ(ta:TA):TI:=λY H R=>ta Y H λvs H1 => ∃ i j:Aj,vs=[.int i,.int j]/\(-(2 ^ 62)<=i/\i<2 ^ 62 /\ -(2 ^ 62)<=j/\j<2 ^ 62)/\R (Itr i (j-i).toNat) H1
theorem Tx{a:Am}{p:Az}(hg:Gl X "range")(hm:X.mg "range" = Ad)(ha:PA X [a] ta)(hs:At [a] X.env=[(Ae,eval a X.env)]:=by rfl):PI X tg (.Call (.Name "range" p) [a] [] pos) (Z_0 ta):=by
 intro pI s Y H R I h;refine Call_ (Ht I hg hm boot_range (CH (thn (ha pos pI s Y H _ I h) λus s1 ⟨vs,H1,I1,r1,q1⟩ => ?_) hs rfl))
 obtain⟨j,e,q1,q2,q⟩:=q1;subst e;cases r1 with
 |cons r rr=>
  cases rr;obtain⟨t,rfl⟩:=r;exact call_range_1 (Nn I1 (by omega) (by omega) q1 q2 (by simpa using q))
theorem Tw{a b:Am}{p:Az}(hg:Gl X "range")(hm:X.mg "range" = Ad)(ha:PA X [a,b] ta)(hs:At [a,b] X.env=[(Ae,eval a X.env),(Ae,eval b X.env)]:=by rfl)(hs2:At [b] X.env=[(Ae,eval b X.env)]:=by rfl):
  PI X tg (.Call (.Name "range" p) [a,b] [] pos) (ZZ ta):=by
 intro pI s Y H R I h;refine Call_ (Ht I hg hm boot_range (CH (thn (ha pos pI s Y H _ I h) λus s1 ⟨vs,H1,I1,r1,q1⟩ => ?_) (by rw[hs,hs2]) (by rw[hs2];rfl)))
 obtain⟨i,j,e,⟨q1,q2,q3,q4⟩,q⟩:=q1;subst e;cases r1 with
 |cons r rr=>
  cases rr with
  |cons r' rr=>
   cases rr;obtain⟨t,rfl⟩:=r;obtain⟨t',rfl⟩:=r';exact call_range_2 (Nn I1 q1 q2 q3 q4 q)
noncomputable def bB(wi:TI)(g:TG)(tb:TS):TS:=λD Y H=>wi Y H λJ H1 => ∃ W:Af->Af->St->Hp->Prop,(∃ m,W 0 m Y H1) /\ ∀ i m Y H,W i m Y H ->
 (J.stop i H/\D.nx Y H)\/(J.go i H /\ ∃ N:St->Hp->Prop,(∀ Y' H',N Y' H' -> ∃ m',m'<m/\W (i+1) m' Y' H') /\ ∀ x H',J.yld i H x H'->g x Y H' λY2 H2=>tb {D with nx:=N,ct:=N,bk:=D.nx} Y2 H2)
noncomputable def G1(fp:Ac Ag)(h:As):Ac (Ag × AB):=fp.filterMap λb=>(h.get? b).map λo=>(b,o)
theorem IL(hb:b∈fp)(e:h.get? b=Aa o):(b,o)∈G1 fp h:=List.mem_filterMap.mpr ⟨b,hb,by rw[e];rfl⟩
theorem MV{p:Ag × AB}(hp:p∈G1 fp h):p.1∈fp/\h.get? p.1=Aa p.2:=by
 obtain⟨b,hb,e⟩:=List.mem_filterMap.mp hp;cases q:h.get? b with
 |none=>rw[q]at e;cases e
 |some o=>
  rw[q]at e;have e':(b,o)=p:=AQ e;subst e';exact⟨hb,q⟩
theorem Inv.pinned(I:Inv X pI Y H s)(hf : ∀ b∈fp,Fm X pI H b)(ho : ∀ b∈fp,∃ o,s.heap.get? b=Aa o /\ ∀ v,o.data ≠ .cell v):Inv X (pI++G1 fp s.heap) Y H s:=
 I.pins_of λp hp=>(QR.mp hp).elim (λz=>I.pin p (A2 _ z)) λz=>by
  obtain⟨hb,e⟩:=MV z;obtain⟨f0,f1,f2,_⟩:=hf p.1 hb;obtain⟨o,e',d⟩:=ho p.1 hb;rw[e]at e';cases e';exact⟨e,f0,f1,f2,d⟩
theorem Inv.unpinned{pl:Ac (Ag × AB)}(I:Inv X (pI++pl) Y H s):Inv X pI Y H s:=I.pins_of λp hp=>I.pin p (A2 _ (QS _ hp))
theorem W4{iter:Am}{wi:TI}{g:TG}{tb:TS}(hp:EB (model X.prog X.w) X.A X.env X.xe)(hc:X.calm=Ab)(hi:PI X tg iter wi)(hg:PG X tg g)(hb:PSs X body tb)(hs : ∀ x,Ca iter X.env x=pure x:=by intro _;rfl):PS X (.For tg iter body [] pos) (bB wi g tb):=by
 intro pI s Y H D I h;refine wpAny_For (thn (hi pI s Y H _ I h) λv s1 h1=>thn h1 λitv s2 h2 => ?_) hs
 obtain⟨it,fp,tn,J,H2,e,I2,T,st2,f2,W,⟨m0,w0⟩,turn⟩:=h2;subst e
 -- what stays Ab of the iterator's objects through the loop
 have stat : ∀{H':Hp},(∀ b∈fp,H' b=Ad) -> ∀ b∈fp,Fm X pI H' b:=λhn b hb=>⟨hn b hb,(f2 b hb).2⟩
 refine codeAny_forLoop_any (λn s' => ∃ i Y' H',Inv X pI Y' H' s'/\tn i s'.heap/\(∀ b∈fp,H' b=Ad)/\W i n Y' H') ?_ m0 ⟨0,Y,H2,I2,st2,λb hb=>(f2 b hb).1,w0⟩
 rintro n s3 ⟨i,Y3,H3,I3,st3,fr3,w3⟩;rcases turn i n Y3 H3 w3 with ⟨stop,qn⟩|⟨go,N,hN,step⟩
 .refine DT hp (thn (T.done X rfl rfl rfl hc i pI s3 Y3 H3 X.xe I3 (stat fr3) st3 stop) λr s4 ⟨hr,I4⟩ => ?_)
  subst hr;exact Sz ⟨Y3,H3,I4,qn⟩
 .refine DT hp (thn (T.item X rfl rfl rfl hc i pI s3 Y3 H3 X.xe I3 (stat fr3) st3 go) λr s4 ⟨u,hr,h4⟩ => ?_)
  subst hr;refine DT hp (thn h4 λ_ s5 ⟨x,H5,I5,r5,y5,st5,fr5⟩ => ?_)
  have I5':=I5.pinned (stat fr5) (T.obj _ _ st5);refine DT hp (thn (hg _ s5 Y3 H5 x u _ I5' r5 (step x H5 y5)) λ_ s6 ⟨Y6,H6,I6,q6⟩ => ?_)
  refine DT hp (thn (hb _ s6 Y6 H6 _ I6 q6) λf s7 q7 => ?_)
  have again : ∀{Y7:St}{H7:Hp},Inv X (pI++G1 fp s5.heap) Y7 H7 s7->N Y7 H7 -> ∃ m,m<n /\ ∃ i Y' H',Inv X pI Y' H' s7/\tn i s7.heap/\(∀ b∈fp,H' b=Ad)/\W i m Y' H':=λ{Y7 H7} I7 n7=>by
   obtain⟨m',hm,w7⟩:=hN Y7 H7 n7;refine⟨m',hm,i+1,Y7,H7,I7.unpinned,T.keep _ _ _ st5 λb hb o e=>(I7.pin (b,o) (A2 _ (A2 _ (IL hb e)))).1,λb hb => ?_,w7⟩
   obtain⟨o,e,d⟩:=T.obj _ _ st5 b hb;exact(I7.pin (b,o) (A2 _ (A2 _ (IL hb e)))).2.1
  cases f with
  |next=>obtain⟨Y7,H7,I7,n7⟩:=q7;exact again I7 n7
  |cont=>obtain⟨Y7,H7,I7,n7⟩:=q7;exact again I7 n7
  |brk=>obtain⟨Y7,H7,I7,q7⟩:=q7;exact⟨Y7,H7,I7.unpinned,q7⟩
  |ret v=>obtain⟨x7,Y7,H7,I7,r7,q7⟩:=q7;exact⟨x7,Y7,H7,I7.unpinned,r7,q7⟩
end
noncomputable abbrev R2:=V->V->Hp->VK->Prop
variable{r r':R2}
noncomputable def OpR(X:Cx)(f:Ah->Ah->Sem Ah)(r:R2):Prop:=
 ∀(pI:Ac (Ag × AB))(s:Al)(Y:St)(H:Hp)(x y:V)(v u:Ah)(Q:VK),Inv X pI Y H s->A7 x v->A7 y u->r x y H Q ->
  AE (model X.prog X.w) X.A (f v u) (EP X pI Y Q) X.xe s
noncomputable def GN(X:Cx)(f:Ah)(r:Ac V->Hp->VK->Prop):Prop:=
 ∀(pI:Ac (Ag × AB))(s:Al)(Y:St)(H:Hp)(xs:Ac V)(us:Ac Ah)(Q:VK),Inv X pI Y H s->AU xs us->r xs H Q ->
  AE (model X.prog X.w) X.A (call f us) (EP X pI Y Q) X.xe s
noncomputable def aU(X:Cx)(r:V->Hp->(Ak->Hp->Prop)->Prop):Prop:=
 ∀(pI:Ac (Ag × AB))(s:Al)(Y:St)(H:Hp)(x:V)(v:Ah)(Q:Ak->Hp->Prop),Inv X pI Y H s->A7 x v->r x H Q ->
  AE (model X.prog X.w) X.A (truthy v) (TP X pI Y Q) X.xe s
noncomputable def tOp(r:R2)(ta tb:TE):TE:=λY H Q=>ta Y H λx H1=>tb Y H1 λy H2=>r x y H2 Q
noncomputable def rI(C:Aj->Aj->Prop)(g:Aj->Aj->V):R2:=λx y H Q => ∃ i j,x = .int i/\y = .int j/\C i j/\Q (g i j) H
noncomputable def rI0(g:Aj->Aj->V):R2:=λx y H Q => ∃ i j,x = .int i/\y = .int j/\Q (g i j) H
section
variable{X:Cx}{a b c:Am}{ta tb tc:TE}{pos:Az}
theorem Mk(ha:PE X a ta)(hb:PE X b tb){R:V->V->Hp->Prop}(I:Inv X pI Y H s)(h:ta Y H λx H1=>tb Y H1 λy H2=>R x y H2){Q:Ah->Al->Prop}(hf : ∀ v u s2 x y H2,Inv X pI Y H2 s2->A7 x v->A7 y u->R x y H2->AE (model X.prog X.w) X.A (f v u) Q X.xe s2):AE (model X.prog X.w) X.A (eval a X.env) (λv s₁=>AE (model X.prog X.w) X.A (eval b X.env) (λu s₂=>AE (model X.prog X.w) X.A (f v u) Q X.xe s₂) X.xe s₁) X.xe s:=by
 refine thn (ha pI s Y H _ I h) λv s1 ⟨x,H1,I1,r1,q1⟩ => ?_
 refine thn (hb pI s1 Y H1 _ I1 q1) λu s2 ⟨y,H2,I2,r2,q2⟩ => ?_
 exact hf v u s2 x y H2 I2 r1 r2 q2
theorem O9{op:Eo}(ho:OpR X (Bw op) r)(ha:PE X a ta)(hb:PE X b tb):PE X (.BinOp a op b pos) (tOp r ta tb):=by
 intro pI s Y H Q I h;exact wpAny_BinOp (Mk ha hb I h λv u s2 x y H2 I2 rx ry q=>ho pI s2 Y H2 x y v u Q I2 rx ry q)
theorem opI{C:Aj->Aj->Prop}(rule : ∀(i j:Aj)(t u:CB)(s:Al)(Q:Ah->Al->Prop)(E:Ah->Al->Prop),C i j->Q (.int (g i j) s.toks) {s with toks:=s.toks+1}->AE (model X.prog X.w) X.A (f (.int i t) (.int j u)) Q E s):OpR X f (rI C λi j =>.int (g i j)):=by
 intro pI s Y H x y v u Q I rx ry h;obtain⟨i,j,rfl,rfl,hc,q⟩:=h;obtain⟨t,rfl⟩:=rx;obtain⟨t',rfl⟩:=ry;exact rule i j t t' s _ _ hc ⟨.int (g i j),H,I.tok _,⟨_,rfl⟩,q⟩
theorem PQ(rule : ∀(i j:Aj)(t u:CB)(s:Al)(Q:Ah->Al->Prop)(E:Ah->Al->Prop),Q (.int (g i j) s.toks) {s with toks:=s.toks+1}->AE (model X.prog X.w) X.A (f (.int i t) (.int j u)) Q E s):OpR X f (rI0 λi j =>.int (g i j)):=by
 intro pI s Y H x y v u Q I rx ry h;obtain⟨i,j,rfl,rfl,q⟩:=h;obtain⟨t,rfl⟩:=rx;obtain⟨t',rfl⟩:=ry;exact rule i j t t' s _ _ ⟨.int (g i j),H,I.tok _,⟨_,rfl⟩,q⟩
theorem JP{g:Aj->Aj->Ak}(rule : ∀(i j:Aj)(t u:CB)(s:Al)(Q:Ah->Al->Prop)(E:Ah->Al->Prop),Q (.bool (g i j)) s->AE (model X.prog X.w) X.A (f (.int i t) (.int j u)) Q E s):OpR X f (rI0 λi j =>.bl (g i j)):=by
 intro pI s Y H x y v u Q I rx ry h;obtain⟨i,j,rfl,rfl,q⟩:=h;obtain⟨t,rfl⟩:=rx;obtain⟨t',rfl⟩:=ry;exact rule i j t t' s _ _ ⟨.bl (g i j),H,I,rfl,q⟩
noncomputable def aZ(i j:Aj):Prop:=0<j/\j<1073741824
noncomputable def aY(i j:Aj):Prop:=0<=j/\j<=1000000/\i.natAbs<2 ^ 64
noncomputable def JV(i j:Aj):Prop:=(-(2 ^ 64)<i/\i<2 ^ 64)\/(-(2 ^ 64)<j/\j<2 ^ 64)
theorem JV.ok{i j:Aj}(h:JV i j):HU i j:=by
 rcases h with ⟨h1,h2⟩|⟨h1,h2⟩
 .exact .of_left (intBits_le_64 h1 h2)
 .exact .of_right (intBits_le_64 h1 h2)
theorem WS:OpR X (Bw .Add) (rI0 λi j => .int (i+j)):=PQ λ_ _ _ _ _ _ _ q=>add_int q
theorem WO:OpR X (Bw .Sub) (rI0 λi j => .int (i-j)):=PQ λ_ _ _ _ _ _ _ q=>sub_int q
theorem Wg:OpR X (Bw .FloorDiv) (rI aZ λi j => .int (i/j)):=opI λi j _ _ _ _ _ hc q=>by
 have h1:(0:Aj)<j:=hc.1;have h2:j<1073741824:=hc.2;exact floordiv_int (by omega) (by rw[Int.fdiv_eq_ediv_of_nonneg i (by omega)];exact q) (.inl (PyProof.noPylong_small (by omega)))
theorem WQ:OpR X (Bw .Mod) (rI (λ_ j=>0<j) λi j => .int (i%j)):=opI λi j _ _ _ _ _ hc q=>by
 have h1:(0:Aj)<j:=hc;exact mod_int' (by omega) (by rw[Int.fmod_eq_emod_of_nonneg i (by omega)];exact q)
theorem WP:OpR X (Bw .Pow) (rI aY λi j => .int (i ^ j.toNat)):=opI λ_ _ _ _ _ _ _ hc q=>pow_int_small hc.1 hc.2.1 hc.2.2 q
end
section
variable{X:Cx}{a b c:Am}{ta tb tc:TE}{pos:Az}
theorem Ox{Q:VK}{k k':Ak}(I:Inv X pI Y H s)(q:Q (.bl k) H)(e:k=k'):EP X pI Y Q (.bool k') s:=by
 subst e;exact⟨.bl k,H,I,rfl,q⟩
theorem Zm:OpR X (BW .Lt) (rI0 λi j => .bl (decide (i<j))):=JP λ_ _ _ _ _ _ _ q=>lt_int q
theorem Zn:OpR X (BW .LtE) (rI0 λi j => .bl (decide (i<=j))):=JP λ_ _ _ _ _ _ _ q=>le_int q
theorem Zo:OpR X (BW .Gt) (rI0 λi j => .bl (decide (j<i))):=JP λ_ _ _ _ _ _ _ q=>gt_int q
theorem Zp:OpR X (BW .GtE) (rI0 λi j => .bl (decide (j<=i))):=JP λ_ _ _ _ _ _ _ q=>ge_int q
theorem WR:OpR X (BW .Is) (λx y H Q=>y = .non/\Q (.bl (decide (x = .non))) H):=by
 intro pI s Y H x y v u Q I rx ry h;obtain⟨rfl,q⟩:=h;cases ry;refine is_none_gen (Ox I q ?_);cases x <;> first
  |(cases rx;rfl)
  |(obtain⟨t,rfl⟩:=rx;rfl)
theorem We:OpR X (BW .IsNot) (λx y H Q=>y = .non/\Q (.bl (!decide (x = .non))) H):=by
 intro pI s Y H x y v u Q I rx ry h;obtain⟨rfl,q⟩:=h;cases ry;refine isnot_none_gen (Ox I q ?_);cases x <;> first
  |(cases rx;rfl)
  |(obtain⟨t,rfl⟩:=rx;rfl)
theorem UW(ho:OpR X (BW op) r)(ha:PE X a ta)(hb:PE X b tb)(hm:Fc op b=Ae):PE X (.Compare a [op] [b] pos) (tOp r ta tb):=by
 intro pI s Y H Q I h;exact wpAny_Compare1 (Mk ha hb I h λv u s2 x y H2 I2 rx ry q=>ho pI s2 Y H2 x y v u Q I2 rx ry q) hm
noncomputable def O3(t:TE):TT:=λY H Q=>t Y H λx H' => ∃ k,x = .bl k/\Q k H'
theorem UQ(ho:OpR X (BW op) r)(ha:PE X a ta)(hb:PE X b tb)(hm:Fc op b=Ae):PT X (.Compare a [op] [b] pos) (O3 (tOp r ta tb)):=by
 intro pI s Y H Q I h;refine wpAny_isTrue_Compare1 (thn (ha pI s Y H _ I h) λv s1 ⟨x,H1,I1,r1,q1⟩=>thn (hb pI s1 Y H1 _ I1 q1) λu s2 ⟨y,H2,I2,r2,q2⟩=>
  thn (ho pI s2 Y H2 x y v u _ I2 r1 r2 q2) λc s3 ⟨z,H3,I3,r3,k,e,q3⟩ => ?_) hm
 subst e;cases r3;exact BX ⟨H3,I3,q3⟩
noncomputable def OJ(r r':R2)(ta tb tc:TE):TE:=λY H Q=>ta Y H λx H1=>tb Y H1 λy H2=>r x y H2 λz H3 => ∃ k,z = .bl k /\
 (if k=Ab then tc Y H3 λw' H4=>r' y w' H4 Q else Q (.bl Ae) H3)
theorem Uv(ho:OpR X (BW op) r)(ho':OpR X (BW op') r')(ha:PE X a ta)(hb:PE X b tb)(hc:PE X c tc)(hm:GA [op,op'] [b,c]=Ae:=by with_unfolding_all rfl):PE X (.Compare a [op,op'] [b,c] pos) (OJ r r' ta tb tc):=by
 intro pI s Y H Q I h;refine Compare_chain (thn (ha pI s Y H _ I h) λv s1 ⟨x,H1,I1,r1,q1⟩=>chain_link (thn (hb pI s1 Y H1 _ I1 q1) λu s2 ⟨y,H2,I2,r2,q2⟩=>
  thn (ho pI s2 Y H2 x y v u _ I2 r1 r2 q2) λd s3 ⟨z,H3,I3,r3,k,e,q3⟩ => ?_)) hm
 subst e;cases r3;refine BX ?_;cases k with
 |false=>exact ite_ff ⟨.bl Ae,H3,I3,rfl,q3⟩
 |true=>exact ite_tt (chain_last (thn (hc pI s3 Y H3 _ I3 q3) λw' s4 ⟨z',H4,I4,r4,q4⟩=>ho' pI s4 Y H4 y z' u w' Q I4 r2 r4 q4))
theorem Uu(ho:OpR X (BW op) r)(ho':OpR X (BW op') r')(ha:PE X a ta)(hb:PE X b tb)(hc:PE X c tc)(hm:GA [op,op'] [b,c]=Ae:=by with_unfolding_all rfl):PT X (.Compare a [op,op'] [b,c] pos) (O3 (OJ r r' ta tb tc)):=by
 intro pI s Y H Q I h;refine isTrue_chain (thn (ha pI s Y H _ I h) λv s1 ⟨x,H1,I1,r1,q1⟩=>test_link (thn (hb pI s1 Y H1 _ I1 q1) λu s2 ⟨y,H2,I2,r2,q2⟩=>
  thn (ho pI s2 Y H2 x y v u _ I2 r1 r2 q2) λd s3 ⟨z,H3,I3,r3,k,e,q3⟩ => ?_)) hm
 subst e;cases r3;refine BX ?_;cases k with
 |false=>
  obtain⟨k',e',q'⟩:=q3;cases e';exact ite_ff ⟨H3,I3,q'⟩
 |true=>
  refine ite_tt (test_last (thn (hc pI s3 Y H3 _ I3 q3) λw' s4 ⟨z',H4,I4,r4,q4⟩=>thn (ho' pI s4 Y H4 y z' u w' _ I4 r2 r4 q4) λd' s5 ⟨z2,H5,I5,r5,k2,e2,q5⟩ => ?_))
  subst e2;cases r5;exact BX ⟨H5,I5,q5⟩
noncomputable def Qi(K:Fg)(x:V)(H:Hp)(k:Ak):Prop:=
  match x with
  |.non=>k=Ae
  |.bl b=>k=b
  |.int i=>k=(i != 0)
  |.str y=>y.length<=sizeLine/\k=((y.length:Aj) != 0)
  |.byt y=>y.size<=sizeLine/\k=((y.size:Aj) != 0)
  |.ref p=>(∃ xs,SqL K H p xs/\k = !xs.isEmpty)\/(∃ xs,SqT K H p xs/\k = !xs.isEmpty) \/ ∃ kvs,H p=Aa (.dK kvs)/\k = !kvs.isEmpty
  |_=>AV
theorem Tk{κ:Type}{kvs:Ac (κ × V)}{vs:Ac (κ × Ah)}(r:KV kvs vs):(!vs.isEmpty) = !kvs.isEmpty:=by
 cases r <;> rfl
theorem MA{its:Ac Ah}(r:AU xs its):(!its.toArray.isEmpty) = !xs.isEmpty:=by
 cases r <;> simp
theorem Hs:(sizeLine:Af)<2 ^ 63:=by rw[Ei];decide
theorem WD:aU X (λx H Q => ∃ k,Qi X.K x H k/\Q k H):=by
 intro pI s Y H x v Q I rx h;obtain⟨k,e,q⟩:=h;have hl:=Hs;have hs:sizeLine=16777216:=Ei;cases x with
 |non=>
  cases rx;have e':k=Ae:=e;subst e';exact truthy_none ⟨H,I,q⟩
 |bl b=>
  cases rx;have e':k=b:=e;subst e';exact BX ⟨H,I,q⟩
 |int i=>
  obtain⟨t,rfl⟩:=rx;have e':k=(i != 0):=e;subst e';exact PySem.P.truthy_int ⟨H,I,q⟩
 |str y=>
  obtain⟨t,rfl⟩:=rx;obtain⟨hy,e'⟩:y.length<=sizeLine/\k=((y.length:Aj) != 0):=e;subst e';exact PySem.P.truthy_str (by omega) ⟨H,I.tok _,q⟩
 |byt y=>
  obtain⟨t,rfl⟩:=rx;obtain⟨hy,e'⟩:y.size<=sizeLine/\k=((y.size:Aj) != 0):=e;subst e';exact PySem.W.truthy_bytes (by omega) ⟨H,I.tok _,q⟩
 |ref p=>
  cases rx;have e':(∃ xs,SqL X.K H p xs/\k = !xs.isEmpty)\/(∃ xs,SqT X.K H p xs/\k = !xs.isEmpty) \/ ∃ kvs,H p=Aa (.dK kvs)/\k = !kvs.isEmpty:=e;rcases e' with ⟨xs,hx,e'⟩|⟨xs,hx,e'⟩|⟨kvs,hx,e'⟩
  .subst e';obtain⟨its,r,pl,hz⟩:=I.list hx;have hlen:=r.length;exact wpAny_truthy_list pl.isList (by simp only[Av];omega) ⟨H,I.tok _,by rw[MA r];exact q⟩
  .subst e';obtain⟨its,r,pl,hz⟩:=I.tuple hx;have hlen:=r.length;exact truthy_tuple pl (by simp only[Av];omega) ⟨H,I.tok _,by rw[MA r];exact q⟩
  .subst e';obtain⟨hz,hS,vs,r,m⟩:kvs.length<=sizeLine/\(p==Hf)=Ae /\ ∃ vs,KV kvs vs/\s.heap.DictOf (Lb X.prog X.w) p vs:=I.hok p _ hx;have hlen:kvs.length=vs.length:=RX r;exact wpAny_truthy_dict hS m (by omega) ⟨H,I.tok _,by rw[Tk r];exact q⟩
 |_=>exact(show AV from e).elim
theorem Ut(ha:PE X a ta)(he : ∀ whole,F6 a X.env whole=(do let v <-whole;GR a.pos;holding [v] (truthy v))):PT X a (λY H Q=>ta Y H λx H' =>∃ k,Qi X.K x H' k/\Q k H'):=by
 intro pI s Y H Q I h;exact isTrue_plain (thn (ha pI s Y H _ I h) λv s1 ⟨x,H1,I1,r1,q1⟩=>WD pI s1 Y H1 x v Q I1 r1 q1) (he _)
theorem Th:OpR X (Bw .Add) (λx y H Q => ∃ i j,x = .str i/\y = .str j/\i.length+j.length<=sizeLine/\Q (.str (i++j)) H):=by
 intro pI s Y H x y v u Q I rx ry h;obtain⟨i,j,rfl,rfl,hz,q⟩:=h;obtain⟨t,rfl⟩:=rx;obtain⟨t',rfl⟩:=ry;exact add_str (λt' tk=>⟨.str (i++j),H,I.tok _,⟨_,rfl⟩,q⟩) hz
theorem G4{x:V}(r:AU [x] us) : ∃ u,us=[u]/\A7 x u:=by
 cases r with
 |cons r1 r2=>cases r2;exact⟨_,rfl,r1⟩
theorem Yz{x:V}(r:AU [x,y] us) : ∃ u w',us=[u,w']/\A7 x u/\A7 y w':=by
 cases r with
 |cons r1 r2=>
  cases r2 with
  |cons r3 r4=>cases r4;exact⟨_,_,rfl,r1,r3⟩
end
structure ObjM (h:As) (x dx C:Ag) (mA:Ai->Ao Ah):Prop where
 obj:h.get? x=Aa (CQ C dx)
 ns:h.Ns1 dx mA
 ne:dx≠x
theorem TD(n:h.Ns1 dx mA) : ∃ od,h.get? dx=Aa od /\ ∀ name,F4 name od=Aa (mA name):=by
 obtain⟨o,es,ep,ho,hd,hk,_,hm⟩:=n;refine⟨o,ho,λname => ?_⟩
 have e:=hm name;unfold nsFind findBy at e;rw[<-Array.find?_toList]at e;unfold F4;rw[hd];dsimp only;split
 .rename_i y q;rw[q]at e;exact congrArg Aa e
 .rename_i q;rw[q]at e;have a:es.toList.any (·.refKey)=Ae:=by
   rw[List.any_eq_false];intro y hy;obtain⟨z,t,hkey⟩:=hk y (Array.mem_toList_iff.mp hy);simp[DictEntry.refKey,hkey]
  have a' : ¬ es.toList.any (·.refKey)=Ab:=by rw[a];exact Aw
  rw[AL a'];exact congrArg Aa e
theorem ObjM.look{x C:Ag}(I:ObjM h x dx C mA) : ∃ od,PySem.W.InstAt h x (CQ C dx) C (Aa od) /\ ∀ name,F4 name od=Aa (mA name):=
 let ⟨od,ho,hl⟩:=TD I.ns
 ⟨od,⟨I.obj,rfl,rfl,ho⟩,hl⟩
section
variable{prog:Ay}{w:AH}{A:AN}{E:Ah->Al->Prop}{s:Al}{K:Fg}{x dx C f:Ag}{mA:Ai->Ao Ah}{name:Ai}{v:Ah}
end
section
variable{P:Ay}{w:AH}{H H':Hp}{h h':As}{a C dx:Ag}{fs fs':Ac (Ai × V)}
end
structure Cls (K:Fg) (C:Ag):Prop where
 pg:Si K C Str.empty=Ab
 hd:PySem.W.hasDictIn K C=Ab
 po:PySem.W.plainOver K C=Ab
 sa:Bb K (.ref C) "__setattr__" = Aa (Aa (.builtin "object.__setattr__"))
theorem Cls.get{K:Fg}{C:Ag}(c:Cls K C)(f:Ai):Si K C f=Ab:=c.pg
section
variable{X:Cx}{pI:Ac (Ag × AB)}{Y:St}{H:Hp}{s:Al}{a C dx:Ag}{fs:Ac (Ai × V)}{f:Ai}{v:V}{A:AN}{E:Ah->Al->Prop}
theorem Inv.made(I:Inv X pI Y H s):Inv X pI Y (upd (upd H s.heap.objs.size (.own (s.heap.objs.size+1))) (s.heap.objs.size+1) (.ins C s.heap.objs.size [])) {s with heap:=(s.heap.push B9).push (CQ C s.heap.objs.size)}:=by
  have e1:(s.heap.push B9).get? s.heap.objs.size=Aa B9:=AC s.heap rfl;have e2:((s.heap.push B9).push (CQ C s.heap.objs.size)).get? (s.heap.objs.size+1)=Aa (CQ C s.heap.objs.size):=by
    have:=AC (s.heap.push B9) (o:=CQ C s.heap.objs.size) rfl
    rwa [By]at this
  have e3:(s.heap.push B9).Ns s.heap.objs.size (λ_=>Ad):=⟨B9,#[],_,e1,rfl,(λe he=>absurd he (by simp)),λ_=>rfl⟩
  have I1:=I.laid (a:=s.heap.objs.size) (o := .own (s.heap.objs.size+1)) (h':=s.heap.push B9) (t':=s.toks) (λb u q=>Aq _ q) (AS _) ⟨_,e1⟩
  refine I1.laid (a:=s.heap.objs.size+1) (o := .ins C s.heap.objs.size []) (t':=s.toks) (λb u q=>Aq _ q) (Gv (By _ _)) ?_
  have ne:s.heap.objs.size≠s.heap.objs.size+1:=AI (Dz _);refine⟨by rw[Bq ne,DZ],FS _,ne,e2,λ_=>Ad,(Heap.Ns1.of_empty e3).at λo q=>Aq _ q,λ_=>True.intro,λy hy=>absurd rfl hy⟩
end
section
variable{X:Cx}{o e value:Am}{f:Ai}{pos pos' tpos:Az}{ta tv:TE}
end
section
variable{X:Cx}{pI:Ac (Ag × AB)}{Y:St}{H:Hp}{s:Al}{A:AN}{E:Ah->Al->Prop}{Q:Ah->Al->Prop}{c:Ah}{b:Ak}
end
structure Room (k:Af) (A:AN):Prop where
 hd:A.handled=Ad
 dp:A.depth+3*k+5<Su
 un:A.units+16*k+200<Bo
 gd:A.guards=Aa []
theorem Room.mono{A:AN}(r:Room k A)(h:j<=k):Room j A:=⟨r.hd,by have:=r.dp;omega,by have:=r.un;omega,r.gd⟩
theorem Room.deeper{A:AN}(r:Room (k+1) A)(env:BM):Room k (A.deeper env):=
 ⟨r.hd,by have:=r.dp;show A.depth+1+3*k+5<_;omega,by have:=r.un;show A.units+3+16*k+200<_;omega,r.gd⟩
theorem Room.depth{A:AN}(r:Room k A):A.depth<Su:=by have:=r.dp;omega
theorem Room.units{A:AN}(r:Room k A):A.units+64<Bo:=by have:=r.un;omega
noncomputable def P5:TA:=λ_ H Q=>Q [] H
noncomputable def LG(ta:TE)(tr:TA):TA:=λY H Q=>ta Y H λx H1=>tr Y H1 λxs H2=>Q (x::xs) H2
section
variable{X:Cx}{e:Am}{es:Ac Am}{te:TE}{t:TA}{pos:Az}
theorem EQ:PA X [] P5:=λ_ _ _ _ H Q I h=>Calls.spliced_nil ⟨[],H,I,.nil,h⟩
theorem Du(ha:PE X e te)(hr:PA X es t)(hs:At (e::es) X.env=(Ae,eval e X.env)::At es X.env:=by rfl):PA X (e::es) (LG te t):=by
 intro pos pI s Y H Q I h;rw[hs];show AE _ _ (spliced ((Ae,eval e X.env)::B2 pos (At es X.env))) _ _ s;refine Calls.spliced_cons (thn (ha pI s Y H _ I h) λu s1 ⟨x,H1,I1,r1,q1⟩ => ?_)
 exact thn (hr pos pI s1 Y H1 _ I1 q1) λus s2 ⟨xs,H2,I2,r2,q2⟩=>⟨x::xs,H2,I2,.cons r1 r2,q2⟩
noncomputable def aD(t:TA):TE:=λY H Q=>t Y H λxs H1=>xs.length<=sizeLine /\ ∀ p,H1 p=Ad->Q (.ref p) (upd H1 p (.tup xs))
noncomputable def aI(t:TA):TE:=λY H Q=>t Y H λxs H1=>xs.length<=sizeLine /\ ∀ p,H1 p=Ad->Q (.ref p) (upd H1 p (.lst xs))
theorem Xa{x1}(h:PA X es t):PE X (.Tuple es x1 pos) (aD t):=by
 intro pI s Y H Q I hq;refine wpAny_Tuple_spliced (thn (h pos pI s Y H _ I hq) λus s1 ⟨xs,H1,I1,r,z,q⟩=>⟨by rw[<-r.length];exact z,?_⟩)
 have hf:H1 s1.heap.objs.size=Ad:=I1.hok.fresh (AS _);refine⟨.ref s1.heap.objs.size,upd H1 s1.heap.objs.size (.tup xs),I1.laid (t':=s1.toks) (λb u e=>Aq _ e) (AS _) ?_,rfl,q _ hf⟩
 exact⟨z,us,r,⟨_,AC _ rfl,rfl,_,rfl⟩⟩
theorem Xf(h:PA X es t):PE X (.List es pos) (aI t):=by
 intro pI s Y H Q I hq;refine wpAny_List_spliced (thn (h pos pI s Y H _ I hq) λus s1 ⟨xs,H1,I1,r,z,q⟩=>⟨by rw[<-r.length];exact z,?_⟩)
 have hf:H1 s1.heap.objs.size=Ad:=I1.hok.fresh (AS _);refine⟨.ref s1.heap.objs.size,upd H1 s1.heap.objs.size (.lst xs),I1.laid (t':=s1.toks) (λb u e=>Aq _ e) (AS _) ?_,rfl,q _ hf⟩
 exact⟨z,us,0,r,AC _ rfl⟩
end
noncomputable abbrev Sp:=Ac V->Hp->VK->XK->Prop
variable{sp:Sp}
noncomputable abbrev CXT:=Ac BM->Hp->Al->XK->Ah->Al->Prop
variable{CX:CXT}
structure Env0 (P:Ay) (w:AH) (K:Fg) (mg:Ai->Ao Ah) (base:As) (A:AN) (outer:Ac BM) (s:Al) (H:Hp):Prop where
 frames:A.frames=Aa outer
 mod:Mod K mg base
 bs : ∀ b o,base.get? b=Aa o->s.heap.get? b=Aa o/\H b=Ad
 bsz:base.objs.size<=s.heap.objs.size
 funs:s.heap.FunFrames base outer
 frf : ∀ b∈frs outer,H b=Ad
 hok:HOk P w H s.heap
 bare:Do s.gens
noncomputable def CE(outer:Ac BM)(P:Ay)(w:AH)(H:Hp)(s:Al)(Q:VK)(u:Ah)(s':Al):Prop:=
 ∃ v H',s'.os=s.os/\Do s'.gens/\Un (frs outer) [] H H' s.heap s'.heap/\HOk P w H' s'.heap/\A7 v u/\Q v H'
noncomputable def CR(CX:CXT)(outer:Ac BM)(P:Ay)(w:AH)(H:Hp)(s:Al)(Q:VK)(E:XK)(r:Gw)(s':Al):Prop:=
  match r with
  |.ok (.ret u)=>CE outer P w H s Q u s'
  |.ok _=>AV
  |.error e=>CX outer H s E e s'
structure FnOk (P:Ay) (w:AH) (K:Fg) (mg:Ai->Ao Ah) (base:As) (CX:CXT) (k:Af) (f:Ag) (fd:Bh) (ps:Ac Ai) (sp:Sp):Prop where
 len : ∀ vs H Q E,sp vs H Q E->vs.length=ps.length
 run : ∀(A:AN)(outer:Ac BM)(s:Al)(H:Hp)(args:Args)(us:Ac Ah)(vs:Ac V)(Q:VK)(E:XK),Room k A->Env0 P w K mg base A outer s H->Dp s fd args (ps.zip us)->AU vs us->sp vs H Q E ->
  D6 (model P w) A (.call (.ref f) args) (CR CX outer P w H s Q E) s
theorem FnOk.imp{w:AH}{K:Fg}{mg:Ai->Ao Ah}{base:As}{f:Ag}{sp':Sp}(F:FnOk P w K mg base CX k f fd ps sp)(h : ∀ vs H Q E,sp' vs H Q E->sp vs H Q E):FnOk P w K mg base CX k f fd ps sp':=
 ⟨λvs H Q E q=>F.len vs H Q E (h _ _ _ _ q),λA outer s H args us vs Q E hr he hb hv hs=>F.run A outer s H args us vs Q E hr he hb hv (h _ _ _ _ hs)⟩
section
variable{X:Cx}{pI:Ac (Ag × AB)}{Y:St}{H:Hp}{s s':Al}
theorem Inv.env0(I:Inv X pI Y H s):Env0 X.prog X.w X.K X.mg X.base X.A X.stack s H:=
 ⟨I.ok.frames,I.ok.mod,I.bs,Cc I.ok.bsz I.sz,I.stack,I.stkFree,I.hok,I.bare⟩
theorem Inv.after{Q:VK}(I:Inv X pI Y H s)(h:CE X.stack X.prog X.w H s Q u s'):EP X pI Y Q u s':=by
 obtain⟨v,H',os,bare,un,hok,r,q⟩:=h;obtain⟨hh,g,d,t,os'⟩:=s';obtain rfl:os'=s.os:=os;exact⟨v,H',I.call (h':=hh) (g':=g) (d':=d) (t':=t) (ch:=[]) un hok bare (λb z=>absurd z (by simp)),r,q⟩
end
noncomputable def O4(sp:Sp)(dvs:Ac V)(E:XK)(t:TA):TE:=λY H Q=>t Y H λvs H1=>sp (vs++dvs) H1 Q E
noncomputable def E3(K:Fg)(fd:Bh)(ps:Ac Ai)(ds:Ac Ah):Prop:=
 ∀(s:Al)(us:Ac Ah),K.In s.heap->(us++ds).length=ps.length->Dp s fd ⟨us,[]⟩ (ps.zip (us++ds))
theorem E3.all{K:Fg}(h : ∀ us:Ac Ah,us.length=ps.length->FC fd ⟨us,[]⟩=pure (ps.zip us)):E3 K fd ps []:=λs us _ hl=>by
 rw[Cp]at hl ⊢;exact .of_eq (h us hl)
noncomputable def GJ(CX:CXT)(X:Cx)(E:XK):Prop := ∀(pI:Ac (Ag × AB))(Y:St)(H:Hp)(s:Al)(e:Ah)(s':Al),Inv X pI Y H s->CX X.stack H s E e s'->X.xe e s'
section
variable{X:Cx}{CX:CXT}{k:Af}{f C:Ag}{fd:Bh}{ps:Ac Ai}{sp:Sp}{dvs:Ac V}{ds:Ac Ah}{E:XK}{x m:Ai}{p pos apos:Az}{e o:Am}{es:Ac Am}{ta:TE}{t:TA}
theorem XC{Q:VK}(F:FnOk X.prog X.w X.K X.mg X.base CX k f fd ps sp)(hr:Room k X.A)(hb:E3 X.K fd ps ds)(hd:AU dvs ds)(hx:GJ CX X E)(I:Inv X pI Y H s)(r:AU vs us)(h:sp (vs++dvs) H Q E):AE (model X.prog X.w) X.A (call (.ref f) us) (EP X pI Y Q) X.xe s:=by
 have r2:AU (vs++dvs) (us++ds):=r.append hd;have hl:(us++ds).length=ps.length:=by rw[<-r2.length];exact F.len _ _ _ _ h
 refine wpAny_call (EM (F.run X.A X.stack s H ⟨us,[]⟩ (us++ds) (vs++dvs) Q E hr I.env0 (hb s us I.kIn hl) r2 h) λr s' hq => ?_)
 cases r with
 |error e=>exact hx pI Y H s e s' I hq
 |ok fl=>
  cases fl with
  |ret u=>exact I.after hq
  |next=>exact BQ hq
  |brk=>exact BQ hq
  |cont=>exact BQ hq
theorem Ja(F:FnOk X.prog X.w X.K X.mg X.base CX k f fd ps sp)(hr:Room k X.A)(hg:Gl X x)(hm:X.mg x=Aa (.ref f))(hk:BK X.K (.ref f)=Ab)(hb:E3 X.K fd ps ds)(hd:AU dvs ds)(hx:GJ CX X E)(ha:PA X (e::es) t)(hdb:(x==("__debug__" : Ai))=Ae:=by decide)(he:At (e::es) X.env=(Ae,eval e X.env)::At es X.env:=by rfl)(hpl:(B2 pos (At es X.env)).any (·.1)=Ae:=by rfl):PE X (.Call (.Name x p) (e::es) [] pos) (O4 sp dvs E t):=by
 intro pI s Y H Q I h;refine DY (Wq I hg hm ?_ hdb);refine PySem.W.callWith_K (h₀:=X.base) I.ok.mod.kin hk (thn (ha pos pI s Y H _ I h) λus s1 ⟨vs,H1,I1,r,q⟩=>⟨I1.kIn,?_⟩) he hpl
 exact XC F hr hb hd hx I1 r q
end
section
variable{X:Cx}{CX:CXT}{k:Af}{f C:Ag}{fd:Bh}{ps ks:Ac Ai}{sp:Sp}{E:XK}{x m:Ai}{p pos apos kpos:Az}{e o:Am}{es:Ac Am}{kws:Ac CA}{te ta:TE}{t tk:TA}{nm:Ao Ai}
variable{g:Ac Ah->Ac Ah->Ac Ah}{gV:Ac V->Ac V->Ac V}
end
structure FnScope (N P:Ac Ai) (sc:Bf):Prop where
 kind:sc.kind = .function
 co:sc.isCoroutine=Ae
 gen:sc.isGenerator=Ae
 nd:N.Nodup
 pre:N.take P.length=P
 par : ∀ x∈P,sc.names.lookup x=Aa .local\/sc.names.lookup x=Aa .cell
 nofree : ∀ y∈sc.names,y.2 ≠ .free
theorem ML{kindOf:Ai->Ao C8}{x:Ai} : ∀{binds:Ac (Ai × Ah)}{m:Ai->Ao Ah},(∀ v,(x,v) ∉ binds)->Gc kindOf binds m x=m x
 |[],_,_=>rfl
 |(n,v)::r,m,h=>by
  unfold Gc;rw[ML λw hw=>h w (AG _ hw)]
  split
  .have:x≠n:=by rintro rfl;exact h v AM
   simp[this]
  .rfl
theorem MN{kindOf:Ai->Ao C8}{x:Ai} : ∀{binds:Ac (Ai × Ah)}{m:Ai->Ao Ah},(∀ v,(x,v) ∉ binds)->Gb kindOf binds m x=m x
 |[],_,_=>rfl
 |(n,v)::r,m,h=>by
  unfold Gb;rw[MN λw hw=>h w (AG _ hw)]
  split
  .rfl
  .have:x≠n:=by rintro rfl;exact h v AM
   simp[this]
theorem MM{kindOf:Ai->Ao C8}{x:Ai}{v:Ah} :∀{P:Ac Ai}{vs:Ac Ah}{i:Af}{m:Ai->Ao Ah},P.Nodup->P[i]? = Aa x->vs[i]? = Aa v->kindOf x=Aa .local->Gc kindOf (P.zip vs) m x=Aa v
 |[],_,_,_,_,h,_,_=>by simp at h
 |_::_,[],_,_,_,_,h,_=>by simp at h
 |p::P,w::vs,0,m,nd,h1,h2,hk=>by
  simp at h1 h2;subst h1;subst h2;show Gc kindOf ((p,w)::P.zip vs) m p=_;unfold Gc;rw[ML λv hv=>(ED.mp nd).1 (EE hv).1,AD hk]
  simp
 |p::P,w::vs,i+1,m,nd,h1,h2,hk=>by
  show Gc kindOf ((p,w)::P.zip vs) m x=_;unfold Gc;exact MM (i:=i) (ED.mp nd).2 (by simpa using h1) (by simpa using h2) hk
theorem MO{kindOf:Ai->Ao C8}{x:Ai}{v:Ah} :∀{P:Ac Ai}{vs:Ac Ah}{i:Af}{m:Ai->Ao Ah},P.Nodup->P[i]? = Aa x->vs[i]? = Aa v->kindOf x≠Aa .local->Gb kindOf (P.zip vs) m x=Aa v
 |[],_,_,_,_,h,_,_=>by simp at h
 |_::_,[],_,_,_,_,h,_=>by simp at h
 |p::P,w::vs,0,m,nd,h1,h2,hk=>by
  simp at h1 h2;subst h1;subst h2;show Gb kindOf ((p,w)::P.zip vs) m p=_;unfold Gb;rw[MN λv hv=>(ED.mp nd).1 (EE hv).1,AL hk]
  simp
 |p::P,w::vs,i+1,m,nd,h1,h2,hk=>by
  show Gb kindOf ((p,w)::P.zip vs) m x=_;unfold Gb;exact MO (i:=i) (ED.mp nd).2 (by simpa using h1) (by simpa using h2) hk
noncomputable def start(N:Ac Ai)(vs:Ac V):St:=vs.map Aa++EZ (N.length-vs.length) Ad
noncomputable def DH(CX:CXT)(P:Ay)(w:AH)(K:Fg)(mg:Ai->Ao Ah)(base:As)(N:Ac Ai)(qual:Ai)(scope:Bf)(f:Ag)(cd:Ah)(A:AN)(outer:Ac BM)(s:Al)(H:Hp)(E:XK):Cx where
 prog:=P
 w:=w
 K:=K
 mg:=mg
 base:=base
 A:=A.deeper (Cw qual scope s.heap.objs.size f cd)
 N:=N
 s₀:=s
 H₀:=H
 env:=Cw qual scope s.heap.objs.size f cd
 outer:=outer
 stack:=Cw qual scope s.heap.objs.size f cd::outer
 ex:=[]
 calm:=Ab
 fn:=λ_=>Ab
 pn:=[]
 xe:=λe s'=>AE (model P w) (A.deeper (Cw qual scope s.heap.objs.size f cd)) (leaving (Cw qual scope s.heap.objs.size f cd) e) (λ_ s''=>CX outer H s E e s'') (λe' s''=>CX outer H s E e' s'') s'
theorem NS{sc:Bf}(h:sc.names.lookup x=Aa .cell) : ∃ c,(Bt n sc.names []).lookup x=Aa c:=by
 have q:=Ef sc.names n [] (.inl h);exact DV.mp q
theorem MX{w:AH}{K:Fg}{mg:Ai->Ao Ah}{base:As}{N ps:Ac Ai}{f:Ag}{cd:Ah}{A:AN}{outer:Ac BM}{s1:Al}{E:XK}(S:FnScope N ps scope)(hd:A.handled=Ad)(e0:Env0 P w K mg base A outer s H)(hl:vs.length=ps.length)(r:AU vs us)(x:InCallC s s.heap.objs.size (Gc (Cw qual scope s.heap.objs.size f cd).kindOf (ps.zip us) λ_=>Ad) (Bt (s.heap.objs.size+1) scope.names []) (Gb (Cw qual scope s.heap.objs.size f cd).kindOf (ps.zip us) λ_=>Ad) s1):Inv (DH CX P w K mg base N qual scope f cd A outer s H E) [] (start N vs) H s1:=by
 have hpl:ps.length<=N.length:=by have:=congrArg List.length S.pre;rw[List.length_take]at this;omega
 obtain⟨h1,tk,rfl,hk⟩:=x.done;have noA : ∀ b:Ag,b ∉ (DH CX P w K mg base N qual scope f cd A outer s H E).ex:=λb z=>absurd (show b∈([]:Ac Ag) from z) (by simp)
 refine⟨⟨e0.mod,S.kind,rfl,rfl,AS _,λy z c h1 h2 => ?_,λy hy => ?_,λy c _ h => ?_,λ_=>hd,Q9 e0.frames,.inr ⟨rfl,rfl⟩,λb z=>absurd z (noA b),e0.bs,e0.bsz,λb _ _=>noA b,λb z=>absurd z (noA b),e0.funs,e0.frf⟩,
  rfl,e0.bare,Un.kept hk,⟨_,x.toInCall.ns,λi y v h1 h2 h3 => ?_⟩,λy c h=>⟨_,x.cell y c h⟩,e0.hok.fresh (AS _),λy c h => ?_,λp hp=>absurd (show p∈([]:Ac (Ag × AB)) from hp) (by simp),e0.hok.kept hk,?_⟩
 .exact name_of_addr x.apart (Br h1) (Br h2)
 .have hy:scope.names.lookup y=Aa .cell\/scope.names.lookup y=Aa .free:=hy;rcases hy with hy|hy
  .exact NS hy
  .exact absurd rfl (S.nofree _ (Br hy))
 .exact DU (x.above y c (Br h))
 .have hi:i<vs.length:=by
   unfold start at h2;by_cases hi:i<vs.length
   .exact hi
   .rw[QN (by simpa using hi)]at h2
    rw[QO]at h2;split at h2 <;> cases h2
  have ha:vs[i]? = Aa v:=by
   unfold start at h2;rw[DR (by simpa using hi),CZ]at h2
   cases e:vs[i]? with
   |none=>rw[e]at h2;cases h2
   |some a=>rw[e]at h2;cases h2;rfl
  obtain⟨u,hu,rv⟩:=r.get ha;have hp:ps[i]? = Aa y:=by
   rw[<-S.pre,List.getElem?_take_of_lt (by omega)];exact h1
  have ndP:ps.Nodup:=by rw[<-S.pre];exact S.nd.sublist (List.take_sublist _ _)
  refine⟨u,rv,?_⟩;rcases S.par y (QT hp) with k|k
  .exact .inl ⟨k,MM ndP hp hu k⟩
  .obtain⟨c,e⟩:=NS (n:=s.heap.objs.size+1) k;refine .inr ⟨.inl k,c,e,?_⟩;have q:=x.cell y c e;rw[MO ndP hp hu (by show scope.names.lookup y≠_;rw[k];decide)]at q
   exact q
 .exact e0.hok.fresh (DU (x.above y c (Br h)))
 .unfold start;show _=N.length;rw[BP,Cb,QP];omega
theorem LL{w:AH}{K:Fg}{mg:Ai->Ao Ah}{base:As}{f:Ag}{name:Ai}{params:DW}{dV kV doc pm cdv ct oc:Ah}{an od:Ao Ag}{osl:AW (Ao Ah)}{N ps:Ac Ai}(lk:K.lookup f=Aa ⟨oc,od,.func (Bp name qual params body scope dV kV doc pm an cdv ct),osl⟩)(hcd:C4 K cdv qual=Ab)(S:FnScope N ps scope)(len : ∀ vs H Q E,sp vs H Q E->vs.length=ps.length)(hbody : ∀(A:AN)(outer:Ac BM)(s:Al)(H:Hp)(vs:Ac V)(Q:VK)(E:XK),Room k (A.deeper (Cw qual scope s.heap.objs.size f cdv))->sp vs H Q E ->
   ∃ t,PSs (DH CX P w K mg base N qual scope f cdv A outer s H E) body t/\t {nx:=λ_ H'=>Q .non H',rt:=Q} (start N vs) H):FnOk P w K mg base CX (k+1) f (Bp name qual params body scope dV kV doc pm an cdv ct) ps sp:=by
 refine⟨len,λA outer s H args us vs Q E hr e0 hb r hsp => ?_⟩
 have hl:=len _ _ _ _ hsp;have KX:K.In s.heap:=e0.mod.kin.keeps λb o e=>(e0.bs b o e).1
 have lim:s.heap.NoLimit:=e0.mod.nolimit.keeps λb o e=>(e0.bs b o e).1
 have hkind : ∀ y∈ps.zip us,scope.names.lookup y.1=Aa .local\/(scope.names.lookup y.1=Aa .cell/\((Bt (s.heap.objs.size+1) scope.names []).lookup y.1).isSome=Ab):=λ⟨n,v⟩ hy=>by
  rcases S.par n (EE hy).1 with q|q
  .exact .inl q
  .exact .inr ⟨q,Ef _ _ _ (.inl q)⟩
 refine So hr.depth (KX _ _ lk) rfl S.co S.gen rfl (Sg KX hcd) (hb _ _ _ _ ?_);refine SD S.kind hkind λenv he s1 x => ?_
 subst he;refine⟨lim.keeps x.toInCall.keep,codeAny_func ?_⟩;obtain⟨t,ht,hq⟩:=hbody A outer s H vs Q E (hr.deeper _) hsp;have I:Inv (DH CX P w K mg base N qual scope f cdv A outer s H E) [] (start N vs) H s1:=MX S hr.hd e0 hl r x;refine BD (ht [] s1 (start N vs) H _ I hq) (λfl s' hs => ?_) λe s' hs=>hs
 have fin : ∀{Y':St}{H':Hp}{v:V}{u:Ah},Inv (DH CX P w K mg base N qual scope f cdv A outer s H E) [] Y' H' s'->A7 v u->Q v H'->CE outer P w H s Q u s':=
  λ{Y' H' v u} J rv q=>⟨v,H',J.os,J.bare,J.base,J.hok,rv,q⟩
 cases fl with
 |ret u=>
  obtain⟨v,Y',H',J,rv,q⟩:=hs;exact fin J rv q
 |next=>
  obtain⟨Y',H',J,q⟩:=hs;exact fin (v:=V.non) (u:=C1) J rfl q
 |brk=>
  obtain⟨_,_,_,q⟩:=hs;exact BQ q
 |cont=>
  obtain⟨_,_,_,q⟩:=hs;exact BQ q
section
variable{X:Cx}{x:Ai}{p pos:Az}{e:Am}{es:Ac Am}{t:TA}{id T:Ce}{r:Ac V->Hp->VK->Prop}
noncomputable def tCB(r:Ac V->Hp->VK->Prop)(t:TA):TE:=λY H Q=>t Y H λvs H1=>r vs H1 Q
theorem Np(hc:GN X (.builtin id) r)(hg:Gl X x)(hm:X.mg x=Ad)(hv:B4 x=Aa (.builtin id))(ha:PA X (e::es) t)(hn:x ≠ "__name__" := by decide)(hdb:(x==("__debug__" : Ai))=Ae:=by decide)(he:At (e::es) X.env=(Ae,eval e X.env)::At es X.env:=by rfl)(hpl:(B2 pos (At es X.env)).any (·.1)=Ae:=by rfl):PE X (.Call (.Name x p) (e::es) [] pos) (tCB r t):=by
 intro pI s Y H Q I h;refine DY (Ht I hg hm hv ?_ hn hdb);exact PyProof.Rows.callWith_builtin1 (thn (ha pos pI s Y H _ I h) λus s1 ⟨vs,H1,I1,r1,q1⟩=>hc pI s1 Y H1 vs us Q I1 r1 q1) he hpl
theorem MU(hc:GN X (.type T) r)(hg:Gl X x)(hm:X.mg x=Ad)(hv:B4 x=Aa (.type T))(ha:PA X (e::es) t)(hn:x ≠ "__name__" := by decide)(hdb:(x==("__debug__" : Ai))=Ae:=by decide)(he:At (e::es) X.env=(Ae,eval e X.env)::At es X.env:=by rfl)(hpl:(B2 pos (At es X.env)).any (·.1)=Ae:=by rfl):PE X (.Call (.Name x p) (e::es) [] pos) (tCB r t):=by
 intro pI s Y H Q I h;refine DY (Ht I hg hm hv ?_ hn hdb);exact CH (thn (ha pos pI s Y H _ I h) λus s1 ⟨vs,H1,I1,r1,q1⟩=>hc pI s1 Y H1 vs us Q I1 r1 q1) he hpl
end
end L2
namespace HT
open PySem PyProof.Rows
section
open PySem.SeqAt
open PySem.AutoSeq1 (wpAny_loadPart')
open PySem.MeetsSeq PySem.MeetsSeq2 PySem.MeetsSeq3
end
section
variable{prog:Ay}{w:AH}{A:AN}{E:Ah->Al->Prop}{s:Al}
theorem cat_tup{t b:Ag}{vs ws:Ac Ah}{Q:Ah->Al->Prop}(ht:HP s.heap t vs.toArray)(hb:HP s.heap b ws.toArray)(hv:vs≠[])(h1:ws=[]->Q (.ref t) s)(h2:ws≠[]->Q (.ref s.heap.objs.size) { s with heap:=s.heap.push { cls := .type "tuple",data := .seq (vs++ws).toArray } })(hsz:vs.length+ws.length<=sizeLine):AE (model prog w) A (Bw .Add (.ref t) (.ref b)) Q E s:=by
 obtain⟨⟨cls,dd,data,sl⟩,ho,hc,n,hd⟩:=id ht;obtain⟨⟨cls2,dd2,data2,sl2⟩,ho2,hc2,n2,hd2⟩:=id hb;simp only at hc hd hc2 hd2;subst hc hd hc2 hd2;have e:vs.toArray++ws.toArray=(vs++ws).toArray:=by simp
 by_cases hw:ws=[]
 .exact Gz ⟨_,ho,rfl⟩ ⟨_,ho2,rfl⟩ Sr seq_tuple_add RQ RN (RI _ _)
   (tuple_addW1 t b vs.toArray ws.toArray n n2 dd dd2 sl sl2 (by simpa using hv) (by simp[hw])) ⟨ho,ho2,h1 hw⟩
 .refine Gz ⟨_,ho,rfl⟩ ⟨_,ho2,rfl⟩ Sr seq_tuple_add RQ RN (RI _ _)
   (tuple_addW2 t b vs.toArray ws.toArray n n2 dd dd2 sl sl2 (by simpa using hv) (by simpa using hw) (by rw[Av,Av];exact hsz)) ⟨ho,ho2,?_⟩
  rw[e];exact h2 hw
end
end HT
namespace L2
open PySem PySem.Spec PyProof.Rows
variable{xs:Ac V}{us its its':Ac Ah}{n t':Af}{i:Aj}{pI:Ac (Ag × AB)}{Y:St}{H:Hp}{s:Al}{p:Ag}
noncomputable abbrev TO:=St->Hp->(Ao Aj->Hp->Prop)->Prop
noncomputable def PO(X:Cx)(e:Ao Am)(t:TO):Prop:=
 ∀(pI:Ac (Ag × AB))(s:Al)(Y:St)(H:Hp)(Q:Ao Aj->Hp->Prop),Inv X pI Y H s->t Y H Q ->
  AE (model X.prog X.w) X.A (evalPart e X.env) (λu s' => ∃ o H',Inv X pI Y H' s'/\IsPart u o/\Q o H') X.xe s
noncomputable def Vv:TO:=λ_ H Q=>Q Ad H
noncomputable def YN(t:TE):TO:=λY H Q=>t Y H λx H1 => ∃ i,x = .int i/\Q (Aa i) H1
section
variable{X:Cx}{e:Am}{te:TE}{lo hi:Ao Am}{tl th:TO}{pos p2:Az}
theorem UU:PO X Ad Vv:=by
 intro pI s Y H Q I h;rw[evalPart_none];exact AY ⟨Ad,H,I,.none,h⟩
theorem UT(h:PE X e te):PO X (Aa e) (YN te):=by
 intro pI s Y H Q I hw;rw[evalPart_some];refine thn (h pI s Y H _ I hw) λu s1 ⟨x,H1,I1,r1,q1⟩ => ?_
 obtain⟨i,rfl,q⟩:=q1;obtain⟨t,rfl⟩:=r1;exact⟨Aa i,H1,I1,.int i t,q⟩
noncomputable def SlR(X:Cx)(r:V->Ao Aj->Ao Aj->Hp->VK->Prop):Prop:=
 ∀(pI:Ac (Ag × AB))(s:Al)(Y:St)(H:Hp)(x:V)(v vl vu:Ah)(lo hi:Ao Aj)(sl:Ag)(Q:VK),Inv X pI Y H s->A7 x v->s.heap.IsSliceOf sl vl vu .none->IsPart vl lo->IsPart vu hi->r x lo hi H Q ->
  ∃ T id,typeLookup (.type T) "__getitem__" = pure (Aa (.builtin id))/\s.TypeIs v T/\AE (model X.prog X.w) X.A (getItem v (.ref sl)) (EP X pI Y Q) X.xe s
theorem SlR.or{r r':V->Ao Aj->Ao Aj->Hp->VK->Prop}(h:SlR X r)(h':SlR X r'):SlR X (λx lo hi H Q=>r x lo hi H Q\/r' x lo hi H Q):=by
 intro pI s Y H x v vl vu lo hi sl Q I rx hs pl pu q;rcases q with q|q
 .exact h pI s Y H x v vl vu lo hi sl Q I rx hs pl pu q
 .exact h' pI s Y H x v vl vu lo hi sl Q I rx hs pl pu q
noncomputable def Zb(K:Fg):R2:=λx y H Q => ∃ a b xs ys,x = .ref a/\y = .ref b/\SqT K H a xs/\SqT K H b ys/\xs≠[]/\xs.length+ys.length<=sizeLine /\
 (ys=[]->Q (.ref a) H)/\(ys≠[] -> ∀ p,H p=Ad->Q (.ref p) (upd H p (.tup (xs++ys))))
theorem AU.nil_iff(r:AU xs us):us=[]↔xs=[]:=by
 cases r with
 |nil=>simp
 |cons _ _=>simp
theorem Wh:OpR X (Bw .Add) (Zb X.K):=by
 intro pI s Y H x y v u Q I rx ry h;obtain⟨a,b,xs,ys,rfl,rfl,ha,hb,hx,hz,q1,q2⟩:=h;cases rx;cases ry;obtain⟨its,r1,p1,_⟩:=I.tuple ha;obtain⟨its2,r2,p2,_⟩:=I.tuple hb;refine HT.cat_tup p1 p2 (λz=>hx (r1.nil_iff.mp z)) (λz=>⟨.ref a,H,I,rfl,q1 (r2.nil_iff.mp z)⟩) (λz => ?_) (by rw[<-r1.length,<-r2.length];exact hz)
 refine⟨.ref s.heap.objs.size,_,I.laid (t':=s.toks) (o := .tup (xs++ys)) (λb ob q=>Aq _ q) (AS _) ?_,rfl,q2 (λw=>z (r2.nil_iff.mpr w)) _ (I.hok.fresh (AS _))⟩
 exact⟨by rw[BP];exact hz,_,r1.append r2,Q5 _ _⟩
end
noncomputable def ixN(n:Af)(i:Aj):Ao Af:=if 0<=i then (if i<n then Aa i.toNat else Ad) else if -(n:Aj)<=i then Aa (i+n).toNat else Ad
noncomputable def atI{α:Type}(xs:Ac α)(i:Aj):Ao α:=(ixN xs.length i).bind λj=>xs[j]?
theorem On{j:Af}(h:ixN n i=Aa j):seqIndex? i n=Aa j/\j<n /\ -(n:Aj)<=i/\i<n:=by
 unfold ixN at h;by_cases h0:0<=i
 .rw[AD h0]at h;by_cases h1:i<n
  .rw[AD h1]at h;have e:i.toNat=j:=AQ h;exact⟨by rw[GV h0 h1,e],by omega,by omega,h1⟩
  .rw[AL h1]at h;cases h
 .rw[AL h0]at h;by_cases h1 : -(n:Aj)<=i
  .rw[AD h1]at h;have e:(i+n).toNat=j:=AQ h;exact⟨by rw[GD (by omega) h1,e],by omega,h1,by omega⟩
  .rw[AL h1]at h;cases h
theorem Oc{α:Type}{xs:Ac α}{v:α}(h:atI xs i=Aa v) : ∃ j,seqIndex? i xs.length=Aa j/\xs[j]? = Aa v/\j<xs.length /\ -(xs.length:Aj)<=i/\i<xs.length:=by
 unfold atI at h;cases e:ixN xs.length i with
 |none=>rw[e]at h;cases h
 |some j=>
  rw[e]at h;obtain⟨h1,h2,h3,h4⟩:=On e;exact⟨j,h1,h,h2,h3,h4⟩
noncomputable def Lk(b:Am):Prop := ∀ o i,subscripted b Ae o i=operate [o,i] (getItem o i)
noncomputable def IxR(X:Cx)(r:R2):Prop:=
 ∀(value slice:Am)(pI:Ac (Ag × AB))(s:Al)(Y:St)(H:Hp)(x y:V)(v u:Ah)(Q:VK),Inv X pI Y H s->A7 x v->A7 y u->r x y H Q ->
  subscripted slice Ae v u=operate [v,u] (getItem v u)->AE (model X.prog X.w) X.A (subscriptTail value slice v u) (EP X pI Y Q) X.xe s
noncomputable def MtR(X:Cx)(id:Ce)(r:V->Ac V->Hp->VK->Prop):Prop:=
 ∀(pI:Ac (Ag × AB))(s:Al)(Y:St)(H:Hp)(x:V)(xs:Ac V)(v:Ah)(us:Ac Ah)(Q:VK),Inv X pI Y H s->A7 x v->AU xs us->r x xs H Q ->
  AE (model X.prog X.w) X.A (call (.builtin id) (v::us)) (EP X pI Y Q) X.xe s
section
variable{X:Cx}{a b:Am}{ta tb:TE}{pos:Az}
theorem IxR.or{r r':R2}(h:IxR X r)(h':IxR X r'):IxR X (λx y H Q=>r x y H Q\/r' x y H Q):=by
 intro value slice pI s Y H x y v u Q I rx ry q hs;rcases q with q|q
 .exact h value slice pI s Y H x y v u Q I rx ry q hs
 .exact h' value slice pI s Y H x y v u Q I rx ry q hs
theorem Zi{r:R2}(hr:IxR X r)(ha:PE X a ta)(hb:PE X b tb)(hs:Lk b):PE X (.Subscript a b pos) (tOp r ta tb):=by
 intro pI s Y H Q I h;exact Subscript_ (Mk ha hb I h λv u s2 x y H2 I2 rx ry q=>hr a b pI s2 Y H2 x y v u Q I2 rx ry q (hs _ _))
noncomputable def PL(K:Fg):R2:=λx y H Q => ∃ p xs i v,x = .ref p/\y = .int i/\SqL K H p xs/\atI xs i=Aa v/\Q v H
noncomputable def PK(K:Fg):R2:=λx y H Q => ∃ p xs i v,x = .ref p/\y = .int i/\SqT K H p xs/\atI xs i=Aa v/\Q v H
theorem VU:IxR X (PL X.K):=by
 intro value slice pI s Y H x y v u Q I rx ry h hs;obtain⟨p,xs,i,z,rfl,rfl,hq,he,q⟩:=h;cases rx;obtain⟨t,rfl⟩:=ry;obtain⟨its,r,pl,hz⟩:=I.list hq;obtain⟨j,h1,h2,h3,h4,h5⟩:=Oc he;obtain⟨w,ew,rw'⟩:=r.get h2;have hl:=r.length;have hn:=Hs;have fin:EP X pI Y Q w s:=⟨z,H,I,rw',q⟩;by_cases h0:0<=i
 .have hj:i.toNat=j:=by
   rw[GV h0 h5]at h1;exact AQ h1
  exact item_listR pl.isList h0 (by omega) (by rw[hj];simpa using ew) fin hs
 .have hj:(i+(its.toArray.size:Aj)).toNat=j:=by
   rw[GD (by omega) h4]at h1
   rw[Av,<-hl];exact AQ h1
  exact Q8 (x:=w) pl.isList.typeIs slot_list_getitem.lookup
   (wpAny_getItem_list_neg (Q:=λr s'=>r=w/\EP X pI Y Q r s') pl.isList (by omega) (by rw[Av] <;> omega) (by omega) (by rw[hj];simpa using ew) ⟨rfl,fin⟩) hs
theorem Yh:IxR X (PK X.K):=by
 intro value slice pI s Y H x y v u Q I rx ry h hs;obtain⟨p,xs,i,z,rfl,rfl,hq,he,q⟩:=h;cases rx;obtain⟨t,rfl⟩:=ry;obtain⟨its,r,pl,hz⟩:=I.tuple hq;obtain⟨j,h1,h2,h3,h4,h5⟩:=Oc he;obtain⟨w,ew,rw'⟩:=r.get h2;have hl:=r.length;have hn:=Hs;have fin:EP X pI Y Q w s:=⟨z,H,I,rw',q⟩;exact Q8 (x:=w) pl.typeIs slot_tuple_getitem.lookup
  (getItem_tuple (j:=j) (Q:=λr s'=>r=w/\EP X pI Y Q r s') pl (by omega) (by omega) (by rw[Av,<-hl];exact h1) (by simpa using ew) ⟨rfl,fin⟩) hs
theorem Ti(its:Ac Ah)(n j:Af)(u:Ah):EL (·.setIfInBounds j u) { cls := .type "list",data := .seq its.toArray n } = { cls := .type "list",data := .seq (its.set j u).toArray n }:=by
 simp[EL]
theorem Inv.lst(I:Inv X pI Y H s)(h:H p=Aa (.lst xs)):
  ∃(its:Ac Ah)(n:Af),AU xs its/\s.heap.get? p=Aa { cls := .type "list",data := .seq its.toArray n }/\xs.length<=sizeLine:=by
 obtain⟨z,its,n,r,e⟩:=I.hok p _ h;exact⟨its,n,r,e,z⟩
theorem Inv.lstUpd{ys:Ac V}{n':Af}{f:AB->AB}(I:Inv X pI Y H s)(h:H p=Aa (.lst xs))(ho:s.heap.get? p=Aa { cls := .type "list",data := .seq its.toArray n })(hf:f { cls := .type "list",data := .seq its.toArray n } = { cls := .type "list",data := .seq its'.toArray n' })(r:AU ys its')(hz:ys.length<=sizeLine)(t:Af):Inv X pI Y (upd H p (.lst ys)) {s with heap:=s.heap.update p f,toks:=t}:=by
 have e:(s.heap.update p f).get? p=Aa { cls := .type "list",data := .seq its'.toArray n' }:=by
  rw[CP f ho (by rw[hf] <;> rfl),hf]
 refine I.write (x:=p) (e:=p) (by rw[h];trivial) (.inl rfl) (λb u hb q=>(Cd _ _ (Dd hb)).trans q) ⟨_,e⟩ ?_
 exact⟨hz,its',n',r,e⟩
noncomputable def Y_9:V->V->V->Hp->(Hp->Prop)->Prop:=λo i v H Q => ∃ p xs k j,o = .ref p/\i = .int k/\H p=Aa (.lst xs)/\ixN xs.length k=Aa j/\Q (upd H p (.lst (xs.set j v)))
theorem Ui:Qk X Y_9:=by
 intro pI s Y H o i v ov iv u Q I ro ri rv h;obtain⟨p,xs,k,j,rfl,rfl,hp,hj,q⟩:=h;cases ro;obtain⟨t,rfl⟩:=ri;obtain⟨its,n,r,ho,hz⟩:=I.lst hp;obtain⟨h1,h2,h3,h4⟩:=On hj;have hl:=r.length;have hn:=Hs;have I':Inv X pI Y (upd H p (.lst (xs.set j v))) {s with heap:=s.heap.update p (EL (·.setIfInBounds j u))}:=
  I.lstUpd hp ho (Ti its n j u) (r.set rv j) (by rw[AX];exact hz) s.toks
 by_cases h0:0<=k
 .have hk:k.toNat=j:=by
   rw[GV h0 h4]at h1;exact AQ h1
  exact PySem.W.ki_setAt ho h0 (by omega) (by rw[Av,<-hl];exact h4) (by rw[hk];exact⟨_,I',q⟩)
 .have hk:(k+(its.toArray.size:Aj)).toNat=j:=by
   rw[GD (by omega) h3]at h1
   rw[Av,<-hl];exact AQ h1
  exact PySem.W.ki_setBack ho (by omega) (by rw[Av,<-hl];exact h3) (by omega) (by rw[hk];exact⟨_,I',q⟩)
theorem MH:GN X (.builtin "len") (λxs H Q => ∃ p ys,xs=[.ref p]/\(SqL X.K H p ys\/SqT X.K H p ys)/\Q (.int ys.length) H):=by
 intro pI s Y H xs us Q I r h;obtain⟨p,ys,rfl,hq,q⟩:=h;obtain⟨u,rfl,rx⟩:=G4 r;cases rx;have hn:=Hs;rcases hq with hq|hq
 .obtain⟨its,r',pl,hz⟩:=I.list hq;have hlen:=r'.length;exact Calls.call_len_list pl.isList (by simp only[Av] <;> omega) ⟨.int ys.length,H,I.tok _,⟨s.toks+1,by rw[Av,hlen]⟩,q⟩
 .obtain⟨its,r',pl,hz⟩:=I.tuple hq;have hlen:=r'.length;exact len_tuple pl (by simp only[Av] <;> omega) ⟨.int ys.length,H,I.tok _,⟨s.toks+1,by rw[Av,hlen]⟩,q⟩
theorem SR:GN X (.builtin "len") (λxs H Q => ∃ z,xs=[.str z]/\z.length<=sizeLine/\Q (.int z.length) H):=by
 intro pI s Y H xs us Q I r h;obtain⟨z,rfl,hz,q⟩:=h;obtain⟨u,rfl,t,rfl⟩:=G4 r;have hn:=Hs;exact len_str (by omega) ⟨.int z.length,H,I.tok _,⟨_,rfl⟩,q⟩
theorem MG:GN X (.type "list") (λxs H Q => ∃ p ys,xs=[.ref p]/\(SqL X.K H p ys\/SqT X.K H p ys) /\ ∀ l,H l=Ad->Q (.ref l) (upd H l (.lst ys))):=by
 intro pI s Y H xs us Q I r h;obtain⟨p,ys,rfl,hq,q⟩:=h;obtain⟨u,rfl,rx⟩:=G4 r;cases rx;have fin : ∀(its:Ac Ah),AU ys its->ys.length<=sizeLine -> ∀(h':As)(c':Af),(∀ b o',s.heap.get? b=Aa o'->h'.get? b=Aa o') ->
   h'.get? s.heap.objs.size=Aa { cls := .type "list",dict:=Ad,data := .seq its.toArray c',slots := #[] }->EP X pI Y Q (.ref s.heap.objs.size) {s with heap:=h'}:=λits r' hz h' c' kp e=>
  ⟨.ref s.heap.objs.size,_,I.laid (t':=s.toks) kp (AS _) (show ObjOk X.prog X.w _ h' _ (.lst ys) from ⟨hz,its,c',r',e⟩),rfl,q _ (I.hok.fresh (AS _))⟩
 rcases hq with hq|hq
 .obtain⟨its,r',pl,hz⟩:=I.list hq;have hlen:=r'.length;obtain⟨o,ho,hc,n,hd⟩:=pl.isList;exact call_list_seq p (.inl rfl) ho hc hd (λh' c' kp e=>fin its r' hz h' c' kp e) (by simp only[Av] <;> omega)
 .obtain⟨its,r',pl,hz⟩:=I.tuple hq;have hlen:=r'.length;obtain⟨o,ho,hc,n,hd⟩:=pl;exact call_list_seq p (.inr rfl) ho hc hd (λh' c' kp e=>fin its r' hz h' c' kp e) (by simp only[Av] <;> omega)
theorem Mu:GN X (.type "tuple") (λxs H Q => ∃ p ys,xs=[.ref p]/\((SqL X.K H p ys /\ ∀ l,H l=Ad->Q (.ref l) (upd H l (.tup ys)))\/(SqT X.K H p ys/\Q (.ref p) H))):=by
 intro pI s Y H xs us Q I r h;obtain⟨p,ys,rfl,h⟩:=h;obtain⟨u,rfl,rx⟩:=G4 r;cases rx;rcases h with ⟨hq,q⟩|⟨hq,q⟩
 .obtain⟨its,r',pl,hz⟩:=I.list hq;have hlen:=r'.length;refine call_tuple_list pl.isList (λh' kp => ?_) (by simp only[Av] <;> omega)
  have I1:Inv X pI Y H {s with heap:=h'}:=I.kept (t':=s.toks) kp
  have I2:Inv X pI Y (upd H h'.objs.size (.tup ys)) { s with heap:=h'.push { cls := .type "tuple",data := .seq its.toArray } }:=
   I1.laid (t':=s.toks) (λb o e=>Aq _ e) (AS _) (show ObjOk X.prog X.w _ _ _ (.tup ys) from ⟨hz,its,r',Q5 _ _⟩)
  exact⟨.ref h'.objs.size,_,I2,rfl,q _ (I1.hok.fresh (AS _))⟩
 .obtain⟨its,r',pl,hz⟩:=I.tuple hq;exact call_tuple_same pl ⟨.ref p,H,I,rfl,q⟩
noncomputable def tyV(K:Fg)(T:Ce)(x:V)(H:Hp):Prop:=match x with
  |.str _=>T = "str"
  |.int _=>T = "int"
  |.ref p=>(T = "list" /\ ∃ xs,SqL K H p xs)\/(T = "tuple" /\ ∃ o,K.lookup p=Aa o/\o.cls = .type "tuple" /\ o.dict=Ad) \/
      (T = "dict" /\ ((∃ kvs,H p=Aa (.dK kvs)) \/ ∃ kvs,H p=Aa (.dT kvs)))\/(T = "set" /\ ∃ S n,H p=Aa (.set S n))
  |_=>AV
theorem WA{T:Ce}{x:V}{v:Ah}(I:Inv X pI Y H s)(r:A7 x v)(ty:tyV X.K T x H):s.TypeIs v T/\∀ a,v = .ref a->∃ ob,s.heap.get? a=Aa ob/\ob.dict=Ad:=by
 cases x with
 |str z=>
  obtain⟨t,rfl⟩:=r;cases (show T = "str" from ty)
  exact⟨typeIs_str s z t,λ_ e=>nomatch e⟩
 |int i=>
  obtain⟨t,rfl⟩:=r;cases (show T = "int" from ty)
  exact⟨typeIs_int s i t,λ_ e=>nomatch e⟩
 |ref p=>
  cases r;rcases ty with ⟨rfl,xs,hq⟩|⟨rfl,o,hk,hc,hd⟩|⟨rfl,hk⟩|⟨rfl,S,n,hk⟩
  .obtain⟨its,_,pl,_⟩:=I.list hq;refine⟨pl.isList.typeIs,λa e => ?_⟩
   cases e;obtain⟨o,n,e,c,hd,_⟩:=pl;exact⟨o,e,hd⟩
  .refine⟨⟨o,I.kIn p o hk,hc⟩,λa e => ?_⟩
   cases e;exact⟨o,I.kIn _ o hk,hd⟩
  .have z : ∃ o,s.heap.get? p=Aa o/\o.ExactDict:=by
    rcases hk with ⟨kvs,hk⟩|⟨kvs,hk⟩
    .obtain⟨_,_,_,_,o,_,_,e,ex,_⟩:=I.hok p _ hk;exact⟨o,e,ex⟩
    .obtain⟨_,_,_,_,o,_,_,e,ex,_⟩:=I.hok p _ hk;exact⟨o,e,ex⟩
   obtain⟨o,e,ex⟩:=z;refine⟨⟨o,e,ex.1⟩,λa e2 => ?_⟩
   cases e2;exact⟨o,e,ex.2.1⟩
  .obtain⟨o,_,_,_,e,ex,_⟩:=I.hok p _ hk;refine⟨⟨o,e,ex.1⟩,λa e2 => ?_⟩
   cases e2;exact⟨o,e,ex.2.1⟩
 |_=>exact BQ ty
noncomputable def tBM(K:Fg)(T:Ce)(r:V->Ac V->Hp->VK->Prop)(to:TE)(t:TA):TE:=λY H Q=>to Y H λx H1=>tyV K T x H1/\t Y H1 λxs H2=>r x xs H2 Q
variable{o e:Am}{es:Ac Am}{to:TE}{t:TA}{name:Ai}{apos cpos:Az}{T id:Ce}{r:V->Ac V->Hp->VK->Prop}
theorem Iq(pa:PlainAttrs T)(slot:Slot T name id)(hty:typeOf (.builtin id)=pure (.type "method_descriptor"))(hm:MtR X id r)(ho:PE X o to)(ha:PA X (e::es) t)(hbase:DL o name X.env (eval o X.env)=eval o X.env:=by rfl)(hfew:((B2 cpos (At (e::es) X.env)).all (λx => !x.1)&&(FB cpos (Eh [] X.env)).all (λx=>x.1.isSome)
   && decide ((e::es).length+([]:Ac CA).length+(if ([]:Ac CA).isEmpty then 0 else 1)<30))=Ab:=by rfl)(hline:(apos.endLine==cpos.line)=Ab:=by rfl)(hs:At (e::es) X.env=(Ae,eval e X.env)::At es X.env:=by rfl)(hplain:(B2 cpos (At es X.env)).any (·.1)=Ae:=by rfl):PE X (.Call (.Attribute o name apos) (e::es) [] cpos) (tBM X.K T r to t):=by
 intro pI s Y H Q I h;refine wpAny_Call_method_late hbase hfew hline rfl (thn (ho pI s Y H _ I h) λv s1 ⟨x,H1,I1,r1,ty,q1⟩ => ?_)
 obtain⟨h1,h2⟩:=WA I1 r1 ty;refine⟨T,id,pa,slot,hty,h1,h2,?_⟩;have hA:=ha cpos pI s1 Y H1 _ I1 q1;rw[hs]at hA ⊢;refine Calls.callWith_builtin (by show (Ae||(B2 cpos (At es X.env)).any (·.1))=Ae;rw[hplain] <;> rfl) (Calls.evalArgs_plain ?_)
 exact thn hA λus s2 ⟨vs,H2,I2,r2,q2⟩=>hm pI s2 Y H2 x vs v us Q I2 r1 r2 q2
/- xs.append(e), list.index on a module's tuple .. are MtR facts of 06m -/
end
noncomputable def MtM(X:Cx)(id:Ce)(r:V->Ac V->Hp->VK->Prop):Prop:=
 ∀(pI:Ac (Ag × AB))(s:Al)(Y:St)(H:Hp)(x:V)(xs:Ac V)(v:Ah)(us:Ac Ah)(Q:VK),Inv X pI Y H s->A7 x v->AU xs us->r x xs H Q ->
  AE (model X.prog X.w) X.A (call (.builtin id) (v::us)) (EP X pI Y Q) X.xe s
theorem AU.one : ∀{x:V}{us:Ac Ah},AU [x] us -> ∃ u,us=[u]/\A7 x u
 |_,_,.cons r .nil=>⟨_,rfl,r⟩
theorem AU.zero : ∀{us:Ac Ah},AU [] us->us=[]
 |_,.nil=>rfl
theorem AU.eraseIdx : ∀{xs:Ac V}{us:Ac Ah}(i:Af),AU xs us->AU (xs.eraseIdx i) (us.eraseIdx i)
 |_,_,_,.nil => .nil
 |_,_,0,.cons _ t=>t
 |_,_,i+1,.cons r t => .cons r (AU.eraseIdx i t)
theorem AU.reverse(h:AU xs us):AU xs.reverse us.reverse:=by
 induction h with
 |nil=>exact .nil
 |cons r t ih=>rw[QU,QU];exact AU.append ih (.cons r .nil)
section
variable{X:Cx}{pI:Ac (Ag × AB)}{Y:St}{H:Hp}{s:Al}{l b:Ag}{xs ys zs:Ac V}
theorem Inv.lset{f:AW Ah->AW Ah}(I:Inv X pI Y H s)(hH:H l=Aa (.lst xs))(e:s.heap.get? l=Aa { cls := .type "list",data := .seq its.toArray n })(hf:f its.toArray=its'.toArray)(hv:AU ys its')(hz:ys.length<=sizeLine):Inv X pI Y (upd H l (.lst ys)) {s with heap:=s.heap.update l (EL f),toks:=t'}:=by
 have q:=PySem.IsL.update e f;rw[hf]at q;refine I.write (x:=l) (e:=l) (by rw[hH];exact trivial) (.inl rfl) (λb' u hb hu=>(Cd s.heap (EL f) (Dd hb)).trans hu) ⟨_,q⟩ ?_
 exact⟨hz,its',_,hv,q⟩
theorem Inv.lnew(I:Inv X pI Y H s)(hv:AU ys its)(hz:ys.length<=sizeLine):
  Inv X pI Y (upd H s.heap.objs.size (.lst ys)) { s with heap:=s.heap.push { cls := .type "list",data := .seq its.toArray },toks:=t' }:=
 I.laid (λ_ _ q=>Aq _ q) (AS _) ⟨hz,its,0,hv,AC _ rfl⟩
theorem Inv.fresh(I:Inv X pI Y H s):H s.heap.objs.size=Ad:=I.hok.fresh (AS _)
theorem Inv.lstM(I:Inv X pI Y H s)(hH:H l=Aa (.lst xs)):xs.length<=sizeLine /\ ∃(its:Ac Ah)(n:Af),AU xs its/\xs.length=its.length/\s.heap.get? l=Aa { cls := .type "list",data := .seq its.toArray n }:=by
 obtain⟨z,its,n,r,e⟩:=I.hok l _ hH;exact⟨z,its,n,r,r.length,e⟩
theorem Ny(h:n<=sizeLine):Cq n=Ae:=by
 unfold Cq;exact Cr (by omega)
end
section
variable{X:Cx}
noncomputable def Vh:V->Ac V->Hp->VK->Prop:=λx vs H Q => ∃ l xs y,x = .ref l/\vs=[y]/\H l=Aa (.lst xs)/\xs.length<sizeLine/\Q .non (upd H l (.lst (xs++[y])))
theorem TC:MtM X "list.append" Vh:=by
 intro pI s Y H x vs v us Q I rx rv h;obtain⟨l,xs,y,rfl,rfl,hH,hz,q⟩:=h;cases rx;obtain⟨u,rfl,ru⟩:=rv.one;obtain⟨z,its,n,r,hl,e⟩:=I.lstM hH;refine Ge F.slot_list_append ⟨_,e,rfl⟩ F.entry_list_append (F.args_list_append_2 _ _) (PySem.list_append l its.toArray n u (by rw[Av];omega)) ⟨e,?_⟩
 refine⟨.non,_,I.lset (its':=its++[u]) hH e (by simp) (r.append (.cons ru .nil)) ?_,rfl,q⟩
 rw[BP,QQ];omega
noncomputable def Vg:V->Ac V->Hp->VK->Prop:=λx vs H Q => ∃ l b xs zs,x = .ref l/\vs=[.ref b]/\H l=Aa (.lst xs)/\H b=Aa (.lst zs)/\xs.length+zs.length<=sizeLine/\Q .non (upd H l (.lst (xs++zs)))
theorem TB:MtM X "list.extend" Vg:=by
 intro pI s Y H x vs v us Q I rx rv h;obtain⟨l,b,xs,zs,rfl,rfl,hH,hB,hz,q⟩:=h;cases rx;obtain⟨u,rfl,ru⟩:=rv.one;cases ru;obtain⟨z,its,n,r,hl,e⟩:=I.lstM hH;obtain⟨z2,its2,n2,r2,hl2,e2⟩:=I.lstM hB;have hsz:its.toArray.size+its2.toArray.size<=sizeLine:=by rw[Av,Av];omega
 have hlong : ¬ (!its.toArray.isEmpty&&Cq (its.toArray.size+its2.toArray.size))=Ab:=by
  rw[Ny hsz,D5];exact Aw
 refine Ge Dq ⟨_,e,rfl⟩ RM (RH _ _)
  (AutoSeq1.list_extend_list_list_0 l its.toArray n b its2.toArray n2 hlong (by rw[Av];omega) (by omega)) ⟨e,e2,?_⟩
 refine⟨.non,_,I.lset (its':=its++its2) hH e (by simp) (r.append r2) ?_,rfl,q⟩
 rw[BP];omega
end
section
variable{prog:Ay}{w:AH}{A:AN}{E:Ah->Al->Prop}{s:Al}
set_option maxRecDepth 100000 in
end
section
variable{X:Cx}
end
end L2
namespace Att
open PySem PySem.W PySem.Calls PyProof.Rows
variable{P:Hb}{h:As}{l:Dy}{n:Af}
theorem SJ : ∀(ns:Ac Aj)(vs:Ac Ah),WellAll P h vs (ns.map Se)->Fs vs ns:=by
 intro ns
 induction ns with
 |nil=>
  intro vs w;rw[List.map_nil]at w;cases w;exact .nil
 |cons n ns ih=>
  intro vs w;rw[DK]at w;cases w with
  |cons a b=>
   cases a;exact .cons _ _ (ih _ b)
theorem Tb(hn:l.most=Aa n){args:Ac WData}{vals:Ac Ah}(hpre:l.row.toRowW.claim.pre args=Ab)(hwl:WellAll P h vals args):
  ∃ a vs ns,vals=[Gy a]/\args=[WData.list (ns.map Se)]/\h.get? a=Aa { cls := .type "list",data := .seq vs.toArray }/\Fs vs ns/\ns.length<=n:=by
 have hsh:WShape.hasAll [] args [.list .int]=Ab:=(pre_splitW hpre).1;have hc:l.pre.holds [] {args:=args}=Ab:=(pre_splitW hpre).2;obtain⟨d,r,rfl,h1,h2⟩:=hasAllW_cons hsh;obtain rfl:=hasAllW_nil h2;obtain⟨xs,rfl,h3⟩:=hasW_list h1;obtain⟨ns,rfl⟩:=items_int h3;have hlen:ns.length<=n:=by
  unfold OpenLaw.pre at hc;have h4:(WTm.not (.lt (.lit (.int (n:Aj))) (.len (.arg 0)))).holds [] {args:=[.list (ns.map .int)]}=Ab:=by
   have h4:=(holds_andW hc).1;rw[hn]at h4;exact h4
  have h5:=condW_of h4 (w_not (w_lt w_lit (w_len_list (w_arg rfl))));rw[Cb]at h5;refine Nat.le_of_not_lt λq => ?_
  have q':(n:Aj)<((ns.length:Af):Aj):=by omega
  first
   |(rw[bO q']at h5;exact absurd h5 (by decide))
   |(simp at h5;omega)
 cases hwl with
 |cons w1 w2=>
  cases w2;cases w1 with
  |list ho hall=>exact⟨_,_,ns,rfl,rfl,ho,SJ ns _ hall,hlen⟩
theorem Tv(l:Dy)(args:Ac WData):l.row.toRowW.claim.post args (.bool Ab) args=Ab:=
 postW_of (r:=l.row.toRowW) (X:=(Ab==Ab))
  (show Sf [] (.bool Ab) .bool=Ab by first|rfl|decide|simp[Sf,WShape.arms,WShape.armsAll])
  (show (WTm.eq .res (.lit (.bool Ab))).value [] {args:=args,res:=Aa (.bool Ab),after:=args}=Aa (.bool (Ab==Ab)) from w_eq_bool (w_res rfl) w_lit) rfl
theorem attach_call{q:Ay}{loose:Ac Ai}{XP:(Ai->Ao Ah)->As->Prop}{YP:AH->As->Prop}{d:HS}(hn:l.most=Aa n)(hdf:d.params.defaults=[])(call : ∀(w:AH)(s₀ s₁:Al)(mg mb:Ai->Ao Ah)(fa:Ag)(o:AB)(pm cd doc:Ah)(a:Ag)(vs:Ac Ah)(ns:Ac Aj),
   Ground q loose [] XP w s₀ mg mb s₁.heap->YP w s₁.heap ->
   s₁.heap.get? fa=Aa o->o.data = .func (docDef d.name d.params d.body d.scope pm cd doc)->s₁.heap.CodeRec cd d.name->mg d.name=Aa (.ref fa) ->
   s₁.heap.get? a=Aa { cls := .type "list",data := .seq vs.toArray }->Fs vs ns->ns.length<=n->s₁.gens = #[] ->
   D6 (model l.prog w) De (.call (.ref fa) ⟨[.ref a],[]⟩) (λr s'=>r = .ok (.ret (.bool Ab))/\OldK s₁.heap s'.heap/\s'.os=s₁.os/\Do s'.gens) s₁):WalkO q loose XP YP l.row.toRowW d [] (λf vs=>Gd f vs):=by
 intro w s₀ s₁ mg mb G Y_ fa o pm cd doc dV kV ho hd hcd hD hmg hg args vals as hpre hlay hrd hwl hlo;obtain rfl:dV = .none:=Dflts.none hD hdf;obtain rfl:kV = .none:=Dflts.noKw hD;obtain⟨a,vs,ns,rfl,rfl,hobj,hints,hlen⟩:=Tb hn hpre hwl;refine enter_call (EM (call w s₀ s₁ mg mb fa o pm cd doc a vs ns G Y_ ho (fd_plain hd) hcd hmg hobj hints hlen hg) λr s' hq => ?_)
 obtain⟨rfl,h2,h3,h4⟩:=hq;exact⟨.inl ⟨.bool Ab,.bool Ab,[],rfl,λ_=>rfl,.bool Ab,Tv l _,λ_=>⟨List.Pairwise.nil,λ_ hm=>(nomatch hm)⟩⟩,h2,h3,h4⟩
section
variable{prog:Ay}{w:AH}{A:AN}{E:Ah->Al->Prop}{s:Al}{K:Frag}
end
end Att
namespace L2
open PySem PySem.Spec PyProof.Rows
variable{k:Af}{x:Ai}
theorem KB : ∀{vs:Ac Ah}{ns:Ac Aj},Fs vs ns->AU (ns.map V.int) vs
 |_,_,.nil => .nil
 |_,_,.cons n t h => .cons ⟨t,rfl⟩ (KB h)
noncomputable def Mp(H:Hp):Prop := ∀ b,H b=Ad \/ ∃ o xs,H b=Aa (.frz o (.lst xs))
theorem T7{P:Ay}{w:AH}{K:Fg}{mg mb:Ai->Ao Ah}{CX:CXT}{fa a:Ag}{fd:Bh}{sp:Sp}{s₁:Al}{vs:Ac Ah}{ns:Ac Aj}(KX:K.In s₁.heap)(hns:s₁.heap.Ns AF mg)(hb:s₁.heap.Ns CG mb)(hbb : ∀ x:Ai,x ≠ "__name__" -> mb x=B4 x)(hlim:s₁.heap.NoLimit)(hg:s₁.gens = #[])(ha:s₁.heap.get? a=Aa { cls := .type "list",data := .seq vs.toArray })(hi:Fs vs ns)(hl:ns.length<=sizeLine)(hr:Room k De)(F : ∀ base:As,K.In base->base.Ns AF mg->FnOk P w K mg base CX k fa fd [x] sp)(hbind : ∀(s:Al)(u:Ah),Dp s fd ⟨[u],[]⟩ [(x,u)])(hsp : ∀ H:Hp,Mp H->SqL K H a (ns.map V.int)->sp [.ref a] H (λv _=>v = .bl Ab) λ_ _ _=>AV)(hCX : ∀ H e s',CX [] H s₁ (λ_ _ _=>AV) e s'->AV):D6 (model P w) De (.call (.ref fa) ⟨[.ref a],[]⟩) (λr s'=>r = .ok (.ret (.bool Ab))/\OldK s₁.heap s'.heap/\s'.os=s₁.os/\Do s'.gens) s₁:=by
 have rv:=KB hi;have lenV:=hi.length
 -- from an abstract heap in which nothing but the script may be tracked
 have core : ∀ H:Hp,Mp H->SqL K H a (ns.map V.int)->HOk P w H s₁.heap->(∀ b,H b≠Ad->b=a)->(H a≠Ad->K.lookup a=Ad) ->
   D6 (model P w) De (.call (.ref fa) ⟨[.ref a],[]⟩) (λr s'=>r = .ok (.ret (.bool Ab))/\OldK s₁.heap s'.heap/\s'.os=s₁.os/\Do s'.gens) s₁:=by
  intro H hO hS hok hA hK;have base_of : ∀{b:Ag}{o:AB},s₁.heap.get? b=Aa o->H b=Ad->(Ed s₁.heap H).get? b=Aa o:=λe n=>Ng e n
  have noA : ∀{b:Ag}{o:AB}{es:AW DictEntry}{ep:Af},s₁.heap.get? b=Aa o->o.data = .dict es ep->H b=Ad:=λ{b o es ep} e d=>by
   cases q:H b with
   |none=>rfl
   |some u=>
    have e':b=a:=hA b (by rw[q];simp)
    subst e';rw[ha]at e;cases e;have d':HR vs.toArray _=Data.dict es ep:=d;cases d'
  have nsK : ∀{b:Ag}{m:Ai->Ao Ah},s₁.heap.Ns b m->(Ed s₁.heap H).Ns b m:=λ{b m} ⟨o,es,ep,e,d,r⟩=>⟨o,es,ep,base_of e (noA e d),d,r⟩
  have hKb:K.In (Ed s₁.heap H):=λb o e=>base_of (KX b o e) (by
   cases q:H b with
   |none=>rfl
   |some u=>
    have e':b=a:=hA b (by rw[q];simp)
    subst e';rw[hK (by rw[q];simp)]at e;cases e)
  have hM:Mod K mg (Ed s₁.heap H):=⟨hKb,nsK hns,⟨mb,nsK hb,hbb⟩,let ⟨mc,h1,h2⟩:=hlim;⟨mc,nsK h1,h2⟩⟩
  have e0:Env0 P w K mg (Ed s₁.heap H) De [] s₁ H:=⟨rfl,hM,λb o e=>Ol e,Gv (MZ _ _),trivial,λb hb=>absurd (show b∈([]:Ac Ag) from hb) (by simp),hok,.of_eq hg⟩
  refine EM ((F _ hKb (nsK hns)).run De [] s₁ H ⟨[.ref a],[]⟩ [.ref a] [.ref a] _ _ hr e0 (hbind s₁ (.ref a)) (.cons rfl .nil) (hsp H hO hS)) λr s' h => ?_
  cases r with
  |error e=>exact(hCX H e s' h).elim
  |ok fl=>
   cases fl with
   |next=>exact BQ h
   |brk=>exact BQ h
   |cont=>exact BQ h
   |ret u=>
    obtain⟨v,H',os,bare,un,hok',r',q⟩:=h;have q':v = .bl Ab:=q;subst q';obtain rfl:u=Hd Ab:=r';refine⟨rfl,OldK.of_keep λb o e => ?_,os,bare⟩
    cases q:H b with
    |none=>exact un.keep b o e q (by intro z;exact absurd (show b∈([]:Ac Ag) from z) (by simp)) (by simp)
    |some u=>
     rcases hO b with z|⟨ob,xs,z⟩
     .rw[q]at z;cases z
     .have z2:=un.frzs b ob _ z;obtain⟨e1,_⟩:=hok b _ z;obtain⟨e2,_⟩:=hok' b _ z2;rw[e]at e1;cases e1;exact e2
 cases hk:K.lookup a with
 |some o=>
  -- the script is one of the module's own objects
  have e:=KX a o hk;rw[ha]at e;cases e;refine core (λ_=>Ad) (λ_ => .inl rfl) (.inr ⟨_,vs.toArray,_,hk,rfl,rfl,rfl,by rw[Av,lenV];exact hl,by simpa using rv⟩) (λb u z=>by have z':(Ad:Ao HO)=Aa u:=z;cases z') (λb z=>absurd rfl z) λz=>absurd rfl z
 |none=>
  refine core (λb=>if b=a then Aa (.frz { cls := .type "list",data := .seq vs.toArray } (.lst (ns.map V.int))) else Ad) (λb => ?_) (.inl (.inr ⟨{ cls := .type "list",data := .seq vs.toArray },AD rfl⟩)) (λb u z => ?_) (λb z => ?_) λ_=>hk
  .by_cases hb:b=a
   .exact .inr ⟨_,_,AD hb⟩
   .exact .inl (AL hb)
  .by_cases hb:b=a
   .have z':=(AD hb).symm.trans z;cases z';subst hb;exact⟨ha,by rw[Cb];exact hl,vs,_,rv,ha⟩
   .have z':=(AL hb).symm.trans z;cases z'
  .by_cases hb:b=a
   .exact hb
   .exact absurd (AL hb) z
noncomputable abbrev KOf{K:Fg}{h:As}(_:K.In h):Fg:=K
theorem walk_of{l:Dy}{n:Af}{q:Ay}{loose:Ac Ai}{XP:(Ai->Ao Ah)->As->Prop}{YP:AH->As->Prop}{d:HS}{K:Hb->Fg}{CX:AH->CXT}{sp:AH->Sp}(hn:l.most=Aa n)(hn2:n<=sizeLine)(hdf:d.params.defaults=[])(hr:Room k De)(hY : ∀(w:AH)(h:As),YP w h->(K w.params).In h)(F : ∀(w:AH)(mg:Ai->Ao Ah)(fa:Ag)(h:As),(K w.params).In h->h.Ns AF mg->mg d.name=Aa (.ref fa) ->
   ∃ fd:Bh,(∀(s:Al)(u:Ah),Dp s fd ⟨[u],[]⟩ [(x,u)]) /\
    ∀ base:As,(K w.params).In base->base.Ns AF mg->FnOk l.prog w (K w.params) mg base (CX w) k fa fd [x] (sp w))(hsp : ∀(w:AH)(H:Hp)(a:Ag)(ns:Ac Aj),ns.length<=n->Mp H->SqL (K w.params) H a (ns.map V.int)->sp w [.ref a] H (λv _=>v = .bl Ab) λ_ _ _=>AV)(hCX : ∀(w:AH)(H:Hp)(s:Al)(e:Ah)(s':Al),CX w [] H s (λ_ _ _=>AV) e s'->AV):Gs q loose XP YP l.row.toRowW d [] (λf vs=>Gd f vs):=by
 refine Att.attach_call hn hdf λw s₀ s₁ mg mb fa o pm cd doc a vs ns G Y_ ho hd hcd hmg hobj hints hlen hg => ?_
 have KX:=hY w _ Y_;obtain⟨fd,hb,hF⟩:=F w mg fa _ KX G.T.g hmg;exact T7 KX G.T.g G.T.b G.T.builtins G.T.nolimit hg hobj hints (Cc hlen hn2) hr hF hb (λH hO hS=>hsp w H a ns hlen hO hS) λH e s'=>hCX w H s₁ e s'
end L2
/- THE LAST THEOREM (shape;LID, My.* are yours):
   My.Adr:a structure of the addresses that your layer names (classes,functions);My.Txt K t:a structure (Prop) of the equations over K;
   My.txt_mk : {K} {implicit addresses ..} (e1:nsIn K AF "law" = Aa (Aa (.ref f))) (e2:K.lookup f=Aa ⟨oc,od,.func (fnOf "law" "law" params body scope dV kV doc pm an cdv ct),sl⟩) (e3:codeIn K cdv "law" = Ab) .. : ∃ t,My.Txt K t
set_option maxRecDepth 100000 in
set_option maxHeartbeats 0 in
theorem PySem.Challenge.cw_LID_holds : PySem.Challenge.rw_LID.Holds := by
 w_on;o_law;k_head;(case hw=>w_witness2)
 k_fill
 refine L2.walk_of (l:=PySem.Challenge.rw_LID) (n:=63) (k:=40) (x := "script") (CX:=λw => ..) (sp:=λ_=>My.sp_law) rfl (by decide) rfl ⟨rfl,by decide,by decide⟩ (λw h Y_=>PySem.W.kIn_of Y_) ?F ?S ?C
 case F=>
  intro w mg fa h KX G hmg;have T : ∃ t,My.Txt (L2.KOf KX) t:=by
   dsimp only[L2.KOf]                          -- K must stand as «<heap const> w.params» for k_is
   refine' My.txt_mk ?e1 ?e2 ?e3 ..
   (case e1 => PySem.W.k_is)                    -- in the order: a name -> its address -> its object -> its parts
   (case e2=>PySem.W.k_is)
   ..
  obtain⟨t, T⟩ := T;have e0 := hmg.symm.trans (Ek KX G T.law);cases e0                                       -- fa is the law's own address
  exact⟨_, fun s u => .of_eq rfl, fun base kb nb => My.law_fn T kb nb⟩     -- if «.of_eq rfl» comes too early: refine' ⟨_, ?b, fun base kb nb => My.law_fn T kb nb⟩;exact fun s u => .of_eq rfl
 case S=>exact λw H a ns hl hO hS => ..
 case C=>exact ..
(the tactic k_is has no namespace:write k_is) -/
namespace L2
open PySem PySem.Spec PyProof.Rows
noncomputable def Er(s:AJ):DW:=match s with
  |.FunctionDef _ a _ _ _ _ _ _ _ _=>a
  |_ => {posonlyargs:=[],args:=[],vararg:=Ad,kwonlyargs:=[],kw_defaults:=[],kwarg:=Ad,defaults:=[]}
noncomputable def C9(s:AJ):Ac AJ:=match s with
  |.FunctionDef _ _ b _ _ _ _ _ _ _=>b
  |_=>[]
noncomputable def Ba(s:AJ):Bf:=match s with
  |.FunctionDef _ _ _ _ _ _ sc _ _ _=>sc
  |_ => {kind := .function,names:=[],isGenerator:=Ae,isCoroutine:=Ae}
noncomputable abbrev CX0:CXT:=λ_ _ _ _ _ _=>AV
noncomputable abbrev E0:XK:=λ_ _ _=>AV
theorem Zl{X:Cx}:GJ CX0 X E0:=λ_ _ _ _ _ _ _ h=>h.elim
structure Fun (K:Fg) (x qual:Ai) (st:AJ) (f:Ag) (fd:Bh):Prop where
 ex : ∃(oc:Ah)(od:Ao Ag)(kV doc pm:Ah)(an:Ao Ag)(cdv ct:Ah)(osl:AW (Ao Ah)),
  fd=Bp x qual (Er st) (C9 st) (Ba st) .none kV doc pm an cdv ct/\K.lookup f=Aa ⟨oc,od,.func fd,osl⟩/\C4 K cdv qual=Ab
 kp:BK K (.ref f)=Ab
section
variable{P:Ay}{w:AH}{K:Fg}{mg:Ai->Ao Ah}{base:As}
theorem Fun.ok{x qual:Ai}{st:AJ}{f:Ag}{fd:Bh}{N ps:Ac Ai}{k:Af}{sp:Sp}(F:Fun K x qual st f fd)(S:FnScope N ps (Ba st))(len : ∀ vs H Q E,sp vs H Q E->vs.length=ps.length)(hbody : ∀(cdv:Ah)(A:AN)(outer:Ac BM)(s:Al)(H:Hp)(vs:Ac V)(Q:VK)(E:XK),Room k (A.deeper (Cw qual (Ba st) s.heap.objs.size f cdv))->sp vs H Q E ->
   ∃ t,PSs (DH CX0 P w K mg base N qual (Ba st) f cdv A outer s H E).nox (C9 st) t/\t {nx:=λ_ H'=>Q .non H',rt:=Q} (start N vs) H):FnOk P w K mg base CX0 (k+1) f fd ps sp:=by
 obtain⟨oc,od,kV,doc,pm,an,cdv,ct,osl,rfl,lk,hcd⟩:=F.ex;refine LL lk hcd S len λA outer s H vs Q E hr hsp => ?_
 obtain⟨t,h,q⟩:=hbody cdv A outer s H vs Q E hr hsp;exact⟨t,h.nox,q⟩
theorem Fun.binds{x qual:Ai}{st:AJ}{f:Ag}{fd:Bh}{ps:Ac Ai}(F:Fun K x qual st f fd)(h : ∀(kV doc pm:Ah)(an:Ao Ag)(cdv ct:Ah)(us:Ac Ah),us.length=ps.length->FC (Bp x qual (Er st) (C9 st) (Ba st) .none kV doc pm an cdv ct) ⟨us,[]⟩=pure (ps.zip us)):E3 K fd ps []:=by
 obtain⟨oc,od,kV,doc,pm,an,cdv,ct,osl,rfl,lk,hcd⟩:=F.ex;exact .all (h kV doc pm an cdv ct)
theorem XV{x qual:Ai}{st:AJ}{f:Ag}{oc:Ah}{od an:Ao Ag}{osl:AW (Ao Ah)}{kV doc pm cdv ct:Ah}(l:K.lookup f=Aa ⟨oc,od,.func (Bp x qual (Er st) (C9 st) (Ba st) .none kV doc pm an cdv ct),osl⟩)(c:C4 K cdv qual=Ab)(k:BK K (.ref f)=Ab):Fun K x qual st f (Bp x qual (Er st) (C9 st) (Ba st) .none kV doc pm an cdv ct):=⟨⟨oc,od,kV,doc,pm,an,cdv,ct,osl,rfl,l,c⟩,k⟩
end
section
variable{X:Cx}
end
noncomputable def Ax(H H':Hp):Prop := ∀ b o,H b=Aa o->H' b=Aa o
theorem Ax.refl(H:Hp):Ax H H:=λ_ _ h=>h
theorem Ax.trans{H H1 H2:Hp}(a:Ax H H1)(b:Ax H1 H2):Ax H H2:=λc o h=>b c o (a c o h)
theorem Ax.free{H H':Hp}(e:Ax H H'){l:Ag}(h:H' l=Ad):H l=Ad:=by
 cases q:H l with
 |none=>rfl
 |some o=>
  rw[e l o q]at h;cases h
end L2
section
namespace Ov
open PySem
variable{α β:Type}
inductive D where
 |non|bl (b:Ak)|int (i:Aj)|str (x:Ai)|tup (ds:Ac D)|lst (ds:Ac D)
 |obj (c:Af) (fs:Ac (Ai × D))|exc (c:Af) (fs:Ac (Ai × D))|dic (kvs:Ac (Ac Aj × D))
 deriving Inhabited
structure Ex where
 c:Af
 fs:Ac (Ai × D)
 deriving Inhabited
inductive R (α:Type) where
 |ok (a:α)|exn (x:Ex)|bad
 deriving Inhabited
noncomputable def R.bind{α β:Type}(r:R α)(f:α->R β):R β:=match r with
  |.ok a=>f a
  |.exn x => .exn x
  |.bad => .bad
@[simp]theorem R.bind_ok(a:α)(f:α->R β):(R.ok a).bind f=f a:=rfl
@[simp]theorem R.bind_exn(x:Ex)(f:α->R β):(R.exn x:R α).bind f = .exn x:=rfl
@[simp]theorem R.bind_bad(f:α->R β):(R.bad:R α).bind f = .bad:=rfl
theorem R.bind_assoc{γ:Type}(r:R α)(f:α->R β)(g:β->R γ):(r.bind f).bind g=r.bind λa=>(f a).bind g:=by cases r <;> rfl
noncomputable def CD(n:Af):Ak:=Cz n 1000000
noncomputable def DD(i j:Aj):Ak:=(decide (-(18446744073709551616:Aj)<i)&&decide (i<18446744073709551616))||(decide (-(18446744073709551616:Aj)<j)&&decide (j<18446744073709551616))
noncomputable def FX(i j:Aj):Ak:=decide (i.natAbs<2 ^ 2000)&&decide (j.natAbs<2 ^ 2000)
noncomputable def Cj:Eo->D->D->R D
 |.Add,.int i,.int j => .ok (.int (i+j))
 |.Sub,.int i,.int j => .ok (.int (i-j))
 |.Mult,.int i,.int j=>if (DD i j||FX i j)=Ab then .ok (.int (i*j)) else .bad
 |.FloorDiv,.int i,.int j=>if 0<j/\j<1073741824 then .ok (.int (i/j)) else .bad
 |.Mod,.int i,.int j=>if 0<j then .ok (.int (i%j)) else .bad
 |.Pow,.int i,.int j=>if (0<=j/\j<=1000000)/\(-(18446744073709551616:Aj)<i/\i<18446744073709551616) then .ok (.int (i ^ j.toNat)) else .bad
 |.Add,.str x,.str y=>if CD (x.length+y.length)=Ab then .ok (.str (x++y)) else .bad
 |.Add,.lst x,.lst y=>if CD (x.length+y.length)=Ab then .ok (.lst (x++y)) else .bad
 |.Add,.tup x,.tup y=>if (!x.isEmpty&&CD (x.length+y.length))=Ab then .ok (.tup (x++y)) else .bad
 |_,_,_ => .bad
noncomputable def unD:Hi->D->R D
 |.USub,.int i => .ok (.int (-i))
 |_,_ => .bad
noncomputable def b2i(b:Ak):Aj:=if b=Ab then 1 else 0
mutual
noncomputable def eqD:D->D->Ak
 |.non,.non=>Ab
 |.bl a,.bl b=>a==b
 |.bl a,.int j=>b2i a==j
 |.int i,.bl b=>i==b2i b
 |.int i,.int j=>i==j
 |.str x,.str y=>x==y
 |.tup xs,.tup ys=>eqDs xs ys
 |.lst xs,.lst ys=>eqDs xs ys
 |_,_=>Ae
noncomputable def eqDs:Ac D->Ac D->Ak
 |[],[]=>Ab
 |x::xs,y::ys=>eqD x y&&eqDs xs ys
 |_,_=>Ae
end
noncomputable def flD:Af->D->Ak
 |_,.non=>Ab
 |_,.bl _=>Ab
 |_,.int _=>Ab
 |_,.str _=>Ab
 |n+1,.tup xs=>xs.all (flD n)
 |n+1,.lst xs=>xs.all (flD n)
 |_,_=>Ae
noncomputable def HH:D->Ao (Ac Aj)
 |.tup ds=>keyDs ds
 |_=>Ad
where keyDs:Ac D->Ao (Ac Aj)
 |[]=>Aa []
 |.int i::r=>(keyDs r).map (i :: ·)
 |_=>Ad
noncomputable def ltD:Af->D->D->Ak
 |0,.int i,.int j=>decide (i<j)
 |n+1,.tup xs,.tup ys=>ltDs (ltD n) xs ys
 |_,_,_=>Ae
where ltDs (lt:D->D->Ak):Ac D->Ac D->Ak
 |[],[]=>Ae
 |[],_::_=>Ab
 |_::_,[]=>Ae
 |x::xs,y::ys=>if eqD x y=Ab then ltDs lt xs ys else lt x y
noncomputable def rkD:Af->D->Ak
 |0,.int _=>Ab
 |n+1,.tup xs=>xs.all (rkD n)
 |_,_=>Ae
noncomputable def Qt(lt:D->D->Ak)(x:D):Ac D->Ac D
 |[]=>[x]
 |y::ys=>if lt y x=Ab then y::Qt lt x ys else x::y::ys
noncomputable def OY(lt:D->D->Ak):Ac D->Ac D
 |[]=>[]
 |x::xs=>Qt lt x (OY lt xs)
noncomputable def Qo:Ac D->Ak
 |[]=>Ab
 |x::xs=>xs.all (λy => !eqD x y)&&Qo xs
noncomputable def Qg:Ac D->Ak
 |[]=>Ab
 |[_]=>Ab
 |x::y::r=>ltD 1 x y&&Qg (y::r)
noncomputable def NK(xs:Ac D):R (Ac D):=if (xs.all (λd=>rkD 1 d && !eqD d (.tup []))&&Qo xs&&(decide (xs.length<64)||(Qg xs&&decide (xs.length<=1000))))=Ab then .ok (OY (ltD 1) xs) else .bad
noncomputable def Bu:Co->D->D->R D
  |.Eq,x,y=>if (flD 5 x&&flD 5 y)=Ab then .ok (.bl (eqD x y)) else .bad
  |.NotEq,x,y=>if (flD 5 x&&flD 5 y)=Ab then .ok (.bl (!eqD x y)) else .bad
  |.Lt,.int i,.int j => .ok (.bl (decide (i<j)))
  |.LtE,.int i,.int j => .ok (.bl (decide (i<=j)))
  |.Gt,.int i,.int j => .ok (.bl (decide (j<i)))
  |.GtE,.int i,.int j => .ok (.bl (decide (j<=i)))
  |.In,x,.lst ys=>if (flD 5 x&&ys.all (flD 5))=Ab then .ok (.bl (ys.any λy=>eqD y x)) else .bad
  |.In,x,.dic kvs=>match HH x with
    |some k => .ok (.bl (kvs.any λp=>p.1==k))
    |none => .bad
  |.In,x,.tup ys=>if (flD 5 x&&ys.all (flD 5))=Ab then .ok (.bl (ys.any λy=>eqD y x)) else .bad
  |.NotIn,x,.lst ys=>if (flD 5 x&&ys.all (flD 5))=Ab then .ok (.bl (!ys.any λy=>eqD y x)) else .bad
  |.NotIn,x,.tup ys=>if (flD 5 x&&ys.all (flD 5))=Ab then .ok (.bl (!ys.any λy=>eqD y x)) else .bad
  |.Is,.non,.non => .ok (.bl Ab)
  |.Is,.bl _,.non => .ok (.bl Ae)
  |.Is,.int _,.non => .ok (.bl Ae)
  |.Is,.str _,.non => .ok (.bl Ae)
  |.Is,.tup _,.non => .ok (.bl Ae)
  |.Is,.lst _,.non => .ok (.bl Ae)
  |.Is,.obj _ _,.non => .ok (.bl Ae)
  |.Is,.bl a,.bl b => .ok (.bl (a==b))
  |.IsNot,.bl a,.bl b => .ok (.bl (!(a==b)))
  |.IsNot,.non,.non => .ok (.bl Ae)
  |.IsNot,.bl _,.non => .ok (.bl Ab)
  |.IsNot,.int _,.non => .ok (.bl Ab)
  |.IsNot,.str _,.non => .ok (.bl Ab)
  |.IsNot,.tup _,.non => .ok (.bl Ab)
  |.IsNot,.lst _,.non => .ok (.bl Ab)
  |.IsNot,.obj _ _,.non => .ok (.bl Ab)
  |_,_,_ => .bad
noncomputable def BE:D->R Ak
 |.non => .ok Ae
 |.bl b => .ok b
 |.int i => .ok (i != 0)
 |.str x=>if CD x.length=Ab then .ok (x.length != 0) else .bad
 |.tup xs => .ok (!xs.isEmpty)
 |.lst xs => .ok (!xs.isEmpty)
 |_ => .bad
noncomputable def plD(n:Af)(i:Aj):Ao Af:=if 0<=i then (if i<n then Aa i.toNat else Ad) else if -(n:Aj)<=i then Aa (i+n).toNat else Ad
noncomputable def Ee(xs:Ac D)(i:Aj):R D:=match plD xs.length i with
  |some k=>match xs[k]? with
    |some d => .ok d
    |none => .bad
  |none => .bad
noncomputable def XY(kvs:Ac (Ac Aj × D))(k:Ac Aj):Ao D:=(kvs.find? λp=>p.1==k).map (·.2)
noncomputable def OA(kvs:Ac (Ac Aj × D))(k:Ac Aj)(v:D):Ac (Ac Aj × D):=if (kvs.any λp=>p.1==k)=Ab then kvs.map (λp=>if (p.1==k)=Ab then (k,v) else p) else kvs++[(k,v)]
noncomputable def EU:D->D->R D
  |.lst xs,.int i=>Ee xs i
  |.tup xs,.int i=>Ee xs i
  |.dic kvs,k=>match (HH k).bind (XY kvs) with
    |some d => .ok d
    |none => .bad
  |_,_ => .bad
noncomputable def DF:D->R Aj
 |.int i => .ok i
 |_ => .bad
noncomputable def CY:D->R Ak
 |.bl b => .ok b
 |_ => .bad
noncomputable def CK:D->R (Ac D)
 |.lst xs => .ok xs
 |.tup xs => .ok xs
 |_ => .bad
noncomputable def Hx:D->R (Ac D)
 |.lst xs => .ok xs
 |_ => .bad
inductive BI where
 |len|abs|max|min|int|list|tuple|all|any|sum|sorted|str|count|stp|lset|tmin|tmax|tlt|rvs
 deriving DecidableEq,Inhabited
inductive Ki where
 |int|bool|str|list|tuple|verr|cls (c:Af)
 deriving DecidableEq,Inhabited
mutual
inductive E where
 |non|bl (b:Ak)|int (i:Aj)|str (x:Ai)
 |var (i:Af)|glob (g:Af)
 |bin (op:Eo) (a b:E)|un (op:Hi) (a:E)|no (a:E)
 |and (es:Es)|or (es:Es)
 |cmp (op:Co) (a b:E)|cmp2 (op op':Co) (a b c:E)
 |ite (c a b:E)
 |call (f:Af) (as:Es)|bi (b:BI) (as:Es)
 |isi (a:E) (ks:Ac Ki)
 |idx (a i:E)|sl (a lo hi:E)
 |tup (es:Es)|lst (es:Es)
 |comp (elt:E) (t:Af) (it:I) (c:E)|compT (elt:E) (ts:Ac Af) (it:I) (c:E)|tupI (it:I)|dnew
 |fld (o:E) (f:Ai)|clo (i:Af) (e:E)
inductive Es where
 |nil|cons (e:E) (es:Es)
inductive I where
 |e (a:E)|rng (a:E)|rng2 (a b:E)|zip (a b:E)|zip3 (a b c:E)|enm (a:E)
end
noncomputable abbrev Sl:=Ao (D × Ak)
noncomputable abbrev Rho:=Ac Sl
structure Gam where
 F:Af->Ac D->R D
 G:Af->D
 up:Af->Ac Af
 /-- the defs whose answer is a new list -/
 fr:Af->Ak
 /-- what is raised: the class, what it is made of -/
 xn:Af->Ac D->R Ex
noncomputable def Da(lo:Aj)(n:Af):Ac D:=(B1 n).map fun(k:Af)=>D.int (lo+(k:Aj))
noncomputable def C3(lo hi:Aj):R (Ac D):=if (-(4611686018427387904:Aj)<=lo/\lo<4611686018427387904)/\(-(4611686018427387904:Aj)<=hi/\hi<4611686018427387904)/\hi-lo<1000000 then .ok (Da lo (hi-lo).toNat) else .bad
noncomputable def kiD(up:Af->Ac Af):Ki->D->Ak
 |.int,.int _=>Ab
 |.int,.bl _=>Ab
 |.bool,.bl _=>Ab
 |.str,.str _=>Ab
 |.list,.lst _=>Ab
 |.tuple,.tup _=>Ab
 |.cls c,.obj k _=>(up k).contains c
 |.cls c,.exc k _=>(up k).contains c
 |.verr,.exc _ _=>Ab
 |_,_=>Ae
noncomputable def DP:Ki->Ak
 |.cls _=>Ab
 |.verr=>Ab
 |_=>Ae
noncomputable def FM(up:Af->Ac Af)(ks:Ac Ki)(x:D):R D:=match x with
  |.obj _ _ => .bad
  |.exc _ _=>if ks.all DP=Ab then .ok (.bl (ks.any λk=>kiD up k x)) else .bad
  |.dic _ => .bad
  |_=>if ks.any DP=Ab then .bad else .ok (.bl (ks.any λk=>kiD up k x))
noncomputable def EV:D->R Ak
 |.non => .ok Ae
 |.bl b => .ok b
 |.int i => .ok (i != 0)
 |_ => .bad
noncomputable def Ew:Ac D->R Ak
 |[] => .ok Ab
 |x::r=>(EV x).bind λb=>(Ew r).bind λc => .ok (b&&c)
noncomputable def GM:Ac D->R Ak
 |[] => .ok Ae
 |x::r=>(EV x).bind λb=>(GM r).bind λc => .ok (b||c)
noncomputable def FJ:Aj->Ac D->R Aj
 |a,[] => .ok a
 |a,.int i::r=>FJ (a+i) r
 |_,_ => .bad
noncomputable def Ec:Ac D->Ac D->Ac D
 |x::xs,y::ys => .tup [x,y]::Ec xs ys
 |_,_=>[]
noncomputable def O0:Ac D->Ac D->Ac D->Ac D
 |x::xs,y::ys,z::zs => .tup [x,y,z]::O0 xs ys zs
 |_,_,_=>[]
noncomputable def OZ(x y z:D):R (Ac D):=(CK x).bind λxs=>(CK y).bind λys=>(CK z).bind λzs=>if 0<xs.length/\xs.length<=1000/\ys.length=xs.length/\zs.length=xs.length then .ok (O0 xs ys zs) else .bad
noncomputable def Mh:Aj->Ac D->Ac D
 |_,[]=>[]
 |i,x::xs => .tup [.int i,x]::Mh (i+1) xs
noncomputable def nlD:Af->D->Ak
 |_,.non=>Ab
 |_,.bl _=>Ab
 |_,.int _=>Ab
 |_,.str _=>Ab
 |n+1,.tup xs=>xs.all (nlD n)
 |_,_=>Ae
noncomputable def GO(fr:Ak):D->Ak
 |.lst ds=>fr&&ds.all (nlD 5)
 |d=>nlD 5 d
noncomputable def Jr:Ac D->Ao (Ac Aj)
 |[]=>Aa []
 |.int i::r=>(Jr r).map (i :: ·)
 |_=>Ad
noncomputable def Qq(i:Aj):Ac Aj->Aj
 |[]=>i
 |j::r=>Qq (if j<i then j else i) r
noncomputable def pk2(k n:Af):Ac Af:=(B1 ((n-min k n+1)/2)).map λj=>min k n+2*j
noncomputable def P7(k:Af)(xs:Ac D):Ac D:=(pk2 k xs.length).filterMap λi=>xs[i]?
noncomputable def ddS(acc:Ac Aj)(x:Aj):Ac Aj:=if acc.any (· == x)=Ab then acc else acc++[x]
noncomputable def ddN(is:Ac Aj):Af:=(is.foldl ddS []).length
noncomputable def Pu(xs:Ac D):R D:=match Jr xs with
  |some is=>if Cz is.length 4000=Ab then .ok (.int (ddN is)) else .bad
  |none => .bad
noncomputable def mmD(mx:Ak)(x y:D):R D:=if [x,y].all (λd=>rkD 1 d && !eqD d (.tup []))=Ab then .ok (if (if mx=Ab then ltD 1 x y else ltD 1 y x)=Ab then y else x) else .bad
noncomputable def P0(x y:D):R D:=if [x,y].all (λd=>rkD 1 d && !eqD d (.tup []))=Ab then .ok (.bl (ltD 1 x y)) else .bad
noncomputable def bM(k:Ac Aj):Aj:=reduceHash (Builtin.Tuple.tupleHashOf (k.map hashInt))
noncomputable def Pv:Ac D->Ao (Ac (Ac Aj))
 |[]=>Aa []
 |.tup xs::r=>(Jr xs).bind λk=>(Pv r).map (k :: ·)
 |_=>Ad
noncomputable def PZ:Ac Aj->Ak
 |[]=>Ab
 |h::r => !r.contains h&&PZ r
noncomputable def Y_7(xs:Ac D):R D:=match Pv xs with
  |some ks=>if (Cz ks.length 3&&PZ (ks.map bM))=Ab then .ok (.int ks.length) else .bad
  |none => .bad
noncomputable def biD:BI->Ac D->R D
  |.len,[.lst xs] => .ok (.int xs.length)
  |.len,[.tup xs] => .ok (.int xs.length)
  |.len,[.str x]=>if CD x.length=Ab then .ok (.int x.length) else .bad
  |.abs,[.int i] => .ok (.int (if i<0 then -i else i))
  |.max,[.int i,.int j] => .ok (.int (if i<j then j else i))
  |.min,[.int i,.int j] => .ok (.int (if j<i then j else i))
  |.min,[.lst xs]=>match Jr xs with
    |some (i::is) => .ok (.int (Qq i is))
    |_ => .bad
  |.int,[.int i] => .ok (.int i)
  |.int,[.bl b] => .ok (.int (b2i b))
  |.list,[.lst xs] => .ok (.lst xs)
  |.list,[.tup xs] => .ok (.lst xs)
  |.tuple,[.lst xs] => .ok (.tup xs)
  |.tuple,[.tup xs] => .ok (.tup xs)
  |.all,[.lst xs]=>(Ew xs).bind λb => .ok (.bl b)
  |.any,[.lst xs]=>(GM xs).bind λb => .ok (.bl b)
  |.any,[.tup xs]=>(GM xs).bind λb => .ok (.bl b)
  |.sum,[.lst xs]=>(FJ 0 xs).bind λi => .ok (.int i)
  |.sum,[.tup xs]=>(FJ 0 xs).bind λi => .ok (.int i)
  |.sorted,[.lst xs]=>(NK xs).bind λys => .ok (.lst ys)
  |.count,[.lst xs,x]=>if (flD 5 x&&xs.all (flD 5))=Ab then .ok (.int ((xs.filter λy=>eqD y x).length:Af)) else .bad
  |.len,[.dic kvs] => .ok (.int kvs.length)
  |.stp,[.lst xs,.int k] => .ok (.lst (P7 k.toNat xs))
  |.lset,[.lst xs]=>Pu xs
  |.lset,[.tup xs]=>Y_7 xs
  |.tmin,[x,y]=>mmD Ae x y
  |.tmax,[x,y]=>mmD Ab x y
  |.tlt,[x,y]=>P0 x y
  |.rvs,[.lst xs] => .ok (.lst xs.reverse)
  |_,_ => .bad
noncomputable def slE(c:E)(d:D):R (Ao Aj):=match c with
  |.non => .ok Ad
  |_=>(DF d).bind λi => .ok (Aa i)
noncomputable def G7(n d:Af):Ao Aj->Af
 |none=>d
 |some i=>if i<0 then (i+n).toNat else min i.toNat n
noncomputable def JW(xs:Ac D)(lo hi:Ao Aj):Ac D:=(xs.drop (G7 xs.length 0 lo)).take (G7 xs.length xs.length hi-G7 xs.length 0 lo)
noncomputable def slD:D->Ao Aj->Ao Aj->R D
 |.lst xs,l,h => .ok (.lst (JW xs l h))
 |.tup xs,l,h=>if (G7 xs.length 0 l==0&&G7 xs.length xs.length h==xs.length)=Ab then .bad else .ok (.tup (JW xs l h))
 |_,_,_ => .bad
noncomputable def Qb:D->Ai->R D
  |.exc _ fs,f=>match fs.lookup f with
    |some d => .ok d
    |none => .bad
  |_,_ => .bad
noncomputable def Dv(U:Rho)(i:Af):R D:=match U[i]? with
  |some (Aa (d,Ae)) => .ok d
  |_ => .bad
noncomputable def Ey(U:Rho)(i:Af):R D:=match U[i]? with
  |some (Aa (d,_)) => .ok d
  |_ => .bad
noncomputable def shE(U:Rho):E->Ak
  | .var i=>(match U[i]? with
    |some (Aa (_,Ab))=>Ae
    | _=>Ab)
  |_=>Ab
noncomputable def FY(U:Rho):Es->Ak
 |.nil=>Ab
 |.cons e es=>shE U e&&FY U es
noncomputable def DB:Ac Af->Ac D->Rho->Ao Rho
 |[],[],U=>Aa U
 |t::ts,d::ds,U=>DB ts ds (U.set t (Aa (d,Ae)))
 |_,_,_=>Ad
noncomputable def E1(ts:Ac Af)(d:D)(U:Rho):R Rho:=match d with
  | .tup xs=>(match DB ts xs U with
    |some U' => .ok U'
    | none => .bad)
  |_ => .bad
noncomputable def GK(ts:Ac Af)(d:D)(U:Rho):R Rho:=match d with
  | .lst xs=>(match DB ts xs U with
    |some U' => .ok U'
    | none => .bad)
  |d=>E1 ts d U
noncomputable def Bx(g:D->R Ak)(f:D->R D):Ac D->R (Ac D)
 |[] => .ok []
 |x::xs=>(g x).bind λb=>if b=Ab then (f x).bind λy=>(Bx g f xs).bind λys => .ok (y::ys) else Bx g f xs
noncomputable def noX{α:Type}:R α->R α
 |.ok a => .ok a
 |_ => .bad
noncomputable def top(U:Rho)(e:E)(r:R D):R D:=match e with
  |.var i=>Ey U i
  |_=>r
mutual
noncomputable def Ix:D->Ak
 |.int _=>Ab
 |_=>Ae
noncomputable def Dk:D->Ak
 |.int _=>Ab
 |.tup xs=>xs.all Ix
 |_=>Ae
noncomputable def JX(F:Af->Ac D->R D)(o:R D)(r:R D):R D:=match o with
  | .ok (.obj _ fs)=>(match fs with
    |[(_,d1),(_,d2)]=>r.bind λx=>if (Dk d1&&Dk d2&&Dk x)=Ab then noX (F 126 [d1,d2,x]) else .bad
    | _ => .bad)
  |_ => .bad
noncomputable def evE(Z:Gam)(U:Rho):E->R D
 |.non => .ok .non
 |.bl b => .ok (.bl b)
 |.int i => .ok (.int i)
 |.str x => .ok (.str x)
 |.var i=>Dv U i
 |.glob g => .ok (Z.G g)
 |.bin op a b=>(top U a (evE Z U a)).bind λx=>(top U b (evE Z U b)).bind λy=>Cj op x y
 |.un op a=>(top U a (evE Z U a)).bind λx=>unD op x
 |.no a=>(top U a (evE Z U a)).bind λx=>(CY x).bind λb => .ok (.bl (!b))
 |.and es=>evN Z U es
 |.or es=>evO Z U es
 |.cmp op a b=>(top U a (evE Z U a)).bind λx=>(top U b (evE Z U b)).bind λy=>Bu op x y
 |.cmp2 op op' a b c=>(top U a (evE Z U a)).bind λx=>(top U b (evE Z U b)).bind λy=>(Bu op x y).bind λz=>(CY z).bind λk=>if k=Ab then (top U c (evE Z U c)).bind λu=>Bu op' y u else .ok (.bl Ae)
 |.ite c a b=>(top U c (evE Z U c)).bind λx=>(BE x).bind λk=>if k=Ab then evE Z U a else evE Z U b
 |.call f as=>(evB Z U as).bind λxs=>(Z.F f xs).bind λd=>if FY U as=Ab then .ok d else if GO (Z.fr f) d=Ab then .ok d else .bad
 |.bi b as=>(evB Z U as).bind λxs=>biD b xs
 |.isi a ks=>(top U a (evE Z U a)).bind λx=>FM Z.up ks x
 |.idx a i=>(top U a (evE Z U a)).bind λx=>(top U i (evE Z U i)).bind λy=>EU x y
 |.sl a lo hi=>(top U a (evE Z U a)).bind λx=>(top U lo (evE Z U lo)).bind λl=>(slE lo l).bind λl'=>(top U hi (evE Z U hi)).bind λh=>(slE hi h).bind λh'=>slD x l' h'
 |.tup es=>(evA Z U es).bind λxs => .ok (.tup xs)
 |.lst es=>(evA Z U es).bind λxs => .ok (.lst xs)
 |.comp elt t it c=>(evI Z U it).bind λxs=>(noX (Bx (λx=>(top (U.set t (Aa (x,Ae))) c (evE Z (U.set t (Aa (x,Ae))) c)).bind BE) (λx=>evE Z (U.set t (Aa (x,Ae))) elt) xs)).bind λys => .ok (.lst ys)
 |.compT elt ts it c=>(evI Z U it).bind λxs=>(noX (Bx (λx=>(E1 ts x U).bind λU'=>(top U' c (evE Z U' c)).bind BE) (λx=>(E1 ts x U).bind λU'=>evE Z U' elt) xs)).bind λys => .ok (.lst ys)
 |.tupI it=>(evI Z U it).bind λxs => .ok (.tup xs)
 |.dnew => .ok (.dic [])
 |.fld o f=>(top U o (evE Z U o)).bind λx=>Qb x f
 |.clo i e=>JX Z.F (Dv U i) (evE Z U e)
noncomputable def evN(Z:Gam)(U:Rho):Es->R D
 |.nil => .bad
 |.cons e .nil=>evE Z U e
 |.cons e (.cons e' es)=>(evE Z U e).bind λx=>(CY x).bind λc=>if c=Ab then evN Z U (.cons e' es) else .ok (.bl Ae)
noncomputable def evO(Z:Gam)(U:Rho):Es->R D
 |.nil => .bad
 |.cons e .nil=>evE Z U e
 |.cons e (.cons e' es)=>(evE Z U e).bind λx=>(CY x).bind λc=>if c=Ab then .ok (.bl Ab) else evO Z U (.cons e' es)
noncomputable def evA(Z:Gam)(U:Rho):Es->R (Ac D)
 |.nil => .ok []
 |.cons e es=>(evE Z U e).bind λx=>(evA Z U es).bind λxs => .ok (x::xs)
noncomputable def evB(Z:Gam)(U:Rho):Es->R (Ac D)
 |.nil => .ok []
 |.cons e es=>(top U e (evE Z U e)).bind λx=>(evB Z U es).bind λxs => .ok (x::xs)
noncomputable def evI(Z:Gam)(U:Rho):I->R (Ac D)
 |.e a=>(evE Z U a).bind CK
 |.rng a=>(top U a (evE Z U a)).bind λx=>(DF x).bind λj=>C3 0 j
 |.rng2 a b=>(top U a (evE Z U a)).bind λx=>(top U b (evE Z U b)).bind λy=>(DF x).bind λi=>(DF y).bind λj=>C3 i j
 |.zip a b=>(evE Z U a).bind λx=>(evE Z U b).bind λy=>(CK x).bind λxs=>(CK y).bind λys => .ok (Ec xs ys)
 |.zip3 a b c=>(evE Z U a).bind λx=>(evE Z U b).bind λy=>(evE Z U c).bind λz=>OZ x y z
 |.enm a=>(evE Z U a).bind λx=>(CK x).bind λxs => .ok (Mh 0 xs)
end
noncomputable def DG(Z:Gam):E->Ak
 |.lst _=>Ab
 |.comp _ _ _ _=>Ab
 |.compT _ _ _ _=>Ab
 |.dnew=>Ab
 |.bin .Add _ _=>Ab
 |.bi .list _=>Ab
 |.bi .sorted _=>Ab
 |.sl _ _ _=>Ab
 |.call f _=>Z.fr f
 |_=>Ae
mutual
inductive S where
 |pass
 /-- x = e;fresh: x alone holds the new list -/
 |asg (i:Af) (fresh:Ak) (e:E)
 /-- a, b, .. = e -/
 |asgT (ts:Ac Af) (e:E)
 |expr (e:E)
 |ret (e:E)|retN
 |ife (c:E) (a b:Ss)
 |fors (t:Af) (it:I) (body:Ss)
 |forT (ts:Ac Af) (it:I) (body:Ss)
 |whl (c:E) (body:Ss)
 /-- raise C(e, ..) -/
 |rais (c:Af) (as:Es)
 /-- try: body except C as x: h -/
 |tryx (body:Ss) (c:Af) (x:Af) (h:Ss)
 /-- .. except C as x: h, except C' as x: h', else: els -/
 |try2 (body:Ss) (c:Af) (x:Af) (h:Ss) (c':Af) (h' els:Ss)
 /-- x.append(e), x.extend(e), x.insert(k, e), x.reverse(), x.clear() -/
 |app (i:Af) (e:E)|ext (i:Af) (e:E)|ins (i:Af) (k e:E)|rev (i:Af)|clr (i:Af)
 /-- d[k] = e, d.setdefault(k, e) -/
 |dput (i:Af) (k e:E)|dsd (i:Af) (k e:E)
 /-- x[k] = e -/
 |put (i:Af) (k e:E)
 /-- x[k], x[l] = x[l], x[k] -/
 |swp (i k l:Af)
 /-- x.append(y.pop(e)) -/
 |apop (j i:Af) (e:E)
 |brk|cont
 /-- if c: a else: b, the test with every name let go -/
 |lnd (c:E) (a b:Ss)
 /-- nothing: from here on x is no longer changed -/
 |rel (i:Af)
inductive Ss where
 |nil|cons (s:S) (ss:Ss)
end
inductive O where
 |next (U:Rho)|ret (d:D) (fr:Ak)|brk (U:Rho)|cont (U:Rho)|exn (x:Ex) (U:Rho)|bad
 deriving Inhabited
noncomputable def O.of{α:Type}(U:Rho)(r:R α)(f:α->O):O:=match r with
  |.ok a=>f a
  |.exn x => .exn x U
  |.bad => .bad
@[simp]theorem O.of_ok(U:Rho)(a:α)(f:α->O):O.of U (.ok a) f=f a:=rfl
@[simp]theorem O.of_exn(U:Rho)(x:Ex)(f:α->O):O.of U (.exn x:R α) f = .exn x U:=rfl
@[simp]theorem O.of_bad(U:Rho)(f:α->O):O.of U (.bad:R α) f = .bad:=rfl
noncomputable def FZ(Z:Gam)(U:Rho)(i:I):R (Ac D):=evI Z U i
noncomputable def Ci(U:Rho)(i:Af):R (Ac D):=match U[i]? with
  |some (Aa (.lst xs,Ab)) => .ok xs
  |_ => .bad
noncomputable def PM(U:Rho)(i:Af):R (Ac (Ac Aj × D)):=match U[i]? with
  |some (Aa (.dic xs,Ab)) => .ok xs
  |_ => .bad
noncomputable def PC(d:D):R (Ac Aj):=match HH d with
  |some k => .ok k
  |none => .bad
noncomputable def Pi:Af:=4096
noncomputable def O.seq(o:O)(f:Rho->O):O:=match o with
  |.next U=>f U
  |.ret d b => .ret d b
  |.brk U => .brk U
  |.cont U => .cont U
  |.exn x U => .exn x U
  |.bad => .bad
noncomputable def O.turn(o:O)(f:Rho->O):O:=match o with
  |.next U=>f U
  |.cont U=>f U
  |.brk U => .next U
  |.ret d b => .ret d b
  |.exn x U => .exn x U
  |.bad => .bad
noncomputable def E5(body:D->Rho->O):Ac D->Rho->O
 |[],U => .next U
 |x::xs,U=>(body x U).turn (E5 body xs)
noncomputable def L5(c:Rho->R Ak)(body:Rho->O):Af->Rho->O
 |0,_ => .bad
 |n+1,U=>O.of U (c U) λb=>if b=Ab then (body U).turn (L5 c body n) else .next U
noncomputable def Pe(U:Rho)(k:Af):R Aj:=(Dv U k).bind DF
noncomputable def bE(U:Rho)(d:D)(i k l:Af):O:=match d with
  |.tup [x,y]=>O.of U (Ci U i) λxs=>O.of U (Pe U k) λa=>O.of U (Pe U l) λb=>match plD xs.length a,plD xs.length b with
    |some m,Aa n => .next (U.set i (Aa (.lst ((xs.set m x).set n y),Ab)))
    |_,_ => .bad
  |_ => .bad
noncomputable def apD(U:Rho)(j i:Af)(ys xs:Ac D)(n:Aj):O:=match plD xs.length n with
  | some m=>(match xs[m]? with
    |some d=>if (j != i&&(CD xs.length&&CD (ys.length+1)))=Ab then .next ((U.set i (Aa (.lst (xs.eraseIdx m),Ab))).set j (Aa (.lst (ys++[d]),Ab))) else .bad
    | none => .bad)
  |none => .bad
noncomputable def shS:Sl->Sl
  | some (d,Ab)=>(match d with
    |.lst ds=>Aa (.lst ds,Ae)
    | _=>Ad)
  |s=>s
noncomputable def shA(U:Rho):Rho:=U.map shS
noncomputable def hdO(i:Af)(y:Ex)(U':Rho)(fh:Rho->O):O:=match fh (U'.set i (Aa (.exc y.c y.fs,Ae))) with
  |.next U'' => .next (U''.set i Ad)
  |.ret d f => .ret d f
  |_ => .bad
mutual
noncomputable def evS(Z:Gam)(U:Rho):S->O
  |.pass => .next U
  | .asg i fresh e=>O.of U (evE Z U e) λd=>if fresh=Ab then (if DG Z e=Ab then (match d with
      |.lst xs => .next (U.set i (Aa (.lst xs,Ab)))
      |.dic xs => .next (U.set i (Aa (.dic xs,Ab)))
      | _ => .bad) else .bad) else .next (U.set i (Aa (d,Ae)))
  |.asgT ts e=>O.of U (evE Z U e) λd=>O.of U (GK ts d U) λU' => .next U'
  |.expr e=>O.of U (evE Z U e) λ_ => .next U
  |.ret e=>O.of U (top U e (evE Z U e)) λd => .ret d (DG Z e||(match e with | .var i=>(match U[i]? with|some (Aa (_,o))=>o|_=>Ae)|_=>Ae))
  |.retN => .ret .non Ae
  |.ife c a b=>O.of U ((top U c (evE Z U c)).bind BE) λk=>if k=Ab then evSs Z U a else evSs Z U b
  |.lnd c a b=>O.of U ((top (shA U) c (evE Z (shA U) c)).bind BE) λk=>if k=Ab then evSs Z U a else evSs Z U b
  |.fors t it body=>O.of U (FZ Z U it) λxs=>E5 (λx U'=>evSs Z (U'.set t (Aa (x,Ae))) body) xs U
  |.forT ts it body=>O.of U (FZ Z U it) λxs=>E5 (λx U'=>O.of U' (E1 ts x U') λU''=>evSs Z U'' body) xs U
  |.whl c body=>L5 (λU'=>(top U' c (evE Z U' c)).bind BE) (λU'=>evSs Z U' body) Pi U
  |.rais c as=>O.of U (noX (evA Z U as)) λxs=>O.of U (Z.xn c xs) λx => .exn x U
  |.tryx body c x h=>match evSs Z U body with
      | .exn y U'=>if (Z.up y.c).contains c=Ab then (match evSs Z (U'.set x (Aa (.exc y.c y.fs,Ae))) h with
          |.next U'' => .next (U''.set x Ad)
          |.ret d f => .ret d f
          | _ => .bad) else .bad
      |o=>o
  |.try2 body c x h c' h' els=>match evSs Z U body with
      |.exn y U'=>if (Z.up y.c).contains c=Ab then hdO x y U' (λr=>evSs Z r h) else if (Z.up y.c).contains c'=Ab then hdO x y U' (λr=>evSs Z r h') else .bad
      |.next U'=>evSs Z U' els
      |o=>o
  |.app i e=>O.of U (Ci U i) λxs=>O.of U (evE Z U e) λd=>if CD (xs.length+1)=Ab then .next (U.set i (Aa (.lst (xs++[d]),Ab))) else .bad
  |.ext i e=>O.of U (Ci U i) λxs=>O.of U (evE Z U e) λd=>O.of U (Hx d) λys=>if CD (xs.length+ys.length)=Ab then .next (U.set i (Aa (.lst (xs++ys),Ab))) else .bad
  |.ins i k e=>O.of U (Ci U i) λxs=>O.of U ((top U k (evE Z U k)).bind DF) λj=>O.of U (evE Z U e) λd=>if (CD (xs.length+1)&&decide (0<=j)&&decide (j<=xs.length))=Ab then .next (U.set i (Aa (.lst (xs.take j.toNat++d::xs.drop j.toNat),Ab))) else .bad
  |.rev i=>O.of U (Ci U i) λxs => .next (U.set i (Aa (.lst xs.reverse,Ab)))
  |.clr i=>O.of U (Ci U i) λ_ => .next (U.set i (Aa (.lst [],Ab)))
  |.dput i k e=>O.of U (evE Z U e) λd=>O.of U (PM U i) λxs=>O.of U ((evE Z U k).bind PC) λj=>if CD (xs.length+1)=Ab then .next (U.set i (Aa (.dic (OA xs j d),Ab))) else .bad
  |.dsd i k e=>O.of U (PM U i) λxs=>O.of U ((evE Z U k).bind PC) λj=>O.of U (evE Z U e) λd=>if CD (xs.length+1)=Ab then .next (U.set i (Aa (.dic (if (xs.any λp=>p.1==j)=Ab then xs else OA xs j d),Ab))) else .bad
  |.put i k e=>O.of U (evE Z U e) λd=>O.of U (Ci U i) λxs=>O.of U ((top U k (evE Z U k)).bind DF) λj=>match plD xs.length j with
      |some n => .next (U.set i (Aa (.lst (xs.set n d),Ab)))
      |none => .bad
  |.swp i k l=>O.of U (evE Z U (.tup (.cons (.idx (.var i) (.var l)) (.cons (.idx (.var i) (.var k)) .nil)))) λd=>bE U d i k l
  |.apop j i e=>O.of U (Ci U j) λys=>O.of U (Ci U i) λxs=>O.of U (evE Z U e) λd=>O.of U (DF d) λn=>apD U j i ys xs n
  |.brk => .brk U
  |.cont => .cont U
  |.rel i=>match U[i]? with
      |some (Aa (d,Ab)) => .next (U.set i (Aa (d,Ae)))
      |_ => .next U
noncomputable def evSs(Z:Gam)(U:Rho):Ss->O
 |.nil => .next U
 |.cons s ss=>(evS Z U s).seq λU'=>evSs Z U' ss
end
structure Df where
 n:Af
 fr:Ak
 body:Ss
noncomputable def CM(n:Af)(ds:Ac D):Rho:=ds.map (λd=>Aa (d,Ae))++EZ (n-ds.length) Ad
noncomputable def isL:D->Ak
 |.lst _=>Ab
 |.dic _=>Ab
 |_=>Ae
noncomputable def O.ans(fr:Ak)(o:O):R D:=match o with
  |.ret d b=>if (fr&&(!b&&isL d))=Ab then .bad else .ok d
  |.next _=>if fr=Ab then .bad else .ok .non
  |.exn x _ => .exn x
  |_ => .bad
noncomputable def Df.run(Z:Gam)(f:Df)(ds:Ac D):R D:=(evSs Z (CM f.n ds) f.body).ans f.fr
structure Prg where
 xs:Ak
 defs:Af->Df
 G:Af->D
 up:Af->Ac Af
 xn:Af->Ac D->R Ex
noncomputable def Fl(xs:Ak)(r:R D):R D:=match xs with
  |true=>r
  |false=>noX r
noncomputable def gam(P:Prg):Af->Gam
 |0=>⟨λ_ _ => .bad,P.G,P.up,λi=>(P.defs i).fr,P.xn⟩
 |n+1=>⟨λi ds=>Fl P.xs ((P.defs i).run (gam P n) ds),P.G,P.up,λi=>(P.defs i).fr,P.xn⟩
end Ov
end
section
namespace Ov
open PySem
variable{α β:Type}{lo hi:Aj}{n:Af}{x:D}
section
variable(Z:Gam)(U:Rho)
@[simp]theorem ZsU:evE Z U .non = .ok .non:=rfl
@[simp]theorem ZuL(b):evE Z U (.bl b) = .ok (.bl b):=rfl
@[simp]theorem Wa(b):evE Z U (.int b) = .ok (.int b):=rfl
@[simp]theorem V9(b):evE Z U (.str b) = .ok (.str b):=rfl
@[simp]theorem ZsT(i):evE Z U (.var i)=Dv U i:=rfl
@[simp]theorem ZpI(i):evE Z U (.glob i) = .ok (Z.G i):=rfl
@[simp]theorem VL(op a b):evE Z U (.bin op a b)=(top U a (evE Z U a)).bind λx=>(top U b (evE Z U b)).bind λy=>Cj op x y:=rfl
@[simp]theorem ZuH(op a):evE Z U (.un op a)=(top U a (evE Z U a)).bind λx=>unD op x:=rfl
@[simp]theorem ZuK(a):evE Z U (.no a)=(top U a (evE Z U a)).bind λx=>(CY x).bind λb => .ok (.bl (!b)):=rfl
@[simp]theorem Zs2(es):evE Z U (.and es)=evN Z U es:=rfl
@[simp]theorem ZuJ(es):evE Z U (.or es)=evO Z U es:=rfl
@[simp]theorem ZsP(e):evN Z U (.cons e .nil)=evE Z U e:=rfl
@[simp]theorem ZpB(e e' es):evN Z U (.cons e (.cons e' es))=(evE Z U e).bind λx=>(CY x).bind λc=>if c=Ab then evN Z U (.cons e' es) else .ok (.bl Ae):=rfl
@[simp]theorem ZsO(e):evO Z U (.cons e .nil)=evE Z U e:=rfl
@[simp]theorem ZpA(e e' es):evO Z U (.cons e (.cons e' es))=(evE Z U e).bind λx=>(CY x).bind λc=>if c=Ab then .ok (.bl Ab) else evO Z U (.cons e' es):=rfl
@[simp]theorem Zs0(op a b):evE Z U (.cmp op a b)=(top U a (evE Z U a)).bind λx=>(top U b (evE Z U b)).bind λy=>Bu op x y:=rfl
@[simp]theorem ZpL(op op' a b c):evE Z U (.cmp2 op op' a b c)=(top U a (evE Z U a)).bind λx=>(top U b (evE Z U b)).bind λy=>(Bu op x y).bind λz=>(CY z).bind λk=>if k=Ab then (top U c (evE Z U c)).bind λu=>Bu op' y u else .ok (.bl Ae):=rfl
@[simp]theorem ZsW(c a b):evE Z U (.ite c a b)=(top U c (evE Z U c)).bind λx=>(BE x).bind λk=>if k=Ab then evE Z U a else evE Z U b:=rfl
@[simp]theorem ZpM(f as):evE Z U (.call f as)=(evB Z U as).bind λxs=>(Z.F f xs).bind λd=>if FY U as=Ab then .ok d else if GO (Z.fr f) d=Ab then .ok d else .bad:=rfl
@[simp]theorem Lw(f as):evE Z U (.bi f as)=(evB Z U as).bind λxs=>biD f xs:=rfl
@[simp]theorem ZsX(a ks):evE Z U (.isi a ks)=(top U a (evE Z U a)).bind λx=>FM Z.up ks x:=rfl
@[simp]theorem ZsY(a i):evE Z U (.idx a i)=(top U a (evE Z U a)).bind λx=>(top U i (evE Z U i)).bind λy=>EU x y:=rfl
@[simp]theorem ZuI(a lo hi):evE Z U (.sl a lo hi)=(top U a (evE Z U a)).bind λx=>(top U lo (evE Z U lo)).bind λl=>(slE lo l).bind λl'=>(top U hi (evE Z U hi)).bind λh=>(slE hi h).bind λh'=>slD x l' h':=rfl
@[simp]theorem V8(es):evE Z U (.tup es)=(evA Z U es).bind λxs => .ok (.tup xs):=rfl
@[simp]theorem ZsV(es):evE Z U (.lst es)=(evA Z U es).bind λxs => .ok (.lst xs):=rfl
noncomputable def cG(Z:Gam)(U:Rho)(t:Af)(c:E):D->R Ak:=λx=>(top (U.set t (Aa (x,Ae))) c (evE Z (U.set t (Aa (x,Ae))) c)).bind BE
noncomputable def cF(Z:Gam)(U:Rho)(t:Af)(elt:E):D->R D:=λx=>evE Z (U.set t (Aa (x,Ae))) elt
noncomputable def mkL(r:R (Ac D)):R D:=(noX r).bind λys => .ok (.lst ys)
@[simp]theorem Zud(ys):mkL (.ok ys) = .ok (.lst ys):=rfl
@[simp]theorem ZpK(elt t it c):evE Z U (.comp elt t it c)=(evI Z U it).bind λxs=>mkL (Bx (cG Z U t c) (cF Z U t elt) xs):=rfl
noncomputable def cGT(Z:Gam)(U:Rho)(ts:Ac Af)(c:E):D->R Ak:=λx=>(E1 ts x U).bind λU'=>(top U' c (evE Z U' c)).bind BE
noncomputable def cFT(Z:Gam)(U:Rho)(ts:Ac Af)(elt:E):D->R D:=λx=>(E1 ts x U).bind λU'=>evE Z U' elt
@[simp]theorem ZnR(elt ts it c):evE Z U (.compT elt ts it c)=(evI Z U it).bind λxs=>mkL (Bx (cGT Z U ts c) (cFT Z U ts elt) xs):=rfl
@[simp]theorem ZpH(it):evE Z U (.tupI it)=(evI Z U it).bind λxs => .ok (.tup xs):=rfl
@[simp]theorem ZpJ:evE Z U .dnew = .ok (.dic []):=rfl
@[simp]theorem Zs1(i e):evE Z U (.clo i e)=JX Z.F (Dv U i) (evE Z U e):=rfl
@[simp]theorem ZsZ(o f):evE Z U (.fld o f)=(top U o (evE Z U o)).bind λx=>Qb x f:=rfl
@[simp]theorem Zs4:evA Z U .nil = .ok []:=rfl
@[simp]theorem NQ(e es):evA Z U (.cons e es)=(evE Z U e).bind λx=>(evA Z U es).bind λxs => .ok (x::xs):=rfl
@[simp]theorem Zs3:evB Z U .nil = .ok []:=rfl
@[simp]theorem NP(e es):evB Z U (.cons e es)=(top U e (evE Z U e)).bind λx=>(evB Z U es).bind λxs => .ok (x::xs):=rfl
@[simp]theorem ZvB(a):evI Z U (.e a)=(evE Z U a).bind CK:=rfl
@[simp]theorem ZsR(a):evI Z U (.rng a)=(top U a (evE Z U a)).bind λx=>(DF x).bind λj=>C3 0 j:=rfl
@[simp]theorem ZpG(a b):evI Z U (.rng2 a b)=(top U a (evE Z U a)).bind λx=>(top U b (evE Z U b)).bind λy=>(DF x).bind λi=>(DF y).bind λj=>C3 i j:=rfl
@[simp]theorem ZsQ(a b):evI Z U (.zip a b)=(evE Z U a).bind λx=>(evE Z U b).bind λy=>(CK x).bind λxs=>(CK y).bind λys => .ok (Ec xs ys):=rfl
@[simp]theorem ZpF(a b c):evI Z U (.zip3 a b c)=(evE Z U a).bind λx=>(evE Z U b).bind λy=>(evE Z U c).bind λz=>OZ x y z:=rfl
@[simp]theorem ZsS(a):evI Z U (.enm a)=(evE Z U a).bind λx=>(CK x).bind λxs => .ok (Mh 0 xs):=rfl
@[simp]theorem ZpC(a b):FZ Z U (.zip a b)=evI Z U (.zip a b):=rfl
@[simp]theorem ZnP(a b c):FZ Z U (.zip3 a b c)=evI Z U (.zip3 a b c):=rfl
@[simp]theorem ZpE(a):FZ Z U (.enm a)=evI Z U (.enm a):=rfl
@[simp]theorem ZuG(a):FZ Z U (.e a)=(evE Z U a).bind CK:=rfl
@[simp]theorem ZpD(a):FZ Z U (.rng a)=evI Z U (.rng a):=rfl
@[simp]theorem ZnQ(a b):FZ Z U (.rng2 a b)=evI Z U (.rng2 a b):=rfl
variable(r:R D)
@[simp]theorem Zqd(i):top U (.var i) r=Ey U i:=rfl
@[simp]theorem Zqe:top U .non r=r:=rfl
@[simp]theorem ZtK(b):top U (.bl b) r=r:=rfl
@[simp]theorem Vm(b):top U (.int b) r=r:=rfl
@[simp]theorem Vl(b):top U (.str b) r=r:=rfl
@[simp]theorem ZoR(b):top U (.glob b) r=r:=rfl
@[simp]theorem Vn(op a b):top U (.bin op a b) r=r:=rfl
@[simp]theorem ZtG(op a):top U (.un op a) r=r:=rfl
@[simp]theorem ZtJ(a):top U (.no a) r=r:=rfl
@[simp]theorem Zqm(a):top U (.and a) r=r:=rfl
@[simp]theorem ZtI(a):top U (.or a) r=r:=rfl
@[simp]theorem Zqk(op a b):top U (.cmp op a b) r=r:=rfl
@[simp]theorem ZoU(op op' a b c):top U (.cmp2 op op' a b c) r=r:=rfl
@[simp]theorem Zqg(a b c):top U (.ite a b c) r=r:=rfl
@[simp]theorem ZoV(a b):top U (.call a b) r=r:=rfl
@[simp]theorem ZtL(a b):top U (.bi a b) r=r:=rfl
@[simp]theorem Zqh(a b):top U (.isi a b) r=r:=rfl
@[simp]theorem Zqi(a b):top U (.idx a b) r=r:=rfl
@[simp]theorem ZtH(a b c):top U (.sl a b c) r=r:=rfl
@[simp]theorem UF(a):top U (.tup a) r=r:=rfl
@[simp]theorem Zqf(a):top U (.lst a) r=r:=rfl
@[simp]theorem ZoT(a b c d):top U (.comp a b c d) r=r:=rfl
@[simp]theorem Zql(a b):top U (.clo a b) r=r:=rfl
@[simp]theorem Zqj(a b):top U (.fld a b) r=r:=rfl
@[simp]theorem ZlP(a b c d):top U (.compT a b c d) r=r:=rfl
@[simp]theorem ZoQ(a):top U (.tupI a) r=r:=rfl
@[simp]theorem ZoS:top U .dnew r=r:=rfl
end
@[simp]theorem ZlE(x:D × Ak)(U:Rho):Ey (Aa x::U) 0 = .ok x.1:=rfl
@[simp]theorem ZlF(x:D)(U:Rho):Dv (Aa (x,Ae)::U) 0 = .ok x:=rfl
@[simp]theorem Zlj(x:Sl)(U:Rho)(i:Af)[NeZero i]:Ey (x::U) i=Ey U (i-1):=by
 obtain⟨j,rfl⟩ : ∃ j,i=j+1:=⟨i-1,by have:=HM i;omega⟩
 rfl
@[simp]theorem Zlk(x:Sl)(U:Rho)(i:Af)[NeZero i]:Dv (x::U) i=Dv U (i-1):=by
 obtain⟨j,rfl⟩ : ∃ j,i=j+1:=⟨i-1,by have:=HM i;omega⟩
 rfl
noncomputable def shV(U:Rho)(i:Af):Ak:=match U[i]? with
    |some (Aa (_,Ab))=>Ae
    |_=>Ab
@[simp]theorem ZoX(x:D)(b:Ak)(U:Rho):shV (Aa (x,b)::U) 0 = !b:=by cases b <;> rfl
@[simp]theorem Zmd(U:Rho):shV (Ad::U) 0=Ab:=rfl
@[simp]theorem Zme(x:Sl)(U:Rho)(i:Af)[NeZero i]:shV (x::U) i=shV U (i-1):=by
 obtain⟨j,rfl⟩ : ∃ j,i=j+1:=⟨i-1,by have:=HM i;omega⟩
 rfl
section
variable(U:Rho)
@[simp]theorem ZqH(i):shE U (.var i)=shV U i:=rfl
@[simp]theorem ZqK:shE U .non=Ab:=rfl
@[simp]theorem Zt0(b):shE U (.bl b)=Ab:=rfl
@[simp]theorem ZqO(b):shE U (.int b)=Ab:=rfl
@[simp]theorem ZqJ(b):shE U (.str b)=Ab:=rfl
@[simp]theorem Zo0(b):shE U (.glob b)=Ab:=rfl
@[simp]theorem ZqT(op a b):shE U (.bin op a b)=Ab:=rfl
@[simp]theorem ZtW(op a):shE U (.un op a)=Ab:=rfl
@[simp]theorem ZtZ(a):shE U (.no a)=Ab:=rfl
@[simp]theorem ZqU(a):shE U (.and a)=Ab:=rfl
@[simp]theorem ZtY(a):shE U (.or a)=Ab:=rfl
@[simp]theorem ZqR(op a b):shE U (.cmp op a b)=Ab:=rfl
@[simp]theorem Zo3(op op' a b c):shE U (.cmp2 op op' a b c)=Ab:=rfl
@[simp]theorem ZqM(a b c):shE U (.ite a b c)=Ab:=rfl
@[simp]theorem Zo4(a b):shE U (.call a b)=Ab:=rfl
@[simp]theorem Zt1(a b):shE U (.bi a b)=Ab:=rfl
@[simp]theorem ZqN(a b):shE U (.isi a b)=Ab:=rfl
@[simp]theorem ZqP(a b):shE U (.idx a b)=Ab:=rfl
@[simp]theorem ZtX(a b c):shE U (.sl a b c)=Ab:=rfl
@[simp]theorem ZqI(a):shE U (.tup a)=Ab:=rfl
@[simp]theorem ZqL(a):shE U (.lst a)=Ab:=rfl
@[simp]theorem Zo2(a b c d):shE U (.comp a b c d)=Ab:=rfl
@[simp]theorem Zmf(a b c d):shE U (.compT a b c d)=Ab:=rfl
@[simp]theorem ZoZ(a):shE U (.tupI a)=Ab:=rfl
@[simp]theorem Zo1:shE U .dnew=Ab:=rfl
@[simp]theorem ZqS(a b):shE U (.clo a b)=Ab:=rfl
@[simp]theorem ZqQ(a b):shE U (.fld a b)=Ab:=rfl
@[simp]theorem ZoY:FY U .nil=Ab:=rfl
@[simp]theorem S9(e es):FY U (.cons e es)=(shE U e&&FY U es):=rfl
end
@[simp]theorem Zlm(U:Rho):DB [] [] U=Aa U:=rfl
@[simp]theorem ZjC(t ts d ds)(U:Rho):DB (t::ts) (d::ds) U=DB ts ds (U.set t (Aa (d,Ae))):=rfl
@[simp]theorem Tt(ts ds)(U:Rho):GK ts (.lst ds) U=match DB ts ds U with
  |some U' => .ok U'
  |none => .bad:=rfl
@[simp]theorem Zom(ts ds)(U:Rho):GK ts (.tup ds) U=E1 ts (.tup ds) U:=rfl
@[simp]theorem M7(ts ds)(U:Rho):E1 ts (.tup ds) U=match DB ts ds U with
  |some U' => .ok U'
  |none => .bad:=rfl
@[simp]theorem ZpW(c:Prop)[EA c](a b:R α)(f:α->R β):(if c then a else b).bind f=if c then a.bind f else b.bind f:=by split <;> rfl
@[simp]theorem Zua(U:Rho)(c:Prop)[EA c](a b:R α)(f:α->O):O.of U (if c then a else b) f=if c then O.of U a f else O.of U b f:=by split <;> rfl
@[simp]theorem ZrW(U:Rho)(a:R α)(g:α->R β)(f:β->O):O.of U (a.bind g) f=O.of U a λx=>O.of U (g x) f:=by cases a <;> rfl
@[simp]theorem ZqW(c:Prop)[EA c](a b:O)(f:Rho->O):O.seq (if c then a else b) f=if c then a.seq f else b.seq f:=by split <;> rfl
@[simp]theorem ZoG(c:Prop)[EA c](a b:O)(f:Rho->O):O.turn (if c then a else b) f=if c then a.turn f else b.turn f:=by split <;> rfl
@[simp]theorem Ztn(fr:Ak)(c:Prop)[EA c](a b:O):O.ans fr (if c then a else b)=if c then a.ans fr else b.ans fr:=by split <;> rfl
@[simp]theorem Zo5(U f):O.seq (.next U) f=f U:=rfl
@[simp]theorem ZqV(d b f):O.seq (.ret d b) f = .ret d b:=rfl
@[simp]theorem ZqY(U f):O.seq (.brk U) f = .brk U:=rfl
@[simp]theorem Zo6(U f):O.seq (.cont U) f = .cont U:=rfl
@[simp]theorem ZqX(x U f):O.seq (.exn x U) f = .exn x U:=rfl
@[simp]theorem ZqZ(f):O.seq .bad f = .bad:=rfl
@[simp]theorem ZlK(U f):O.turn (.next U) f=f U:=rfl
@[simp]theorem ZoF(d b f):O.turn (.ret d b) f = .ret d b:=rfl
@[simp]theorem ZoI(U f):O.turn (.brk U) f = .next U:=rfl
@[simp]theorem ZlL(U f):O.turn (.cont U) f=f U:=rfl
@[simp]theorem ZoH(x U f):O.turn (.exn x U) f = .exn x U:=rfl
@[simp]theorem ZoJ(f):O.turn .bad f = .bad:=rfl
@[simp]theorem ZpY(U):O.ans Ae (.next U) = .ok .non:=rfl
@[simp]theorem Ztm(d b):O.ans Ae (.ret d b) = .ok d:=rfl
@[simp]theorem ZpX(d b):O.ans Ab (.ret d b)=if (!b&&isL d)=Ab then .bad else .ok d:=rfl
@[simp]theorem Zsr(d):isL (.lst d)=Ab:=rfl
@[simp]theorem Zsq(d):isL (.tup d)=Ae:=rfl
@[simp]theorem Zss(d):isL (.int d)=Ae:=rfl
@[simp]theorem Zto(fr x U):O.ans fr (.exn x U) = .exn x:=rfl
@[simp]theorem Ztp(fr):O.ans fr .bad = .bad:=rfl
@[simp]theorem ZuT(i j:Aj):Cj .Add (.int i) (.int j) = .ok (.int (i+j)):=rfl
@[simp]theorem ZtR(i j:Aj):Cj .Sub (.int i) (.int j) = .ok (.int (i-j)):=rfl
@[simp]theorem X6(i j:Aj):Cj .Mult (.int i) (.int j)=if (DD i j||FX i j)=Ab then .ok (.int (i*j)) else .bad:=rfl
@[simp]theorem Jf(i j:Aj):Cj .FloorDiv (.int i) (.int j)=if 0<j/\j<1073741824 then .ok (.int (i/j)) else .bad:=rfl
@[simp]theorem X7(i j:Aj):Cj .Mod (.int i) (.int j)=if 0<j then .ok (.int (i%j)) else .bad:=rfl
@[simp]theorem W6(i j:Aj):Cj .Pow (.int i) (.int j)=if (0<=j/\j<=1000000)/\(-(18446744073709551616:Aj)<i/\i<18446744073709551616) then .ok (.int (i ^ j.toNat)) else .bad:=rfl
@[simp]theorem OE(x y:Ai):Cj .Add (.str x) (.str y)=if CD (x.length+y.length)=Ab then .ok (.str (x++y)) else .bad:=rfl
@[simp]theorem OF(x y:Ac D):Cj .Add (.lst x) (.lst y)=if CD (x.length+y.length)=Ab then .ok (.lst (x++y)) else .bad:=rfl
@[simp]theorem OD(x y:Ac D):Cj .Add (.tup x) (.tup y)=if (!x.isEmpty&&CD (x.length+y.length))=Ab then .ok (.tup (x++y)) else .bad:=rfl
@[simp]theorem Zvj(i:Aj):unD .USub (.int i) = .ok (.int (-i)):=rfl
@[simp]theorem ZQ(x y:D):Bu .Eq x y=if (flD 5 x&&flD 5 y)=Ab then .ok (.bl (eqD x y)) else .bad:=rfl
@[simp]theorem Y_4(x y:D):Bu .NotEq x y=if (flD 5 x&&flD 5 y)=Ab then .ok (.bl (!eqD x y)) else .bad:=rfl
@[simp]theorem Zvk(i j:Aj):Bu .Lt (.int i) (.int j) = .ok (.bl (decide (i<j))):=rfl
@[simp]theorem Zvn(i j:Aj):Bu .LtE (.int i) (.int j) = .ok (.bl (decide (i<=j))):=rfl
@[simp]theorem Zvx(i j:Aj):Bu .Gt (.int i) (.int j) = .ok (.bl (decide (j<i))):=rfl
@[simp]theorem Zvy(i j:Aj):Bu .GtE (.int i) (.int j) = .ok (.bl (decide (j<=i))):=rfl
@[simp]theorem bK(x:D)(ys:Ac D):Bu .In x (.lst ys)=if (flD 5 x&&ys.all (flD 5))=Ab then .ok (.bl (ys.any λy=>eqD y x)) else .bad:=rfl
@[simp]theorem bJ(x:D)(ys:Ac D):Bu .In x (.tup ys)=if (flD 5 x&&ys.all (flD 5))=Ab then .ok (.bl (ys.any λy=>eqD y x)) else .bad:=rfl
@[simp]theorem Y_2(x:D)(ys:Ac D):Bu .NotIn x (.lst ys)=if (flD 5 x&&ys.all (flD 5))=Ab then .ok (.bl (!ys.any λy=>eqD y x)) else .bad:=rfl
@[simp]theorem Y_1(x:D)(ys:Ac D):Bu .NotIn x (.tup ys)=if (flD 5 x&&ys.all (flD 5))=Ab then .ok (.bl (!ys.any λy=>eqD y x)) else .bad:=rfl
@[simp]theorem Zup:Bu .Is .non .non = .ok (.bl Ab):=rfl
@[simp]theorem Zur(i):Bu .Is (.int i) .non = .ok (.bl Ae):=rfl
@[simp]theorem Zuo(i):Bu .Is (.tup i) .non = .ok (.bl Ae):=rfl
@[simp]theorem Zuq(i):Bu .Is (.lst i) .non = .ok (.bl Ae):=rfl
@[simp]theorem Zvq(a b):Bu .Is (.bl a) (.bl b) = .ok (.bl (a==b)):=rfl
@[simp]theorem Zum(a b):Bu .IsNot (.bl a) (.bl b) = .ok (.bl (!(a==b))):=rfl
@[simp]theorem Zsg:Bu .IsNot .non .non = .ok (.bl Ae):=rfl
@[simp]theorem Zsi(i):Bu .IsNot (.int i) .non = .ok (.bl Ab):=rfl
@[simp]theorem Zsf(i):Bu .IsNot (.tup i) .non = .ok (.bl Ab):=rfl
@[simp]theorem Zsh(i):Bu .IsNot (.lst i) .non = .ok (.bl Ab):=rfl
@[simp]theorem Zta(i j:Aj):eqD (.int i) (.int j)=(i==j):=rfl
@[simp]theorem ZuM(i j:Ak):eqD (.bl i) (.bl j)=(i==j):=rfl
@[simp]theorem Zs7(i j:Ai):eqD (.str i) (.str j)=(i==j):=rfl
@[simp]theorem Zs6(i j:Ac D):eqD (.tup i) (.tup j)=eqDs i j:=rfl
@[simp]theorem Zs9(i j:Ac D):eqD (.lst i) (.lst j)=eqDs i j:=rfl
@[simp]theorem Zs8:eqD .non .non=Ab:=rfl
@[simp]theorem Zk1(i):eqD .non (.int i)=Ae:=rfl
@[simp]theorem Zk2(i):eqD (.int i) .non=Ae:=rfl
@[simp]theorem ZpN:eqDs [] []=Ab:=rfl
@[simp]theorem KG(x y:D)(xs ys:Ac D):eqDs (x::xs) (y::ys)=(eqD x y&&eqDs xs ys):=rfl
@[simp]theorem ZsE(n)(i:Aj):flD n (.int i)=Ab:=by cases n <;> rfl
@[simp]theorem ZuF(n)(i:Ak):flD n (.bl i)=Ab:=by cases n <;> rfl
@[simp]theorem ZsC(n)(i:Ai):flD n (.str i)=Ab:=by cases n <;> rfl
@[simp]theorem ZsD(n):flD n .non=Ab:=by cases n <;> rfl
@[simp]theorem Zpf(i):flD 5 (.tup i)=i.all (flD 4):=rfl
@[simp]theorem Zpk(i):flD 5 (.lst i)=i.all (flD 4):=rfl
@[simp]theorem Zpg(i):flD 4 (.tup i)=i.all (flD 3):=rfl
@[simp]theorem Zpl(i):flD 4 (.lst i)=i.all (flD 3):=rfl
@[simp]theorem Zph(i):flD 3 (.tup i)=i.all (flD 2):=rfl
@[simp]theorem Zpm(i):flD 3 (.lst i)=i.all (flD 2):=rfl
@[simp]theorem Zpi(i):flD 2 (.tup i)=i.all (flD 1):=rfl
@[simp]theorem Zpn(i):flD 2 (.lst i)=i.all (flD 1):=rfl
@[simp]theorem Zpj(i):flD 1 (.tup i)=i.all (flD 0):=rfl
@[simp]theorem Zpo(i):flD 1 (.lst i)=i.all (flD 0):=rfl
@[simp]theorem Zqb(b):BE (.bl b) = .ok b:=rfl
@[simp]theorem ZoN(i):BE (.int i) = .ok (i != 0):=rfl
@[simp]theorem ZoM(i):BE (.lst i) = .ok (!i.isEmpty):=rfl
@[simp]theorem ZoK(i):BE (.tup i) = .ok (!i.isEmpty):=rfl
@[simp]theorem ZoL:BE .non = .ok Ae:=rfl
@[simp]theorem Zqc(b):EV (.bl b) = .ok b:=rfl
@[simp]theorem ZoP(i):EV (.int i) = .ok (i != 0):=rfl
@[simp]theorem ZoO:EV .non = .ok Ae:=rfl
@[simp]theorem Zov:Ew [] = .ok Ab:=rfl
@[simp]theorem KW(x r):Ew (x::r)=(EV x).bind λb=>(Ew r).bind λc => .ok (b&&c):=rfl
@[simp]theorem Zou:GM [] = .ok Ae:=rfl
@[simp]theorem ZlA(x r):GM (x::r)=(EV x).bind λb=>(GM r).bind λc => .ok (b||c):=rfl
@[simp]theorem Ztc(b)(d):Fl b (.ok d) = .ok d:=by cases b <;> rfl
@[simp]theorem ZpP(b):Fl b .bad = .bad:=by cases b <;> rfl
@[simp]theorem ZpO(x):Fl Ab (.exn x) = .exn x:=rfl
@[simp]theorem Zlv(r):Fl Ae r=noX r:=rfl
@[simp]theorem ZrX(a:α):noX (.ok a) = .ok a:=rfl
@[simp]theorem ZrZ:noX (.bad:R α) = .bad:=rfl
@[simp]theorem ZrY(x):noX (.exn x:R α) = .bad:=rfl
@[simp]theorem Ztk(b):CY (.bl b) = .ok b:=rfl
@[simp]theorem Tu(b):DF (.int b) = .ok b:=rfl
@[simp]theorem MP(b):Hx (.lst b) = .ok b:=rfl
@[simp]theorem Zoo(b):CK (.lst b) = .ok b:=rfl
@[simp]theorem Zon(b):CK (.tup b) = .ok b:=rfl
@[simp]theorem ZY(xs i):EU (.lst xs) (.int i)=Ee xs i:=rfl
@[simp]theorem ZX(xs i):EU (.tup xs) (.int i)=Ee xs i:=rfl
@[simp]theorem Zvm(xs):biD .len [.lst xs] = .ok (.int xs.length):=rfl
@[simp]theorem Zvl(xs):biD .len [.tup xs] = .ok (.int xs.length):=rfl
@[simp]theorem ZvM(i):biD .abs [.int i] = .ok (.int (if i<0 then -i else i)):=rfl
@[simp]theorem Zug(i j):biD .max [.int i,.int j] = .ok (.int (if i<j then j else i)):=rfl
@[simp]theorem Zue(i j):biD .min [.int i,.int j] = .ok (.int (if j<i then j else i)):=rfl
@[simp]theorem Zvr(i):biD .int [.int i] = .ok (.int i):=rfl
@[simp]theorem Zvs(i):biD .int [.bl i] = .ok (.int (b2i i)):=rfl
@[simp]theorem Zul(i):biD .list [.lst i] = .ok (.lst i):=rfl
@[simp]theorem Zuk(i):biD .list [.tup i] = .ok (.lst i):=rfl
@[simp]theorem Zqa(i):biD .tuple [.lst i] = .ok (.tup i):=rfl
@[simp]theorem Zp9(i):biD .tuple [.tup i] = .ok (.tup i):=rfl
@[simp]theorem Z_6(i):biD .all [.lst i]=(Ew i).bind λb => .ok (.bl b):=rfl
@[simp]theorem ZvL(i):biD .any [.lst i]=(GM i).bind λb => .ok (.bl b):=rfl
@[simp]theorem ZvK(i):biD .any [.tup i]=(GM i).bind λb => .ok (.bl b):=rfl
@[simp]theorem Zvf(i):biD .sum [.lst i]=(FJ 0 i).bind λb => .ok (.int b):=rfl
@[simp]theorem Zve(i):biD .sum [.tup i]=(FJ 0 i).bind λb => .ok (.int b):=rfl
@[simp]theorem ZoW(i):biD .sorted [.lst i]=(NK i).bind λb => .ok (.lst b):=rfl
@[simp]theorem Zvg(xs k):biD .stp [.lst xs,.int k] = .ok (.lst (P7 k.toNat xs)):=rfl
@[simp]theorem Zvi(xs):biD .rvs [.lst xs] = .ok (.lst xs.reverse):=rfl
@[simp]theorem Zui(xs):biD .lset [.lst xs]=Pu xs:=rfl
@[simp]theorem ZtM(x y):biD .tmin [x,y]=mmD Ae x y:=rfl
@[simp]theorem Zu3(x y):biD .tlt [x,y]=P0 x y:=rfl
@[simp]theorem ZtN(x y):biD .tmax [x,y]=mmD Ab x y:=rfl
@[simp]theorem Ztd(xs x):biD .count [.lst xs,x]=if (flD 5 x&&xs.all (flD 5))=Ab then .ok (.int ((xs.filter λy=>eqD y x).length:Af)) else .bad:=rfl
@[simp]theorem ZvV(xs lo hi):slD (.tup xs) lo hi=if (G7 xs.length 0 lo==0&&G7 xs.length xs.length hi==xs.length)=Ab then .bad else .ok (.tup (JW xs lo hi)):=rfl
@[simp]theorem ZvW(xs lo hi):slD (.lst xs) lo hi = .ok (.lst (JW xs lo hi)):=rfl
@[simp]theorem ZqD(d):slE .non d = .ok Ad:=rfl
@[simp]theorem ZqE(k i):slE (.int k) (.int i) = .ok (Aa i):=rfl
@[simp]theorem ZqC(k i):slE (.var k) (.int i) = .ok (Aa i):=rfl
@[simp]theorem ZqF(op a b i):slE (.bin op a b) (.int i) = .ok (Aa i):=rfl
@[simp]theorem ZtU(op a i):slE (.un op a) (.int i) = .ok (Aa i):=rfl
@[simp]theorem ZtV(b as i):slE (.bi b as) (.int i) = .ok (Aa i):=rfl
@[simp]theorem Zsl(up ks):FM up ks .non=if ks.any DP=Ab then .bad else .ok (.bl (ks.any λk=>kiD up k .non)):=rfl
@[simp]theorem Zun(up ks b):FM up ks (.bl b)=if ks.any DP=Ab then .bad else .ok (.bl (ks.any λk=>kiD up k (.bl b))):=rfl
@[simp]theorem Zsn(up ks b):FM up ks (.int b)=if ks.any DP=Ab then .bad else .ok (.bl (ks.any λk=>kiD up k (.int b))):=rfl
@[simp]theorem Zsk(up ks b):FM up ks (.str b)=if ks.any DP=Ab then .bad else .ok (.bl (ks.any λk=>kiD up k (.str b))):=rfl
@[simp]theorem Zsj(up ks b):FM up ks (.tup b)=if ks.any DP=Ab then .bad else .ok (.bl (ks.any λk=>kiD up k (.tup b))):=rfl
@[simp]theorem Zsm(up ks b):FM up ks (.lst b)=if ks.any DP=Ab then .bad else .ok (.bl (ks.any λk=>kiD up k (.lst b))):=rfl
@[simp]theorem Zso(up ks c f):FM up ks (.exc c f)=if ks.all DP=Ab then .ok (.bl (ks.any λk=>kiD up k (.exc c f))) else .bad:=rfl
@[simp]theorem ZpT(c):DP (.cls c)=Ab:=rfl
@[simp]theorem ZnY:DP .verr=Ab:=rfl
@[simp]theorem ZpS:DP .int=Ae:=rfl
@[simp]theorem Zn0:DP .bool=Ae:=rfl
@[simp]theorem ZpR:DP .str=Ae:=rfl
@[simp]theorem ZnZ:DP .list=Ae:=rfl
@[simp]theorem Zlz:DP .tuple=Ae:=rfl
@[simp]theorem Zlq(up i):kiD up .int (.int i)=Ab:=rfl
@[simp]theorem Zlp(up):kiD up .int .non=Ae:=rfl
@[simp]theorem ZkD(up i):kiD up .bool (.int i)=Ae:=rfl
@[simp]theorem Zlo(up i):kiD up .int (.tup i)=Ae:=rfl
@[simp]theorem Zls(up i):kiD up .bool (.bl i)=Ab:=rfl
@[simp]theorem ZkC(up):kiD up .bool .non=Ae:=rfl
@[simp]theorem ZkB(up i):kiD up .list (.lst i)=Ab:=rfl
@[simp]theorem Ziz(up i):kiD up .tuple (.tup i)=Ab:=rfl
@[simp]theorem ZiA(up):kiD up .tuple .non=Ae:=rfl
@[simp]theorem Zlr(up c k f):kiD up (.cls c) (.exc k f)=(up k).contains c:=rfl
@[simp]theorem ZkA(up k f):kiD up .verr (.exc k f)=Ab:=rfl
theorem K4{xs:Ac D}{i:Aj}{d:D}(h0:0<=i)(h:xs[i.toNat]? = Aa d):Ee xs i = .ok d:=by
 unfold Ee plD;obtain⟨h1,_⟩:=AT.mp h;rw[AD h0,AD (by omega)]
 dsimp only;rw[h]
section
variable(Z:Gam)(U:Rho)
@[simp]theorem Zpp:evSs Z U .nil = .next U:=rfl
noncomputable def FK(Z:Gam)(ss:Ss)(o:O):O:=o.seq λU'=>evSs Z U' ss
@[simp]theorem ZnN(s ss):evSs Z U (.cons s ss)=FK Z ss (evS Z U s):=rfl
@[simp]theorem Zsz(ss):FK Z ss (.next U)=evSs Z U ss:=rfl
@[simp]theorem Zuw(ss d b):FK Z ss (.ret d b) = .ret d b:=rfl
@[simp]theorem ZuA(ss):FK Z ss (.brk U) = .brk U:=rfl
@[simp]theorem ZsA(ss):FK Z ss (.cont U) = .cont U:=rfl
@[simp]theorem Zuz(ss x):FK Z ss (.exn x U) = .exn x U:=rfl
@[simp]theorem ZuB(ss):FK Z ss .bad = .bad:=rfl
@[simp]theorem Zuy(ss)(c:Prop)[EA c](a b:O):FK Z ss (if c then a else b)=if c then FK Z ss a else FK Z ss b:=by split <;> rfl
@[simp]theorem Zux(o:O):FK Z .nil o=o:=by cases o <;> rfl
noncomputable def Gn(Z:Gam)(t:Af)(body:Ss):D->Rho->O:=λx U'=>evSs Z (U'.set t (Aa (x,Ae))) body
noncomputable def whC(Z:Gam)(c:E):Rho->R Ak:=λU'=>(top U' c (evE Z U' c)).bind BE
noncomputable def whB(Z:Gam)(body:Ss):Rho->O:=λU'=>evSs Z U' body
noncomputable def Qa(Z:Gam)(t:Af)(body:Ss)(U:Rho)(r:R (Ac D)):O:=O.of U r λxs=>E5 (Gn Z t body) xs U
@[simp]theorem ZsB(t body xs):Qa Z t body U (.ok xs)=E5 (Gn Z t body) xs U:=rfl
@[simp]theorem Zpu:evS Z U .pass = .next U:=rfl
@[simp]theorem ZsM(i e):evS Z U (.asg i Ae e)=O.of U (evE Z U e) λd => .next (U.set i (Aa (d,Ae))):=rfl
@[simp]theorem Zpx(e):evS Z U (.expr e)=O.of U (evE Z U e) λ_ => .next U:=rfl
@[simp]theorem V6(e):evS Z U (.ret e)=O.of U (top U e (evE Z U e)) λd => .ret d (DG Z e||(match e with | .var i=>(match U[i]? with|some (Aa (_,o))=>o|_=>Ae)|_=>Ae)):=rfl
@[simp]theorem Zps:evS Z U .retN = .ret .non Ae:=rfl
@[simp]theorem ZsI(c a b):evS Z U (.lnd c a b)=O.of U ((top (shA U) c (evE Z (shA U) c)).bind BE) λk=>if k=Ab then evSs Z U a else evSs Z U b:=rfl
@[simp]theorem ZsJ(c a b):evS Z U (.ife c a b)=O.of U ((top U c (evE Z U c)).bind BE) λk=>if k=Ab then evSs Z U a else evSs Z U b:=rfl
@[simp]theorem Zpv(t it body):evS Z U (.fors t it body)=Qa Z t body U (FZ Z U it):=rfl
noncomputable def Pk(Z:Gam)(ts:Ac Af)(body:Ss):D->Rho->O:=λx U'=>O.of U' (E1 ts x U') λU''=>evSs Z U'' body
noncomputable def Pj(Z:Gam)(ts:Ac Af)(body:Ss)(U:Rho)(r:R (Ac D)):O:=O.of U r λxs=>E5 (Pk Z ts body) xs U
@[simp]theorem Zpe(t body xs):Pj Z t body U (.ok xs)=E5 (Pk Z t body) xs U:=rfl
@[simp]theorem Zpw(t it body):evS Z U (.forT t it body)=Pj Z t body U (FZ Z U it):=rfl
@[simp]theorem Zpz(ts e):evS Z U (.asgT ts e)=O.of U (evE Z U e) λd=>O.of U (GK ts d U) λU' => .next U':=rfl
theorem NO(i e):evS Z U (.asg i Ab e)=O.of U (evE Z U e) λd=>if DG Z e=Ab then (match d with
      |.lst xs => .next (U.set i (Aa (.lst xs,Ab)))
      |.dic xs => .next (U.set i (Aa (.dic xs,Ab)))
      | _ => .bad) else .bad:=rfl
noncomputable def setF(U:Rho)(i:Af):D->O
 |.lst xs => .next (U.set i (Aa (.lst xs,Ab)))
 |.dic xs => .next (U.set i (Aa (.dic xs,Ab)))
 |_ => .bad
@[simp]theorem Zt2(i xs):setF U i (.lst xs) = .next (U.set i (Aa (.lst xs,Ab))):=rfl
@[simp]theorem Zt3(i xs):setF U i (.dic xs) = .next (U.set i (Aa (.dic xs,Ab))):=rfl
@[simp]theorem ZnO(i e):evS Z U (.asg i Ab e)=O.of U (evE Z U e) λd=>if DG Z e=Ab then setF U i d else .bad:=by
 rw[NO]
 congr 1
@[simp]theorem ZsN(i e):evS Z U (.app i e)=O.of U (Ci U i) λxs=>O.of U (evE Z U e) λd=>if CD (xs.length+1)=Ab then .next (U.set i (Aa (.lst (xs++[d]),Ab))) else .bad:=rfl
@[simp]theorem V7(i e):evS Z U (.ext i e)=O.of U (Ci U i) λxs=>O.of U (evE Z U e) λd=>O.of U (Hx d) λys=>if CD (xs.length+ys.length)=Ab then .next (U.set i (Aa (.lst (xs++ys),Ab))) else .bad:=rfl
@[simp]theorem ZsH(i):evS Z U (.rev i)=O.of U (Ci U i) λxs => .next (U.set i (Aa (.lst xs.reverse,Ab))):=rfl
@[simp]theorem ZsK(i):evS Z U (.clr i)=O.of U (Ci U i) λ_ => .next (U.set i (Aa (.lst [],Ab))):=rfl
theorem N4(i k e):evS Z U (.put i k e)=O.of U (evE Z U e) λd=>O.of U (Ci U i) λxs=>O.of U ((top U k (evE Z U k)).bind DF) λj=>match plD xs.length j with
      |some n => .next (U.set i (Aa (.lst (xs.set n d),Ab)))
      |none => .bad:=rfl
@[simp]theorem Zpq(body c x h):evS Z U (.tryx body c x h)=match evSs Z U body with
      | .exn y U'=>if (Z.up y.c).contains c=Ab then (match evSs Z (U'.set x (Aa (.exc y.c y.fs,Ae))) h with
          |.next U'' => .next (U''.set x Ad)
          |.ret d f => .ret d f
          | _ => .bad) else .bad
      |o=>o:=rfl
@[simp]theorem Zpr(body c x h c' h' els):evS Z U (.try2 body c x h c' h' els)=match evSs Z U body with
      |.exn y U'=>if (Z.up y.c).contains c=Ab then hdO x y U' (λr=>evSs Z r h) else if (Z.up y.c).contains c'=Ab then hdO x y U' (λr=>evSs Z r h') else .bad
      |.next U'=>evSs Z U' els
      |o=>o:=rfl
@[simp]theorem ZsG(c body):evS Z U (.whl c body)=L5 (whC Z c) (whB Z body) Pi U:=rfl
@[simp]theorem Zpt(c as):evS Z U (.rais c as)=O.of U (noX (evA Z U as)) λxs=>O.of U (Z.xn c xs) λx => .exn x U:=rfl
@[simp]theorem ZsL:evS Z U .brk = .brk U:=rfl
@[simp]theorem Zpy:evS Z U .cont = .cont U:=rfl
end
end Ov
namespace Ov
open PySem
theorem K5{body:D->Rho->O}(P:Rho->Prop) : ∀(xs:Ac D)(U:Rho),P U->(∀ x∈xs,∀ U,P U -> ∃ U',body x U = .next U'/\P U') -> ∃ U',E5 body xs U = .next U'/\P U'
 |[],U,h,_=>⟨U,rfl,h⟩
 |x::xs,U,h,k=>by
  obtain⟨U1,e1,h1⟩:=k x AM U h;obtain⟨U2,e2,h2⟩:=K5 P xs U1 h1 λy hy=>k y (AG _ hy)
  exact⟨U2,by show (body x U).turn _=_;rw[e1];exact e2,h2⟩
theorem S3(h1:0<=lo)(h2:lo<1000000)(h3:0<=hi)(h4:hi<1000000):C3 lo hi = .ok (Da lo (hi-lo).toNat):=by
 unfold C3;rw[AD (by omega)]
theorem S4(h3:0<=hi)(h4:hi<1000000):C3 0 hi = .ok (Da 0 hi.toNat):=by
 rw[S3 (by omega) (by omega) h3 h4,Gu]
theorem Na(h:x∈Da lo n) : ∃ k:Af,k<n/\x = .int (lo+(k:Aj)):=by
 obtain⟨k,hk,e⟩:=EC.mp h;exact⟨k,Ck.mp hk,e.symm⟩
theorem Kq(lo:Aj)(n:Af):(Da lo n).length=n:=by simp[Da]
theorem TN{i:Af}(h:(Da lo n)[i]? = Aa x):i<n/\x = .int (lo+(i:Aj)):=by
 have hl:=(AT.mp h).1;rw[Kq]at hl;unfold Da at h;rw[CZ,List.getElem?_range hl]at h;cases h;exact⟨hl,rfl⟩
noncomputable def Ss.take:Af->Ss->Ss
 |0,_ => .nil
 |_,.nil => .nil
 |n+1,.cons s ss => .cons s (ss.take n)
noncomputable def Ss.drop:Af->Ss->Ss
 |0,ss=>ss
 |_,.nil => .nil
 |n+1,.cons _ ss=>ss.drop n
end Ov
end
section
namespace Ov
noncomputable def xfD:Af->D->Ak
 |0,.int i=>decide (0<=i)&&decide (i<100)
 |n+1,.tup ds=>Cz ds.length 8&&ds.all (xfD n)
 |_,_=>Ae
noncomputable def mkX(c:Af)(f:PySem.Str):Ac D->R Ex
 |[d]=>if (xfD 1 d||xfD 2 d)=Ab then .ok ⟨c,[(f,d)]⟩ else .bad
 |_ => .bad
end Ov
end
section
namespace OvC
open PySem Ov PyProof.Rows
variable{j i:Aj}
noncomputable abbrev scr(ns:Ac Aj):D := .lst (ns.map .int)
noncomputable abbrev sh(d:D):Sl:=Aa (d,Ae)
noncomputable abbrev si(i:Aj):Sl:=Aa (.int i,Ae)
theorem P9{P:Af->Prop}(h0:P 0)(h1:P 1)(h2:P 2)(h3:P 3):P (j%4).toNat:=by
 have:(j%4).toNat=0\/(j%4).toNat=1\/(j%4).toNat=2\/(j%4).toNat=3:=by omega
 rcases this with e|e|e|e <;> rw[e] <;> assumption
noncomputable def P4(p:Aj):Prop:=p=3\/p=5\/p=7\/p=11
noncomputable def pr4(j:Aj):Aj:=[3,5,7,11].getD (j%4).toNat 0
theorem W5(j):P4 (pr4 j):=by
 unfold pr4;exact P9 (P:=λj=>P4 ([3,5,7,11].getD j 0)) (.inl rfl) (.inr (.inl rfl)) (.inr (.inr (.inl rfl))) (.inr (.inr (.inr rfl)))
theorem P4.pos{p}(h:P4 p):0<p:=by rcases h with rfl|rfl|rfl|rfl <;> decide
theorem P4.lo{p}(h:P4 p):3<=p:=by rcases h with rfl|rfl|rfl|rfl <;> decide
theorem P4.hi{p}(h:P4 p):p<=11:=by rcases h with rfl|rfl|rfl|rfl <;> decide
theorem TQ(j:Aj):Ee [.int 3,.int 5,.int 7,.int 11] (j%4) = .ok (.int (pr4 j)):=by
 have h:=P9 (P:=λj=>[D.int 3,D.int 5,D.int 7,D.int 11][j]? = Aa (D.int ([3,5,7,11].getD j 0))) (j:=j) rfl rfl rfl rfl
 exact K4 (by omega) h
theorem Hl(h0 : -18446744073709551616<i)(h1:i<18446744073709551616):DD i j=Ab:=by simp[DD];left;exact⟨h0,h1⟩
theorem La(h0 : -18446744073709551616<j)(h1:j<18446744073709551616):DD i j=Ab:=by simp[DD];right;exact⟨h0,h1⟩
noncomputable def Lx:Df:=⟨2,Ae,(.cons (.ret (.bin .Mod (.var 1) (.var 0))) .nil)⟩
noncomputable def OH(Z:Gam):Prop := ∀ p n:Aj,0<p->Z.F 1 [.int p,.int n] = .ok (.int (n%p))
theorem WV(Z:Gam)(p n:Aj)(h:0<p):Lx.run Z [.int p,.int n] = .ok (.int (n%p)):=by simp[Lx,Df.run,CM,h]
end OvC
end
section
namespace Ov
open PySem
noncomputable def Ql(Z:Gam)(x1 x2:Ai)(k1 k2 k3:S)(kr:Ss):Prop := ∀ ns:Ac Aj,ns.length<=63 -> ∃(p one other:D)(b:Ak),Dk p=Ab/\Dk one=Ab/\Dk other=Ab /\
 evS Z [Aa (.lst (ns.map .int),Ae),Ad,Ad,Ad,Ad,Ad,Ad,Ad,Ad,Ad,Ad,Ad,Ad] k1 = .next [Aa (.lst (ns.map .int),Ae),Aa (p,Ae),Ad,Ad,Ad,Ad,Ad,Ad,Ad,Ad,Ad,Ad,Ad] /\
 evS Z [Aa (.lst (ns.map .int),Ae),Aa (p,Ae),Ad,Ad,Ad,Ad,Ad,Ad,Ad,Ad,Ad,Ad,Ad] k2 = .next [Aa (.lst (ns.map .int),Ae),Aa (p,Ae),Aa (one,Ae),Ad,Ad,Ad,Ad,Ad,Ad,Ad,Ad,Ad,Ad] /\
 evS Z [Aa (.lst (ns.map .int),Ae),Aa (p,Ae),Aa (one,Ae),Ad,Ad,Ad,Ad,Ad,Ad,Ad,Ad,Ad,Ad] k3 = .next [Aa (.lst (ns.map .int),Ae),Aa (p,Ae),Aa (one,Ae),Aa (other,Ae),Ad,Ad,Ad,Ad,Ad,Ad,Ad,Ad,Ad] /\
 evSs Z [Aa (.lst (ns.map .int),Ae),Aa (p,Ae),Aa (one,Ae),Aa (other,Ae),Aa (.obj 50 [(x1,p),(x2,one)],Ae),Aa (.obj 50 [(x1,p),(x2,other)],Ae),Ad,Ad,Ad,Ad,Ad,Ad,Ad] kr = .ret (.bl Ab) b
end Ov
end
namespace Ov
open PySem PySem.Spec PyProof.Rows L2
variable{q b k1 k2 p a l:Ag}{cl:Ac (Ai × Ag)}{v v1 v2:V}{H H' H2 H1 H0:Hp}{tk i n j k:Af}{K:Fg}{A B:Ag->Prop}{xs ys:Ac V}{d:D}{Rp Rq:Hp->V->D->Prop}{r:R D}{X:Cx}{e c tg iter elt:Am}{t' tt:TT}{U:Rho}{x:Ex}{Y:L2.St}{g:D->D->R D}{op op':Co}{pI:Ac (Ag × AB)}{s:Al}{its its2:Ac Ah}{items2 items:AW Ah}{h h' h2:As}{u:Ah}{es ifs:Ac Am}{fs fi:Rho->R (Ac D)}{Q':Ao Aj->Hp->Prop}{T:Ce}{f fc:Rho->R Ak}{α:Type}{Fz:Ag->HO->Prop}{D':Ends}{lo hi:Aj}{as:D->Rho->R Rho}{up:Af->Ac Af}{Q:Ah->Al->Prop}{prog:Ay}{w:AH}{env:BM}{N':Ac Ai}{ts:Ac Af}{fp:Ac Ag}{te:TE}{J:It}{wi:TI}{pos' pos2 tpos:Az}{P1 P2:Af->Ah->Prop}{S1 S2:Af->As->Prop}{t:Ak}
noncomputable def cdP(c:Ag)(qual:Ai):As->Prop:=λh=>h.CodeRec (.ref c) qual
noncomputable def fnP(q:Ag)(name qual:Ai)(params:DW)(body:Ac AJ)(scope:Bf)(cl:Ac (Ai × Ag))(c:Ag):As->Prop:=λh => ∃ doc pm ctv,h.get? q=Aa (BV name qual params body scope cl doc pm c ctv)
noncomputable def clP(c:Ag)(v:V):As->Prop:=λh => ∃ u,A7 v u/\h.IsCell c (Aa u)
theorem Yq{c:Ag}{qual:Ai}(h1 h2:As)(x:cdP c qual h1)(k : ∀ o,h1.get? c=Aa o->h2.get? c=Aa o):cdP c qual h2:=by
 obtain⟨c',o,vs,t,e,g,r⟩:=x;cases e;exact⟨c,o,vs,t,rfl,k _ g,r⟩
theorem Ow{c:Ag}{name qual:Ai}{params:DW}{body:Ac AJ}{scope:Bf}(h1 h2:As)(x:fnP q name qual params body scope cl c h1)(k : ∀ o,h1.get? q=Aa o->h2.get? q=Aa o):fnP q name qual params body scope cl c h2:=by
 obtain⟨doc,pm,ctv,e⟩:=x;exact⟨doc,pm,ctv,k _ e⟩
theorem GI{c:Ag}(h1 h2:As)(x:clP c v h1)(k : ∀ o,h1.get? c=Aa o->h2.get? c=Aa o):clP c v h2:=by
 obtain⟨u,r,o,e,d⟩:=x;exact⟨u,r,o,k _ e,d⟩
section
variable{Pg:Ay}{w:AH}{H:Hp}{h h':As}{P c q:Ag}{ps more:AW Ah}{φ ψ:As->Prop}
noncomputable def grow(H:Hp)(P:Ag)(ps:AW Ah)(c:Ag)(ψ:As->Prop)(q:Ag)(φ:As->Prop):Hp:=upd (upd (upd H P (.tbl ps)) c (.ext ψ)) q (.ext φ)
theorem GE(h1:b≠P)(h2:b≠c)(h3:b≠q):grow H P ps c ψ q φ b=H b:=by
 unfold grow;rw[Bq h3,Bq h2,Bq h1]
theorem Os:grow H P ps c ψ q φ q=Aa (.ext φ):=DZ
theorem Lu(h:c≠q):grow H P ps c ψ q φ c=Aa (.ext ψ):=by
 unfold grow;rw[Bq h,DZ]
theorem Lv(h1:P≠c)(h2:P≠q):grow H P ps c ψ q φ P=Aa (.tbl ps):=by
 unfold grow;rw[Bq h2,Bq h1,DZ]
theorem UD{fs:Ac Ag}(hok:HOk Pg w H h)(hP:H P=Aa (.tbl ps))(hx : ∀ b o,b≠P->h.get? b=Aa o->h'.get? b=Aa o)(hP':h'.get? P=Aa (Dt (ps++more)))(hc:h.objs.size<=c)(hq:h.objs.size<=q)(hcq:c≠q):Un fs [] H (grow H P (ps++more) c ψ q φ) h h':=by
 have pl:=hok.lt hP;have old : ∀ b u,h.get? b=Aa u->b≠c/\b≠q:=λb u e=>by
  have:=Au e;exact⟨AI (Ar this hc),AI (Ar this hq)⟩
 have trk : ∀ b o,H b=Aa o->b≠c/\b≠q:=λb o e=>by
  have:=hok.lt e;exact⟨AI (Ar this hc),AI (Ar this hq)⟩
 have nP : ∀ b,H b=Ad->b≠P:=λb e z=>by rw[z,hP]at e;cases e
 refine⟨λb o e n _ _=>hx b o (nP b n) e,λb o e n _ _=>⟨o.slots,hx b o (nP b n) e⟩,λb o e n _ => ?_,λb o e _ => ?_,λb xs e => ?_,λb o u e => ?_,λb ps' e => ?_⟩
 .rw[GE (nP b n) (old b o e).1 (old b o e).2];exact n
 .by_cases z:b=P
  .rw[z];exact⟨_,hP'⟩
  .exact⟨_,hx b o z e⟩
 .rw[GE (λz=>by rw[z,hP]at e;cases e) (trk b _ e).1 (trk b _ e).2];exact e
 .rw[GE (λz=>by rw[z,hP]at e;cases e) (trk b _ e).1 (trk b _ e).2];exact e
 .by_cases z:b=P
  .rw[z,hP]at e;cases e;exact⟨more,by rw[z];exact Lv (trk P _ hP).1 (trk P _ hP).2⟩
  .refine⟨#[],?_⟩;rw[GE z (trk b _ e).1 (trk b _ e).2,e];simp
theorem TL(hok:HOk Pg w H h)(hP:H P=Aa (.tbl ps))(hx : ∀ b o,b≠P->h.get? b=Aa o->h'.get? b=Aa o)(hP':h'.get? P=Aa (Dt (ps++more)))(hc:h.objs.size<=c)(hq:h.objs.size<=q)(hcq:c≠q)(p1:ψ h')(e1 : ∃ o,h'.get? c=Aa o)(s1 : ∀ h1 h2:As,ψ h1->(∀ o,h1.get? c=Aa o->h2.get? c=Aa o)->ψ h2)(p2:φ h')(e2 : ∃ o,h'.get? q=Aa o)(s2 : ∀ h1 h2:As,φ h1->(∀ o,h1.get? q=Aa o->h2.get? q=Aa o)->φ h2):HOk Pg w (grow H P (ps++more) c ψ q φ) h':=λb o e=>by
 have trk : ∀ b o,H b=Aa o->b≠c/\b≠q:=λb o e=>by
  have:=hok.lt e;exact⟨AI (Ar this hc),AI (Ar this hq)⟩
 by_cases zq:b=q
 .rw[zq,Os]at e;cases e;rw[zq];exact⟨p2,e2,s2⟩
 .by_cases zc:b=c
  .rw[zc,Lu hcq]at e;cases e;rw[zc];exact⟨p1,e1,s1⟩
  .by_cases zP:b=P
   .rw[zP,Lv (trk P _ hP).1 (trk P _ hP).2]at e;cases e;rw[zP];exact hP'
   .rw[GE zP zc zq]at e;refine(hok b o e).stay (λd u hd r=>hx d u ?_ r) (λd r => ?_) λd xs r => ?_
    .rcases hd with rfl|hd
     .exact zP
     .exact λz=>by rw[z,hP]at hd;cases hd
    .rw[GE (λz=>by rw[z,hP]at r;cases r) (trk d _ r).1 (trk d _ r).2];exact r
    .rw[GE (λz=>by rw[z,hP]at r;cases r) (trk d _ r).1 (trk d _ r).2];exact r
end
noncomputable def Ha(H:Hp)(P:Ag)(qual:Ai)(pos:Az):Prop:=H P=Aa (.tbl #[]) \/ ∃ c,H P=Aa (.tbl #[Cn pos.line,Cn pos.col,.ref c])/\H c=Aa (.ext (cdP c qual))
section
variable{X:Cx}{name qual:Ai}{params:DW}{body:Ac AJ}{scope:Bf}{pos:Az}{P c:Ag}{i:Af}{clos:Ac (Ai × Ag)}
noncomputable def YR(P:Ag)(name qual:Ai)(params:DW)(body:Ac AJ)(scope:Bf)(pos:Az)(clos:Ac (Ai × Ag))(i:Af):TS:=λD Y H=>Ha H P qual pos /\ ∀ q c' H',(∀ b o,H b=Aa o->b≠P->H' b=Aa o)->Ha H' P qual pos->H q=Ad->H' c'=Aa (.ext (cdP c' qual))->H' q=Aa (.ext (fnP q name qual params body scope clos c'))->D.nx (Y.set i (Aa (.ref q))) H'
theorem US(hcode:X.env.code = .ref c)(hC:B6 X.base c P)(hbt : ∃ bm o,X.mg "__builtins__" = Aa (.ref bm)/\bm≠CG/\bm≠AF/\X.base.get? bm=Aa o/\o.cls = .type "module" /\ o.dict=Aa CG/\o.data = .plain)(hcl:Fq scope X.env=pure clos)(hq:He X.env name name=qual)(hd0:params.defaults=[])(hk0:params.kw_defaults=[])(ha:HV params Ad X.env=[])(hN:X.N.Nodup)(hi:X.N[i]? = Aa name)(hx:X.env.scope.names.lookup name=Aa .local):PS X (.FunctionDef name params body [] Ad [] scope Ad name pos) (YR P name qual params body scope pos clos i):=by
 intro pI s Y H D I ⟨tb,h⟩;refine PySem.W.nestDef_K hd0 hk0 ha ?_;rw[hq];have hgs:s.heap.Ns AF X.mg:=I.mod.glob.keeps I.bk;have hPn : ∀ ps,H P=Aa (.tbl ps) -> ∀ b o,X.base.get? b=Aa o->b≠P:=λps e b o eb z=>by
  have:=(I.bs b o eb).2;rw[z,e]at this;cases this
 have hbp : ∀ ps,H P=Aa (.tbl ps)->AF≠P/\s.heap.BuiltinsAt X.mg P:=λps e=>by
  obtain⟨bm,o,b1,b2,b3,b4,b5,b6,b7⟩:=hbt;obtain⟨og,_,_,eg,_⟩:=id I.mod.glob;exact⟨hPn ps e _ _ eg,bm,o,b1,b2,b3,hPn ps e _ _ b4,I.bk _ _ b4,b5,b6,b7⟩
 rcases tb with hP|⟨c0,hP,hc0⟩
 .refine PySem.W.makeFunction_K (mg:=X.mg) hcl I.ok.glob hgs hcode (hC.keeps I.bk) (show s.heap.get? P=Aa (Dt #[]) from I.hok P _ hP) trivial rfl (hbp _ hP).1 (hbp _ hP).2 λc' ctv doc h' tk hx' hge hlt hrec htb => ?_
  have sz:s.heap.objs.size<=h'.objs.size:=DU (E7 hge hlt);have k1 : ∀ b o,b≠P->s.heap.get? b=Aa o->(h'.push (BV name qual params body scope clos doc ((X.mg "__name__").getD .none) c' ctv)).get? b=Aa o:=λb o z e=>Aq _ (hx' b o z e)
  have hne:c'≠h'.objs.size:=AI hlt;have hP':=Aq (BV name qual params body scope clos doc ((X.mg "__name__").getD .none) c' ctv) htb;have hq':(h'.push (BV name qual params body scope clos doc ((X.mg "__name__").getD .none) c' ctv)).get? h'.objs.size=Aa (BV name qual params body scope clos doc ((X.mg "__name__").getD .none) c' ctv):=AC _ rfl;have hr':cdP c' qual (h'.push (BV name qual params body scope clos doc ((X.mg "__name__").getD .none) c' ctv)):=hrec.push _;have I':Inv X pI Y (grow H P (#[] ++ #[Cn pos.line,Cn pos.col,.ref c']) c' (cdP c' qual) h'.objs.size (fnP h'.objs.size name qual params body scope clos c')) { s with heap:=h'.push (BV name qual params body scope clos doc ((X.mg "__name__").getD .none) c' ctv),toks:=tk }:=
   I.un (UD I.hok hP k1 hP' hge sz hne) (TL I.hok hP k1 hP' hge sz hne hr' (by obtain⟨_,o,_,_,e,g,_⟩:=id hr';cases e;exact⟨o,g⟩) Yq ⟨doc,_,ctv,hq'⟩ ⟨_,hq'⟩ Ow)
  have pl:=I.hok.lt hP;have pc:P≠c':=AI (Ar pl hge);have pq:P≠h'.objs.size:=AI (Ar pl sz);refine IS I' hN hi (.inl hx) (show A7 (.ref h'.objs.size) (.ref h'.objs.size) from rfl) (λs' J=>⟨_,_,J,h _ c' _ (λb o e z => ?_) (.inr ⟨c',?_,Lu hne⟩) (I.hok.fresh sz) (Lu hne) Os⟩) (.inr hx)
  .have:=I.hok.lt e;rw[GE z (AI (Ar this hge)) (AI (Ar this sz))];exact e
  .rw[Lv pc pq];rfl
 .have hf:codeAmong pos [Cn pos.line,Cn pos.col,.ref c0]=Aa (.ref c0):=codeAmong_snoc (c := .ref c0) [] trivial rfl;refine PySem.W.makeFunction_hit (mg:=X.mg) hcl I.ok.glob hgs hcode (hC.keeps I.bk) (show s.heap.get? P=Aa (Dt #[Cn pos.line,Cn pos.col,.ref c0]) from I.hok P _ hP) trivial hf (hbp _ hP).2 λctv doc h' tk hk sz => ?_
  have k1 : ∀ b o,s.heap.get? b=Aa o->(h'.push (BV name qual params body scope clos doc ((X.mg "__name__").getD .none) c0 ctv)).get? b=Aa o:=λb o e=>Aq _ (hk b o e)
  have hq':(h'.push (BV name qual params body scope clos doc ((X.mg "__name__").getD .none) c0 ctv)).get? h'.objs.size=Aa (BV name qual params body scope clos doc ((X.mg "__name__").getD .none) c0 ctv):=AC _ rfl;have I':Inv X pI Y (upd H h'.objs.size (.ext (fnP h'.objs.size name qual params body scope clos c0))) { s with heap:=h'.push (BV name qual params body scope clos doc ((X.mg "__name__").getD .none) c0 ctv),toks:=tk }:=
   I.laid k1 sz ⟨⟨doc,_,ctv,hq'⟩,⟨_,hq'⟩,Ow⟩
  have nw : ∀ b o,H b=Aa o->b≠h'.objs.size:=λb o e=>AI (Ar (I.hok.lt e) sz)
  refine IS I' hN hi (.inl hx) (show A7 (.ref h'.objs.size) (.ref h'.objs.size) from rfl) (λs' J=>⟨_,_,J,h _ c0 _ (λb o e z => ?_) (.inr ⟨c0,?_,?_⟩) (I.hok.fresh sz) ?_ DZ⟩) (.inr hx)
  .rw[Bq (nw b o e)];exact e
  .rw[Bq (nw _ _ hP)];exact hP
  .rw[Bq (nw _ _ hc0)];exact hc0
  .rw[Bq (nw _ _ hc0)];exact hc0
end
structure Nd where
 name:Ai
 qual:Ai
 params:DW
 body:Ac AJ
 scope:Bf
 pos:Az
 x1:Ai
 x2:Ai
noncomputable def Qp:AB->Ao Nd
  | ⟨_,_,.func fd,_⟩=>(match fd.body with
    | .stmts [.FunctionDef name params body _ _ _ scope _ _ pos,_]=>(match fd.params.args with
      |[a1,a2]=>Aa ⟨name,fd.qualname ++ ".<locals>." ++ name,params,body,scope,pos,a1.arg,a2.arg⟩
      | _=>Ad)
    | _=>Ad)
  |_=>Ad
noncomputable def IA(K:Fg):Ao Nd:=match Bj K AF "valuer" with
  |some (Aa (.ref f))=>(K.lookup f).bind Qp
  |_=>Ad
noncomputable def JM(n:Nd)(H:Hp)(q:Ag)(v1 v2:V):Prop := ∃ c k1 k2,k1≠k2/\H q=Aa (.ext (fnP q n.name n.qual n.params n.body n.scope [(n.x1,k1),(n.x2,k2)] c))/\H c=Aa (.ext (cdP c n.qual))/\H k1=Aa (.ext (clP k1 v1))/\H k2=Aa (.ext (clP k2 v2))
noncomputable def spV(n:Nd)(P:Ag):Sp:=λvs H Q _ => ∃ v1 v2,vs=[v1,v2]/\Ha H P n.qual n.pos /\ ∀ q H',(∀ b o,H b=Aa o->b≠P->H' b=Aa o)->Ha H' P n.qual n.pos->JM n H' q v1 v2->Q (.ref q) H'
theorem UM{n:Nd}{P:Ag}{ps:AW Ah}(x:JM n H q v1 v2)(hP:H P=Aa (.tbl ps))(k : ∀ b o,H b=Aa o->b≠P->H' b=Aa o):JM n H' q v1 v2:=by
 obtain⟨c,k1,k2,ne,a,b,d,e⟩:=x;have z : ∀ b φ,H b=Aa (.ext φ)->b≠P:=λb φ e z=>by rw[z,hP]at e;cases e
 exact⟨c,k1,k2,ne,k _ _ a (z _ _ a),k _ _ b (z _ _ b),k _ _ d (z _ _ d),k _ _ e (z _ _ e)⟩
section
variable{CX:CXT}{P:Ay}{w:AH}{K:Fg}{mg:Ai->Ao Ah}{base:As}{k:Af}{f c Pt:Ag}{name qual:Ai}{params:DW}{scope:Bf}{dV kV doc pm ct oc:Ah}{an od:Ao Ag}{osl:AW (Ao Ah)}{n:Nd}{p2 p3:Az}{d1 d2:Af}
theorem V3(lk:K.lookup f=Aa ⟨oc,od,.func (Bp name qual params [.FunctionDef n.name n.params n.body [] Ad [] n.scope Ad n.name n.pos,.Return (Aa (.Name n.name p2)) p3] scope dV kV doc pm an (.ref c) ct),osl⟩)(hcd:C4 K (.ref c) qual=Ab)(S:FnScope [n.x1,n.x2,n.name] [n.x1,n.x2] scope)(hC:B6 base c Pt)(hbt : ∃ bm o,mg "__builtins__" = Aa (.ref bm)/\bm≠CG/\bm≠AF/\base.get? bm=Aa o/\o.cls = .type "module" /\ o.dict=Aa CG/\o.data = .plain)(hcl : ∀ L,Fq n.scope (Cw qual scope L f (.ref c))=pure [(n.x1,L+d1),(n.x2,L+d2)])(hne:d1≠d2)(c1 : ∀ L,(Bt (L+1) scope.names []).lookup n.x1=Aa (L+d1))(c2 : ∀ L,(Bt (L+1) scope.names []).lookup n.x2=Aa (L+d2))(k1:scope.names.lookup n.x1=Aa .cell)(k2:scope.names.lookup n.x2=Aa .cell)(k3:scope.names.lookup n.name=Aa .local)(hq : ∀ L,He (Cw qual scope L f (.ref c)) n.name n.name=n.qual)(hd0:n.params.defaults=[])(hk0:n.params.kw_defaults=[])(ha : ∀ L,HV n.params Ad (Cw qual scope L f (.ref c))=[])(hdb:(n.name==("__debug__" : Ai))=Ae)(hcd2:(n.name==("__classdict__" : Ai))=Ae):FnOk P w K mg base CX (k+1) f (Bp name qual params [.FunctionDef n.name n.params n.body [] Ad [] n.scope Ad n.name n.pos,.Return (Aa (.Name n.name p2)) p3] scope dV kV doc pm an (.ref c) ct) [n.x1,n.x2] (spV n Pt):=by
 refine⟨λvs H Q E ⟨v1,v2,e,_⟩=>by rw[e];rfl,λA outer s H args us vs Q E hr e0 hb r hsp => ?_⟩
 obtain⟨v1,v2,rfl,tb,hsp⟩:=hsp;have KX:K.In s.heap:=e0.mod.kin.keeps λb o e=>(e0.bs b o e).1
 have lim:s.heap.NoLimit:=e0.mod.nolimit.keeps λb o e=>(e0.bs b o e).1
 have hkind : ∀ y∈[n.x1,n.x2].zip us,scope.names.lookup y.1=Aa .local\/(scope.names.lookup y.1=Aa .cell/\((Bt (s.heap.objs.size+1) scope.names []).lookup y.1).isSome=Ab):=λ⟨m,v⟩ hy=>by
  rcases S.par m (EE hy).1 with q|q
  .exact .inl q
  .exact .inr ⟨q,Ef _ _ _ (.inl q)⟩
 refine So hr.depth (KX _ _ lk) rfl S.co S.gen rfl (Sg KX hcd) (hb _ _ _ _ ?_);refine SD S.kind hkind λenv he s1 x => ?_
 subst he;refine⟨lim.keeps x.toInCall.keep,codeAny_func ?_⟩;have I:Inv (DH CX P w K mg base [n.x1,n.x2,n.name] qual scope f (.ref c) A outer s H E) [] (start [n.x1,n.x2,n.name] [v1,v2]) H s1:=MX S hr.hd e0 rfl r x;have L:s.heap.objs.size<=s.heap.objs.size:=AS _;have PN:=US (X:=DH CX P w K mg base [n.x1,n.x2,n.name] qual scope f (.ref c) A outer s H E) (name:=n.name) (qual:=n.qual) (params:=n.params) (body:=n.body) (scope:=n.scope) (pos:=n.pos) (P:=Pt) (c:=c) (i:=2) rfl hC hbt (hcl s.heap.objs.size) (hq _) hd0 hk0 (ha _) S.nd rfl k3;refine FD (thn (PN [] s1 _ H {nx:=λY' H' => ∃ q c',Y'=[Aa v1,Aa v2,Aa (.ref q)]/\(∀ b o,H b=Aa o->b≠Pt->H' b=Aa o)/\Ha H' Pt n.qual n.pos/\H' c'=Aa (.ext (cdP c' n.qual))/\H' q=Aa (.ext (fnP q n.name n.qual n.params n.body n.scope [(n.x1,s.heap.objs.size+d1),(n.x2,s.heap.objs.size+d2)] c')),rt:=λ_ _=>AV} I ⟨tb,λq c' H' a1 a2 _ a3 a4=>⟨q,c',rfl,a1,a2,a3,a4⟩⟩) λfl s2 hs => ?_)
 cases fl with
 |ret u=>obtain⟨_,_,_,_,_,z⟩:=hs;exact z.elim
 |brk=>obtain⟨_,_,_,q⟩:=hs;exact q.elim
 |cont=>obtain⟨_,_,_,q⟩:=hs;exact q.elim
 |next=>
  obtain⟨Y',H',J,q,c',rfl,a1,a2,a3,a4⟩:=hs;dsimp only;refine FD (Sv (thn (Ij (i:=2) rfl (.inl k3) hdb hcd2 [] s2 _ H' (λv H2=>v = .ref q/\H2=H') J ⟨_,rfl,rfl,rfl⟩) λu s3 ⟨v,H2,J3,rv,e1,e2⟩ => ?_))
  subst e1 e2;dsimp only;have cell : ∀(i:Af)(y:Ai)(v:V)(d:Af),[n.x1,n.x2,n.name][i]? = Aa y->[Aa v1,Aa v2,Aa (V.ref q)][i]? = Aa (Aa v)->scope.names.lookup y=Aa .cell->(Bt (s.heap.objs.size+1) scope.names []).lookup y=Aa (s.heap.objs.size+d)->clP (s.heap.objs.size+d) v s3.heap:=λi y v d g1 g2 g3 g4=>by
   obtain⟨m,_,hl⟩:=J3.loc;obtain⟨u,ru,lo⟩:=hl i y v g1 g2 (.inr (.inl g3));rcases lo with ⟨z,_⟩|⟨_,cc,z,ic⟩
   .have z':scope.names.lookup y=Aa .local:=z;rw[g3]at z';cases z'
   .have z':(Bt (s.heap.objs.size+1) scope.names []).lookup y=Aa cc:=z;rw[g4]at z';cases z';exact⟨u,ru,ic⟩
  have w1:=cell 0 n.x1 v1 d1 rfl rfl k1 (c1 _);have w2:=cell 1 n.x2 v2 d2 rfl rfl k2 (c2 _);have n1:H2 (s.heap.objs.size+d1)=Ad:=J3.freeC n.x1 _ (c1 _);have n2:H2 (s.heap.objs.size+d2)=Ad:=J3.freeC n.x2 _ (c2 _);have ne12:s.heap.objs.size+d1≠s.heap.objs.size+d2:=λz=>hne (Nat.add_left_cancel z)
  have t1 : ∀ b o,H2 b=Aa o->b≠s.heap.objs.size+d1/\b≠s.heap.objs.size+d2:=λb o e=>⟨λz=>by (rw[z,n1]at e;cases e),λz=>by (rw[z,n2]at e;cases e)⟩
  have o1 : ∀ b o,s.heap.get? b=Aa o->b≠s.heap.objs.size+d1/\b≠s.heap.objs.size+d2:=λb o e=>by
   have:=Au e;exact⟨AI (Ar this (QY _ _)),AI (Ar this (QY _ _))⟩
  let H3:Hp:=upd (upd H2 (s.heap.objs.size+d1) (.ext (clP (s.heap.objs.size+d1) v1))) (s.heap.objs.size+d2) (.ext (clP (s.heap.objs.size+d2) v2))
  have h3n : ∀ b,b≠s.heap.objs.size+d1->b≠s.heap.objs.size+d2->H3 b=H2 b:=λb z1 z2=>by
   show upd (upd H2 _ _) _ _ b=_;rw[Bq z2,Bq z1]
  have h3t : ∀ b o,H2 b=Aa o->H3 b=Aa o:=λb o e=>(h3n b (t1 b o e).1 (t1 b o e).2).trans e
  have h31:H3 (s.heap.objs.size+d1)=Aa (.ext (clP (s.heap.objs.size+d1) v1)):=by
   show upd (upd H2 _ _) _ _ _=_;rw[Bq ne12,DZ]
  have h32:H3 (s.heap.objs.size+d2)=Aa (.ext (clP (s.heap.objs.size+d2) v2)):=DZ;have B:Un (frs outer) [] H H2 s.heap s3.heap:=J3.base;refine⟨.ref q,H3,J3.os,J3.bare,⟨B.keep,B.slot,λb o e z hb => ?_,B.there,λb xs e=>h3t _ _ (B.tups b xs e),λb o u e=>h3t _ _ (B.frzs b o u e),λb ps e => ?_⟩,λb o e => ?_,rv,?_⟩
  .rw[h3n b (o1 b o e).1 (o1 b o e).2];exact B.free b o e z hb
  .obtain⟨m,z⟩:=B.tbls b ps e;exact⟨m,h3t _ _ z⟩
  .by_cases z2:b=s.heap.objs.size+d2
   .rw[z2,h32]at e;cases e;rw[z2];obtain⟨_,_,o,g,_⟩:=id w2;exact⟨w2,⟨o,g⟩,GI⟩
   .by_cases z1:b=s.heap.objs.size+d1
    .rw[z1,h31]at e;cases e;rw[z1];obtain⟨_,_,o,g,_⟩:=id w1;exact⟨w1,⟨o,g⟩,GI⟩
    .rw[h3n b z1 z2]at e;exact(J3.hok b o e).stay (λ_ _ _ r=>r) (λd r=>h3t _ _ r) λd xs r=>h3t _ _ r
  .refine hsp q H3 (λb o e z=>h3t _ _ (a1 b o e z)) ?_ ⟨c',_,_,ne12,h3t _ _ a4,h3t _ _ a3,h31,h32⟩
   rcases a2 with a2|⟨cc,a2,a5⟩
   .exact .inl (h3t _ _ a2)
   .exact .inr ⟨cc,h3t _ _ a2,h3t _ _ a5⟩
end
structure NdOk (n:Nd) (pt:Ai):Prop where
 kind:n.scope.kind = .function
 co:n.scope.isCoroutine=Ae
 gen:n.scope.isGenerator=Ae
 cell : ∀ x∈n.scope.names,x.2 ≠ .cell
 fr : ∀ x,n.scope.names.lookup x=Aa .free->x=n.x1\/x=n.x2
 l0:n.scope.names.lookup pt=Aa .local
 l1:n.scope.names.lookup n.x1=Aa .free
 l2:n.scope.names.lookup n.x2=Aa .free
 nd:[pt,n.x1,n.x2].Nodup
 bind : ∀(s:Al)(cl:Ac (Ai × Ag))(doc pm ctv u:Ah)(c:Ag),Dp s (Eg n.name n.qual n.params n.body n.scope cl .none .none doc pm Ad (.ref c) ctv) ⟨[u],[]⟩ [(pt,u)]
noncomputable def cxL(CX:CXT)(P:Ay)(w:AH)(K:Fg)(mg:Ai->Ao Ah)(base:As)(N:Ac Ai)(env:BM)(A:AN)(outer:Ac BM)(s:Al)(H:Hp)(E:XK):Cx where
 prog:=P
 w:=w
 K:=K
 mg:=mg
 base:=base
 A:=A.deeper env
 N:=N
 s₀:=s
 H₀:=H
 env:=env
 outer:=outer
 stack:=env::outer
 ex:=[]
 calm:=Ab
 fn:=λ_=>Ae
 pn:=[]
 xe:=λe s'=>AE (model P w) (A.deeper env) (leaving env e) (λ_ s''=>CX outer H s E e s'') (λe' s''=>CX outer H s E e' s'') s'
noncomputable def unH(H:Hp)(k1 k2:Ag):Hp:=λb=>if b=k1\/b=k2 then Ad else H b
noncomputable def rtH(H:Hp)(k1 k2:Ag)(v1 v2:V):Hp:=upd (upd H k1 (.ext (clP k1 v1))) k2 (.ext (clP k2 v2))
theorem Gk(h1:b≠k1)(h2:b≠k2):unH H k1 k2 b=H b:=AL λz=>z.elim h1 h2
theorem O2:unH H k1 k2 k1=Ad:=AD (.inl rfl)
theorem O1:unH H k1 k2 k2=Ad:=AD (.inr rfl)
theorem Hq(h:H b=Ad):unH H k1 k2 b=Ad:=by
 unfold unH;split
 .rfl
 .exact h
theorem Uc{o:HO}(h:unH H k1 k2 b=Aa o):b≠k1/\b≠k2/\H b=Aa o:=by
 unfold unH at h;split at h
 .cases h
 .rename_i z;exact⟨λe=>z (.inl e),λe=>z (.inr e),h⟩
theorem Jm(h1:b≠k1)(h2:b≠k2):rtH H k1 k2 v1 v2 b=H b:=by
 unfold rtH;rw[Bq h2,Bq h1]
theorem Pc(h:k1≠k2):rtH H k1 k2 v1 v2 k1=Aa (.ext (clP k1 v1)):=by
 unfold rtH;rw[Bq h,DZ]
theorem Pb:rtH H k1 k2 v1 v2 k2=Aa (.ext (clP k2 v2)):=DZ
theorem U_7(ne:k1≠k2)(h1:H k1=Aa (.ext (clP k1 v1)))(h2:H k2=Aa (.ext (clP k2 v2)))(s:Ax (unH H k1 k2) H2):Ax H (rtH H2 k1 k2 v1 v2):=λb o e=>by
 by_cases z2:b=k2
 .rw[z2]at e ⊢;rw[Pb,<-h2,e]
 .by_cases z1:b=k1
  .rw[z1]at e ⊢;rw[Pc ne,<-h1,e]
  .rw[Jm z1 z2];exact s b o ((Gk z1 z2).trans e)
theorem Nm(n1:H2 k1=Ad)(n2:H2 k2=Ad):Ax H2 (rtH H2 k1 k2 v1 v2):=λb o e=>by
 rw[Jm (λz=>by rw[z,n1]at e;cases e) (λz=>by rw[z,n2]at e;cases e)]
 exact e
section
variable{X:Cx}{CX:CXT}{pI:Ac (Ag × AB)}{Y:L2.St}{H:Hp}{s:Al}{n:Nd}{pt:Ai}{k:Af}{q c k1 k2:Ag}{v v1 v2:V}{u:Ah}{Q:VK}{E:XK}
theorem VW{doc pm ctv:Ah}{h₀:As}(I:Inv X pI Y H s)(hr:Room (k+1) X.A)(N:NdOk n pt)(ne:k1≠k2)(e1:H k1=Aa (.ext (clP k1 v1)))(e2:H k2=Aa (.ext (clP k2 v2)))(r:A7 v u)(hns:h₀.Ns s.heap.objs.size (λx=>([(pt,u)]:Ac (Ai × Ah)).reverse.lookup x))(hk : ∀ b o,s.heap.get? b=Aa o->h₀.get? b=Aa o):Inv (cxL CX X.prog X.w X.K X.mg X.base [pt,n.x1,n.x2] (callEnv (Eg n.name n.qual n.params n.body n.scope [(n.x1,k1),(n.x2,k2)] .none .none doc pm Ad (.ref c) ctv) s.heap.objs.size q) X.A X.stack s (unH H k1 k2) E) [] [Aa v,Aa v1,Aa v2] (unH H k1 k2) {s with heap:=h₀,toks:=tk}:=by
  have e0:=I.env0;obtain⟨w1,⟨o1,g1⟩,_⟩:=I.hok k1 _ e1;obtain⟨w2,⟨o2,g2⟩,_⟩:=I.hok k2 _ e2;have x12:n.x1≠n.x2:=by
    have:=N.nd;simp at this;exact this.2
  have L1:([(n.x1,k1),(n.x2,k2)]:Ac (Ai × Ag)).lookup n.x1=Aa k1:=by
    simp[Dj]
  have L2:([(n.x1,k1),(n.x2,k2)]:Ac (Ai × Ag)).lookup n.x2=Aa k2:=by
    simp[Dj,Bs.mpr (Dd x12)]
  have Lc : ∀ x c',([(n.x1,k1),(n.x2,k2)]:Ac (Ai × Ag)).lookup x=Aa c'->(x=n.x1/\c'=k1)\/(x=n.x2/\c'=k2):=λx c' h=>by
    by_cases z2:x=n.x2
    · subst z2;rw[L2]at h;cases h;exact .inr ⟨rfl,rfl⟩
    · by_cases z1:x=n.x1
      · subst z1;rw[L1]at h;cases h;exact .inl ⟨rfl,rfl⟩
      · have a2:(x==n.x2)=Ae:=Bs.mpr z2;have a1:(x==n.x1)=Ae:=Bs.mpr z1;simp[Dj,a1,a2]at h
  have hw1:clP k1 v1 h₀:=GI _ _ w1 λo e=>hk _ _ e
  have hw2:clP k2 v2 h₀:=GI _ _ w2 λo e=>hk _ _ e
  have hok:HOk X.prog X.w (unH H k1 k2) h₀:=λb o e=>by
    obtain⟨_,_,e'⟩:=Uc e;refine(I.hok b o e').stay (λd u _ z=>hk d u z) (λd z => ?_) λd xs z => ?_
    · rw[Gk (λy=>by rw[y,e1]at z;cases z) (λy=>by rw[y,e2]at z;cases z)];exact z
    · rw[Gk (λy=>by rw[y,e1]at z;cases z) (λy=>by rw[y,e2]at z;cases z)];exact z
  have noA : ∀ b:Ag,b ∉ ([]:Ac Ag):=λb=>by simp
  refine⟨⟨I.mod,N.kind,rfl,rfl,AS _,λx y c' h1 h2 => ?_,λx hx => ?_,λx c' z=>(by cases z),λ_=>hr.hd,Q9 e0.frames,.inr ⟨rfl,rfl⟩,λb z=>absurd z (noA b),λb o z=>⟨(e0.bs b o z).1,Hq (e0.bs b o z).2⟩,e0.bsz,λb _ _=>noA b,λb z=>absurd z (noA b),e0.funs,λb z=>Hq (e0.frf b z)⟩,
    rfl,e0.bare,Un.kept hk,⟨_,hns,λi y v' h1 h2 h3 => ?_⟩,λx c' h => ?_,Hq (I.hok.fresh (AS _)),λx c' h => ?_,λp hp=>absurd (show p∈([]:Ac (Ag × AB)) from hp) (by simp),hok,rfl⟩
  · rcases Lc x c' h1 with ⟨a,b⟩|⟨a,b⟩ <;> rcases Lc y c' h2 with ⟨a',b'⟩|⟨a',b'⟩
    · rw[a,a']
    · exact absurd (b.symm.trans b') ne
    · exact absurd (b'.symm.trans b) ne
    · rw[a,a']
  · have hx:n.scope.names.lookup x=Aa .cell\/n.scope.names.lookup x=Aa .free:=hx;rcases hx with hx|hx
    · exact absurd rfl (N.cell _ (Br hx))
    · rcases N.fr x hx with z|z
      · exact⟨k1,by rw[z];exact L1⟩
      · exact⟨k2,by rw[z];exact L2⟩
  · match i,h1,h2 with
    |0,h1,h2=>
      have e1:pt=y:=AQ h1;have e2:v=v':=by injection AQ h2
      subst e1 e2;exact⟨u,r,.inl ⟨N.l0,by simp[Dj]⟩⟩
    |1,h1,h2=>
      have e1:n.x1=y:=AQ h1;have e2:v1=v':=by injection AQ h2
      subst e1 e2;obtain⟨u',ru,ic⟩:=hw1;exact⟨u',ru,.inr ⟨.inr N.l1,k1,L1,ic⟩⟩
    |2,h1,h2=>
      have e1:n.x2=y:=AQ h1;have e2:v2=v':=by injection AQ h2
      subst e1 e2;obtain⟨u',ru,ic⟩:=hw2;exact⟨u',ru,.inr ⟨.inr N.l2,k2,L2,ic⟩⟩
    |i+3,h1,h2=>exact absurd h1 (by simp[cxL])
  · rcases Lc x c' h with ⟨_,b⟩|⟨_,b⟩
    · rw[b];obtain⟨u',_,ic⟩:=hw1;exact⟨_,ic⟩
    · rw[b];obtain⟨u',_,ic⟩:=hw2;exact⟨_,ic⟩
  · rcases Lc x c' h with ⟨_,b⟩|⟨_,b⟩
    · rw[b];exact O2
    · rw[b];exact O1
theorem U_6(I:Inv X pI Y H s)(hr:Room (k+1) X.A)(N:NdOk n pt)(ne:k1≠k2)(hq:H q=Aa (.ext (fnP q n.name n.qual n.params n.body n.scope [(n.x1,k1),(n.x2,k2)] c)))(hc:H c=Aa (.ext (cdP c n.qual)))(e1:H k1=Aa (.ext (clP k1 v1)))(e2:H k2=Aa (.ext (clP k2 v2)))(r:A7 v u)(hx:GJ CX X E)(hE : ∀ e s',CX X.stack (unH H k1 k2) s E e s'->CX X.stack H s E e s')(hbody : ∀ doc pm ctv,Room k (X.A.deeper (callEnv (Eg n.name n.qual n.params n.body n.scope [(n.x1,k1),(n.x2,k2)] .none .none doc pm Ad (.ref c) ctv) s.heap.objs.size q)) -> ∃ t,PSs (cxL CX X.prog X.w X.K X.mg X.base [pt,n.x1,n.x2] (callEnv (Eg n.name n.qual n.params n.body n.scope [(n.x1,k1),(n.x2,k2)] .none .none doc pm Ad (.ref c) ctv) s.heap.objs.size q) X.A X.stack s (unH H k1 k2) E) n.body t /\
   t {nx:=λ_ _=>AV,rt:=λv' H2=>H2 k1=Ad->H2 k2=Ad->Q v' (rtH H2 k1 k2 v1 v2)} [Aa v,Aa v1,Aa v2] (unH H k1 k2)):AE (model X.prog X.w) X.A (call (.ref q) [u]) (EP X pI Y Q) X.xe s:=by
 obtain⟨⟨doc,pm,ctv,ho⟩,_,_⟩:=I.hok q _ hq;obtain⟨hcd,_,_⟩:=I.hok c _ hc;obtain⟨t,ht,hb⟩:=hbody doc pm ctv (hr.deeper _);obtain⟨⟨_,_,o1,g1,_⟩,_,_⟩:=I.hok k1 _ e1;obtain⟨⟨_,_,o2,g2,_⟩,_,_⟩:=I.hok k2 _ e2;have x12:n.x1≠n.x2:=by
  have:=N.nd;simp at this;exact this.2
 have L1:([(n.x1,k1),(n.x2,k2)]:Ac (Ai × Ag)).lookup n.x1=Aa k1:=by
  simp[Dj]
 have L2:([(n.x1,k1),(n.x2,k2)]:Ac (Ai × Ag)).lookup n.x2=Aa k2:=by
  simp[Dj,Bs.mpr (Dd x12)]
 refine wpAny_call (EM (R:=CR CX X.stack X.prog X.w H s Q E) (codeAny_call_def (binds:=[(pt,u)]) hr.depth ho rfl I.nolimit hcd rfl (N.bind s _ doc pm ctv u c) N.cell (λy hy => ?_) (λh₀ hns hk => ?_) N.co N.gen N.kind) λr s' hq => ?_)
 .rw[A6.mp hy];exact N.l0
 .have J:=VW (CX:=CX) (E:=E) (q:=q) (c:=c) (doc:=doc) (pm:=pm) (ctv:=ctv) (tk:=s.toks+1) I hr N ne e1 e2 r hns hk;refine BD (ht [] _ _ _ _ J hb) (λfl s' hs => ?_) λe s' hs=>BD hs (λ_ s'' z=>hE e s'' z) λe' s'' z=>hE e' s'' z
  cases fl with
  |next=>obtain⟨_,_,_,z⟩:=hs;exact z.elim
  |brk=>obtain⟨_,_,_,z⟩:=hs;exact z.elim
  |cont=>obtain⟨_,_,_,z⟩:=hs;exact z.elim
  |ret u'=>
   obtain⟨v',Y',H2,J2,rv,z⟩:=hs;have n1:H2 k1=Ad:=J2.freeC n.x1 k1 L1;have n2:H2 k2=Ad:=J2.freeC n.x2 k2 L2;have B:Un (frs X.stack) [] (unH H k1 k2) H2 s.heap s'.heap:=J2.base;have nf : ∀ b o,H b=Aa o->b ∉ frs X.stack:=λb o e hb=>by
    have:=I.stkFree b hb;rw[e]at this;cases this
   have tr : ∀ b o,H b=Aa o->(∀ φ,o ≠ .ext φ)->b≠k1/\b≠k2:=λb o e hn=>⟨λz=>hn _ (by rw[z,e1]at e;exact(AQ e).symm),λz=>hn _ (by rw[z,e2]at e;exact(AQ e).symm)⟩
   have nn : ∀ b,H b=Ad->b≠k1/\b≠k2:=λb e=>⟨λz=>by (rw[z,e1]at e;cases e),λz=>by (rw[z,e2]at e;cases e)⟩
   have t2 : ∀ b o,H2 b=Aa o->rtH H2 k1 k2 v1 v2 b=Aa o:=Nm n1 n2;refine⟨v',rtH H2 k1 k2 v1 v2,J2.os,J2.bare,⟨λb o e z hf hx=>B.keep b o e (Hq z) hf hx,λb o e z hf hx=>B.slot b o e (Hq z) hf hx,λb o e z hx => ?_,B.there,λb xs e => ?_,λb o y e => ?_,λb ps e => ?_⟩,λb o e => ?_,rv,z n1 n2⟩
   .rw[Jm (nn b z).1 (nn b z).2];exact B.free b o e (Hq z) hx
   .obtain⟨a1,a2⟩:=tr b _ e (λ_ y=>by cases y)
    exact t2 _ _ (B.tups b xs ((Gk a1 a2).trans e))
   .obtain⟨a1,a2⟩:=tr b _ e (λ_ y=>by cases y)
    exact t2 _ _ (B.frzs b o y ((Gk a1 a2).trans e))
   .obtain⟨a1,a2⟩:=tr b _ e (λ_ y=>by cases y)
    obtain⟨m,y⟩:=B.tbls b ps ((Gk a1 a2).trans e);exact⟨m,t2 _ _ y⟩
   .by_cases z2:b=k2
    .rw[z2,Pb]at e;cases e;rw[z2];have g:=B.keep k2 o2 g2 O1 (nf _ _ e2) (by simp)
     obtain⟨w2,_,st⟩:=I.hok k2 _ e2;exact⟨GI _ _ w2 (λo' q=>by rw[g2]at q;cases q;exact g),⟨_,g⟩,GI⟩
    .by_cases z1:b=k1
     .rw[z1,Pc ne]at e;cases e;rw[z1];have g:=B.keep k1 o1 g1 O2 (nf _ _ e1) (by simp)
      obtain⟨w1,_,st⟩:=I.hok k1 _ e1;exact⟨GI _ _ w1 (λo' q=>by rw[g1]at q;cases q;exact g),⟨_,g⟩,GI⟩
     .rw[Jm z1 z2]at e;exact(J2.hok b o e).stay (λ_ _ _ y=>y) (λd y=>t2 _ _ y) λd xs y=>t2 _ _ y
 .cases r with
  |error e=>exact hx pI Y H s e s' I hq
  |ok fl=>
   cases fl with
   |ret u=>exact I.after hq
   |next=>exact BQ hq
   |brk=>exact BQ hq
   |cont=>exact BQ hq
end
noncomputable abbrev ClA:=Af->Ao Ag
variable{CL:ClA}
noncomputable def KL(K:Fg)(a:Ag)(xs:Ac V):Prop := ∃(o:AB)(its:AW Ah)(n:Af),K.lookup a=Aa o/\o.cls = .type "list" /\ o.dict=Ad/\o.data = .seq its n/\its.size<=sizeLine/\AU xs its.toList
noncomputable def KT(K:Fg)(a:Ag)(xs:Ac V):Prop := ∃(o:AB)(its:AW Ah)(n:Af),K.lookup a=Aa o/\o.cls = .type "tuple" /\ o.data = .seq its n/\its.size<=sizeLine/\AU xs its.toList
noncomputable def JU(K:Fg)(H:Hp)(A:Ag->Prop)(q:Ag)(vs:Ac (Ai × V)):Prop := ∃ n,IA K=Aa n /\ ∃ v1 v2,vs=[(n.x1,v1),(n.x2,v2)] /\ ∃ c k1 k2,k1≠k2/\(H q=Aa (.ext (fnP q n.name n.qual n.params n.body n.scope [(n.x1,k1),(n.x2,k2)] c)) /\ ¬ A q)/\(H c=Aa (.ext (cdP c n.qual)) /\ ¬ A c)/\(H k1=Aa (.ext (clP k1 v1)) /\ ¬ A k1)/\(H k2=Aa (.ext (clP k2 v2)) /\ ¬ A k2)
theorem JU.imp{vs:Ac (Ai × V)}(x:JU K H A q vs)(k : ∀ b φ,H b=Aa (.ext φ) /\ ¬ A b->H' b=Aa (.ext φ) /\ ¬ B b):JU K H' B q vs:=by
 obtain⟨n,e,v1,v2,e2,c,k1,k2,ne,a1,a2,a3,a4⟩:=x;exact⟨n,e,v1,v2,e2,c,k1,k2,ne,k _ _ a1,k _ _ a2,k _ _ a3,k _ _ a4⟩
section
variable(K:Fg)(CL:ClA)(H:Hp)(A:Ag->Prop)
mutual
def Rep:V->D->Prop
 |v,.non=>v = .non
 |v,.bl b=>v = .bl b
 |v,.int i=>v = .int i
 |v,.str x=>v = .str x
 |v,.tup ds => ∃ a xs,v = .ref a/\(¬ A a\/KT K a xs)/\SqT K H a xs/\Reps xs ds
 |v,.lst ds => ∃ a xs,v = .ref a/\(¬ A a\/KL K a xs)/\SqL K H a xs/\Reps xs ds
 |v,.obj c fs => ∃ q vs,v = .ref q/\JU K H A q vs/\Repf vs fs
 |_,.dic _=>AV
 |v,.exc c fs => ∃ a C φ,v = .ref a /\ ¬ A a/\CL c=Aa C/\H a=Aa (.ext φ)/\(∀ h,φ h -> ∃ o,h.get? a=Aa o/\o.cls = .ref C)/\(fs=[] \/ ∃ dx vs,¬ A dx/\H dx=Aa (.xd vs)/\Repf vs fs /\ ∀ h,φ h -> ∃ o,h.get? a=Aa o/\o.dict=Aa dx /\ ∃ us,o.data = .fields us)
def Reps:Ac V->Ac D->Prop
 |[],[]=>FU
 |v::vs,d::ds=>Rep v d/\Reps vs ds
 |_,_=>AV
def Repf:Ac (Ai × V)->Ac (Ai × D)->Prop
 |[],[]=>FU
 |v::vs,d::ds=>Repp v d/\Repf vs ds
 |_,_=>AV
def Repp:Ai × V->Ai × D->Prop
 |v,(n,d)=>v.1=n/\Rep v.2 d
end
noncomputable def B8(v:V)(d:D):Prop:=Rep K CL H A v d \/ ∃ a xs ds,v = .ref a/\d = .lst ds/\H a=Aa (.lst xs)/\Reps K CL H A xs ds
end
noncomputable def Kp(A:Ag->Prop)(H H':Hp):Prop := ∀ b o,H b=Aa o -> ¬ A b->H' b=Aa o
noncomputable def AOk(H:Hp)(A:Ag->Prop):Prop := ∀ a,A a -> ∃ xs,H a=Aa (.lst xs)
theorem Kp.of(h:Ax H H'):Kp A H H':=λb o e _=>h b o e
theorem AOk.same(h:AOk H A)(s:Ax H H'):AOk H' A:=λa ha=>let ⟨xs,e⟩:=h a ha;⟨xs,s _ _ e⟩
theorem AOk.new(h:AOk H A)(e:H p=Ad) : ¬ A p:=λha=>by
 obtain⟨xs,q⟩:=h p ha;rw[e]at q;cases q
section
variable{K:Fg}{CL:ClA}{H H':Hp}{A B:Ag->Prop}
theorem O7{u:HO}(k:Kp A H H')(na : ¬ A a)(h:Rd H a u):Rd H' a u:=by
 rcases h with h|⟨o,h⟩
 .exact .inl (k _ _ h na)
 .exact .inr ⟨o,k _ _ h na⟩
theorem Jk(k:Kp A H H')(na : ¬ A a\/KL K a xs)(h:SqL K H a xs):SqL K H' a xs:=na.elim (λna=>h.imp (O7 k na) id) .inr
theorem Jj(k:Kp A H H')(na : ¬ A a\/KT K a xs)(h:SqT K H a xs):SqT K H' a xs:=na.elim (λna=>h.imp (O7 k na) id) .inr
mutual
theorem Rep.kp(k:Kp A H H') : ∀{v:V}(d:D),Rep K CL H A v d->Rep K CL H' A v d
 |_,.non,h=>h
 |_,.bl _,h=>h
 |_,.int _,h=>h
 |_,.str _,h=>h
 |_,.dic _,h=>h.elim
 |_,.tup ds,h=>by
  obtain⟨a,xs,e,na,s,r⟩:=h;exact⟨a,xs,e,na,by first|exact Jj k na s|exact Jk k na s,Reps.kp k ds r⟩
 |_,.lst ds,h=>by
  obtain⟨a,xs,e,na,s,r⟩:=h;exact⟨a,xs,e,na,by first|exact Jj k na s|exact Jk k na s,Reps.kp k ds r⟩
 |_,.obj c fs,h=>by
  obtain⟨q,vs,e,x,r⟩:=h;exact⟨q,vs,e,x.imp λb φ z=>⟨k _ _ z.1 z.2,z.2⟩,Repf.kp k fs r⟩
 |_,.exc c fs,h=>by
  obtain⟨a,C,φ,e,na,c,s,p,q⟩:=h;refine⟨a,C,φ,e,na,c,k _ _ s na,p,q.imp id ?_⟩;rintro⟨dx,vs,nx,s2,r,z⟩;exact⟨dx,vs,nx,k _ _ s2 nx,Repf.kp k fs r,z⟩
theorem Reps.kp(k:Kp A H H') : ∀{vs:Ac V}(ds:Ac D),Reps K CL H A vs ds->Reps K CL H' A vs ds
 |[],[],h=>h
 |_::_,d::ds,h=>⟨Rep.kp k d h.1,Reps.kp k ds h.2⟩
 |[],_::_,h=>h.elim
 |_::_,[],h=>h.elim
theorem Repf.kp(k:Kp A H H') : ∀{vs:Ac (Ai × V)}(ds:Ac (Ai × D)),Repf K CL H A vs ds->Repf K CL H' A vs ds
 |[],[],h=>h
 |_::_,d::ds,h=>⟨Repp.kp k d h.1,Repf.kp k ds h.2⟩
 |[],_::_,h=>h.elim
 |_::_,[],h=>h.elim
theorem Repp.kp(k:Kp A H H') : ∀{v:Ai × V}(d:Ai × D),Repp K CL H A v d->Repp K CL H' A v d
 |_,(_,d),h=>⟨h.1,Rep.kp k d h.2⟩
end
mutual
theorem Rep.sub(k : ∀ a,B a->A a) : ∀{v:V}(d:D),Rep K CL H A v d->Rep K CL H B v d
 |_,.non,h=>h
 |_,.bl _,h=>h
 |_,.int _,h=>h
 |_,.str _,h=>h
 |_,.dic _,h=>h.elim
 |_,.tup ds,h=>by
  obtain⟨a,xs,e,na,s,r⟩:=h;exact⟨a,xs,e,na.imp (λna z=>na (k _ z)) id,s,Reps.sub k ds r⟩
 |_,.lst ds,h=>by
  obtain⟨a,xs,e,na,s,r⟩:=h;exact⟨a,xs,e,na.imp (λna z=>na (k _ z)) id,s,Reps.sub k ds r⟩
 |_,.obj c fs,h=>by
  obtain⟨q,vs,e,x,r⟩:=h;exact⟨q,vs,e,x.imp λb φ z=>⟨z.1,λy=>z.2 (k _ y)⟩,Repf.sub k fs r⟩
 |_,.exc c fs,h=>by
  obtain⟨a,C,φ,e,na,c,s,p,q⟩:=h;refine⟨a,C,φ,e,λz=>na (k _ z),c,s,p,q.imp id ?_⟩
  rintro⟨dx,vs,nx,s2,r,z⟩;exact⟨dx,vs,λz=>nx (k _ z),s2,Repf.sub k fs r,z⟩
theorem Reps.sub(k : ∀ a,B a->A a) : ∀{vs:Ac V}(ds:Ac D),Reps K CL H A vs ds->Reps K CL H B vs ds
 |[],[],h=>h
 |_::_,d::ds,h=>⟨Rep.sub k d h.1,Reps.sub k ds h.2⟩
 |[],_::_,h=>h.elim
 |_::_,[],h=>h.elim
theorem Repf.sub(k : ∀ a,B a->A a) : ∀{vs:Ac (Ai × V)}(ds:Ac (Ai × D)),Repf K CL H A vs ds->Repf K CL H B vs ds
 |[],[],h=>h
 |_::_,d::ds,h=>⟨Repp.sub k d h.1,Repf.sub k ds h.2⟩
 |[],_::_,h=>h.elim
 |_::_,[],h=>h.elim
theorem Repp.sub(k : ∀ a,B a->A a) : ∀{v:Ai × V}(d:Ai × D),Repp K CL H A v d->Repp K CL H B v d
 |_,(_,d),h=>⟨h.1,Rep.sub k d h.2⟩
end
mutual
theorem Rep.wide(hp : ∀ a,B a->A a\/H a=Ad) : ∀{v:V}(d:D),Rep K CL H A v d->Rep K CL H B v d
 |_,.non,h=>h
 |_,.bl _,h=>h
 |_,.int _,h=>h
 |_,.str _,h=>h
 |_,.dic _,h=>h.elim
 |_,.tup ds,h=>by
  obtain⟨a,xs,e,na,s,r⟩:=h;refine⟨a,xs,e,?_,s,Reps.wide hp ds r⟩;rcases s with s|s
  .refine na.imp (λna z=>(hp _ z).elim na λe => ?_) id
   rcases s with s|⟨o,s⟩ <;> rw[e]at s <;> cases s
  .exact .inr s
 |_,.lst ds,h=>by
  obtain⟨a,xs,e,na,s,r⟩:=h;refine⟨a,xs,e,?_,s,Reps.wide hp ds r⟩;rcases s with s|s
  .refine na.imp (λna z=>(hp _ z).elim na λe => ?_) id
   rcases s with s|⟨o,s⟩ <;> rw[e]at s <;> cases s
  .exact .inr s
 |_,.obj c fs,h=>by
  obtain⟨q,vs,e,x,r⟩:=h;exact⟨q,vs,e,x.imp λb φ z=>⟨z.1,λy=>(hp _ y).elim z.2 λe=>by (rw[e]at z;cases z.1)⟩,Repf.wide hp fs r⟩
 |_,.exc c fs,h=>by
  obtain⟨a,C,φ,e,na,c,s,p,q⟩:=h;refine⟨a,C,φ,e,(λz=>(hp _ z).elim na λe=>by rw[e]at s;cases s),c,s,p,q.imp id ?_⟩
  rintro⟨dx,vs,nx,s2,r,z⟩;exact⟨dx,vs,(λz=>(hp _ z).elim nx λe=>by rw[e]at s2;cases s2),s2,Repf.wide hp fs r,z⟩
theorem Reps.wide(hp : ∀ a,B a->A a\/H a=Ad) : ∀{vs:Ac V}(ds:Ac D),Reps K CL H A vs ds->Reps K CL H B vs ds
 |[],[],h=>h
 |_::_,d::ds,h=>⟨Rep.wide hp d h.1,Reps.wide hp ds h.2⟩
 |[],_::_,h=>h.elim
 |_::_,[],h=>h.elim
theorem Repf.wide(hp : ∀ a,B a->A a\/H a=Ad) : ∀{vs:Ac (Ai × V)}(ds:Ac (Ai × D)),Repf K CL H A vs ds->Repf K CL H B vs ds
 |[],[],h=>h
 |_::_,d::ds,h=>⟨Repp.wide hp d h.1,Repf.wide hp ds h.2⟩
 |[],_::_,h=>h.elim
 |_::_,[],h=>h.elim
theorem Repp.wide(hp : ∀ a,B a->A a\/H a=Ad) : ∀{v:Ai × V}(d:Ai × D),Repp K CL H A v d->Repp K CL H B v d
 |_,(_,d),h=>⟨h.1,Rep.wide hp d h.2⟩
end
theorem Rep.same(s:Ax H H')(h:Rep K CL H A v d):Rep K CL H' A v d:=Rep.kp (Kp.of s) d h
theorem Reps.same{v:Ac V}{d:Ac D}(s:Ax H H')(h:Reps K CL H A v d):Reps K CL H' A v d:=Reps.kp (Kp.of s) d h
theorem B8.same{v:V}{d:D}(s:Ax H H')(h:B8 K CL H A v d):B8 K CL H' A v d:=by
 rcases h with h|⟨a,xs,ds,e,e2,q,r⟩
 .exact .inl (h.same s)
 .exact .inr ⟨a,xs,ds,e,e2,s _ _ q,r.same s⟩
theorem Reps.length : ∀{vs:Ac V}{ds:Ac D},Reps K CL H A vs ds->vs.length=ds.length
 |[],[],_=>rfl
 |_::_,_::_,h=>congrArg (· + 1) (Reps.length h.2)
 |[],_::_,h=>h.elim
 |_::_,[],h=>h.elim
theorem Reps.append : ∀{vs ws:Ac V}{ds es:Ac D},Reps K CL H A vs ds->Reps K CL H A ws es->Reps K CL H A (vs++ws) (ds++es)
 |[],_,[],_,_,h=>h
 |_::_,_,_::_,_,h,g=>⟨h.1,Reps.append h.2 g⟩
 |[],_,_::_,_,h,_=>h.elim
 |_::_,_,[],_,h,_=>h.elim
theorem Reps.get : ∀{vs:Ac V}{ds:Ac D}{i:Af}{d:D},Reps K CL H A vs ds->ds[i]? = Aa d -> ∃ v,vs[i]? = Aa v/\Rep K CL H A v d
 |[],[],_,_,_,e=>by simp at e
 |v::_,_::_,0,_,h,e=>by simp at e;subst e;exact⟨v,rfl,h.1⟩
 |_::_,_::_,i+1,_,h,e=>by
  obtain⟨v,q,r⟩:=Reps.get (i:=i) h.2 (by simpa using e)
  exact⟨v,by simpa using q,r⟩
 |[],_::_,_,_,h,_=>h.elim
 |_::_,[],_,_,h,_=>h.elim
theorem Reps.take : ∀{vs:Ac V}{ds:Ac D}(n:Af),Reps K CL H A vs ds->Reps K CL H A (vs.take n) (ds.take n)
 |_,_,0,_=>trivial
 |[],[],_+1,_=>trivial
 |_::_,_::_,n+1,h=>⟨h.1,Reps.take n h.2⟩
 |[],_::_,_+1,h=>h.elim
 |_::_,[],_+1,h=>h.elim
theorem Reps.drop : ∀{vs:Ac V}{ds:Ac D}(n:Af),Reps K CL H A vs ds->Reps K CL H A (vs.drop n) (ds.drop n)
 |_,_,0,h=>h
 |[],[],_+1,_=>trivial
 |_::_,_::_,n+1,h=>Reps.drop n h.2
 |[],_::_,_+1,h=>h.elim
 |_::_,[],_+1,h=>h.elim
theorem Reps.set{x:V}{e:D}(r:Rep K CL H A x e) : ∀{vs:Ac V}{ds:Ac D}(n:Af),Reps K CL H A vs ds->Reps K CL H A (vs.set n x) (ds.set n e)
 |[],[],_,_=>trivial
 |_::_,_::_,0,h=>⟨r,h.2⟩
 |_::_,_::_,n+1,h=>⟨h.1,Reps.set r n h.2⟩
 |[],_::_,_,h=>h.elim
 |_::_,[],_,h=>h.elim
end
structure Good (K:Fg) (CL:ClA) (A:Ag->Prop) (U:Rho) (Y:L2.St) (H:Hp):Prop where
 sh : ∀(i:Af)(d:D),U[i]? = Aa (Aa (d,Ae)) -> ∃ v,Y[i]? = Aa (Aa v)/\Rep K CL H A v d
 ow : ∀(i:Af)(d:D),U[i]? = Aa (Aa (d,Ab)) -> ∃ a xs ds,Y[i]? = Aa (Aa (.ref a))/\d = .lst ds/\A a/\H a=Aa (.lst xs)/\Reps K CL H A xs ds
 len:U.length=Y.length
theorem Good.same{K:Fg}{CL:ClA}{A:Ag->Prop}{U:Rho}{Y:L2.St}{H H':Hp}(g:Good K CL A U Y H)(s:Ax H H'):Good K CL A U Y H':=
 ⟨λi d e=>let ⟨v,q,r⟩:=g.sh i d e;⟨v,q,r.same s⟩,λi d e=>let ⟨a,xs,ds,q,z,na,h,r⟩:=g.ow i d e;⟨a,xs,ds,q,z,na,s _ _ h,r.same s⟩,g.len⟩
noncomputable abbrev XW:=Ex->Hp->Prop
variable{W:XW}
noncomputable def AZ(Rp:Hp->V->D->Prop)(W:XW)(H:Hp)(r:R D)(Q:VK):Prop:=match r with
  |.ok d => ∀ v H',Ax H H'->Rp H' v d->Q v H'
  |.exn x => ∀ H',Ax H H'->W x H'
  |.bad=>AV
noncomputable def FH(Rp:Hp->Ac V->Ac D->Prop)(W:XW)(H:Hp)(r:R (Ac D))(Q:Ac V->Hp->Prop):Prop:=match r with
  |.ok d => ∀ v H',Ax H H'->Rp H' v d->Q v H'
  |.exn x => ∀ H',Ax H H'->W x H'
  |.bad=>AV
noncomputable def Ch(W:XW)(H:Hp)(r:R Ak)(Q:Ak->Hp->Prop):Prop:=match r with
  |.ok b => ∀ H',Ax H H'->Q b H'
  |.exn x => ∀ H',Ax H H'->W x H'
  |.bad=>AV
theorem AZ.same{Q:VK}(s:Ax H H')(h:AZ Rp W H r Q):AZ Rp W H' r Q:=by
 cases r with
 |ok d=>exact λv H2 s2 q=>h v H2 (s.trans s2) q
 |exn x=>exact λH2 s2=>h H2 (s.trans s2)
 |bad=>exact h
theorem Ch.same{r:R Ak}{Q:Ak->Hp->Prop}(s:Ax H H')(h:Ch W H r Q):Ch W H' r Q:=by
 cases r with
 |ok d=>exact λH2 s2=>h H2 (s.trans s2)
 |exn x=>exact λH2 s2=>h H2 (s.trans s2)
 |bad=>exact h
theorem AZ.bind{f:D->R D}{Q Q':VK}(h:AZ Rq W H (r.bind f) Q)(k : ∀ d v H',r = .ok d->Ax H H'->Rp H' v d->AZ Rq W H' (f d) Q->Q' v H'):AZ Rp W H r Q':=by
 cases r with
 |ok d=>exact λv H2 s2 q=>k d v H2 rfl s2 q (AZ.same s2 h)
 |exn x=>exact h
 |bad=>exact h
section
variable(X:Cx)(CL:ClA)(W:XW)
noncomputable def SE(e:Am)(f:Rho->R D):Prop := ∀ A,PE X e (λY H Q=>AOk H A /\ ∃ U,Good X.K CL A U Y H/\AZ (λH=>Rep X.K CL H A) W H (f U) Q)
noncomputable def ST(e:Am)(f:Rho->R D):Prop := ∀ A,PE X e (λY H Q=>AOk H A /\ ∃ U,Good X.K CL A U Y H/\AZ (λH=>B8 X.K CL H A) W H (f U) Q)
noncomputable def SB(e:Am)(f:Rho->R Ak):Prop := ∀ A,PT X e (λY H Q=>AOk H A /\ ∃ U,Good X.K CL A U Y H/\Ch W H (f U) Q)
noncomputable def SA(es:Ac Am)(f:Rho->R (Ac D)):Prop := ∀ A,PA X es (λY H Q=>AOk H A /\ ∃ U,Good X.K CL A U Y H/\FH (λH=>Reps X.K CL H A) W H (f U) Q)
end
theorem PE.weak{t t':TE}(h:PE X e t)(k : ∀ Y H Q,t' Y H Q->t Y H Q):PE X e t':=λpI s Y H Q I q=>h pI s Y H Q I (k _ _ _ q)
theorem PT.weak{t:TT}(h:PT X e t)(k : ∀ Y H Q,t' Y H Q->t Y H Q):PT X e t':=λpI s Y H Q I q=>h pI s Y H Q I (k _ _ _ q)
theorem PA.weak{e:Ac Am}{t t':TA}(h:PA X e t)(k : ∀ Y H Q,t' Y H Q->t Y H Q):PA X e t':=λpos pI s Y H Q I q=>h pos pI s Y H Q I (k _ _ _ q)
noncomputable def OpD(X:Cx)(CL:ClA)(W:XW)(f:Ah->Ah->Sem Ah)(g:D->D->R D):Prop:=
 ∀ A,OpR X f (λx y H Q=>AOk H A /\ ∃ dx dy,B8 X.K CL H A x dx/\B8 X.K CL H A y dy/\AZ (λH=>Rep X.K CL H A) W H (g dx dy) Q)
section
variable{X:Cx}{CL:ClA}{W:XW}{a b c:Am}{fa fb fc:Rho->R D}{pos:Az}
theorem SE.st(h:SE X CL W a fa):ST X CL W a fa:=λA=>PE.weak (h A) λY H Q ⟨hA,U,g,p⟩=>⟨hA,U,g,by
 cases e:fa U with
 |ok d=>rw[e]at p;exact λv H' s r=>p v H' s (.inl r)
 |exn x=>rw[e]at p;exact p
 | bad=>rw[e]at p;exact p⟩
theorem SE.congr{f g:Rho->R D}(h:SE X CL W a f)(e : ∀ U,g U=f U):SE X CL W a g:=λA=>PE.weak (h A) λY H Q ⟨hA,U,q,p⟩=>⟨hA,U,q,by rw[<-e];exact p⟩
theorem JH(h:PE X a (tC v))(r : ∀ H A,AOk H A->Rep X.K CL H A v d):SE X CL W a (λ_ => .ok d):=λA=>PE.weak h λY H Q ⟨hA,U,g,p⟩=>p v H (Ax.refl H) (r H A hA)
theorem OP{i j}:SE X CL W (.Constant (.int i) j pos) (λ_ => .ok (.int i)):=JH Xg λ_ _ _=>rfl
theorem YC{b j}:SE X CL W (.Constant (.bool b) j pos) (λ_ => .ok (.bl b)):=JH Zj λ_ _ _=>rfl
theorem Xm{j}:SE X CL W (.Constant .none j pos) (λ_ => .ok .non):=JH Xe λ_ _ _=>rfl
theorem ON{x j}:SE X CL W (.Constant (.str x) j pos) (λ_ => .ok (.str x)):=JH Xb λ_ _ _=>rfl
theorem NH(h:Dv U i = .ok d):U[i]? = Aa (Aa (d,Ae)):=by
 unfold Dv at h;split at h
 .rename_i e;cases h;exact e
 .cases h
theorem NG(h:Ey U i = .ok d) : ∃ o,U[i]? = Aa (Aa (d,o)):=by
 unfold Ey at h;split at h
 .rename_i e;cases h;exact⟨_,e⟩
 .cases h
theorem Ub(h:Dv U i = .exn x):AV:=by
 unfold Dv at h;split at h <;> cases h
theorem Nj(h:Ey U i = .exn x):AV:=by
 unfold Ey at h;split at h <;> cases h
theorem Xj(h:PE X a (Fk i)):SE X CL W a (λU=>Dv U i):=λA=>PE.weak h λY H Q ⟨hA,U,g,p⟩=>by
 dsimp only at p;cases e:Dv U i with
 |ok d=>
  rw[e]at p;obtain⟨v,q,r⟩:=g.sh i d (NH e);exact⟨v,q,p v H (Ax.refl H) r⟩
 |exn x=>exact(Ub e).elim
 |bad=>rw[e]at p;exact p.elim
theorem Lr(h:PE X a (Fk i)):ST X CL W a (λU=>Ey U i):=λA=>PE.weak h λY H Q ⟨hA,U,g,p⟩=>by
 dsimp only at p;cases e:Ey U i with
 |ok d=>
  rw[e]at p;obtain⟨o,e⟩:=NG e;cases o with
  |false=>
   obtain⟨v,q,r⟩:=g.sh i d e;exact⟨v,q,p v H (Ax.refl H) (.inl r)⟩
  |true=>
   obtain⟨x,xs,ds,q,rfl,ha,hh,r⟩:=g.ow i d e;exact⟨_,q,p _ H (Ax.refl H) (.inr ⟨x,xs,ds,rfl,rfl,hh,r⟩)⟩
 |exn x=>exact(Nj e).elim
 |bad=>rw[e]at p;exact p.elim
theorem op2{Q:VK}(h:AOk H A /\ ∃ U,Good X.K CL A U Y H/\AZ Rq W H ((fa U).bind λx=>(fb U).bind λy=>g x y) Q):AOk H A/\∃ U,Good X.K CL A U Y H/\AZ (λH=>B8 X.K CL H A) W H (fa U) (λx H1=>AOk H1 A/\∃ U,Good X.K CL A U Y H1/\AZ (λH=>B8 X.K CL H A) W H1 (fb U) (λy H2=>AOk H2 A/\∃ dx dy,B8 X.K CL H2 A x dx/\B8 X.K CL H2 A y dy/\AZ Rq W H2 (g dx dy) Q)):=by
 obtain⟨hA,U,gd,p⟩:=h;refine⟨hA,U,gd,AZ.bind p λdx x H1 _ s1 r1 p1=>⟨hA.same s1,U,gd.same s1,AZ.bind p1 λdy y H2 _ s2 r2 p2=>⟨(hA.same s1).same s2,dx,dy,r1.same s2,r2,p2⟩⟩⟩
theorem OQ{op:Eo}(ho:OpD X CL W (Bw op) g)(ha:ST X CL W a fa)(hb:ST X CL W b fb):SE X CL W (.BinOp a op b pos) (λU=>(fa U).bind λx=>(fb U).bind λy=>g x y):=
 λA=>PE.weak (O9 (ho A) (ha A) (hb A)) λY H Q h=>op2 h
theorem Xp(ho:OpD X CL W (BW op) g)(ha:ST X CL W a fa)(hb:ST X CL W b fb)(hm:Fc op b=Ae):SE X CL W (.Compare a [op] [b] pos) (λU=>(fa U).bind λx=>(fb U).bind λy=>g x y):=
 λA=>PE.weak (UW (ho A) (ha A) (hb A) hm) λY H Q h=>op2 h
theorem B8.int_of{i:Aj}(h:B8 K CL H A v (.int i)):v = .int i:=by
 rcases h with h|⟨_,_,_,_,e,_⟩
 .exact h
 .cases e
theorem B8.str_of{i:Ai}(h:B8 K CL H A v (.str i)):v = .str i:=by
 rcases h with h|⟨_,_,_,_,e,_⟩
 .exact h
 .cases e
theorem B8.bl_of{i:Ak}(h:B8 K CL H A v (.bl i)):v = .bl i:=by
 rcases h with h|⟨_,_,_,_,e,_⟩
 .exact h
 .cases e
theorem B8.non_of(h:B8 K CL H A v .non):v = .non:=by
 rcases h with h|⟨_,_,_,_,e,_⟩
 .exact h
 .cases e
theorem B8.lst_of{ds:Ac D}(h:B8 K CL H A v (.lst ds)) : ∃ a xs,v = .ref a/\SqL K H a xs/\Reps K CL H A xs ds:=by
 rcases h with ⟨a,xs,e,_,s,r⟩|⟨a,xs,es,rfl,e,s,r⟩
 .exact⟨a,xs,e,s,r⟩
 .cases e;exact⟨a,xs,rfl,SqL.of s,r⟩
theorem B8.tup_of{ds:Ac D}(h:B8 K CL H A v (.tup ds)) : ∃ a xs,v = .ref a/\(¬ A a\/KT K a xs)/\SqT K H a xs/\Reps K CL H A xs ds:=by
 rcases h with ⟨a,xs,e,n,s,r⟩|⟨_,_,_,_,e,_⟩
 .exact⟨a,xs,e,n,s,r⟩
 .cases e
theorem Wn{i j:Aj}(h:DD i j=Ab):JV i j:=by
 unfold DD at h;simp only[B0,An,AR]at h;unfold JV;omega
theorem Oa{a:Aj}(h:a.natAbs<2 ^ 2000):Rb a<=2 ^ 20:=by
 unfold Rb;split
 .omega
 .rename_i hz;have h0:a.natAbs≠0:=by intro z;exact hz (by rw[Int.natAbs_eq_zero.mp z];rfl)
  have:=(Nat.log2_lt h0).mpr h;omega
theorem Wm{i j:Aj}(h:(DD i j||FX i j)=Ab):HU i j:=by
 rcases Bool.or_eq_true_iff.mp h with h|h
 .exact(Wn h).ok
 .unfold FX at h;rw[An,AR,AR]at h;exact .of_bits (Oa h.1) (Oa h.2)
theorem Wf:OpR X (Bw .Mult) (rI HU λi j => .int (i*j)):=opI λ_ _ _ _ _ _ _ hc q=>mul_int q hc
theorem Gg(h:CD n=Ab):n<=sizeLine:=by
 unfold CD at h;rw[Ei];have:=CO h;omega
theorem Om{ds:Ac D}(hA:AOk H A)(hp:H p=Ad)(r:Reps K CL H A xs ds):Rep K CL (upd H p (.lst xs)) A (.ref p) (.lst ds):=
 ⟨p,xs,rfl,.inl (hA.new hp),SqL.of DZ,r.same λb o e=>by rw[Bq (Eu e hp)];exact e⟩
theorem Jd{ds:Ac D}(hA:AOk H A)(hp:H p=Ad)(r:Reps K CL H A xs ds):Rep K CL (upd H p (.tup xs)) A (.ref p) (.tup ds):=
 ⟨p,xs,rfl,.inl (hA.new hp),SqT.of DZ,r.same λb o e=>by rw[Bq (Eu e hp)];exact e⟩
theorem FE(h:H p=Ad)(o:HO):Ax H (upd H p o):=λb u q=>by rw[Bq (Eu q h)];exact q
noncomputable def Zc(K:Fg):R2:=λx y H Q => ∃ l b xs zs,x = .ref l/\y = .ref b/\SqL K H l xs/\SqL K H b zs/\xs.length+zs.length<=sizeLine /\ ∀ p,H p=Ad->Q (.ref p) (upd H p (.lst (xs++zs)))
end
section
variable{X:Cx}{CL:ClA}{W:XW}
theorem Og:OpR X (Bw .Add) (Zc X.K):=by
 intro pI s Y H x y v u Q I rx ry h;obtain⟨l,b,xs,zs,rfl,rfl,hH,hB,hz,q⟩:=h;cases rx;cases ry;obtain⟨its,r,⟨o,n,e,c,dd,dt⟩,z⟩:=I.list hH;obtain⟨its2,r2,⟨o2,n2,e2,c2,dd2,dt2⟩,z2⟩:=I.list hB;have hl:=r.length;have hl2:=r2.length;obtain⟨cls,dd0,data,sl⟩:=o;obtain⟨cls2,dd02,data2,sl2⟩:=o2;simp only at c dd dt c2 dd2 dt2;subst c dd dt c2 dd2 dt2;have ea:its.toArray++its2.toArray=(its++its2).toArray:=by simp
 refine Gz ⟨_,e,rfl⟩ ⟨_,e2,rfl⟩ noFill_list_add seq_list_add PySem.F.slot_list_add PySem.F.entry_list_add (PySem.F.args_list_add_2 _ _) (list_addW l b its.toArray its2.toArray n n2 Ad Ad sl sl2 (by simp;omega)) ⟨e,e2,?_⟩
 rw[ea];exact⟨.ref _,_,I.lnew (t':=s.toks) (r.append r2) (by rw[BP];omega),rfl,q _ I.fresh⟩
theorem Of:OpD X CL W (Bw .Add) (Cj .Add):=by
 intro A pI s Y H x y v u Q I rx ry ⟨hA,dx,dy,hx,hy,p⟩;cases dx with
 |int i=>
  cases dy with
  |int j=>
   have ex:=hx.int_of;have ey:=hy.int_of
   subst ex ey;exact WS pI s Y H _ _ v u Q I rx ry ⟨i,j,rfl,rfl,p _ H (Ax.refl H) rfl⟩
  |_=>exact p.elim
 |str i=>
  cases dy with
  |str j=>
   have ex:=hx.str_of;have ey:=hy.str_of
   subst ex ey;simp only[OE]at p;split at p
   .rename_i h;exact Th pI s Y H _ _ v u Q I rx ry ⟨i,j,rfl,rfl,Gg h,p _ H (Ax.refl H) rfl⟩
   .exact p.elim
  |_=>exact p.elim
 |lst ds=>
  cases dy with
  |lst es=>
   obtain⟨a,xs,rfl,s1,r1⟩:=hx.lst_of;obtain⟨b,ys,rfl,s2,r2⟩:=hy.lst_of;simp only[OF]at p;split at p
   .rename_i h;refine Og pI s Y H _ _ v u Q I rx ry ⟨a,b,xs,ys,rfl,rfl,s1,s2,by rw[r1.length,r2.length];exact Gg h,λq hq => ?_⟩
    exact p _ _ (FE hq _) (Om hA hq (r1.append r2))
   .exact p.elim
  |_=>exact p.elim
 |tup ds=>
  cases dy with
  |tup es=>
   obtain⟨a,xs,rfl,na1,s1,r1⟩:=hx.tup_of;obtain⟨b,ys,rfl,_,s2,r2⟩:=hy.tup_of;simp only[OD]at p;split at p
   .rename_i h;simp only[An]at h;refine Wh pI s Y H _ _ v u Q I rx ry ⟨a,b,xs,ys,rfl,rfl,s1,s2,?_,by rw[r1.length,r2.length];exact Gg h.2,λhy0 => ?_,λ_ q hq => ?_⟩
    .rintro rfl;cases ds with
     |nil=>cases h.1
     |cons _ _=>exact r1.elim
    .subst hy0;cases es with
     |nil=>rw[Cp]at p;exact p _ H (Ax.refl H) ⟨a,xs,rfl,na1,s1,r1⟩
     |cons _ _=>exact r2.elim
    .exact p _ _ (FE hq _) (Jd hA hq (r1.append r2))
   .exact p.elim
  |_=>exact p.elim
 |_=>exact p.elim
theorem Jc{op:Eo}{C:Aj->Aj->Prop}{g:Aj->Aj->Aj}(ho:OpR X (Bw op) (rI C λi j => .int (g i j)))(hg : ∀ dx dy,(∃ i j,dx = .int i/\dy = .int j/\((C i j/\Cj op dx dy = .ok (.int (g i j)))\/Cj op dx dy = .bad))\/Cj op dx dy = .bad):OpD X CL W (Bw op) (Cj op):=by
 intro A pI s Y H x y v u Q I rx ry ⟨hA,dx,dy,hx,hy,p⟩;rcases hg dx dy with ⟨i,j,rfl,rfl,⟨c,e⟩|e⟩|e
 .have ex:=hx.int_of;have ey:=hy.int_of
  subst ex ey;rw[e]at p;exact ho pI s Y H _ _ v u Q I rx ry ⟨i,j,rfl,rfl,c,p _ H (Ax.refl H) rfl⟩
 .rw[e]at p;exact p.elim
 .rw[e]at p;exact p.elim
theorem UZ:OpD X CL W (Bw .Sub) (Cj .Sub):=by
 intro A pI s Y H x y v u Q I rx ry ⟨hA,dx,dy,hx,hy,p⟩;cases dx with
 |int i=>
  cases dy with
  |int j=>
   have ex:=hx.int_of;have ey:=hy.int_of
   subst ex ey;exact WO pI s Y H _ _ v u Q I rx ry ⟨i,j,rfl,rfl,p _ H (Ax.refl H) rfl⟩
  |_=>exact p.elim
 |_=>exact p.elim
theorem Wc:OpD X CL W (Bw .Mult) (Cj .Mult):=Jc Wf λdx dy=>by
 cases dx with
 |int i=>
  cases dy with
  |int j=>
   refine .inl ⟨i,j,rfl,rfl,?_⟩;rw[X6];split
   .rename_i h;exact .inl ⟨Wm h,rfl⟩
   .exact .inr rfl
  |_=>exact .inr rfl
 |_=>exact .inr rfl
theorem Uw:OpD X CL W (Bw .FloorDiv) (Cj .FloorDiv):=Jc Wg λdx dy=>by
 cases dx with
 |int i=>
  cases dy with
  |int j=>
   refine .inl ⟨i,j,rfl,rfl,?_⟩;rw[Jf];split
   .rename_i h;exact .inl ⟨h,rfl⟩
   .exact .inr rfl
  |_=>exact .inr rfl
 |_=>exact .inr rfl
theorem Wd:OpD X CL W (Bw .Mod) (Cj .Mod):=Jc WQ λdx dy=>by
 cases dx with
 |int i=>
  cases dy with
  |int j=>
   refine .inl ⟨i,j,rfl,rfl,?_⟩;rw[X7];split
   .rename_i h;exact .inl ⟨h,rfl⟩
   .exact .inr rfl
  |_=>exact .inr rfl
 |_=>exact .inr rfl
theorem Wb:OpD X CL W (Bw .Pow) (Cj .Pow):=Jc WP λdx dy=>by
 cases dx with
 |int i=>
  cases dy with
  |int j=>
   refine .inl ⟨i,j,rfl,rfl,?_⟩;rw[W6];split
   .rename_i h;exact .inl ⟨⟨h.1.1,h.1.2,by omega⟩,rfl⟩
   .exact .inr rfl
  |_=>exact .inr rfl
 |_=>exact .inr rfl
theorem Oe(op:Eo):OpD X CL W (Bw op) (Cj op):=by
 cases op with
 |Add=>exact Of
 |Sub=>exact UZ
 |Mult=>exact Wc
 |FloorDiv=>exact Uw
 |Mod=>exact Wd
 |Pow=>exact Wb
 |_=>
  intro A pI s Y H x y v u Q I rx ry ⟨hA,dx,dy,hx,hy,p⟩;exact p.elim
noncomputable abbrev A0:Ag->Prop:=λ_=>AV
theorem B8.plain(h:B8 K CL H A v d):Rep K CL H A0 v d:=by
 rcases h with h|⟨a,xs,ds,rfl,rfl,e,r⟩
 .exact Rep.sub (λ_ z=>z.elim) d h
 .exact⟨a,xs,rfl,.inl λz=>z.elim,SqL.of e,Reps.sub (λ_ z=>z.elim) ds r⟩
mutual
theorem UK : ∀(n:Af)(d:D),flD n d=Ab->eqD d d=Ab
 |_,.non,_=>rfl
 |_,.bl b,_=>by simp
 |_,.int i,_=>by simp
 |_,.str x,_=>by simp
 |n+1,.tup ds,h=>by
  show eqDs ds ds=Ab;exact eqDs_refl n ds h
 |n+1,.lst ds,h=>by
  show eqDs ds ds=Ab;exact eqDs_refl n ds h
 |0,.tup ds,h=>by cases h
 |0,.lst ds,h=>by cases h
 |n,.obj _ _,h=>by cases n <;> cases h
 |n,.exc _ _,h=>by cases n <;> cases h
 |n,.dic _,h=>by cases n <;> cases h
theorem eqDs_refl : ∀(n:Af)(ds:Ac D),ds.all (flD n)=Ab->eqDs ds ds=Ab
 |_,[],_=>rfl
 |n,d::ds,h=>by
  simp only[DJ,An]at h;simp only[KG,An];exact⟨UK n d h.1,eqDs_refl n ds h.2⟩
end
theorem M9(I:Inv X pI Y H s)(h:SqL X.K H a xs)(h':SqT X.K H a ys):AV:=by
 obtain⟨its,r,⟨o,n,e,c,_,_⟩,_⟩:=I.list h;obtain⟨its',r',⟨o',e',c',_⟩,_⟩:=I.tuple h';rw[e]at e';cases e';rw[c]at c'
 injection c' with z
 exact absurd z (by decide)
mutual
theorem Ih{pI:Ac (Ag × AB)}{Y:L2.St}{H:Hp}{s:Al}(I:Inv X pI Y H s) : ∀(n:Af)(d e:D){v:V},flD n d=Ab->flD n e=Ab->Rep X.K CL H A0 v d->Rep X.K CL H A0 v e->d=e
 |n,.tup ds,e,v,hd,he,r,q=>by
  obtain⟨a,xs,rfl,_,s1,r1⟩:=r;cases e with
  |tup es=>
   obtain⟨b,ys,e,_,s2,r2⟩:=q;cases e;have z:=I.tuple_inj s1 s2;subst z;cases n with
   |zero=>cases hd
   |succ n=>rw[reps_inj I n ds es hd he r1 r2]
  |lst es=>
   obtain⟨b,ys,e,_,s2,r2⟩:=q;cases e;exact(M9 I s2 s1).elim
  |obj=>cases n <;> cases he
  |exc=>cases n <;> cases he
  |dic=>cases n <;> cases he
  |_=>cases q
 |n,.lst ds,e,v,hd,he,r,q=>by
  obtain⟨a,xs,rfl,_,s1,r1⟩:=r;cases e with
  |lst es=>
   obtain⟨b,ys,e,_,s2,r2⟩:=q;cases e;have z:=I.list_inj s1 s2;subst z;cases n with
   |zero=>cases hd
   |succ n=>rw[reps_inj I n ds es hd he r1 r2]
  |tup es=>
   obtain⟨b,ys,e,_,s2,r2⟩:=q;cases e;exact(M9 I s1 s2).elim
  |obj=>cases n <;> cases he
  |exc=>cases n <;> cases he
  |dic=>cases n <;> cases he
  |_=>cases q
 |n,.obj _ _,e,v,hd,he,r,q=>by cases n <;> cases hd
 |n,.exc _ _,e,v,hd,he,r,q=>by cases n <;> cases hd
 |n,.dic _,e,v,hd,he,r,q=>by cases n <;> cases hd
 |n,.non,e,v,hd,he,r,q=>by
  cases r;cases e with
  |tup=>obtain⟨_,_,z,_⟩:=q;cases z
  |lst=>obtain⟨_,_,z,_⟩:=q;cases z
  |obj=>cases n <;> cases he
  |exc=>cases n <;> cases he
  |dic=>cases n <;> cases he
  |_=>cases q <;> rfl
 |n,.bl b,e,v,hd,he,r,q=>by
  cases r;cases e with
  |tup=>obtain⟨_,_,z,_⟩:=q;cases z
  |lst=>obtain⟨_,_,z,_⟩:=q;cases z
  |obj=>cases n <;> cases he
  |exc=>cases n <;> cases he
  |dic=>cases n <;> cases he
  |_=>cases q <;> rfl
 |n,.int b,e,v,hd,he,r,q=>by
  cases r;cases e with
  |tup=>obtain⟨_,_,z,_⟩:=q;cases z
  |lst=>obtain⟨_,_,z,_⟩:=q;cases z
  |obj=>cases n <;> cases he
  |exc=>cases n <;> cases he
  |dic=>cases n <;> cases he
  |_=>cases q <;> rfl
 |n,.str b,e,v,hd,he,r,q=>by
  cases r;cases e with
  |tup=>obtain⟨_,_,z,_⟩:=q;cases z
  |lst=>obtain⟨_,_,z,_⟩:=q;cases z
  |obj=>cases n <;> cases he
  |exc=>cases n <;> cases he
  |dic=>cases n <;> cases he
  |_=>cases q <;> rfl
theorem reps_inj{pI:Ac (Ag × AB)}{Y:L2.St}{H:Hp}{s:Al}(I:Inv X pI Y H s) : ∀(n:Af)(ds es:Ac D){xs:Ac V},ds.all (flD n)=Ab->es.all (flD n)=Ab->Reps X.K CL H A0 xs ds->Reps X.K CL H A0 xs es->ds=es
 |_,[],[],_,_,_,_,_=>rfl
 |n,d::ds,e::es,x::xs,hd,he,r,q=>by
  simp only[DJ,An]at hd he;rw[Ih I n d e hd.1 he.1 r.1 q.1,reps_inj I n ds es hd.2 he.2 r.2 q.2]
 |_,[],_::_,[],_,_,_,q=>q.elim
 |_,[],_::_,_::_,_,_,r,_=>r.elim
 |_,_::_,[],[],_,_,r,_=>r.elim
 |_,_::_,[],_::_,_,_,_,q=>q.elim
 |_,_::_,_::_,[],_,_,r,_=>r.elim
end
theorem Ie : ∀{ds es:Ac D},ds.length≠es.length->eqDs ds es=Ae
 |[],[],h=>absurd rfl h
 |[],_::_,_=>rfl
 |_::_,[],_=>rfl
 |d::ds,e::es,h=>by
  simp only[KG,Ie (ds:=ds) (es:=es) (by simpa using h),D5]
theorem Ms(n:Af)(f:Af->Ak):(B1 (n+1)).all f=(f 0&&(B1 n).all λj=>f (j+1)):=by
 rw[List.range_succ_eq_map,DJ,Fx];rfl
theorem Ig : ∀{ds es:Ac D},ds.length=es.length->eqDs ds es=(B1 ds.length).all λj=>eqD (ds.getD j .non) (es.getD j .non)
 |[],[],_=>rfl
 |d::ds,e::es,h=>by
  rw[KG,Ig (ds:=ds) (es:=es) (by simpa using h),Cf,Ms]
  rfl
 |[],_::_,h=>by cases h
 |_::_,[],h=>by cases h
theorem Gj{ds:Ac D}(r:Reps K CL H A0 xs ds)(rv:AU xs its)(h:j<its.length):∃ x,Rep K CL H A0 x (ds.getD j .non)/\A7 x its[j]:=by
 have e1:=rv.length;have e2:=r.length;have hd:ds[j]? = Aa (ds.getD j .non):=by
  rw[CS,BJ (by omega)];rfl
 obtain⟨x,hx,q⟩:=r.get hd;obtain⟨u,hu,ru⟩:=rv.get hx;refine⟨x,q,?_⟩;rw[BJ h]at hu;cases hu;exact ru
theorem FV{ds:Ac D}(h:ds.all (flD n)=Ab)(j:Af):flD n (ds.getD j .non)=Ab:=by
 rw[CS];cases e:ds[j]? with
 |none=>cases n <;> rfl
 |some d=>exact Bg.mp h d (QT e)
noncomputable def BZ(B:AN)(s:Al)(u t:Ah)(k:Ak):Prop:=Hc B s u t k/\Di B s u t k/\Gx B s u t (!k)
section
variable{B:AN}{s:Al}
open SeqAt
theorem Zv:BZ B s .none .none Ab:=⟨RcAt.none_none,EqAt.same _,RcNeAt.none_none⟩
theorem ZP(a b:Ak):BZ B s (.bool a) (.bool b) (a==b):=⟨RcAt.bool_bool _ _,EqAt.bool_bool _ _,RcNeAt.bool_bool _ _⟩
theorem Zy(b:Ak):BZ B s .none (.bool b) Ae:=⟨RcAt.none_bool _,EqAt.none_bool _,RcNeAt.none_bool _⟩
theorem ZM(b:Ak):BZ B s (.bool b) .none Ae:=⟨RcAt.bool_none _,EqAt.bool_none _,RcNeAt.bool_none _⟩
theorem ZI(a:Aj)(t:CB)(b:Aj)(u:CB):BZ B s (.int a t) (.int b u) (a==b):=⟨RcAt.int_int _ _ _ _,EqAt.int_int _ _ _ _,RcNeAt.int_int _ _ _ _⟩
theorem YJ(a:Ai)(t:CB)(b:Ai)(u:CB):BZ B s (.str a t) (.str b u) (a==b):=⟨RcAt.str_str _ _ _ _,EqAt.str_str _ _ _ _,RcNeAt.str_str _ _ _ _⟩
theorem ZF(a:Aj)(t:CB)(b:Ai)(u:CB):BZ B s (.int a t) (.str b u) Ae:=⟨RcAt.int_str _ _ _ _,EqAt.int_str _ _ _ _,RcNeAt.int_str _ _ _ _⟩
theorem Zr(a:Ai)(t:CB)(b:Aj)(u:CB):BZ B s (.str a t) (.int b u) Ae:=⟨RcAt.str_int _ _ _ _,EqAt.str_int _ _ _ _,RcNeAt.str_int _ _ _ _⟩
theorem Zx(b:Aj)(u:CB):BZ B s .none (.int b u) Ae:=⟨RcAt.none_int _ _,EqAt.none_int _ _,RcNeAt.none_int _ _⟩
theorem ZG(b:Aj)(u:CB):BZ B s (.int b u) .none Ae:=⟨RcAt.int_none _ _,EqAt.int_none _ _,RcNeAt.int_none _ _⟩
theorem Zu(b:Ai)(u:CB):BZ B s .none (.str b u) Ae:=⟨RcAt.none_str _ _,EqAt.none_str _ _,RcNeAt.none_str _ _⟩
theorem YK(b:Ai)(u:CB):BZ B s (.str b u) .none Ae:=⟨RcAt.str_none _ _,EqAt.str_none _ _,RcNeAt.str_none _ _⟩
theorem ZO(a:Ak)(b:Aj)(u:CB):BZ B s (.bool a) (.int b u) (b2i a==b):=⟨RcAt.bool_int _ _ _,EqAt.bool_int _ _ _,RcNeAt.bool_int _ _ _⟩
theorem ZJ(a:Ak)(b:Aj)(u:CB):BZ B s (.int b u) (.bool a) (b==b2i a):=⟨RcAt.int_bool _ _ _,EqAt.int_bool _ _ _,RcNeAt.int_bool _ _ _⟩
theorem ZL(a:Ak)(b:Ai)(u:CB):BZ B s (.bool a) (.str b u) Ae:=⟨RcAt.bool_str _ _ _,EqAt.bool_str _ _ _,RcNeAt.bool_str _ _ _⟩
theorem Zs(a:Ak)(b:Ai)(u:CB):BZ B s (.str b u) (.bool a) Ae:=⟨RcAt.str_bool _ _ _,EqAt.str_bool _ _ _,RcNeAt.str_bool _ _ _⟩
variable{l:Ag}{items:AW Ah}
theorem ZB(h:s.heap.IsList l items)(hu:B.units<Bo):BZ B s (.ref l) .none Ae:=⟨RcAt.list_none h hu,EqAt.list_none h hu,RcNeAt.list_none h hu⟩
theorem Zw(h:s.heap.IsList l items)(hu:B.units<Bo):BZ B s .none (.ref l) Ae:=⟨RcAt.none_list h hu,EqAt.none_list h hu,RcNeAt.none_list h hu⟩
theorem ZD(b:Ak)(h:s.heap.IsList l items)(hu:B.units<Bo):BZ B s (.ref l) (.bool b) Ae:=⟨RcAt.list_bool b h hu,EqAt.list_bool b h hu,RcNeAt.list_bool b h hu⟩
theorem ZN(b:Ak)(h:s.heap.IsList l items)(hu:B.units<Bo):BZ B s (.bool b) (.ref l) Ae:=⟨RcAt.bool_list b h hu,EqAt.bool_list b h hu,RcNeAt.bool_list b h hu⟩
theorem ZC(b:Aj)(u:CB)(h:s.heap.IsList l items)(hu:B.units<Bo):BZ B s (.ref l) (.int b u) Ae:=⟨RcAt.list_int b u h hu,EqAt.list_int b u h hu,RcNeAt.list_int b u h hu⟩
theorem ZH(b:Aj)(u:CB)(h:s.heap.IsList l items)(hu:B.units<Bo):BZ B s (.int b u) (.ref l) Ae:=⟨RcAt.int_list b u h hu,EqAt.int_list b u h hu,RcNeAt.int_list b u h hu⟩
theorem ZA(b:Ai)(u:CB)(h:s.heap.IsList l items)(hu:B.units<Bo):BZ B s (.ref l) (.str b u) Ae:=⟨RcAt.list_str b u h hu,EqAt.list_str b u h hu,RcNeAt.list_str b u h hu⟩
theorem Zq(b:Ai)(u:CB)(h:s.heap.IsList l items)(hu:B.units<Bo):BZ B s (.str b u) (.ref l) Ae:=⟨RcAt.str_list b u h hu,EqAt.str_list b u h hu,RcNeAt.str_list b u h hu⟩
theorem YE(h:s.heap.IsTuple l items)(hu:B.units<Bo):BZ B s (.ref l) .none Ae:=⟨RcAt.tuple_none h hu,EqAt.tuple_none h hu,RcNeAt.tuple_none h hu⟩
theorem Zt(h:s.heap.IsTuple l items)(hu:B.units<Bo):BZ B s .none (.ref l) Ae:=⟨RcAt.none_tuple h hu,EqAt.none_tuple h hu,RcNeAt.none_tuple h hu⟩
theorem YH(b:Ak)(h:s.heap.IsTuple l items)(hu:B.units<Bo):BZ B s (.ref l) (.bool b) Ae:=⟨RcAt.tuple_bool b h hu,EqAt.tuple_bool b h hu,RcNeAt.tuple_bool b h hu⟩
theorem ZK(b:Ak)(h:s.heap.IsTuple l items)(hu:B.units<Bo):BZ B s (.bool b) (.ref l) Ae:=⟨RcAt.bool_tuple b h hu,EqAt.bool_tuple b h hu,RcNeAt.bool_tuple b h hu⟩
theorem YG(b:Aj)(u:CB)(h:s.heap.IsTuple l items)(hu:B.units<Bo):BZ B s (.ref l) (.int b u) Ae:=⟨RcAt.tuple_int b u h hu,EqAt.tuple_int b u h hu,RcNeAt.tuple_int b u h hu⟩
theorem ZE(b:Aj)(u:CB)(h:s.heap.IsTuple l items)(hu:B.units<Bo):BZ B s (.int b u) (.ref l) Ae:=⟨RcAt.int_tuple b u h hu,EqAt.int_tuple b u h hu,RcNeAt.int_tuple b u h hu⟩
theorem YD(b:Ai)(u:CB)(h:s.heap.IsTuple l items)(hu:B.units<Bo):BZ B s (.ref l) (.str b u) Ae:=⟨RcAt.tuple_str b u h hu,EqAt.tuple_str b u h hu,RcNeAt.tuple_str b u h hu⟩
theorem YI(b:Ai)(u:CB)(h:s.heap.IsTuple l items)(hu:B.units<Bo):BZ B s (.str b u) (.ref l) Ae:=⟨RcAt.str_tuple b u h hu,EqAt.str_tuple b u h hu,RcNeAt.str_tuple b u h hu⟩
theorem Zz(h:s.heap.IsList l items)(h2:s.heap.IsTuple b items2)(hu:B.units<Bo):BZ B s (.ref l) (.ref b) Ae:=⟨RcAt.list_tuple h h2 hu,EqAt.list_tuple h h2 hu,RcNeAt.list_tuple h h2 hu⟩
theorem YF(h:s.heap.IsTuple l items)(h2:s.heap.IsList b items2)(hu:B.units<Bo):BZ B s (.ref l) (.ref b) Ae:=⟨RcAt.tuple_list h h2 hu,EqAt.tuple_list h h2 hu,RcNeAt.tuple_list h h2 hu⟩
end
end
section
variable{X:Cx}{CL:ClA}{W:XW}
theorem GH{its:AW Ah}(x:PlainL h a its):h.IsList a its:=let ⟨o,n,e,c,_,d⟩:=x;⟨o,e,c,n,d⟩
noncomputable def aV(X:Cx)(CL:ClA)(H:Hp)(s:Al)(d:D)(u:Ah):Prop:=match d with
  |.non=>u = .none
  |.bl b=>u = .bool b
  |.int i => ∃ t,u = .int i t
  |.str x => ∃ t,u = .str x t
  |.tup ds => ∃ a xs its,u = .ref a/\Reps X.K CL H A0 xs ds/\AU xs its/\s.heap.IsTuple a its.toArray
  |.lst ds => ∃ a xs its,u = .ref a/\Reps X.K CL H A0 xs ds/\AU xs its/\s.heap.IsList a its.toArray
  |_=>AV
theorem NM(I:Inv X pI Y H s)(hd:flD n d=Ab)(r:Rep X.K CL H A0 v d)(q:A7 v u):aV X CL H s d u:=by
 cases d with
 |non=>cases r;exact q
 |bl b=>cases r;exact q
 |int b=>cases r;exact q
 |str b=>cases r;exact q
 |tup ds=>
  obtain⟨a,xs,rfl,_,sq,r⟩:=r;obtain⟨its,rv,p,_⟩:=I.tuple sq;cases q;exact⟨a,xs,its,rfl,r,rv,p⟩
 |lst ds=>
  obtain⟨a,xs,rfl,_,sq,r⟩:=r;obtain⟨its,rv,p,_⟩:=I.list sq;cases q;exact⟨a,xs,its,rfl,r,rv,GH p⟩
 |obj=>cases n <;> cases hd
 |exc=>cases n <;> cases hd
 |dic=>cases n <;> cases hd
theorem U_9{B:AN}{ds es:Ac D}(hl:s.heap.IsList l its.toArray)(hb:s.heap.IsList b its2.toArray)(e1:its.length=ds.length)(e2:its2.length=es.length)(hu:B.units<Bo)(hs:l=b->eqDs ds es=Ab)(he : ∀ j (h1:j<its.length) (h2:j<its2.length),Di B.in1 s its[j] its2[j] (eqD (ds.getD j .non) (es.getD j .non))):BZ B s (.ref l) (.ref b) (eqDs ds es):=by
 have rc:Hc B s (.ref l) (.ref b) (eqDs ds es):=by
  by_cases hz:its.length=its2.length
  .have q:=SeqAt.RcAt.lists (e:=λj=>eqD (ds.getD j .non) (es.getD j .non)) hl hb (by simpa using hz) hu (λj h1 h2=>by simpa using he j (by simpa using h1) (by simpa using h2))
   rw[Ig (by omega)]
   have e:its.toArray.size=ds.length:=by simpa using e1
   rw[e]at q;exact q
  .rw[Ie (by omega)]
   exact SeqAt.RcAt.lists_lengths hl hb (by simpa using hz) hu
 have ne:Gx B s (.ref l) (.ref b) (!eqDs ds es):=by
  by_cases hz:its.length=its2.length
  .have q:=SeqAt.RcNeAt.lists (e:=λj=>eqD (ds.getD j .non) (es.getD j .non)) hl hb (by simpa using hz) hu (λj h1 h2=>by simpa using he j (by simpa using h1) (by simpa using h2))
   rw[Ig (by omega)]
   have e:its.toArray.size=ds.length:=by simpa using e1
   rw[e]at q;exact q
  .rw[Ie (by omega)]
   exact SeqAt.RcNeAt.lists_lengths hl hb (by simpa using hz) hu
 refine⟨rc,?_,ne⟩;by_cases hlb:l=b
 .rw[hs hlb,hlb];exact RZ _
 .exact RY hlb rc
theorem U_8{B:AN}{ds es:Ac D}(hl:s.heap.IsTuple l its.toArray)(hb:s.heap.IsTuple b its2.toArray)(e1:its.length=ds.length)(e2:its2.length=es.length)(hu:B.units<Bo)(hs:l=b->eqDs ds es=Ab)(he : ∀ j (h1:j<its.length) (h2:j<its2.length),Di B.in1 s its[j] its2[j] (eqD (ds.getD j .non) (es.getD j .non))):BZ B s (.ref l) (.ref b) (eqDs ds es):=by
 have rc:Hc B s (.ref l) (.ref b) (eqDs ds es):=by
  have q:=SeqAt.RcAt.tuples (e:=λj=>eqD (ds.getD j .non) (es.getD j .non)) hl hb hu (λj h1 h2=>by simpa using he j (by simpa using h1) (by simpa using h2))
  have e:its.toArray.size=ds.length:=by simpa using e1
  have e':its2.toArray.size=es.length:=by simpa using e2
  rw[e,e']at q;by_cases hz:ds.length=es.length
  .rw[Ig hz];rw[hz,Q1,CF,Qz]at q;rw[hz];exact q
  .rw[Ie hz];rw[Bs.mpr hz,D5]at q;exact q
 have ne:Gx B s (.ref l) (.ref b) (!eqDs ds es):=by
  have q:=SeqAt.RcNeAt.tuples (e:=λj=>eqD (ds.getD j .non) (es.getD j .non)) hl hb hu (λj h1 h2=>by simpa using he j (by simpa using h1) (by simpa using h2))
  have e:its.toArray.size=ds.length:=by simpa using e1
  have e':its2.toArray.size=es.length:=by simpa using e2
  rw[e,e']at q;by_cases hz:ds.length=es.length
  .rw[Ig hz];rw[hz,Q1,CF,Qz]at q;rw[hz];exact q
  .rw[Ie hz];rw[Bs.mpr hz,D5]at q;exact q
 refine⟨rc,?_,ne⟩;by_cases hlb:l=b
 .rw[hs hlb,hlb];exact RZ _
 .exact RY hlb rc
theorem Hw{pI:Ac (Ag × AB)}{Y:L2.St}{H:Hp}{s:Al}(I:Inv X pI Y H s) :∀(n:Af)(d e:D)(v w':V)(u t:Ah)(B:AN),flD n d=Ab->flD n e=Ab->Rep X.K CL H A0 v d->Rep X.K CL H A0 w' e->A7 v u->A7 w' t->B.units+n<Bo->BZ B s u t (eqD d e)
  |n,d,e,v,w',u,t,B,hd,he,r,q,rv,rw',hu=>by
    have hu0:B.units<Bo:=by omega
    have sd:=NM I hd r rv;have se:=NM I he q rw'
    match d,e,sd,se with
    |.non,.non,s1,s2=>cases s1;cases s2;exact Zv
    |.non,.bl b,s1,s2=>cases s1;cases s2;exact Zy b
    |.non,.int b,s1,s2=>cases s1;obtain⟨_,rfl⟩:=s2;exact Zx b _
    |.non,.str b,s1,s2=>cases s1;obtain⟨_,rfl⟩:=s2;exact Zu b _
    |.non,.tup es,s1,s2=>cases s1;obtain⟨_,_,_,rfl,_,_,p⟩:=s2;exact Zt p hu0
    |.non,.lst es,s1,s2=>cases s1;obtain⟨_,_,_,rfl,_,_,p⟩:=s2;exact Zw p hu0
    |.bl a,.non,s1,s2=>cases s1;cases s2;exact ZM a
    |.bl a,.bl b,s1,s2=>cases s1;cases s2;exact ZP a b
    |.bl a,.int b,s1,s2=>cases s1;obtain⟨_,rfl⟩:=s2;exact ZO a b _
    |.bl a,.str b,s1,s2=>cases s1;obtain⟨_,rfl⟩:=s2;exact ZL a b _
    |.bl a,.tup es,s1,s2=>cases s1;obtain⟨_,_,_,rfl,_,_,p⟩:=s2;exact ZK a p hu0
    |.bl a,.lst es,s1,s2=>cases s1;obtain⟨_,_,_,rfl,_,_,p⟩:=s2;exact ZN a p hu0
    |.int a,.non,s1,s2=>obtain⟨_,rfl⟩:=s1;cases s2;exact ZG a _
    |.int a,.bl b,s1,s2=>obtain⟨_,rfl⟩:=s1;cases s2;exact ZJ b a _
    |.int a,.int b,s1,s2=>obtain⟨_,rfl⟩:=s1;obtain⟨_,rfl⟩:=s2;exact ZI a _ b _
    |.int a,.str b,s1,s2=>obtain⟨_,rfl⟩:=s1;obtain⟨_,rfl⟩:=s2;exact ZF a _ b _
    |.int a,.tup es,s1,s2=>obtain⟨_,rfl⟩:=s1;obtain⟨_,_,_,rfl,_,_,p⟩:=s2;exact ZE a _ p hu0
    |.int a,.lst es,s1,s2=>obtain⟨_,rfl⟩:=s1;obtain⟨_,_,_,rfl,_,_,p⟩:=s2;exact ZH a _ p hu0
    |.str a,.non,s1,s2=>obtain⟨_,rfl⟩:=s1;cases s2;exact YK a _
    |.str a,.bl b,s1,s2=>obtain⟨_,rfl⟩:=s1;cases s2;exact Zs b a _
    |.str a,.int b,s1,s2=>obtain⟨_,rfl⟩:=s1;obtain⟨_,rfl⟩:=s2;exact Zr a _ b _
    |.str a,.str b,s1,s2=>obtain⟨_,rfl⟩:=s1;obtain⟨_,rfl⟩:=s2;exact YJ a _ b _
    |.str a,.tup es,s1,s2=>obtain⟨_,rfl⟩:=s1;obtain⟨_,_,_,rfl,_,_,p⟩:=s2;exact YI a _ p hu0
    |.str a,.lst es,s1,s2=>obtain⟨_,rfl⟩:=s1;obtain⟨_,_,_,rfl,_,_,p⟩:=s2;exact Zq a _ p hu0
    |.tup ds,.non,s1,s2=>cases s2;obtain⟨_,_,_,rfl,_,_,p⟩:=s1;exact YE p hu0
    |.tup ds,.bl b,s1,s2=>cases s2;obtain⟨_,_,_,rfl,_,_,p⟩:=s1;exact YH b p hu0
    |.tup ds,.int b,s1,s2=>obtain⟨_,rfl⟩:=s2;obtain⟨_,_,_,rfl,_,_,p⟩:=s1;exact YG b _ p hu0
    |.tup ds,.str b,s1,s2=>obtain⟨_,rfl⟩:=s2;obtain⟨_,_,_,rfl,_,_,p⟩:=s1;exact YD b _ p hu0
    |.tup ds,.lst es,s1,s2=>obtain⟨_,_,_,rfl,_,_,p⟩:=s1;obtain⟨_,_,_,rfl,_,_,p2⟩:=s2;exact YF p p2 hu0
    |.lst ds,.non,s1,s2=>cases s2;obtain⟨_,_,_,rfl,_,_,p⟩:=s1;exact ZB p hu0
    |.lst ds,.bl b,s1,s2=>cases s2;obtain⟨_,_,_,rfl,_,_,p⟩:=s1;exact ZD b p hu0
    |.lst ds,.int b,s1,s2=>obtain⟨_,rfl⟩:=s2;obtain⟨_,_,_,rfl,_,_,p⟩:=s1;exact ZC b _ p hu0
    |.lst ds,.str b,s1,s2=>obtain⟨_,rfl⟩:=s2;obtain⟨_,_,_,rfl,_,_,p⟩:=s1;exact ZA b _ p hu0
    |.lst ds,.tup es,s1,s2=>obtain⟨_,_,_,rfl,_,_,p⟩:=s1;obtain⟨_,_,_,rfl,_,_,p2⟩:=s2;exact Zz p p2 hu0
    |.tup ds,.tup es,s1,s2=>
      match n,hd,he,hu with
      |n+1,hd,he,hu=>
        obtain⟨a,xs,its,rfl,r1,v1,p1⟩:=s1;obtain⟨b,ys,its2,rfl,r2,v2,p2⟩:=s2;have l1:=v1.length;have l2:=r1.length;have l3:=v2.length;have l4:=r2.length
        refine U_8 p1 p2 (by omega) (by omega) hu0 (λhab => ?_) λj h1 h2 => ?_
        · have e1:v = .ref a:=A7.inj rv rfl;have e2:w' = .ref b:=A7.inj rw' rfl;subst e1 e2 hab;have z:=Ih I (n+1) _ _ hd he r q
          injection z with z
          rw[z];exact eqDs_refl n es he
        · obtain⟨x,rx,qx⟩:=Gj r1 v1 h1;obtain⟨y,ry,qy⟩:=Gj r2 v2 h2;exact(Hw I n _ _ x y _ _ B.in1 (FV hd j) (FV he j) rx ry qx qy (by show B.units+1+n<Bo;omega)).2.1
    |.lst ds,.lst es,s1,s2=>
      match n,hd,he,hu with
      |n+1,hd,he,hu=>
        obtain⟨a,xs,its,rfl,r1,v1,p1⟩:=s1;obtain⟨b,ys,its2,rfl,r2,v2,p2⟩:=s2;have l1:=v1.length;have l2:=r1.length;have l3:=v2.length;have l4:=r2.length
        refine U_9 p1 p2 (by omega) (by omega) hu0 (λhab => ?_) λj h1 h2 => ?_
        · have e1:v = .ref a:=A7.inj rv rfl;have e2:w' = .ref b:=A7.inj rw' rfl;subst e1 e2 hab;have z:=Ih I (n+1) _ _ hd he r q
          injection z with z
          rw[z];exact eqDs_refl n es he
        · obtain⟨x,rx,qx⟩:=Gj r1 v1 h1;obtain⟨y,ry,qy⟩:=Gj r2 v2 h2;exact(Hw I n _ _ x y _ _ B.in1 (FV hd j) (FV he j) rx ry qx qy (by show B.units+1+n<Bo;omega)).2.1
    |.obj _ _,_,s1,_=>exact s1.elim
    |.exc _ _,_,s1,_=>exact s1.elim
    |.dic _,_,s1,_=>exact s1.elim
    |_,.obj _ _,_,s2=>exact s2.elim
    |_,.exc _ _,_,s2=>exact s2.elim
    |_,.dic _,_,s2=>exact s2.elim
end
section
variable{X:Cx}{CL:ClA}{W:XW}
theorem Ji(I:Inv X pI Y H s){ds:Ac D}(B:AN)(hd:flD n d=Ab)(hs:ds.all (flD n)=Ab)(r:Reps X.K CL H A0 xs ds)(rv:AU xs its)(q:Rep X.K CL H A0 v d)(qv:A7 v u)(hu:B.units+n<Bo):∃ e:Ah->Ak,(∀ y,y∈its.toArray->Di B s y u (e y))/\its.toArray.any e=ds.any λy=>eqD y d:=by
 have l1:=rv.length;have l2:=r.length
 have key : ∀ y,y∈its -> ∃ k:Ak,Di B s y u k /\ ∀ j (h:j<its.length),its[j]=y->eqD (ds.getD j .non) d=k:=λy hy=>by
  obtain⟨j,hj,rfl⟩:=DM hy;obtain⟨x,rx,qx⟩:=Gj r rv hj;refine⟨eqD (ds.getD j .non) d,(Hw I n _ _ x v _ _ B (FV hs j) hd rx q qx qv hu).2.1,λj' hj' e => ?_⟩
  obtain⟨x',rx',qx'⟩:=Gj r rv hj';rw[e]at qx';have z:=A7.inj qx qx';subst z;rw[Ih I n _ _ (FV hs j') (FV hs j) rx' rx]
 have key2 : ∀ y,∃ k:Ak,y∈its->Di B s y u k /\ ∀ j (h:j<its.length),its[j]=y->eqD (ds.getD j .non) d=k:=λy=>by
  by_cases hy:y∈its
  .obtain⟨k,hk⟩:=key y hy;exact⟨k,λ_=>hk⟩
  .exact⟨Ab,λh=>absurd h hy⟩
 refine⟨λy=>QB (key2 y),λy hy=>(CN (key2 y) (by simpa using hy)).1,?_⟩
 rw[Dg];simp only[List.any_toArray,QJ];constructor
 .rintro⟨y,hy,hk⟩;obtain⟨j,hj,rfl⟩:=DM hy;have z:=(CN (key2 its[j]) hy).2 j hj rfl;rw[hk]at z;refine⟨ds.getD j .non,?_,z⟩;rw[CS,BJ (by omega)]
  exact En _
 .rintro⟨y,hy,hk⟩;obtain⟨j,hj,rfl⟩:=DM hy;have hj':j<its.length:=by omega
  refine⟨its[j],En _,?_⟩;have z:=(CN (key2 its[j]) (En _)).2 j hj' rfl;rw[<-z,CS,BJ hj];exact hk
theorem IU{g:Aj->Aj->Ak}(ho:OpR X (BW op) (rI0 λi j => .bl (g i j)))(hg : ∀ dx dy,(∃ i j,dx = .int i/\dy = .int j/\Bu op dx dy = .ok (.bl (g i j)))\/Bu op dx dy = .bad):OpD X CL W (BW op) (Bu op):=by
 intro A pI s Y H x y v u Q I rx ry ⟨hA,dx,dy,hx,hy,p⟩;rcases hg dx dy with ⟨i,j,rfl,rfl,e⟩|e
 .have ex:=hx.int_of;have ey:=hy.int_of
  subst ex ey;rw[e]at p;exact ho pI s Y H _ _ v u Q I rx ry ⟨i,j,rfl,rfl,p _ H (Ax.refl H) rfl⟩
 .rw[e]at p;exact p.elim
theorem Op{x:V}(h:B8 X.K CL H A x d)(hd:d ≠ .non):x ≠ .non:=by
 rintro rfl;have h:=h.plain;cases d with
 |non=>exact hd rfl
 |tup=>obtain⟨_,_,e,_⟩:=h;cases e
 |lst=>obtain⟨_,_,e,_⟩:=h;cases e
 |obj=>obtain⟨_,_,e,_⟩:=h;cases e
 |exc=>obtain⟨_,_,_,e,_⟩:=h;cases e
 |dic=>exact h.elim
 |_=>cases h
theorem Hk(hu:X.A.units+64<Bo)(op:Co):OpD X CL W (BW op) (Bu op):=by
 cases op with
 |Eq=>
  intro A pI s Y H x y v u Q I rx ry ⟨hA,dx,dy,hx,hy,p⟩;rw[ZQ]at p;split at p
  .rename_i h;simp only[An]at h;exact(Hw I 5 dx dy x y v u X.A h.1 h.2 hx.plain hy.plain rx ry (by omega)).1 X.prog X.w X.xe _ ⟨.bl _,H,I,rfl,p _ H (Ax.refl H) rfl⟩
  .exact p.elim
 |NotEq=>
  intro A pI s Y H x y v u Q I rx ry ⟨hA,dx,dy,hx,hy,p⟩;rw[Y_4]at p;split at p
  .rename_i h;simp only[An]at h;exact(Hw I 5 dx dy x y v u X.A h.1 h.2 hx.plain hy.plain rx ry (by omega)).2.2 X.prog X.w X.xe _ ⟨.bl _,H,I,rfl,p _ H (Ax.refl H) rfl⟩
  .exact p.elim
 |Lt=>
  refine IU Zm λdx dy => ?_
  cases dx with
  |int i=>
   cases dy with
   |int j=>exact .inl ⟨i,j,rfl,rfl,rfl⟩
   |_=>exact .inr rfl
  |_=>exact .inr rfl
 |LtE=>
  refine IU Zn λdx dy => ?_
  cases dx with
  |int i=>
   cases dy with
   |int j=>exact .inl ⟨i,j,rfl,rfl,rfl⟩
   |_=>exact .inr rfl
  |_=>exact .inr rfl
 |Gt=>
  refine IU Zo λdx dy => ?_
  cases dx with
  |int i=>
   cases dy with
   |int j=>exact .inl ⟨i,j,rfl,rfl,rfl⟩
   |_=>exact .inr rfl
  |_=>exact .inr rfl
 |GtE=>
  refine IU Zp λdx dy => ?_
  cases dx with
  |int i=>
   cases dy with
   |int j=>exact .inl ⟨i,j,rfl,rfl,rfl⟩
   |_=>exact .inr rfl
  |_=>exact .inr rfl
 |In=>
  intro A pI s Y H x y v u Q I rx ry ⟨hA,dx,dy,hx,hy,p⟩;cases dy with
  |lst es=>
   rw[bK]at p;split at p
   .rename_i h;simp only[An]at h;obtain⟨a,xs,e,_,sq,r⟩:=hy.plain;subst e;cases ry;obtain⟨its,rv,pl,_⟩:=I.list sq;obtain⟨e,he,ha⟩:=Ji I (n:=5) X.A.in1 h.1 h.2 r rv hx.plain rx (by show X.A.units+1+5<Bo;omega)
    refine SeqAt.in_listAt e (GH pl) he ?_;rw[ha];exact⟨.bl _,H,I,rfl,p _ H (Ax.refl H) rfl⟩
   .exact p.elim
  |tup es=>
   rw[bJ]at p;split at p
   .rename_i h;simp only[An]at h;obtain⟨a,xs,e,_,sq,r⟩:=hy.plain;subst e;cases ry;obtain⟨its,rv,pl,_⟩:=I.tuple sq;obtain⟨e,he,ha⟩:=Ji I (n:=5) X.A.in1 h.1 h.2 r rv hx.plain rx (by show X.A.units+1+5<Bo;omega)
    refine SeqAt.in_tupleAt e pl he ?_;rw[ha];exact⟨.bl _,H,I,rfl,p _ H (Ax.refl H) rfl⟩
   .exact p.elim
  |dic kvs=>exact hy.plain.elim
  |_=>exact p.elim
 |NotIn=>
  intro A pI s Y H x y v u Q I rx ry ⟨hA,dx,dy,hx,hy,p⟩;cases dy with
  |lst es=>
   rw[Y_2]at p;split at p
   .rename_i h;simp only[An]at h;obtain⟨a,xs,e,_,sq,r⟩:=hy.plain;subst e;cases ry;obtain⟨its,rv,pl,_⟩:=I.list sq;obtain⟨e,he,ha⟩:=Ji I (n:=5) X.A.in1 h.1 h.2 r rv hx.plain rx (by show X.A.units+1+5<Bo;omega)
    refine SeqAt.notIn_listAt e (GH pl) he ?_;rw[ha];exact⟨.bl _,H,I,rfl,p _ H (Ax.refl H) rfl⟩
   .exact p.elim
  |tup es=>
   rw[Y_1]at p;split at p
   .rename_i h;simp only[An]at h;obtain⟨a,xs,e,_,sq,r⟩:=hy.plain;subst e;cases ry;obtain⟨its,rv,pl,_⟩:=I.tuple sq;obtain⟨e,he,ha⟩:=Ji I (n:=5) X.A.in1 h.1 h.2 r rv hx.plain rx (by show X.A.units+1+5<Bo;omega)
    refine SeqAt.notIn_tupleAt e pl he ?_;rw[ha];exact⟨.bl _,H,I,rfl,p _ H (Ax.refl H) rfl⟩
   .exact p.elim
  |_=>exact p.elim
 |Is=>
  intro A pI s Y H x y v u Q I rx ry ⟨hA,dx,dy,hx,hy,p⟩;cases dy with
  |non=>
   have ey:=hy.non_of;subst ey;refine WR pI s Y H _ _ v u Q I rx ry ⟨rfl,?_⟩;cases dx with
   |non=>
    have ex:=hx.non_of;subst ex;exact p _ H (Ax.refl H) rfl
   |exc=>exact p.elim
   |dic=>exact p.elim
   |_=>rw[Cr (Op hx (by simp))];exact p _ H (Ax.refl H) rfl
  |bl b=>
   cases dx with
   |bl a=>
    have ey:=hy.bl_of;have ex:=hx.bl_of;subst ex ey;cases rx;cases ry;refine wpAny_is_plain rfl ⟨.bl (a==b),H,I,?_,p _ H (Ax.refl H) rfl⟩;cases a <;> cases b <;> rfl
   |_=>exact p.elim
  |_=>cases dx <;> exact p.elim
 |IsNot=>
  intro A pI s Y H x y v u Q I rx ry ⟨hA,dx,dy,hx,hy,p⟩;cases dy with
  |non=>
   have ey:=hy.non_of;subst ey;refine We pI s Y H _ _ v u Q I rx ry ⟨rfl,?_⟩;cases dx with
   |non=>
    have ex:=hx.non_of;subst ex;exact p _ H (Ax.refl H) rfl
   |exc=>exact p.elim
   |dic=>exact p.elim
   |_=>rw[Cr (Op hx (by simp))];exact p _ H (Ax.refl H) rfl
  |bl b=>
   cases dx with
   |bl a=>
    have ey:=hy.bl_of;have ex:=hx.bl_of;subst ex ey;cases rx;cases ry;refine wpAny_isNot_plain rfl ⟨.bl (!(a==b)),H,I,?_,p _ H (Ax.refl H) rfl⟩;cases a <;> cases b <;> rfl
   |_=>exact p.elim
  |_=>cases dx <;> exact p.elim
end
section
variable{X:Cx}{CL:ClA}{W:XW}{a b c:Am}{fa fb fc:Rho->R D}{pos:Az}
theorem Ch.bind{f:D->R Ak}{Q:Ak->Hp->Prop}{Q':VK}(h:Ch W H (r.bind f) Q)(k : ∀ d v H',r = .ok d->Ax H H'->Rp H' v d->Ch W H' (f d) Q->Q' v H'):AZ Rp W H r Q':=by
 cases r with
 |ok d=>exact λv H2 s2 q=>k d v H2 rfl s2 q (Ch.same s2 h)
 |exn x=>exact h
 |bad=>exact h
theorem Ch.bindB{r:R Ak}{f:Ak->R Ak}{Q:Ak->Hp->Prop}{Q':Ak->Hp->Prop}(h:Ch W H (r.bind f) Q)(k : ∀ b H',r = .ok b->Ax H H'->Ch W H' (f b) Q->Q' b H'):Ch W H r Q':=by
 cases r with
 |ok d=>exact λH2 s2=>k d H2 rfl s2 (Ch.same s2 h)
 |exn x=>exact h
 |bad=>exact h
theorem FH.bind{Rp:Hp->Ac V->Ac D->Prop}{r:R (Ac D)}{f:Ac D->R D}{Q:VK}{Q':Ac V->Hp->Prop}(h:AZ Rq W H (r.bind f) Q)(k : ∀ d v H',r = .ok d->Ax H H'->Rp H' v d->AZ Rq W H' (f d) Q->Q' v H'):FH Rp W H r Q':=by
 cases r with
 |ok d=>exact λv H2 s2 q=>k d v H2 rfl s2 q (AZ.same s2 h)
 |exn x=>exact h
 |bad=>exact h
theorem IJ{f:Ak->R D}{Q:VK}(h:AZ Rq W H ((CY d).bind f) Q) : ∃ c,d = .bl c/\AZ Rq W H (f c) Q:=by
 cases d with
 |bl c=>exact⟨c,rfl,h⟩
 |_=>exact h.elim
theorem Xl(ha:ST X CL W a fa):SE X CL W (.UnaryOp .Not a pos) (λU=>(fa U).bind λx=>(CY x).bind λb => .ok (.bl (!b))):=λA=>PE.weak (Xd (ha A)) λY H Q ⟨hA,U,g,p⟩=>⟨hA,U,g,AZ.bind p λd v H1 _ s1 r1 p1=>by
 obtain⟨c,rfl,p2⟩:=IJ p1;exact⟨c,r1.bl_of,p2 _ H1 (Ax.refl H1) rfl⟩⟩
theorem OO{op}(ha:SE X CL W a fa):SE X CL W (.BoolOp op [a] pos) fa:=λA=>Xc (ha A)
theorem Xs{rest:Ac Am}(ha:SE X CL W a fa)(hb:SE X CL W (.BoolOp .And (b::rest) pos) fb):SE X CL W (.BoolOp .And (a::b::rest) pos) (λU=>(fa U).bind λx=>(CY x).bind λc=>if c=Ab then fb U else .ok (.bl Ae)):=
 λA=>PE.weak (WM (ha A) (hb A)) λY H Q ⟨hA,U,g,p⟩=>⟨hA,U,g,AZ.bind p λd v H1 _ s1 r1 p1=>by
  obtain⟨c,rfl,p2⟩:=IJ p1;refine⟨c,r1,?_⟩;cases c with
  |true=>exact⟨hA.same s1,U,g.same s1,p2⟩
  | false=>exact p2 _ H1 (Ax.refl H1) rfl⟩
theorem YB{rest:Ac Am}(ha:SE X CL W a fa)(hb:SE X CL W (.BoolOp .Or (b::rest) pos) fb):SE X CL W (.BoolOp .Or (a::b::rest) pos) (λU=>(fa U).bind λx=>(CY x).bind λc=>if c=Ab then .ok (.bl Ab) else fb U):=
 λA=>PE.weak (Zh (ha A) (hb A)) λY H Q ⟨hA,U,g,p⟩=>⟨hA,U,g,AZ.bind p λd v H1 _ s1 r1 p1=>by
  obtain⟨c,rfl,p2⟩:=IJ p1;refine⟨c,r1,?_⟩;cases c with
  |false=>exact⟨hA.same s1,U,g.same s1,p2⟩
  | true=>exact p2 _ H1 (Ax.refl H1) rfl⟩
theorem Uk(hu:X.A.units+64<Bo)(ha:ST X CL W a fa)(hb:ST X CL W b fb)(hc:ST X CL W c fc)(hm:GA [op,op'] [b,c]=Ae):SE X CL W (.Compare a [op,op'] [b,c] pos) (λU=>(fa U).bind λx=>(fb U).bind λy=>(Bu op x y).bind λz=>(CY z).bind λk=>if k=Ab then (fc U).bind λu=>Bu op' y u else .ok (.bl Ae)):=
 λA=>PE.weak (Uv (Hk hu op A) (Hk hu op' A) (ha A) (hb A) (hc A) hm) λY H Q ⟨hA,U,g,p⟩=>⟨hA,U,g,AZ.bind p λdx x H1 _ s1 r1 p1=>⟨hA.same s1,U,g.same s1,AZ.bind p1 λdy y H2 _ s2 r2 p2=>
  ⟨(hA.same s1).same s2,dx,dy,r1.same s2,r2,AZ.bind p2 λdz z H3 _ s3 r3 p3=>by
   obtain⟨k,rfl,p4⟩:=IJ p3;refine⟨k,r3,?_⟩;cases k with
   |false=>exact p4 _ H3 (Ax.refl H3) rfl
   | true=>exact⟨((hA.same s1).same s2).same s3,U,((g.same s1).same s2).same s3,AZ.bind p4 λdu u H4 _ s4 r4 p5=>⟨(((hA.same s1).same s2).same s3).same s4,dy,du,(r2.same s3).same s4,r4,p5⟩⟩⟩⟩⟩
theorem V2{xs:Ac D}{i:Aj}(h:Ee xs i = .ok d) : ∃ k,plD xs.length i=Aa k/\xs[k]? = Aa d:=by
 unfold Ee at h;split at h
 .rename_i k e;split at h
  .rename_i d' e';cases h;exact⟨k,e,e'⟩
  .cases h
 .cases h
theorem NN{xs:Ac D}{i:Aj}(h:Ee xs i = .exn x):AV:=by
 unfold Ee at h;split at h
 .split at h <;> cases h
 .cases h
theorem Ob{ds:Ac D}{i:Aj}(r:Reps K CL H A xs ds)(h:Ee ds i = .ok d) : ∃ v,atI xs i=Aa v/\Rep K CL H A v d:=by
 obtain⟨k,e,q⟩:=V2 h;obtain⟨v,hv,rv⟩:=r.get q;refine⟨v,?_,rv⟩;unfold atI;have:ixN xs.length i=Aa k:=by rw[r.length];exact e
 rw[this];exact hv
theorem Xo(hs:Lk b)(ha:ST X CL W a fa)(hb:ST X CL W b fb):SE X CL W (.Subscript a b pos) (λU=>(fa U).bind λx=>(fb U).bind λy=>EU x y):=
 λA=>PE.weak (Zi (r:=λx y H Q=>PL X.K x y H Q\/PK X.K x y H Q) (VU.or Yh) (ha A) (hb A) hs) λY H Q h=>by
  obtain⟨hA,U,g,h⟩:=op2 h;refine⟨hA,U,g,?_⟩;cases e:fa U with
  |bad=>rw[e]at h;exact h
  |exn x=>rw[e]at h;exact h
  |ok dx0=>
   rw[e]at h;intro x H1 s1 r1;obtain⟨hA1,U1,g1,h1⟩:=h x H1 s1 r1;refine⟨hA1,U1,g1,?_⟩;cases e1:fb U1 with
   |bad=>rw[e1]at h1;exact h1
   |exn x=>rw[e1]at h1;exact h1
   |ok dy0=>
    rw[e1]at h1;intro y H2 s2 r2;obtain⟨hA2,dx,dy,rx,ry,p⟩:=h1 y H2 s2 r2;cases dy with
    |int i=>
     have ey:=ry.int_of;subst ey;cases dx with
     |lst ds=>
      obtain⟨q,xs,rfl,sq,r⟩:=rx.lst_of;rw[ZY]at p;cases e2:Ee ds i with
      |ok d=>
       rw[e2]at p;obtain⟨v,hv,rv⟩:=Ob r e2;exact .inl ⟨q,xs,i,v,rfl,rfl,sq,hv,p v H2 (Ax.refl H2) rv⟩
      |exn x=>exact(NN e2).elim
      |bad=>rw[e2]at p;exact p.elim
     |tup ds=>
      obtain⟨q,xs,rfl,_,sq,r⟩:=rx.tup_of;rw[ZX]at p;cases e2:Ee ds i with
      |ok d=>
       rw[e2]at p;obtain⟨v,hv,rv⟩:=Ob r e2;exact .inr ⟨q,xs,i,v,rfl,rfl,sq,hv,p v H2 (Ax.refl H2) rv⟩
      |exn x=>exact(NN e2).elim
      |bad=>rw[e2]at p;exact p.elim
     |dic=>exact rx.plain.elim
     |_=>exact p.elim
    |_=>cases dx <;> first|exact p.elim|exact rx.plain.elim
theorem Xy:SA X CL W [] (λ_ => .ok []):=λA=>PA.weak EQ λY H Q ⟨hA,U,g,p⟩=>p [] H (Ax.refl H) trivial
theorem U_5(ha:SE X CL W a fa)(hs:SA X CL W es fs)(hst:At (a::es) X.env=(Ae,eval a X.env)::At es X.env):SA X CL W (a::es) (λU=>(fa U).bind λx=>(fs U).bind λxs => .ok (x::xs)):=
 λA=>PA.weak (Du (ha A) (hs A) hst) λY H Q ⟨hA,U,g,p⟩=>by
  dsimp only at p;refine⟨hA,U,g,?_⟩;cases e:fa U with
  |bad=>rw[e]at p;exact p
  |exn x=>rw[e]at p;exact p
  |ok d=>
   rw[e]at p;intro v H1 s1 r1;refine⟨hA.same s1,U,g.same s1,?_⟩;cases e1:fs U with
   |bad=>rw[R.bind_ok,e1]at p;exact p
   |exn x=>rw[R.bind_ok,e1]at p;exact λH2 s2=>p H2 (s1.trans s2)
   |ok ds=>
    rw[R.bind_ok,e1]at p;exact λvs H2 s2 r2=>p (v::vs) H2 (s1.trans s2) ⟨r1.same s2,r2⟩
theorem Xk(hs:SA X CL W es fs)(hz : ∀ U ds,fs U = .ok ds->ds.length<=100000):SE X CL W (.Tuple es k pos) (λU=>(fs U).bind λxs => .ok (.tup xs)):=
 λA=>PE.weak (Xa (hs A)) λY H Q ⟨hA,U,g,p⟩=>⟨hA,U,g,FH.bind p λds vs H1 e s1 r1 p1=>⟨by
  rw[r1.length,Ei];have:=hz U ds e;omega,λq hq=>p1 _ _ (FE hq _) (Jd (hA.same s1) hq r1)⟩⟩
noncomputable def Io(W:XW)(H:Hp)(r:R (Ao Aj))(Q:Ao Aj->Hp->Prop):Prop:=match r with
  |.ok o => ∀ H',Ax H H'->Q o H'
  |.exn x => ∀ H',Ax H H'->W x H'
  |.bad=>AV
theorem Io.bind{r:R (Ao Aj)}{f:Ao Aj->R D}{Q:VK}(h:AZ Rq W H (r.bind f) Q)(k : ∀ o H',r = .ok o->Ax H H'->AZ Rq W H' (f o) Q->Q' o H'):Io W H r Q':=by
 cases r with
 |ok d=>exact λH2 s2=>k d H2 rfl s2 (AZ.same s2 h)
 |exn x=>exact h
 |bad=>exact h
noncomputable def SO(X:Cx)(CL:ClA)(W:XW)(e:Ao Am)(f:Rho->R (Ao Aj)):Prop := ∀ A,PO X e (λY H Q=>AOk H A /\ ∃ U,Good X.K CL A U Y H/\Io W H (f U) Q)
theorem PO.weak{e:Ao Am}{t t':TO}(h:PO X e t)(k : ∀ Y H Q,t' Y H Q->t Y H Q):PO X e t':=λpI s Y H Q I q=>h pI s Y H Q I (k _ _ _ q)
theorem VJ:SO X CL W Ad (λ_ => .ok Ad):=λA=>PO.weak UU λY H Q ⟨hA,U,g,p⟩=>p H (Ax.refl H)
theorem VI(ha:ST X CL W a fa):SO X CL W (Aa a) (λU=>(fa U).bind λd=>(DF d).bind λi => .ok (Aa i)):=λA=>PO.weak (UT (ha A)) λY H Q ⟨hA,U,g,p⟩=>by
 dsimp only at p;refine⟨hA,U,g,?_⟩;cases e:fa U with
 |bad=>rw[e]at p;exact p
 |exn x=>rw[e]at p;exact p
 |ok d=>
  rw[e]at p;intro v H1 s1 r1;cases d with
  |int i=>exact⟨i,r1.int_of,p H1 s1⟩
  |_=>exact p.elim
end
section
variable{X:Cx}{CL:ClA}{W:XW}{a b c:Am}{fa fb fc:Rho->R D}{pos:Az}
def E2(K:Fg)(CL:ClA)(H:Hp)(A:Ag->Prop):Ac V->Ac D->Prop
 |[],[]=>FU
 |v::vs,d::ds=>B8 K CL H A v d/\E2 K CL H A vs ds
 |_,_=>AV
theorem E2.same{K:Fg}{H H':Hp}{A:Ag->Prop}(s:Ax H H') : ∀{vs:Ac V}{ds:Ac D},E2 K CL H A vs ds->E2 K CL H' A vs ds
 |[],[],h=>h
 |_::_,_::_,h=>⟨h.1.same s,E2.same s h.2⟩
 |[],_::_,h=>h.elim
 |_::_,[],h=>h.elim
theorem E2.one{vs:Ac V}(h:E2 K CL H A vs [d]) : ∃ v,vs=[v]/\B8 K CL H A v d:=by
 cases vs with
 |nil=>exact h.elim
 |cons v vs=>
  cases vs with
  |nil=>exact⟨v,rfl,h.1⟩
  |cons=>exact h.2.elim
noncomputable def SAT(X:Cx)(CL:ClA)(W:XW)(es:Ac Am)(f:Rho->R (Ac D)):Prop := ∀ A,PA X es (λY H Q=>AOk H A /\ ∃ U,Good X.K CL A U Y H/\FH (λH=>E2 X.K CL H A) W H (f U) Q)
theorem U_4:SAT X CL W [] (λ_ => .ok []):=λA=>PA.weak EQ λY H Q ⟨hA,U,g,p⟩=>p [] H (Ax.refl H) trivial
theorem Um(ha:ST X CL W a fa)(hs:SAT X CL W es fs)(hst:At (a::es) X.env=(Ae,eval a X.env)::At es X.env):SAT X CL W (a::es) (λU=>(fa U).bind λx=>(fs U).bind λxs => .ok (x::xs)):=
 λA=>PA.weak (Du (ha A) (hs A) hst) λY H Q ⟨hA,U,g,p⟩=>by
  dsimp only at p;refine⟨hA,U,g,?_⟩;cases e:fa U with
  |bad=>rw[e]at p;exact p
  |exn x=>rw[e]at p;exact p
  |ok d=>
   rw[e]at p;intro v H1 s1 r1;refine⟨hA.same s1,U,g.same s1,?_⟩;cases e1:fs U with
   |bad=>rw[R.bind_ok,e1]at p;exact p
   |exn x=>rw[R.bind_ok,e1]at p;exact λH2 s2=>p H2 (s1.trans s2)
   |ok ds=>
    rw[R.bind_ok,e1]at p;exact λvs H2 s2 r2=>p (v::vs) H2 (s1.trans s2) ⟨r1.same s2,r2⟩
noncomputable def Hy(X:Cx)(CL:ClA)(W:XW)(f:Ah)(g:Ac D->R D):Prop := ∀ A,GN X f (λxs H Q=>AOk H A /\ ∃ ds,E2 X.K CL H A xs ds/\AZ (λH=>Rep X.K CL H A) W H (g ds) Q)
theorem Ls{x:Ai}{id:Ce}{p:Az}{g:Ac D->R D}(hc:Hy X CL W (.builtin id) g)(hg:Gl X x)(hm:X.mg x=Ad)(hv:B4 x=Aa (.builtin id))(ha:SAT X CL W (e::es) fs)(hn:x ≠ "__name__")(hdb:(x==("__debug__" : Ai))=Ae)(he:At (e::es) X.env=(Ae,eval e X.env)::At es X.env)(hpl : ∀ pos,(B2 pos (At es X.env)).any (·.1)=Ae):SE X CL W (.Call (.Name x p) (e::es) [] pos) (λU=>(fs U).bind g):=λA=>PE.weak (Np (hc A) hg hm hv (ha A) hn hdb he (hpl _)) λY H Q ⟨hA,U,gd,q⟩=>⟨hA,U,gd,FH.bind q λds vs H1 _ s1 r1 p1=>⟨hA.same s1,ds,r1,p1⟩⟩
theorem Xr{x:Ai}{p:Az}{g:Ac D->R D}(hc:Hy X CL W (.type T) g)(hg:Gl X x)(hm:X.mg x=Ad)(hv:B4 x=Aa (.type T))(ha:SAT X CL W (e::es) fs)(hn:x ≠ "__name__")(hdb:(x==("__debug__" : Ai))=Ae)(he:At (e::es) X.env=(Ae,eval e X.env)::At es X.env)(hpl : ∀ pos,(B2 pos (At es X.env)).any (·.1)=Ae):SE X CL W (.Call (.Name x p) (e::es) [] pos) (λU=>(fs U).bind g):=λA=>PE.weak (MU (hc A) hg hm hv (ha A) hn hdb he (hpl _)) λY H Q ⟨hA,U,gd,q⟩=>⟨hA,U,gd,FH.bind q λds vs H1 _ s1 r1 p1=>⟨hA.same s1,ds,r1,p1⟩⟩
theorem Yo:Hy X CL W (.builtin "len") (biD .len):=by
  intro A pI s Y H xs us Q I r ⟨hA,ds,rs,p⟩
  match ds,rs,p with
  |[.lst es],rs,p=>
    obtain⟨v,rfl,rv⟩:=rs.one;obtain⟨q,ys,rfl,sq,ry⟩:=rv.lst_of;exact MH pI s Y H _ us Q I r ⟨q,ys,rfl,.inl sq,p _ H (Ax.refl H) (by rw[ry.length];rfl)⟩
  |[.tup es],rs,p=>
    obtain⟨v,rfl,rv⟩:=rs.one;obtain⟨q,ys,rfl,_,sq,ry⟩:=rv.tup_of;exact MH pI s Y H _ us Q I r ⟨q,ys,rfl,.inr sq,p _ H (Ax.refl H) (by rw[ry.length];rfl)⟩
  |[.str x],rs,p=>
    obtain⟨v,rfl,rv⟩:=rs.one;have e:=rv.str_of;subst e;have p':AZ (λH=>Rep X.K CL H A) W H (if CD x.length=Ab then .ok (.int x.length) else .bad) Q:=p
    split at p'
    · rename_i h;exact SR pI s Y H _ us Q I r ⟨x,rfl,Gg h,p' _ H (Ax.refl H) rfl⟩
    · exact p'.elim
  |[],_,p=>exact p.elim
  |[.non],_,p=>exact p.elim
  |[.bl _],_,p=>exact p.elim
  |[.int _],_,p=>exact p.elim
  |[.obj _ _],_,p=>exact p.elim
  |[.exc _ _],_,p=>exact p.elim
  |[.dic _],rs,p=>first|exact p.elim|(obtain⟨v,rfl,rv⟩:=rs.one;exact rv.plain.elim)
  |x::_::_,_,p=>cases x <;> exact p.elim
theorem UN:Hy X CL W (.type "tuple") (biD .tuple):=by
  intro A pI s Y H xs us Q I r ⟨hA,ds,rs,p⟩
  match ds,rs,p with
  |[.lst es],rs,p=>
    obtain⟨v,rfl,rv⟩:=rs.one;obtain⟨q,ys,rfl,sq,ry⟩:=rv.lst_of;exact Mu pI s Y H _ us Q I r ⟨q,ys,rfl,.inl ⟨sq,λl hl=>p _ _ (FE hl _) (Jd hA hl ry)⟩⟩
  |[.tup es],rs,p=>
    obtain⟨v,rfl,rv⟩:=rs.one;obtain⟨q,ys,rfl,na,sq,ry⟩:=rv.tup_of;exact Mu pI s Y H _ us Q I r ⟨q,ys,rfl,.inr ⟨sq,p _ H (Ax.refl H) ⟨q,ys,rfl,na,sq,ry⟩⟩⟩
  |[],_,p=>exact p.elim
  |[.non],_,p=>exact p.elim
  |[.bl _],_,p=>exact p.elim
  |[.int _],_,p=>exact p.elim
  |[.str _],_,p=>exact p.elim
  |[.obj _ _],_,p=>exact p.elim
  |[.exc _ _],_,p=>exact p.elim
  |[.dic _],rs,p=>first|exact p.elim|(obtain⟨v,rfl,rv⟩:=rs.one;exact rv.plain.elim)
  |x::_::_,_,p=>cases x <;> exact p.elim
end
section
variable{X:Cx}{CL:ClA}{W:XW}{a b c:Am}{fa fb fc:Rho->R D}{pos:Az}
theorem SB.congr{g:Rho->R Ak}(h:SB X CL W a f)(e : ∀ U,g U=f U):SB X CL W a g:=λA=>PT.weak (h A) λY H Q ⟨hA,U,q,p⟩=>⟨hA,U,q,by rw[<-e];exact p⟩
theorem Xv(ha:SB X CL W a f):SB X CL W (.UnaryOp .Not a pos) (λU=>(f U).bind λb => .ok (!b)):=λA=>PT.weak (W2 (ha A)) λY H Q ⟨hA,U,g,p⟩=>⟨hA,U,g,Ch.bindB p λb H1 _ s1 p1=>p1 H1 (Ax.refl H1)⟩
noncomputable def SW(X:Cx)(CL:ClA)(W:XW)(e:Am)(f:Rho->R Ak):Prop := ∀ A,PW X e (λY H Q=>AOk H A /\ ∃ U,Good X.K CL A U Y H/\Ch W H (f U) Q)
theorem PW.weak{t:TT}(h:PW X e t)(k : ∀ Y H Q,t' Y H Q->t Y H Q):PW X e t':=λwh pI s Y H Q I q=>h wh pI s Y H Q I (k _ _ _ q)
theorem SW.sb(h:SW X CL W a f):SB X CL W a f:=λA=>PW.pt (h A)
theorem SW.congr{g:Rho->R Ak}(h:SW X CL W a f)(e : ∀ U,g U=f U):SW X CL W a g:=λA=>PW.weak (h A) λY H Q ⟨hA,U,q,p⟩=>⟨hA,U,q,by rw[<-e];exact p⟩
theorem Vw(ha:SB X CL W a f):SW X CL W (.BoolOp .And [a] pos) f:=λA=>Vi (ha A)
theorem WG(ha:SB X CL W a f):SW X CL W (.BoolOp .Or [a] pos) f:=λA=>WZ (ha A)
theorem WH{g:Rho->R Ak}{rest:Ac Am}(ha:SB X CL W a f)(hb:SW X CL W (.BoolOp .And (b::rest) pos) g):SW X CL W (.BoolOp .And (a::b::rest) pos) (λU=>(f U).bind λc=>if c=Ab then g U else .ok Ae):=
 λA=>PW.weak (W1 (ha A) (hb A)) λY H Q ⟨hA,U,gd,p⟩=>⟨hA,U,gd,Ch.bindB p λc H1 _ s1 p1=>by
  cases c with
  |true=>exact⟨hA.same s1,U,gd.same s1,p1⟩
  | false=>exact p1 H1 (Ax.refl H1)⟩
theorem YV{g:Rho->R Ak}{rest:Ac Am}(ha:SB X CL W a f)(hb:SW X CL W (.BoolOp .Or (b::rest) pos) g):SW X CL W (.BoolOp .Or (a::b::rest) pos) (λU=>(f U).bind λc=>if c=Ab then .ok Ab else g U):=
 λA=>PW.weak (Zd (ha A) (hb A)) λY H Q ⟨hA,U,gd,p⟩=>⟨hA,U,gd,Ch.bindB p λc H1 _ s1 p1=>by
  cases c with
  |false=>exact⟨hA.same s1,U,gd.same s1,p1⟩
  | true=>exact p1 H1 (Ax.refl H1)⟩
theorem Xx(ho:OpD X CL W (BW op) g)(ha:ST X CL W a fa)(hb:ST X CL W b fb)(hm:Fc op b=Ae):SB X CL W (.Compare a [op] [b] pos) (λU=>(fa U).bind λx=>(fb U).bind λy=>(g x y).bind CY):=
 λA=>PT.weak (UQ (ho A) (ha A) (hb A) hm) λY H Q ⟨hA,U,gd,p⟩=>⟨hA,U,gd,Ch.bind p λdx x H1 _ s1 r1 p1=>⟨hA.same s1,U,gd.same s1,Ch.bind p1 λdy y H2 _ s2 r2 p2=>
  ⟨(hA.same s1).same s2,dx,dy,r1.same s2,r2,Ch.bind p2 λdz z H3 _ s3 r3 p3=>by
   cases dz with
   |bl k=>exact⟨k,r3,p3 H3 (Ax.refl H3)⟩
   | _=>exact p3.elim⟩⟩⟩
theorem Ul(hu:X.A.units+64<Bo)(ha:ST X CL W a fa)(hb:ST X CL W b fb)(hc:ST X CL W c fc)(hm:GA [op,op'] [b,c]=Ae):SB X CL W (.Compare a [op,op'] [b,c] pos) (λU=>(fa U).bind λx=>(fb U).bind λy=>(Bu op x y).bind λz=>(CY z).bind λk=>if k=Ab then (fc U).bind λu=>(Bu op' y u).bind CY else .ok Ae):=
  λA=>PT.weak (Uu (Hk hu op A) (Hk hu op' A) (ha A) (hb A) (hc A) hm) λY H Q ⟨hA,U,g,p⟩=>⟨hA,U,g,Ch.bind p λdx x H1 _ s1 r1 p1=>⟨hA.same s1,U,g.same s1,Ch.bind p1 λdy y H2 _ s2 r2 p2=>
    ⟨(hA.same s1).same s2,dx,dy,r1.same s2,r2,Ch.bind p2 λdz z H3 _ s3 r3 p3=>by
      cases dz with
      |bl k=>
        refine⟨k,r3,?_⟩;cases k with
        |false=>exact⟨Ae,rfl,p3 H3 (Ax.refl H3)⟩
        | true=>exact⟨((hA.same s1).same s2).same s3,U,((g.same s1).same s2).same s3,Ch.bind p3 λdu u H4 _ s4 r4 p5=>⟨(((hA.same s1).same s2).same s3).same s4,dy,du,(r2.same s3).same s4,r4,Ch.bind p5 λdv v H5 _ s5 r5 p6=>by
            cases dv with
            |bl k'=>exact⟨k',r5,p6 H5 (Ax.refl H5)⟩
            | _=>exact p6.elim⟩⟩
      | _=>exact p3.elim⟩⟩⟩
theorem Xu(ha:ST X CL W a fa)(he : ∀ whole,F6 a X.env whole=(do let v <-whole;GR a.pos;holding [v] (truthy v))):SB X CL W a (λU=>(fa U).bind BE):=
 λA=>PT.weak (Ut (ha A) he) λY H Q ⟨hA,U,g,p⟩=>⟨hA,U,g,Ch.bind p λd v H1 _ s1 r1 p1=>by
  cases d with
  |non=>
   have e:=r1.non_of;subst e;exact⟨Ae,rfl,p1 H1 (Ax.refl H1)⟩
  |bl b=>
   have e:=r1.bl_of;subst e;exact⟨b,rfl,p1 H1 (Ax.refl H1)⟩
  |int i=>
   have e:=r1.int_of;subst e;exact⟨_,rfl,p1 H1 (Ax.refl H1)⟩
  |str x=>
   have e:=r1.str_of;subst e;have p2:Ch W H1 (if CD x.length=Ab then .ok (x.length != 0) else .bad) Q:=p1
   split at p2
   .rename_i h;refine⟨_,⟨Gg h,rfl⟩,?_⟩;have e:((x.length:Aj) != 0)=(x.length != 0):=by
     rw[Dg];simp
    rw[e];exact p2 H1 (Ax.refl H1)
   .exact p2.elim
  |tup ds=>
   obtain⟨q,xs,rfl,_,sq,r⟩:=r1.tup_of;refine⟨_,.inr (.inl ⟨xs,sq,rfl⟩),?_⟩;have e:xs.isEmpty=ds.isEmpty:=by
    have:=r.length;cases xs <;> cases ds <;> first|rfl|cases this
   rw[e];exact p1 H1 (Ax.refl H1)
  |lst ds=>
   obtain⟨q,xs,rfl,sq,r⟩:=r1.lst_of;refine⟨_,.inl ⟨xs,sq,rfl⟩,?_⟩;have e:xs.isEmpty=ds.isEmpty:=by
    have:=r.length;cases xs <;> cases ds <;> first|rfl|cases this
   rw[e];exact p1 H1 (Ax.refl H1)
  | _=>exact p1.elim⟩
noncomputable def aT(K:Fg)(CL:ClA)(H:Hp)(A:Ag->Prop)(cls:Ah)(dx:Ao Ag)(x:Ex):Prop:=
 ∃ C,CL x.c=Aa C/\cls = .ref C/\(x.fs=[] \/ ∃ d vs,dx=Aa d /\ ¬ A d/\H d=Aa (.xd vs)/\Repf K CL H A vs x.fs)
noncomputable def Fj(K:Fg)(CL:ClA)(H:Hp)(cls:Ah)(dx:Ao Ag)(x:Ex):Prop := ∀ A,AOk H A->aT K CL H A cls dx x
end
noncomputable def BO(B:Ag->Prop)(U:Rho)(Y:L2.St):Ag->Prop:=λa=>B a \/ ∃(j:Af)(d:D),U[j]? = Aa (Aa (d,Ab))/\Y[j]? = Aa (Aa (.ref a))
structure Sx (K:Fg) (CL:ClA) (Fz:Ag->HO->Prop) (B:Ag->Prop) (U:Rho) (Y:L2.St) (H:Hp):Prop where
 good:Good K CL (BO B U Y) U Y H
 aok:AOk H (BO B U Y)
 new : ∀(j:Af)(d:D)(a:Ag),U[j]? = Aa (Aa (d,Ab))->Y[j]? = Aa (Aa (.ref a))->(∀ o,¬ Fz a o) /\ ¬ B a
 dis : ∀(i j:Af)(d e:D)(a:Ag),U[i]? = Aa (Aa (d,Ab))->U[j]? = Aa (Aa (e,Ab))->Y[i]? = Aa (Aa (.ref a))->Y[j]? = Aa (Aa (.ref a))->i=j
 same : ∀ b o,Fz b o->H b=Aa o
 len:U.length=Y.length
noncomputable def BN(K:Fg)(CL:ClA)(Fz:Ag->HO->Prop)(B:Ag->Prop)(W:XW)(o:O)(D:Ends):Prop:=match o with
  |.next U => ∀ Y H,Sx K CL Fz B U Y H->D.nx Y H
  |.brk U => ∀ Y H,Sx K CL Fz B U Y H->D.bk Y H
  |.cont U => ∀ Y H,Sx K CL Fz B U Y H->D.ct Y H
  |.ret d fr => ∀ v H,(∀ b o,Fz b o->H b=Aa o)->Rep K CL H B v d->(fr=Ab -> ∀ ds,d = .lst ds -> ∃ a xs,v = .ref a/\(∀ o,¬ Fz a o)/\H a=Aa (.lst xs)/\Reps K CL H (λb=>B b\/b=a) xs ds)->D.rt v H
  |.exn x _ => ∀ H,(∀ b o,Fz b o->H b=Aa o)->W x H
  |.bad=>AV
section
variable{K:Fg}{CL:ClA}{Fz Fy:Ag->HO->Prop}{B:Ag->Prop}{U:Rho}{Y:L2.St}{H H':Hp}
theorem Sx.mono(k : ∀ b o,Fz b o->Fy b o)(x:Sx K CL Fy B U Y H):Sx K CL Fz B U Y H:=⟨x.good,x.aok,λj d a h1 h2=>⟨λo z=>(x.new j d a h1 h2).1 o (k _ _ z),(x.new j d a h1 h2).2⟩,x.dis,λb o z=>x.same b o (k _ _ z),x.len⟩
theorem Sx.grow(x:Sx K CL Fz B U Y H)(s:Ax H H'):Sx K CL Fz B U Y H':=⟨x.good.same s,x.aok.same s,x.new,x.dis,λb o z=>s _ _ (x.same b o z),x.len⟩
theorem B7{l:Ac α}{v:α}(h:i≠j):(l.set i v)[j]? = l[j]? := by rw[BS h]
theorem FF{l:Ac α}{v w':α}(h:(l.set i v)[i]? = Aa w'):w'=v:=by
 rw[D8]at h;cases e:l[i]? with
 |none=>rw[e]at h;cases h
 |some x=>rw[e]at h;cases h;rfl
theorem Sx.set(x:Sx K CL Fz B U Y H){v:V}{d:D}(i:Af)(r:Rep K CL H (BO B U Y) v d):Sx K CL Fz B (U.set i (Aa (d,Ae))) (Y.set i (Aa v)) H:=by
 have own : ∀(j:Af)(e:D),(U.set i (Aa (d,Ae)))[j]? = Aa (Aa (e,Ab))->i≠j/\U[j]? = Aa (Aa (e,Ab)):=λj e h=>by
  by_cases hj:i=j
  .subst hj;have:=FF h;cases this
  .exact⟨hj,by rw[B7 hj]at h;exact h⟩
 have sub : ∀ a,BO B (U.set i (Aa (d,Ae))) (Y.set i (Aa v)) a->BO B U Y a:=λa h=>by
  rcases h with h|⟨j,e,h1,h2⟩
  .exact .inl h
  .obtain⟨hj,h1⟩:=own j e h1;rw[B7 hj]at h2;exact .inr ⟨j,e,h1,h2⟩
 refine⟨⟨λj e h => ?_,λj e h => ?_,by rw[AX,AX];exact x.len⟩,λa h=>x.aok a (sub a h),λj e a h1 h2 => ?_,λj k e f a h1 h2 h3 h4 => ?_,x.same,by rw[AX,AX];exact x.len⟩
 .by_cases hj:i=j
  .subst hj;have e1:=FF h;cases e1;refine⟨v,?_,Rep.sub sub _ r⟩;have hl:i<Y.length:=by
    rw[<-x.len];have:=(AT.mp h).1;simpa using this
   rw[Bm hl]
  .rw[B7 hj]at h;obtain⟨w',q,rw'⟩:=x.good.sh j e h;exact⟨w',by rw[B7 hj];exact q,Rep.sub sub _ rw'⟩
 .obtain⟨hj,h1⟩:=own j e h;obtain⟨a,xs,ds,q,z,ha,hh,rr⟩:=x.good.ow j e h1;exact⟨a,xs,ds,by rw[B7 hj];exact q,z,.inr ⟨j,e,h,by rw[B7 hj];exact q⟩,hh,Reps.sub sub _ rr⟩
 .obtain⟨hj,h1⟩:=own j e h1;rw[B7 hj]at h2;exact x.new j e a h1 h2
 .obtain⟨hj,h1⟩:=own j e h1;obtain⟨hk,h2⟩:=own k f h2;rw[B7 hj]at h3;rw[B7 hk]at h4;exact x.dis j k e f a h1 h2 h3 h4
end
section
variable{X:Cx}{CL:ClA}{W:XW}{pos:Az}{e:Am}{fe:Rho->R D}
noncomputable def SS(X:Cx)(CL:ClA)(W:XW)(st:AJ)(f:Rho->O):Prop := ∀ Fz B,PS X st (λD Y H => ∃ U,Sx X.K CL Fz B U Y H/\BN X.K CL Fz B W (f U) D)
noncomputable def SSs(X:Cx)(CL:ClA)(W:XW)(st:Ac AJ)(f:Rho->O):Prop := ∀ Fz B,PSs X st (λD Y H => ∃ U,Sx X.K CL Fz B U Y H/\BN X.K CL Fz B W (f U) D)
theorem PS.weak{e:AJ}{t t':TS}(h:PS X e t)(k : ∀ D Y H,t' D Y H->t D Y H):PS X e t':=λpI s Y H D I q=>h pI s Y H D I (k _ _ _ q)
theorem PSs.weak{e:Ac AJ}{t t':TS}(h:PSs X e t)(k : ∀ D Y H,t' D Y H->t D Y H):PSs X e t':=λpI s Y H D I q=>h pI s Y H D I (k _ _ _ q)
theorem BN.ex{f:D->O}{Q:VK}(x:Sx X.K CL Fz B U Y H)(h:BN X.K CL Fz B W (O.of U r f) D')(k : ∀ d v H',r = .ok d->Ax H H'->Rp H' v d->Sx X.K CL Fz B U Y H'->BN X.K CL Fz B W (f d) D'->Q v H'):AZ Rp W H r Q:=by
 cases r with
 |ok d=>exact λv H' s r=>k d v H' rfl s r (x.grow s) h
 |exn y=>exact λH' s=>h H' λb o z=>s _ _ (x.same b o z)
 |bad=>exact h
theorem BN.exB{r:R Ak}{f:Ak->O}{Q:Ak->Hp->Prop}(x:Sx X.K CL Fz B U Y H)(h:BN X.K CL Fz B W (O.of U r f) D')(k : ∀ b H',r = .ok b->Ax H H'->Sx X.K CL Fz B U Y H'->BN X.K CL Fz B W (f b) D'->Q b H'):Ch W H r Q:=by
 cases r with
 |ok d=>exact λH' s=>k d H' rfl s (x.grow s) h
 |exn y=>exact λH' s=>h H' λb o z=>s _ _ (x.same b o z)
 |bad=>exact h
theorem VF(he:SE X CL W e fe)(hs:CI e Ad pos.line X.env=pure Ae):SS X CL W (.Expr e pos) (λU=>O.of U (fe U) λ_ => .next U):=λFz B pI s Y H D I ⟨U,x,p⟩=>
 IZ (he (BO B U Y)) hs pI s Y H D I ⟨x.aok,U,x.good,BN.ex x p λd v H' _ s r x' q=>q Y H' x'⟩
theorem VC(he:SE X CL W e fe):SS X CL W (.Return (Aa e) pos) (λU=>O.of U (fe U) λd => .ret d Ae):=λFz B pI s Y H D I ⟨U,x,p⟩=>
 Jn (he (BO B U Y)) pI s Y H D I ⟨x.aok,U,x.good,BN.ex x p λd v H' _ s r x' q=>q v H' x'.same (Rep.sub (λa h => .inl h) _ r) λz=>nomatch z⟩
theorem OW{a b:Ac AJ}{fa fb:Rho->O}(hc:SB X CL W c fc)(ha:SSs X CL W a fa)(hb:SSs X CL W b fb):SS X CL W (.If c a b pos) (λU=>O.of U (fc U) λk=>if k=Ab then fa U else fb U):=λFz B pI s Y H D I ⟨U,x,p⟩=>
 Zf (hc (BO B U Y)) (ha Fz B) (hb Fz B) pI s Y H D I ⟨x.aok,U,x.good,BN.exB x p λk H' _ s x' q=>by
  cases k with
  |true=>exact⟨U,x',q⟩
  | false=>exact⟨U,x',q⟩⟩
theorem TM(g:Good K CL A U Y H):Good K CL (λ_=>AV) (shA U) Y H:=by
 have nz : ∀ a:Ag,(λ_:Ag=>AV) a->A a:=λ_ z=>z.elim
 refine⟨λi d e => ?_,λi d e => ?_,by rw[shA,Cb];exact g.len⟩
 .rw[shA,CZ]at e;cases q:U[i]? with
  |none=>rw[q]at e;cases e
  |some s=>
   rw[q]at e;have e':shS s=Aa (d,Ae):=AQ e;cases s with
   |none=>cases e'
   |some z=>
    obtain⟨x,b⟩:=z;cases b with
    |false=>
     cases e';obtain⟨v,h1,h2⟩:=g.sh i _ q;exact⟨v,h1,Rep.sub nz _ h2⟩
    |true=>
     cases x with
     |lst ds=>
      cases e';obtain⟨a,xs,ds',h1,h2,na,h3,h4⟩:=g.ow i _ q;cases h2;exact⟨.ref a,h1,a,xs,rfl,.inl λz=>z,.inl (.inl h3),Reps.sub nz _ h4⟩
     |_=>cases e'
 .rw[shA,CZ]at e;cases q:U[i]? with
  |none=>rw[q]at e;cases e
  |some s=>
   rw[q]at e;have e':shS s=Aa (d,Ab):=AQ e;cases s with
   |none=>cases e'
   |some z=>
    obtain⟨x,b⟩:=z;cases b with
    |false=>cases e'
    |true=>cases x <;> cases e'
theorem U_3(hc:SB X CL W c fc):SB X CL W c (λU=>fc (shA U)):=λA=>PT.weak (hc λ_=>AV) λY H Q ⟨hA,U,g,p⟩=>⟨λ_ z=>z.elim,shA U,TM g,p⟩
theorem VA:SSs X CL W [] (λU => .next U):=λFz B=>PSs.weak ND λD Y H ⟨U,x,p⟩=>p Y H x
theorem Uf{st:AJ}{rest:Ac AJ}{f g:Rho->O}(h1:SS X CL W st f)(h2:SSs X CL W rest g):SSs X CL W (st::rest) (λU=>(f U).seq g):=λFz B=>PSs.weak (GZ (h1 Fz B) (h2 Fz B)) λD Y H ⟨U,x,p⟩=>⟨U,x,by
 dsimp only at p;cases e:f U with
 |next U'=>rw[e]at p;exact λY' H' x'=>⟨U',x',p⟩
 |ret d b=>rw[e]at p;exact p
 |brk U'=>rw[e]at p;exact p
 |cont U'=>rw[e]at p;exact p
 |exn y U'=>rw[e]at p;exact p
 | bad=>rw[e]at p;exact p⟩
end
noncomputable def GP(K:Fg)(CL:ClA)(A:Ag->Prop)(ds:Ac D)(J:It)(H1:Hp):Prop := ∀ H,Kp A H1 H -> ∀ i:Af,(ds.length<=i->J.stop i H) /\ ∀ d,ds[i]? = Aa d->J.go i H /\ ∀ x H',J.yld i H x H'->Ax H H' /\ ∀ B,(∀ a,B a->A a\/H1 a=Ad)->AOk H B->Rep K CL H' B x d
noncomputable def DO(K:Fg)(CL:ClA)(A:Ag->Prop)(W:XW)(H:Hp)(r:R (Ac D))(Q:It->Hp->Prop):Prop:=match r with
  |.ok ds => ∀ J H',Ax H H'->GP K CL A ds J H'->ds.length<=sizeLine->Q J H'
  |.exn x => ∀ H',Ax H H'->W x H'
  |.bad=>AV
noncomputable def SI(X:Cx)(CL:ClA)(W:XW)(tg iter:Am)(f:Rho->R (Ac D)):Prop := ∀ A,PI X tg iter (λY H R=>AOk H A /\ ∃ U,Good X.K CL A U Y H/\DO X.K CL A W H (f U) R)
theorem PI.weak{t t':TI}(h:PI X tg e t)(k : ∀ Y H Q,t' Y H Q->t Y H Q):PI X tg e t':=λpI s Y H Q I q=>h pI s Y H Q I (k _ _ _ q)
section
variable{X:Cx}{CL:ClA}{W:XW}{pos p:Az}{tg e a b:Am}{fe fa fb:Rho->R D}
theorem DO.ex{f:D->R (Ac D)}{Q:It->Hp->Prop}{Q':VK}(h:DO X.K CL A W H (r.bind f) Q)(k : ∀ d v H',r = .ok d->Ax H H'->Rp H' v d->DO X.K CL A W H' (f d) Q->Q' v H'):AZ Rp W H r Q':=by
  cases r with
  | ok d=>exact λv H' s q=>k d v H' rfl s q (by
      have h':DO X.K CL A W H (f d) Q:=h;cases e:f d with
      |ok ds=>rw[e]at h';exact λJ H2 s2 y z=>h' J H2 (s.trans s2) y z
      |exn y=>rw[e]at h';exact λH2 s2=>h' H2 (s.trans s2)
      | bad=>rw[e]at h';exact h')
  |exn y=>exact h
  |bad=>exact h
theorem IM{x:V}(r:Rep K CL H1 A x d)(k:Kp A H1 H)(hB : ∀ a,B a->A a\/H1 a=Ad):Rep K CL H B x d:=by
 have r1:Rep K CL H1 (λa=>A a\/B a) x d:=Rep.wide (λa ha=>ha.elim .inl (hB a)) _ r
 have r2:Rep K CL H (λa=>A a\/B a) x d:=Rep.kp (λb o e na=>k b o e λz=>na (.inl z)) _ r1
 exact Rep.sub (λa ha => .inr ha) _ r2
theorem Td{ds:Ac D}(na : ¬ A q\/KL K q xs)(s:SqL K H q xs)(r:Reps K CL H A xs ds):GP K CL A ds (Itl K q) H:=λH' k i=>by
 have s':=Jk k na s;refine⟨λh=>⟨xs,s',by rw[r.length];exact h⟩,λd hd => ?_⟩
 obtain⟨v,hv,rv⟩:=r.get hd;exact⟨⟨xs,v,s',hv⟩,λx H2 ⟨e,y⟩=>by
  subst e;have:=y xs s';rw[hv]at this;cases this;exact⟨Ax.refl _,λB hB _=>IM rv k hB⟩⟩
theorem Ua{ds:Ac D}(na : ¬ A q\/KT K q xs)(s:SqT K H q xs)(r:Reps K CL H A xs ds):GP K CL A ds (Itt K q) H:=λH' k i=>by
 have s':=Jj k na s;refine⟨λh=>⟨xs,s',by rw[r.length];exact h⟩,λd hd => ?_⟩
 obtain⟨v,hv,rv⟩:=r.get hd;exact⟨⟨xs,v,s',hv⟩,λx H2 ⟨e,y⟩=>by
  subst e;have:=y xs s';rw[hv]at this;cases this;exact⟨Ax.refl _,λB hB _=>IM rv k hB⟩⟩
theorem Ni(lo:Aj)(n:Af):GP K CL A (Da lo n) (Itr lo n) H:=λH' k i=>by
 refine⟨λh=>by rw[Kq]at h;exact h,λd hd => ?_⟩
 obtain⟨h1,rfl⟩:=TN hd;exact⟨h1,λx H2 ⟨e,y⟩=>by
  subst e y;exact⟨Ax.refl _,λ_ _ _=>rfl⟩⟩
theorem W8{l:Am}{tl:TE}(hl:PE X l tl):PI X tg l (λY H R=>tl Y H λx H1=>(∃ a,x = .ref a/\(∃ xs,SqL X.K H1 a xs/\(xs.length<=sizeLine->R (Itl X.K a) H1))) \/ ∃ a,x = .ref a/\(∃ xs,SqT X.K H1 a xs/\(xs.length<=sizeLine->R (Itt X.K a) H1))):=by
 intro pI s Y H R I h;refine thn (hl pI s Y H _ I h) λv s1 ⟨x,H1,I1,r1,q1⟩ => ?_
 rcases q1 with ⟨a,e,xs,hq,q⟩|⟨a,e,xs,hq,q⟩
 .subst e;cases r1;obtain⟨its,rv,p,hz⟩:=I1.list hq;refine Dm p.isList ?_;refine⟨s1.heap.objs.size,[s1.heap.objs.size],_,_,H1,rfl,I1.kept (t':=s1.toks) λb o e=>Aq _ e,S7 a _,⟨_,AC _ rfl,rfl,rfl⟩,λb hb => ?_,q hz⟩
  have e:b=s1.heap.objs.size:=by simpa using hb
  subst e;exact I1.fpOk (AS _) (I1.hok.fresh (AS _))
 .subst e;cases r1;obtain⟨its,rv,p,hz⟩:=I1.tuple hq;refine E9 (show s1.heap.IsTuple a its.toArray from p) ?_
  refine⟨s1.heap.objs.size,[s1.heap.objs.size],_,_,H1,rfl,I1.kept (t':=s1.toks) λb o e=>Aq _ e,Te a _,⟨_,AC _ rfl,rfl,rfl⟩,λb hb => ?_,q hz⟩
  have e:b=s1.heap.objs.size:=by simpa using hb
  subst e;exact I1.fpOk (AS _) (I1.hok.fresh (AS _))
theorem bF(he:SE X CL W e fe):SI X CL W tg e (λU=>(fe U).bind CK):=λA=>PI.weak (W8 (he A)) λY H R ⟨hA,U,g,p⟩=>⟨hA,U,g,DO.ex p λd v H1 _ s1 r1 p1=>by
 cases d with
 |lst ds=>
  obtain⟨q,xs,rfl,na,sq,r⟩:=r1;exact .inl ⟨q,rfl,xs,sq,λhz=>p1 _ H1 (Ax.refl H1) (Td na sq r) (by rw[<-r.length];exact hz)⟩
 |tup ds=>
  obtain⟨q,xs,rfl,na,sq,r⟩:=r1;exact .inr ⟨q,rfl,xs,sq,λhz=>p1 _ H1 (Ax.refl H1) (Ua na sq r) (by rw[<-r.length];exact hz)⟩
 | _=>exact p1.elim⟩
theorem MS{ds:Ac D}(h:C3 lo hi = .ok ds):(-(2 ^ 62)<=lo/\lo<2 ^ 62)/\(-(2 ^ 62)<=hi/\hi<2 ^ 62)/\ds=Da lo (hi-lo).toNat/\(Da lo (hi-lo).toNat).length<=sizeLine:=by
 unfold C3 at h;split at h
 .rename_i q;cases h;exact⟨by omega,by omega,rfl,by rw[Kq,Ei];omega⟩
 .cases h
theorem Mz(h:C3 lo hi = .exn x):AV:=by
 unfold C3 at h;split at h <;> cases h
theorem Xi(ha:ST X CL W a fa)(hg:Gl X "range")(hm:X.mg "range" = Ad)(hs:At [a] X.env=[(Ae,eval a X.env)]):SI X CL W tg (.Call (.Name "range" p) [a] [] pos) (λU=>(fa U).bind λx=>(DF x).bind λj=>C3 0 j):=
 λA=>PI.weak (Tx hg hm (Du (ha A) EQ hs) hs) λY H R ⟨hA,U,g,q⟩=>⟨hA,U,g,DO.ex q λd v H1 _ s1 r1 p1=>by
  cases d with
  |int j=>
   have e:=r1.int_of;subst e;have p2:DO X.K CL A W H1 (C3 0 j) R:=p1;cases e2:C3 0 j with
   |ok ds=>
    rw[e2]at p2;obtain⟨_,h2,rfl,hz⟩:=MS e2;exact⟨j,rfl,h2.1,h2.2,p2 _ H1 (Ax.refl H1) (by rw[Gu];exact Ni 0 j.toNat) hz⟩
   |exn y=>exact(Mz e2).elim
   |bad=>rw[e2]at p2;exact p2.elim
  | _=>exact p1.elim⟩
theorem U_0(ha:ST X CL W a fa)(hb:ST X CL W b fb)(hg:Gl X "range")(hm:X.mg "range" = Ad)(hs:At [a,b] X.env=[(Ae,eval a X.env),(Ae,eval b X.env)])(hs2:At [b] X.env=[(Ae,eval b X.env)]):
  SI X CL W tg (.Call (.Name "range" p) [a,b] [] pos) (λU=>(fa U).bind λx=>(fb U).bind λy=>(DF x).bind λi=>(DF y).bind λj=>C3 i j):=
 λA=>PI.weak (Tw hg hm (Du (ha A) (Du (hb A) EQ hs2) (by rw[hs,hs2])) hs hs2) λY H R ⟨hA,U,g,q⟩=>⟨hA,U,g,DO.ex q λd v H1 _ s1 r1 p1=>⟨hA.same s1,U,g.same s1,DO.ex p1 λd2 v2 H2 _ s2 r2 p2=>by
  cases d with
  |int i=>
   cases d2 with
   |int j=>
    have e:=r1.int_of;have e':=r2.int_of
    subst e e';have p3:DO X.K CL A W H2 (C3 i j) R:=p2;cases e2:C3 i j with
    |ok ds=>
     rw[e2]at p3;obtain⟨h1,h2,rfl,hz⟩:=MS e2;exact⟨i,j,rfl,⟨h1.1,h1.2,h2.1,h2.2⟩,p3 _ H2 (Ax.refl H2) (Ni _ _) hz⟩
    |exn y=>exact(Mz e2).elim
    |bad=>rw[e2]at p3;exact p3.elim
   |_=>exact p2.elim
  | _=>exact p2.elim⟩⟩
theorem BN.exI{r:R (Ac D)}{f:Ac D->O}{Q:It->Hp->Prop}(x:Sx X.K CL Fz B U Y H)(h:BN X.K CL Fz B W (O.of U r f) D')(k : ∀ ds J H',r = .ok ds->Ax H H'->GP X.K CL A ds J H'->ds.length<=sizeLine->Sx X.K CL Fz B U Y H'->BN X.K CL Fz B W (f ds) D'->Q J H'):DO X.K CL A W H r Q:=by
 cases r with
 |ok d=>exact λJ H' s y z=>k d J H' rfl s y z (x.grow s) h
 |exn y=>exact λH' s=>h H' λb o z=>s _ _ (x.same b o z)
 |bad=>exact h
theorem BN.turn{Fy:Ag->HO->Prop}{o:O}{g:Rho->O}{N:L2.St->Hp->Prop}(hf : ∀ b q,Fz b q->Fy b q)(h:BN K CL Fz B W (o.turn g) D')(k : ∀ U' Y' H',Sx K CL Fy B U' Y' H'->BN K CL Fz B W (g U') D'->N Y' H'):BN K CL Fy B W o {D' with nx:=N,ct:=N,bk:=D'.nx}:=by
 cases o with
 |next U'=>exact λY' H' x=>k U' Y' H' x h
 |cont U'=>exact λY' H' x=>k U' Y' H' x h
 |brk U'=>exact λY' H' x=>h Y' H' (x.mono hf)
 |ret d b=>exact λv H' s r n=>h v H' (λb o z=>s b o (hf b o z)) r λz ds e=>let ⟨a,xs,h1,h2,h3⟩:=n z ds e;⟨a,xs,h1,λo q=>h2 o (hf a o q),h3⟩
 |exn y U'=>exact λH' s=>h H' (λb o z=>s b o (hf b o z))
 |bad=>exact h
noncomputable def D0(ts:Ac Af)(U:Rho):Rho:=ts.foldl (λU t=>U.set t Ad) U
noncomputable def GT(K:Fg)(CL:ClA)(as:D->Rho->R Rho)(g:TG):Prop := ∀ Fz B U Y H v d U' Q,Sx K CL Fz B U Y H->Rep K CL H (BO B U Y) v d->as d U = .ok U'->(∀ Y',Sx K CL Fz B U' Y' H->Q Y' H)->g v Y H Q
theorem VZ(i:Af):GT K CL (λd U => .ok (U.set i (Aa (d,Ae)))) (DE i):=λFz B U Y H v d U' Q x r e k=>by
 cases e;exact k _ (x.set i r)
theorem LB{K:Fg}{Fz:Ag->HO->Prop}{B:Ag->Prop}{H:Hp} : ∀(ts:Ac Af)(ds:Ac D)(vs:Ac V)(U U':Rho)(Y:L2.St)(Q:L2.St->Hp->Prop),Sx K CL Fz B U Y H->Reps K CL H (BO B U Y) vs ds->DB ts ds U=Aa U'->(∀ Y',Sx K CL Fz B U' Y' H->Q Y' H)->(ts.foldr (λt u=>FG (DE t) u) FL) vs Y H Q
 |[],[],[],U,U',Y,Q,x,_,e,k=>by
  cases e;exact⟨rfl,k Y x⟩
 |t::ts,d::ds,v::vs,U,U',Y,Q,x,r,e,k=>by
  refine⟨v,vs,rfl,LB ts ds vs _ U' _ Q (x.set t r.1) (Reps.sub (λa ha => ?_) ds r.2) e k⟩
  rcases ha with ha|⟨j,c,h1,h2⟩
  .exact .inl ha
  .by_cases hj:t=j
   .subst hj;have:=FF h1;cases this
   .rw[B7 hj]at h1 h2;exact .inr ⟨j,c,h1,h2⟩
 |[],_::_,_,_,_,_,_,_,_,e,_=>by cases e
 |_::_,[],_,_,_,_,_,_,_,e,_=>by cases e
 |[],[],_::_,_,_,_,_,_,r,_,_=>r.elim
 |_::_,_::_,[],_,_,_,_,_,r,_,_=>r.elim
theorem IK : ∀(ts:Ac Af)(ds:Ac D)(U U':Rho),DB ts ds U=Aa U'->ds.length=ts.length
 |[],[],_,_,_=>rfl
 |_::ts,_::ds,_,_,e=>congrArg (· + 1) (IK ts ds _ _ e)
 |[],_::_,_,_,e=>by cases e
 |_::_,[],_,_,e=>by cases e
theorem Oq(ts:Ac Af):GT K CL (E1 ts) (HI K ts.length (ts.foldr (λt u=>FG (DE t) u) FL)):=λFz B U Y H v d U' Q x r e k=>by
 cases d with
 |tup ds=>
  obtain⟨a,xs,rfl,na,sq,rs⟩:=r;rw[M7]at e;cases e2:DB ts ds U with
  |none=>rw[e2]at e;cases e
  |some U2=>
   rw[e2]at e;cases e;exact⟨a,xs,rfl,sq,by rw[rs.length];exact IK _ _ _ _ e2,LB ts ds xs U _ Y Q x rs e2 k⟩
 |_=>cases e
theorem OK{body:Ac AJ}{fbd:Rho->O}{g:TG}(hp:EB (model X.prog X.w) X.A X.env X.xe)(hc:X.calm=Ab)(hGT:GT X.K CL as g)(hg:PG X tg g)(hit:SI X CL W tg iter fi)(hb:SSs X CL W body fbd)(hs : ∀ x,Ca iter X.env x=pure x)(hax : ∀ d U x,as d U ≠ .exn x):SS X CL W (.For tg iter body [] pos) (λU=>O.of U (fi U) λxs=>E5 (λx U'=>O.of U' (as x U') fbd) xs U):=λFz B pI s Y H D I ⟨U,x,p⟩=>by
 refine W4 hp hc (hit (BO B U Y)) hg (tb:=λD Y H => ∃ Fy,(λD Y H => ∃ U,Sx X.K CL Fy B U Y H/\BN X.K CL Fy B W (fbd U) D) D Y H) (λpI s Y H D I ⟨Fy,q⟩=>hb Fy B pI s Y H D I q) hs pI s Y H D I ⟨x.aok,U,x.good,BN.exI x p λds J H1 _ s1 y _ x1 q => ?_⟩
 let Fy:Ag->HO->Prop:=λb o=>H1 b=Aa o /\ ¬ ∃(j:Af)(d:Ov.D),U[j]? = Aa (Aa (d,Ab))/\Y[j]? = Aa (Aa (.ref b))
 have hfy : ∀ b o,Fz b o->Fy b o:=λb o z=>⟨x1.same b o z,λ⟨j,d,h1,h2⟩=>(x1.new j d b h1 h2).1 o z⟩
 have xy:Sx X.K CL Fy B U Y H1:=⟨x1.good,x1.aok,λj d a h1 h2=>⟨λo z=>z.2 ⟨j,d,h1,h2⟩,(x1.new j d a h1 h2).2⟩,x1.dis,λb o z=>z.1,x1.len⟩
 refine⟨λk m Y' H'=>m=ds.length-k/\k<=ds.length /\ ∃ U',Sx X.K CL Fy B U' Y' H'/\BN X.K CL Fz B W (E5 (λx U'=>O.of U' (as x U') fbd) (ds.drop k) U') D,⟨ds.length,by simp,FS _,U,xy,q⟩,?_⟩
 rintro k m Y' H' ⟨rfl,hk,U',x',q'⟩;have kp:Kp (BO B U Y) H1 H':=λb o e na=>x'.same b o ⟨e,λz=>na (.inr z)⟩
 obtain⟨yst,ygo⟩:=y H' kp k;by_cases hlt:k<ds.length
 .have hd:ds[k]? = Aa ds[k]:=BJ hlt;obtain⟨hgo,hyl⟩:=ygo _ hd;refine .inr ⟨hgo,λY'' H'' => ∃ U'',Sx X.K CL Fy B U'' Y'' H''/\BN X.K CL Fz B W (E5 (λx U'=>O.of U' (as x U') fbd) (ds.drop (k+1)) U'') D,λY'' H'' z=>⟨ds.length-(k+1),by omega,rfl,hlt,z⟩,λv H2 hv => ?_⟩
  obtain⟨e2,rv⟩:=hyl v H2 hv;rw[DQ hlt]at q';have q2:BN X.K CL Fz B W ((O.of U' (as ds[k] U') fbd).turn (E5 (λx U'=>O.of U' (as x U') fbd) (ds.drop (k+1)))) D:=q'
  have rv':Rep X.K CL H2 (BO B U' Y') v ds[k]:=rv _ (λa ha=>by
    rcases ha with ha|⟨j,d,h1,h2⟩
    .exact .inl (.inl ha)
    .cases e:H1 a with
     |none=>exact .inr rfl
     |some o=>
      by_cases ho : ∃(j:Af)(d:Ov.D),U[j]? = Aa (Aa (d,Ab))/\Y[j]? = Aa (Aa (.ref a))
      .exact .inl (.inr ho)
      .exact absurd ⟨e,ho⟩ ((x'.new j d a h1 h2).1 o)) x'.aok
  cases ea:as ds[k] U' with
  |bad=>rw[ea]at q2;exact q2.elim
  |exn z=>exact absurd ea (hax _ _ z)
  |ok U2=>
   rw[ea,O.of_ok]at q2;exact hGT Fy B U' Y' H2 v ds[k] U2 _ (x'.grow e2) rv' ea λY3 x3=>⟨Fy,U2,x3,BN.turn hfy q2 λU3 Y3 H3 x3 q3=>⟨U3,x3,q3⟩⟩
 .have hk':ds.length<=k:=by omega
  rw[QL hk']at q';exact .inl ⟨yst hk',q' Y' H' (x'.mono hfy)⟩
end
section
variable{X:Cx}{CL:ClA}{W:XW}{a b c:Am}{fa fb fc:Rho->R D}{pos:Az}
noncomputable def tyK:Ki->Ao Ce
 |.int=>Aa "int"
 |.bool=>Aa "bool"
 |.str=>Aa "str"
 |.list=>Aa "list"
 |.tuple=>Aa "tuple"
 |_=>Ad
noncomputable def Lz:D->Ak
 |.obj _ _=>Ae
 |.exc _ _=>Ae
 |.dic _=>Ae
 |_=>Ab
theorem Yj{k:Ki}{E:Ah->Al->Prop}(I:Inv X pI Y H s)(r:B8 X.K CL H A v d)(q:A7 v u)(hT:tyK k=Aa T)(hd:Lz d=Ab)(h : ∀ s',Inv X pI Y H s'->Q (.bool (kiD up k d)) s'):
  AE (model X.prog X.w) X.A (call (.builtin "isinstance") [u,.type T]) Q E s:=by
 have r':=r.plain;have it:=λt=>h _ (I.tok t)
 cases d with
 |obj=>cases hd
 |exc=>cases hd
 |dic=>cases hd
 |non=>
  cases r';cases q;cases k <;> simp only[tyK]at hT <;> cases hT
  .exact IsiPair.NoneType_int (it _)
  .exact IsiPair.NoneType_bool (it _)
  .exact IsiPair.NoneType_str (it _)
  .exact IsiPair.NoneType_list (it _)
  .exact IsiPair.NoneType_tuple (it _)
 |bl b=>
  cases r';cases q;cases k <;> simp only[tyK]at hT <;> cases hT
  .exact IsiPair.bool_int (h _ I)
  .exact IsiPair.bool_bool (h _ I)
  .exact IsiPair.bool_str (it _)
  .exact IsiPair.bool_list (it _)
  .exact IsiPair.bool_tuple (it _)
 |int i=>
  cases r';obtain⟨t,rfl⟩:=q;cases k <;> simp only[tyK]at hT <;> cases hT
  .exact IsiPair.int_int (h _ I)
  .exact IsiPair.int_bool (it _)
  .exact IsiPair.int_str (it _)
  .exact IsiPair.int_list (it _)
  .exact IsiPair.int_tuple (it _)
 |str x=>
  cases r';obtain⟨t,rfl⟩:=q;cases k <;> simp only[tyK]at hT <;> cases hT
  .exact IsiPair.str_int (it _)
  .exact IsiPair.str_bool (it _)
  .exact IsiPair.str_str (h _ I)
  .exact IsiPair.str_list (it _)
  .exact IsiPair.str_tuple (it _)
 |tup ds=>
  obtain⟨p,xs,rfl,_,sq,rr⟩:=r';obtain⟨its,rv,pt,_⟩:=I.tuple sq;cases q;have pt':s.heap.IsTuple p its.toArray:=pt;cases k <;> simp only[tyK]at hT <;> cases hT
  .exact IsiPair.isTuple_int pt' (λ_ _ e=>e) (it _)
  .exact IsiPair.isTuple_bool pt' (λ_ _ e=>e) (it _)
  .exact IsiPair.isTuple_str pt' (λ_ _ e=>e) (it _)
  .exact IsiPair.isTuple_list pt' (λ_ _ e=>e) (it _)
  .exact IsiPair.isTuple_tuple pt' (λ_ _ e=>e) (h _ I)
 |lst ds=>
  obtain⟨p,xs,rfl,_,sq,rr⟩:=r';obtain⟨its,rv,pl,_⟩:=I.list sq;cases q;have pt':s.heap.IsList p its.toArray:=GH pl;cases k <;> simp only[tyK]at hT <;> cases hT
  .exact IsiPair.isList_int pt' (λ_ _ e=>e) (it _)
  .exact IsiPair.isList_bool pt' (λ_ _ e=>e) (it _)
  .exact IsiPair.isList_str pt' (λ_ _ e=>e) (it _)
  .exact IsiPair.isList_list pt' (λ_ _ e=>e) (h _ I)
  .exact IsiPair.isList_tuple pt' (λ_ _ e=>e) (it _)
theorem TH{k:Ki}{Q:VK}(hT:tyK k=Aa T)(p:AZ Rp W H (FM up [k] d) Q):Lz d=Ab/\AZ Rp W H (.ok (.bl (kiD up k d))) Q:=by
 cases k <;> simp only[tyK]at hT <;> cases hT <;> cases d <;> first|exact p.elim|exact⟨rfl,by simpa using p⟩
theorem Xn{k:Ki}{x:Ai}{p p2:Az}(hT:tyK k=Aa T)(hg:Gl X "isinstance")(hm:X.mg "isinstance" = Ad)(hg2:Gl X x)(hm2:X.mg x=Ad)(hv:B4 x=Aa (.type T))(hn:x ≠ "__name__")(hdb:(x==("__debug__" : Ai))=Ae)(ha:ST X CL W a fa)(he:At [a,.Name x p2] X.env=(Ae,eval a X.env)::At [.Name x p2] X.env):SE X CL W (.Call (.Name "isinstance" p) [a,.Name x p2] [] pos) (λU=>(fa U).bind λx=>FM up [k] x):=λA=>
 PE.weak (Np (r:=λxs H Q => ∃ y d,xs=[y,.ty T]/\B8 X.K CL H A y d/\Lz d=Ab/\Q (.bl (kiD up k d)) H) (λpI s Y H xs us Q I r ⟨y,d,e,ry,hd,q⟩=>by
   subst e;obtain⟨u,w',rfl,r1,r2⟩:=Yz r;cases r2;exact Yj I ry r1 hT hd λs' I'=>⟨.bl _,H,I',rfl,q⟩)
  hg hm boot_isinstance (Du (ha A) (Du (UX (v := .ty T) hg2 hm2 hv rfl hn hdb) EQ rfl) he) (by decide) (by decide) he rfl) λY H Q ⟨hA,U,g,q⟩=>⟨hA,U,g,AZ.bind q λd v H1 _ s1 r1 p1=>by
   obtain⟨hd,p2⟩:=TH hT p1;exact⟨v,d,rfl,r1,hd,p2 _ H1 (Ax.refl H1) rfl⟩⟩
theorem UE{b:Ak}{A':AN}{E:Ah->Al->Prop}{Q:Ak->Al->Prop}(r:Rep X.K CL H A v d)(q:A7 v u)(h:EV d = .ok b)(hq:Q b s):AE (model prog w) A' (truthy u) Q E s:=by
 cases d with
 |non=>
  cases r;cases q;cases h;exact truthy_none hq
 |bl k=>
  cases r;cases q;cases h;exact BX hq
 |int i=>
  cases r;obtain⟨t,rfl⟩:=q;cases h;exact truthy_int hq
 |_=>cases h
theorem ME : ∀{ds:Ac D}{b:Ak},Ew ds = .ok b->(∀ j,j<ds.length -> ∃ c,EV (ds.getD j .non) = .ok c)/\b=(B1 ds.length).all λj=>match EV (ds.getD j .non) with
  |.ok c=>c
  |_=>Ae
 |[],b,h=>by cases h;exact⟨λj hj=>absurd hj (Q3 _),rfl⟩
 |d::ds,b,h=>by
  rw[KW]at h;cases e:EV d with
  |bad=>rw[e]at h;cases h
  |exn x=>rw[e]at h;cases h
  |ok c=>
   rw[e,R.bind_ok]at h;cases e2:Ew ds with
   |bad=>rw[e2]at h;cases h
   |exn x=>rw[e2]at h;cases h
   |ok c2=>
    rw[e2,R.bind_ok]at h;cases h;obtain⟨h1,h2⟩:=ME e2;refine⟨λj hj => ?_,?_⟩
    .cases j with
     |zero=>exact⟨c,e⟩
     |succ j=>exact h1 j (by simpa using hj)
    .rw[Cf,Ms,h2];show (c&&_)=((match EV d with | .ok c=>c|_=>Ae)&&_)
     rw[e];rfl
theorem Nl : ∀(ds:Ac D)(a z:Aj),FJ a ds = .ok z->(∀ j,j<ds.length -> ∃ i,ds.getD j .non = .int i)/\z=a+GC (λj=>match ds.getD j .non with
  |.int i=>i
  | _=>0) ds.length
 |[],a,z,h=>by cases h;exact⟨λj hj=>absurd hj (Q3 _),by simp[GC]⟩
 |.int i::ds,a,z,h=>by
  obtain⟨h1,h2⟩:=Nl ds (a+i) z h;refine⟨λj hj => ?_,?_⟩
  .cases j with
   |zero=>exact⟨i,rfl⟩
   |succ j=>exact h1 j (by simpa using hj)
  .have key : ∀ n,GC (λj=>match (D.int i::ds).getD j .non with | .int i=>i|_=>0) (n+1)=i+GC (λj=>match ds.getD j .non with | .int i=>i|_=>0) n:=by
    intro n
    induction n with
    |zero=>show (0:Aj)+i=i+0;omega
    |succ n ih=>
     show GC _ (n+1)+(match ds.getD n .non with | .int i=>i|_=>0)=i+(GC _ n+(match ds.getD n .non with | .int i=>i|_=>0))
     rw[ih];omega
   rw[h2,Cf,key];omega
 |.non::_,_,_,h=>by cases h
 |.bl _::_,_,_,h=>by cases h
 |.str _::_,_,_,h=>by cases h
 |.tup _::_,_,_,h=>by cases h
 |.lst _::_,_,_,h=>by cases h
 |.obj _ _::_,_,_,h=>by cases h
 |.exc _ _::_,_,_,h=>by cases h
 |.dic _::_,_,_,h=>by cases h
theorem Lg{ds:Ac D}(r:Reps X.K CL H A0 xs ds)(rv:AU xs its){v:Ah}(h:its.toArray[j]? = Aa v):j<ds.length /\ ∃ x,Rep X.K CL H A0 x (ds.getD j .non)/\A7 x v:=by
 have h':its[j]? = Aa v:=by simpa using h
 obtain⟨hj,e⟩:=AT.mp h';obtain⟨x,rx,q⟩:=Gj r rv hj;have l1:=rv.length;have l2:=r.length
 exact⟨by omega,x,rx,by rw[<-e];exact q⟩
theorem LH{o:AB}(k : ∀ b q,b ∉ [h.objs.size]->(h.push o).get? b=Aa q->h'.get? b=Aa q) : ∀ b q,h.get? b=Aa q->h'.get? b=Aa q:=λb q e=>k b q (by
 intro z;have:=A6.mp z;rw[this]at e;exact absurd (Au e) (A8 _)) (Aq _ e)
theorem Yp(hc:X.calm=Ab):Hy X CL W (.builtin "all") (biD .all):=by
  intro A pI s Y H xs us Q I r ⟨hA,ds,rs,p⟩
  match ds,rs,p with
  |[.lst es],rs,p=>
    obtain⟨v,rfl,rv⟩:=rs.one;obtain⟨q,ys,e,_,sq,ry⟩:=rv.plain;subst e;obtain⟨u,rfl,ru⟩:=G4 r;cases ru;rw[Z_6]at p;cases e1:Ew es with
    |bad=>rw[e1]at p;exact p.elim
    |exn x=>
      exfalso
      have : ∀(es:Ac D) x,Ew es ≠ .exn x:=by
        intro es
        induction es with
        |nil=>intro x h;cases h
        |cons d ds ih=>
          intro x h;rw[KW]at h;cases e:EV d with
          |bad=>rw[e]at h;cases h
          |exn y=>cases d <;> cases e
          |ok c=>
            rw[e,R.bind_ok]at h;cases e2:Ew ds with
            |bad=>rw[e2]at h;cases h
            |exn y=>exact ih y e2
            |ok c2=>rw[e2]at h;cases h
      exact this es x e1
    |ok b=>
      rw[e1,R.bind_ok]at p;obtain⟨h1,h2⟩:=ME e1;obtain⟨its,rvv,pl,_⟩:=I.list sq;have hlt:q<s.heap.objs.size:=by obtain⟨o,n,e,_⟩:=pl;exact Au e
      have hl:its.toArray.size=es.length:=by rw[Av,<-rvv.length,ry.length]
      refine call_all_walk (Dm (GH pl) ⟨s.heap.objs.size,_,_,_,_,_,(λj=>match EV (es.getD j .non) with | .ok c=>c|_=>Ae),rfl,Sk (A:=X.A.in1) (I.ok.hd hc) s.heap.objs.size q (AI hlt) its.toArray,⟨⟨_,AC _ rfl,rfl,rfl⟩,(GH pl).push _⟩,λj v s' Q' E' hv hQ => ?_,λh' tk k => ?_⟩)
      · obtain⟨hj,x,rx,qx⟩:=Lg ry rvv hv;obtain⟨c,ec⟩:=h1 j hj;exact UE rx qx ec (by dsimp only at hQ;rw[ec]at hQ;exact hQ)
      · rw[hl,<-h2];exact⟨.bl b,H,I.kept (LH k),rfl,p _ H (Ax.refl H) rfl⟩
  |[],_,p=>exact p.elim
  |[.non],_,p=>exact p.elim
  |[.bl _],_,p=>exact p.elim
  |[.int _],_,p=>exact p.elim
  |[.str _],_,p=>exact p.elim
  |[.tup _],_,p=>exact p.elim
  |[.obj _ _],_,p=>exact p.elim
  |[.exc _ _],_,p=>exact p.elim
  |[.dic _],_,p=>exact p.elim
  |x::_::_,_,p=>cases x <;> exact p.elim
theorem NJ(hc:X.calm=Ab){Q:VK}{es:Ac D}(I:Inv X pI Y H s)(sq:SqL X.K H q ys\/SqT X.K H q ys)(ry:Reps X.K CL H A0 ys es)(p:AZ (λH=>Rep X.K CL H A) W H ((FJ 0 es).bind λb => .ok (.int b)) Q):AE (model X.prog X.w) X.A (call (.builtin "sum") [.ref q]) (EP X pI Y Q) X.xe s:=by
 cases e1:FJ 0 es with
 |bad=>rw[e1]at p;exact p.elim
 |exn x=>
  exfalso
  have : ∀(es:Ac D)(a:Aj) x,FJ a es ≠ .exn x:=by
   intro es
   induction es with
   |nil=>intro a x h;cases h
   |cons d ds ih=>
    intro a x h;cases d <;> first|exact ih _ _ h|cases h
  exact this es 0 x e1
 |ok z=>
  rw[e1,R.bind_ok]at p;obtain⟨h1,h2⟩:=Nl es 0 z e1;rw[Fw]at h2;rcases sq with sq|sq
  .obtain⟨its,rvv,pl,_⟩:=I.list sq;have hlt:q<s.heap.objs.size:=by obtain⟨o,n,e,_⟩:=pl;exact Au e
   have hl:its.toArray.size=es.length:=by rw[Av,<-rvv.length,ry.length]
   refine Sn (Dm (GH pl) ⟨s.heap.objs.size,_,_,_,_,_,(λj=>match es.getD j .non with | .int i=>i|_=>0),rfl,Sk (A:=X.A.in1) (I.ok.hd hc) s.heap.objs.size q (AI hlt) its.toArray,⟨⟨_,AC _ rfl,rfl,rfl⟩,(GH pl).push _⟩,λb hb => ?_,λj v hv => ?_,λh' tk t' k => ?_⟩)
   .show b<(s.heap.push _).objs.size;rw[By];rcases AK.mp hb with rfl|hb
    .exact Dz _
    .rw[A6.mp hb];exact Cs hlt
   .obtain⟨hj,x,rx,qx⟩:=Lg ry rvv hv;obtain⟨i,ei⟩:=h1 j hj;rw[ei]at rx;dsimp only;rw[ei];cases rx;exact qx
   .rw[hl,<-h2];exact⟨.int z,H,I.kept (LH k),⟨_,rfl⟩,p _ H (Ax.refl H) rfl⟩
  .obtain⟨its,rvv,pl,_⟩:=I.tuple sq;have pl':s.heap.IsTuple q its.toArray:=pl;have hlt:q<s.heap.objs.size:=by obtain⟨o,e,_⟩:=pl';exact Au e
   have hl:its.toArray.size=es.length:=by rw[Av,<-rvv.length,ry.length]
   refine Sn (E9 pl' ⟨s.heap.objs.size,_,_,_,_,_,(λj=>match es.getD j .non with | .int i=>i|_=>0),rfl,Walks.tuple (A:=X.A.in1) (I.ok.hd hc) s.heap.objs.size q (AI hlt) its.toArray,⟨⟨_,AC _ rfl,rfl,rfl⟩,pl'.push _⟩,λb hb => ?_,λj v hv => ?_,λh' tk t' k => ?_⟩)
   .show b<(s.heap.push _).objs.size;rw[By];rcases AK.mp hb with rfl|hb
    .exact Dz _
    .rw[A6.mp hb];exact Cs hlt
   .obtain⟨hj,x,rx,qx⟩:=Lg ry rvv hv;obtain⟨i,ei⟩:=h1 j hj;rw[ei]at rx;dsimp only;rw[ei];cases rx;exact qx
   .rw[hl,<-h2];exact⟨.int z,H,I.kept (LH k),⟨_,rfl⟩,p _ H (Ax.refl H) rfl⟩
theorem Yn(hc:X.calm=Ab):Hy X CL W (.builtin "sum") (biD .sum):=by
  intro A pI s Y H xs us Q I r ⟨hA,ds,rs,p⟩
  match ds,rs,p with
  |[.lst es],rs,p=>
    obtain⟨v,rfl,rv⟩:=rs.one;obtain⟨q,ys,e,_,sq,ry⟩:=rv.plain;subst e;obtain⟨u,rfl,ru⟩:=G4 r;cases ru;exact NJ hc I (.inl sq) ry p
  |[.tup es],rs,p=>
    obtain⟨v,rfl,rv⟩:=rs.one;obtain⟨q,ys,e,_,sq,ry⟩:=rv.plain;subst e;obtain⟨u,rfl,ru⟩:=G4 r;cases ru;exact NJ hc I (.inr sq) ry p
  |[],_,p=>exact p.elim
  |[.non],_,p=>exact p.elim
  |[.bl _],_,p=>exact p.elim
  |[.int _],_,p=>exact p.elim
  |[.str _],_,p=>exact p.elim
  |[.obj _ _],_,p=>exact p.elim
  |[.exc _ _],_,p=>exact p.elim
  |[.dic _],_,p=>exact p.elim
  |x::_::_,_,p=>cases x <;> exact p.elim
end
section
variable(K:Fg)(CL:ClA)
noncomputable def Z_8(H0:Hp)(A:Ag->Prop)(H:Hp)(v:V)(d:D):Prop := ∀ ds,d = .lst ds -> ∃ a xs,v = .ref a/\H0 a=Ad/\H a=Aa (.lst xs)/\Reps K CL H (λb=>A b\/b=a) xs ds
noncomputable def Dx(fr:Ak)(H0:Hp)(A:Ag->Prop)(H:Hp)(v:V)(d:D):Prop:=Rep K CL H A v d/\(fr=Ab->Z_8 K CL H0 A H v d)
end
section
variable{X:Cx}{CL:ClA}{W:XW}{a b c:Am}{fa fb fc:Rho->R D}{pos:Az}
noncomputable def SC(X:Cx)(CL:ClA)(W:XW)(fr:Ak)(e:Am)(f:Rho->R D):Prop := ∀ A,PE X e (λY H Q=>AOk H A /\ ∃ U,Good X.K CL A U Y H/\AZ (Dx X.K CL fr H A) W H (f U) Q)
theorem SC.se{fr:Ak}(h:SC X CL W fr a fa):SE X CL W a fa:=λA=>PE.weak (h A) λY H Q ⟨hA,U,g,p⟩=>⟨hA,U,g,by
 cases e:fa U with
 |ok d=>rw[e]at p;exact λv H' s r=>p v H' s r.1
 |exn x=>rw[e]at p;exact p
 | bad=>rw[e]at p;exact p⟩
theorem SE.sc(h:SE X CL W a fa):SC X CL W Ae a fa:=λA=>PE.weak (h A) λY H Q ⟨hA,U,g,p⟩=>⟨hA,U,g,by
 cases e:fa U with
 |ok d=>rw[e]at p;exact λv H' s r=>p v H' s ⟨r,λz=>nomatch z⟩
 |exn x=>rw[e]at p;exact p
 | bad=>rw[e]at p;exact p⟩
theorem SC.congr{fr:Ak}{f g:Rho->R D}(h:SC X CL W fr a f)(e : ∀ U,g U=f U):SC X CL W fr a g:=λA=>PE.weak (h A) λY H Q ⟨hA,U,q,p⟩=>⟨hA,U,q,by rw[<-e];exact p⟩
theorem Ic{ds:Ac D}(s:Ax H0 H)(hA:AOk H A)(hp:H p=Ad)(r:Reps K CL H A xs ds):Dx K CL Ab H0 A (upd H p (.lst xs)) (.ref p) (.lst ds):=
 ⟨Om hA hp r,λ_ ds' e=>by
  cases e;exact⟨p,xs,rfl,s.free hp,DZ,(Reps.wide (λa ha=>ha.imp id λe=>by rw[e];exact hp) _ r).same (FE hp _)⟩⟩
theorem Va{fr:Ak}(r:Rep K CL H A v d)(h : ∀ ds,d ≠ .lst ds):Dx K CL fr H0 A H v d:=⟨r,λ_ ds e=>absurd e (h ds)⟩
theorem Wv(hs:SA X CL W es fs)(hz : ∀ U ds,fs U = .ok ds->ds.length<=100000):SC X CL W Ab (.List es pos) (λU=>(fs U).bind λxs => .ok (.lst xs)):=
 λA=>PE.weak (Xf (hs A)) λY H Q ⟨hA,U,g,p⟩=>⟨hA,U,g,FH.bind p λds vs H1 e s1 r1 p1=>⟨by
  rw[r1.length,Ei];have:=hz U ds e;omega,λq hq=>p1 _ _ (FE hq _) (Ic s1 (hA.same s1) hq r1)⟩⟩
theorem AZ.bindF{fr:Ak}{f:D->R D}{Q Q':VK}(h:AZ (Dx K CL fr H A) W H (r.bind f) Q)(k : ∀ d v H',r = .ok d->Ax H H'->Rp H' v d->AZ (Dx K CL fr H A) W H' (f d) Q->Q' v H'):AZ Rp W H r Q':=by
 cases r with
 |ok d=>exact λv H2 s2 q=>k d v H2 rfl s2 q (AZ.same s2 h)
 |exn x=>exact h
 |bad=>exact h
theorem FH.bindF{Rp:Hp->Ac V->Ac D->Prop}{r:R (Ac D)}{f:Ac D->R D}{Q:VK}{Q':Ac V->Hp->Prop}(h:AZ Rq W H (r.bind f) Q)(k : ∀ d v H',r = .ok d->Ax H H'->Rp H' v d->AZ Rq W H' (f d) Q->Q' v H'):FH Rp W H r Q':=by
 cases r with
 |ok d=>exact λv H2 s2 q=>k d v H2 rfl s2 q (AZ.same s2 h)
 |exn x=>exact h
 |bad=>exact h
theorem Io.bindF{r:R (Ao Aj)}{f:Ao Aj->R D}{Q:VK}(h:AZ Rq W H (r.bind f) Q)(k : ∀ o H',r = .ok o->Ax H H'->AZ Rq W H' (f o) Q->Q' o H'):Io W H r Q':=by
 cases r with
 |ok d=>exact λH2 s2=>k d H2 rfl s2 (AZ.same s2 h)
 |exn x=>exact h
 |bad=>exact h
noncomputable def OpN(X:Cx)(CL:ClA)(W:XW)(f:Ah->Ah->Sem Ah)(g:D->D->R D):Prop:=
 ∀ A H0,OpR X f (λx y H Q=>Ax H0 H/\AOk H A /\ ∃ dx dy,B8 X.K CL H A x dx/\B8 X.K CL H A y dy/\AZ (Dx X.K CL Ab H0 A) W H (g dx dy) Q)
theorem UY:OpN X CL W (Bw .Add) (Cj .Add):=by
 intro A H0 pI s Y H x y v u Q I rx ry ⟨s0,hA,dx,dy,hx,hy,p⟩;have key:(∀ ds,dx ≠ .lst ds)->EP X pI Y Q=EP X pI Y Q->AE (model X.prog X.w) X.A (Bw .Add v u) (EP X pI Y Q) X.xe s:=λhd _=>by
  refine Of (W:=W) A pI s Y H x y v u Q I rx ry ⟨hA,dx,dy,hx,hy,?_⟩;cases e:Cj .Add dx dy with
  |bad=>rw[e]at p;exact p
  |exn x=>rw[e]at p;exact p
  |ok d=>
   rw[e]at p;refine λv' H' s' r'=>p v' H' s' (Va r' λds z => ?_)
   subst z;cases dx with
   |lst ds=>exact hd _ rfl
   |tup xs=>
    cases dy with
    |tup ys=>rw[OD]at e;split at e <;> cases e
    |_=>cases e
   |str xs=>
    cases dy with
    |str ys=>rw[OE]at e;split at e <;> cases e
    |_=>cases e
   |int i=>cases dy <;> cases e
   |_=>cases e
 cases dx with
 |lst ds=>
  cases dy with
  |lst es=>
   obtain⟨a,xs,rfl,s1,r1⟩:=hx.lst_of;obtain⟨b,ys,rfl,s2,r2⟩:=hy.lst_of;simp only[OF]at p;split at p
   .rename_i h;refine Og pI s Y H _ _ v u Q I rx ry ⟨a,b,xs,ys,rfl,rfl,s1,s2,by rw[r1.length,r2.length];exact Gg h,λq hq => ?_⟩
    exact p _ _ (FE hq _) (Ic s0 hA hq (r1.append r2))
   .exact p.elim
  |_=>exact p.elim
 |_=>exact key (by intro _ z;cases z) rfl
theorem Wx(ha:ST X CL W a fa)(hb:ST X CL W b fb):SC X CL W Ab (.BinOp a .Add b pos) (λU=>(fa U).bind λx=>(fb U).bind λy=>Cj .Add x y):=
 λA pI s Y H Q I h=>by
  obtain⟨hA,U,g,p⟩:=h;exact O9 (UY (W:=W) A H) (ha A) (hb A) pI s Y H Q I ⟨hA,U,g,AZ.bindF p λdx x H1 _ s1 r1 p1=>⟨hA.same s1,U,g.same s1,AZ.bind (Rq:=Dx X.K CL Ab H A) p1 λdy y H2 _ s2 r2 p2=>⟨s1.trans s2,(hA.same s1).same s2,dx,dy,r1.same s2,r2,p2⟩⟩⟩
noncomputable def Py(X:Cx)(CL:ClA)(W:XW)(f:Ah)(g:Ac D->R D):Prop := ∀ A H0,GN X f (λxs H Q=>Ax H0 H/\AOk H A /\ ∃ ds,E2 X.K CL H A xs ds/\AZ (Dx X.K CL Ab H0 A) W H (g ds) Q)
theorem VO:Py X CL W (.type "list") (biD .list):=by
  intro A H0 pI s Y H xs us Q I r ⟨s0,hA,ds,rs,p⟩
  match ds,rs,p with
  |[.lst es],rs,p=>
    obtain⟨v,rfl,rv⟩:=rs.one;obtain⟨q,ys,rfl,sq,ry⟩:=rv.lst_of;exact MG pI s Y H _ us Q I r ⟨q,ys,rfl,.inl sq,λl hl=>p _ _ (FE hl _) (Ic s0 hA hl ry)⟩
  |[.tup es],rs,p=>
    obtain⟨v,rfl,rv⟩:=rs.one;obtain⟨q,ys,rfl,_,sq,ry⟩:=rv.tup_of;exact MG pI s Y H _ us Q I r ⟨q,ys,rfl,.inr sq,λl hl=>p _ _ (FE hl _) (Ic s0 hA hl ry)⟩
  |[],_,p=>exact p.elim
  |[.non],_,p=>exact p.elim
  |[.bl _],_,p=>exact p.elim
  |[.int _],_,p=>exact p.elim
  |[.str _],_,p=>exact p.elim
  |[.obj _ _],_,p=>exact p.elim
  |[.exc _ _],_,p=>exact p.elim
  |[.dic _],_,p=>exact p.elim
  |x::_::_,_,p=>cases x <;> exact p.elim
theorem Ww{x:Ai}{p:Az}{g:Ac D->R D}(hc:Py X CL W (.type T) g)(hg:Gl X x)(hm:X.mg x=Ad)(hv:B4 x=Aa (.type T))(ha:SAT X CL W (e::es) fs)(hn:x ≠ "__name__")(hdb:(x==("__debug__" : Ai))=Ae)(he:At (e::es) X.env=(Ae,eval e X.env)::At es X.env)(hpl : ∀ pos,(B2 pos (At es X.env)).any (·.1)=Ae):SC X CL W Ab (.Call (.Name x p) (e::es) [] pos) (λU=>(fs U).bind g):=λA pI s Y H Q I ⟨hA,U,gd,q⟩=>
 MU (hc A H) hg hm hv (ha A) hn hdb he (hpl _) pI s Y H Q I ⟨hA,U,gd,FH.bindF q λds vs H1 _ s1 r1 p1=>⟨s1,hA.same s1,ds,r1,p1⟩⟩
mutual
theorem Pq{K:Fg}{H:Hp}{A:Ag->Prop}(hA:AOk H A) : ∀(n:Af)(d:D){v:V},nlD n d=Ab->Rep K CL H A0 v d->Rep K CL H A v d
 |_,.non,_,_,h=>h
 |_,.bl _,_,_,h=>h
 |_,.int _,_,_,h=>h
 |_,.str _,_,_,h=>h
 |0,.tup _,_,hn,_=>by cases hn
 |n+1,.tup ds,_,hn,h=>by
  obtain⟨a,xs,e,_,s,r⟩:=h;refine⟨a,xs,e,?_,s,nls_up hA n ds hn r⟩;rcases s with s|s
  .refine .inl λz => ?_
   obtain⟨ys,q⟩:=hA a z;rcases s with s|⟨o,s⟩ <;> rw[q]at s <;> cases s
  .exact .inr s
 |n,.lst _,_,hn,_=>by cases n <;> cases hn
 |n,.obj _ _,_,hn,_=>by cases n <;> cases hn
 |n,.exc _ _,_,hn,_=>by cases n <;> cases hn
 |n,.dic _,_,hn,_=>by cases n <;> cases hn
theorem nls_up{K:Fg}{H:Hp}{A:Ag->Prop}(hA:AOk H A) : ∀(n:Af)(ds:Ac D){vs:Ac V},ds.all (nlD n)=Ab->Reps K CL H A0 vs ds->Reps K CL H A vs ds
 |_,[],[],_,h=>h
 |n,d::ds,_::_,hn,h=>by
  simp only[DJ,An]at hn;exact⟨Pq hA n d hn.1 h.1,nls_up hA n ds hn.2 h.2⟩
 |_,[],_::_,_,h=>h.elim
 |_,_::_,[],_,h=>h.elim
end
theorem XD{fr:Ak}(hA0:AOk H0 A)(s:Ax H0 H)(hc:GO fr d=Ab)(r:Dx K CL fr H0 A0 H v d):Dx K CL fr H0 A H v d:=by
 have hA:=hA0.same s;cases d with
 |lst ds=>
  have hc':(fr&&ds.all (nlD 5))=Ab:=hc;rw[An]at hc';obtain⟨a,xs,e,h0,h1,rs⟩:=r.2 hc'.1 ds rfl;have hA2:AOk H (λb=>A b\/b=a):=λb hb=>hb.elim (hA b) λe=>by rw[e];exact⟨xs,h1⟩
  have rs':=nls_up hA2 5 ds hc'.2 (Reps.sub (λ_ z=>z.elim) _ rs)
  refine⟨⟨a,xs,e,.inl (hA0.new h0),SqL.of h1,Reps.sub (λ_ z => .inl z) _ rs'⟩,λ_ ds' e' => ?_⟩
  cases e';exact⟨a,xs,e,h0,h1,rs'⟩
 |_=>exact⟨Pq hA 5 _ hc r.1,λ_ _ z=>nomatch z⟩
noncomputable def spD(K:Fg)(CL:ClA)(n:Af)(fr:Ak)(F:Ac D->R D):Sp:=λvs H Q E => ∃(ds:Ac D)(A:Ag->Prop),vs.length=n/\AOk H A/\Reps K CL H A vs ds/\(match F ds with
  |.ok d => ∀ v H',Ax H H'->Dx K CL fr H A H' v d->Q v H'
  |.exn x => ∀ cls dx H',Ax H H'->Fj K CL H' cls dx x->E cls dx H'
  | .bad=>AV)
noncomputable def EKW(K:Fg)(CL:ClA)(A:Ag->Prop)(W:XW):XK:=λcls dx H' => ∃ x,Fj K CL H' cls dx x/\W x H'
theorem E2.plain{K:Fg}{H:Hp}{A:Ag->Prop} : ∀{vs:Ac V}{ds:Ac D},E2 K CL H A vs ds->Reps K CL H A0 vs ds
 |[],[],h=>trivial
 |_::_,_::_,h=>⟨h.1.plain,E2.plain h.2⟩
 |[],_::_,h=>h.elim
 |_::_,[],h=>h.elim
theorem U_2{CX:CXT}{fr:Ak}{f:Ag}{fd:Bh}{ps:Ac Ai}{F:Ac D->R D}{x:Ai}{p:Az}{ft:Rho->R (Ac D)}{sh:Rho->Ak}(G:FnOk X.prog X.w X.K X.mg X.base CX k f fd ps (spD X.K CL n fr F))(hr:Room k X.A)(hg:Gl X x)(hm:X.mg x=Aa (.ref f))(hk:BK X.K (.ref f)=Ab)(hb:E3 X.K fd ps [])(hx : ∀ A,GJ CX X (EKW X.K CL A W))(ha:SA X CL W (e::es) fs)(hat:SAT X CL W (e::es) ft)(hst : ∀ U,sh U=Ab->ft U=fs U)(hn : ∀ U ds,ft U = .ok ds->ds.length=n)(hdb:(x==("__debug__" : Ai))=Ae)(he:At (e::es) X.env=(Ae,eval e X.env)::At es X.env)(hpl : ∀ pos,(B2 pos (At es X.env)).any (·.1)=Ae):SC X CL W fr (.Call (.Name x p) (e::es) [] pos) (λU=>(ft U).bind λds=>(F ds).bind λd=>if sh U=Ab then .ok d else if GO fr d=Ab then .ok d else .bad):=λA pI s Y H Q I ⟨hA,U,gd,q⟩=>by
 dsimp only at q;by_cases hs:sh U=Ab
 .rw[hst U hs]at q;refine Ja G hr hg hm hk hb .nil (hx A) (ha A) hdb he (hpl _) pI s Y H Q I ⟨hA,U,gd,?_⟩;cases e1:fs U with
  |bad=>rw[e1]at q;exact q
  |exn y=>rw[e1]at q;exact q
  |ok ds=>
   rw[e1]at q;intro vs H1 s1 r1;refine⟨ds,A,by rw[Cp,r1.length];exact hn U ds (by rw[hst U hs];exact e1),hA.same s1,by rw[Cp];exact r1,?_⟩
   have q':AZ (Dx X.K CL fr H A) W H ((F ds).bind λd=>if sh U=Ab then .ok d else if GO fr d=Ab then .ok d else .bad) Q:=q
   cases e2:F ds with
   |ok d=>
    rw[e2,R.bind_ok,AD hs]at q';exact λv H2 s2 r2=>q' v H2 (s1.trans s2) ⟨r2.1,λz ds' e'=>let ⟨a,xs,z1,z2,z3⟩:=r2.2 z ds' e';⟨a,xs,z1,s1.free z2,z3⟩⟩
   |exn y=>rw[e2]at q';exact λcls dx H2 s2 xr=>⟨y,xr,q' H2 (s1.trans s2)⟩
   |bad=>rw[e2]at q';exact q'.elim
 .refine Ja G hr hg hm hk hb .nil (hx A0) (hat A) hdb he (hpl _) pI s Y H Q I ⟨hA,U,gd,?_⟩;cases e1:ft U with
  |bad=>rw[e1]at q;exact q
  |exn y=>rw[e1]at q;exact q
  |ok ds=>
   rw[e1]at q;intro vs H1 s1 r1;refine⟨ds,A0,by rw[Cp,r1.plain.length];exact hn U ds e1,λ_ z=>z.elim,by rw[Cp];exact r1.plain,?_⟩
   have q':AZ (Dx X.K CL fr H A) W H ((F ds).bind λd=>if sh U=Ab then .ok d else if GO fr d=Ab then .ok d else .bad) Q:=q
   cases e2:F ds with
   |ok d=>
    rw[e2,R.bind_ok,AL hs]at q';split at q'
    .rename_i hc;exact λv H2 s2 r2=>q' v H2 (s1.trans s2) (XD hA (s1.trans s2) hc ⟨r2.1,λz ds' e'=>let ⟨a,xs,z1,z2,z3⟩:=r2.2 z ds' e';⟨a,xs,z1,s1.free z2,z3⟩⟩)
    .exact q'.elim
   |exn y=>rw[e2]at q';exact λcls dx H2 s2 xr=>⟨y,xr,q' H2 (s1.trans s2)⟩
   |bad=>rw[e2]at q';exact q'.elim
end
theorem KR(env:BM) : ∀(ns:Ac (Ai × C8))(acc:Ac (Ai × Ag)),(∀ x∈ns,x.2 = .free -> ∃ c,env.cells.lookup x.1=Aa c)->(∀ x c,acc.lookup x=Aa c->env.cells.lookup x=Aa c) ->
  ∃ cl,(forIn ns acc fun(x:Ai × C8)(cs:Ac (Ai × Ag))=>(if (x.2==.free)=Ab then do let c <-cellOf env x.1;pure (Dh ((x.1,c)::cs)) else pure (Dh cs):Sem (ForInStep (Ac (Ai × Ag)))))=pure cl /\
   (∀ x c,cl.lookup x=Aa c->env.cells.lookup x=Aa c)/\(∀ x,((x,CU)∈ns \/ ∃ c,acc.lookup x=Aa c) -> ∃ c,cl.lookup x=Aa c)
 |[],acc,_,h2=>⟨acc,by rw[EY],h2,λx hx=>hx.elim (λz=>nomatch z) id⟩
 |(n,k)::r,acc,h1,h2=>by
  rw[FN];by_cases hk:k = .free
  .subst hk;obtain⟨c,hc⟩:=h1 (n,.free) AM rfl;obtain⟨cl,e,p,q⟩:=KR env r ((n,c)::acc) (λx hx=>h1 x (AG _ hx)) (λx d hd=>by
    rw[BF]at hd;split at hd
    .rename_i hx;cases hd;rw[eq_of_beq hx];exact hc
    .exact h2 x d hd)
   refine⟨cl,?_,p,λx hx=>q x ?_⟩
   .have e1:cellOf env n=pure c:=by unfold cellOf;dsimp only at hc;rw[hc]
    rw[AD (by rfl),e1]
    exact e
   .rcases hx with hx|⟨d,hd⟩
    .rcases AK.mp hx with z|z
     .cases z;exact .inr ⟨c,by simp[BF]⟩
     .exact .inl z
    .by_cases hxn:x=n
     .exact .inr ⟨c,by subst hxn;simp[BF]⟩
     .exact .inr ⟨d,by rw[BF];rw[Bs.mpr hxn];exact hd⟩
  .obtain⟨cl,e,p,q⟩:=KR env r acc (λx hx=>h1 x (AG _ hx)) h2
   refine⟨cl,?_,p,λx hx=>q x ?_⟩
   .rw[AL (by simpa using hk)]
    exact e
   .rcases hx with hx|hx
    .rcases AK.mp hx with z|z
     .cases z;exact absurd rfl hk
     .exact .inl z
    .exact .inr hx
theorem M5{scope:Bf}(h : ∀ x∈scope.names,x.2 = .free -> ∃ c,env.cells.lookup x.1=Aa c):∃ cl,Fq scope env=pure cl/\(∀ x c,cl.lookup x=Aa c->env.cells.lookup x=Aa c)/\∀ x,(x,CU)∈scope.names->∃ c,cl.lookup x=Aa c:=by
 obtain⟨cl,e,p,q⟩:=KR env scope.names [] h (λx c z=>by simp at z)
 refine⟨cl,?_,p,λx hx=>q x (.inl hx)⟩
 unfold Fq
 first
  |exact e
  |(simp only[bind_pure];exact e)
  |(rw[show (forIn scope.names ([]:Ac (Ai × Ag)) _:Sem _)=pure cl from e];rfl)
theorem KM :∀(names:Ac (Ai × C8))(h:As)(acc:Ac (Ai × Ag))(x:Ai)(c:Ag),(Bt h.objs.size names acc).lookup x=Aa c->acc.lookup x=Aa c\/((x,Bi)∈names/\h.objs.size<=c/\(E8 h names).IsCell c Ad)
 |[],_,_,_,_,e => .inl e
 |(n,k)::r,h,acc,x,c,e=>by
  unfold Bt at e;unfold E8;by_cases hk:(k==Bi)=Ab
  .rw[AD hk]at e ⊢;have hs:h.objs.size+1=(h.push { cls := .type "cell",data := .cell Ad }).objs.size:=(By ..).symm;rw[hs]at e;rcases KM r _ _ x c e with q|⟨q1,q2,q3⟩
   .rw[BF]at q;cases hx:x==n with
    |true=>
     rw[hx]at q;cases q;refine .inr ⟨?_,AS _,?_⟩
     .rw[eq_of_beq hx,eq_of_beq hk];exact AM
     .exact⟨_,FQ r _ _ _ (AC _ rfl),rfl⟩
    |false=>rw[hx]at q;exact .inl q
   .exact .inr ⟨AG _ q1,by omega,q3⟩
  .rw[AL hk]at e ⊢;rcases KM r h acc x c e with q|⟨q1,q2,q3⟩
   .exact .inl q
   .exact .inr ⟨AG _ q1,q2,q3⟩
theorem KN :∀(names:Ac (Ai × C8))(h:As)(acc:Ac (Ai × Ag)),(∀ x y c,acc.lookup x=Aa c->acc.lookup y=Aa c->x=y)->(∀ x c,acc.lookup x=Aa c->c<h.objs.size)->∀ x y c,(Bt h.objs.size names acc).lookup x=Aa c->(Bt h.objs.size names acc).lookup y=Aa c->x=y
 |[],_,_,i,_,x,y,c,e1,e2=>i x y c e1 e2
 |(n,k)::r,h,acc,i,b,x,y,c,e1,e2=>by
  unfold Bt at e1 e2;by_cases hk:(k==Bi)=Ab
  .rw[AD hk]at e1 e2;have hs:h.objs.size+1=(h.push { cls := .type "cell",data := .cell Ad }).objs.size:=(By ..).symm;rw[hs]at e1 e2;have look : ∀ z d,Dj z ((n,h.objs.size)::acc)=Aa d->(z=n/\d=h.objs.size)\/(z≠n/\acc.lookup z=Aa d):=λz d q=>by
    rw[BF]at q;cases hx:z==n with
    |true=>rw[hx]at q;cases q;exact .inl ⟨eq_of_beq hx,rfl⟩
    |false=>rw[hx]at q;exact .inr ⟨λe=>by rw[e]at hx;simp at hx,q⟩
   refine KN r _ _ (λz z' d q q' => ?_) (λz d q => ?_) x y c e1 e2
   .rcases look z d q with ⟨rfl,q1⟩|⟨_,q1⟩ <;> rcases look z' d q' with ⟨rfl,q2⟩|⟨_,q2⟩
    .rfl
    .exact absurd (b _ _ q2) (by rw[q1];exact A8 _)
    .exact absurd (b _ _ q1) (by rw[q2];exact A8 _)
    .exact i _ _ _ q1 q2
   .rw[<-hs];rcases look z d q with ⟨_,q1⟩|⟨_,q1⟩
    .rw[q1];exact Dz _
    .exact Cs (b _ _ q1)
  .rw[AL hk]at e1 e2;exact KN r h acc i b x y c e1 e2
theorem KU : ∀(names:Ac (Ai × C8))(n:Af)(acc:Ac (Ai × Ag))(x:Ai),(x,Bi) ∉ names->(Bt n names acc).lookup x=acc.lookup x
 |[],_,_,_,_=>rfl
 |(m,k)::r,n,acc,x,hx=>by
  unfold Bt;have hr:(x,Bi) ∉ r:=λz=>hx (AG _ z)
  by_cases hk:(k==Bi)=Ab
  .rw[AD hk,KU r _ _ x hr,BF];cases q:x==m with
   |true=>exact absurd (by rw[eq_of_beq q,eq_of_beq hk];exact AM) hx
   |false=>rfl
  .rw[AL hk];exact KU r n acc x hr
theorem KO(n0:Af) : ∀(names:Ac (Ai × C8))(n:Af)(acc:Ac (Ai × Ag))(x:Ai),n0<=n->((x,Bi)∈names \/ ∃ c,acc.lookup x=Aa c/\n0<=c) -> ∃ c,(Bt n names acc).lookup x=Aa c/\n0<=c
 |[],_,_,_,_,h=>h.elim (λz=>nomatch z) id
 |(m,k)::r,n,acc,x,hn,h=>by
  unfold Bt;by_cases hk:(k==Bi)=Ab
  .rw[AD hk];refine KO n0 r _ _ x (by omega) ?_
   by_cases hx:(x==m)=Ab
   .exact .inr ⟨n,by rw[BF,hx],hn⟩
   .rcases h with h|⟨c,h,hc⟩
    .rcases AK.mp h with z|z
     .cases z;simp at hx
     .exact .inl z
    .exact .inr ⟨c,by rw[BF];simp only[hx];exact h,hc⟩
  .rw[AL hk];refine KO n0 r _ _ x hn (h.imp (λh => ?_) id)
   rcases AK.mp h with z|z
   .cases z;simp at hk
   .exact z
theorem SK{M:GQ}{A:AN}{E:Ah->Al->Prop}{scope:Bf}{globals:Ag}{qual:Ai}{Q:BM->Al->Prop}(hQ:Q (newEnv scope s.heap.objs.size globals (Bt (s.heap.objs.size+1) scope.names cl) qual Ad .none (Aa env) CG) { s with heap:=E8 (s.heap.push { cls := .type "dict",data := .dict #[] }) scope.names }):AE M A (F7 scope globals cl [] qual Ad .none (Aa env)) Q E s:=by
 simp only[F7,Option.isSome_some,if_true];refine Ap (wpAny_alloc ?_);refine Ap (wpAny_layCells _ (λname kind cells=>by cases hkc:kind==Bi <;> simp[hkc]) _ _ _ _ ?_)
 rw[show ({ s with heap:=s.heap.push { cls := .type "dict",data := .dict #[] } }:Al).heap.objs.size=s.heap.objs.size+1 from By ..]
 rw[EY];exact Ap (AY (AY hQ))
noncomputable def cxC(X:Cx)(scope:Bf)(cl:Ac (Ai × Ag))(C:Ag)(N':Ac Ai)(s₀:Al)(H₀:Hp)(fp:Ac Ag):Cx where
 prog:=X.prog
 w:=X.w
 K:=X.K
 mg:=X.mg
 base:=X.base
 A:=X.A
 N:=N'
 s₀:=s₀
 H₀:=H₀
 env:=compEnvC scope cl C X.env
 outer:=X.stack
 stack:=X.stack
 ex:=fp
 fn:=λx=>scope.names.lookup x==Aa Bi
 calm:=X.calm
 pn:=[]
 xe:=λ_ _=>AV
theorem II{env:BM} :∀{names:Ac (Ai × C8)}{x:Ai}{k:C8},(names.map λ(n,k)=>if (k==CU&&env.scope.kind==.function&&env.kindOf n==Aa .cell) then (n,Bi) else (n,k)).lookup x=Aa k->names.lookup x=Aa k\/(k = .cell/\names.lookup x=Aa .free)
 |[],_,_,h=>by simp at h
 |(n,j)::r,x,k,h=>by
  have ih := @II env r x k;have h':Dj x ((if (j==CU&&env.scope.kind==.function&&env.kindOf n==Aa .cell)=Ab then (n,Bi) else (n,j))::(r.map λ(n,k)=>if (k==CU&&env.scope.kind==.function&&env.kindOf n==Aa .cell) then (n,Bi) else (n,k)))=Aa k:=h
  by_cases hc:(j==CU&&env.scope.kind==.function&&env.kindOf n==Aa .cell)=Ab
  .rw[AD hc]at h';rw[BF]at h' ⊢;cases hx:x==n with
   |true=>
    rw[hx]at h';cases h';simp only[An]at hc;exact .inr ⟨rfl,by rw[eq_of_beq hc.1.1]⟩
   |false=>rw[hx]at h';exact ih h'
  .rw[AL hc]at h';rw[BF]at h' ⊢;cases hx:x==n with
   |true=>rw[hx]at h';exact .inl h'
   |false=>rw[hx]at h';exact ih h'
structure BlockOk (X:Cx) (scope:Bf) (N':Ac Ai) (ts:Ac Af):Prop where
 kind:scope.kind = .function
 uniq : ∀ y∈scope.names,scope.names.lookup y.1=Aa y.2
 names : ∀ y∈scope.names,y.2 = .local->scope.names.lookup y.1=Aa .local
 free : ∀ y∈scope.names,y.2 = .free->X.env.scope.names.lookup y.1=Aa .cell\/X.env.scope.names.lookup y.1=Aa .free
 len:N'.length=X.N.length
 same : ∀ i x,N'[i]? = Aa x->scope.names.lookup x=Aa .free->i ∉ ts->X.N[i]? = Aa x
 loc : ∀ i x,N'[i]? = Aa x->(scope.names.lookup x=Aa .local\/scope.names.lookup x=Aa .cell)->i∈ts
structure BCells (X:Cx) (scope:Bf) (cl:Ac (Ai × Ag)) (C:Ag) (h:As):Prop where
 own : ∀ x c,cl.lookup x=Aa c->X.env.cells.lookup x=Aa c\/(scope.names.lookup x=Aa .cell/\C<c/\h.IsCell c Ad)
 inj : ∀ x y c,cl.lookup x=Aa c->cl.lookup y=Aa c->x=y
 has : ∀ x,scope.names.lookup x=Aa .cell -> ∃ c,cl.lookup x=Aa c/\C<c
 fr : ∀ x,(x,CU)∈scope.names -> ∃ c,cl.lookup x=Aa c/\X.env.cells.lookup x=Aa c
section
variable{X:Cx}{pI:Ac (Ag × AB)}{Y:L2.St}{H:Hp}{s:Al}
noncomputable def hideT(ts:Ac Af)(Y:L2.St):L2.St:=ts.foldl (λY t=>Y.set t Ad) Y
theorem KF : ∀(ts:Ac Af)(Y:L2.St),(hideT ts Y).length=Y.length
 |[],_=>rfl
 |t::ts,Y=>by show (hideT ts (Y.set t Ad)).length=_;rw[KF ts,AX]
theorem MY : ∀(ts:Ac Af)(Y:L2.St){i:Af}{v:V},(hideT ts Y)[i]? = Aa (Aa v)->Y[i]? = Aa (Aa v)/\i ∉ ts
 |[],_,_,_,h=>⟨h,by simp⟩
 |t::ts,Y,i,v,h=>by
  obtain⟨h1,h2⟩:=MY ts (Y.set t Ad) (i:=i) (v:=v) h;by_cases e:t=i
  .subst e;have:=FF h1;cases this
  .rw[B7 e]at h1;exact⟨h1,by simp only[AK,EW];exact⟨λz=>e z.symm,h2⟩⟩
theorem SZ{scope:Bf}{C:Ag}{m:Ai->Ao Ah}(I:Inv X pI Y H s)(B:BlockOk X scope N' ts)(hf : ∀ b∈fp,Fm X pI H b)(hfo : ∀ b∈fp,b<s.heap.objs.size)(hb:BCells X scope cl C h')(hk : ∀ b o,s.heap.get? b=Aa o->h'.get? b=Aa o)(hC:s.heap.objs.size<=C)(hn:h'.Ns C m):Inv (cxC X scope cl C N' s H fp) [] (hideT ts Y) H {s with heap:=h',toks:=tk}:=by
 have stf : ∀ b∈fp,b ∉ frs X.stack:=λb hb z=>by
  rcases AK.mp (I.stkSub b z) with e|e
  .exact(hf b hb).2.1 e
  .exact(hf b hb).2.2.1 e
 have frOf : ∀ x,((relabel scope X.env).names.lookup x=Aa .cell\/(relabel scope X.env).names.lookup x=Aa .free)->scope.names.lookup x=Aa .free\/scope.names.lookup x=Aa .cell:=λx hx=>by
  rcases hx with z|z
  .rcases II z with z|⟨_,z⟩
   .exact .inr z
   .exact .inl z
  .rcases II z with z|⟨z,_⟩
   .exact .inl z
   .cases z
 have gtC : ∀ c:Ag,C<c->s.heap.objs.size<=c:=λc z=>Cc hC (DU z)
 have cellK : ∀ c v,s.heap.IsCell c v->h'.IsCell c v:=λc v ⟨o,ho,hd⟩=>⟨o,hk _ _ ho,hd⟩
 refine⟨⟨I.ok.mod,B.kind,I.ok.glob,I.ok.blt,hC,hb.inj,λx hx => ?_,λx c h e => ?_,I.ok.hd,I.ok.frames,.inl rfl,λb hbb=>⟨?_,λx c e => ?_⟩,I.bs,Cc I.ok.bsz I.sz,λb o e hbb => ?_,stf,I.stack,I.stkFree⟩,rfl,I.bare,Un.kept hk,⟨m,hn,λi x v h1 h2 h3 => ?_⟩,λx c e => ?_,I.hok.fresh hC,λx c e=>(hb.own x c e).elim (I.freeC x c) (λz=>I.hok.fresh (gtC c z.2.1)),λp hp=>absurd (show p∈([]:Ac (Ag × AB)) from hp) (by simp),I.hok.kept hk,?_⟩
 .rcases frOf x hx with z|z
  .obtain⟨c,q,_⟩:=hb.fr x (Br z);exact⟨c,q⟩
  .obtain⟨c,q,_⟩:=hb.has x z;exact⟨c,q⟩
 .obtain⟨c',q,z⟩:=hb.has x (eq_of_beq h);have e':cl.lookup x=Aa c:=e;rw[q]at e';cases e';exact gtC _ z
 .intro z;have z':b=C:=z;have:=hfo b hbb;rw[z']at this;exact absurd (Ar this hC) (A8 _)
 .rcases hb.own x c e with z|z
  .exact(hf b hbb).2.2.2.2.1 x c z
  .intro q;have:=hfo b hbb;have:=gtC c z.2.1;rw[q]at this;exact absurd ‹b<_› (Q2.mpr this)
 .rcases (hf b hbb).2.2.2.1 with z|z
  .exact I.ok.noex b o e z
  .exact absurd (Ar (Au e) (Cc I.ok.bsz z)) (A8 _)
 .obtain⟨h2,hts⟩:=MY ts Y h2;have h3':(relabel scope X.env).names.lookup x=Aa .local\/(relabel scope X.env).names.lookup x=Aa .cell\/(relabel scope X.env).names.lookup x=Aa .free:=h3;have h1':N'[i]? = Aa x:=h1;rcases h3' with z|z
  .rcases II z with z|⟨z,_⟩
   .exact absurd (B.loc i x h1' (.inl z)) hts
   .cases z
  .have fr:=(frOf x z).resolve_right λq=>hts (B.loc i x h1' (.inr q))
   have hm:=Br fr;have hX:=B.same i x h1' fr hts;obtain⟨m0,hn0,hl0⟩:=I.loc;obtain⟨u,ru,lk⟩:=hl0 i x v hX h2 (by
    rcases B.free _ hm rfl with q|q
    .exact .inr (.inl q)
    .exact .inr (.inr q))
   refine⟨u,ru,?_⟩;obtain⟨c,hc,hcX⟩:=hb.fr x hm;rcases lk with ⟨q,_⟩|⟨_,c',hc',hcell⟩
   .have q':X.env.scope.names.lookup x=Aa .local:=q;rcases B.free _ hm rfl with p|p
    .rw[show X.env.scope.names.lookup x=_ from p]at q';cases q'
    .rw[show X.env.scope.names.lookup x=_ from p]at q';cases q'
   .have e:=hcX;rw[hc']at e;cases e;exact .inr ⟨z,c,hc,cellK _ _ hcell⟩
 .rcases hb.own x c e with z|z
  .obtain⟨v,q⟩:=I.cell x c z;exact⟨v,cellK _ _ q⟩
  .exact⟨_,z.2.2⟩
 .show (hideT ts Y).length=N'.length;rw[KF,I.len,B.len]
theorem MK{scope:Bf}{C D:Ag}{s':Al}{Y':L2.St}{pins':Ac (Ag × AB)}{h'':As}{ys:Ac Ah}(I:Inv X pI Y H s)(hf : ∀ b∈fp,Fm X pI H b)(I':Inv (cxC X scope cl C N' s H fp) pins' Y' H' s')(hD:s.heap.objs.size<=D)(hDC:D≠C)(hC:s.heap.objs.size<=C)(hd:s'.heap.get? D=Aa { cls := .type "list",data := .seq ys.toArray n })(hDn:H' D=Ad)(rv:AU xs ys)(hz:xs.length<=sizeLine)(hs:DX C s'.heap h''):Inv X pI Y (upd H' D (.lst xs)) {s' with heap:=h''}:=by
 have u:Un (frs X.stack) fp H H' s.heap s'.heap:=I'.base;have lt : ∀ b o,s.heap.get? b=Aa o->b≠C/\b≠D:=λb o e=>⟨λz=>absurd (Ar (Au e) (z ▸ hC)) (A8 _),λz=>absurd (Ar (Au e) (z ▸ hD)) (A8 _)⟩
 have HD:H D=Ad:=I.hok.fresh hD;have hCn:H' C=Ad:=I'.free;have kb : ∀ b o,b≠C->s'.heap.get? b=Aa o->h''.get? b=Aa o:=λb o hb e=>(hs.2 b hb).trans e
 have u2:Un (frs X.stack) fp H (upd H' D (.lst xs)) s.heap h'':=⟨λb o e q hb hx=>kb b o (lt b o e).1 (u.keep b o e q hb hx),λb o e q hb hx=>by
   obtain⟨sl,e1⟩:=u.slot b o e q hb hx;exact⟨sl,kb b _ (lt b o e).1 e1⟩,λb o e q hx=>by rw[Bq (lt b o e).2];exact u.free b o e q hx,λb o e hx=>by
   obtain⟨o',e1⟩:=u.there b o e hx;exact⟨o',kb b _ (lt b o e).1 e1⟩,λb zs q=>by rw[Bq (Eu q HD)];exact u.tups b zs q,λb o zs q=>by rw[Bq (Eu q HD)];exact u.frzs b o zs q,λb ps q=>by rw[Bq (Eu q HD)];exact u.tbls b ps q⟩
 have hok:HOk X.prog X.w (upd H' D (.lst xs)) h'':=λb o e=>by
  by_cases hb:b=D
  .subst hb;rw[DZ]at e;cases e;exact⟨hz,ys,n,rv,kb _ _ hDC hd⟩
  .rw[Bq hb]at e;refine(I'.hok b o e).stay (λc v hc q=>kb c v ?_ q) (λc q=>by rw[Bq (Eu q hDn)];exact q) λc zs q=>by rw[Bq (Eu q hDn)];exact q
   rcases hc with rfl|hc
   .exact Eu e hCn
   .exact Eu hc hCn
 exact I.call' (s' := {s' with heap:=h''}) (ch:=fp) I'.os u2 hok I'.bare λb hb=>⟨(hf b hb).2.2.2.1,(hf b hb).2.1,(hf b hb).2.2.2.2.1,(hf b hb).2.2.2.2.2⟩
end
noncomputable def PTs(X:Cx)(ifs:Ac Am)(tt:TT):Prop := ∀(pI:Ac (Ag × AB))(s:Al)(Y:L2.St)(H:Hp)(Q:Ak->Hp->Prop),Inv X pI Y H s->tt Y H Q ->
 AE (model X.prog X.w) X.A (forIn ifs Ab λc r=>if r=Ab then do let ok <-F6 c X.env (eval c X.env);pure (Dh ok) else pure (Dh r)) (TP X pI Y Q) X.xe s
theorem Vk:PTs X [] (λY H Q=>Q Ab H):=λpI s Y H Q I h=>wpAny_tests_nil ⟨H,I,h⟩
theorem Vj{t:TT}(h:PT X c t):PTs X [c] t:=λpI s Y H Q I q=>wpAny_tests_one (h pI s Y H Q I q)
theorem S5{D:Ag}{ys:Ac Ah}{y:Ah}{E:Ah->Al->Prop}(I:Inv X ((D,{ cls := .type "list",data := .seq ys.toArray n })::pI) Y H s)(hD:X.s₀.heap.objs.size<=D)(hp : ∀ p∈X.pn++pI,p.1≠D)(hc : ∀ x c,X.env.cells.lookup x=Aa c->c≠D)(hz:ys.length<=sizeLine)(h : ∀ s',Inv X ((D,{ cls := .type "list",data := .seq (ys++[y]).toArray (n+1) })::pI) Y H s'->(∀ b o,b≠D->s.heap.get? b=Aa o->s'.heap.get? b=Aa o)->Q .none s'):AE (model X.prog X.w) X.A (call (.builtin "list.append") [.ref D,y]) Q E s:=by
 obtain⟨e,hn,hL,hfs,_⟩:=I.pin (D,{ cls := .type "list",data := .seq ys.toArray n }) (A2 _ AM);refine append_at (hsz:=by rw[Av];exact hz) e λh' hs hd => ?_
 have hd':h'.get? D=Aa { cls := .type "list",data := .seq (ys++[y]).toArray (n+1) }:=by rw[hd];simp
 have kb : ∀ b o,b≠D->s.heap.get? b=Aa o->h'.get? b=Aa o:=λb o hb q=>(hs.2 b hb).trans q
 have I0:Inv X pI Y H s:=I.pins_of λp hp=>I.pin p (A2 _ (AG _ hp))
 have I1:Inv X pI Y H {s with heap:=h'}:=I0.turned (t':=s.toks) kb hn hL (.inr hD) hc hp
 refine h _ (I1.pins_of λp hp => ?_) kb
 rcases AK.mp hp with rfl|hp
 .exact⟨hd',hn,hL,hfs,λv z=>by
   have z':HR _ _=HN v:=z;cases z'⟩
 .exact I1.pin p (A2 _ hp)
section
variable{prog:Ay}{w:AH}{A:AN}{R:Gw->Al->Prop}{s:Al}
theorem SY{target:Am}{scope:Bf}{pos:Az}{it acc:Ah}(I:Af->Al->Prop)(turn : ∀ n s,I n s->AE (model prog w) A (F9 it) (λr s₁=>match r with
      |none=>R (.ok .next) s₁
      | some v=>AE (model prog w) A (EN target it v) (λ_ s₁'=>AE (model prog w) A (assign target env v) (λ_ s₂=>
          AE (model prog w) A (forIn ifs Ab λc r=>if r=Ab then do let ok <-F6 c env (eval c env);pure (Dh ok) else pure (Dh r)) (λok s₃=>
            if ok=Ab then AE (model prog w) A (eval elt env) (λx s₄=>
              AE (model prog w) A (call (.builtin "list.append") [acc,x]) (λ_ s₅ => ∃ m,m<n/\I m s₅) (F8 (model prog w) A env λe s'=>R (.error e) s') s₄) (F8 (model prog w) A env λe s'=>R (.error e) s') s₃
            else ∃ m,m<n/\I m s₃) (F8 (model prog w) A env λe s'=>R (.error e) s') s₂) (F8 (model prog w) A env λe s'=>R (.error e) s') s₁') (F8 (model prog w) A env λe s'=>R (.error e) s') s₁) (F8 (model prog w) A env λe s'=>R (.error e) s') s)(n:Af)(h:I n s):D6 (model prog w) A (.compLoop (.ListComp elt [⟨target,iter,ifs,0⟩] scope pos) 0 it acc env) R s:=by
  refine codeAny_loop rfl I (λn s hI => ?_) n h
  show AE _ A ((compTurn (.ListComp elt [⟨target,iter,ifs,0⟩] scope pos) 0 it acc env).onRaise (λx=>do GB x env;theTreesLotGoes x)) _ _ s
  refine wpAny_noted ?_;rw[compTurn_list];refine Ap (Fe (Ap (BD (turn n s hI) (λr s₁ h₁ => ?_) λ_ _ h'=>h')))
  cases r with
  |none=>exact AY h₁
  |some v=>
    refine Ap (BD h₁ (λ_ s₁' h₁' => ?_) λ_ _ h'=>h')
    refine Ap (BD h₁' (λ_ s₂ h₂=>Ap (BD h₂ (λok s₃ h₃ => ?_) λ_ _ h'=>h')) λ_ _ h'=>h')
    cases ok with
    |false=>exact AY ⟨rfl,h₃⟩
    |true=>
      exact Ap (Ap (BD h₃ (λx s₄ h₄=>Ap (BD h₄ (λ_ s₅ h₅=>AY (AY ⟨rfl,h₅⟩)) λ_ _ h'=>h')) λ_ _ h'=>h'))
end
noncomputable def Ib(J:It)(ts:Ac Af)(g:TG)(tt:TT)(te:TE)(Y:L2.St)(H:Hp)(Q:VK):Prop := ∃ W:Af->Af->Ac V->L2.St->Hp->Prop,(∃ m,W 0 m [] (hideT ts Y) H) /\ ∀ i m xs Y H,W i m xs Y H ->
 (J.stop i H /\ ∀ p,H p=Ad->Q (.ref p) (upd H p (.lst xs))) \/
 (J.go i H/\xs.length<sizeLine /\ ∀ x H',J.yld i H x H'->g x Y H' λY2 H2=>tt Y2 H2 λb H3=>if b=Ab then te Y2 H3 λy H4 => ∃ m',m'<m/\W (i+1) m' (xs++[y]) Y2 H4 else ∃ m',m'<m/\W (i+1) m' xs Y2 H3)
theorem NR{scope:Bf}{pos:Az}{g:TG}{it:Ag}{tn:Af->As->Prop}{Q:VK}{E:Ah->Al->Prop}{RR:Ah->Ag->Gw->Al->Prop}(hc:X.calm=Ab)(B:BlockOk X scope N' ts)(I:Inv X pI Y H s)(T:Turn X.prog X.w X.K tg J fp it tn)(st:tn 0 s.heap)(hf : ∀ b∈fp,Fm X pI H b)(hcl : ∀ x c,cl.lookup x=Aa c->X.env.cells.lookup x=Aa c)(hcl2 : ∀ x,(x,CU)∈scope.names -> ∃ c,cl.lookup x=Aa c)(hg : ∀ cl C s H,PG (cxC X scope cl C N' s H fp) tg g)(ht : ∀ cl C s H,PTs (cxC X scope cl C N' s H fp) ifs tt)(he : ∀ cl C s H,PE (cxC X scope cl C N' s H fp) elt te)(h:Ib J ts g tt te Y H Q)(hRR : ∀ cl D C s' H' Y' pins' xs ys n m,Inv (cxC X scope cl C N' s H fp) pins' Y' H' s'->s'.heap.get? D=Aa { cls := .type "list",data := .seq (EF ys) n }->H' D=Ad->AU xs ys->xs.length<=sizeLine->s.heap.objs.size<=D->D≠C->s.heap.objs.size<=C->s'.heap.Ns C m->Q (.ref D) (upd H' D (.lst xs))->RR (.ref D) C (.ok .next) s'):AE (model X.prog X.w) X.A (newList []) (λacc s₃=>AE (model X.prog X.w) X.A (F7 scope X.env.globals cl [] X.env.qual Ad .none (Aa X.env)) (λcenv s₄=>D6 (model X.prog X.w) X.A (.compStart (.ListComp elt [⟨tg,iter,ifs,0⟩] scope pos) 0 (.ref it) acc {cenv with scope:=relabel scope X.env}) (RR acc cenv.locals) s₄) E s₃) E s:=by
 refine Eb (SK ?_);dsimp only;generalize hH2:s.heap.push { cls := .type "list",dict:=Ad,data := .seq ([]:Ac Ah).toArray }=H2;have hns₁:(E8 (H2.push { cls := .type "dict",data := .dict #[] }) scope.names).Ns H2.objs.size (λ_=>Ad):=(Heap.Ns.new H2 (.type "dict")).keeps (FQ _ _)
 have hkp₁ : ∀ b o,H2.get? b=Aa o->(E8 (H2.push { cls := .type "dict",data := .dict #[] }) scope.names).get? b=Aa o:=λb o e=>FQ _ _ b o (Aq _ e)
 have hown:=KM scope.names (H2.push { cls := .type "dict",data := .dict #[] }) cl;have hinj:=KN scope.names (H2.push { cls := .type "dict",data := .dict #[] }) cl;rw[By]at hown hinj;generalize hcl':Bt (H2.objs.size+1) scope.names cl=cl' at hown hinj;have hcf : ∀ x,(x,Bi) ∉ scope.names->cl'.lookup x=cl.lookup x:=λx hx=>by rw[<-hcl'];exact KU _ _ _ x hx
 have hch : ∀ x,(x,Bi)∈scope.names -> ∃ c,cl'.lookup x=Aa c/\H2.objs.size+1<=c:=λx hx=>by rw[<-hcl'];exact KO _ _ _ _ x (AS _) (.inl hx)
 generalize hh₁:E8 (H2.push { cls := .type "dict",data := .dict #[] }) scope.names=h₁ at hns₁ hkp₁ hown;have hC:H2.objs.size=s.heap.objs.size+1:=by rw[<-hH2,By]
 have hCle:s.heap.objs.size<=H2.objs.size:=by rw[hC];exact QZ _
 have hDC:s.heap.objs.size≠H2.objs.size:=by rw[hC];exact AI (Dz _)
 have below : ∀ b,b<s.heap.objs.size->b≠H2.objs.size:=λb hb=>by rw[hC];exact AI (Cs hb)
 have old : ∀ b o,s.heap.get? b=Aa o->h₁.get? b=Aa o:=λb o e=>hkp₁ b o (hH2 ▸ Aq _ e)
 have hacc:h₁.get? s.heap.objs.size=Aa { cls := .type "list",data := .seq ([]:Ac Ah).toArray 0 }:=hkp₁ _ _ (hH2 ▸ AC _ rfl);have clt : ∀ x c,cl.lookup x=Aa c->c<s.heap.objs.size:=λx c e=>by
  obtain⟨v,q⟩:=I.cell x c (hcl x c e);exact q.lt
 have bc:BCells X scope cl' H2.objs.size h₁:=by
  refine⟨λx c e => ?_,hinj (λx y c e1 e2=>I.ok.inj x y c (hcl x c e1) (hcl y c e2)) (λx c e=>Cs (Ar (clt x c e) hCle)),λx hx => ?_,λx hx => ?_⟩
  .rcases hown x c e with q|⟨q1,q2,q3⟩
   .exact .inl (hcl x c q)
   .exact .inr ⟨B.uniq _ q1,q2,q3⟩
  .have hm:=Br hx;obtain⟨c,e,hc⟩:=hch x hm;exact⟨c,e,hc⟩
  .have hno:(x,Bi) ∉ scope.names:=λz=>by
    have e1:=B.uniq _ hx;have e2:=B.uniq _ z;rw[show scope.names.lookup x=_ from e1]at e2
    cases e2
   obtain⟨c,e⟩:=hcl2 x hx;exact⟨c,by rw[hcf x hno];exact e,hcl x c e⟩
 have hfo : ∀ b∈fp,b<s.heap.objs.size:=λb hb=>by
  obtain⟨o,e,_⟩:=T.obj 0 _ st b hb;exact Au e
 generalize hD:s.heap.objs.size=D at *;generalize hC':H2.objs.size=C at *;have I0:Inv (cxC X scope cl' C N' s H fp) [] (hideT ts Y) H {s with heap:=h₁,toks:=s.toks+([]:Ac (Ai × Ah)).length}:=SZ (tk:=s.toks+([]:Ac (Ai × Ah)).length) I B hf (λb hb=>by rw[hD];exact hfo b hb) bc old (by rw[hD];exact hCle) hns₁
 have nD:H D=Ad:=I.hok.fresh (by rw[hD];exact AS _)
 have noD : ∀ b∈fp,b≠D:=λb hb=>AI (hfo b hb)
 have noC : ∀ b∈fp,b≠C:=λb hb=>below b (hfo b hb)
 have stfs:D ∉ frs X.stack:=λz=>by
  obtain⟨_,o,ho,_⟩:=I.stack.mem z;exact absurd (Au ho) (by rw[hD];exact A8 _)
 have cD : ∀ x c,cl'.lookup x=Aa c->c≠D:=λx c e z=>by
  rcases bc.own x c e with q|⟨_,q,_⟩
  .obtain⟨v,q⟩:=I.cell x c q;exact absurd q.lt (by rw[z,hD];exact A8 _)
  .rw[z]at q;exact absurd (Ar q hCle) (A8 _)
 have I1:Inv (cxC X scope cl' C N' s H fp) [(D,{ cls := .type "list",data := .seq ([]:Ac Ah).toArray 0 })] (hideT ts Y) H {s with heap:=h₁,toks:=s.toks+([]:Ac (Ai × Ah)).length}:=I0.pins_of λp hp=>by
  have e:=A6.mp hp;subst e;exact⟨hacc,nD,hDC,stfs,λv z=>by
   have z':HR _ _=HN v:=z;cases z'⟩
 have st1:tn 0 h₁:=T.keep _ _ _ st λb _ o e=>old b o e
 obtain⟨W,⟨m0,w0⟩,turn⟩:=h;have fpk : ∀{pl:Ac (Ag × AB)}{H':Hp},(∀ p∈pl,p.1=D)->(∀ b∈fp,H' b=Ad) -> ∀ b∈fp,Fm (cxC X scope cl' C N' s H fp) pl H' b:=λ{pl H'} hp hn b hb=>
  ⟨hn b hb,noC b hb,λz=>by
   rcases AK.mp (I.stkSub b z) with e|e
   .exact(hf b hb).2.1 e
   .exact(hf b hb).2.2.1 e,.inl hb,λx c e=>(bc.own x c e).elim ((hf b hb).2.2.2.2.1 x c) (λz q=>absurd (E7 hCle z.2.1) (Q2.mpr (by rw[q];exact DU (hfo b hb)))),λp hp'=>by
   have hp2:p∈pl:=hp';rw[hp p hp2];exact(noD b hb).symm⟩
 have loop : ∀ s₃:Al,s₃ = {s with heap:=h₁,toks:=s.toks+([]:Ac (Ai × Ah)).length} ->
   D6 (model X.prog X.w) X.A (.compLoop (.ListComp elt [⟨tg,iter,ifs,0⟩] scope pos) 0 (.ref it) (.ref D) (compEnvC scope cl' C X.env)) (RR (.ref D) C) s₃:=by
  rintro s₃ rfl;refine SY (λk s' => ∃ i Y' H' xs ys n,Inv (cxC X scope cl' C N' s H fp) [(D,{ cls := .type "list",data := .seq (EF ys) n })] Y' H' s'/\tn i s'.heap/\(∀ b∈fp,H' b=Ad)/\AU xs ys/\xs.length<=sizeLine/\W i k xs Y' H') ?_ m0
   ⟨0,_,H,[],[],0,I1,st1,λb hb=>(hf b hb).1,.nil,FS _,w0⟩
  rintro k s' ⟨i,Y',H',xs,ys,n,I',st',fr',rv,hz,w'⟩;have one : ∀ p∈[((D,{ cls := .type "list",data := .seq (EF ys) n }):Ag × AB)],p.1=D:=λp hp=>by rw[A6.mp hp]
  rcases turn i k xs Y' H' w' with ⟨stop,q⟩|⟨go,hlt,step⟩
  .refine BD (T.done (cxC X scope cl' C N' s H fp) rfl rfl rfl hc i _ s' Y' H' (λ_ _=>AV) I' (fpk one fr') st' stop) (λr s1 ⟨hr,J1⟩ => ?_) λ_ _ f=>f.elim
   subst hr;obtain⟨e,hn,_⟩:=J1.pin _ (A2 _ AM);obtain⟨m,hm,_⟩:=J1.loc;exact hRR cl' D C s1 H' Y' _ xs ys n m J1 e hn rv hz (AS _) hDC hCle hm (q D hn)
  .refine BD (T.item (cxC X scope cl' C N' s H fp) rfl rfl rfl hc i _ s' Y' H' (λ_ _=>AV) I' (fpk one fr') st' go) (λr s1 ⟨u,hr,h4⟩ => ?_) λ_ _ f=>f.elim
   subst hr;refine BD h4 (λ_ s5 ⟨x,H5,I5,r5,y5,st5,fr5⟩ => ?_) λ_ _ f=>f.elim
   have I5':=I5.pinned (fpk one fr5) (T.obj _ _ st5);refine BD (hg cl' C s H _ s5 Y' H5 x u _ I5' r5 (step x H5 y5)) (λ_ s6 ⟨Y6,H6,I6,q6⟩ => ?_) λ_ _ f=>f.elim
   refine BD (ht cl' C s H _ s6 Y6 H6 _ I6 q6) (λok s7 ⟨H7,I7,q7⟩ => ?_) λ_ _ f=>f.elim
   have again : ∀{s8:Al}{H8:Hp}{ys':Ac Ah}{n':Af},Inv (cxC X scope cl' C N' s H fp) ((D,{ cls := .type "list",data := .seq (EF ys') n' })::G1 fp s5.heap) Y6 H8 s8->Inv (cxC X scope cl' C N' s H fp) [(D,{ cls := .type "list",data := .seq (EF ys') n' })] Y6 H8 s8/\tn (i+1) s8.heap /\ ∀ b∈fp,H8 b=Ad:=λ{s8 H8 ys' n'} I8=>
    ⟨I8.pins_of λp hp=>I8.pin p (A2 _ (by rw[A6.mp hp];exact AM)),T.keep _ _ _ st5 λb hb o e=>(I8.pin (b,o) (A2 _ (AG _ (IL hb e)))).1,λb hb=>by
     obtain⟨o,e,d⟩:=T.obj _ _ st5 b hb;exact(I8.pin (b,o) (A2 _ (AG _ (IL hb e)))).2.1⟩
   cases ok with
   |false=>
    rw[AL (by decide)]at q7
    obtain⟨m',hm,w7⟩:=q7;obtain⟨a1,a2,a3⟩:=again I7;rw[AL (by decide)]
    exact⟨m',hm,i+1,Y6,H7,xs,ys,n,a1,a2,a3,rv,hz,w7⟩
   |true=>
    rw[AD rfl]at q7;rw[AD rfl];refine BD (he cl' C s H _ s7 Y6 H7 _ I7 q7) (λval s8 ⟨y,H8,I8,r8,m',hm,w8⟩ => ?_) λ_ _ f=>f.elim
    have hl:=rv.length;refine S5 (X:=cxC X scope cl' C N' s H fp) (ys:=ys) (n:=n) (pI:=G1 fp s5.heap) I8 (by show s.heap.objs.size<=D;rw[hD];exact AS _) (λp hp => ?_) cD (by omega) λs9 I9 kb => ?_
    .have hp2:p∈G1 fp s5.heap:=hp;exact noD _ (MV hp2).1
    .obtain⟨a1,a2,a3⟩:=again I9;exact⟨m',hm,i+1,Y6,H8,xs++[y],ys++[val],n+1,a1,a2,a3,rv.append (.cons r8 .nil),by rw[BP];exact hlt,w8⟩
 exact codeAny_compStart_list (loop _ rfl) (T.self _ 0 _ _ _ st1 (loop _ rfl))
theorem UV{scope:Bf}{pos:Az}{g:TG}(hc:X.calm=Ab)(B:BlockOk X scope N' ts)(hi:PI X tg iter wi)(hg : ∀ cl C s H fp,PG (cxC X scope cl C N' s H fp) tg g)(ht : ∀ cl C s H fp,PTs (cxC X scope cl C N' s H fp) ifs tt)(he : ∀ cl C s H fp,PE (cxC X scope cl C N' s H fp) elt te)(hs : ∀ x,Ca iter X.env x=pure x):PE X (.ListComp elt [⟨tg,iter,ifs,0⟩] scope pos) (λY H Q=>wi Y H λJ H1=>Ib J ts g tt te Y H1 Q):=by
 intro pI s Y H Q I h;obtain⟨cl,hclos,hcl,hcl2⟩:=M5 (scope:=scope) (env:=X.env) λx hx hk=>I.ok.has x.1 ((B.free x hx hk).imp id id)
 rw[eval_ListComp];refine Sy (use:=Ad) rfl hs hclos B.kind B.names (thn (hi pI s Y H _ I h) λv s1 h1=>thn h1 λitv s2 h2 => ?_)
 obtain⟨it,fp,tn,J,H2,e,I2,T,st2,f2,h3⟩:=h2;subst e;refine NR (RR:=λacc C=>compPost (model X.prog X.w) X.A X.xe Ad (EP X pI Y Q) acc C) hc B I2 T st2 f2 hcl hcl2 (λcl C s H=>hg cl C s H fp) (λcl C s H=>ht cl C s H fp) (λcl C s H=>he cl C s H fp) h3 λcl' D C s' H' Y' pins' xs ys n m I' hd hDn rv hz hD hDC hC hm q => ?_
 exact⟨m,hm,λh'' hs''=>⟨.ref D,_,MK I2 f2 I' hD hDC hC hd hDn rv hz hs'',rfl,q⟩⟩
theorem UR{n:Ai}{scope:Bf}{pos:Az}{g:TG}(hc:X.calm=Ab)(B:BlockOk X scope N' ts)(hi:PI X tg iter wi)(hg : ∀ cl C s H fp,PG (cxC X scope cl C N' s H fp) tg g)(ht : ∀ cl C s H fp,PTs (cxC X scope cl C N' s H fp) ifs tt)(he : ∀ cl C s H fp,PE (cxC X scope cl C N' s H fp) elt te)(hs : ∀ x,Ca iter X.env x=pure x)(hN:X.N.Nodup)(hni:X.N[i]? = Aa n)(hx:X.env.scope.names.lookup n=Aa .local)(hsw:CI (.ListComp elt [⟨tg,iter,ifs,0⟩] scope pos) (Aa (.Name n pos')) pos2.line X.env=pure Ab):PS X (.Assign [.Name n pos'] (.ListComp elt [⟨tg,iter,ifs,0⟩] scope pos) pos2) (Iu (λY H Q=>wi Y H λJ H1=>Ib J ts g tt te Y H1 Q) (DE i)):=by
 intro pI s Y H Dn I h;obtain⟨cl,hclos,hcl,hcl2⟩:=M5 (scope:=scope) (env:=X.env) λx hx hk=>I.ok.has x.1 ((B.free x hx hk).imp id id)
 rw[exec_Assign_Name_used _ _ _ _ hsw];refine Ap (Fe (Ap ?_));show AE _ X.A (do let _ <-comprehension (.ListComp elt [⟨tg,iter,ifs,0⟩] scope pos) scope X.env _ (newList []) Ae (eval iter X.env) (Aa (assign (.Name n pos') X.env))) _ _ s
 refine Ap (BD (Sy (use:=Aa (assign (.Name n pos') X.env)) (Q:=λ_ s'=>SP X pI Dn .next s') rfl hs hclos B.kind B.names
  (thn (hi pI s Y H _ I h) λv s1 h1=>thn h1 λitv s2 h2 => ?_)) (λ_ s' hq=>AY (AY hq)) λ_ _ e=>e)
 obtain⟨it,fp,tn,J,H2,e,I2,T,st2,f2,h3⟩:=h2;subst e;refine NR (RR:=λacc C=>compPost (model X.prog X.w) X.A X.xe (Aa (assign (.Name n pos') X.env)) (λ_ s'=>SP X pI Dn .next s') acc C) hc B I2 T st2 f2 hcl hcl2 (λcl C s H=>hg cl C s H fp) (λcl C s H=>ht cl C s H fp) (λcl C s H=>he cl C s H fp) h3 λcl' D C s' H' Y' pins' xs ys n' m I' hd hDn rv hz hD hDC hC hm q => ?_
 have J0:Inv X pI Y (upd H' D (.lst xs)) s':=MK I2 f2 I' hD hDC hC hd hDn rv hz (RU ..);refine Sw (MQ J0 hN hni (.inl hx) (show A7 (.ref D) (.ref D) from rfl) (λs'' J1 ⟨a,sb,ha⟩ => ?_) (.inr hx))
 have hC0:X.s₀.heap.objs.size<=C:=Cc I2.sz hC;have hL:C≠X.env.locals:=λz=>absurd (Ar I2.lt (z ▸ hC)) (A8 _)
 have hcC : ∀ x c,X.env.cells.lookup x=Aa c->c≠C:=λx c e z=>by
  obtain⟨v,q'⟩:=I2.cell x c e;exact absurd (Ar q'.lt (by rw[z];exact hC)) (A8 _)
 have hp : ∀ p∈X.pn++pI,p.1≠C:=λp hp z=>absurd (Ar (Au (I2.pin p hp).1) (by rw[z];exact hC)) (A8 _)
 have hCn:upd H' D (.lst xs) C=Ad:=by rw[Bq hDC.symm];exact I'.free
 have hCa:C≠a:=by
  rcases ha with rfl|ha
  .exact hL
  .exact λz=>hcC n a ha z.symm
 refine⟨m,hm.sameBut sb hCa,λh'' hs''=>⟨_,_,J1.turned (t':=s''.toks) (λb o hb e=>(hs''.2 b hb).trans e) hCn hL (.inr hC0) hcC hp,q⟩⟩
theorem Ho : ∀(ts:Ac Af)(U:Rho)(j:Af),(D0 ts U)[j]? = if j∈ts then (U[j]?).map (λ_=>Ad) else U[j]?
 |[],U,j=>by simp[D0]
 |t::ts,U,j=>by
  show (D0 ts (U.set t Ad))[j]? = _;rw[Ho ts];by_cases h1:j∈ts
  .rw[AD h1,AD (AG _ h1)];by_cases h2:t=j
   .subst h2;rw[D8];cases U[t]? <;> rfl
   .rw[B7 h2]
  .rw[AL h1];by_cases h2:t=j
   .subst h2;rw[AD AM,D8];cases U[t]? <;> rfl
   .rw[B7 h2,AL (by simp only[AK,EW];exact⟨λz=>h2 z.symm,h1⟩)]
theorem IQ : ∀(ts:Ac Af)(U:Rho),(D0 ts U).length=U.length
 |[],_=>rfl
 |t::ts,U=>by show (D0 ts (U.set t Ad)).length=_;rw[IQ ts,AX]
theorem Km : ∀(ts:Ac Af)(Y:L2.St){i:Af},i ∉ ts->(hideT ts Y)[i]? = Y[i]?
 |[],_,_,_=>rfl
 |t::ts,Y,i,h=>by
  simp only[AK,EW]at h;show (hideT ts (Y.set t Ad))[i]? = _;rw[Km ts _ h.2,B7 (λz=>h.1 z.symm)]
theorem MF : ∀(ts:Ac Af)(ds:Ac D)(U1 U2:Rho),U1.length=U2.length->(∀ j,j ∉ ts->U1[j]? = U2[j]?)->DB ts ds U1=DB ts ds U2
 |[],[],U1,U2,hl,h=>congrArg Aa (QM λj=>h j (by simp))
 |[],_::_,_,_,_,_=>rfl
 |_::_,[],_,_,_,_=>rfl
 |t::ts,d::ds,U1,U2,hl,h=>by
  refine MF ts ds _ _ (by rw[AX,AX];exact hl) λj hj => ?_
  by_cases e:t=j
  .subst e;rw[Fn,Fn,AD rfl,AD rfl,hl]
  .rw[B7 e,B7 e];exact h j (by simp only[AK,EW];exact⟨λz=>e z.symm,hj⟩)
theorem MC : ∀(ts us:Ac Af)(ds:Ac D)(U U':Rho),(∀ t∈ts,t∈us)->DB ts ds U=Aa U'->D0 us U'=D0 us U
 |[],us,[],U,U',_,e=>by cases e;rfl
 |t::ts,us,d::ds,U,U',hs,e=>by
  rw[MC ts us ds _ U' (λu hu=>hs u (AG _ hu)) e]
  refine QM λj => ?_
  rw[Ho,Ho];by_cases h:j∈us
  .rw[AD h,AD h,Fn];split
   .rename_i e2;subst e2;split
    .rename_i h3;rw[BJ h3];rfl
    .rename_i h3;rw[List.getElem?_eq_none (by omega)]
   .rfl
  .rw[AL h,AL h,B7];rintro rfl;exact h (hs _ AM)
 |[],_,_::_,_,_,_,e=>by cases e
 |_::_,_,[],_,_,_,e=>by cases e
section
variable{K:Fg}{CL:ClA}{A:Ag->Prop}{U U':Rho}{Y:L2.St}{H:Hp}
theorem Good.less(g:Good K CL A U Y H)(hl:U'.length=U.length)(h : ∀(i:Af)(d:D)(o:Ak),U'[i]? = Aa (Aa (d,o))->U[i]? = Aa (Aa (d,o))):Good K CL A U' Y H:=⟨λi d e=>g.sh i d (h i d Ae e),λi d e=>g.ow i d (h i d Ab e),hl.trans g.len⟩
theorem Good.put(g:Good K CL A U Y H)(t:Af)(r:Rep K CL H A v d):Good K CL A (U.set t (Aa (d,Ae))) (Y.set t (Aa v)) H:=by
 refine⟨λj e h => ?_,λj e h => ?_,by rw[AX,AX];exact g.len⟩
 .by_cases hj:t=j
  .subst hj;have e1:=FF h;cases e1;have hl:t<Y.length:=by
    rw[<-g.len];have:=(AT.mp h).1;simpa using this
   exact⟨v,by rw[Bm hl],r⟩
  .rw[B7 hj]at h;obtain⟨w',q,rw'⟩:=g.sh j e h;exact⟨w',by rw[B7 hj];exact q,rw'⟩
 .have hj:t≠j:=by
   rintro rfl;have:=FF h;cases this
  rw[B7 hj]at h;obtain⟨a,xs,ds,q,z⟩:=g.ow j e h;exact⟨a,xs,ds,by rw[B7 hj];exact q,z⟩
theorem Good.hide(g:Good K CL A U Y H)(ts:Ac Af):Good K CL A (D0 ts U) Y H:=g.less (IQ _ _) λi d o e=>by
 rw[Ho]at e;split at e
 .cases q:U[i]? with
  |none=>rw[q]at e;cases e
  |some x=>rw[q]at e;cases e
 .exact e
theorem Good.hideT(g:Good K CL A U Y H)(ts:Ac Af):Good K CL A (D0 ts U) (hideT ts Y) H:=by
 have key : ∀ i x,(D0 ts U)[i]? = Aa (Aa x)->U[i]? = Aa (Aa x)/\i ∉ ts:=λi x e=>by
  rw[Ho]at e;split at e
  .cases q:U[i]? with
   |none=>rw[q]at e;cases e
   |some x=>rw[q]at e;cases e
  .exact⟨e,by assumption⟩
 refine⟨λi d e => ?_,λi d e => ?_,by rw[IQ,KF];exact g.len⟩
 .obtain⟨e1,e2⟩:=key i _ e;obtain⟨v,q,r⟩:=g.sh i d e1;exact⟨v,by rw[Km _ _ e2];exact q,r⟩
 .obtain⟨e1,e2⟩:=key i _ e;obtain⟨a,xs,ds,q,r⟩:=g.ow i d e1;exact⟨a,xs,ds,by rw[Km _ _ e2];exact q,r⟩
end
noncomputable def GG(K:Fg)(CL:ClA)(ts:Ac Af)(as:D->Rho->R Rho)(g:TG):Prop := ∀ A U Y H v d U' Q,Good K CL A (D0 ts U) Y H->Rep K CL H A v d->as d U = .ok U'->(∀ Y',Good K CL A U' Y' H->Good K CL A (D0 ts U) Y' H->Q Y' H)->g v Y H Q
theorem V0(i:Af):GG K CL [i] (λd U => .ok (U.set i (Aa (d,Ae)))) (DE i):=λA U Y H v d U' Q g r e k=>by
 cases e;have g2:=g.put i r;have e1:(D0 [i] U).set i (Aa (d,Ae))=U.set i (Aa (d,Ae)):=by
  show (U.set i Ad).set i (Aa (d,Ae))=_;rw[QV]
 rw[e1]at g2;refine k _ g2 ?_;have:=g2.hide [i];have e2:D0 [i] (U.set i (Aa (d,Ae)))=D0 [i] U:=by
  show (U.set i _).set i Ad=U.set i Ad;rw[QV]
 rw[e2]at this;exact this
theorem NZ{K:Fg}{CL:ClA}{A:Ag->Prop}{H:Hp} : ∀(ts:Ac Af)(ds:Ac D)(vs:Ac V)(U U':Rho)(Y:L2.St)(Q:L2.St->Hp->Prop),Good K CL A U Y H->Reps K CL H A vs ds->DB ts ds U=Aa U'->(∀ Y',Good K CL A U' Y' H->Q Y' H)->(ts.foldr (λt u=>FG (DE t) u) FL) vs Y H Q
 |[],[],[],U,U',Y,Q,x,_,e,k=>by
  cases e;exact⟨rfl,k Y x⟩
 |t::ts,d::ds,v::vs,U,U',Y,Q,x,r,e,k=>⟨v,vs,rfl,NZ ts ds vs _ U' _ Q (x.put t r.1) r.2 e k⟩
 |[],_::_,_,_,_,_,_,_,_,e,_=>by cases e
 |_::_,[],_,_,_,_,_,_,_,e,_=>by cases e
 |[],[],_::_,_,_,_,_,_,r,_,_=>r.elim
 |_::_,_::_,[],_,_,_,_,_,r,_,_=>r.elim
theorem XS(ts:Ac Af):GG K CL ts (E1 ts) (HI K ts.length (ts.foldr (λt u=>FG (DE t) u) FL)):=λA U Y H v d U' Q g r e k=>by
 cases d with
 |tup ds=>
  obtain⟨a,xs,rfl,na,sq,rs⟩:=r;rw[M7]at e;cases e2:DB ts ds U with
  |none=>rw[e2]at e;cases e
  |some U2=>
   rw[e2]at e;cases e;have e3:DB ts ds (D0 ts U)=Aa U':=by
    rw[<-e2];exact MF ts ds _ _ (IQ _ _) λj hj=>by rw[Ho,AL hj]
   refine⟨a,xs,rfl,sq,by rw[rs.length];exact IK _ _ _ _ e2,NZ ts ds xs _ U' Y Q g rs e3 λY' g'=>k Y' g' ?_⟩
   have:=g'.hide ts;rw[MC ts ts ds U U' (λ_ h=>h) e2]at this
   exact this
 |_=>cases e
noncomputable abbrev W0:XW:=λ_ _=>AV
noncomputable def STs(X:Cx)(CL:ClA)(ifs:Ac Am)(f:Rho->R Ak):Prop := ∀ A,PTs X ifs (λY H Q=>AOk H A /\ ∃ U,Good X.K CL A U Y H/\Ch W0 H (f U) Q)
theorem Vy:STs X CL [] (λ_ => .ok Ab):=λA pI s Y H Q I ⟨hA,U,g,p⟩=>Vk pI s Y H Q I (p H (Ax.refl H))
theorem Vx(h:SB X CL W0 c f):STs X CL [c] f:=λA pI s Y H Q I q=>Vj (h A) pI s Y H Q I q
section
variable{X:Cx}{CL:ClA}{W:XW}{tg iter elt:Am}{ifs:Ac Am}{scope:Bf}{pos:Az}{N':Ac Ai}{ts:Ac Af}{fi:Rho->R (Ac D)}{fc:Rho->R Ak}{fe:Rho->R D}{as:D->Rho->R Rho}{g:TG}
theorem SX{g:D->R Ak}{f:D->R D}{x:D}{xs ys:Ac D}(h:Bx g f (x::xs) = .ok ys):(g x = .ok Ae/\Bx g f xs = .ok ys) \/ ∃ y r,g x = .ok Ab/\f x = .ok y/\Bx g f xs = .ok r/\ys=y::r:=by
 unfold Bx at h;cases e:g x with
 |bad=>rw[e]at h;cases h
 |exn z=>rw[e]at h;cases h
 |ok b=>
  rw[e,R.bind_ok]at h;cases b with
  |false=>exact .inl ⟨rfl,h⟩
  |true=>
   rw[AD rfl]at h;cases e2:f x with
   |bad=>rw[e2]at h;cases h
   |exn z=>rw[e2]at h;cases h
   |ok y=>
    rw[e2,R.bind_ok]at h;cases e3:Bx g f xs with
    |bad=>rw[e3]at h;cases h
    |exn z=>rw[e3]at h;cases h
    |ok r=>
     rw[e3,R.bind_ok]at h;cases h;exact .inr ⟨y,r,rfl,rfl,rfl,rfl⟩
theorem GY{β:Type}{r:R α}{f:α->R β}{b:β}(h:r.bind f = .ok b) : ∃ a,r = .ok a/\f a = .ok b:=by
 cases r with
 |ok a=>exact⟨a,rfl,h⟩
 |exn x=>cases h
 |bad=>cases h
theorem Tr{ds ys:Ac D}{Q:VK}(hGG:GG K CL ts as g)(hA:AOk H1 A)(gd:Good K CL A U Y H1)(yl:GP K CL A ds J H1)(hz:ds.length<=sizeLine)(hcp:Bx (λx=>(as x U).bind fc) (λx=>(as x U).bind fe) ds = .ok ys)(q : ∀ xs H2,Ax H1 H2->Reps K CL H2 A xs ys -> ∀ p,H2 p=Ad->Q (.ref p) (upd H2 p (.lst xs))):Ib J ts g (λY H Q=>AOk H A/\∃ U,Good K CL A U Y H/\Ch W0 H (fc U) Q) (λY H Q=>AOk H A/\∃ U,Good K CL A U Y H/\AZ (λH=>Rep K CL H A) W0 H (fe U) Q) Y H1 Q:=by
 refine⟨λi m xs Y' H'=>m=ds.length-i/\i<=ds.length/\xs.length<=i/\Ax H1 H'/\Good K CL A (D0 ts U) Y' H' /\ ∃ outs rest,Reps K CL H' A xs outs/\Bx (λx=>(as x U).bind fc) (λx=>(as x U).bind fe) (ds.drop i) = .ok rest/\ys=outs++rest,
  ⟨ds.length,by simp,FS _,AS _,Ax.refl _,gd.hideT ts,[],ys,trivial,hcp,rfl⟩,?_⟩
 rintro i m xs Y' H' ⟨rfl,hi,hxl,sm,g',outs,rest,rs,hc,e⟩;obtain⟨yst,ygo⟩:=yl H' (Kp.of sm) i;by_cases hlt:i<ds.length
 .have hd:ds[i]? = Aa ds[i]:=BJ hlt;obtain⟨hgo,hyl⟩:=ygo _ hd;refine .inr ⟨hgo,by omega,λx H2 hx => ?_⟩
  obtain⟨s2,rx⟩:=hyl x H2 hx;have rx':=rx A (λa ha => .inl ha) (hA.same sm)
  rw[DQ hlt]at hc;have sm2:=sm.trans s2;rcases SX hc with ⟨h1,h2⟩|⟨y,r,h1,h2,h3,h4⟩
  .obtain⟨U',ea,ec⟩:=GY h1;refine hGG A U Y' H2 x ds[i] U' _ (g'.same s2) rx' ea λY3 g3 g4=>⟨hA.same sm2,U',g3,?_⟩
   rw[ec];exact λH3 s3=>by
    dsimp only;rw[AL (by decide)]
    exact⟨ds.length-(i+1),by omega,rfl,hlt,by omega,sm2.trans s3,g4.same s3,outs,rest,(rs.same s2).same s3,h2,e⟩
  .obtain⟨U',ea,ec⟩:=GY h1;obtain⟨U2,ea2,ee⟩:=GY h2;rw[ea]at ea2;cases ea2;refine hGG A U Y' H2 x ds[i] U' _ (g'.same s2) rx' ea λY3 g3 g4=>⟨hA.same sm2,U',g3,?_⟩
   rw[ec];exact λH3 s3=>by
    dsimp only;rw[AD rfl];refine⟨(hA.same sm2).same s3,U',g3.same s3,?_⟩;rw[ee];exact λv H4 s4 r4=>⟨ds.length-(i+1),by omega,rfl,hlt,by rw[BP,QQ];omega,(sm2.trans s3).trans s4,(g4.same s3).same s4,outs++[y],r,(((rs.same s2).same s3).same s4).append ⟨r4,trivial⟩,h3,by rw[e,h4];simp⟩
 .have hk':ds.length<=i:=by omega
  rw[QL hk']at hc;have hr:rest=[]:=by cases hc;rfl
  subst hr;rw[Cp]at e;subst e;exact .inl ⟨yst hk',λp hp=>q xs H' sm rs p hp⟩
theorem DO.ok_of{r:R (Ac D)}{f:Ac D->R D}{Q:VK}{Q':It->Hp->Prop}(h:AZ Rq W H (r.bind f) Q)(k : ∀ ds J H',r = .ok ds->Ax H H'->GP K CL A ds J H'->ds.length<=sizeLine->AZ Rq W H' (f ds) Q->Q' J H'):DO K CL A W H r Q':=by
 cases r with
 |ok d=>exact λJ H2 s2 y z=>k d J H2 rfl s2 y z (AZ.same s2 h)
 |exn x=>exact h
 |bad=>exact h
theorem X4{r:R α}{a:α}(h:noX r = .ok a):r = .ok a:=by
 cases r with
 |ok b=>exact h
 |exn x=>cases h
 |bad=>cases h
theorem M4{Q:VK}(hGG:GG X.K CL ts as g)(hA:AOk H A)(gd:Good X.K CL A U Y H)(p:AZ (Dx X.K CL Ab H A) W H ((fi U).bind λxs=>(noX (Bx (λx=>(as x U).bind fc) (λx=>(as x U).bind fe) xs)).bind λys => .ok (.lst ys)) Q):DO X.K CL A W H (fi U) (λJ H1=>Ib J ts g (λY H Q=>AOk H A/\∃ U,Good X.K CL A U Y H/\Ch W0 H (fc U) Q) (λY H Q=>AOk H A/\∃ U,Good X.K CL A U Y H/\AZ (λH=>Rep X.K CL H A) W0 H (fe U) Q) Y H1 Q):=
 DO.ok_of p λds J H1 e1 s1 yl hz p1=>by
  cases e2:noX (Bx (λx=>(as x U).bind fc) (λx=>(as x U).bind fe) ds) with
  |ok ys=>
   rw[e2]at p1;exact Tr hGG (hA.same s1) (gd.same s1) yl hz (X4 e2) λxs H2 s2 rs q hq=>p1 _ _ (s2.trans (FE hq _)) (Ic (s1.trans s2) ((hA.same s1).same s2) hq rs)
  |exn x=>rw[e2]at p1;cases hq:Bx (λx=>(as x U).bind fc) (λx=>(as x U).bind fe) ds <;> rw[hq]at e2 <;> cases e2
  |bad=>rw[e2]at p1;exact p1.elim
theorem U_1(hc:X.calm=Ab)(B:BlockOk X scope N' ts)(hi:SI X CL W tg iter fi)(hGG:GG X.K CL ts as g)(hg : ∀ cl C s H fp,PG (cxC X scope cl C N' s H fp) tg g)(ht : ∀ cl C s H fp,STs (cxC X scope cl C N' s H fp) CL ifs fc)(he : ∀ cl C s H fp,SE (cxC X scope cl C N' s H fp) CL W0 elt fe)(hs : ∀ x,Ca iter X.env x=pure x):SC X CL W Ab (.ListComp elt [⟨tg,iter,ifs,0⟩] scope pos) (λU=>(fi U).bind λxs=>(noX (Bx (λx=>(as x U).bind fc) (λx=>(as x U).bind fe) xs)).bind λys => .ok (.lst ys)):=λA pI s Y H Q I ⟨hA,U,gd,p⟩=>
 UV hc B (hi A) hg (λcl C s H fp=>ht cl C s H fp A) (λcl C s H fp=>he cl C s H fp A) hs pI s Y H Q I ⟨hA,U,gd,M4 hGG hA gd p⟩
end
section
variable{K:Fg}{CL:ClA}{Fz:Ag->HO->Prop}{B:Ag->Prop}{U:Rho}{Y:L2.St}{H H':Hp}
theorem Sx.setF(x:Sx K CL Fz B U Y H)(s:Ax H H'){ds:Ac D}(h0:H a=Ad)(h1:H' a=Aa (.lst xs))(r:Reps K CL H' (λb=>BO B U Y b\/b=a) xs ds):Sx K CL Fz B (U.set i (Aa (.lst ds,Ab))) (Y.set i (Aa (.ref a))) H':=by
 have nA : ¬ BO B U Y a:=x.aok.new h0;have own : ∀(j:Af)(e:D),(U.set i (Aa (.lst ds,Ab)))[j]? = Aa (Aa (e,Ab))->(i=j/\e = .lst ds)\/(i≠j/\U[j]? = Aa (Aa (e,Ab))):=λj e h=>by
  by_cases hj:i=j
  .subst hj;have:=FF h;cases this;exact .inl ⟨rfl,rfl⟩
  .exact .inr ⟨hj,by rw[B7 hj]at h;exact h⟩
 have atI : ∀{j:Af}{y:Sl},(U.set i (Aa (.lst ds,Ab)))[j]? = Aa y->i=j->(Y.set i (Aa (.ref a)))[j]? = Aa (Aa (.ref a)):=λ{j y} h e=>by
  subst e;have hl:i<Y.length:=by
   rw[<-x.len];have:=(AT.mp h).1;simpa using this
  rw[Bm hl]
 have sub : ∀ b,BO B (U.set i (Aa (.lst ds,Ab))) (Y.set i (Aa (.ref a))) b->BO B U Y b\/b=a:=λb h=>by
  rcases h with h|⟨j,e,h1,h2⟩
  .exact .inl (.inl h)
  .rcases own j e h1 with ⟨hj,_⟩|⟨hj,h1'⟩
   .rw[atI h1 hj]at h2;cases h2;exact .inr rfl
   .rw[B7 hj]at h2;exact .inl (.inr ⟨j,e,h1',h2⟩)
 have wide : ∀{v:V}{d:D},Rep K CL H (BO B U Y) v d->Rep K CL H' (BO B (U.set i (Aa (.lst ds,Ab))) (Y.set i (Aa (.ref a)))) v d:=λr=>(Rep.wide (λb hb=>(sub b hb).imp id λe=>by rw[e];exact h0) _ r).same s
 have wides : ∀{v:Ac V}{d:Ac D},Reps K CL H (BO B U Y) v d->Reps K CL H' (BO B (U.set i (Aa (.lst ds,Ab))) (Y.set i (Aa (.ref a)))) v d:=λr=>(Reps.wide (λb hb=>(sub b hb).imp id λe=>by rw[e];exact h0) _ r).same s
 refine⟨⟨λj e h => ?_,λj e h => ?_,by rw[AX,AX];exact x.len⟩,λb h => ?_,λj e b g1 g2 => ?_,λj k e f b g1 g2 g3 g4 => ?_,λb o z=>s _ _ (x.same b o z),by rw[AX,AX];exact x.len⟩
 .have hj:i≠j:=by
   rintro rfl;have:=FF h;cases this
  rw[B7 hj]at h;obtain⟨w',q,rw'⟩:=x.good.sh j e h;exact⟨w',by rw[B7 hj];exact q,wide rw'⟩
 .rcases own j e h with ⟨hj,rfl⟩|⟨hj,h'⟩
  .have q:=atI h hj;exact⟨a,xs,ds,q,rfl,.inr ⟨j,_,h,q⟩,h1,Reps.sub sub _ r⟩
  .obtain⟨b,ys,es,q,z,ha,hh,rr⟩:=x.good.ow j e h';have q':(Y.set i (Aa (.ref a)))[j]? = Aa (Aa (.ref b)):=by rw[B7 hj];exact q
   exact⟨b,ys,es,q',z,.inr ⟨j,e,h,q'⟩,s _ _ hh,wides rr⟩
 .rcases sub b h with z|z
  .obtain⟨ys,q⟩:=x.aok b z;exact⟨ys,s _ _ q⟩
  .rw[z];exact⟨xs,h1⟩
 .rcases own j e g1 with ⟨hj,_⟩|⟨hj,h'⟩
  .rw[atI g1 hj]at g2;cases g2;refine⟨λo z => ?_,λz=>nA (.inl z)⟩
   have:=x.same a o z;rw[h0]at this;cases this
  .rw[B7 hj]at g2;exact x.new j e b h' g2
 .rcases own j e g1 with ⟨hj,_⟩|⟨hj,h'⟩
  .rw[atI g1 hj]at g3;cases g3;rcases own k f g2 with ⟨hk,_⟩|⟨hk,h''⟩
   .exact hj.symm.trans hk
   .rw[B7 hk]at g4;exact absurd (.inr ⟨k,f,h'',g4⟩) nA
  .rw[B7 hj]at g3;rcases own k f g2 with ⟨hk,_⟩|⟨hk,h''⟩
   .rw[atI g2 hk]at g4;cases g4;exact absurd (.inr ⟨j,e,h',g3⟩) nA
   .rw[B7 hk]at g4;exact x.dis j k e f b h' h'' g3 g4
theorem Sx.upd(x:Sx K CL Fz B U Y H){i:Af}{d:D}{a:Ag}{xs:Ac V}{ds:Ac D}(hi:U[i]? = Aa (Aa (d,Ab)))(ha:Y[i]? = Aa (Aa (.ref a)))(r:Reps K CL H (BO B U Y) xs ds):Sx K CL Fz B (U.set i (Aa (.lst ds,Ab))) Y (L2.upd H a (.lst xs)):=by
 have oa:BO B U Y a := .inr ⟨i,d,hi,ha⟩;have hil:i<U.length:=(AT.mp hi).1;have get : ∀(j:Af)(e:D),(U.set i (Aa (.lst ds,Ab)))[j]? = Aa (Aa (e,Ab))↔(i=j/\e = .lst ds)\/(i≠j/\U[j]? = Aa (Aa (e,Ab))):=λj e=>by
  by_cases hj:i=j
  .subst hj;rw[Bm hil];simp;exact⟨λz=>z.symm,λz=>z.symm⟩
  .rw[B7 hj];simp[hj]
 have same : ∀ b,BO B (U.set i (Aa (.lst ds,Ab))) Y b↔BO B U Y b:=λb=>by
  constructor
  .rintro (h|⟨j,e,h1,h2⟩)
   .exact .inl h
   .rcases (get j e).mp h1 with ⟨rfl,_⟩|⟨_,h1⟩
    .exact .inr ⟨i,d,hi,h2⟩
    .exact .inr ⟨j,e,h1,h2⟩
  .rintro (h|⟨j,e,h1,h2⟩)
   .exact .inl h
   .by_cases hj:i=j
    .subst hj;exact .inr ⟨i,.lst ds,(get i _).mpr (.inl ⟨rfl,rfl⟩),h2⟩
    .exact .inr ⟨j,e,(get j e).mpr (.inr ⟨hj,h1⟩),h2⟩
 have kp:Kp (BO B U Y) H (L2.upd H a (.lst xs)):=λb o e na=>by
  have hne:b≠a:=by
   rintro rfl;exact na oa
  rw[Bq hne];exact e
 refine⟨⟨λj e h => ?_,λj e h => ?_,by rw[AX];exact x.len⟩,λb h => ?_,λj e b g1 g2 => ?_,λj k e f b g1 g2 g3 g4 => ?_,λb o z => ?_,by rw[AX];exact x.len⟩
 .have hj:i≠j:=by
   rintro rfl;have:=FF h;cases this
  rw[B7 hj]at h;obtain⟨w',q,rw'⟩:=x.good.sh j e h;exact⟨w',q,Rep.sub (λb hb=>(same b).mp hb) _ (Rep.kp kp _ rw')⟩
 .rcases (get j e).mp h with ⟨rfl,rfl⟩|⟨hj,h'⟩
  .exact⟨a,xs,ds,ha,rfl,(same a).mpr oa,DZ,Reps.sub (λb hb=>(same b).mp hb) _ (Reps.kp kp _ r)⟩
  .obtain⟨b,ys,es,q,z,hb,hh,rr⟩:=x.good.ow j e h';have hne:b≠a:=λz=>hj (x.dis i j d e a hi h' ha (z ▸ q))
   exact⟨b,ys,es,q,z,(same b).mpr hb,by rw[Bq hne];exact hh,Reps.sub (λb hb=>(same b).mp hb) _ (Reps.kp kp _ rr)⟩
 .obtain⟨ys,q⟩:=x.aok b ((same b).mp h);by_cases e:b=a
  .rw[e];exact⟨xs,DZ⟩
  .exact⟨ys,by rw[Bq e];exact q⟩
 .rcases (get j e).mp g1 with ⟨rfl,_⟩|⟨_,h'⟩
  .exact x.new i d b hi g2
  .exact x.new j e b h' g2
 .rcases (get j e).mp g1 with ⟨rfl,_⟩|⟨hj,h'⟩
  .rcases (get k f).mp g2 with ⟨rfl,_⟩|⟨hk,h''⟩
   .rfl
   .exact x.dis i k d f b hi h'' g3 g4
  .rcases (get k f).mp g2 with ⟨rfl,_⟩|⟨hk,h''⟩
   .exact x.dis j i e d b h' hi g3 g4
   .exact x.dis j k e f b h' h'' g3 g4
 .have hne:b≠a:=λe=>(x.new i d a hi ha).1 o (e ▸ z)
  rw[Bq hne];exact x.same b o z
theorem Sx.rel(x:Sx K CL Fz B U Y H)(hi:U[i]? = Aa (Aa (d,Ab))):Sx K CL Fz B (U.set i (Aa (d,Ae))) Y H:=by
 obtain⟨a,xs,ds,q,rfl,oa,hh,rr⟩:=x.good.ow i d hi;have own : ∀(j:Af)(e:D),(U.set i (Aa (.lst ds,Ae)))[j]? = Aa (Aa (e,Ab))->i≠j/\U[j]? = Aa (Aa (e,Ab)):=λj e h=>by
  by_cases hj:i=j
  .subst hj;have:=FF h;cases this
  .exact⟨hj,by rw[B7 hj]at h;exact h⟩
 have sub : ∀ b,BO B (U.set i (Aa (.lst ds,Ae))) Y b->BO B U Y b:=λb h=>by
  rcases h with h|⟨j,e,h1,h2⟩
  .exact .inl h
  .exact .inr ⟨j,e,(own j e h1).2,h2⟩
 have na : ¬ BO B (U.set i (Aa (.lst ds,Ae))) Y a:=λh=>by
  rcases h with h|⟨j,e,h1,h2⟩
  .exact(x.new i _ a hi q).2 h
  .obtain⟨hj,h1⟩:=own j e h1;exact hj (x.dis i j _ e a hi h1 q h2)
 refine⟨⟨λj e h => ?_,λj e h => ?_,by rw[AX];exact x.len⟩,λb h=>x.aok b (sub b h),λj e b g1 g2=>x.new j e b (own j e g1).2 g2,λj k e f b g1 g2 g3 g4=>x.dis j k e f b (own j e g1).2 (own k f g2).2 g3 g4,x.same,by rw[AX];exact x.len⟩
 .by_cases hj:i=j
  .subst hj;have e1:=FF h;cases e1;exact⟨_,q,a,xs,rfl,.inl na,SqL.of hh,Reps.sub sub _ rr⟩
  .rw[B7 hj]at h;obtain⟨w',q',rw'⟩:=x.good.sh j e h;exact⟨w',q',Rep.sub sub _ rw'⟩
 .obtain⟨hj,h'⟩:=own j e h;obtain⟨b,ys,es,q',z,hb,hh',rr'⟩:=x.good.ow j e h';exact⟨b,ys,es,q',z,.inr ⟨j,e,h,q'⟩,hh',Reps.sub sub _ rr'⟩
end
section
variable{X:Cx}{CL:ClA}{W:XW}{pos:Az}{e:Am}{fe:Rho->R D}{fr:Ak}
theorem BN.exC{f:D->O}{Q:VK}(x:Sx X.K CL Fz B U Y H)(h:BN X.K CL Fz B W (O.of U r f) D')(k : ∀ d v H',r = .ok d->Ax H H'->Dx X.K CL fr H A H' v d->Sx X.K CL Fz B U Y H'->BN X.K CL Fz B W (f d) D'->Q v H'):AZ (Dx X.K CL fr H A) W H r Q:=by
 cases r with
 |ok d=>exact λv H' s r=>k d v H' rfl s r (x.grow s) h
 |exn y=>exact λH' s=>h H' λb o z=>s _ _ (x.same b o z)
 |bad=>exact h
noncomputable def SAs(X:Cx)(CL:ClA)(W:XW)(fr:Ak)(i:Af)(st:AJ)(f:Rho->R D):Prop := ∀ A,PS X st (Iu (λY H Q=>AOk H A /\ ∃ U,Good X.K CL A U Y H/\AZ (Dx X.K CL fr H A) W H (f U) Q) (DE i))
theorem SC.sas{n:Ai}(hN:X.N.Nodup)(hi:X.N[i]? = Aa n)(hx:Loc X.env.scope n)(he:SC X CL W fr e fe)(hs:CI e (Aa (.Name n pos')) pos.line X.env=pure Ae)(hf:X.fn n=Ab\/X.env.scope.names.lookup n=Aa .local):SAs X CL W fr i (.Assign [.Name n pos'] e pos) fe:=
 λA=>W3 hN hi hx (he A) hs hf
theorem Uo{n:Ai}{scope:Bf}{fe:Rho->R D}{g:TG}(hc:X.calm=Ab)(B:BlockOk X scope N' ts)(hi:SI X CL W tg iter fi)(hGG:GG X.K CL ts as g)(hg : ∀ cl C s H fp,PG (cxC X scope cl C N' s H fp) tg g)(ht : ∀ cl C s H fp,STs (cxC X scope cl C N' s H fp) CL ifs fc)(he : ∀ cl C s H fp,SE (cxC X scope cl C N' s H fp) CL W0 elt fe)(hs : ∀ x,Ca iter X.env x=pure x)(hN:X.N.Nodup)(hni:X.N[i]? = Aa n)(hx:X.env.scope.names.lookup n=Aa .local)(hsw:CI (.ListComp elt [⟨tg,iter,ifs,0⟩] scope pos) (Aa (.Name n pos')) pos2.line X.env=pure Ab):SAs X CL W Ab i (.Assign [.Name n pos'] (.ListComp elt [⟨tg,iter,ifs,0⟩] scope pos) pos2) (λU=>(fi U).bind λxs=>(noX (Bx (λx=>(as x U).bind fc) (λx=>(as x U).bind fe) xs)).bind λys =>.ok (.lst ys)):=λA pI s Y H Dn I ⟨hA,U,gd,p⟩=>
 UR hc B (hi A) hg (λcl C s H fp=>ht cl C s H fp A) (λcl C s H fp=>he cl C s H fp A) hs hN hni hx hsw pI s Y H Dn I ⟨hA,U,gd,M4 hGG hA gd p⟩
theorem OL{st:AJ}(h:SAs X CL W fr i st fe):SS X CL W st (λU=>O.of U (fe U) λd => .next (U.set i (Aa (d,Ae)))):=λFz B pI s Y H D I ⟨U,x,p⟩=>
 h (BO B U Y) pI s Y H D I ⟨x.aok,U,x.good,BN.exC x p λd v H' _ s r x' q=>q _ H' (x'.set i r.1)⟩
theorem VH{st:AJ}(h:SAs X CL W Ab i st fe):SS X CL W st (λU=>O.of U (fe U) λd=>setF U i d):=λFz B pI s Y H D I ⟨U,x,p⟩=>
 h (BO B U Y) pI s Y H D I ⟨x.aok,U,x.good,BN.exC x p λd v H' _ s r x' q=>by
  cases d with
  |lst ds=>
   obtain⟨a,xs,rfl,h0,h1,rs⟩:=r.2 rfl ds rfl;exact q _ H' (x.setF s h0 h1 rs)
  |dic ds=>exact r.1.elim
  | _=>exact q.elim⟩
theorem VD(he:SC X CL W Ab e fe):SS X CL W (.Return (Aa e) pos) (λU=>O.of U (fe U) λd => .ret d Ab):=λFz B pI s Y H D I ⟨U,x,p⟩=>
 Jn (he (BO B U Y)) pI s Y H D I ⟨x.aok,U,x.good,BN.exC x p λd v H' _ s r x' q=>q v H' x'.same (Rep.sub (λa h => .inl h) _ r.1) λ_ ds e=>by
  obtain⟨a,xs,h0,h1,h2,h3⟩:=r.2 rfl ds e;refine⟨a,xs,h0,λo z => ?_,h2,Reps.sub (λb hb=>hb.imp .inl id) _ h3⟩
  have:=x.same a o z;rw[h1]at this;cases this⟩
noncomputable def Mc(U:Rho)(i:Af):Ak:=match U[i]? with
  |some (Aa (_,o))=>o
  |_=>Ae
theorem VB(he:PE X e (Fk i)):SS X CL W (.Return (Aa e) pos) (λU=>O.of U (Ey U i) λd => .ret d (Mc U i)):=λFz B pI s Y H D I ⟨U,x,p⟩=>
 Jn he pI s Y H D I (by
  dsimp only at p;cases e:Ey U i with
  |bad=>rw[e]at p;exact p.elim
  |exn z=>exact(Nj e).elim
  |ok d=>
   rw[e]at p;obtain⟨o,e⟩:=NG e;have eo:Mc U i=o:=by unfold Mc;rw[e]
   rw[O.of_ok,eo]at p;cases o with
   |false=>
    obtain⟨v,q,r⟩:=x.good.sh i d e;exact⟨v,q,p v H x.same (Rep.sub (λa h => .inl h) _ r) λz=>nomatch z⟩
   |true=>
    obtain⟨a,xs,ds,q,rfl,ha,hh,r⟩:=x.good.ow i d e;obtain⟨n1,n2⟩:=x.new i _ a e q;refine⟨_,q,p _ H x.same ⟨a,xs,rfl,.inl n2,SqL.of hh,Reps.sub (λa h => .inl h) _ r⟩ λ_ ds' e' => ?_⟩
    cases e';exact⟨a,xs,rfl,n1,hh,Reps.sub (λb hb=>hb.elim .inl λz=>z ▸ ha) _ r⟩)
theorem Jb{ds:Ac D}(h:Ci U i = .ok ds):U[i]? = Aa (Aa (.lst ds,Ab)):=by
 unfold Ci at h;split at h
 .rename_i e;cases h;exact e
 .cases h
theorem IT(h:Ci U i = .exn x):AV:=by
 unfold Ci at h;split at h <;> cases h
variable{o:Am}{i:Af}{apos cpos:Az}
theorem Wu(ho:PE X o (Fk i))(he:SE X CL W e fe)(hbase:DL o "append" X.env (eval o X.env)=eval o X.env)(hfew:((B2 cpos (At [e] X.env)).all (λx => !x.1)&&(FB cpos (Eh [] X.env)).all (λx=>x.1.isSome)&&decide ([e].length+([]:Ac CA).length+(if ([]:Ac CA).isEmpty then 0 else 1)<30))=Ab)(hline:(apos.endLine==cpos.line)=Ab)(hs:At [e] X.env=[(Ae,eval e X.env)])(hsw:CI (.Call (.Attribute o "append" apos) [e] [] cpos) Ad pos.line X.env=pure Ae):
  SS X CL W (.Expr (.Call (.Attribute o "append" apos) [e] [] cpos) pos) (λU=>O.of U (Ci U i) λxs=>O.of U (fe U) λd=>if CD (xs.length+1)=Ab then .next (U.set i (Aa (.lst (xs++[d]),Ab))) else .bad):=λFz B pI s Y H D I ⟨U,x,p⟩=>by
 refine IZ (Iq Cv PySem.F.slot_list_append PySem.F.type_list_append TC ho (Du (he (BO B U Y)) EQ hs) hbase hfew hline hs rfl) hsw pI s Y H D I ?_;dsimp only at p;cases e1:Ci U i with
 |bad=>rw[e1]at p;exact p.elim
 |exn z=>exact(IT e1).elim
 |ok ds=>
  rw[e1,O.of_ok]at p;have hi:=Jb e1;obtain⟨a,xs,ds',q,e2,ha,hh,r⟩:=x.good.ow i _ hi;cases e2;refine⟨_,q,.inl ⟨rfl,xs,SqL.of hh⟩,x.aok,U,x.good,BN.ex x p λd v H' _ s rv x' q' => ?_⟩
  split at q'
  .rename_i hz;refine⟨a,xs,v,rfl,rfl,s _ _ hh,?_,q' _ _ (x'.upd hi q ((r.same s).append ⟨rv,trivial⟩))⟩;have:=Gg hz;rw[r.length];omega
  .exact q'.elim
theorem Wt(ho:PE X o (Fk i))(he:SC X CL W Ab e fe)(hbase:DL o "extend" X.env (eval o X.env)=eval o X.env)(hfew:((B2 cpos (At [e] X.env)).all (λx => !x.1)&&(FB cpos (Eh [] X.env)).all (λx=>x.1.isSome)&&decide ([e].length+([]:Ac CA).length+(if ([]:Ac CA).isEmpty then 0 else 1)<30))=Ab)(hline:(apos.endLine==cpos.line)=Ab)(hs:At [e] X.env=[(Ae,eval e X.env)])(hsw:CI (.Call (.Attribute o "extend" apos) [e] [] cpos) Ad pos.line X.env=pure Ae):
  SS X CL W (.Expr (.Call (.Attribute o "extend" apos) [e] [] cpos) pos) (λU=>O.of U (Ci U i) λxs=>O.of U (fe U) λd=>O.of U (Hx d) λys=>if CD (xs.length+ys.length)=Ab then .next (U.set i (Aa (.lst (xs++ys),Ab))) else .bad):=λFz B pI s Y H D I ⟨U,x,p⟩=>by
 refine IZ (Iq Cv Dq RT TB ho (Du (he (BO B U Y)) EQ hs) hbase hfew hline hs rfl) hsw pI s Y H D I ?_;dsimp only at p;cases e1:Ci U i with
 |bad=>rw[e1]at p;exact p.elim
 |exn z=>exact(IT e1).elim
 |ok ds=>
  rw[e1,O.of_ok]at p;have hi:=Jb e1;obtain⟨a,xs,ds',q,e2,ha,hh,r⟩:=x.good.ow i _ hi;cases e2;refine⟨_,q,.inl ⟨rfl,xs,SqL.of hh⟩,x.aok,U,x.good,BN.exC x p λd v H' _ s rv x' q' => ?_⟩
  cases d with
  |lst es=>
   obtain⟨b,ys,rfl,h0,h1,rs⟩:=rv.2 rfl es rfl;rw[MP,O.of_ok]at q';split at q'
   .rename_i hz;refine⟨a,b,xs,ys,rfl,rfl,s _ _ hh,h1,?_,q' _ _ (x'.upd hi q ((r.same s).append (Reps.sub (λc hc => .inl hc) _ rs)))⟩
    rw[r.length,rs.length];exact Gg hz
   .exact q'.elim
  |_=>exact q'.elim
theorem Ws{k:Am}{fk:Rho->R Ov.D}{spos:Az}(ho:PE X o (Fk i))(hk:ST X CL W k fk)(he:SE X CL W e fe)(ha : ∀ v,assign (.Subscript o k spos) X.env v=(do
      let ov <-holding [v] (eval o X.env)
      let iv <-holding [v,ov] (eval k X.env)
      GR spos
      holding [v,ov,iv] (setItem ov iv v)
      release [v,ov,iv] []))(hs:Fd [.Subscript o k spos] e pos.line X.env=pure Ae)(hw:El [.Subscript o k spos] e X.env=pure Ad)(h1:(BB [.Subscript o k spos] X.env).map (·.2)=[assign (.Subscript o k spos) X.env]):
    SS X CL W (.Assign [.Subscript o k spos] e pos) (λU=>O.of U (fe U) λd=>O.of U (Ci U i) λxs=>O.of U ((fk U).bind DF) λj=>match plD xs.length j with
      |some n => .next (U.set i (Aa (.lst (xs.set n d),Ab)))
      | none => .bad):=λFz B pI s Y H D I ⟨U,x,p⟩=>
  Lo (he (BO B U Y)) (W9 ho (hk (BO B U Y)) Ui ha) hs hw h1 pI s Y H D I ⟨x.aok,U,x.good,BN.ex x p λd v H' _ s rv x' q'=>by
    cases e1:Ci U i with
    |bad=>rw[e1]at q';exact q'.elim
    |exn z=>exact(IT e1).elim
    |ok ds=>
      rw[e1,O.of_ok]at q';have hi:=Jb e1;obtain⟨a,xs,ds',q,e2,ha,hh,r⟩:=x'.good.ow i _ hi;cases e2;refine⟨_,q,x'.aok,U,x'.good,?_⟩;cases e3:fk U with
      |bad=>rw[e3]at q';exact q'.elim
      |exn z=>rw[e3]at q';exact λH2 s2=>q' H2 λb o z=>s2 _ _ (x'.same b o z)
      |ok dk=>
        rw[e3]at q';intro y H2 s2 ry;cases dk with
        |int j=>
          have ey:=ry.int_of;subst ey;rw[R.bind_ok,Tu,O.of_ok]at q';cases e4:plD ds.length j with
          |none=>rw[e4]at q';exact q'.elim
          |some n=>
            rw[e4]at q';refine⟨a,xs,j,n,rfl,rfl,s2 _ _ hh,?_,q' _ _ ((x'.grow s2).upd hi q (Reps.set (rv.same s2) n (r.same s2)))⟩;rw[r.length];exact e4
        | _=>exact q'.elim⟩
theorem VG{as:Ov.D->Rho->R Rho}{g:TG}(hGT:GT X.K CL as g)(hg:PG X tg g)(he:SE X CL W e fe)(hs:Fd [tg] e pos.line X.env=pure Ae)(hw:El [tg] e X.env=pure Ad)(h1:(BB [tg] X.env).map (·.2)=[assign tg X.env])(hax : ∀ d U x,as d U ≠ .exn x):SS X CL W (.Assign [tg] e pos) (λU=>O.of U (fe U) λd=>O.of U (as d U) λU' =>.next U'):=λFz B pI s Y H D I ⟨U,x,p⟩=>
 Lo (he (BO B U Y)) hg hs hw h1 pI s Y H D I ⟨x.aok,U,x.good,BN.ex x p λd v H' _ s rv x' q'=>by
  cases ea:as d U with
  |bad=>rw[ea]at q';exact q'.elim
  |exn z=>exact absurd ea (hax _ _ z)
  |ok U2=>
   rw[ea,O.of_ok]at q';exact hGT Fz B U Y H' v d U2 _ x' rv ea λY' x3=>q' Y' H' x3⟩
theorem Vz{rest:Ac AJ}{f:Rho->O}(i:Af)(h:SSs X CL W rest f):SSs X CL W rest (λU=>(match U[i]? with
   |some (Aa (d,Ab))=>O.next (U.set i (Aa (d,Ae)))
   | _=>O.next U).seq f):=λFz B=>PSs.weak (h Fz B) λD Y H ⟨U,x,p⟩=>by
 dsimp only at p;split at p
 .rename_i d e;exact⟨_,x.rel e,p⟩
 .exact⟨U,x,p⟩
end
section
variable{X:Cx}{CL:ClA}{W:XW}{pos:Az}{e k o:Am}{fe fk:Rho->R D}{i:Af}{apos cpos:Az}
theorem AU.take(r:AU xs its) : ∀ n,AU (xs.take n) (its.take n):=by
 induction r with
 |nil=>intro n;simp;exact .nil
 |cons h _ ih=>
  intro n;cases n with
  |zero=>exact .nil
  |succ n=>exact .cons h (ih n)
theorem AU.drop(r:AU xs its) : ∀ n,AU (xs.drop n) (its.drop n):=by
 induction r with
 |nil=>intro n;simp;exact .nil
 |cons h t ih=>
  intro n;cases n with
  |zero=>exact .cons h t
  |succ n=>exact ih n
end
section
variable{prog:Ay}{w:AH}{A:AN}{E:Ah->Al->Prop}{s:Al}
theorem X3{j t:Ag}{its:AW Ah}{x:Ah}(st:s.heap.IsTupleIter j t k)(sq:s.heap.IsTuple t its)(at_:its[k]? = Aa x)(go : ∀ h2,h2.IsTupleIter j t (k+1)->DX j s.heap h2->Q x {s with heap:=h2}):AE (model prog w) A (Bc (.ref j)) Q E s:=by
 obtain⟨oj,gj,cj,dj⟩:=id st;obtain⟨ot,gt,_,nt,dt⟩:=sq;show AE _ _ (callSpecial? _ _ >>= _) _ _ _;refine Ap (Db st.typeIs CT (Ep CT st.typeIs RO ?_ (RJ _)));show AE _ _ (field (.ref j) 0 >>= _) _ _ _;refine Ap (BH gj dj (x := .ref t) rfl ?_);show AE _ _ (field (.ref j) 1 >>= _) _ _ _;refine Ap (BH gj dj (x := .int k 0) rfl ?_);refine Ap (CC gt dt ?_);simp only[QH,at_];exact Ap (D7 gj dj (by simp) (AY ⟨x,rfl,AY (go _ ⟨_,CP _ gj (Ds (Cm dj _)),(RW ..).trans cj,by rw[Cm dj];simp[Cn]⟩ (RV ..))⟩))
theorem Tz{j t:Ag}{its:AW Ah}(calm:A.handled=Ad)(st:s.heap.IsTupleIter j t k)(sq:s.heap.IsTuple t its)(at_:its[k]? = Ad)(up : ∀ h2 e,FT j s.heap h2->(∃ o,h2.get? e=Aa o/\o.cls = .type "StopIteration")->E (.ref e) {s with heap:=h2}):AE (model prog w) A (Bc (.ref j)) Q E s:=by
 obtain⟨oj,gj,cj,dj⟩:=id st;obtain⟨ot,gt,_,nt,dt⟩:=sq;show AE _ _ (callSpecial? _ _ >>= _) _ _ _;refine Ap (Db st.typeIs CT (Ep CT st.typeIs RO ?_ (RJ _)));show AE _ _ (field (.ref j) 0 >>= _) _ _ _;refine Ap (BH gj dj (x := .ref t) rfl ?_);show AE _ _ (field (.ref j) 1 >>= _) _ _ _;refine Ap (BH gj dj (x := .int k 0) rfl ?_);refine Ap (CC gt dt ?_);simp only[QH,at_];refine Ap (Hh (Ap (D7 gj dj (by simp) ?_)))
 refine Ap ?_;simp only[newExc,newTuple];refine Ap (Eb ?_ (by size_fits))
 refine Ap (m:=Sq _ _) (wpAny_of_eq (a := .none) (by first|rfl|(simp only[Sq];rfl)) (Eb ?_ (by size_fits)))
 simp only[raiseNew];refine Ap (wpAny_handled ?_)
 first|rw[show A.in1.handled=Ad from calm]|rw[calm]
 exact Ap (AY (wpAny_throw (up _ _ (((RV ..).extBut.push _).push _) ⟨_,AC _ rfl,rfl⟩)))
end
structure Dw (prog:Ay) (w:AH) (A:AN) (j:Ag) (fp:Ac Ag) (n:Af) (P:Af->Ah->Prop) (S:Af->As->Prop):Prop where
 frame : ∀ i h h2,S i h->(∀ c∈fp,∀ o,h.get? c=Aa o->h2.get? c=Aa o)->S i h2
 item : ∀ i (s:Al) (Q:Ah->Al->Prop) (E:Ah->Al->Prop),i<n->S i s.heap->(∀ x h2 tk,P i x->S (i+1) h2->DX j s.heap h2->Q x {s with heap:=h2,toks:=tk})->AE (model prog w) A (Bc (.ref j)) Q E s
 done : ∀ i (s:Al) (Q:Ah->Al->Prop) (E:Ah->Al->Prop),n<=i->S i s.heap->(∀ h2 e,FT j s.heap h2->(∃ o,h2.get? e=Aa o/\o.cls = .type "StopIteration")->E (.ref e) {s with heap:=h2})->AE (model prog w) A (Bc (.ref j)) Q E s
noncomputable def Ez(t:Ak)(h:As)(j l:Ag)(i:Af):Prop:=match t with
  |true=>h.IsTupleIter j l i
  |false=>h.IsListIter j l i
noncomputable def D4(t:Ak)(h:As)(l:Ag)(its:AW Ah):Prop:=match t with
  |true=>h.IsTuple l its
  |false=>h.IsList l its
theorem JI{A:AN}(calm:A.handled=Ad)(t:Ak)(j l:Ag)(ne:l≠j)(its:AW Ah):Dw prog w A j [j,l] its.size (λi v=>its[i]? = Aa v) (λi h=>Ez t h j l i/\D4 t h l its):=by
 cases t with
 |true=>exact⟨λ_ _ _ z k=>⟨z.1.at λo e=>k j (by simp) o e,z.2.at λo e=>k l (by simp) o e⟩,λi s Q E hi z q=>X3 z.1 z.2 (x:=its[i]) (by simp[hi]) λh2 z2 sb=>q _ h2 s.toks (by simp[hi]) ⟨z2,z.2.extBut sb.extBut ne⟩ sb,λi s Q E hi z q=>Tz calm z.1 z.2 (by simp[hi]) q⟩
 |false=>exact⟨λ_ _ _ z k=>⟨z.1.at λo e=>k j (by simp) o e,z.2.at λo e=>k l (by simp) o e⟩,λi s Q E hi z q=>wpAny_nextOf_list_item z.1 z.2 (x:=its[i]) (by simp[hi]) λh2 z2 sb=>q _ h2 s.toks (by simp[hi]) ⟨z2,z.2.extBut sb.extBut ne⟩ sb,λi s Q E hi z q=>wpAny_nextOf_list_end calm z.1 z.2 (by simp[hi]) q⟩
theorem nb1{I l c:Af}(b:l<I)(h:c∈[I,l])(j:Af):c≠I+(j+1):=by
 have h':c=I\/c=l:=by simpa using h
 omega
theorem nb2{I l c:Af}(b:l<I)(h:c∈[I+1,l]):c≠I/\c≠I+3/\c≠I+4:=by
 have h':c=I+1\/c=l:=by simpa using h
 omega
theorem nij{I i j:Af}(h:i≠j):I+i≠I+j:=by omega
theorem ni0{I i:Af}(h:i≠0):I+i≠I:=by omega
section
variable{prog:Ay}{w:AH}{A:AN}{E:Ah->Al->Prop}{s:Al}
theorem To{I l1 l2 n1 n2 k:Af}{a b:Ah}(b1:l1<I)(b2:l2<I)(D1:Dw prog w A I [I,l1] n1 P1 S1)(D2:Dw prog w A (I+1) [I+1,l2] n2 P2 S2)(hz:EK s.heap (I+4) (I+2) (I+3) .none)(hI:Dr s.heap (I+2) (.ref I) (.ref (I+1)))(hO:Dr s.heap (I+3) a b)(g1:S1 k s.heap)(g2:S2 k s.heap)(k1:k<n1)(k2:k<n2)(go : ∀ x y h2 tk,P1 k x->P2 k y->EK h2 (I+4) (I+2) (I+3) (Cn s.heap.objs.size)->Dr h2 (I+3) x y->S1 (k+1) h2->S2 (k+1) h2->Dr h2 s.heap.objs.size x y ->
   (∀ c o,c ∉ [I,I+1,I+3,I+4]->s.heap.get? c=Aa o->h2.get? c=Aa o)->Q (.ref s.heap.objs.size) {s with heap:=h2,toks:=tk}):AE (model prog w) A (Builtin.«zip.__next__» ⟨[.ref (I+4)],[]⟩) (λfin s' =>∃ v,fin = .done (.ret v)/\Q v s') E s:=by
 refine Ap (m:=field (.ref (I+4)) 2) (BH hz rfl (x := .bool Ae) rfl ?_);refine Ap (m:=field (.ref (I+4)) 3) (BH hz rfl (x := .ref (I+2)) rfl (Ap (CC hI rfl ?_)));refine Ap (m:=B5 (.ref (I+4))) ?_;simp only[B5];refine Ap (BH hz rfl (x := .none) rfl (AY ?_));rw[AD rfl];refine Ap (Hh (Ap (BH hz rfl (x := .ref (I+3)) rfl (Ap (CJ hz (by simp) λp1 z1 e1=>Ap ?_)))))
 have z1':EK p1 (I+4) (I+2) (I+3) .ellipsis:=z1;simp only[QW,QX,FN,EY];refine Ap (Ap (Em (Ap (m:=Bc (.ref I)) (D1.item k _ _ _ k1 (D1.frame _ _ _ g1 λc hc o q=>e1.extBut c o (nb1 b1 hc 3) q) λx p2 t2 px s2 e2=>AY ?_))))
 have o2:Dr p2 (I+3) a b:=e2.extBut _ _ (ni0 (by decide)) (e1.extBut _ _ (nij (by decide)) hO)
 refine Ap (CC o2 rfl (Ap (EO o2 λp3 o3 e3=>Ap (GW (AY ?_)))))
 have o3':Dr p3 (I+3) x b:=o3;have g2':S2 k p3:=D2.frame _ _ _ g2 λc hc o q=>e3.extBut c o (nb2 b2 hc).2.1 (e2.extBut c o (nb2 b2 hc).1 (e1.extBut c o (nb2 b2 hc).2.2 q))
 refine Ap (Ap (Em (Ap (m:=Bc (.ref (I+1))) (D2.item k _ _ _ k2 g2' λy p4 t4 py s4 e4=>AY ?_))))
 have o4:Dr p4 (I+3) x b:=e4.extBut _ _ (nij (by decide)) o3'
 refine Ap (CC o4 rfl (Ap (EO o4 λp5 o5 e5=>Ap (GW (AY (AY ?_))))))
 have o5':Dr p5 (I+3) x y:=o5;have sz:p5.objs.size=s.heap.objs.size:=by rw[e5.1,e4.1,e3.1,e2.1,e1.1]
 have z5:EK p5 (I+4) (I+2) (I+3) .ellipsis:=e5.extBut _ _ (nij (by decide)) (e4.extBut _ _ (nij (by decide)) (e3.extBut _ _ (nij (by decide)) (e2.extBut _ _ (ni0 (by decide)) z1')))
 refine Ap (CC o5' rfl (Ap (wpAny_newTuple ?_)));refine Ap (m:=Rc (.ref (I+4)) (.ref p5.objs.size)) ?_;simp only[Rc];have z6:EK (p5.push { cls := .type "tuple",data := .seq #[x,y] }) (I+4) (I+2) (I+3) .ellipsis:=Aq _ z5;refine Ap (CJ z6 (by simp) λp7 z7 e7 => ?_)
 have z7':EK p7 (I+4) (I+2) (I+3) (Cn p5.objs.size):=z7;refine CJ z7' (by simp) λp8 z8 e8=>AY ⟨_,rfl,?_⟩
 have z8':EK p8 (I+4) (I+2) (I+3) (Cn p5.objs.size):=z8;have lt5:I+4<p5.objs.size:=Au z5;have up : ∀ c o,c≠I+4->p5.get? c=Aa o->p8.get? c=Aa o:=λc o nc q=>e8.extBut _ _ nc (e7.extBut _ _ nc (Aq _ q))
 have t8:Dr p8 p5.objs.size x y:=e8.extBut _ _ (EG lt5) (e7.extBut _ _ (EG lt5) (AC _ rfl));have a1:S1 (k+1) p8:=D1.frame _ _ _ s2 λc hc o q=>up c o (nb1 b1 hc 3) (e5.extBut c o (nb1 b1 hc 2) (e4.extBut c o (nb1 b1 hc 0) (e3.extBut c o (nb1 b1 hc 2) q)))
 have a2:S2 (k+1) p8:=D2.frame _ _ _ s4 λc hc o q=>up c o (nb2 b2 hc).2.2 (e5.extBut c o (nb2 b2 hc).2.1 q)
 have kp : ∀ c o,c ∉ [I,I+1,I+3,I+4]->s.heap.get? c=Aa o->p8.get? c=Aa o:=λc o nc q=>by
  simp only[AK,BG,Dl,EW]at nc;exact up c o nc.2.2.2 (e5.extBut c o nc.2.2.1 (e4.extBut c o nc.2.1 (e3.extBut c o nc.2.2.1 (e2.extBut c o nc.1 (e1.extBut c o nc.2.2.2 q)))))
 have q:=go x y p8 t4 px py (by rw[<-sz];exact z8') (up _ _ (nij (by decide)) o5') a1 a2 (by rw[<-sz];exact t8) kp
 rw[<-sz]at q;exact q
theorem UH{I l1 l2 n1 n2 k:Af}{a b:Ah}{Q:Fin->Al->Prop}(b1:l1<I)(b2:l2<I)(D1:Dw prog w A I [I,l1] n1 P1 S1)(D2:Dw prog w A (I+1) [I+1,l2] n2 P2 S2)(hz:EK s.heap (I+4) (I+2) (I+3) .none)(hI:Dr s.heap (I+2) (.ref I) (.ref (I+1)))(hO:Dr s.heap (I+3) a b)(g1:S1 k s.heap)(g2:S2 k s.heap)(hk:n1<=k\/(k<n1/\n2<=k))(up : ∀ h2 e tk,(∀ c o,c ∉ [I,I+1,I+3,I+4]->s.heap.get? c=Aa o->h2.get? c=Aa o)->(∃ o,h2.get? e=Aa o/\o.cls = .type "StopIteration")->E (.ref e) {s with heap:=h2,toks:=tk}):AE (model prog w) A (Builtin.«zip.__next__» ⟨[.ref (I+4)],[]⟩) Q E s:=by
 refine Ap (m:=field (.ref (I+4)) 2) (BH hz rfl (x := .bool Ae) rfl ?_);refine Ap (m:=field (.ref (I+4)) 3) (BH hz rfl (x := .ref (I+2)) rfl (Ap (CC hI rfl ?_)));refine Ap (m:=B5 (.ref (I+4))) ?_;simp only[B5];refine Ap (BH hz rfl (x := .none) rfl (AY ?_));rw[AD rfl];refine Ap (Hh (Ap (BH hz rfl (x := .ref (I+3)) rfl (Ap (CJ hz (by simp) λp1 z1 e1=>Ap ?_)))))
 have z1':EK p1 (I+4) (I+2) (I+3) .ellipsis:=z1;simp only[QW,QX,FN,EY];have g1':S1 k p1:=D1.frame _ _ _ g1 λc hc o q=>e1.extBut c o (nb1 b1 hc 3) q
 rcases hk with k1|⟨k1,k2⟩
 .refine Ap (Ap (Em (Ap (m:=Bc (.ref I)) (D1.done _ _ _ _ k1 g1' λp2 e e2 he => ?_))))
  obtain⟨oe,hoe,hce⟩:=he;have z2:EK p2 (I+4) (I+2) (I+3) .ellipsis:=e2 _ _ (ni0 (by decide)) z1'
  have ne:e≠I+4:=λx=>by subst x;rw[z2]at hoe;cases hoe;simp at hce
  refine CJ z2 (by simp) λp3 _ e3=>up p3 e s.toks (λc o nc q => ?_) ⟨oe,e3.extBut _ _ ne hoe,hce⟩
  simp only[AK,BG,Dl,EW]at nc;exact e3.extBut c o nc.2.2.2 (e2 c o nc.1 (e1.extBut c o nc.2.2.2 q))
 .refine Ap (Ap (Em (Ap (m:=Bc (.ref I)) (D1.item k _ _ _ k1 g1' λx p2 t2 px s2 e2=>AY ?_))))
  have o2:Dr p2 (I+3) a b:=e2.extBut _ _ (ni0 (by decide)) (e1.extBut _ _ (nij (by decide)) hO)
  refine Ap (CC o2 rfl (Ap (EO o2 λp3 o3 e3=>Ap (GW (AY ?_)))))
  have g2':S2 k p3:=D2.frame _ _ _ g2 λc hc o q=>e3.extBut c o (nb2 b2 hc).2.1 (e2.extBut c o (nb2 b2 hc).1 (e1.extBut c o (nb2 b2 hc).2.2 q))
  refine Ap (Ap (Em (Ap (m:=Bc (.ref (I+1))) (D2.done _ _ _ _ k2 g2' λp4 e e4 he => ?_))))
  obtain⟨oe,hoe,hce⟩:=he;have z4:EK p4 (I+4) (I+2) (I+3) .ellipsis:=e4 _ _ (nij (by decide)) (e3.extBut _ _ (nij (by decide)) (e2.extBut _ _ (ni0 (by decide)) z1'))
  have ne:e≠I+4:=λx=>by subst x;rw[z4]at hoe;cases hoe;simp at hce
  refine CJ z4 (by simp) λp5 _ e5=>up p5 e t2 (λc o nc q => ?_) ⟨oe,e5.extBut _ _ ne hoe,hce⟩
  simp only[AK,BG,Dl,EW]at nc;exact e5.extBut c o nc.2.2.2 (e4 c o nc.2.1 (e3.extBut c o nc.2.2.1 (e2.extBut c o nc.1 (e1.extBut c o nc.2.2.2 q))))
end
noncomputable def SqX(t:Ak)(K:Fg)(H:Hp)(a:Ag)(xs:Ac V):Prop:=match t with
  |true=>SqT K H a xs
  |false=>SqL K H a xs
theorem Hv(I:Inv X pI Y H s)(h:SqX t X.K H a xs) : ∃ its:Ac Ah,AU xs its/\D4 t s.heap a its.toArray/\xs.length<=sizeLine:=by
 cases t with
 |true=>
  obtain⟨its,rv,p,z⟩:=I.tuple h;exact⟨its,rv,p,z⟩
 |false=>
  obtain⟨its,rv,p,z⟩:=I.list h;exact⟨its,rv,p.isList,z⟩
theorem MB(I:Inv X pI Y H s)(h:SqX t X.K H a xs)(h2:SqX t X.K H a ys):xs=ys:=by
 cases t with
 |true=>exact I.tuple_inj h h2
 |false=>exact I.list_inj h h2
noncomputable def Itz(K:Fg)(t1 t2:Ak)(a b:Ag):It:=
  ⟨λi H => ∃ xs ys x y,SqX t1 K H a xs/\SqX t2 K H b ys/\xs[i]? = Aa x/\ys[i]? = Aa y,
   λi H v H' => ∃ p x y,H p=Ad/\v = .ref p/\(∀ xs,SqX t1 K H a xs->xs[i]? = Aa x)/\(∀ ys,SqX t2 K H b ys->ys[i]? = Aa y)/\H'=upd H p (.tup [x,y]),
   λi H => ∃ xs ys,SqX t1 K H a xs/\SqX t2 K H b ys/\(xs.length<=i\/(i<xs.length/\ys.length<=i))⟩
theorem Inv.turnedL{t':Af}(ch:Ac Ag)(I:Inv X pI Y H s)(k : ∀ b o,b ∉ ch->s.heap.get? b=Aa o->h'.get? b=Aa o)(hf : ∀ b∈ch,Fm X pI H b):Inv X pI Y H {s with heap:=h',toks:=t'}:=by
 have nit : ∀ b u,H b=Aa u->b ∉ ch:=λb u e z=>by rw[(hf b z).1]at e;cases e
 refine I.step (g':=s.gens) (d':=s.drawn) (ch:=ch) (λb hb=>⟨(hf b hb).2.2.2.1,(hf b hb).2.1,(hf b hb).2.2.2.2.1,(hf b hb).2.2.2.2.2⟩) (λb o _ _ hc e _=>k b o hc e) (λb o _ _ hc e _=>⟨o.slots,k b o hc e⟩) (λ_ _ _ _ n=>n)
  (λb o hc e=>⟨o,k b o hc e⟩) (λ_ _ e=>e) (λ_ _ _ e=>e) (λb ps e=>⟨#[],by rw[e];simp⟩) (λm ⟨o,es,ep,ho,r⟩=>⟨o,es,ep,k _ o (λz=>(hf _ z).2.1 rfl) ho,r⟩) (λb u e=>(I.hok b u e).stay (λc v hc q=>k c v ?_ q) (λ_ q=>q) λ_ _ q=>q) I.bare
 rcases hc with z|z
 .rw[z];exact nit b u e
 .exact nit c _ z
noncomputable def zTn(t1 t2:Ak)(I l1 l2:Af)(i:Af)(h:As):Prop:=EK h (I+4) (I+2) (I+3) .none/\Dr h (I+2) (.ref I) (.ref (I+1))/\(∃ a b,Dr h (I+3) a b)/\Ez t1 h I l1 i/\Ez t2 h (I+1) l2 i
noncomputable def zFp(I:Af):Ac Ag:=[I,I+1,I+2,I+3,I+4]
theorem Ez.obj{j:Ag}(z:Ez t h j l i) : ∃ o,h.get? j=Aa o /\ ∀ v,o.data ≠ .cell v:=by
 cases t with
 |true=>obtain⟨o,e,c,d⟩:=z;exact⟨o,e,λv z=>by rw[d]at z;cases z⟩
 |false=>obtain⟨o,e,c,d⟩:=z;exact⟨o,e,λv z=>by rw[d]at z;cases z⟩
theorem Ez.at'{j:Ag}(z:Ez t h j l i)(k : ∀ o,h.get? j=Aa o->h2.get? j=Aa o):Ez t h2 j l i:=by
 cases t with
 |true=>exact PySem.Heap.IsTupleIter.at z k
 |false=>exact PySem.Heap.IsListIter.at z k
theorem Ud{P:Ay}{pos:Az}(t1 t2:Ak)(I l1 l2:Af)(b1:l1<I)(b2:l2<I):Turn P w K (.Tuple es n pos) (Itz K t1 t2 l1 l2) (zFp I) (I+4) (zTn t1 t2 I l1 l2) where
 mem:=by simp[zFp]
 obj:=λi h ⟨z1,z2,⟨a,b,z3⟩,z4,z5⟩ c hc=>by
  simp only[zFp,AK,BG,Dl]at hc;rcases hc with rfl|rfl|rfl|rfl|rfl
  .exact z4.obj
  .exact z5.obj
  .exact⟨_,z2,λv z=>by cases z⟩
  .exact⟨_,z3,λv z=>by cases z⟩
  .exact⟨_,z1,λv z=>by cases z⟩
 keep:=λi h h2 ⟨z1,z2,⟨a,b,z3⟩,z4,z5⟩ k=>⟨k _ (by simp[zFp]) _ z1,k _ (by simp[zFp]) _ z2,⟨a,b,k _ (by simp[zFp]) _ z3⟩,z4.at' λo e=>k _ (by simp[zFp]) o e,z5.at' λo e=>k _ (by simp[zFp]) o e⟩
 item:=by
  intro X hP hw hK hc i pI s Y H E Iv hf ⟨z1,z2,⟨a,b,z3⟩,z4,z5⟩ ⟨xs,ys,x,y,q1,q2,hx,hy⟩;subst hP hw hK;obtain⟨us,rx,sx,_⟩:=Hv Iv q1;obtain⟨vs,ry,sy,_⟩:=Hv Iv q2;obtain⟨u,hu,ru⟩:=rx.get hx;obtain⟨v,hv,rv⟩:=ry.get hy;have hT:s.TypeIs (.ref (I+4)) "zip" := ⟨_,z1,rfl⟩;have calm:X.A.in1.handled=Ad:=Iv.ok.hd hc;show AE _ _ (F9 _) _ _ _;simp only[F9];refine Ap (wpAny_attempt (Db hT EI (Ep EI hT RP (To (k:=i) b1 b2 (JI calm t1 I l1 (AI b1) us.toArray) (JI calm t2 (I+1) l2 (AI (Cs b2)) vs.toArray) z1 z2 z3 ⟨z4,sx⟩ ⟨z5,sy⟩
   (by have:=(AT.mp hu).1;simpa using this) (by have:=(AT.mp hv).1;simpa using this) λx' y' h2 tk px py c1 c2 c3 c4 c5 kp=>AY ?_) (RK _))))
  have ex:x'=u:=by
   have px':us[i]? = Aa x':=by simpa using px
   rw[hu]at px';exact(AQ px').symm
  have ey:y'=v:=by
   have py':vs[i]? = Aa y':=by simpa using py
   rw[hv]at py';exact(AQ py').symm
  subst ex ey;refine⟨_,rfl,wpAny_letOwnedTupleGo_zip c1 λh3 d1 sb => ?_⟩
  have lt4:I+4<s.heap.objs.size:=Au z1;have kp3 : ∀ c o,c ∉ zFp I->s.heap.get? c=Aa o->h3.get? c=Aa o:=λc o nc q=>by
   simp only[zFp,AK,BG,Dl,EW]at nc;exact sb.extBut c o nc.2.2.2.2 (kp c o (by simp only[AK,BG,Dl,EW];exact⟨nc.1,nc.2.1,nc.2.2.2.1,nc.2.2.2.2⟩) q)
  have nT : ∀ c∈zFp I,c≠s.heap.objs.size:=λc hc z=>by
   have:c<=I+4:=by
    simp only[zFp,AK,BG,Dl]at hc;rcases hc with z|z|z|z|z <;> rw[z] <;> simp
   exact absurd (z ▸ E7 this lt4) (A8 _)
  have I1:Inv X pI Y (upd H s.heap.objs.size (.tup [x,y])) { s with heap:=s.heap.push { cls := .type "tuple",data := .seq #[x',y'] },toks:=s.toks }:=
   Iv.laid (λ_ _ q=>Aq _ q) (AS _) ⟨(by decide:2<=sizeLine),[x',y'],.cons ru (.cons rv .nil),⟨_,AC _ rfl,rfl,_,rfl⟩⟩
  have hf' : ∀ b∈zFp I,Fm X pI (upd H s.heap.objs.size (.tup [x,y])) b:=λb hb=>⟨by rw[Bq (nT b hb)];exact(hf b hb).1,(hf b hb).2⟩
  have I2:Inv X pI Y (upd H s.heap.objs.size (.tup [x,y])) {s with heap:=h3,toks:=tk}:=Inv.turnedL (s := { s with heap:=s.heap.push { cls := .type "tuple",data := .seq #[x',y'] },toks:=s.toks }) (zFp I) I1 (λc o nc q=>by
   rcases Heap.get?_push_cases q with ⟨e1,e2⟩|e1
   .subst e1 e2;exact sb.extBut _ _ (EG lt4) c5
   .exact kp3 c o nc e1) hf'
  refine⟨.ref s.heap.objs.size,_,I2,rfl,⟨s.heap.objs.size,x,y,Iv.fresh,rfl,λzs hz=>by rw[MB Iv hz q1];exact hx,λzs hz=>by rw[MB Iv hz q2];exact hy,rfl⟩,⟨d1,sb.extBut _ _ (nij (by decide)) (kp _ _ (by simp) z2),⟨_,_,sb.extBut _ _ (nij (by decide)) c2⟩,c3.1.at' λo q=>sb.extBut _ o (Dd (ni0 (by decide))) q,c4.1.at' λo q=>sb.extBut _ o (nij (by decide)) q⟩,λb hb=>(hf' b hb).1⟩
 done:=by
  intro X hP hw hK hc i pI s Y H E Iv hf ⟨z1,z2,⟨a,b,z3⟩,z4,z5⟩ ⟨xs,ys,q1,q2,hk⟩;subst hP hw hK;obtain⟨us,rx,sx,_⟩:=Hv Iv q1;obtain⟨vs,ry,sy,_⟩:=Hv Iv q2;have hT:s.TypeIs (.ref (I+4)) "zip" := ⟨_,z1,rfl⟩;have calm:X.A.in1.handled=Ad:=Iv.ok.hd hc;have e1:=rx.length;have e2:=ry.length;simp only[F9];refine Ap (wpAny_attempt (Db hT EI (Ep EI hT RP (UH (k:=i) b1 b2 (JI calm t1 I l1 (AI b1) us.toArray) (JI calm t2 (I+1) l2 (AI (Cs b2)) vs.toArray) z1 z2 z3 ⟨z4,sx⟩ ⟨z5,sy⟩
   (by simp only[Av];omega) λh2 e tk kp he => ?_) (RK _))))
  obtain⟨o,ho,hcl⟩:=he;refine Ap (wpAny_isInstance (T := "StopIteration") (b:=Ab) ⟨o,ho,hcl⟩ isSubtype_stop (AY ⟨rfl,Inv.turnedL [I,I+1,I+3,I+4] Iv (λc o nc q=>kp c o nc q) λc hc=>hf c ?_⟩))
  simp only[AK,BG,Dl]at hc;simp only[zFp,AK,BG,Dl];rcases hc with rfl|rfl|rfl|rfl <;> simp
 self:=λ_ _ _ _ _ st h=>SF st.1 h
section
variable{prog:Ay}{w:AH}{A:AN}{E:Ah->Al->Prop}{s:Al}
noncomputable def itO(t:Ak)(l:Ag):AB:=match t with
  |true => { cls := .type "tuple_iterator",data := .fields #[.ref l,.int 0 0] }
  |false => { cls := .type "list_iterator",data := .fields #[.ref l,.int 0 0] }
theorem Px{its:AW Ah}(h:D4 t s.heap l its)(q:Q (.ref s.heap.objs.size) {s with heap:=s.heap.push (itO t l)}):AE (model prog w) A (HW (.ref l)) Q E s:=by
 cases t with
 |true=>exact E9 h q
 |false=>exact Dm h q
theorem D4.push{its:AW Ah}(z:D4 t h l its)(o:AB):D4 t (h.push o) l its:=by
 cases t with
 |true=>exact PySem.Heap.IsTuple.at z λ_ e=>Aq _ e
 |false=>exact PySem.Heap.IsList.at z λ_ e=>Aq _ e
theorem Oo{j:Ag}(e:h.get? j=Aa (itO t l)):Ez t h j l 0:=by
 cases t with
 |true=>exact⟨_,e,rfl,rfl⟩
 |false=>exact⟨_,e,rfl,rfl⟩
theorem Nc(t:Ak)(l:Ag):(itO t l).isFreed=Ae:=by cases t <;> rfl
noncomputable abbrev zh2(t1 t2:Ak)(h:As)(l1 l2:Ag):As:=(h.push (itO t1 l1)).push (itO t2 l2)
noncomputable abbrev zh3(t1 t2:Ak)(h:As)(l1 l2:Ag):As:=(zh2 t1 t2 h l1 l2).push { cls := .type "tuple",data := .seq #[.ref h.objs.size,.ref (h.push (itO t1 l1)).objs.size] }
noncomputable abbrev zh4(t1 t2:Ak)(h:As)(l1 l2:Ag):As:=(zh3 t1 t2 h l1 l2).push { cls := .type "tuple",data := .seq #[.none,.none] }
noncomputable abbrev zh5(t1 t2:Ak)(h:As)(l1 l2:Ag):As:=(zh4 t1 t2 h l1 l2).push { cls := .type "zip",data := .fields #[.none,.bool Ae,.bool Ae,.ref (zh2 t1 t2 h l1 l2).objs.size,.ref (zh3 t1 t2 h l1 l2).objs.size] }
theorem UG(t1 t2:Ak)(l1 l2:Ag)(xs ys:AW Ah):Meets (Builtin.«zip.__new__» ⟨[.type "zip",.ref l1,.ref l2],[]⟩) (λ_ R s=>D4 t1 s.heap l1 xs/\D4 t2 s.heap l2 ys/\R (.ok (.ret (.ref (zh4 t1 t2 s.heap l1 l2).objs.size))) {s with heap:=zh5 t1 t2 s.heap l1 l2}):=
 .of_wp λprog w A R s h=>by
  obtain⟨hp,g,d,tk,os⟩:=s;obtain⟨a1,a2,q⟩:=h;have hsub:=sub_zip;have L1:D4 t1 (R0 ⟨hp,g,d,tk,os⟩) l1 xs:=a1;have L2:D4 t2 (R0 ⟨hp.push (itO t1 l1),g,d,tk,os⟩) l2 ys:=a2.push _
  wp_walk using Px L1,Px L2
  exact⟨_,rfl,q⟩
theorem T8{t1 t2:Ak}{l1 l2:Ag}{xs ys:AW Ah}(a1:D4 t1 s.heap l1 xs)(a2:D4 t2 s.heap l2 ys)(q : ∀ h2,zTn t1 t2 s.heap.objs.size l1 l2 0 h2->(∀ c o,s.heap.get? c=Aa o->h2.get? c=Aa o)->Q (.ref (s.heap.objs.size+4)) {s with heap:=h2}):AE (model prog w) A (call (.type "zip") [.ref l1,.ref l2]) Q E s:=by
 refine callType_new F.called_zip (by decide) (F.typeCall_zip_2 _ _) (F.newCall_zip_2 _ _) (λobj=>F.args_object_init_3 obj _ _) F.entry_zip_new (UG t1 t2 l1 l2 xs ys) ⟨a1,a2,?_⟩
 have s1:(s.heap.push (itO t1 l1)).objs.size=s.heap.objs.size+1:=By ..;have s2:(zh2 t1 t2 s.heap l1 l2).objs.size=s.heap.objs.size+2:=by rw[By,s1]
 have s3:(zh3 t1 t2 s.heap l1 l2).objs.size=s.heap.objs.size+3:=by rw[By,s2]
 have s4:(zh4 t1 t2 s.heap l1 l2).objs.size=s.heap.objs.size+4:=by rw[By,s3]
 have u5 : ∀ {c o},(zh4 t1 t2 s.heap l1 l2).get? c=Aa o->(zh5 t1 t2 s.heap l1 l2).get? c=Aa o:=λe=>Aq _ e
 have u4 : ∀ {c o},(zh3 t1 t2 s.heap l1 l2).get? c=Aa o->(zh5 t1 t2 s.heap l1 l2).get? c=Aa o:=λe=>u5 (Aq _ e)
 have u3 : ∀ {c o},(zh2 t1 t2 s.heap l1 l2).get? c=Aa o->(zh5 t1 t2 s.heap l1 l2).get? c=Aa o:=λe=>u4 (Aq _ e)
 have u2 : ∀ {c o},(s.heap.push (itO t1 l1)).get? c=Aa o->(zh5 t1 t2 s.heap l1 l2).get? c=Aa o:=λe=>u3 (Aq _ e)
 have g5:(zh5 t1 t2 s.heap l1 l2).get? (zh4 t1 t2 s.heap l1 l2).objs.size=Aa _:=AC _ rfl;have g4:(zh5 t1 t2 s.heap l1 l2).get? (zh3 t1 t2 s.heap l1 l2).objs.size=Aa _:=u5 (AC _ rfl);have g3:(zh5 t1 t2 s.heap l1 l2).get? (zh2 t1 t2 s.heap l1 l2).objs.size=Aa _:=u4 (AC _ rfl);have g2:(zh5 t1 t2 s.heap l1 l2).get? (s.heap.push (itO t1 l1)).objs.size=Aa _:=u3 (AC _ (Nc _ _));have g1:(zh5 t1 t2 s.heap l1 l2).get? s.heap.objs.size=Aa _:=u2 (AC _ (Nc _ _));show _/\_;rw[s2,s3,s4]at g5;rw[s3]at g4;rw[s1,s2]at g3;rw[s1]at g2;rw[s4];exact⟨⟨_,g5,rfl⟩,q _ ⟨g5,g3,⟨_,_,g4⟩,Oo g1,Oo g2⟩ λc o e=>u2 (Aq _ e)⟩
end
noncomputable def bL(K:Fg)(ta:TA):TI:=λY H R=>ta Y H λvs H1 => ∃ t1 t2 a b xs ys,vs=[.ref a,.ref b]/\SqX t1 K H1 a xs/\SqX t2 K H1 b ys/\(xs.length<=sizeLine->R (Itz K t1 t2 a b) H1)
theorem D4.lt{its:AW Ah}(z:D4 t h a its):a<h.objs.size:=by
 cases t with
 |true=>obtain⟨o,e,_⟩:=z;exact Au e
 |false=>obtain⟨o,e,_⟩:=z;exact Au e
theorem W7{a b:Am}{ta:TA}{p pos:Az}(hg:Gl X "zip")(hm:X.mg "zip" = Ad)(ha:PA X [a,b] ta)(hs:At [a,b] X.env=[(Ae,eval a X.env),(Ae,eval b X.env)])(hs2:At [b] X.env=[(Ae,eval b X.env)]):
  PI X (.Tuple es n tpos) (.Call (.Name "zip" p) [a,b] [] pos) (bL X.K ta):=by
 intro pI s Y H R I h;refine Call_ (Ht I hg hm PyProof.Rows.boot_zip (CH (thn (ha pos pI s Y H _ I h) λus s1 ⟨vs,H1,I1,r1,q1⟩ => ?_) (by rw[hs,hs2]) (by rw[hs2];rfl)))
 obtain⟨t1,t2,c,d,xs,ys,e,sx,sy,q⟩:=q1;subst e;cases r1 with
 |cons r rr=>
  cases rr with
  |cons r' rr=>
   cases rr;cases r;cases r';obtain⟨us,ru,iu,zu⟩:=Hv I1 sx;obtain⟨vs,rv,iv,_⟩:=Hv I1 sy;refine T8 iu iv λh2 z kp=>SF z.1 ?_
   refine⟨s1.heap.objs.size+4,zFp s1.heap.objs.size,_,_,H1,rfl,I1.kept (t':=s1.toks) kp,Ud t1 t2 s1.heap.objs.size c d iu.lt iv.lt,z,λb hb => ?_,q zu⟩
   have hb':s1.heap.objs.size<=b:=by
    simp only[zFp,AK,BG,Dl]at hb;rcases hb with z|z|z|z|z <;> rw[z] <;> simp
   exact I1.fpOk hb' (I1.hok.fresh hb')
theorem OX{ds:Ac D}(r:Rep K CL H A v d)(e:CK d = .ok ds) : ∃ t a xs,v = .ref a/\(∀ H2,Kp A H H2->SqX t K H2 a xs)/\Reps K CL H A xs ds:=by
 cases d with
 |lst es=>
  cases e;obtain⟨q,xs,rfl,na,sq,r⟩:=r;exact⟨Ae,q,xs,rfl,λH2 k=>Jk k na sq,r⟩
 |tup es=>
  cases e;obtain⟨q,xs,rfl,na,sq,r⟩:=r;exact⟨Ab,q,xs,rfl,λH2 k=>Jj k na sq,r⟩
 |_=>cases e
theorem KZ : ∀(xs ys:Ac D),(Ec xs ys).length=min xs.length ys.length
 |[],_=>by simp[Ec]
 |_::_,[]=>by simp[Ec]
 |x::xs,y::ys=>by
  rw[Ec,Cf,KZ xs ys];simp only[Cf];omega
theorem Nh : ∀(xs ys:Ac D)(i:Af)(d:D),(Ec xs ys)[i]? = Aa d -> ∃ x y,xs[i]? = Aa x/\ys[i]? = Aa y/\d = .tup [x,y]
 |[],_,i,d,h=>by simp[Ec]at h
 |_::_,[],i,d,h=>by simp[Ec]at h
 |x::xs,y::ys,0,d,h=>by
  rw[Ec]at h;simp only[List.getElem?_cons_zero,Ea]at h;exact⟨x,y,rfl,rfl,h.symm⟩
 |x::xs,y::ys,i+1,d,h=>by
  rw[Ec]at h;simp only[List.getElem?_cons_succ]at h ⊢;exact Nh xs ys i d h
theorem T9{t1 t2:Ak}{ds es:Ac D}(s1 : ∀ H2,Kp A H1 H2->SqX t1 K H2 a xs)(s2 : ∀ H2,Kp A H1 H2->SqX t2 K H2 b ys)(r1:Reps K CL H1 A xs ds)(r2:Reps K CL H1 A ys es):GP K CL A (Ec ds es) (Itz K t1 t2 a b) H1:=λH k i=>by
 refine⟨λhi=>⟨xs,ys,s1 H k,s2 H k,?_⟩,λd hd => ?_⟩
 .rw[KZ]at hi;rw[r1.length,r2.length];omega
 .obtain⟨x,y,hx,hy,rfl⟩:=Nh _ _ _ _ hd;obtain⟨u,hu,ru⟩:=r1.get hx;obtain⟨v,hv,rv⟩:=r2.get hy;refine⟨⟨xs,ys,u,v,s1 H k,s2 H k,hu,hv⟩,?_⟩;rintro w' H' ⟨p,x',y',hp,rfl,c1,c2,rfl⟩;have ex:x'=u:=AQ ((c1 xs (s1 H k)).symm.trans hu);have ey:y'=v:=AQ ((c2 ys (s2 H k)).symm.trans hv);subst ex ey;have sm:=FE hp (.tup [x',y']);exact⟨sm,λB hB aB=>Jd aB hp ⟨IM ru k hB,IM rv k hB,trivial⟩⟩
section
variable{X:Cx}{CL:ClA}{W:XW}{pos p:Az}{a b:Am}{fa fb:Rho->R D}
theorem Xh(ha:SE X CL W a fa)(hb:SE X CL W b fb)(hg:Gl X "zip")(hm:X.mg "zip" = Ad)(hs:At [a,b] X.env=[(Ae,eval a X.env),(Ae,eval b X.env)])(hs2:At [b] X.env=[(Ae,eval b X.env)]):
  SI X CL W (.Tuple es n tpos) (.Call (.Name "zip" p) [a,b] [] pos) (λU=>(fa U).bind λx=>(fb U).bind λy=>(CK x).bind λxs=>(CK y).bind λys => .ok (Ec xs ys)):=
 λA=>PI.weak (W7 hg hm (Du (ha A) (Du (hb A) EQ hs2) (by rw[hs,hs2])) hs hs2) λY H R ⟨hA,U,g,q⟩=>⟨hA,U,g,DO.ex q λd v H1 _ s1 r1 p1=>⟨hA.same s1,U,g.same s1,DO.ex p1 λd2 v2 H2 _ s2 r2 p2=>by
  cases e1:CK d with
  |bad=>rw[e1]at p2;exact p2.elim
  |exn z=>exact absurd e1 (by cases d <;> simp[CK])
  |ok ds=>
   cases e2:CK d2 with
   |bad=>rw[e1,e2]at p2;exact p2.elim
   |exn z=>exact absurd e2 (by cases d2 <;> simp[CK])
   |ok es=>
    rw[e1,e2]at p2;obtain⟨t1,c1,xs,rfl,k1,rs1⟩:=OX (r1.same s2) e1;obtain⟨t2,c2,ys,rfl,k2,rs2⟩:=OX r2 e2;refine⟨t1,t2,c1,c2,xs,ys,rfl,k1 H2 (Kp.of (Ax.refl H2)),k2 H2 (Kp.of (Ax.refl H2)),λhz=>p2 _ H2 (Ax.refl H2) (T9 k1 k2 rs1 rs2) ?_⟩
    rw[KZ,<-rs1.length];omega⟩⟩
end
theorem Ez.keep{l:Af}(z:Ez t h j l i)(k : ∀ o,h.get? j=Aa o->h2.get? j=Aa o):Ez t h2 j l i:=by
 cases t with
 |true=>exact PySem.Heap.IsTupleIter.at z k
 |false=>exact PySem.Heap.IsListIter.at z k
section
variable{prog:Ay}{w:AH}{A:AN}{E:Ah->Al->Prop}{s:Al}
end
section
variable{X:Cx}{CL:ClA}{W:XW}{pos p:Az}{a:Am}{fa:Rho->R D}
end
noncomputable abbrev Qm(h:As)(z TI TO:Ag)(f0 f1:Ah):Prop:=h.get? z=Aa { cls := .type "zip",dict:=Ad,data := .fields #[f0,f1,.bool Ae,.ref TI,.ref TO],slots := #[] }
noncomputable abbrev Qn(h:As)(T:Ag)(a b c:Ah):Prop:=h.get? T=Aa { cls := .type "tuple",data := .seq #[a,b,c] }
section
variable{prog:Ay}{w:AH}{A:AN}{E:Ah->Al->Prop}{s:Al}
noncomputable def Z_3(t1 t2 t3:Ak)(I l1 l2 l3 i:Af)(h:As):Prop:=Qn h (I+3) (.ref (I+0)) (.ref (I+1)) (.ref (I+2))/\Ez t1 h (I+0) l1 i/\Ez t2 h (I+1) l2 i/\Ez t3 h (I+2) l3 i/\(∃ a b c,Qn h (I+4) a b c) /\
 (Qm h (I+5) (I+3) (I+4) .none (.bool Ae) \/ ∃(T1:Af)(f1:Ak),Qm h (I+5) (I+3) (I+4) (Cn T1) (.bool f1))
end
section
variable{prog:Ay}{w:AH}{A:AN}{R:Gw->Al->Prop}
theorem D4.at'{its:AW Ah}(z:D4 t h l its)(k : ∀ o,h.get? l=Aa o->h2.get? l=Aa o):D4 t h2 l its:=by
 cases t with
 |true=>exact PySem.Heap.IsTuple.at z k
 |false=>exact PySem.Heap.IsList.at z k
theorem Z_3.at'{t1 t2 t3:Ak}{I l1 l2 l3 i:Af}{h h2:As}(z:Z_3 t1 t2 t3 I l1 l2 l3 i h)(k : ∀ j,j<=5 -> ∀ o,h.get? (I+j)=Aa o->h2.get? (I+j)=Aa o):Z_3 t1 t2 t3 I l1 l2 l3 i h2:=by
 obtain⟨zI,i1,i2,i3,⟨a,b,c,hO⟩,zz⟩:=z;exact⟨k 3 (by decide) _ zI,i1.at' λo q=>k 0 (by decide) o q,i2.at' λo q=>k 1 (by decide) o q,i3.at' λo q=>k 2 (by decide) o q,⟨a,b,c,k 4 (by decide) _ hO⟩,zz.imp (k 5 (by decide) _) λ⟨T1,f1,hz⟩=>⟨T1,f1,k 5 (by decide) _ hz⟩⟩
end
section
variable{prog:Ay}{w:AH}{A:AN}{E:Ah->Al->Prop}{s:Al}
end
theorem Z_3.ty{t1 t2 t3:Ak}{I l1 l2 l3 i:Af}(z:Z_3 t1 t2 t3 I l1 l2 l3 i s.heap):s.TypeIs (.ref (I+5)) "zip" := by
 obtain⟨_,_,_,_,_,hz|⟨_,_,hz⟩⟩:=z
 .exact⟨_,hz,rfl⟩
 .exact⟨_,hz,rfl⟩
theorem Z_3.lt{t1 t2 t3:Ak}{I l1 l2 l3 i:Af}(z:Z_3 t1 t2 t3 I l1 l2 l3 i s.heap):I+5<s.heap.objs.size:=by
 obtain⟨o,h,_⟩:=z.ty;exact Au h
section
variable{prog:Ay}{w:AH}{A:AN}{E:Ah->Al->Prop}{s:Al}
end
section
variable{X:Cx}{CL:ClA}{W:XW}{pos p pos' p':Az}{a b c:Am}{fa fb fc:Rho->R D}
end
section
variable{X:Cx}{CL:ClA}{W:XW}{pos p tpos:Az}{a b c:Am}{fa fb fc:Rho->R D}{x:Ai}
end
section
variable{X:Cx}{CL:ClA}{W:XW}{a:Am}{fa:Rho->R D}
end
section
variable{X:Cx}{CL:ClA}{W:XW}{o o' e:Am}{fe:Rho->R D}{i j:Af}{apos cpos apos' cpos' pos:Az}
end
theorem N8{e:Ah->Ak}{f:D->Ak} : ∀{its:Ac Ah}{ds:Ac D},its.length=ds.length->(∀ j (h:j<its.length),e its[j]=f (ds.getD j .non))->its.countP e=(ds.filter f).length
 |[],[],_,_=>rfl
 |y::its,d::ds,hl,h=>by
  have h0:e y=f d:=h 0 (by simp)
  have ih:=N8 (its:=its) (ds:=ds) (by simpa using hl) λj hj=>by
   have:=h (j+1) (by simpa using hj)
   simpa using this
  rw[List.countP_cons,Cy,ih,h0];cases f d <;> simp
 |[],_::_,hl,_=>by simp at hl
 |_::_,[],hl,_=>by simp at hl
section
variable{X:Cx}{CL:ClA}{W:XW}
theorem Yt(I:Inv X pI Y H s){ds:Ac D}(B:AN)(hd:flD n d=Ab)(hs:ds.all (flD n)=Ab)(r:Reps X.K CL H A0 xs ds)(rv:AU xs its)(q:Rep X.K CL H A0 v d)(qv:A7 v u)(hu:B.units+n<Bo):∃ e:Ah->Ak,(∀ y,y∈its.toArray->Di B s y u (e y))/\∀ j (h:j<its.length),e its[j]=eqD (ds.getD j .non) d:=by
 have l1:=rv.length;have l2:=r.length
 have key : ∀ y,y∈its -> ∃ k:Ak,Di B s y u k /\ ∀ j (h:j<its.length),its[j]=y->eqD (ds.getD j .non) d=k:=λy hy=>by
  obtain⟨j,hj,rfl⟩:=DM hy;obtain⟨x,rx,qx⟩:=Gj r rv hj;refine⟨eqD (ds.getD j .non) d,(Hw I n _ _ x v _ _ B (FV hs j) hd rx q qx qv hu).2.1,λj' hj' e => ?_⟩
  obtain⟨x',rx',qx'⟩:=Gj r rv hj';rw[e]at qx';have z:=A7.inj qx qx';subst z;rw[Ih I n _ _ (FV hs j') (FV hs j) rx' rx]
 have key2 : ∀ y,∃ k:Ak,y∈its->Di B s y u k /\ ∀ j (h:j<its.length),its[j]=y->eqD (ds.getD j .non) d=k:=λy=>by
  by_cases hy:y∈its
  .obtain⟨k,hk⟩:=key y hy;exact⟨k,λ_=>hk⟩
  .exact⟨Ab,λh=>absurd h hy⟩
 exact⟨λy=>QB (key2 y),λy hy=>(CN (key2 y) (by simpa using hy)).1,λj hj=>((CN (key2 its[j]) (En _)).2 j hj rfl).symm⟩
noncomputable def WY(K:Fg)(CL:ClA):V->Ac V->Hp->VK->Prop:=λx vs H Q => ∃ l xs ds v d,x = .ref l/\vs=[v]/\SqL K H l xs/\Reps K CL H A0 xs ds/\Rep K CL H A0 v d/\flD 5 d=Ab/\ds.all (flD 5)=Ab/\Q (.int ((ds.filter λy=>eqD y d).length:Af)) H
theorem NA(hu:X.A.units+64<Bo):MtR X "list.count" (WY X.K CL):=by
 intro pI s Y H x vs v us Q I rx rv h;obtain⟨l,xs,ds,y,d,rfl,rfl,sq,rs,ry,h1,h2,q⟩:=h;cases rx;obtain⟨u,rfl,ru⟩:=rv.one;obtain⟨its,r,pl,hz⟩:=I.list sq;obtain⟨⟨c,dct,dt,sl⟩,n,e,hc,hd,hdt⟩:=pl;obtain⟨f,hf,hn⟩:=Yt I (n:=5) X.A.in1 h1 h2 rs r ry ru (by show X.A.units+1+5<Bo;omega)
 replace hc:c = .type "list" := hc;replace hdt:dt = .seq its.toArray n:=hdt;subst hc hdt;refine Ge D9 ⟨_,e,rfl⟩ PySem.F.entry_list_count (PySem.F.args_list_count_2 _ _) (SeqAt.list_countAt l its.toArray n dct sl u f) ⟨e,hf,?_⟩;refine⟨.int _,H,I.tok _,⟨_,rfl⟩,?_⟩;rw[N8 (f:=λy=>eqD y d) (by rw[<-r.length,rs.length]) hn]
 exact q
theorem Uj{o y:Am}{apos cpos:Az}{fo:Rho->R D}{j:Aj}(hu:X.A.units+64<Bo)(ho:ST X CL W o fo)(hy:SE X CL W y (λ_ => .ok (.int j)))(hbase:DL o "count" X.env (eval o X.env)=eval o X.env)(hfew:((B2 cpos (At [y] X.env)).all (λx => !x.1)&&(FB cpos (Eh [] X.env)).all (λx=>x.1.isSome)&&decide ([y].length+([]:Ac CA).length+(if ([]:Ac CA).isEmpty then 0 else 1)<30))=Ab)(hline:(apos.endLine==cpos.line)=Ab)(hs:At [y] X.env=[(Ae,eval y X.env)]):
  SE X CL W (.Call (.Attribute o "count" apos) [y] [] cpos) (λU=>(fo U).bind λx=>biD .count [x,.int j]):=λA=>
 PE.weak (Iq Cv D9 RS (NA (CL:=CL) hu) (ho A) (Du (hy A) EQ hs) hbase hfew hline hs rfl) λY H Q ⟨hA,U,g,p⟩=>⟨hA,U,g,AZ.bind p λd v H1 _ s1 r1 p1=>by
  cases d with
  |lst ds=>
   obtain⟨a,xs,rfl,sq,rs⟩:=r1.lst_of;refine⟨.inl ⟨rfl,xs,sq⟩,hA.same s1,U,g.same s1,λv' H2 s2 r2 => ?_⟩
   have r3:Rep X.K CL H2 A0 (.ref a) (.lst ds):=(B8.same s2 r1).plain;obtain⟨a',xs',e',_,sq',rs'⟩:=r3;cases e';replace p1:AZ (λH=>Rep X.K CL H A) W H1 (if (flD 5 (.int j)&&ds.all (flD 5))=Ab then .ok (.int ((ds.filter λy=>eqD y (.int j)).length:Af)) else .bad) Q:=p1
   split at p1
   .rename_i h;simp only[An]at h;have e2:v' = .int j:=r2;subst e2;exact⟨a,xs',ds,.int j,.int j,rfl,rfl,sq',rs',rfl,h.1,h.2,p1 _ H2 s2 rfl⟩
   .exact p1.elim
  | _=>exact p1.elim⟩
end
section
variable{X:Cx}
variable{CL:ClA}{W:XW}{pos p pos' p':Az}{a b:Am}{fa fb:Rho->R D}
end
section
variable{X:Cx}{CL:ClA}{W:XW}{e o o' k l:Am}{fe:Rho->R Ov.D}{i ik il:Af}{pos spos spos' tpos:Az}{kt:Af}
end
section
variable{prog:Ay}{w:AH}{A:AN}{E:Ah->Al->Prop}{s:Al}
theorem M3{it t:Ag}{items:AW Ah}(hne:t≠it) :∀(n i:Af)(s:Al)(Q:Ac Ah->Al->Prop),s.heap.IsListIter it t i->s.heap.IsList t items->i+n<=items.size->(∀ h',h'.IsListIter it t (i+n)->DX it s.heap h'->Q ((items.toList.drop i).take n) {s with heap:=h'})->AE (model prog w) A (draw (.ref it) n) Q E s
 |0,i,s,Q,hit,_,_,hQ=>by
  show AE _ _ (pure []) Q E s;exact AY (by simpa using hQ s.heap hit (RU ..))
 |n+1,i,s,Q,hit,ht,hle,hQ=>by
  have hlt:i<items.size:=by omega
  show AE _ _ (F9 (.ref it) >>= _) Q E s;refine Ap (SH hit ht (x:=items[i]) (by simp[hlt]) λh₁ hit₁ hs₁ => ?_)
  refine Ap (CW (M3 hne n (i+1) _ _ hit₁ (ht.extBut hs₁.extBut hne) (by omega) λh₂ hit₂ hs₂=>AY ?_))
  have hd:items.toList.drop i=items[i]::items.toList.drop (i+1):=by simp[DQ,hlt]
  have:=hQ h₂ (by rw[show i+(n+1)=i+1+n by omega];exact hit₂) (hs₁.trans hs₂)
  rw[hd,List.take_succ_cons]at this;exact this
theorem SM{t:Ag}{Q:Ac Ah->Al->Prop}(hh:A.handled=Ad)(ht:s.heap.IsList t items)(hQ : ∀ h',FT s.heap.objs.size s.heap h'->Q items.toList {s with heap:=h'}):AE (model prog w) A (unpackItems (.ref t) items.size Ad) Q E s:=by
 have hlt:t≠s.heap.objs.size:=by obtain⟨o,ho,_⟩:=ht;exact AI (Au ho)
 have htp:(s.heap.push { cls := .type "list_iterator",data := .fields #[.ref t,.int 0 0] }).IsList t items:=by
  obtain⟨o,ho,r⟩:=ht;exact⟨o,Aq _ ho,r⟩
 unfold unpackItems;refine Ap ?_
 .unfold notIterableAtAll;refine Ap (wpAny_specialOf ht.typeIs slot_list_iter.lookup ?_);refine AY ?_;simp only[E6,IF];refine Ap (CW (Dm ht ?_));refine Ap (CW (M3 hlt items.size 0 _ _ ⟨_,AC _ rfl,rfl,rfl⟩ htp (by omega) λh₁ hit₁ hs₁ => ?_))
  have hall:List.take items.size (List.drop 0 items.toList)=items.toList:=by
   rw[List.drop_zero];exact List.take_of_length_le (by simp)
  rw[hall];rw[AL (by simp)]
  have ht₁:h₁.IsList t items:=htp.extBut hs₁.extBut hlt;refine Ap (CW (SG hh hit₁ ht₁ (by simp) λh₂ he₂ => ?_))
  simp only[Option.isSome_none,E6,IF];refine AY (hQ h₂ λb o hb e=>he₂ b o hb (hs₁.extBut b o hb (Aq _ e)))
theorem SL{elts:Ac Am}{x1}{pos:Az}{t:Ag}{Q:Gf->Al->Prop}(hh:A.handled=Ad)(ht:s.heap.IsList t items) (hn:(BB elts env).length=items.size) (hstar:(BB elts env).findIdx? (·.1)=Ad) (h :∀ h',FT s.heap.objs.size s.heap h'->AE (model prog w) A (assignInOrder ((BB elts env).map (·.2)) items.toList) Q E {s with heap:=h'}):AE (model prog w) A (assign (.Tuple elts x1 pos) env (.ref t)) Q E s:=by
 rw[assign_Tuple];refine Ap (Fe ?_);unfold unpack;rw[hn,hstar];exact Ap (CW (SM hh ht h))
end
section
variable{X:Cx}{pos:Az}{CL:ClA}
noncomputable def gSq(K:Fg)(n:Af)(t:TGs):TG:=λv Y H Q=>HI K n t v Y H Q \/ ∃ a xs,v = .ref a/\SqL K H a xs/\xs.length=n/\t xs Y H Q
theorem Zg{t:TGs}(hc:X.calm=Ab)(h:PGs X es t)(hn:(BB es X.env).length=n)(hst:(BB es X.env).findIdx? (·.1)=Ad):PG X (.Tuple es k pos) (gSq X.K n t):=by
 intro pI s Y H v u Q I r hw;rcases hw with hw|hw
 .exact LA hc h hn hst pI s Y H v u Q I r hw
 .obtain⟨a,xs,e1,hq,hl,hw⟩:=hw;subst e1;cases r;obtain⟨its,rv,ht,hz⟩:=I.list hq;refine SL (I.ok.hd hc) ht.isList (by simp[hn,<-hl,rv.length]) hst λh' hx => ?_
  have I1:Inv X pI Y H {s with heap:=h'}:=I.kept (t':=s.toks) λb o e=>hx b o (AI (Au e)) e
  exact h pI _ Y H xs _ Q I1 (by simpa using rv) hw
theorem Z_1(ts:Ac Af):GT K CL (GK ts) (gSq K ts.length (ts.foldr (λt u=>FG (DE t) u) FL)):=λFz B U Y H v d U' Q x r e k=>by
 cases d with
 |lst ds=>
  obtain⟨a,xs,rfl,na,sq,rs⟩:=r;rw[Tt]at e;cases e2:DB ts ds U with
  |none=>rw[e2]at e;cases e
  |some U2=>
   rw[e2]at e;cases e;exact .inr ⟨a,xs,rfl,sq,by rw[rs.length];exact IK _ _ _ _ e2,LB ts ds xs U _ Y Q x rs e2 k⟩
 |_=>exact .inl (Oq ts Fz B U Y H v _ U' Q x r e k)
end
section
variable{X:Cx}{CL:ClA}{W:XW}
end
end Ov
namespace Ov
open PySem PySem.W PyProof.Rows
variable{p:AW Af}{m:Af}
def Kr{α:Type}(lt:Af->Af->Ak)(n:Af):KasT α->(α->Prop)->Prop
 |.ret a,Q=>Q a
 |.ask i j k,Q=>i<n/\j<n/\Kr lt n (k (lt i j)) Q
theorem Kr.mono{α:Type}{lt:Af->Af->Ak}{n:Af}{Q Q':α->Prop} : ∀{t:KasT α},Kr lt n t Q->(∀ a,Q a->Q' a)->Kr lt n t Q'
 |.ret _,h,k=>k _ h
 |.ask i j f,h,k=>⟨h.1,h.2.1,Kr.mono (t:=f (lt i j)) h.2.2 k⟩
theorem Kr.bind{α β:Type}{lt:Af->Af->Ak}{n:Af}{f:α->KasT β}{Q:β->Prop} : ∀{t:KasT α},Kr lt n t (λa=>Kr lt n (f a) Q)->Kr lt n (t.bind f) Q
 |.ret _,h=>h
 |.ask i j k,h=>⟨h.1,h.2.1,Kr.bind (t:=k (lt i j)) h.2.2⟩
structure Sto (lt:Af->Af->Ak) (n:Af):Prop where
 tr : ∀ i j k,i<n->j<n->k<n->lt i j=Ab->lt j k=Ab->lt i k=Ab
 tot : ∀ i j,i<n->j<n->i≠j->lt i j=Ae->lt j i=Ab
 asy : ∀ i j,i<n->j<n->lt i j=Ab->lt j i=Ae
noncomputable def at0(p:AW Af)(x:Af):Af:=p.getD x 0
structure Pm (n:Af) (p:AW Af):Prop where
 sz:p.size=n
 lt : ∀ x,x<n->at0 p x<n
 inj : ∀ x y,x<n->y<n->at0 p x=at0 p y->x=y
section
variable{lt:Af->Af->Ak}{n:Af}
noncomputable def Mn(lt:Af->Af->Ak)(p:AW Af)(m:Af):Prop := ∀ x y,x<y->y<m->lt (at0 p x) (at0 p y)=Ab
noncomputable def Mq(lt:Af->Af->Ak)(p:AW Af)(m:Af):Prop := ∀ x y,x<y->y<m->lt (at0 p y) (at0 p x)=Ab
theorem Mn.succ(S:Sto lt n)(hp:Pm n p)(h1:1<=m)(hm:m<n)(h:Mn lt p m)(e:lt (at0 p (m-1)) (at0 p m)=Ab):Mn lt p (m+1):=λx y hxy hy=>by
 by_cases hym:y<m
 .exact h x y hxy hym
 .have:y=m:=by omega
  subst this;by_cases hx:x=y-1
  .rw[hx];exact e
  .exact S.tr _ _ _ (hp.lt _ (by omega)) (hp.lt _ (by omega)) (hp.lt _ hm) (h x (y-1) (by omega) (by omega)) e
theorem Mq.succ(S:Sto lt n)(hp:Pm n p)(h1:1<=m)(hm:m<n)(h:Mq lt p m)(e:lt (at0 p m) (at0 p (m-1))=Ab):Mq lt p (m+1):=λx y hxy hy=>by
 by_cases hym:y<m
 .exact h x y hxy hym
 .have:y=m:=by omega
  subst this;by_cases hx:x=y-1
  .rw[hx];exact e
  .exact S.tr _ _ _ (hp.lt _ hm) (hp.lt _ (by omega)) (hp.lt _ (by omega)) e (h x (y-1) (by omega) (by omega))
end
section
variable{prog:Ay}{w:AH}{A:AN}{E:Ah->Al->Prop}{κ:SortKind}{it:AW Keyed}
end
section
variable{lt:Af->Af->Ak}{n:Af}
end
noncomputable def Li(h:As)(v:Ah)(r:Ac Aj):Prop := ∃ a its,v = .ref a/\HP h a its/\Fs its.toList r/\r≠[]
theorem Li.kept{h h':As}{v:Ah}{r:Ac Aj}(t:Li h v r)(k : ∀ b o,h.get? b=Aa o->h'.get? b=Aa o):Li h' v r:=by
 obtain⟨a,its,e,⟨o,ho,q⟩,i,n⟩:=t;exact⟨a,its,e,⟨o,k _ _ ho,q⟩,i,n⟩
section
variable{prog:Ay}{w:AH}{A:AN}{E:Ah->Al->Prop}{s:Al}
end
end Ov
section
namespace Ov
open PySem PySem.Spec PyProof.Rows L2
section
variable{X:Cx}{CL:ClA}{W:XW}
end
end Ov
end
section
namespace Ov
open PySem PySem.Spec PyProof.Rows
section
variable{t:SetTable}{hashAt:Af->Aj}{h:Aj}
noncomputable def stand(i b:Af):SetTable.Probe:=⟨i,0,i,b,Ad⟩
end
section
variable{prog:Ay}{w:AH}{A:AN}{E:Ah->Al->Prop}{s:Al}{K:Type} [DecidableEq K] {knd:KeyKind prog w K}
end
section
variable{prog:Ay}{w:AH}{A:AN}{R:Gw->Al->Prop}{I:Ag}{fp wr:Ac Ag}{G:AW DA->AW DA->Prop}{n:Af}{P:Af->Ah->Prop}{St:Af->Al->Prop}
end
section
variable{prog:Ay}{w:AH}{A:AN}{E:Ah->Al->Prop}{s:Al}
end
end Ov
end
namespace Ov
open PySem PySem.Spec PyProof.Rows L2
variable{ex fs:Ac Ag}{h h1 h2 h':As}{P:Ay}{w:AH}{H:Hp}{a T':Ag}{oe:AB}{vs:AW Ah}{Q:Gf->Al->Prop}{a0:Ah}{X:Cx}{pI:Ac (Ag × AB)}{Y:L2.St}{s:Al}
section
variable{X:Cx}
def JZ(K:Fg)(H:Hp):Ac V->Ac (Ac Aj)->Prop
 |[],[]=>FU
 |x::xs,k::ks=>(∃ b,x = .ref b/\SqT K H b (k.map V.int))/\JZ K H xs ks
 |_,_=>AV
theorem JZ.length{K:Fg}{H:Hp} : ∀{xs:Ac V}{ks:Ac (Ac Aj)},JZ K H xs ks->xs.length=ks.length
 |[],[],_=>rfl
 |_::_,_::_,h=>congrArg (· + 1) (JZ.length h.2)
 |[],_::_,h=>h.elim
 |_::_,[],h=>h.elim
variable{CL:ClA}{W:XW}{pos p pos' p':Az}{a:Am}{fa:Rho->R D}
end
section
theorem V5(l:Ag)(items:AW Ah)(n:Af)(b:Ag)(items2:AW Ah)(n2:Af)(dd:Ao Ag)(sl:AW (Ao Ah))(hs0 : ¬(!items.isEmpty&&Cq (items.size+items2.size))=Ab)(hs1:items.size<=sizeLine)(hs2:items.size+items2.size<=sizeLine+1):
  Meets (Builtin.«list.extend» ⟨[.ref l,.ref b],[]⟩) (λ_ R s=>s.heap.get? l=Aa { cls := .type "list",dict:=Ad,data := .seq items n,slots := #[] }/\s.heap.get? b=Aa { cls := .type "tuple",dict:=dd,data := .seq items2 n2,slots:=sl }/\R (.ok (.ret C1)) {s with heap:=s.heap.update l (EL λx=>x++items2),toks:=s.toks}):=
 .of_wp λprog w A R s h=>by
  obtain⟨hp,g,d,tk,os⟩:=s;obtain⟨hl,hb,h⟩:=h;have f1:=AutoSeq1.idx_int;have f2:=AutoSeq1.sub_tuple_tuple;have f3:=AutoSeq1.sub_list_list;have f4:=AutoSeq1.sub_tuple_list;have f5:=AutoSeq1.sub_list_tuple;
  have hz':(items++items2).size<=sizeLine+1:=by rw[Array.size_append];exact hs2
  wp_walk using (wpAny_updateSeq hl rfl (hz:=hs1) (_hz':=hz')),Ra hl,Ra hb;exact⟨_,rfl,h⟩
end
section
variable{X:Cx}
noncomputable def Za(K:Fg):V->Ac V->Hp->VK->Prop:=λx vs H Q => ∃ l b xs zs,x = .ref l/\vs=[.ref b]/\H l=Aa (.lst xs)/\SqT K H b zs/\xs.length+zs.length<=sizeLine/\Q .non (upd H l (.lst (xs++zs)))
theorem Wo:MtM X "list.extend" (Za X.K):=by
 intro pI s Y H x vs v us Q I rx rv h;obtain⟨l,b,xs,zs,rfl,rfl,hH,hB,hz,q⟩:=h;cases rx;obtain⟨u,rfl,ru⟩:=rv.one;cases ru;obtain⟨z,its,n,r,hl,e⟩:=I.lstM hH;obtain⟨its2,r2,⟨o,e2,c2,n2,d2⟩,z2⟩:=I.tuple hB;have hl2:=r2.length;obtain⟨oc,od,oda,os⟩:=o;dsimp only at c2 d2;subst c2 d2;have hsz:its.toArray.size+its2.toArray.size<=sizeLine:=by rw[Av,Av];omega
 have hlong : ¬ (!its.toArray.isEmpty&&Cq (its.toArray.size+its2.toArray.size))=Ab:=by
  rw[Ny hsz,D5];exact Aw
 refine Ge Dq ⟨_,e,rfl⟩ RM (RH _ _)
  (V5 l its.toArray n b its2.toArray n2 od os hlong (by rw[Av];omega) (by omega)) ⟨e,e2,?_⟩
 refine⟨.non,_,I.lset (its':=its++its2) hH e (by simp) (r.append r2) ?_,rfl,q⟩
 rw[BP];omega
variable{CL:ClA}{W:XW}{o e:Am}{fe:Rho->R D}{i:Af}{apos cpos pos:Az}
theorem VE(ho:PE X o (Fk i))(he:ST X CL W e fe)(hbase:DL o "extend" X.env (eval o X.env)=eval o X.env)(hfew:((B2 cpos (At [e] X.env)).all (λx => !x.1)&&(FB cpos (Eh [] X.env)).all (λx=>x.1.isSome)&&decide ([e].length+([]:Ac CA).length+(if ([]:Ac CA).isEmpty then 0 else 1)<30))=Ab)(hline:(apos.endLine==cpos.line)=Ab)(hs:At [e] X.env=[(Ae,eval e X.env)])(hsw:CI (.Call (.Attribute o "extend" apos) [e] [] cpos) Ad pos.line X.env=pure Ae):
  SS X CL W (.Expr (.Call (.Attribute o "extend" apos) [e] [] cpos) pos) (λU=>O.of U (Ci U i) λxs=>O.of U (fe U) λx=>O.of U ((Cj .Add x (.tup [])).bind λy=>biD .list [y]) λd=>O.of U (Hx d) λys=>if CD (xs.length+ys.length)=Ab then .next (U.set i (Aa (.lst (xs++ys),Ab))) else .bad):=λFz B pI s Y H D I ⟨U,x,p⟩=>by
 refine IZ (Iq Cv Dq RT Wo ho (Du (he (BO B U Y)) EQ hs) hbase hfew hline hs rfl) hsw pI s Y H D I ?_;dsimp only at p;cases e1:Ci U i with
 |bad=>rw[e1]at p;exact p.elim
 |exn z=>exact(IT e1).elim
 |ok ds=>
  rw[e1,O.of_ok]at p;have hi:=Jb e1;obtain⟨a,xs,ds',q,e2,ha,hh,r⟩:=x.good.ow i _ hi;cases e2;refine⟨_,q,.inl ⟨rfl,xs,SqL.of hh⟩,x.aok,U,x.good,BN.ex x p λd v H' _ s rv x' q' => ?_⟩
  cases d with
  |tup es=>
   obtain⟨b,ys,rfl,h0,h1,rs⟩:=B8.tup_of rv;have eb:Cj .Add (.tup es) (.tup [])=if (!es.isEmpty&&CD (es.length+0))=Ab then .ok (.tup (es++[])) else .bad:=rfl
   rw[eb]at q';split at q'
   .rw[R.bind_ok,show biD .list [.tup (es++[])] = .ok (.lst (es++[])) from rfl,O.of_ok,MP,O.of_ok,Cp]at q'
    split at q'
    .rename_i hz;refine⟨a,b,xs,ys,rfl,rfl,s _ _ hh,h1,?_,q' _ _ (x'.upd hi q ((r.same s).append rs))⟩;rw[r.length,rs.length];exact Gg hz
    .exact q'.elim
   .exact q'.elim
  |_=>exact q'.elim
end
section
open PySem.AutoSeq1 (wpAny_loadPart')
end
section
variable{prog:Ay}{w:AH}{A:AN}{R:Gw->Al->Prop}{I S T:Ag}{u v:Ah}{c:Af}{P:Af->Ah->Prop}{St:Af->As->Prop}{s:Al}{r q:Ac Aj}
end
section
variable{X:Cx}{CL:ClA}{W:XW}
end
noncomputable def JT(e T:Ag)(cls:Ah)(dx:Ao Ag)(fl:Ah)(h:As):Prop := ∃ oe vs oT ts a0,h.get? e=Aa oe/\oe.cls=cls/\oe.dict=dx/\vs[0]? = Aa a0/\oe.data = .fields vs/\vs[1]? = Aa (.ref T)/\T≠e/\h.get? T=Aa oT/\oT.data = .fields ts/\ts[3]? = Aa fl
noncomputable abbrev Fly(e T:Ag)(cls:Ah)(dx:Ao Ag)(h:As):Prop:=JT e T cls dx C1 h
noncomputable def ZR(C:Ag)(dx:Ao Ag)(t:Ag):AB := {cls := .ref C,dict:=dx,data := .fields #[.ref t,.none,.none,.none,.bool Ae,.none]}
structure Shift (ex fs:Ac Ag) (h h':As):Prop where
 keep : ∀ b o,h.get? b=Aa o->b ∉ ex->b ∉ fs->h'.get? b=Aa o
 slot : ∀ b o,h.get? b=Aa o->b∈fs -> ∃ sl,h'.get? b=Aa {o with slots:=sl}
theorem Shift.trans(a:Shift ex fs h h1)(b:Shift ex fs h1 h2):Shift ex fs h h2:=
 ⟨λc o q n m=>b.keep c o (a.keep c o q n m) n m,λc o q m=>by
  obtain⟨sl,e1⟩:=a.slot c o q m;obtain⟨sl',e2⟩:=b.slot c _ e1 m;exact⟨sl',e2⟩⟩
theorem ObjOk.isThere : ∀(o:HO),L2.ObjOk P w H h a o -> ∃ ob,h.get? a=Aa ob
 |.lst _,x=>by obtain⟨_,_,_,_,e⟩:=x;exact⟨_,e⟩
 |.tup _,x=>by obtain⟨_,_,_,p⟩:=x;obtain⟨o,e,_⟩:=p;exact⟨_,e⟩
 |.dK _,x=>by obtain⟨_,_,_,_,o,_,_,e,_⟩:=x;exact⟨_,e⟩
 |.dT _,x=>by obtain⟨_,_,_,_,o,_,_,e,_⟩:=x;exact⟨_,e⟩
 |.set _ _,x=>by obtain⟨o,_,_,_,e,_⟩:=x;exact⟨_,e⟩
 |.ins _ _ _,x=>by obtain⟨_,_,_,e,_⟩:=x;exact⟨_,e⟩
 |.own _,x=>x
 |.xd _,x=>by obtain⟨_,⟨_,_,_,e,_⟩,_⟩:=x;exact⟨_,e⟩
 |.met _ _,x=>⟨_,x⟩
 |.rng _ _,x=>by obtain⟨_,_,_,e⟩:=x;exact⟨_,e⟩
 |.frz _ _,x=>⟨_,x.1⟩
 |.tbl _,x=>⟨_,x⟩
 |.ext _,x=>x.2.1
theorem Nf(x:HOk P w H h)(e:h.get? a=Ad):H a=Ad:=by
 cases q:H a with
 |none=>rfl
 |some o=>
  obtain⟨ob,z⟩:=ObjOk.isThere o (x a o q);rw[e]at z;cases z
theorem HOk.shift(x:HOk P w H h)(sh:Shift ex fs h h')(h1 : ∀ b∈ex,H b=Ad)(h2 : ∀ b∈fs,H b=Ad):HOk P w H h':=λa o e=>
 (x a o e).stay (λb u hb q=>by
  have hs : ∃ v,H b=Aa v:=by
   rcases hb with rfl|hb
   .exact⟨_,e⟩
   .exact⟨_,hb⟩
  obtain⟨v,hv⟩:=hs;exact sh.keep b u q (λz=>by rw[h1 b z]at hv;cases hv) (λz=>by rw[h2 b z]at hv;cases hv)) (λ_ q=>q) λ_ _ q=>q
theorem Un.shift{fs0 fs ex:Ac Ag}{H':Hp}{h0:As}(u:Un fs0 [] H H' h0 h)(sh:Shift ex fs h h')(h1 : ∀ b∈ex,h0.get? b=Ad)(h2 : ∀ b∈fs,b∈fs0\/h0.get? b=Ad):Un fs0 [] H H' h0 h' where
 keep:=λb o q n hb hx=>sh.keep b o (u.keep b o q n hb hx) (λz=>by rw[h1 b z]at q;cases q) λz=>(h2 b z).elim hb λe=>by rw[e]at q;cases q
 slot:=λb o q n hb hx=>by
  obtain⟨sl,e1⟩:=u.slot b o q n hb hx;by_cases hf:b∈fs
  .obtain⟨sl',e2⟩:=sh.slot b _ e1 hf;exact⟨sl',e2⟩
  .exact⟨sl,sh.keep b _ e1 (λz=>by rw[h1 b z]at q;cases q) hf⟩
 free:=u.free
 there:=λb o q hx=>by
  obtain⟨o',e1⟩:=u.there b o q hx;by_cases hf:b∈fs
  .obtain⟨sl',e2⟩:=sh.slot b _ e1 hf;exact⟨_,e2⟩
  .exact⟨o',sh.keep b _ e1 (λz=>by rw[h1 b z]at q;cases q) hf⟩
 tups:=u.tups
 frzs:=u.frzs
 tbls:=u.tbls
theorem VM(f:AW Ah->AW Ah)(o:AB):(Ej f o).dict=o.dict:=by
 obtain⟨c,d,dt,sl⟩:=o;cases dt <;> rfl
section
variable{M:GQ}{A:AN}{E:Ah->Al->Prop}{s:Al}{env:BM}{outer:Ac BM}{L e T:Ag}{cls:Ah}{dx:Ao Ag}{base h:As}
theorem MT{hd:Ah}{nx:Ak}(hfr:A.frames=Aa (env::outer))(hf:env.frame=Aa L)(ff:s.heap.FunFrames base (env::outer))(he:s.heap.get? e=Aa oe)(dt:oe.data = .fields vs)(hz:1<vs.size)(hQ : ∀ h' T' oT ts,h'.get? e=Aa (Ej (·.setIfInBounds 1 (.ref T')) oe)->T'≠e->s.heap.get? T'=Ad->h'.get? T'=Aa oT->oT.data = .fields ts->ts[3]? = Aa (Cn L)->Shift [e] (frs (env::outer)) s.heap h'->Q () {s with heap:=h'}):
  AE M A (do
   let fr <-frameOf env
   let pl <-entryPlaceOf L nx
   let en <-Rg hd fr .none (Cn L) .none pl
   setField (.ref e) 1 en) Q E s:=by
 have nf:e ∉ frs (env::outer):=λz=>by
  obtain⟨_,o,q,n⟩:=ff.mem z;rw[he]at q;cases q;exact n vs dt
 refine Ap (wpAny_frameOf_fun hfr ff hf λk1 so=>Ap (wpAny_entryPlaceOf λpl ip => ?_))
 obtain⟨sz,sm,sl⟩:=so;have e1:k1.get? e=Aa oe:=(sm e nf).trans he;unfold Rg;unfold newFields;refine Ap (Eb ?_ (ip.sizeOk5 _ _ _ _ _));generalize hX:({ cls := .type "traceback",dict:=Ad,data := .fields ([hd,.ref L,.none,Cn L,.none]++(if pl.isEmpty then EZ 6 C1 else pl)).toArray }:AB)=ob
 have od:ob.data = .fields ([hd,.ref L,.none,Cn L,.none]++(if pl.isEmpty then EZ 6 C1 else pl)).toArray:=by rw[<-hX]
 have nl:k1.objs.size≠e:=EG (Au e1);have e2:=Aq ob e1;refine D7 e2 dt hz ?_;have up : ∀ b,b≠e->((k1.push ob).update e (Ej (·.setIfInBounds 1 (.ref k1.objs.size)))).get? b=(k1.push ob).get? b:=λb nb=>Cd _ _ (Dd nb)
 have lf:ob.isFreed=Ae:=by rw[<-hX];rfl
 refine hQ _ k1.objs.size ob _ (CP _ e2 (Ds (Cm dt _))) nl ?_ ((up _ nl).trans (AC k1 lf)) od ?_ ⟨λb o q n1 n2 => ?_,λb o q hb => ?_⟩
 .rw[sz];exact EJ (AS _)
 .simp
 .have nb:b≠e:=λz=>n1 (by rw[z];exact AM)
  rw[up b nb];exact Aq ob ((sm b n2).trans q)
 .obtain⟨sl',q'⟩:=sl b o q;have nb:b≠e:=λz=>nf (z ▸ hb)
  exact⟨sl',(up b nb).trans (Aq ob q')⟩
theorem M2{oT:AB}{ts:AW Ah}{fl:Ah}(hc:oe.cls=cls)(hx:oe.dict=dx)(h0:vs[0]? = Aa a0)(dt:oe.data = .fields vs)(hz:1<vs.size)(g:h'.get? e=Aa (Ej (·.setIfInBounds 1 (.ref T')) oe))(ne:T'≠e)(gT:h'.get? T'=Aa oT)(dT:oT.data = .fields ts)(f3:ts[3]? = Aa fl):JT e T' cls dx fl h':=
 ⟨_,_,oT,ts,a0,g,(RW _ _).trans hc,(VM _ _).trans hx,by rw[Array.getElem?_setIfInBounds_ne (by decide)];exact h0,Cm dt _,by simp[hz],ne,gT,dT,f3⟩
theorem Hn{i:Af}{v:Ah}(q:vs[i]? = Aa v):i<vs.size:=(Array.getElem?_eq_some_iff.mp q).1
theorem TR(hfr:A.frames=Aa (env::outer))(hf:env.frame=Aa L)(ff:s.heap.FunFrames base (env::outer))(fl:Fly e T cls dx s.heap)(hQ : ∀ h' T',JT e T' cls dx (Cn L) h'->Shift [e,T] (frs (env::outer)) s.heap h'->s.heap.get? T'=Ad->Q () {s with heap:=h'}):AE M A (GB (.ref e) env) Q E s:=by
 obtain⟨oe,vs,oT,ts,a0,he,hc,hx,h0,dt,h1,ne,hT,dT,h3⟩:=fl;have z3:=Hn h3;unfold GB;simp only[hf];refine Ap (BH he dt h1 ?_);rw[AD (by simp:(Gy T != C1)=Ab)]
 refine Ap (BH hT dT h3 ?_);rw[AL (by simp[Cn] : ¬ (C1==Cn L)=Ab)]
 refine Ap (D7 hT dT z3 ?_);have up : ∀ b,b≠T->(s.heap.update T (Ej (·.setIfInBounds 3 C1))).get? b=s.heap.get? b:=λb nb=>Cd _ _ (Dd nb)
 have rcd : ∀ b o,s.heap.get? b=Aa o->(∀ us,o.data ≠ .fields us)->b≠T:=λb o q n z=>by
  rw[z,hT]at q;cases q;exact n ts dT
 refine MT (base:=base) hfr hf (ff.of_keeps λb o q n=>⟨o,(up b (rcd b o q n)).trans q,rfl⟩) ((up e (Dd ne)).trans he) dt (Hn h1) λh' T' oT' ts' g nT gn gT dT' f3 sh => ?_
 have T0:s.heap.get? T'=Ad:=by
  by_cases z:T'=T
  .rw[z]at gn;rw[CP _ hT (Ds (Cm dT _))]at gn;cases gn
  .rw[<-up T' z];exact gn
 refine hQ h' T' (M2 hc hx h0 dt (Hn h1) g nT gT dT' f3) ⟨λb o q n1 n2 => ?_,λb o q hb => ?_⟩ T0
 .simp only[AK,BG,Dl,EW]at n1;exact sh.keep b o ((up b n1.2).trans q) (by simp[n1.1]) n2
 .obtain⟨_,o',q',n⟩:=ff.mem hb;rw[q]at q';cases q';exact sh.slot b o ((up b (rcd b o q n)).trans q) hb
theorem N3{fv:Ah}(fl:JT e T cls dx fv s.heap)(hQ : ∀ h',Fly e T cls dx h'->(∀ b o,b≠T->s.heap.get? b=Aa o->h'.get? b=Aa o)->Q () {s with heap:=h'}):AE M A (setFlight (.ref e) Ad) Q E s:=by
 obtain⟨oe,vs,oT,ts,a0,he,hc,hx,h0,dt,h1,ne,hT,dT,h3⟩:=fl;have z3:=Hn h3;unfold setFlight;refine Ap (BH he dt h1 ?_);rw[AD (by simp:(Gy T != C1)=Ab)]
 refine D7 hT dT z3 (hQ _ ?_ λb o nb q=>(Cd _ _ (Dd nb)).trans q)
 exact⟨oe,vs,_,_,a0,(Cd _ _ ne).trans he,hc,hx,h0,dt,h1,ne,CP _ hT (Ds (Cm dT _)),Cm dT _,by simp[z3]⟩
theorem MR(ff:s.heap.FunFrames base (env::outer))(sh:Shift ex (frs (env::outer)) s.heap h1)(hT:s.heap.get? T'=Ad)(k : ∀ b o,b≠T'->h1.get? b=Aa o->h2.get? b=Aa o):Shift ex (frs (env::outer)) s.heap h2:=
 ⟨λb o q n1 n2=>k b o (λz=>by rw[z,hT]at q;cases q) (sh.keep b o q n1 n2),λb o q hb=>let ⟨sl,q'⟩:=sh.slot b o q hb;⟨sl,k b _ (λz=>by rw[z,hT]at q;cases q) q'⟩⟩
theorem Tp(hfr:A.frames=Aa (env::outer))(hf:env.frame=Aa L)(ff:s.heap.FunFrames base (env::outer))(fl:Fly e T cls dx s.heap)(hQ : ∀ h' T',Fly e T' cls dx h'->Shift [e,T] (frs (env::outer)) s.heap h'->(T'=T\/s.heap.get? T'=Ad)->Q () {s with heap:=h'}):AE M A (leaving env (.ref e)) Q E s:=by
 unfold leaving;exact Ap (TR hfr hf ff fl λh1 T' f1 sh hT=>N3 f1 λh2 f2 k=>hQ h2 T' f2 (MR ff sh hT k) (.inr hT))
theorem Tj(hfr:A.frames=Aa (env::outer))(hf:env.frame=Aa L)(ff:s.heap.FunFrames base (env::outer))(he:s.heap.get? e=Aa oe)(hc:oe.cls=cls)(hx:oe.dict=dx)(dt:oe.data = .fields vs)(h0:vs[0]? = Aa a0)(h1:vs[1]? = Aa .none)(hQ : ∀ h' T',Fly e T' cls dx h'->Shift [e] (frs (env::outer)) s.heap h'->s.heap.get? T'=Ad->Q () {s with heap:=h'}):AE M A (leaving env (.ref e)) Q E s:=by
 unfold leaving GB;simp only[hf];refine Ap (Ap (BH he dt h1 ?_));rw[AL (by decide)]
 exact MT (base:=base) hfr hf ff he dt (Hn h1) λh' T' oT ts g nT gn gT dT f3 sh=>N3 (M2 hc hx h0 dt (Hn h1) g nT gT dT f3) λh2 f2 k=>hQ h2 T' f2 (MR ff sh gn k) gn
end
noncomputable def CXR(P:Ay)(w:AH):CXT:=λouter H s E ev s' => ∃ e T cls dx H',ev = .ref e/\s'.os=s.os/\Do s'.gens/\Un (frs outer) [] H H' s.heap s'.heap/\HOk P w H' s'.heap/\Fly e T cls dx s'.heap/\H' e=Ad/\H' T=Ad/\s.heap.get? e=Ad/\s.heap.get? T=Ad/\E cls dx H'
noncomputable def Mo(X:Cx)(CL:ClA)(W:XW):Prop := ∀ pI Y H s e C dx t x,Inv X pI Y H s->(X.ex=[]->X.s₀.heap.get? e=Ad)->H e=Ad->s.heap.get? e=Aa (ZR C dx t)->Fj X.K CL H (.ref C) dx x->W x H->X.xe (.ref e) s
section
variable{P:Ay}{w:AH}{K:Fg}{mg:Ai->Ao Ah}{base:As}{N:Ac Ai}{qual:Ai}{scope:Bf}{f:Ag}{cd:Ah}{A:AN}{outer:Ac BM}{s:Al}{H:Hp}{E:XK}{CL:ClA}{W:XW}
theorem N2(I:Inv X pI Y H s) : ∀ b∈frs X.stack,b∈X.fs\/X.s₀.heap.get? b=Ad:=λb hb=>by
 rcases AK.mp (I.stkSub b hb) with z|z
 .exact .inr (by rw[z];exact EJ I.ok.above)
 .exact .inl z
theorem IX{b:Ag}(I:Inv X pI Y H s)(hx:X.ex=[])(h:s.heap.get? b=Ad):X.s₀.heap.get? b=Ad:=by
 cases q:X.s₀.heap.get? b with
 |none=>rfl
 |some o=>
  obtain⟨o',z⟩:=I.base.there b o q (by rw[hx];simp)
  rw[h]at z;cases z
theorem O6(hE : ∀ x cls dx H',W x H'->Fj K CL H' cls dx x->E cls dx H') : ∀ A',GJ (CXR P w) (DH (CXR P w) P w K mg base N qual scope f cd A outer s H E) (EKW K CL A' W):=by
 intro A' pI Y H1 s1 ev s2 I h;obtain⟨e,T,cls,dx,H',rfl,os,bare,un,hok,fl,he,hT,ne,nT,x,xr,wx⟩:=h;have I':=I.call' (s':=s2) (ch:=[]) os un hok bare (λb z=>absurd z (by simp))
 have hb0:Un (frs outer) [] H H' s.heap s2.heap:=I'.base;show AE (model P w) (A.deeper (Cw qual scope s.heap.objs.size f cd)) (leaving (Cw qual scope s.heap.objs.size f cd) (.ref e)) _ _ s2;refine Tp (L:=s.heap.objs.size) I'.ok.frames rfl I'.stack fl λh' T' fl' sh hT' => ?_
 have e0:s.heap.get? e=Ad:=IX I rfl ne;have T0:s.heap.get? T=Ad:=IX I rfl nT;refine⟨e,T',cls,dx,H',rfl,I'.os,bare,Un.shift hb0 sh ?_ (N2 I'),HOk.shift hok sh ?_ I'.stkFree,fl',he,?_,e0,?_,?_⟩
 .intro b hb;rcases AK.mp hb with rfl|hb
  .exact e0
  .rw[A6.mp hb];exact T0
 .intro b hb;rcases AK.mp hb with rfl|hb
  .exact he
  .rw[A6.mp hb];exact hT
 .rcases hT' with rfl|z
  .exact hT
  .exact Nf hok z
 .rcases hT' with rfl|z
  .exact T0
  .exact IX I' rfl z
 .exact hE x cls dx H' wx xr
theorem rzR(hE : ∀ x cls dx H',W x H'->Fj K CL H' cls dx x->E cls dx H'):Mo (DH (CXR P w) P w K mg base N qual scope f cd A outer s H E) CL W:=by
 intro pI Y H1 s1 e C dx t x I e0 he ge xr hw;have hb0:Un (frs outer) [] H H1 s.heap s1.heap:=I.base;have e0':s.heap.get? e=Ad:=e0 rfl;show AE (model P w) (A.deeper (Cw qual scope s.heap.objs.size f cd)) (leaving (Cw qual scope s.heap.objs.size f cd) (.ref e)) _ _ s1;refine Tj (cls := .ref C) (dx:=dx) (L:=s.heap.objs.size) I.ok.frames rfl I.stack ge rfl rfl rfl (a0 := .ref t) rfl rfl λh' T' fl' sh hT' => ?_
 have one : ∀{Z_:Ag->Prop},Z_ e -> ∀ b∈[e],Z_ b:=λ{Z_} z b hb=>by rw[A6.mp hb];exact z
 exact⟨e,T',.ref C,dx,H1,rfl,I.os,I.bare,Un.shift hb0 sh (one e0') (N2 I),HOk.shift I.hok sh (one (Z_:=λb=>H1 b=Ad) he) I.stkFree,fl',he,Nf I.hok hT',e0',IX I rfl hT',hE x _ dx H1 hw xr⟩
theorem ownR:EB (model P w) (DH (CXR P w) P w K mg base N qual scope f cd A outer s H E).A (DH (CXR P w) P w K mg base N qual scope f cd A outer s H E).env (DH (CXR P w) P w K mg base N qual scope f cd A outer s H E).xe:=PassesOwn.leaving
end
noncomputable def veB:Ac Ah:=[.type "ValueError",.type "Exception",.type "BaseException",.type "object"]
noncomputable def Go(K:Fg)(C:Ag)(v:Ao Ah):Ak:=match K.lookup C with
  | some ⟨.type "type",_,.cls c,z⟩=>(match c.mro,z.toList with
    |.ref c0::tl,[_,_,_,_,Aa (.builtin nw),_]=>c0==C&&(nw == "ValueError.__new__" && (!c.hasDel&&(PySem.W.tailIn K veB tl&&(PySem.W.nsOkIn K c.ns&&Bj K c.ns "__init__" == Aa v))))
    | _,_=>Ae)
  |_=>Ae
structure XcOk (K:Fg) (C:Ag):Prop where
 exc : ∃ v,Go K C v=Ab
 ga:Bb K (.ref C) "__getattribute__" = Aa (Aa (.builtin "BaseException.__getattribute__"))
 gt:Bb K (.ref C) "__getattr__" = Aa Ad
 cl:Bb K (.ref C) "__class__" = Aa (Aa (.builtin "object.__class__"))
 ob:PySem.W.mroIn K C (.type "object")=Aa Ab
 be:Sj K (.ref C) (.type "BaseException")=Aa Ab
 cs:(PySem.W.clsIn K C).isSome=Ab
 ve:Sh K (.ref C) (.type "ValueError")=Aa Ab
section
variable{prog:Ay}{w:AH}{A:AN}{E:Ah->Al->Prop}{h:As}{g:AW DA}{d:Ga}{t:Af}{os:F3}{K:Fg}{e C:Ag}
end
noncomputable def Pz(X:Cx)(pI:Ac (Ag × AB))(e:Ag):Prop:=e≠X.env.locals/\(∀ x c,X.env.cells.lookup x=Aa c->c≠e)/\(∀ p∈X.pn++pI,p.1≠e)/\X.s₀.heap.get? e=Ad
section
variable{X:Cx}{pI:Ac (Ag × AB)}{Y:L2.St}{H:Hp}{s:Al}{e:Ag}
end
noncomputable def Cx.hot(X:Cx)(e:Ag):Cx := {X with A:=X.A.mark (Aa (.ref e)),calm:=Ae,xe:=λ_ _=>AV}
section
variable{X:Cx}{pI:Ac (Ag × AB)}{Y:L2.St}{H:Hp}{s:Al}{e:Ag}
end
noncomputable def Z_7(X:Cx)(CL:ClA)(pI:Ac (Ag × AB))(Y:L2.St)(H:Hp)(y:Ex)(Xw:Ah->Al->Prop):Prop:=
 ∀ s' H' e T cls dx,Inv X pI Y H' s'->Ax H H'->Fly e T cls dx s'.heap->H' e=Ad->H' T=Ad->Pz X pI e->Pz X pI T->Fj X.K CL H' cls dx y->Xw (.ref e) s'
noncomputable def STB(X:Cx)(CL:ClA)(body:Ac AJ)(f:Rho->O):Prop := ∀ Fz B pI s Y H D U (Xw:Ah->Al->Prop),EB (model X.prog X.w) X.A X.env Xw->Inv X pI Y H s->Sx X.K CL Fz B U Y H ->
  (match f U with
   |.exn y U'=>U'=U->Z_7 X CL pI Y H y Xw
   | o=>BN X.K CL Fz B (λ_ _=>AV) o D)->(∀ y U',f U = .exn y U'->U'=U)->AE (model X.prog X.w) X.A (execs body X.env) (SP X pI D) Xw s
noncomputable def Cx.pw(X:Cx)(pI:Ac (Ag × AB))(Xw:Ah->Al->Prop):Cx := {X with pn:=X.pn++pI,xe:=Xw}
section
variable{X:Cx}{pI pins':Ac (Ag × AB)}{Y:L2.St}{H:Hp}{s:Al}{Xw:Ah->Al->Prop}
end
section
variable{X:Cx}{CL:ClA}{k n:Af}{fr:Ak}{f:Ag}{fd:Bh}{ps:Ac Ai}{F:Ac D->R D}{x:Ai}{p pos pos2:Az}{e:Am}{es:Ac Am}{fs ft:Rho->R (Ac D)}{sh:Rho->Ak}
variable(hx0:X.ex=[])(G:FnOk X.prog X.w X.K X.mg X.base (CXR X.prog X.w) k f fd ps (spD X.K CL n fr F))(hr:Room k X.A)(hg:Gl X x)(hm:X.mg x=Aa (.ref f))
    (hk:BK X.K (.ref f)=Ab) (hb:E3 X.K fd ps []) (hst : ∀ U,sh U=Ab->ft U=fs U) (hn : ∀ U ds,ft U = .ok ds->ds.length=n) (hnx : ∀ U y,ft U ≠ .exn y)
    (hdb:(x==("__debug__" : Ai))=Ae) (he:At (e::es) X.env=(Ae,eval e X.env)::At es X.env) (hpl : ∀ pos,(B2 pos (At es X.env)).any (·.1)=Ae)
    (ha : ∀ pI Xw,EB (model X.prog X.w) X.A X.env Xw->SA (Cx.pw X pI Xw) CL (λ_ _=>AV) (e::es) fs/\SAT (Cx.pw X pI Xw) CL (λ_ _=>AV) (e::es) ft)
include hx0 G hr hg hm hk hb hst hn hnx hdb he hpl ha
end
section
variable{X:Cx}{CL:ClA}{W:XW}
noncomputable def Yy(K:Fg)(CL:ClA)(up:Af->Ac Af)(c':Af)(C':Ag):Prop := ∀ c C,CL c=Aa C->Sh K (.ref C) (.ref C')=Aa ((up c).contains c')
variable{a:Am}{fa:Rho->R D}{up:Af->Ac Af}{x:Ai}{p p2 pos:Az}
end
end Ov
section
namespace Ov
open PySem PySem.Spec PyProof.Rows L2
end Ov
end
namespace Ov
open PySem PySem.Spec PyProof.Rows L2
variable{v:V}{d:D}{α:Type}{X:Cx}{CL:ClA}{fr:Ak}{x qual x0 x1 pt:Ai}{pos p:Az}{xs ys:Ac Am}{env:BM}{l kk m id c k d1 d2:Af}{scope:Bf}{ts:Ac Af}{C P:Ag}{H:Hp}{as:Es}{vs:Ac V}{K:Fg}{fd:Bh}{xn:Af->Ac D->R Ex}{h:As}{CX:CXT}{oc:Ah}{osl:AW (Ao Ah)}
noncomputable abbrev aW:CXT:=λ_ _ _ _ _ _=>AV
structure HotOk (P:Ay) (w:AH) (K:Fg) (mg:Ai->Ao Ah) (base:As) (k:Af) (f:Ag) (fd:Bh) (ps:Ac Ai) (sp:Sp):Prop where
 len : ∀ vs H Q E,sp vs H Q E->vs.length=ps.length
 run : ∀(A:AN)(ev:Ag)(outer:Ac BM)(s:Al)(H:Hp)(args:Args)(us:Ac Ah)(vs:Ac V)(Q:VK)(E:XK),Room k A->Env0 P w K mg base (A.mark (Aa (.ref ev))) outer s H->Dp s fd args (ps.zip us)->AU vs us->sp vs H Q E ->
  D6 (model P w) (A.mark (Aa (.ref ev))) (.call (.ref f) args) (CR aW outer P w H s Q E) s
noncomputable def spH(K:Fg)(CL:ClA)(n:Af)(fr:Ak)(F:Ac D->R D):Sp:=λvs H Q _ => ∃(ds:Ac D)(A:Ag->Prop),vs.length=n/\AOk H A/\Reps K CL H A vs ds/\(match F ds with
  |.ok d => ∀ v H',Ax H H'->Dx K CL fr H A H' v d->Q v H'
  |.exn _=>AV
  | .bad=>AV)
section
variable{X:Cx}{CL:ClA}{ev:Ag}
end
structure NdV (n:Nd) (pt:Ai):Prop where
 ok:NdOk n pt
 body : ∃ vp p1 p2 p3 cp rp,n.body=[.Return (Aa (.Call (.Name "value" vp) [.Name n.x1 p1,.Name n.x2 p2,.Name pt p3] [] cp)) rp]
 gl:n.scope.names.lookup ("value" : Ai)=Aa .globalImplicit
 nm : ∀ x∈[pt,n.x1,n.x2],(x==("__debug__" : Ai))=Ae/\(x==("__classdict__" : Ai))=Ae
noncomputable def Mr(Z:Gam)(CL:ClA)(k:Af)(X:Cx):Prop:=Room (k+1) X.A /\ ∃ n pt,IA X.K=Aa n/\NdV n pt /\ ∃ f fd ps fr,X.mg "value" = Aa (.ref f)/\BK X.K (.ref f)=Ab/\E3 X.K fd ps []/\FnOk X.prog X.w X.K X.mg X.base (CXR X.prog X.w) k f fd ps (spD X.K CL 3 fr (Z.F 126))
section
variable{K:Fg}{CL:ClA}{H:Hp}{A:Ag->Prop}{k1 k2:Ag}{φ1 φ2:As->Prop}
theorem NC : ∀{vs:Ac V}(ds:Ac D),ds.all Ix=Ab->Reps K CL H A vs ds->Reps K CL (unH H k1 k2) A vs ds
 |[],[],_,h=>h
 |_::_,d::ds,z,h=>by
  rw[DJ,An]at z;refine⟨?_,NC ds z.2 h.2⟩;cases d with
  |int i=>exact h.1
  |_=>cases z.1
 |[],_::_,_,h=>h.elim
 |_::_,[],_,h=>h.elim
theorem Ln(e1:H k1=Aa (.ext φ1))(e2:H k2=Aa (.ext φ2))(z:Dk d=Ab)(h:Rep K CL H A v d):Rep K CL (unH H k1 k2) A v d:=by
 cases d with
 |int i=>exact h
 |tup ds=>
  obtain⟨a,xs,e,na,sq,r⟩:=h;refine⟨a,xs,e,na,?_,NC ds z r⟩;rcases sq with sq|sq
  .refine .inl ?_;rcases sq with sq|⟨o,sq⟩
   .exact .inl ((Gk (λy=>by rw[y,e1]at sq;cases sq) (λy=>by rw[y,e2]at sq;cases sq)).trans sq)
   .exact .inr ⟨o,(Gk (λy=>by rw[y,e1]at sq;cases sq) (λy=>by rw[y,e2]at sq;cases sq)).trans sq⟩
  .exact .inr sq
 |_=>cases z
theorem Yw(e1:H k1=Aa (.ext φ1))(e2:H k2=Aa (.ext φ2))(h:AOk H A):AOk (unH H k1 k2) A:=λa ha=>by
 obtain⟨xs,e⟩:=h a ha;exact⟨xs,(Gk (λy=>by rw[y,e1]at e;cases e) (λy=>by rw[y,e2]at e;cases e)).trans e⟩
end
section
variable{X:Cx}{CL:ClA}{W:XW}{Z:Gam}{k i:Af}{x:Ai}{y:Am}{p pos:Az}{f:Rho->R D}
theorem Xq(c:Mr Z CL k X)(hv:PE X (.Name x p) (Fk i))(hs:At [y] X.env=(Ae,eval y X.env)::At [] X.env)(hy:SE X CL W y f):SE X CL W (.Call (.Name x p) [y] [] pos) (λU=>JX Z.F (Dv U i) (f U)):=by
  intro A pI s Y H Q I ⟨hA,U,g,post⟩;dsimp only at post;obtain⟨hr,n,pt,hn,N,f0,fd,ps,fr,m1,m2,m3,m4⟩:=c;cases e:Dv U i with
  |bad=>rw[e]at post;exact post.elim
  |exn z=>rw[e]at post;exact post.elim
  |ok d=>
    rw[e]at post;obtain⟨v,hσ,rv⟩:=g.sh i d (NH e);cases d with
    |obj c fs=>
      obtain⟨q,vs,rfl,⟨n',hn',v1,v2,rfl,c',k1,k2,ne,a1,a2,a3,a4⟩,rf⟩:=rv;rw[hn]at hn';cases hn'
      match fs,rf,post with
      |[],rf,_=>exact rf.elim
      |[_],rf,_=>exact rf.2.elim
      |_::_::_::_,rf,_=>exact rf.2.2.elim
      |[(s1,d1),(s2,d2)],rf,post=>
        obtain⟨⟨_,r1⟩,⟨_,r2⟩,_⟩:=rf;have post:AZ (λH=>Rep X.K CL H A) W H ((f U).bind λx=>if (Dk d1&&Dk d2&&Dk x)=Ab then noX (Z.F 126 [d1,d2,x]) else .bad) Q:=post
        refine DY (thn (hv pI s Y H (λv H1=>v = .ref q/\H1=H) I ⟨_,hσ,rfl,rfl⟩) λu s1 ⟨v,H1,I1,ru,e1,e2⟩ => ?_)
        subst e1 e2;have hu:u = .ref q:=ru;subst hu;obtain⟨⟨doc,pm,ctv,ho⟩,_,_⟩:=I1.hok q _ a1.1;refine PySem.W.callWith_F (first:=[]) ⟨_,_,_,_,ho⟩ (thn ((Du (hy A) EQ hs) pos pI s1 Y H1 (λus H2 => ∃ vx dx,us=[vx]/\f U = .ok dx/\Ax H1 H2/\Rep X.K CL H2 A vx dx) I1 ⟨hA,U,g,?_⟩) λus s2 ⟨vs,H2,I2,rvs,vx,dx,e1,e2,sm,rx⟩ => ?_) hs (by rfl)
        · cases ef:f U with
          |bad=>rw[ef]at post;exact post.elim
          |exn z=>rw[ef]at post;exact post
          |ok dx=>exact λv H' sm r=>⟨v,dx,rfl,rfl,sm,r⟩
        · subst e1;obtain⟨u,hu1,ru⟩ : ∃ u,us=[u]/\A7 vx u:=by
            cases rvs with
            |cons a b=>cases b;exact⟨_,rfl,a⟩
          subst hu1;obtain⟨⟨doc2,pm2,ctv2,ho2⟩,_,_⟩:=I2.hok q _ (sm _ _ a1.1);refine⟨⟨_,_,_,_,ho2⟩,?_⟩;rw[e2,R.bind_ok]at post;cases hz:(Dk d1&&Dk d2&&Dk dx) with
          |false=>rw[hz]at post;exact post.elim
          |true=>
            rw[hz,AD rfl]at post;rw[An,An]at hz;obtain⟨⟨z1,z2⟩,z3⟩:=hz;have b3:=sm _ _ a3.1;have b4:=sm _ _ a4.1;show AE _ _ (call (.ref q) [u]) _ _ _;refine U_6 (CX:=CX0) (E:=λ_ _ _=>AV) I2 hr N.ok ne (sm _ _ a1.1) (sm _ _ a2.1) b3 b4 ru (λ_ _ _ _ _ _ _ z=>z.elim) (λ_ _ z=>z.elim) λdoc pm ctv hr' => ?_
            obtain⟨vp,p1,p2,p3,cp,rp,hb⟩:=N.body;rw[hb];have nm:=N.nm;have w0:Vis n.scope pt := .inl N.ok.l0;have w1:Vis n.scope n.x1 := .inr (.inr N.ok.l1);have w2:Vis n.scope n.x2 := .inr (.inr N.ok.l2);refine⟨_,GZ (Jn (Ja (E:=λ_ _ _=>AV) (dvs:=[]) (ds:=[]) (CX:=CXR X.prog X.w) m4 hr' (show n.scope.names.lookup ("value" : Ai)=Aa .globalImplicit from N.gl) m1 m2 m3 .nil (λpins' Y' H' s' e' s'' I' z => ?_) (Du (Ij (i:=1) rfl w1 (nm _ (by simp)).1 (nm _ (by simp)).2) (Du (Ij (i:=2) rfl w2 (nm _ (by simp)).1 (nm _ (by simp)).2) (Du (Ij (i:=0) rfl w0 (nm _ (by simp)).1 (nm _ (by simp)).2) EQ))))) ND,?_⟩
            · obtain⟨_,_,_,_,_,_,_,_,_,_,_,_,_,_,_,w⟩:=z;exact w.elim
            · refine⟨v1,rfl,v2,rfl,vx,rfl,[d1,d2,dx],A,rfl,Yw b3 b4 (hA.same sm),⟨Ln b3 b4 z1 (r1.same sm),Ln b3 b4 z2 (r2.same sm),Ln b3 b4 z3 rx,trivial⟩,?_⟩;cases eF:Z.F 126 [d1,d2,dx] with
              |bad=>rw[eF]at post;exact post.elim
              |exn z=>rw[eF]at post;exact post.elim
              |ok d=>
                rw[eF]at post;intro v' H' sm' rc n1 n2;exact post v' _ (sm.trans (U_7 ne b3 b4 sm')) (rc.1.same (Nm n1 n2))
    |_=>exact post.elim
end
section
variable{M:GQ}{A:AN}{E:Ah->Al->Prop}{s:Al}{env:BM}{nm q:Ai}{C N:Ag}{bs bm bmB:Ac Ah}{hdct:Ak}{sn:Ac Ai}{sub:Ac Ah}{ab:Ak}{col:Ao Ak}{dd:Ao Ag}{k0 k1 k2 k3 k5:Ao Ah}{B newId initId:Ce}
end
section
variable{prog:Ay}{w:AH}{A:AN}{E:Ah->Al->Prop}{h:As}{g:AW DA}{d:Ga}{t:Af}{os:F3}
variable{nm q:Ai}{C N fI:Ag}{bs bm bmB:Ac Ah}{hdct:Ak}{sn:Ac Ai}{sub:Ac Ah}{ab:Ak}{col:Ao Ak}{dd:Ao Ag}{k0 k1 k2 k3 k5:Ao Ah}{B newId initId:Ce}{mN:Ai->Ao Ah}{rest:Ac Ah}{oI:AB}
end
section
variable{prog:Ay}{w:AH}{A:AN}{E:Ah->Al->Prop}{s:Al}{env:BM}
variable{nm q:Ai}{C N fI:Ag}{bs bm bmB:Ac Ah}{hdct:Ak}{sn:Ac Ai}{sub:Ac Ah}{ab:Ak}{col:Ao Ak}{dd:Ao Ag}{k0 k1 k2 k3 k5:Ao Ah}{B newId initId:Ce}{mN:Ai->Ao Ah}
end
section
variable{prog:Ay}{w:AH}{A:AN}{E:Ah->Al->Prop}{h:As}{g:AW DA}{d:Ga}{tk0:Af}{os:F3}
variable{nm q:Ai}{C N e t:Ag}{dx:Ao Ag}{bs bm bmB:Ac Ah}{hdct:Ak}{sn:Ac Ai}{sub:Ac Ah}{ab:Ak}{col:Ao Ak}{dd:Ao Ag}{k0 k1 k2 k3 k5:Ao Ah}{B newId initId:Ce}
end
section
variable{X:Cx}{CL:ClA}{pI:Ac (Ag × AB)}{Y:L2.St}{H:Hp}{s:Al}
end
section
variable{X:Cx}{CL:ClA}
end
section
variable{X:Cx}{CL:ClA}{C:Ag}{nm q:Ai}{N:Ag}{bs bm:Ac Ah}{hdct:Ak}{sn:Ac Ai}{sub:Ac Ah}{ab:Ak}{col:Ao Ak}{dd:Ao Ag}{k0 k1 k2 k3 k5:Ao Ah}
end
section
variable{prog:Ay}{w:AH}{A:AN}{E:Ah->Al->Prop}{h:As}{g:AW DA}{d:Ga}{tk0:Af}{os:F3}{K:Fg}
variable{nm q:Ai}{C N e t:Ag}{bs bm bmB:Ac Ah}{sn:Ac Ai}{sub:Ac Ah}{ab:Ak}{col:Ao Ak}{dd:Ao Ag}{k0 k1 k2 k3 k5:Ao Ah}{B newId sa owner:Ce}
end
section
variable{prog:Ay}{w:AH}{A:AN}{E:Ah->Al->Prop}{h:As}{g:AW DA}{d:Ga}{tk0:Af}{os:F3}{K:Fg}
variable{nm q:Ai}{C N e t:Ag}{bs bm bmB:Ac Ah}{sn:Ac Ai}{sub:Ac Ah}{ab:Ak}{col:Ao Ak}{dd:Ao Ag}{k0 k1 k2 k3 k5:Ao Ah}{B newId sa owner:Ce}
end
section
variable{X:Cx}{pI:Ac (Ag × AB)}{Y:L2.St}{H:Hp}{s:Al}{e:Ag}
end
section
variable{X:Cx}{C:Ag}{nm q:Ai}{N:Ag}{bs bm:Ac Ah}{sn:Ac Ai}{sub:Ac Ah}{ab:Ak}{col:Ao Ak}{dd:Ao Ag}{k0 k1 k2 k3 k5:Ao Ah}
end
noncomputable def G5(K:Fg)(C:Ag):Ak:=match K.lookup C with
  |some ⟨_,_,.cls c,_⟩=>c.hasDict
  |_=>Ae
noncomputable def Qw(g par f z:Ai)(k:Af)(np apos p1 p2 p3 p4 p5 cpos p6 p7 p8 p9 p10:Az):Ac AJ:=
 [.Expr (.Call (.Attribute (.Name g np) "__init__" apos) [.Name "self" p1,.JoinedStr [.FormattedValue (.Name par p2) (-1) Ad p3,.Constant (.str z) k p4] p5] [] cpos) p6,.Assign [.Attribute (.Name "self" p7) f p8] (.Name par p9) p10]
inductive XIn (K:Fg) (mg:Ai->Ao Ah) (C:Ag) (f:Ai):Prop
 |mk {fI OV:Ag} {x qual g par z:Ai} {st:AJ} {fd:Bh} {k:Af} {np apos p1 p2 p3 p4 p5 cpos p6 p7 p8 p9 p10:Az} (xc:Go K C (Aa (.ref fI))=Ab) (dc:G5 K C=Ab) (fn:Fun K x qual st fI fd) (ty:F5 K (.ref fI)=Aa (.type "function"))
  (S:FnScope ["self",par] ["self",par] (Ba st)) (l1:(Ba st).names.lookup ("self" : Ai)=Aa .local) (l2:(Ba st).names.lookup par=Aa .local) (bd:E3 K fd ["self",par] []) (body:C9 st=Qw g par f z k np apos p1 p2 p3 p4 p5 cpos p6 p7 p8 p9 p10)
  (gl:(Ba st).names.lookup g=Aa .globalImplicit) (mo:mg g=Aa (.ref OV)) (dg:(g==("__debug__" : Ai))=Ae) (dp:(par==("__debug__" : Ai))=Ae) (dq:(par==("__classdict__" : Ai))=Ae)
  (s1:Fp K (.ref OV) "__getattribute__" = Aa (Aa (.builtin "type.__getattribute__"))) (s2:FP K OV (.type "type")=Ab) (s3:FO K (.ref OV) (.type "type") "__init__" = Aa (.val (.builtin "ValueError.__init__")))
  (hl:(apos.endLine==cpos.line)=Ab) (hz:z.length<=1000) (hf:Bb K (.ref C) f=Aa Ad) (hs:Bb K (.ref C) "__setattr__" = Aa (Aa (.builtin "object.__setattr__"))):XIn K mg C f
section
variable{P:Ay}{w:AH}{K:Fg}{mg:Ai->Ao Ah}{base:As}{CL:ClA}{C fI OV:Ag}{x qual g par z f:Ai}{st:AJ}{fd:Bh}{k:Af}{np apos p1 p2 p3 p4 p5 cpos p6 p7 p8 p9 p10:Az}
variable{nm q:Ai}{N:Ag}{bs bm:Ac Ah}{sn:Ac Ai}{sub:Ac Ah}{ab:Ak}{col:Ao Ak}{dd:Ao Ag}{k0 k1 k2 k3 k5:Ao Ah}
end
section
variable{X:Cx}{CL:ClA}{W:XW}
noncomputable def JL(xn:Af->Ac D->R Ex)(c:Af)(f:Ai)(ds:Ac D):Prop := ∃ d n,ds=[d]/\xfD (n+1) d=Ab/\n<=1/\xn c ds = .ok ⟨c,[(f,d)]⟩
end
section
variable{prog:Ay}{w:AH}{A:AN}{E:Ah->Al->Prop}{h:As}{g:AW DA}{d:Ga}{t:Af}{os:F3}{K:Fg}{e C dx:Ag}{f:Ai}{mA:Ai->Ao Ah}{v:Ah}
end
section
variable{X:Cx}{CL:ClA}{W:XW}{K:Fg}{H:Hp}{A:Ag->Prop}
end
theorem noF{P:Prop}(h:Ae=Ab):P:=nomatch h
structure Tc where
 sc:Bf
 N:Ac Ai
 /-- a def's name, its number, how many parameters it has -/
 fns:Ac (Ai × Af × Af)
 /-- built-in names that the text does not hide -/
 bl:Ac Ai
 /-- exceptions' classes by their names: those that are raised, all that are asked for -/
 rzs:Ac (Ai × Af)
 exs:Ac (Ai × Af)
 /-- the text's constants -/
 gls:Ac (Ai × Af)
 /-- closures are called -/
 clo:Ak
noncomputable def L6(T:Tc)(x:Ai):Ak:=match T.sc.names.lookup x with
  |some .local=>Ab
  |some .cell=>Ab
  |some .free=>Ab
  |_=>Ae
noncomputable def G8(T:Tc)(x:Ai):Ak:=match T.sc.names.lookup x with
  |some .local=>Ab
  |some .cell=>Ab
  |_=>Ae
noncomputable def glB(T:Tc)(x:Ai):Ak:=T.sc.names.lookup x==Aa .globalImplicit
noncomputable def IB(x:Ai):Ak := !(x==("__debug__" : Ai)) && !(x==("__classdict__" : Ai)) && !(x==("__name__" : Ai))
noncomputable def isV(T:Tc)(x:Ai)(i:Af):Ak:=T.N[i]? == Aa x&&L6 T x&&IB x
noncomputable def isB(T:Tc)(x:Ai):Ak:=T.bl.contains x&&glB T x&&IB x
theorem A9{a b:Ak}(h:(a&&b)=Ab):a=Ab/\b=Ab:=(An a b).mp h
theorem orT{a b:Ak}(h:(a||b)=Ab):a=Ab\/b=Ab:=(B0 a b).mp h
noncomputable def Et(e:Am)(F:Ai->Ak):Ak:=if c:e.ctorIdx=23 then RA (motive_1:=λ_=>Ak) e c λx _=>F x else Ae
theorem ER{e:Am}{F:Ai->Ak}(h:Et e F=Ab) : ∃ x p,e=Rz x p/\F x=Ab:=by
 by_cases c:e.ctorIdx=23
 .exact RA (motive_1:=λe=>Et e F=Ab -> ∃ x p,e=Rz x p/\F x=Ab) e c (λx p h=>⟨x,p,rfl,h⟩) h
 .exact noF ((BL c).symm.trans h)
noncomputable def HA(e:Am)(F:Const->Ak):Ak:=if c:e.ctorIdx=19 then Ru (motive_1:=λ_=>Ak) e c λc _ _=>F c else Ae
theorem IW{e:Am}{F:Const->Ak}(h:HA e F=Ab) : ∃ c u p,e=Rt c u p/\F c=Ab:=by
 by_cases c:e.ctorIdx=19
 .exact Ru (motive_1:=λe=>HA e F=Ab -> ∃ c u p,e=Rt c u p/\F c=Ab) e c (λc u p h=>⟨c,u,p,rfl,h⟩) h
 .exact noF ((BL c).symm.trans h)
noncomputable def LQ(e:Am)(F:Am->Eo->Am->Ak):Ak:=if c:e.ctorIdx=2 then Rk (motive_1:=λ_=>Ak) e c λx o y _=>F x o y else Ae
theorem T2{e:Am}{F:Am->Eo->Am->Ak}(h:LQ e F=Ab) : ∃ x o y p,e=Rj x o y p/\F x o y=Ab:=by
 by_cases c:e.ctorIdx=2
 .exact Rk (motive_1:=λe=>LQ e F=Ab -> ∃ x o y p,e=Rj x o y p/\F x o y=Ab) e c (λx o y p h=>⟨x,o,y,p,rfl,h⟩) h
 .exact noF ((BL c).symm.trans h)
noncomputable def Iw(e:Am)(F:Hi->Am->Ak):Ak:=if c:e.ctorIdx=3 then RG (motive_1:=λ_=>Ak) e c λo x _=>F o x else Ae
theorem Oh{e:Am}{F:Hi->Am->Ak}(h:Iw e F=Ab) : ∃ o x p,e=RF o x p/\F o x=Ab:=by
 by_cases c:e.ctorIdx=3
 .exact RG (motive_1:=λe=>Iw e F=Ab -> ∃ o x p,e=RF o x p/\F o x=Ab) e c (λo x p h=>⟨o,x,p,rfl,h⟩) h
 .exact noF ((BL c).symm.trans h)
noncomputable def HC(e:Am)(F:BoolOp->Ac Am->Az->Ak):Ak:=if c:e.ctorIdx=0 then Rm (motive_1:=λ_=>Ak) e c λo xs p=>F o xs p else Ae
theorem K1{e:Am}{F:BoolOp->Ac Am->Az->Ak}(h:HC e F=Ab) : ∃ o xs p,e=Rl o xs p/\F o xs p=Ab:=by
 by_cases c:e.ctorIdx=0
 .exact Rm (motive_1:=λe=>HC e F=Ab -> ∃ o xs p,e=Rl o xs p/\F o xs p=Ab) e c (λo xs p h=>⟨o,xs,p,rfl,h⟩) h
 .exact noF ((BL c).symm.trans h)
noncomputable def HB(e:Am)(F:Am->Ac Co->Ac Am->Ak):Ak:=if c:e.ctorIdx=15 then Rs (motive_1:=λ_=>Ak) e c λx os ys _=>F x os ys else Ae
theorem K0{e:Am}{F:Am->Ac Co->Ac Am->Ak}(h:HB e F=Ab) : ∃ x os ys p,e=Rr x os ys p/\F x os ys=Ab:=by
 by_cases c:e.ctorIdx=15
 .exact Rs (motive_1:=λe=>HB e F=Ab -> ∃ x os ys p,e=Rr x os ys p/\F x os ys=Ab) e c (λx os ys p h=>⟨x,os,ys,p,rfl,h⟩) h
 .exact noF ((BL c).symm.trans h)
noncomputable def JA(e:Am)(F:Am->Ac Am->Ac CA->Az->Ak):Ak:=if c:e.ctorIdx=16 then Ro (motive_1:=λ_=>Ak) e c λf as ks p=>F f as ks p else Ae
theorem Nw{e:Am}{F:Am->Ac Am->Ac CA->Az->Ak}(h:JA e F=Ab) : ∃ f as ks p,e=Rn f as ks p/\F f as ks p=Ab:=by
 by_cases c:e.ctorIdx=16
 .exact Ro (motive_1:=λe=>JA e F=Ab -> ∃ f as ks p,e=Rn f as ks p/\F f as ks p=Ab) e c (λf as ks p h=>⟨f,as,ks,p,rfl,h⟩) h
 .exact noF ((BL c).symm.trans h)
noncomputable def LR(e:Am)(F:Am->Ai->Az->Ak):Ak:=if c:e.ctorIdx=20 then Ri (motive_1:=λ_=>Ak) e c λo m p=>F o m p else Ae
theorem T3{e:Am}{F:Am->Ai->Az->Ak}(h:LR e F=Ab) : ∃ o m p,e=Rh o m p/\F o m p=Ab:=by
 by_cases c:e.ctorIdx=20
 .exact Ri (motive_1:=λe=>LR e F=Ab -> ∃ o m p,e=Rh o m p/\F o m p=Ab) e c (λo m p h=>⟨o,m,p,rfl,h⟩) h
 .exact noF ((BL c).symm.trans h)
noncomputable def Jt(e:Am)(F:Am->Am->Ak):Ak:=if c:e.ctorIdx=21 then RC (motive_1:=λ_=>Ak) e c λx y _=>F x y else Ae
theorem Nq{e:Am}{F:Am->Am->Ak}(h:Jt e F=Ab) : ∃ x y p,e=RB x y p/\F x y=Ab:=by
 by_cases c:e.ctorIdx=21
 .exact RC (motive_1:=λe=>Jt e F=Ab -> ∃ x y p,e=RB x y p/\F x y=Ab) e c (λx y p h=>⟨x,y,p,rfl,h⟩) h
 .exact noF ((BL c).symm.trans h)
noncomputable def Hz(e:Am)(F:Ac Am->Ak):Ak:=if c:e.ctorIdx=25 then RE (motive_1:=λ_=>Ak) e c λxs _ _=>F xs else Ae
theorem IV{e:Am}{F:Ac Am->Ak}(h:Hz e F=Ab) : ∃ xs c p,e=RD xs c p/\F xs=Ab:=by
 by_cases c:e.ctorIdx=25
 .exact RE (motive_1:=λe=>Hz e F=Ab -> ∃ xs c p,e=RD xs c p/\F xs=Ab) e c (λxs c p h=>⟨xs,c,p,rfl,h⟩) h
 .exact noF ((BL c).symm.trans h)
noncomputable def LO(e:Am)(F:Ac Am->Ak):Ak:=if c:e.ctorIdx=24 then Rw (motive_1:=λ_=>Ak) e c λxs _=>F xs else Ae
theorem TV{e:Am}{F:Ac Am->Ak}(h:LO e F=Ab) : ∃ xs p,e=Rv xs p/\F xs=Ab:=by
 by_cases c:e.ctorIdx=24
 .exact Rw (motive_1:=λe=>LO e F=Ab -> ∃ xs p,e=Rv xs p/\F xs=Ab) e c (λxs p h=>⟨xs,p,rfl,h⟩) h
 .exact noF ((BL c).symm.trans h)
noncomputable def LP(e:Am)(F:Am->Ac Gr->Bf->Ak):Ak:=if c:e.ctorIdx=8 then Ry (motive_1:=λ_=>Ak) e c λx gs sc _=>F x gs sc else Ae
theorem TW{e:Am}{F:Am->Ac Gr->Bf->Ak}(h:LP e F=Ab) : ∃ x gs sc p,e=Rx x gs sc p/\F x gs sc=Ab:=by
 by_cases c:e.ctorIdx=8
 .exact Ry (motive_1:=λe=>LP e F=Ab -> ∃ x gs sc p,e=Rx x gs sc p/\F x gs sc=Ab) e c (λx gs sc p h=>⟨x,gs,sc,p,rfl,h⟩) h
 .exact noF ((BL c).symm.trans h)
noncomputable def LS(e:AJ)(F:Ac Am->Am->Ak):Ak:=if c:e.ctorIdx=5 then R5 (motive_2:=λ_=>Ak) e c λts v _=>F ts v else Ae
theorem T4{e:AJ}{F:Ac Am->Am->Ak}(h:LS e F=Ab) : ∃ ts v p,e=R4 ts v p/\F ts v=Ab:=by
 by_cases c:e.ctorIdx=5
 .exact R5 (motive_2:=λe=>LS e F=Ab -> ∃ ts v p,e=R4 ts v p/\F ts v=Ab) e c (λts v p h=>⟨ts,v,p,rfl,h⟩) h
 .exact noF ((BL c).symm.trans h)
noncomputable def Jw(e:AJ)(F:Am->Ak):Ak:=if c:e.ctorIdx=24 then R7 (motive_2:=λ_=>Ak) e c λv _=>F v else Ae
theorem Nv{e:AJ}{F:Am->Ak}(h:Jw e F=Ab) : ∃ v p,e=R6 v p/\F v=Ab:=by
 by_cases c:e.ctorIdx=24
 .exact R7 (motive_2:=λe=>Jw e F=Ab -> ∃ v p,e=R6 v p/\F v=Ab) e c (λv p h=>⟨v,p,rfl,h⟩) h
 .exact noF ((BL c).symm.trans h)
noncomputable def Ju(e:AJ)(F:Ao Am->Ak):Ak:=if c:e.ctorIdx=3 then Sb (motive_2:=λ_=>Ak) e c λo _=>F o else Ae
theorem Nr{e:AJ}{F:Ao Am->Ak}(h:Ju e F=Ab) : ∃ o p,e=Sa o p/\F o=Ab:=by
 by_cases c:e.ctorIdx=3
 .exact Sb (motive_2:=λe=>Ju e F=Ab -> ∃ o p,e=Sa o p/\F o=Ab) e c (λo p h=>⟨o,p,rfl,h⟩) h
 .exact noF ((BL c).symm.trans h)
noncomputable def J6(e:AJ)(F:Am->Ac AJ->Ac AJ->Ak):Ak:=if c:e.ctorIdx=12 then R9 (motive_2:=λ_=>Ak) e c λt xs ys _=>F t xs ys else Ae
theorem Oj{e:AJ}{F:Am->Ac AJ->Ac AJ->Ak}(h:J6 e F=Ab) : ∃ t xs ys p,e=Stmt.If t xs ys p/\F t xs ys=Ab:=by
 by_cases c:e.ctorIdx=12
 .exact R9 (motive_2:=λe=>J6 e F=Ab -> ∃ t xs ys p,e=Stmt.If t xs ys p/\F t xs ys=Ab) e c (λt xs ys p h=>⟨t,xs,ys,p,rfl,h⟩) h
 .exact noF ((BL c).symm.trans h)
noncomputable def Jv(e:AJ)(F:Am->Am->Ac AJ->Ac AJ->Ak):Ak:=if c:e.ctorIdx=9 then R8 (motive_2:=λ_=>Ak) e c λt it xs ys _=>F t it xs ys else Ae
theorem Nu{e:AJ}{F:Am->Am->Ac AJ->Ac AJ->Ak}(h:Jv e F=Ab) : ∃ t it xs ys p,e=Stmt.For t it xs ys p/\F t it xs ys=Ab:=by
 by_cases c:e.ctorIdx=9
 .exact R8 (motive_2:=λe=>Jv e F=Ab -> ∃ t it xs ys p,e=Stmt.For t it xs ys p/\F t it xs ys=Ab) e c (λt it xs ys p h=>⟨t,it,xs,ys,p,rfl,h⟩) h
 .exact noF ((BL c).symm.trans h)
noncomputable def Ik{α:Type}:Ac α->(α->Ac α->Ak)->Ak
 |[],_=>Ae
 |x::xs,F=>F x xs
theorem IP{l:Ac α}{F:α->Ac α->Ak}(h:Ik l F=Ab) : ∃ x xs,l=x::xs/\F x xs=Ab:=by
 cases l with
 |nil=>exact noF h
 |cons x xs=>exact⟨x,xs,rfl,h⟩
theorem G2{l:Ac α}(h:l.isEmpty=Ab):l=[]:=List.isEmpty_iff.mp h
noncomputable def Ev{α:Type}(l:Ac α)(F:α->Ak):Ak:=Ik l λx r=>r.isEmpty&&F x
theorem Ff{l:Ac α}{F:α->Ak}(h:Ev l F=Ab) : ∃ x,l=[x]/\F x=Ab:=by
 obtain⟨x,r,rfl,h⟩:=IP h;obtain⟨h1,h2⟩:=A9 h;exact⟨x,by rw[G2 h1],h2⟩
noncomputable def Fi{α:Type}(l:Ac α)(F:α->α->Ak):Ak:=Ik l λx r=>Ev r λy=>F x y
theorem Gh{l:Ac α}{F:α->α->Ak}(h:Fi l F=Ab) : ∃ x y,l=[x,y]/\F x y=Ab:=by
 obtain⟨x,r,rfl,h⟩:=IP h;obtain⟨y,rfl,h⟩:=Ff h;exact⟨x,y,rfl,h⟩
noncomputable def Pn{α:Type}(l:Ac α)(F:α->α->α->Ak):Ak:=Ik l λx r=>Fi r λy z=>F x y z
theorem TU{l:Ac α}{F:α->α->α->Ak}(h:Pn l F=Ab) : ∃ x y z,l=[x,y,z]/\F x y z=Ab:=by
 obtain⟨x,r,rfl,h⟩:=IP h;obtain⟨y,z,rfl,h⟩:=Gh h;exact⟨x,y,z,rfl,h⟩
noncomputable def GL(e:Am)(F:Ai->Ac Am->Ak):Ak:=JA e λf as ks _=>Et f λg=>ks.isEmpty&&F g as
theorem G0{e:Am}{F:Ai->Ac Am->Ak}(h:GL e F=Ab) : ∃ g p as q,e = .Call (.Name g p) as [] q/\F g as=Ab:=by
 obtain⟨f,as,ks,q,rfl,h⟩:=Nw h;obtain⟨g,p,rfl,h⟩:=ER h;obtain⟨h1,h2⟩:=A9 h;exact⟨g,p,as,q,by rw[G2 h1],h2⟩
noncomputable def Jo(e:Am)(F:Ai->Am->Ac Am->Ak):Ak:=GL e λg l=>Ik l λx xs=>F g x xs
theorem KC{e:Am}{F:Ai->Am->Ac Am->Ak}(h:Jo e F=Ab) : ∃ g p x xs q,e = .Call (.Name g p) (x::xs) [] q/\F g x xs=Ab:=by
 obtain⟨g,p,as,q,rfl,h⟩:=G0 h;obtain⟨x,xs,rfl,h⟩:=IP h;exact⟨g,p,x,xs,q,rfl,h⟩
noncomputable def LN(st:AJ)(F:Ai->Ai->Ac Am->Ak):Ak:=Jw st λe=>JA e λf as ks cp=>LR f λo m ap=>Et o λx=>ks.isEmpty&&(ap.endLine==cp.line&&F x m as)
theorem Nt{st:AJ}{F:Ai->Ai->Ac Am->Ak}(h:LN st F=Ab) : ∃ x p m ap as cp q,st = .Expr (.Call (.Attribute (.Name x p) m ap) as [] cp) q/\ap.endLine=cp.line/\F x m as=Ab:=by
 obtain⟨e,q,rfl,h⟩:=Nv h;obtain⟨f,as,ks,cp,rfl,h⟩:=Nw h;obtain⟨o,m,ap,rfl,h⟩:=T3 h;obtain⟨x,p,rfl,h⟩:=ER h;obtain⟨h1,h⟩:=A9 h;obtain⟨h2,h3⟩:=A9 h;exact⟨x,p,m,ap,as,cp,q,by rw[G2 h1],eq_of_beq h2,h3⟩
noncomputable def JB(st:AJ)(F:Am->Am->Ak):Ak:=LS st λts v=>Ev ts λt=>F t v
theorem K2{st:AJ}{F:Am->Am->Ak}(h:JB st F=Ab) : ∃ t v q,st = .Assign [t] v q/\F t v=Ab:=by
 obtain⟨ts,v,q,rfl,h⟩:=T4 h;obtain⟨t,rfl,h⟩:=Ff h;exact⟨t,v,q,rfl,h⟩
noncomputable def LU(st:AJ)(F:Ai->Am->Ak):Ak:=JB st λt v=>Et t λx=>F x v
theorem Nx{st:AJ}{F:Ai->Am->Ak}(h:LU st F=Ab) : ∃ x p v q,st = .Assign [.Name x p] v q/\F x v=Ab:=by
 obtain⟨t,v,q,rfl,h⟩:=K2 h;obtain⟨x,p,rfl,h⟩:=ER h;exact⟨x,p,v,q,rfl,h⟩
noncomputable def Md(e:Am)(F:Am->Am->Am->Ac Am->Bf->Ak):Ak:=LP e λx gs sc=>Ev gs λg=>decide (g.is_async=0)&&F x g.target g.iter g.ifs sc
theorem Oi{e:Am}{F:Am->Am->Am->Ac Am->Bf->Ak}(h:Md e F=Ab) : ∃ x t it ifs sc p,e = .ListComp x [⟨t,it,ifs,0⟩] sc p/\F x t it ifs sc=Ab:=by
 obtain⟨x,gs,sc,p,rfl,h⟩:=TW h;obtain⟨g,rfl,h⟩:=Ff h;obtain⟨t,it,ifs,a⟩:=g;obtain⟨h1,h2⟩:=A9 h;have h1:a=0:=Bk h1;subst h1;exact⟨x,t,it,ifs,sc,p,rfl,h2⟩
noncomputable def J5(e:E)(F:E->Ak):Ak:=if c:e.ctorIdx=8 then E.no.elim (motive_1:=λ_=>Ak) e c F else Ae
theorem Wj{e:E}{F:E->Ak}(h:J5 e F=Ab) : ∃ a,e=E.no a/\F a=Ab:=by
 by_cases c:e.ctorIdx=8
 .exact E.no.elim (motive_1:=λe=>J5 e F=Ab -> ∃ a,e=E.no a/\F a=Ab) e c (λa h=>⟨a,rfl,h⟩) h
 .exact noF ((BL c).symm.trans h)
noncomputable def JC(e:E)(F:Es->Ak):Ak:=if c:e.ctorIdx=9 then E.and.elim (motive_1:=λ_=>Ak) e c F else Ae
theorem T5{e:E}{F:Es->Ak}(h:JC e F=Ab) : ∃ es,e=E.and es/\F es=Ab:=by
 by_cases c:e.ctorIdx=9
 .exact E.and.elim (motive_1:=λe=>JC e F=Ab -> ∃ es,e=E.and es/\F es=Ab) e c (λes h=>⟨es,rfl,h⟩) h
 .exact noF ((BL c).symm.trans h)
noncomputable def J4(e:E)(F:Es->Ak):Ak:=if c:e.ctorIdx=10 then E.or.elim (motive_1:=λ_=>Ak) e c F else Ae
theorem Wi{e:E}{F:Es->Ak}(h:J4 e F=Ab) : ∃ es,e=E.or es/\F es=Ab:=by
 by_cases c:e.ctorIdx=10
 .exact E.or.elim (motive_1:=λe=>J4 e F=Ab -> ∃ es,e=E.or es/\F es=Ab) e c (λes h=>⟨es,rfl,h⟩) h
 .exact noF ((BL c).symm.trans h)
noncomputable def Jx(e:E)(F:Co->E->E->Ak):Ak:=if c:e.ctorIdx=11 then E.cmp.elim (motive_1:=λ_=>Ak) e c F else Ae
theorem TX{e:E}{F:Co->E->E->Ak}(h:Jx e F=Ab) : ∃ o a b,e=E.cmp o a b/\F o a b=Ab:=by
 by_cases c:e.ctorIdx=11
 .exact E.cmp.elim (motive_1:=λe=>Jx e F=Ab -> ∃ o a b,e=E.cmp o a b/\F o a b=Ab) e c (λo a b h=>⟨o,a,b,rfl,h⟩) h
 .exact noF ((BL c).symm.trans h)
noncomputable def Jy(e:E)(F:Co->Co->E->E->E->Ak):Ak:=if c:e.ctorIdx=12 then E.cmp2.elim (motive_1:=λ_=>Ak) e c F else Ae
theorem TY{e:E}{F:Co->Co->E->E->E->Ak}(h:Jy e F=Ab) : ∃ o q a b c,e=E.cmp2 o q a b c/\F o q a b c=Ab:=by
 by_cases c:e.ctorIdx=12
 .exact E.cmp2.elim (motive_1:=λe=>Jy e F=Ab -> ∃ o q a b c,e=E.cmp2 o q a b c/\F o q a b c=Ab) e c (λo q a b c h=>⟨o,q,a,b,c,rfl,h⟩) h
 .exact noF ((BL c).symm.trans h)
noncomputable def Jz(e:E)(F:BI->Es->Ak):Ak:=if c:e.ctorIdx=15 then E.bi.elim (motive_1:=λ_=>Ak) e c F else Ae
theorem TZ{e:E}{F:BI->Es->Ak}(h:Jz e F=Ab) : ∃ b as,e=E.bi b as/\F b as=Ab:=by
 by_cases c:e.ctorIdx=15
 .exact E.bi.elim (motive_1:=λe=>Jz e F=Ab -> ∃ b as,e=E.bi b as/\F b as=Ab) e c (λb as h=>⟨b,as,rfl,h⟩) h
 .exact noF ((BL c).symm.trans h)
noncomputable def Me(e:E)(F:Ak->Ak):Ak:=if c:e.ctorIdx=1 then E.bl.elim (motive_1:=λ_=>Ak) e c F else Ae
theorem Wk{e:E}{F:Ak->Ak}(h:Me e F=Ab) : ∃ b,e=E.bl b/\F b=Ab:=by
 by_cases c:e.ctorIdx=1
 .exact E.bl.elim (motive_1:=λe=>Me e F=Ab -> ∃ b,e=E.bl b/\F b=Ab) e c (λb h=>⟨b,rfl,h⟩) h
 .exact noF ((BL c).symm.trans h)
noncomputable def Jq(e:E):Ak:=decide (e.ctorIdx=0)
theorem TK{e:E}(h:Jq e=Ab):e = .non:=E.non.elim (motive_1:=λe=>e = .non) e (Bk h) rfl
noncomputable def Dc:Am->Ak
 |.Starred _ _=>Ae
 |_=>Ab
noncomputable def K8:Am->Ak
 |.Slice _ _ _ _=>Ae
 |_=>Ab
noncomputable def Ir:Am->Ak
 |.Set _ _ _=>Ae
 |_=>Ab
noncomputable def Hr:Am->Ak
 |.ListComp _ _ _ _=>Ae
 |.SetComp _ _ _ _=>Ae
 |.DictComp _ _ _ _ _=>Ae
 |_=>Ab
noncomputable def P3(tu:Ak):Am->Ak
 |.Tuple .. => tu
 |.Name .. => !tu
 |_=>Ae
noncomputable def ZW:Am->Ak
 |.Tuple _ _ _=>Ab
 |_=>Ae
noncomputable def Pp:Am->Ak
 |.Tuple _ _ _=>Ae
 |_=>Ab
noncomputable def IN:Am->Ak
 |.UnaryOp _ _ _=>Ae
 |.BoolOp _ _ _=>Ae
 |.IfExp _ _ _ _=>Ae
 |.Compare _ _ _ _=>Ae
 |_=>Ab
noncomputable def LV:Ki->Ao Ai
 |.int=>Aa "int"
 |.bool=>Aa "bool"
 |.str=>Aa "str"
 |.list=>Aa "list"
 |.tuple=>Aa "tuple"
 |_=>Ad
noncomputable def LW:BI->Ao Ai
 |.len=>Aa "len"
 |.abs=>Ad
 |.max=>Ad
 |.min=>Ad
 |.int=>Ad
 |.list=>Aa "list"
 |.tuple=>Aa "tuple"
 |.all=>Aa "all"
 |.any=>Ad
 |.sum=>Aa "sum"
 |.sorted=>Ad
 |.tmin=>Ad
 |.tmax=>Ad
 |_=>Ad
noncomputable def LF(o scope:Bf):Bf := {scope with names:=scope.names.map λ(n,k)=>if (k==.free&&o.kind==.function&&o.names.lookup n==Aa .cell) then (n,.cell) else (n,k)}
noncomputable def HF:Ac Af->Ac Ai->Ac Ai->Ac Ai
 |t::ts,x::xs,N=>HF ts xs ((N.map λy=>if y==x then N.getD t x else y).set t x)
 |_,_,N=>N
noncomputable def Gm:Ac Ai->Ak
 |[]=>Ab
 |x::xs => !xs.contains x&&Gm xs
noncomputable def ID(T:Tc)(scope:Bf)(ts:Ac Af)(N':Ac Ai):Ak:=
  scope.kind==.function&&scope.names.all (λy=>scope.names.lookup y.1==Aa y.2) &&
  scope.names.all (λy=>y.2 != .free||T.sc.names.lookup y.1==Aa .cell||T.sc.names.lookup y.1==Aa .free) &&
  N'.length==T.N.length&&Gm N' &&
  (B1 N'.length).all λi=>ts.contains i||(match N'[i]? with
    |some x=>(scope.names.lookup x != Aa .local&&scope.names.lookup x != Aa .cell)&&(scope.names.lookup x != Aa .free||T.N[i]? == Aa x)
    | none=>Ab)
noncomputable def DN:Ac Am->Ao (Ac Ai)
 |[]=>Aa []
 |.Name x _::r=>(DN r).map (x :: ·)
 |_=>Ad
noncomputable def tgN(ys:Ac Am):Ac Ai:=(DN ys).getD []
noncomputable def tgB(T:Tc):Ac Af->Ac Ai->Ak
 |[],[]=>Ab
 |t::ts,x::xs=>T.N[t]? == Aa x&&T.sc.names.lookup x==Aa .local&&tgB T ts xs
 |_,_=>Ae
noncomputable def tgO(T:Tc)(scope:Bf)(t:Af)(x:Ai):Ak:=T.N[t]? == Aa x&&(T.sc.names.lookup x==Aa .local||(T.sc.names.lookup x==Aa .cell&&scope.names.lookup x==Aa .cell))
noncomputable def tgC(T:Tc):Ac Af->Ac Ai->Ak
 |[],[]=>Ab
 |t::ts,x::xs=>T.N[t]? == Aa x&&G8 T x&&tgC T ts xs
 |_,_=>Ae
noncomputable def Tc.blk(T:Tc)(scope:Bf)(ts:Ac Af)(xs:Ac Ai):Tc := {T with sc:=LF T.sc scope,N:=HF ts xs T.N,clo:=Ae}
noncomputable def L9:E->Ak
 |.lst _=>Ab
 |.comp _ _ _ _=>Ab
 |.compT _ _ _ _=>Ab
 |.bin .Add _ _=>Ab
 |.bi .list _=>Ab
 |.sl _ _ _=>Ab
 |_=>Ae
noncomputable def JJ:E->Ao E
  | .bi b as=>(match b with
    | .list=>(match as with
      | .cons x r=>(match r with
        | .nil=>(match x with
          | .bin op a c=>(match op with
            | .Add=>(match c with
              | .tup es=>(match es with
                |.nil=>Aa a
                | _=>Ad)
              | _=>Ad)
            | _=>Ad)
          | _=>Ad)
        | _=>Ad)
      | .nil=>Ad)
    | _=>Ad)
  |_=>Ad
theorem UP{e a:E}(q:JJ e=Aa a):e = .bi .list (.cons (.bin .Add a (.tup .nil)) .nil):=by
 unfold JJ at q
 repeat' split at q
 all_goals first|cases q;done|skip
 cases q;rfl
theorem Wl(Z:Gam){e:E}(h:L9 e=Ab):DG Z e=Ab:=by
 unfold L9 at h;split at h <;> first|rfl|cases h
noncomputable def Qh:Am->Ao (Am × Am × Az)
  | .Compare x ops ys p=>(match ops with
    | [.Lt]=>(match ys with
      |[y]=>Aa (x,y,p)
      | _=>Ad)
    | _=>Ad)
  |_=>Ad
noncomputable def LY(_:Es):Ao (E × E):=Ad
noncomputable def L8(_:Tc)(_:Tc->Am->E->Ak)(_:Am)(_:Ac Co)(_:Ac Am)(_:BI)(_:Es):Ak:=Ae
noncomputable def Mi(T:Tc)(e:Am)(b:BI)(as:Es):Ak:=match e with
  |.Call (.Attribute (.Name x _) m ap) [.Constant (.int j) _ _] [] cp=>decide (b = .count)&&m==("count" : Ai)&&ap.endLine==cp.line&&(match as with | .cons (.var i) (.cons (.int j') .nil)=>isV T x i&&decide (j=j')|_=>Ae)
  |.Call (.Attribute (.Name x _) m ap) [.Constant (.str j) _ _] [] cp=>decide (b = .count)&&m==("count" : Ai)&&ap.endLine==cp.line&&(match as with | .cons (.var i) (.cons (.str j') .nil)=>isV T x i&&decide (j=j')|_=>Ae)
  |_=>Ae
noncomputable def OB:Am->Ao (Ai × Az)
 |.Name x p=>Aa (x,p)
 |_=>Ad
noncomputable def OC:Am->Ao (Am × Ac Am × Ac CA × Az)
 |.Call f as ks p=>Aa (f,as,ks,p)
 |_=>Ad
noncomputable def one{α:Type}:Ac α->Ao α
 |[a]=>Aa a
 |_=>Ad
noncomputable def Qe(e:Am):Ao (Ai × Ai × Ac Am):=(OC e).bind λc=>(OB c.1).bind λg=>(one c.2.1).bind λa=>(OC a).bind λd=>(OB d.1).bind λh=>if (c.2.2.1.isEmpty&&d.2.2.1.isEmpty)=Ab then Aa (g.1,h.1,d.2.1) else Ad
noncomputable def Qs(e:Am):Ao (Ai × Ai × Am × Am):=match Qe e with
  | some (g,h,bs)=>(match bs with
    |[x,y]=>Aa (g,h,x,y)
    | _=>Ad)
  |none=>Ad
noncomputable def L3(_:Es):Ao (E × E):=Ad
noncomputable def Qr(e:Am):Ao (Ai × Ai × Am):=match Qe e with
  | some (g,h,bs)=>(match bs with
    |[x]=>Aa (g,h,x)
    | _=>Ad)
  |none=>Ad
noncomputable def L0(_:Es):Ao E:=Ad
noncomputable def Ml(_:Es):Ao E:=Ad
noncomputable def PJ(_:Am):Ao Am:=Ad
noncomputable def P6:Am->Ao (Am × Aj)
  | .Subscript v s _=>(match s with
    | .Slice lo hi st _=>(match lo with
      | some (.Constant (.int k) _ _)=>(match hi with
        | none=>(match st with
          |some (.Constant (.int j) _ _)=>if j=2 then Aa (v,k) else Ad
          | _=>Ad)
        | some _=>Ad)
      | _=>Ad)
    | _=>Ad)
  |_=>Ad
noncomputable def LZ(_:Es):Ao (E × Aj):=Ad
mutual
noncomputable def A1:Af->Tc->Am->E->Ak
  |0,_,_,_=>Ae
  |n+1,T,e,c=>match c with
    |.non=>HA e λc=>decide (c = .none)
    |.bl b=>HA e λc=>decide (c = .bool b)
    |.int i=>HA e λc=>decide (c = .int i)
    |.str x=>HA e λc=>decide (c = .str x)
    |.var i=>Et e λx=>isV T x i
    |.glob g=>Ae
    |.bin op a b=>LQ e λx op' y=>decide (op'=op)&&A1 n T x a&&A1 n T y b
    |.un op a=>Ae
    |.no a=>Iw e λo x=>decide (o = .Not)&&A1 n T x a
    |.and es=>HC e λo xs _=>decide (o = .And)&&(chkEs n T xs es && !xs.isEmpty)
    |.or es=>HC e λo xs _=>decide (o = .Or)&&(chkEs n T xs es && !xs.isEmpty)
    |.cmp op a b=>HB e λx os ys=>Ev os λop'=>Ev ys λy=>decide (op'=op) && !behindInMarks op y&&A1 n T x a&&A1 n T y b
    |.cmp2 op1 op2 a b c=>HB e λx os ys=>Fi os λo1 o2=>Fi ys λy z=>decide (o1=op1)&&decide (o2=op2) && !lastMarks [op1,op2] [y,z]&&A1 n T x a&&A1 n T y b&&A1 n T z c
    |.ite c a b=>Ae
    |.call f as=>Jo e λg x xs=>(T.fns.any λp=>p.1==g&&p.2.1==f&&p.2.2==xs.length+1)&&decide (xs.length<900)&&glB T g&&IB g&&chkEs n T (x::xs) as
    |.bi b as=>(Jo e λg x xs=>LW b==Aa g&&isB T g&&chkEs n T (x::xs) as)||Mi T e b as||(match L3 as with|some (a,c)=>(match Qs e with|some (g,h,x,y)=>decide (b = .list)&&g==("list" : Ai)&&h==("range" : Ai)&&isB T g&&isB T h&&Dc x&&Dc y&&A1 n T x a&&A1 n T y c|none=>Ae)|none=>Ae)||(match LZ as with|some (a,k)=>(match P6 e with|some (x,j)=>decide (b = .stp)&&decide (j=k)&&decide (0<=k)&&A1 n T x a|none=>Ae)|none=>Ae)||(match L0 as with|some a=>(match Qr e with|some (g,h,x)=>decide (b = .lset)&&g==("len" : Ai)&&h==("set" : Ai)&&isB T g&&isB T h&&Dc x&&A1 n T x a|none=>Ae)|none=>Ae)||(match LY as with|some (a,c)=>(match Qh e with|some (x,y,_)=>decide (b = .tlt) && !behindInMarks .Lt y&&A1 n T x a&&A1 n T y c|none=>Ae)|none=>Ae)||(match Ml as with|some a=>(match PJ e with|some x=>decide (b = .rvs)&&A1 n T x a|none=>Ae)|none=>Ae)
    |.isi a ks=>Ev ks λk=>GL e λg l=>Fi l λx t=>Et t λt=>g==("isinstance" : Ai)&&isB T g&&LV k==Aa t&&isB T t&&Dc x&&A1 n T x a
    |.idx a i=>Jt e λx y=>K8 y&&A1 n T x a&&A1 n T y i
    |.sl a lo hi=>Ae
    |.tup es=>Hz e λxs=>chkEs n T xs es&&decide (xs.length<=1000)
    |.lst es=>LO e λxs=>chkEs n T xs es&&decide (xs.length<=1000)
    |.comp elt t it c=>Md e λx tg iter ifs scope=>Et tg λy=>chkI n T Ae iter it&&Ir iter&&ID T scope [t] (HF [t] [y] T.N)&&tgO (T.blk scope [t] [y]) scope t y&&chkT n (T.blk scope [t] [y]) ifs c&&A1 n (T.blk scope [t] [y]) x elt
    |.compT elt ts it c=>Md e λx tg iter ifs scope=>Hz tg λys=>(DN ys).isSome&&chkI n T Ab iter it&&Ir iter&&ID T scope ts (HF ts (tgN ys) T.N)&&tgB (T.blk scope ts (tgN ys)) ts (tgN ys)&&chkT n (T.blk scope ts (tgN ys)) ifs c&&A1 n (T.blk scope ts (tgN ys)) x elt
    |.tupI _=>Ae
    |.dnew=>Ae
    |.fld _ _=>Ae
    |.clo i a=>Jo e λg x xs=>T.clo&&xs.isEmpty&&Dc x&&isV T g i&&A1 n T x a
noncomputable def F2:Af->Tc->Am->E->Ak
 |0,_,_,_=>Ae
 |n+1,T,e,c=>(Iw e λo x=>decide (o = .Not)&&(J5 c λa=>F2 n T x a)) ||
  (HC e λo xs _=>(decide (o = .And)&&(JC c λes=>chkBs n T xs es && !xs.isEmpty))||(decide (o = .Or)&&(J4 c λes=>chkBs n T xs es && !xs.isEmpty))) ||
  (HB e λx os ys=>(Jx c λop a b=>Ev os λop'=>Ev ys λy=>decide (op'=op) && !behindInMarks op y&&A1 n T x a&&A1 n T y b) ||
   (Jy c λop1 op2 a b c=>Fi os λo1 o2=>Fi ys λy z=>decide (o1=op1)&&decide (o2=op2) && !lastMarks [op1,op2] [y,z]&&A1 n T x a&&A1 n T y b&&A1 n T z c) ||
   (Jz c λb as=>L8 T (A1 n) x os ys b as)) ||
  IN e&&A1 n T e c
noncomputable def chkBs:Af->Tc->Ac Am->Es->Ak
  |0,_,_,_=>Ae
  |n+1,T,xs,es=>match xs,es with
    |[],.nil=>Ab
    |x::xs,.cons e es=>F2 n T x e&&chkBs n T xs es
    |_,_=>Ae
noncomputable def chkEs:Af->Tc->Ac Am->Es->Ak
  |0,_,_,_=>Ae
  |n+1,T,xs,es=>match xs,es with
    |[],.nil=>Ab
    |x::xs,.cons e es=>Dc x&&A1 n T x e&&chkEs n T xs es
    |_,_=>Ae
noncomputable def Qf:Af->Tc->Ao Am->E->Ak
  |0,_,_,_=>Ae
  |n+1,T,x,e=>match x with
    |none=>Jq e
    |some x => !(Jq e)&&A1 n T x e
noncomputable def chkT:Af->Tc->Ac Am->E->Ak
  |0,_,_,_=>Ae
  |n+1,T,xs,e=>match xs with
    |[]=>Me e λb=>b
    |x::r=>r.isEmpty&&F2 n T x e
noncomputable def chkI:Af->Tc->Ak->Am->I->Ak
  |0,_,_,_,_=>Ae
  |n+1,T,tu,e,i=>match i with
    |.e a=>A1 n T e a
    |.rng a=>GL e λg l=>Ev l λx=>g==("range" : Ai)&&isB T g&&Dc x&&A1 n T x a
    |.enm a=>Ae
    |.zip a b=>GL e λg l=>Fi l λx y=>tu&&g==("zip" : Ai)&&isB T g&&Dc x&&Dc y&&A1 n T x a&&A1 n T y b
    |.rng2 a b=>GL e λg l=>Fi l λx y=>g==("range" : Ai)&&isB T g&&Dc x&&Dc y&&A1 n T x a&&A1 n T y b
    |.zip3 a b c=>Ae
end
noncomputable def HE:Am->Ao (Ai × Az)
 |.Name x p=>Aa (x,p)
 |_=>Ad
theorem Ii{e:Am}{t:Ai × Az}(h:HE e=Aa t):e = .Name t.1 t.2:=by
 cases e with
 |Name x p=>cases h;rfl
 |_=>exact nomatch (show Ad=Aa t from h)
noncomputable def PX:Am->Ao (Am × Ac Am × Az)
  | .Call f as ks p=>(match ks with
    |[]=>Aa (f,as,p)
    | _=>Ad)
  |_=>Ad
theorem UA{e:Am}{t:Am × Ac Am × Az}(h:PX e=Aa t):e = .Call t.1 t.2.1 [] t.2.2:=by
 cases e with
 |Call f as ks p=>
  cases ks with
  |nil=>cases h;rfl
  |cons=>exact nomatch (show Ad=Aa t from h)
 |_=>exact nomatch (show Ad=Aa t from h)
noncomputable def JQ{α:Type}:Ac α->Ao (α × α)
 |[a,b]=>Aa (a,b)
 |_=>Ad
theorem K6{l:Ac α}{t:α × α}(h:JQ l=Aa t):l=[t.1,t.2]:=by
 cases l with
 |nil=>exact nomatch (show Ad=Aa t from h)
 |cons a l=>
  cases l with
  |nil=>exact nomatch (show Ad=Aa t from h)
  |cons b l=>
   cases l with
   |nil=>cases h;rfl
   |cons=>exact nomatch (show Ad=Aa t from h)
noncomputable def PB(_:Af)(_:Tc)(_:Af)(_:Ac AJ)(_:Ss):Ak:=Ae
noncomputable def aR:E->Ak
  | .bi b as=>(match b,as with
    |.len,.nil=>Ab
    | _,_=>Ae)
  |_=>Ae
noncomputable def aQ:S->Ak
 |.expr e=>aR e
 |_=>Ae
noncomputable def JY:Ss->Ak
 |.cons s _=>aQ s
 |.nil=>Ae
mutual
noncomputable def G9:Af->Tc->AJ->S->Ak
  |0,_,_,_=>Ae
  |n+1,T,st,s=>match s with
    |.pass=>Ae
    |.brk=>Ae
    |.cont=>Ae
    |.asg i _ e=>LU st λx v=>T.N[i]? == Aa x&&G8 T x&&A1 n T v e
    |.asgT ts e=>JB st λt v=>Hz t λys=>(DN ys).isSome&&tgC T ts (tgN ys)&&(Pp v||Cz 4 ys.length)&&A1 n T v e
    |.expr e=>Jw st λv=>Hr v&&A1 n T v e
    |.ret e=>Ju st λo=>match o with|some v=>A1 n T v e|none=>Ae
    |.retN=>Ae
    |.ife c a b=>J6 st λt xs ys=>F2 n T t c&&chkSs n T xs a&&chkSs n T ys b
    |.lnd c a b=>J6 st λt xs ys=>F2 n T t c&&chkSs n T xs a&&chkSs n T ys b
    |.fors t it body=>Jv st λtg iter xs ys=>ys.isEmpty&&(Et tg λx=>tgC T [t] [x]&&Ir iter&&chkI n T Ae iter it&&chkSs n T xs body)
    |.forT ts it body=>Jv st λtg iter xs zs=>zs.isEmpty&&(Hz tg λys=>(DN ys).isSome&&tgC T ts (tgN ys)&&Ir iter&&chkI n T Ab iter it&&chkSs n T xs body)
    |.whl c body=>Ae
    |.rais c as => !(T.rzs.any λp=>p.2==c)
    |.tryx _ _ _ _=>Ae
    |.try2 _ _ _ _ _ _ _=>Ae
    |.app i e=>LN st λx m l=>Ev l λv=>m==("append" : Ai)&&isV T x i&&Dc v&&A1 n T v e
    |.ext i e=>LN st λx m l=>Ev l λv=>m==("extend" : Ai)&&isV T x i&&Dc v&&(L9 e&&A1 n T v e||(match JJ e with|some a=>A1 n T v a|none=>Ae))
    |.rev i=>Ae
    |.clr i=>Ae
    |.put i k e=>JB st λt v=>Jt t λo y=>Et o λx=>isV T x i&&K8 y&&A1 n T y k&&A1 n T v e
    |.swp _ _ _=>Ae
    |.apop _ _ _=>Ae
    |.ins i k e=>Ae
    |.dput _ _ _=>Ae
    |.dsd _ _ _=>Ae
    |.rel _=>Ae
noncomputable def chkSs:Af->Tc->Ac AJ->Ss->Ak
  |0,_,_,_=>Ae
  | n+1,T,sts,ss=>(match ss with
    |.nil=>sts.isEmpty
    |.cons (.rel i) ss=>chkSs n T sts ss
    | .cons s ss=>(match sts with
      |st::r=>G9 n T st s&&chkSs n T r ss
      | []=>Ae))||JY ss
end
noncomputable def F1(fuel:Af)(hot:Ak)(fns:Ac (Ai × Af × Af))(bl:Ac Ai)(rzs exs gls:Ac (Ai × Af))(ps N:Ac Ai)(st:AJ)(df:Df):Ak:=
  let sc:=Ba st
  sc.kind==.function && !sc.isCoroutine && !sc.isGenerator&&Gm N&&N.take ps.length==ps&&ps.all (λx=>sc.names.lookup x==Aa .local||sc.names.lookup x==Aa .cell)&&sc.names.all (λy=>y.2 != .free)&&N.length==df.n &&
  (match hot with
  |true=>PB fuel ⟨sc,N,fns,bl,rzs,exs,gls,Ae⟩ 0 (C9 st) df.body
  | false=>chkSs fuel ⟨sc,N,fns,bl,rzs,exs,gls,Ae⟩ (C9 st) df.body)
structure XT (up:Af->Ac Af) (xn:Af->Ac D->R Ex) (CL:ClA) (rzs exs:Ac (Ai × Af)) (K:Fg) (mg:Ai->Ao Ah):Prop where
 xc : ∀ c C,CL c=Aa C->XcOk K C
 rz : ∀ p∈rzs,∃ C,CL p.2=Aa C/\mg p.1=Aa (.ref C)
 ex : ∀ p∈exs,∃ C,mg p.1=Aa (.ref C)/\Yy K CL up p.2 C /\ ∀ c D,CL c=Aa D->Sj K (.ref D) (.ref C)=Aa ((up c).contains p.2)
 made : ∀ c C ds,CL c=Aa C->xn c ds = .bad\/(xn c ds = .ok ⟨c,[]⟩/\Go K C Ad=Ab) \/ ∃ f,XIn K mg C f/\JL xn c f ds
 nf : ∀ c C,CL c=Aa C -> ∀ f:Ai,(f==("triple" : Ai)||f==("points" : Ai))=Ab->G5 K C=Ab/\Bb K (.ref C) f=Aa Ad
 xb : ∀ c,(∀ p∈rzs,p.2≠c) -> ∀ ds,xn c ds = .bad
noncomputable def JS(K:Fg)(mg:Ai->Ao Ah)(CL:ClA)(x:Ai)(d:D):Prop := ∃ u v,mg x=Aa u/\A7 v u /\ ∀ H A,Rep K CL H A v d
structure VX (Z:Gam) (CL:ClA) (k:Af) (W:XW) (T:Tc) (X:Cx):Prop where
 sc:X.env.scope=T.sc
 kd:T.sc.kind = .function
 N:X.N=T.N
 nd:T.N.Nodup
 calm:X.calm=Ab
 room:Room k X.A
 bl : ∀ x,x∈T.bl->X.mg x=Ad
 fn : ∀ p∈T.fns,∃ f fd ps,X.mg p.1=Aa (.ref f)/\BK X.K (.ref f)=Ab/\E3 X.K fd ps []/\ps.length=p.2.2%1000/\(p.2.2<1000->FnOk X.prog X.w X.K X.mg X.base (CXR X.prog X.w) k f fd ps (spD X.K CL (p.2.2%1000) (Z.fr p.2.1) (Z.F p.2.1)))/\(1000<=p.2.2->HotOk X.prog X.w X.K X.mg X.base k f fd ps (spH X.K CL (p.2.2%1000) (Z.fr p.2.1) (Z.F p.2.1)))
 own:EB (model X.prog X.w) X.A X.env X.xe
 px : ∀ A,GJ (CXR X.prog X.w) X (EKW X.K CL A W)
 rz:Mo X CL W
 xt:XT Z.up Z.xn CL T.rzs T.exs X.K X.mg
 gl : ∀ p∈T.gls,JS X.K X.mg CL p.1 (Z.G p.2)
 clo:T.clo=Ab->Mr Z CL k X
theorem OT : ∀ A,GJ (CXR X.prog X.w) X (EKW X.K CL A W0):=λA pI Y H s ev s' I h=>by
 obtain⟨e,T,cls,dx,H',_,_,_,_,_,_,_,_,_,_,x,_,w⟩:=h;exact w.elim
theorem PH:Mo X CL W0:=λ_ _ _ _ _ _ _ _ _ _ _ _ _ _ z=>z.elim
noncomputable def Rf{α:Type}(g f:Rho->R α):Prop := ∀ U,g U = .bad\/g U=f U
section
variable{X:Cx}{CL:ClA}{W:XW}{a:Am}{f g:Rho->R D}
theorem SE.ref(h:SE X CL W a f)(r:Rf g f):SE X CL W a g:=λA=>PE.weak (h A) λY H Q ⟨hA,U,q,p⟩=>⟨hA,U,q,by
 rcases r U with e|e
 .rw[e]at p;exact p.elim
 .rw[e]at p;exact p⟩
theorem SB.ref{f g:Rho->R Ak}(h:SB X CL W a f)(r:Rf g f):SB X CL W a g:=λA=>PT.weak (h A) λY H Q ⟨hA,U,q,p⟩=>⟨hA,U,q,by
 rcases r U with e|e
 .rw[e]at p;exact p.elim
 .rw[e]at p;exact p⟩
theorem SW.ref{f g:Rho->R Ak}(h:SW X CL W a f)(r:Rf g f):SW X CL W a g:=λA=>PW.weak (h A) λY H Q ⟨hA,U,q,p⟩=>⟨hA,U,q,by
 rcases r U with e|e
 .rw[e]at p;exact p.elim
 .rw[e]at p;exact p⟩
theorem SC.ref(h:SC X CL W fr a f)(r:Rf g f):SC X CL W fr a g:=λA=>PE.weak (h A) λY H Q ⟨hA,U,q,p⟩=>⟨hA,U,q,by
 rcases r U with e|e
 .rw[e]at p;exact p.elim
 .rw[e]at p;exact p⟩
theorem SS.ref{st:AJ}{f g:Rho->O}(h:SS X CL W st f)(r : ∀ U,g U = .bad\/g U=f U):SS X CL W st g:=λFz B=>PS.weak (h Fz B) λD Y H ⟨U,x,p⟩=>⟨U,x,by
 rcases r U with e|e
 .rw[e]at p;exact p.elim
 .rw[e]at p;exact p⟩
end
theorem FW : ∀{l:Ac Ai},Gm l=Ab->l.Nodup
 |[],_=>List.nodup_nil
 |x::xs,h=>by
  unfold Gm at h;simp only[An,Bv,QK,decide_eq_false_iff_not]at h;exact List.nodup_cons.mpr ⟨h.1,FW h.2⟩
section
variable{T:Tc}{X:Cx}{Z:Gam}{CL:ClA}{k:Af}{W:XW}
theorem UC(h:L6 T x=Ab):Vis T.sc x:=by
 unfold L6 at h;split at h
 .exact .inl (by assumption)
 .exact .inr (.inl (by assumption))
 .exact .inr (.inr (by assumption))
 .cases h
theorem Je(h:G8 T x=Ab):Loc T.sc x:=by
 unfold G8 at h;split at h
 .exact .inl (by assumption)
 .exact .inr (by assumption)
 .cases h
theorem K9(h:IB x=Ab):(x==("__debug__" : Ai))=Ae/\(x==("__classdict__" : Ai))=Ae/\x ≠ "__name__" := by
 unfold IB at h;simp only[An,Bv]at h;exact⟨h.1.1,h.1.2,λe=>by subst e;exact absurd h.2 (by simp)⟩
theorem Fh{i:Af}(v:VX Z CL k W T X)(h:isV T x i=Ab):PE X (.Name x pos) (Fk i):=by
 unfold isV at h;simp only[An,A5]at h;obtain⟨h2,h3,_⟩:=K9 h.2;exact Ij (by rw[v.N];exact h.1.1) (by rw[v.sc];exact UC h.1.2) h2 h3
theorem Hu(v:VX Z CL k W T X)(h:isB T x=Ab):Gl X x/\X.mg x=Ad/\x ≠ "__name__" /\ (x==("__debug__" : Ai))=Ae:=by
 unfold isB glB at h;simp only[An,A5,QK,AR]at h;obtain⟨h2,h3,h4⟩:=K9 h.2;exact⟨by show X.env.scope.names.lookup x=_;rw[v.sc];exact h.1.2,v.bl x h.1.1,h4,h2⟩
theorem C2{x:Am}(h:Dc x=Ab):At (x::xs) env=(Ae,eval x env)::At xs env:=by
 cases x <;> first|rfl|cases h
theorem Uh{y:Am}(h:K8 y=Ab):Lk y:=by
 intro o i;cases y <;> first|rfl|cases h
theorem Jl{e:Am}(h:Ir e=Ab) : ∀ x,Ca e env x=pure x:=by
 intro x;cases e <;> first|rfl|cases h
theorem N6{e:Am}{t:Ao Am}(h:Hr e=Ab):CI e t l env=pure Ae:=by
 cases e <;> first|rfl|cases h
theorem Vu{e:Am}(h:IN e=Ab) : ∀ whole,F6 e env whole=(do let v <-whole;GR e.pos;holding [v] (truthy v)):=by
 intro whole;cases e <;> first|rfl|cases h
theorem Tg(v:VX Z CL k W T X)(scope:Bf):relabel scope X.env=LF T.sc scope:=by
 unfold relabel LF;have : ∀ n,X.env.kindOf n=T.sc.names.lookup n:=λn=>by show X.env.scope.names.lookup n=_;rw[v.sc]
 simp only[this,v.sc]
theorem Ly{N':Ac Ai}(v:VX Z CL k W T X)(h:ID T scope ts N'=Ab):BlockOk X scope N' ts/\N'.Nodup/\scope.kind = .function:=by
 unfold ID at h;simp only[An,A5,Bg,B0,Gq,ne_eq]at h;obtain⟨⟨⟨⟨⟨h1,h2⟩,h4⟩,h5⟩,h6⟩,h7⟩:=h;have at7 : ∀ i x,N'[i]? = Aa x->i∈ts\/((scope.names.lookup x≠Aa .local/\scope.names.lookup x≠Aa .cell)/\(scope.names.lookup x≠Aa .free\/T.N[i]? = Aa x)):=λi x e=>by
  have hi:=(AT.mp e).1;have:=h7 i (Ck.mpr hi);rcases this with z|z
  .exact .inl (by simpa using z)
  .rw[e]at z;simp only[An,Gq,ne_eq,B0,A5]at z;exact .inr z
 refine⟨⟨h1,h2,λy hy hl=>by rw[h2 y hy,hl],λy hy hf => ?_,by rw[v.N];exact h5,λi x e hf hn => ?_,λi x e hl => ?_⟩,FW h6,h1⟩
 .rw[v.sc];rcases h4 y hy with (z|z)|z
  .exact absurd hf z
  .exact .inl z
  .exact .inr z
 .rw[v.N];rcases at7 i x e with z|⟨_,z⟩
  .exact absurd z hn
  .exact z.resolve_left λq=>q hf
 .rcases at7 i x e with z|⟨z,_⟩
  .exact z
  .exact hl.elim (λq=>absurd q z.1) (λq=>absurd q z.2)
theorem VX.blk{xs:Ac Ai}{cl:Ac (Ai × Ag)}{s:Al}{fp:Ac Ag}(v:VX Z CL k W T X)(h:ID T scope ts (HF ts xs T.N)=Ab):VX Z CL k W0 (T.blk scope ts xs) (cxC X scope cl C (HF ts xs T.N) s H fp):=by
 obtain⟨_,h2,h3⟩:=Ly v h;exact⟨Tg v scope,h3,rfl,h2,v.calm,v.room,v.bl,v.fn,PassesOwn.never,OT,PH,v.xt,v.gl,λz=>nomatch z⟩
theorem Vp{t:Af}(v:VX Z CL k W T X)(hfn:scope.names.lookup x=Aa .cell->X.fn x=Ab)(h:tgO T scope t x=Ab):PG X (.Name x pos) (DE t):=by
 unfold tgO at h;simp only[An,B0,A5]at h;rcases h with ⟨h1,h2|h2⟩
 .exact Hj (by rw[v.N];exact v.nd) (by rw[v.N];exact h1) (by rw[v.sc];exact .inl h2) (.inr (by rw[v.sc];exact h2))
 .exact Hj (by rw[v.N];exact v.nd) (by rw[v.N];exact h1) (by rw[v.sc];exact .inr h2.1) (.inl (hfn h2.2))
theorem Kw{y:Am}{r:Ac Am}{zs:Ac Ai}(h:DN (y::r)=Aa zs) : ∃ x p ws,y = .Name x p/\DN r=Aa ws/\zs=x::ws:=by
 cases y with
 |Name x p=>
  have h':(DN r).map (x :: ·)=Aa zs:=h;cases e:DN r with
  |none=>rw[e]at h';cases h'
  |some ws=>rw[e]at h';cases h';exact⟨x,p,ws,rfl,rfl,rfl⟩
 |_=>cases h
theorem KH(x:Ai)(p:Az)(r:Ac Am)(env:BM):BB (.Name x p::r) env=(Ae,assign (.Name x p) env)::BB r env:=rfl
theorem Kv : ∀(ys:Ac Am)(zs:Ac Ai),DN ys=Aa zs->(BB ys env).length=ys.length/\(BB ys env).findIdx? (·.1)=Ad/\(BB ys env).map (·.2)=ys.map λy=>assign y env:=by
 intro ys
 induction ys with
 |nil=>intro _ _;exact⟨rfl,rfl,rfl⟩
 |cons y r ih=>
  intro zs h;obtain⟨x,p,ws,rfl,e,rfl⟩:=Kw h;obtain⟨h1,h2,h3⟩:=ih ws e;rw[KH];refine⟨?_,?_,?_⟩
  .rw[Cf,Cf,h1]
  .rw[List.findIdx?_cons,h2];simp
  .rw[DK,DK,h3]
theorem Vt(v:VX Z CL k W T X) : ∀(ys:Ac Am)(ts:Ac Af)(zs:Ac Ai),DN ys=Aa zs->tgB T ts zs=Ab->PGs X ys (ts.foldr (λt u=>FG (DE t) u) FL)/\ts.length=ys.length:=by
 intro ys
 induction ys with
 |nil=>
  intro ts zs e h;cases e;cases ts with
  |nil=>exact⟨Od,rfl⟩
  |cons t ts=>cases h
 |cons y r ih=>
  intro ts zs e h;obtain⟨x,p,ws,rfl,e2,rfl⟩:=Kw e;cases ts with
  |nil=>cases h
  |cons t ts=>
   have h':(T.N[t]? == Aa x&&T.sc.names.lookup x==Aa .local&&tgB T ts ws)=Ab:=h;simp only[An,A5]at h';obtain⟨h1,h2⟩:=ih ts ws e2 h'.2;exact⟨No (Hj (by rw[v.N];exact v.nd) (by rw[v.N];exact h'.1.1) (by rw[v.sc];exact .inl h'.1.2) (.inr (by rw[v.sc];exact h'.1.2))) h1 (by rw[KH];rfl),congrArg (· + 1) h2⟩
theorem Vs(v:VX Z CL k W T X)(hn:(DN ys).isSome=Ab)(h:tgB T ts (tgN ys)=Ab):PG X (.Tuple ys kk pos) (HI X.K ts.length (ts.foldr (λt u=>FG (DE t) u) FL)):=by
 cases e:DN ys with
 |none=>rw[e]at hn;cases hn
 |some zs=>
  have e2:tgN ys=zs:=by unfold tgN;rw[e];rfl
  rw[e2]at h;obtain⟨h1,h2⟩:=Vt v ys ts zs e h;obtain⟨h3,h4,_⟩:=Kv (env:=X.env) ys zs e;exact LA v.calm h1 (by rw[h3,h2]) h4
end
noncomputable def Es.len:Es->Af
 |.nil=>0
 |.cons _ es=>es.len+1
theorem Le(Z:Gam)(U:Rho) : ∀(es:Es)(ds:Ac D),evA Z U es = .ok ds->ds.length=es.len
 |.nil,ds,h=>by cases h;rfl
 |.cons e es,ds,h=>by
  obtain⟨x,h1,h2⟩:=GY (NQ Z U e es ▸ h);obtain⟨xs,h3,h4⟩:=GY h2;cases h4;exact congrArg (· + 1) (Le Z U es xs h3)
theorem N5(Z:Gam)(U:Rho) : ∀(es:Es)(ds:Ac D),evB Z U es = .ok ds->ds.length=es.len
 |.nil,ds,h=>by cases h;rfl
 |.cons e es,ds,h=>by
  obtain⟨x,h1,h2⟩:=GY (NP Z U e es ▸ h);obtain⟨xs,h3,h4⟩:=GY h2;cases h4;exact congrArg (· + 1) (N5 Z U es xs h3)
theorem OI(Z:Gam)(U:Rho)(e:E)(h:shE U e=Ab):top U e (evE Z U e)=evE Z U e:=by
 cases e with
 |var i=>
  show Ey U i=Dv U i;have h':shV U i=Ab:=h;unfold shV at h';unfold Ey Dv;cases q:U[i]? with
  |none=>rfl
  |some x=>
   cases x with
   |none=>rfl
   |some y=>
    obtain⟨d,o⟩:=y;cases o with
    |true=>rw[q]at h';cases h'
    |false=>rfl
 |_=>rfl
theorem Oy(Z:Gam)(U:Rho) : ∀(es:Es),FY U es=Ab->evB Z U es=evA Z U es
 |.nil,_=>rfl
 |.cons e es,h=>by
  simp only[S9,An]at h;rw[NQ,NP,OI Z U e h.1,Oy Z U es h.2]
theorem Lp(Z:Gam)(c:E):Rf (λU=>evE Z U c) (λU=>top U c (evE Z U c)):=λU=>by
 by_cases h:shE U c=Ab
 .exact .inr (OI Z U c h).symm
 .cases c with
  |var i=>
   refine .inl ?_;show Dv U i = .bad;have h' : ¬ shV U i=Ab:=h;unfold shV at h';unfold Dv;cases q:U[i]? with
   |none=>rfl
   |some x=>
    cases x with
    |none=>rfl
    |some y=>
     obtain⟨d,o⟩:=y;cases o with
     |true=>rfl
     |false=>rw[q]at h';exact absurd rfl h'
  |_=>exact absurd rfl h
noncomputable def Pcs(X:Cx)(CL:ClA)(W:XW)(e:Am)(f:Rho->R D):Prop := ∃ tg iter elt ifs scope pos N' ts fi fc fe as g,e = .ListComp elt [⟨tg,iter,ifs,0⟩] scope pos/\BlockOk X scope N' ts/\SI X CL W tg iter fi/\GG X.K CL ts as g /\
 (∀ cl C s H fp,PG (cxC X scope cl C N' s H fp) tg g)/\(∀ cl C s H fp,STs (cxC X scope cl C N' s H fp) CL ifs fc)/\(∀ cl C s H fp,SE (cxC X scope cl C N' s H fp) CL W0 elt fe)/\(∀ x,Ca iter X.env x=pure x) /\
 ∀ U,f U=(fi U).bind λxs=>(noX (Bx (λx=>(as x U).bind fc) (λx=>(as x U).bind fe) xs)).bind λys => .ok (.lst ys)
theorem Pcs.sc{W:XW}{e:Am}{f:Rho->R D}(hc:X.calm=Ab)(h:Pcs X CL W e f):SC X CL W Ab e f:=by
 obtain⟨tg,iter,elt,ifs,scope,pos,N',ts,fi,fc,fe,as,g,rfl,B,hi,hGG,hg,ht,he,hs,ef⟩:=h;exact SC.congr (U_1 hc B hi hGG hg ht he hs) ef
structure OkE (Z:Gam) (CL:ClA) (W:XW) (X:Cx) (e:Am) (c:E):Prop where
 se:SE X CL W e (λU=>evE Z U c)
 st:ST X CL W e (λU=>top U c (evE Z U c))
 nw:DG Z c=Ab->SC X CL W Ab e (λU=>evE Z U c)
 cp:Hr e=Ae->Pcs X CL W e (λU=>evE Z U c)
section
variable{Z:Gam}{CL:ClA}{W:XW}{X:Cx}{e:Am}{c:E}
theorem DC(h:SE X CL W e (λU=>evE Z U c))(ht : ∀ U r,top U c r=r)(hn:DG Z c=Ae)(hc:Hr e=Ab):OkE Z CL W X e c:=
 ⟨h,by simp only[ht];exact h.st,λz=>absurd z (by rw[hn];decide),λz=>absurd z (by rw[hc];decide)⟩
theorem OU(h:SC X CL W Ab e (λU=>evE Z U c))(ht : ∀ U r,top U c r=r)(hc:Hr e=Ab):OkE Z CL W X e c:=
 ⟨h.se,by simp only[ht];exact h.se.st,λ_=>h,λz=>absurd z (by rw[hc];decide)⟩
theorem Po(hc:X.calm=Ab)(h:Pcs X CL W e (λU=>evE Z U c))(ht : ∀ U r,top U c r=r):OkE Z CL W X e c:=
 ⟨(h.sc hc).se,by simp only[ht];exact(h.sc hc).se.st,λ_=>h.sc hc,λ_=>h⟩
end
theorem Z_2{k:Ki}(h:LV k=Aa x) : ∃ T,tyK k=Aa T/\B4 x=Aa (.type T):=by
 cases k <;> simp only[LV]at h <;> cases h
 .exact⟨_,rfl,PyProof.Rows.boot_int⟩
 .exact⟨_,rfl,PyProof.Rows.boot_bool⟩
 .exact⟨_,rfl,PyProof.Rows.boot_str⟩
 .exact⟨_,rfl,Q6⟩
 .exact⟨_,rfl,Q7⟩
structure Snd (Z:Gam) (CL:ClA) (k:Af) (n:Af):Prop where
 e : ∀(W:XW)(T:Tc)(X:Cx)(x:Am)(c:E),VX Z CL k W T X->A1 n T x c=Ab->OkE Z CL W X x c
 b : ∀(W:XW)(T:Tc)(X:Cx)(x:Am)(c:E),VX Z CL k W T X->F2 n T x c=Ab->SB X CL W x (λU=>(top U c (evE Z U c)).bind BE)
 bs : ∀(W:XW)(T:Tc)(X:Cx)(xs:Ac Am)(es:Es)(pos:Az),VX Z CL k W T X->chkBs n T xs es=Ab->xs≠[]->SW X CL W (.BoolOp .And xs pos) (λU=>(evN Z U es).bind BE)/\SW X CL W (.BoolOp .Or xs pos) (λU=>(evO Z U es).bind BE)
 es : ∀(W:XW)(T:Tc)(X:Cx)(xs:Ac Am)(es:Es),VX Z CL k W T X->chkEs n T xs es=Ab->SA X CL W xs (λU=>evA Z U es)/\SAT X CL W xs (λU=>evB Z U es)/\xs.length=es.len/\(∀ pos,xs≠[]->SE X CL W (.BoolOp .And xs pos) (λU=>evN Z U es)/\SE X CL W (.BoolOp .Or xs pos) (λU=>evO Z U es))/\(∀ pos,(B2 pos (At xs X.env)).any (·.1)=Ae)
 o : ∀(W:XW)(T:Tc)(X:Cx)(x:Ao Am)(c:E),VX Z CL k W T X->Qf n T x c=Ab->SO X CL W x (λU=>(top U c (evE Z U c)).bind (slE c))
 t : ∀(T:Tc)(X:Cx)(xs:Ac Am)(c:E),VX Z CL k W0 T X->chkT n T xs c=Ab->STs X CL xs (λU=>(top U c (evE Z U c)).bind BE)
 i : ∀(W:XW)(T:Tc)(X:Cx)(tu:Ak)(tg x:Am)(i:I),VX Z CL k W T X->P3 tu tg=Ab->chkI n T tu x i=Ab->SI X CL W tg x (λU=>evI Z U i)
section
variable{Z:Gam}{CL:ClA}{W:XW}{k n:Af}{T:Tc}{X:Cx}
theorem Ug:Snd Z CL k 0:=⟨λ_ _ _ _ _ _ h=>noF h,λ_ _ _ _ _ _ h=>noF h,λ_ _ _ _ _ _ _ h=>noF h,λ_ _ _ _ _ _ h=>noF h,λ_ _ _ _ _ _ h=>noF h,λ_ _ _ _ _ h=>noF h,λ_ _ _ _ _ _ _ _ _ h=>noF h⟩
theorem MI{x:Am}(h:Dc x=Ab)(hx:(B2 pos (At xs env)).any (·.1)=Ae):(B2 pos (At (x::xs) env)).any (·.1)=Ae:=by
 rw[C2 h];show (Ae||(B2 pos (At xs env)).any (·.1))=Ae;rw[hx];rfl
theorem WK(S:Snd Z CL k n)(W:XW)(T:Tc)(X:Cx)(xs:Ac Am)(es:Es)(v:VX Z CL k W T X)(h:chkEs (n+1) T xs es=Ab):SA X CL W xs (λU=>evA Z U es)/\SAT X CL W xs (λU=>evB Z U es)/\xs.length=es.len/\(∀ pos,xs≠[]->SE X CL W (.BoolOp .And xs pos) (λU=>evN Z U es)/\SE X CL W (.BoolOp .Or xs pos) (λU=>evO Z U es))/\(∀ pos,(B2 pos (At xs X.env)).any (·.1)=Ae):=by
 cases xs with
 |nil=>
  cases es with
  |nil=>exact⟨Xy,U_4,rfl,λ_ z=>absurd rfl z,λ_=>rfl⟩
  |cons=>exact noF h
 |cons x xs=>
  cases es with
  |nil=>exact noF h
  |cons e es=>
   replace h:(Dc x&&A1 n T x e&&chkEs n T xs es)=Ab:=h;simp only[An]at h;obtain⟨⟨h0,h1⟩,h2⟩:=h;have he:=S.e W T X x e v h1;obtain⟨a1,a2,a3,a4,a5⟩:=S.es W T X xs es v h2;refine⟨U_5 he.se a1 (C2 h0),Um he.st a2 (C2 h0),congrArg (· + 1) a3,λpos _ => ?_,λpos=>MI h0 (a5 pos)⟩
   cases xs with
   |nil=>
    cases es with
    |nil=>exact⟨OO he.se,OO he.se⟩
    |cons=>cases a3
   |cons y ys=>
    cases es with
    |nil=>cases a3
    |cons e' es'=>
     obtain⟨b1,b2⟩:=a4 pos (by simp)
     exact⟨Xs he.se b1,YB he.se b2⟩
theorem YY(S:Snd Z CL k n)(W:XW)(T:Tc)(X:Cx)(x:Ao Am)(c:E)(v:VX Z CL k W T X)(h:Qf (n+1) T x c=Ab):SO X CL W x (λU=>(top U c (evE Z U c)).bind (slE c)):=by
 cases x with
 |none=>
  obtain rfl:=TK h;exact VJ
 |some x=>
  replace h:(!(Jq c)&&A1 n T x c)=Ab:=h;rw[An]at h;have q:=VI (S.e W T X x c v h.2).st;have e:slE c=λd=>(DF d).bind λi => .ok (Aa i):=by
   funext d
   cases c <;> first|rfl|exact absurd (show Ae=Ab from h.1) Aw
  rw[e];exact q
theorem YW(S:Snd Z CL k n)(T:Tc)(X:Cx)(xs:Ac Am)(c:E)(v:VX Z CL k W0 T X)(h:chkT (n+1) T xs c=Ab):STs X CL xs (λU=>(top U c (evE Z U c)).bind BE):=by
 cases xs with
 |nil=>
  replace h:=Wk h;obtain⟨b,rfl,h⟩:=h;subst h;exact Vy
 |cons x xs=>
  replace h:(xs.isEmpty&&F2 n T x c)=Ab:=h;rw[An]at h;obtain rfl:=G2 h.1;exact Vx (S.b W0 T X x c v h.2)
theorem YZ(S:Snd Z CL k n)(W:XW)(T:Tc)(X:Cx)(tu:Ak)(tg x:Am)(i:I)(v:VX Z CL k W T X)(ht':P3 tu tg=Ab)(h:chkI (n+1) T tu x i=Ab):SI X CL W tg x (λU=>evI Z U i):=by
 have ht:tu=Ab->ZW tg=Ab:=λz=>by
  subst z;cases tg <;> first|rfl|cases ht'
 cases i with
 |e a=>
  exact bF (S.e W T X x a v h).se
 |rng a=>
  replace h:=G0 h;obtain⟨g,pp,l,qq,rfl,h⟩:=h;replace h:=Ff h;obtain⟨y,rfl,h⟩:=h;simp only[An,A5]at h;obtain⟨⟨⟨rfl,h1⟩,h2⟩,h3⟩:=h;obtain⟨g1,g2,_,_⟩:=Hu v h1;exact Xi (S.e W T X _ a v h3).st g1 g2 (C2 h2)
 |rng2 a b=>
  replace h:=G0 h;obtain⟨g,pp,l,qq,rfl,h⟩:=h;replace h:=Gh h;obtain⟨y,z,rfl,h⟩:=h;simp only[An,A5]at h;obtain⟨⟨⟨⟨⟨rfl,h1⟩,h2⟩,h3⟩,h4⟩,h5⟩:=h;obtain⟨g1,g2,_,_⟩:=Hu v h1;exact U_0 (S.e W T X _ a v h4).st (S.e W T X _ b v h5).st g1 g2 (by rw[C2 h2,C2 h3];rfl) (by rw[C2 h3];rfl)
 |zip a b=>
  replace h:=G0 h;obtain⟨g,pp,l,qq,rfl,h⟩:=h;replace h:=Gh h;obtain⟨y,z,rfl,h⟩:=h;simp only[An,A5]at h;obtain⟨⟨⟨⟨⟨⟨h0,rfl⟩,h1⟩,h2⟩,h3⟩,h4⟩,h5⟩:=h;obtain⟨g1,g2,_,_⟩:=Hu v h1;have hg:=ht h0;cases tg with
  |Tuple es m tpos=>exact Xh (S.e W T X _ a v h4).se (S.e W T X _ b v h5).se g1 g2 (by rw[C2 h2,C2 h3];rfl) (by rw[C2 h3];rfl)
  |_=>cases hg
 |zip3 a b c=>exact absurd (show Ae=Ab from h) Aw
 |enm a=>exact absurd (show Ae=Ab from h) Aw
theorem Hm{c:Prop}[EA c]{b:Ak}:(if c then R.ok (D.bl b) else .bad) = .bad \/ ∃ b',(if c then R.ok (D.bl b) else .bad) = .ok (.bl b'):=by
 by_cases h:c
 .rw[AD h];exact .inr ⟨_,rfl⟩
 .rw[AL h];exact .inl rfl
theorem UL(op:Co)(d d':D):Bu op d d' = .bad \/ ∃ b,Bu op d d' = .ok (.bl b):=by
 cases op with
 |Eq=>exact Hm
 |NotEq=>exact Hm
 |In=>
  cases d' with
  |lst ys=>exact Hm
  |tup ys=>exact Hm
  |dic kvs=>
   show (match HH d with|some k=>R.ok (D.bl (kvs.any λp=>p.1==k))|none => .bad) = .bad \/ ∃ b,(match HH d with|some k=>R.ok (D.bl (kvs.any λp=>p.1==k))|none => .bad) = .ok (.bl b)
   cases HH d with
   |some k=>exact .inr ⟨_,rfl⟩
   |none=>exact .inl rfl
  |_=>exact .inl rfl
 |NotIn=>
  cases d' with
  |lst ys=>exact Hm
  |tup ys=>exact Hm
  |_=>exact .inl rfl
 |Is=>
  cases d' with
  |non=>cases d <;> first|exact .inr ⟨_,rfl⟩|exact .inl rfl
  |_=>cases d <;> first|exact .inl rfl|exact .inr ⟨_,rfl⟩
 |IsNot=>
  cases d' with
  |non=>cases d <;> first|exact .inr ⟨_,rfl⟩|exact .inl rfl
  |_=>cases d <;> first|exact .inl rfl|exact .inr ⟨_,rfl⟩
 |_=>
  cases d with
  |int i=>cases d' <;> first|exact .inr ⟨_,rfl⟩|exact .inl rfl
  |_=>exact .inl rfl
theorem N9(op:Co)(d d':D):(Bu op d d').bind BE = .bad\/(Bu op d d').bind BE=(Bu op d d').bind CY:=by
 rcases UL op d d' with h|⟨b,h⟩
 .rw[h];exact .inl rfl
 .rw[h];exact .inr rfl
theorem Ys(e e':E)(es:Es):Rf (λU=>(evN Z U (.cons e (.cons e' es))).bind BE) (λU=>((top U e (evE Z U e)).bind BE).bind λc=>if c=Ab then (evN Z U (.cons e' es)).bind BE else .ok Ae):=λU=>by
 have e0:evN Z U (.cons e (.cons e' es))=(evE Z U e).bind λx=>(CY x).bind λc=>if c=Ab then evN Z U (.cons e' es) else .ok (.bl Ae):=rfl
 dsimp only;rw[e0];rcases Lp Z e U with z|z <;> dsimp only at z
 .rw[z];exact .inl rfl
 .rw[<-z];cases evE Z U e with
  |bad=>exact .inl rfl
  |exn x=>exact .inr rfl
  |ok d=>
   cases d with
   |bl b=>cases b <;> exact .inr rfl
   |_=>exact .inl rfl
theorem Yr(e e':E)(es:Es):Rf (λU=>(evO Z U (.cons e (.cons e' es))).bind BE) (λU=>((top U e (evE Z U e)).bind BE).bind λc=>if c=Ab then .ok Ab else (evO Z U (.cons e' es)).bind BE):=λU=>by
 have e0:evO Z U (.cons e (.cons e' es))=(evE Z U e).bind λx=>(CY x).bind λc=>if c=Ab then .ok (.bl Ab) else evO Z U (.cons e' es):=rfl
 dsimp only;rw[e0];rcases Lp Z e U with z|z <;> dsimp only at z
 .rw[z];exact .inl rfl
 .rw[<-z];cases evE Z U e with
  |bad=>exact .inl rfl
  |exn x=>exact .inr rfl
  |ok d=>
   cases d with
   |bl b=>cases b <;> exact .inr rfl
   |_=>exact .inl rfl
theorem Rf.tru(e:E):Rf (λU=>(evE Z U e).bind BE) (λU=>(top U e (evE Z U e)).bind BE):=λU=>by
 rcases Lp Z e U with z|z <;> dsimp only at z ⊢
 .rw[z];exact .inl rfl
 .rw[<-z];exact .inr rfl
theorem Wr(S:Snd Z CL k n)(W:XW)(T:Tc)(X:Cx)(xs:Ac Am)(es:Es)(pos:Az)(v:VX Z CL k W T X)(h:chkBs (n+1) T xs es=Ab)(hne:xs≠[]):SW X CL W (.BoolOp .And xs pos) (λU=>(evN Z U es).bind BE)/\SW X CL W (.BoolOp .Or xs pos) (λU=>(evO Z U es).bind BE):=by
 cases xs with
 |nil=>exact absurd rfl hne
 |cons x xs=>
  cases es with
  |nil=>exact noF h
  |cons e es=>
   replace h:(F2 n T x e&&chkBs n T xs es)=Ab:=h;simp only[An]at h;obtain⟨h1,h2⟩:=h;have he:=S.b W T X x e v h1;cases xs with
   |nil=>
    cases es with
    |nil=>exact⟨SW.ref (Vw he) (Rf.tru e),SW.ref (WG he) (Rf.tru e)⟩
    |cons=>
     cases n with
     |zero=>exact absurd (show Ae=Ab from h2) Aw
     |succ n=>exact absurd (show Ae=Ab from h2) Aw
   |cons y ys=>
    cases es with
    |nil=>
     cases n with
     |zero=>exact absurd (show Ae=Ab from h2) Aw
     |succ n=>exact absurd (show Ae=Ab from h2) Aw
    |cons e' es'=>
     obtain⟨b1,b2⟩:=S.bs W T X (y::ys) (.cons e' es') pos v h2 (by simp)
     exact⟨SW.ref (WH he b1) (Ys e e' es'),SW.ref (YV he b2) (Yr e e' es')⟩
theorem Vo(S:Snd Z CL k n){x:Am}{ops:Ac Co}{b:BI}(v:VX Z CL k W T X)(h:L8 T (A1 n) x ops ys b as=Ab):SB X CL W (.Compare x ops ys pos) (λU=>(top U (.bi b as) (evE Z U (.bi b as))).bind BE):=by
 exact absurd (show Ae=Ab from h) Aw
theorem YM(S:Snd Z CL k n)(W:XW)(T:Tc)(X:Cx)(x:Am)(c:E)(v:VX Z CL k W T X)(h:F2 (n+1) T x c=Ab):SB X CL W x (λU=>(top U c (evE Z U c)).bind BE):=by
 have plain : ∀ e,IN e=Ab->A1 n T e c=Ab->SB X CL W e (λU=>(top U c (evE Z U c)).bind BE):=λe h1 h2=>Xu (S.e W T X e c v h2).st (Vu h1)
 replace h:((Iw x λo x=>decide (o = .Not)&&(J5 c λa=>F2 n T x a))||(HC x λo xs _=>(decide (o = .And)&&(JC c λes=>chkBs n T xs es && !xs.isEmpty))||(decide (o = .Or)&&(J4 c λes=>chkBs n T xs es && !xs.isEmpty)))||(HB x λx os ys=>(Jx c λop a b=>Ev os λop'=>Ev ys λy=>decide (op'=op) && !behindInMarks op y&&A1 n T x a&&A1 n T y b)||(Jy c λop1 op2 a b c=>Fi os λo1 o2=>Fi ys λy z=>decide (o1=op1)&&decide (o2=op2) && !lastMarks [op1,op2] [y,z]&&A1 n T x a&&A1 n T y b&&A1 n T z c)||(Jz c λb as=>L8 T (A1 n) x os ys b as))||IN x&&A1 n T x c)=Ab:=h
 replace h:=(orT h).imp_left λz=>(orT z).imp_left orT
 rcases h with ((h|h)|h)|h
 .replace h:=Oh h;obtain⟨o,y,p,rfl,h⟩:=h;replace h:=A9 h;obtain⟨h0,h⟩:=h;obtain rfl:=Bk h0;replace h:=Wj h;obtain⟨a,rfl,h⟩:=h
  .skip
   refine SB.ref (Xv (S.b W T X _ a v h)) λU => ?_
   show ((top U a (evE Z U a)).bind λx=>(CY x).bind λb => .ok (.bl (!b))).bind BE = .bad\/((top U a (evE Z U a)).bind λx=>(CY x).bind λb => .ok (.bl (!b))).bind BE=_
   cases top U a (evE Z U a) with
   |bad=>exact .inl rfl
   |exn x=>exact .inr rfl
   |ok d=>cases d <;> first|exact .inr rfl|exact .inl rfl
 .replace h:=K1 h;obtain⟨o,ys,p,rfl,h⟩:=h;replace h:=orT h;rcases h with h|h
  .replace h:=A9 h;obtain⟨h0,h⟩:=h;obtain rfl:=Bk h0;replace h:=T5 h;obtain⟨es,rfl,h⟩:=h;simp only[An,Bv,C0]at h;exact(S.bs W T X _ _ _ v h.1 h.2).1.sb
  .replace h:=A9 h;obtain⟨h0,h⟩:=h;obtain rfl:=Bk h0;replace h:=Wi h;obtain⟨es,rfl,h⟩:=h;simp only[An,Bv,C0]at h;exact(S.bs W T X _ _ _ v h.1 h.2).2.sb
 .replace h:=K0 h;obtain⟨w,os,ys,p,rfl,h⟩:=h;replace h:=(orT h).imp_left orT;rcases h with (h|h)|h
  .replace h:=TX h;obtain⟨op,a,b,rfl,h⟩:=h;replace h:=Ff h;obtain⟨op',rfl,h⟩:=h;replace h:=Ff h;obtain⟨y,rfl,h⟩:=h
   .simp only[An,Bv,AR]at h;obtain⟨⟨⟨rfl,h1⟩,h2⟩,h3⟩:=h;refine SB.ref (Xx (Hk v.room.units _) (S.e W T X _ a v h2).st (S.e W T X _ b v h3).st h1) λU => ?_
    show ((top U a (evE Z U a)).bind λx=>(top U b (evE Z U b)).bind λy=>Bu op' x y).bind BE = .bad\/((top U a (evE Z U a)).bind λx=>(top U b (evE Z U b)).bind λy=>Bu op' x y).bind BE=_
    cases top U a (evE Z U a) with
    |bad=>exact .inl rfl
    |exn x=>exact .inr rfl
    |ok d=>
     cases top U b (evE Z U b) with
     |bad=>exact .inl rfl
     |exn x=>exact .inr rfl
     |ok d'=>
      dsimp only[R.bind];exact N9 _ d d'
  .replace h:=TY h;obtain⟨op1,op2,a,b,c,rfl,h⟩:=h;replace h:=Gh h;obtain⟨o1,o2,rfl,h⟩:=h;replace h:=Gh h;obtain⟨y,z,rfl,h⟩:=h
   .simp only[An,Bv,AR]at h;obtain⟨⟨⟨⟨⟨rfl,rfl⟩,h1⟩,h2⟩,h3⟩,h4⟩:=h;refine SB.ref (Ul v.room.units (S.e W T X _ a v h2).st (S.e W T X _ b v h3).st (S.e W T X _ c v h4).st h1) λU => ?_
    show ((top U a (evE Z U a)).bind λx=>(top U b (evE Z U b)).bind λy=>(Bu o1 x y).bind λz=>(CY z).bind λk=>if k=Ab then (top U c (evE Z U c)).bind λu=>Bu o2 y u else .ok (.bl Ae)).bind BE = .bad\/((top U a (evE Z U a)).bind λx=>(top U b (evE Z U b)).bind λy=>(Bu o1 x y).bind λz=>(CY z).bind λk=>if k=Ab then (top U c (evE Z U c)).bind λu=>Bu o2 y u else .ok (.bl Ae)).bind BE=_
    cases top U a (evE Z U a) with
    |bad=>exact .inl rfl
    |exn x=>exact .inr rfl
    |ok d=>
     cases top U b (evE Z U b) with
     |bad=>exact .inl rfl
     |exn x=>exact .inr rfl
     |ok d'=>
      dsimp only[R.bind];cases Bu o1 d d' with
      |bad=>exact .inl rfl
      |exn x=>exact .inr rfl
      |ok d3=>
       cases d3 with
       |bl k=>
        cases k with
        |false=>exact .inr rfl
        |true=>
         dsimp only[R.bind,CY];rw[AD rfl,AD rfl];cases top U c (evE Z U c) with
         |bad=>exact .inl rfl
         |exn x=>exact .inr rfl
         |ok d4=>exact N9 _ d' d4
       |_=>exact .inl rfl
  .replace h:=TZ h;obtain⟨b,as,rfl,h⟩:=h;exact Vo S v h
 .exact plain _ (A9 h).1 (A9 h).2
end
section
variable{Z:Gam}{CL:ClA}{W:XW}{k n:Af}{T:Tc}{X:Cx}
theorem Z_4{b:BI}{g:Ai}{x:Am}(v:VX Z CL k W T X)(hb:LW b=Aa g)(hg:isB T g=Ab)(hs:SAT X CL W (x::xs) (λU=>evB Z U as))(h0:Dc x=Ab)(hpl : ∀ pos,(B2 pos (At xs X.env)).any (·.1)=Ae):OkE Z CL W X (.Call (.Name g p) (x::xs) [] pos) (.bi b as):=by
 obtain⟨g1,g2,g3,g4⟩:=Hu v hg;cases b <;> simp only[LW]at hb <;> cases hb
 .exact DC (Ls Yo g1 g2 PySem.boot_len hs g3 g4 (C2 h0) hpl) (λ_ _=>rfl) rfl rfl
 .exact OU (Ww VO g1 g2 Q6 hs g3 g4 (C2 h0) hpl) (λ_ _=>rfl) rfl
 .exact DC (Xr UN g1 g2 Q7 hs g3 g4 (C2 h0) hpl) (λ_ _=>rfl) rfl rfl
 .exact DC (Ls (Yp v.calm) g1 g2 PyProof.Rows.boot_all hs g3 g4 (C2 h0) hpl) (λ_ _=>rfl) rfl rfl
 .exact DC (Ls (Yn v.calm) g1 g2 PyProof.Rows.boot_sum hs g3 g4 (C2 h0) hpl) (λ_ _=>rfl) rfl rfl
theorem KS{x:Am}{es:Es}(h:chkEs n T (x::xs) es=Ab):Dc x=Ab /\ ∃ e es',es = .cons e es' /\ ∃ m,n=m+1/\chkEs m T xs es'=Ab:=by
 cases n with
 |zero=>exact noF h
 |succ m=>
  cases es with
  |nil=>exact noF h
  |cons e es=>
   replace h:(Dc x&&A1 m T x e&&chkEs m T xs es)=Ab:=h;simp only[An]at h;exact⟨h.1.1,e,es,rfl,m,rfl,h.2⟩
theorem M6 : ∀(m:Af)(xs:Ac Am)(es:Es),chkEs m T xs es=Ab -> ∀ pos,(B2 pos (At xs X.env)).any (·.1)=Ae:=by
 intro m
 induction m with
 |zero=>intro xs es h;exact noF h
 |succ m ih=>
  intro xs es h pos;cases xs with
  |nil=>rfl
  |cons x xs=>
   obtain⟨h0,e,es',rfl,m',e1,h1⟩:=KS h;cases e1;exact MI h0 (ih xs es' h1 pos)
theorem Ta{o y:Am}{apos cpos:Az}{fo:Rho->R D}{j:Ai}(hu:X.A.units+64<Bo)(ho:ST X CL W o fo)(hy:SE X CL W y (λ_ => .ok (.str j)))(hbase:DL o "count" X.env (eval o X.env)=eval o X.env)(hfew:((B2 cpos (At [y] X.env)).all (λx => !x.1)&&(FB cpos (Eh [] X.env)).all (λx=>x.1.isSome)&&decide ([y].length+([]:Ac CA).length+(if ([]:Ac CA).isEmpty then 0 else 1)<30))=Ab)(hline:(apos.endLine==cpos.line)=Ab)(hs:At [y] X.env=[(Ae,eval y X.env)]):
  SE X CL W (.Call (.Attribute o "count" apos) [y] [] cpos) (λU=>(fo U).bind λx=>biD .count [x,.str j]):=λA=>
 PE.weak (Iq Cv D9 RS (NA (CL:=CL) hu) (ho A) (Du (hy A) EQ hs) hbase hfew hline hs rfl) λY H Q ⟨hA,U,g,p⟩=>⟨hA,U,g,AZ.bind p λd v H1 _ s1 r1 p1=>by
  cases d with
  |lst ds=>
   obtain⟨a,xs,rfl,sq,rs⟩:=r1.lst_of;refine⟨.inl ⟨rfl,xs,sq⟩,hA.same s1,U,g.same s1,λv' H2 s2 r2 => ?_⟩
   have r3:Rep X.K CL H2 A0 (.ref a) (.lst ds):=(B8.same s2 r1).plain;obtain⟨a',xs',e',_,sq',rs'⟩:=r3;cases e';replace p1:AZ (λH=>Rep X.K CL H A) W H1 (if (flD 5 (.str j)&&ds.all (flD 5))=Ab then .ok (.int ((ds.filter λy=>eqD y (.str j)).length:Af)) else .bad) Q:=p1
   split at p1
   .rename_i h;simp only[An]at h;have e2:v' = .str j:=r2;subst e2;exact⟨a,xs',ds,.str j,.str j,rfl,rfl,sq',rs',rfl,h.1,h.2,p1 _ H2 s2 rfl⟩
   .exact p1.elim
  | _=>exact p1.elim⟩
theorem Xz(S:Snd Z CL k n){x:Am}{b:BI}(v:VX Z CL k W T X)(h:(match Ml as with|some a=>(match PJ x with|some y=>decide (b = .rvs)&&A1 n T y a|none=>Ae)|none=>Ae)=Ab):OkE Z CL W X x (.bi b as):=by
 simp[Ml]at h
theorem WE(S:Snd Z CL k n){x:Am}{b:BI}(v:VX Z CL k W T X)(h:(match LY as with|some (a,c)=>(match Qh x with|some (y,z,_)=>decide (b = .tlt) && !behindInMarks .Lt z&&A1 n T y a&&A1 n T z c|none=>Ae)|none=>Ae)=Ab):OkE Z CL W X x (.bi b as):=by
 simp[LY]at h
theorem X2{x:Am}{b:BI}(v:VX Z CL k W T X)(h:Mi T x b as=Ab):OkE Z CL W X x (.bi b as):=by
 unfold Mi at h;split at h
 .simp only[An,A5,AR]at h;obtain⟨⟨⟨rfl,rfl⟩,h2⟩,h3⟩:=h;split at h3
  .simp only[An,AR]at h3;obtain⟨h3,rfl⟩:=h3;refine DC (SE.congr (Uj v.room.units (Lr (Fh v h3)) (j:=_) OP rfl rfl (by rw[h2];exact CF _) rfl) λU => ?_) (λ_ _=>rfl) rfl rfl
   simp only[Lw,evB,R.bind_assoc,R.bind_ok,Vm,Wa];rfl
  .cases h3
 .simp only[An,A5,AR]at h;obtain⟨⟨⟨rfl,rfl⟩,h2⟩,h3⟩:=h;split at h3
  .simp only[An,AR]at h3;obtain⟨h3,rfl⟩:=h3;refine DC (SE.congr (Ta v.room.units (Lr (Fh v h3)) (j:=_) ON rfl rfl (by rw[h2];exact CF _) rfl) λU => ?_) (λ_ _=>rfl) rfl rfl
   simp only[Lw,evB,R.bind_assoc,R.bind_ok,Vl,V9];rfl
  .cases h3
 .cases h
theorem WI(S:Snd Z CL k n){x:Am}{b:BI}(v:VX Z CL k W T X)(h:(match LZ as with|some (a,k)=>(match P6 x with|some (y,j)=>decide (b = .stp)&&decide (j=k)&&decide (0<=k)&&A1 n T y a|none=>Ae)|none=>Ae)=Ab):OkE Z CL W X x (.bi b as):=by
 simp[LZ]at h
theorem X8(S:Snd Z CL k n){x:Am}{b:BI}(v:VX Z CL k W T X)(h:(match L3 as with|some (a,c)=>(match Qs x with|some (g,h,y,z)=>decide (b = .list)&&g==("list" : Ai)&&h==("range" : Ai)&&isB T g&&isB T h&&Dc y&&Dc z&&A1 n T y a&&A1 n T z c|none=>Ae)|none=>Ae)=Ab):OkE Z CL W X x (.bi b as):=by
 simp[L3]at h
theorem Wp(S:Snd Z CL k n){x:Am}{b:BI}(v:VX Z CL k W T X)(h:(match L0 as with|some a=>(match Qr x with|some (g,h,y)=>decide (b = .lset)&&g==("len" : Ai)&&h==("set" : Ai)&&isB T g&&isB T h&&Dc y&&A1 n T y a|none=>Ae)|none=>Ae)=Ab):OkE Z CL W X x (.bi b as):=by
 simp[L0]at h
theorem YL(S:Snd Z CL k n)(W:XW)(T:Tc)(X:Cx)(x:Am)(c:E)(v:VX Z CL k W T X)(h:A1 (n+1) T x c=Ab):OkE Z CL W X x c:=by
 cases c with
 |non=>
  replace h:=IW h;obtain⟨c,u,p,rfl,h⟩:=h;obtain rfl:=Bk h;exact DC Xm (λ_ _=>rfl) rfl rfl
 |bl b=>
  replace h:=IW h;obtain⟨c,u,p,rfl,h⟩:=h;obtain rfl:=Bk h;exact DC YC (λ_ _=>rfl) rfl rfl
 |int i=>
  replace h:=IW h;obtain⟨c,u,p,rfl,h⟩:=h;obtain rfl:=Bk h;exact DC OP (λ_ _=>rfl) rfl rfl
 |str i=>
  replace h:=IW h;obtain⟨c,u,p,rfl,h⟩:=h;obtain rfl:=Bk h;exact DC ON (λ_ _=>rfl) rfl rfl
 |var i=>
  replace h:=ER h;obtain⟨y,p,rfl,h⟩:=h;exact⟨Xj (Fh v h),Lr (Fh v h),λz=>(nomatch z),λz=>(nomatch z)⟩
 |glob g=>exact absurd (show Ae=Ab from h) Aw
 |bin op a b=>
  replace h:=T2 h;obtain⟨y,op',z,p,rfl,h⟩:=h;simp only[An,AR]at h;obtain⟨⟨rfl,h1⟩,h2⟩:=h;have ha:=(S.e W T X _ a v h1).st;have hb:=(S.e W T X _ b v h2).st;refine⟨OQ (Oe _) ha hb,(OQ (Oe _) ha hb).st,λz => ?_,λz=>nomatch z⟩
  cases op' <;> first|exact Wx ha hb|cases z
 |un op a=>exact absurd (show Ae=Ab from h) Aw
 |no a=>
  replace h:=Oh h;obtain⟨o,y,p,rfl,h⟩:=h;replace h:=A9 h;obtain⟨h0,h⟩:=h;obtain rfl:=Bk h0;exact DC (Xl (S.e W T X _ a v h).st) (λ_ _=>rfl) rfl rfl
 |and es=>
  replace h:=K1 h;obtain⟨o,ys,p,rfl,h⟩:=h;replace h:=A9 h;obtain⟨h0,h⟩:=h;obtain rfl:=Bk h0;simp only[An,Bv,C0]at h;exact DC ((S.es W T X _ es v h.1).2.2.2.1 _ h.2).1 (λ_ _=>rfl) rfl rfl
 |or es=>
  replace h:=K1 h;obtain⟨o,ys,p,rfl,h⟩:=h;replace h:=A9 h;obtain⟨h0,h⟩:=h;obtain rfl:=Bk h0;simp only[An,Bv,C0]at h;exact DC ((S.es W T X _ es v h.1).2.2.2.1 _ h.2).2 (λ_ _=>rfl) rfl rfl
 |cmp op a b=>
  replace h:=K0 h;obtain⟨y,os,ys,p,rfl,h⟩:=h;replace h:=Ff h;obtain⟨op',rfl,h⟩:=h;replace h:=Ff h;obtain⟨z,rfl,h⟩:=h;simp only[An,Bv,AR]at h;obtain⟨⟨⟨rfl,h1⟩,h2⟩,h3⟩:=h;exact DC (Xp (Hk v.room.units _) (S.e W T X _ a v h2).st (S.e W T X _ b v h3).st h1) (λ_ _=>rfl) rfl rfl
 |cmp2 op1 op2 a b c=>
  replace h:=K0 h;obtain⟨y,os,ys,p,rfl,h⟩:=h;replace h:=Gh h;obtain⟨o1,o2,rfl,h⟩:=h;replace h:=Gh h;obtain⟨z,w,rfl,h⟩:=h;simp only[An,Bv,AR]at h;obtain⟨⟨⟨⟨⟨rfl,rfl⟩,h1⟩,h2⟩,h3⟩,h4⟩:=h;exact DC (Uk v.room.units (S.e W T X _ a v h2).st (S.e W T X _ b v h3).st (S.e W T X _ c v h4).st h1) (λ_ _=>rfl) rfl rfl
 |ite c a b=>exact absurd (show Ae=Ab from h) Aw
 |call f as=>
  replace h:=KC h;obtain⟨g,pp,y,ys,qq,rfl,h⟩:=h;simp only[An,QJ,A5,AR]at h;obtain⟨⟨⟨⟨⟨p,hp,⟨rfl,rfl⟩,hl⟩,h900⟩,h1⟩,h2⟩,h3⟩:=h;obtain⟨fa,fd,ps,m1,m2,m3,m4,m5,_⟩:=v.fn p hp;have hlt:p.2.2<1000:=by omega
  rw[Nat.mod_eq_of_lt hlt]at m4 m5;have m5:=m5 hlt;obtain⟨n2,n3,n4⟩:=K9 h2;obtain⟨a1,a2,a3,a4,a5⟩:=S.es W T X _ as v h3;obtain⟨s0,e,es',rfl,m,rfl,s1⟩:=KS h3;have q:SC X CL W (Z.fr p.2.1) (.Call (.Name p.1 pp) (y::ys) [] qq) (λU=>evE Z U (.call p.2.1 (.cons e es'))):=U_2 (sh:=λU=>FY U (.cons e es')) m5 v.room (by unfold glB at h1;show X.env.scope.names.lookup p.1=_;rw[v.sc];exact eq_of_beq h1) m1 m2 m3 v.px a1 a2 (λU z=>Oy Z U _ z) (λU ds z=>by rw[N5 Z U _ _ z,<-a3,hl];rfl) n2 (C2 s0) (M6 m ys es' s1)
  exact⟨q.se,q.se.st,λz=>by
   have z':Z.fr p.2.1=Ab:=z;rw[z']at q;exact q,λz=>nomatch z⟩
 |bi b as=>
  unfold A1 at h;dsimp only at h;simp only[B0]at h;rcases h with (((((h|h)|h)|h)|h)|h)|h
  .replace h:=KC h;obtain⟨g,pp,y,ys,qq,rfl,h⟩:=h;simp only[An,A5]at h;obtain⟨⟨h1,h2⟩,h3⟩:=h;obtain⟨s0,e,es',rfl,m,rfl,s1⟩:=KS h3;exact Z_4 v h1 h2 (S.es W T X _ _ v h3).2.1 s0 (M6 m _ es' s1)
  .exact X2 v h
  .exact X8 S v h
  .exact WI S v h
  .exact Wp S v h
  .exact WE S v h
  .exact Xz S v h
 |isi a ks=>
  replace h:=Ff h;obtain⟨k',rfl,h⟩:=h;replace h:=G0 h;obtain⟨g,pp,l,qq,rfl,h⟩:=h;replace h:=Gh h;obtain⟨y,t,rfl,h⟩:=h;replace h:=ER h;obtain⟨t,pt,rfl,h⟩:=h;simp only[An,A5]at h;obtain⟨⟨⟨⟨⟨rfl,h1⟩,h2⟩,h3⟩,h4⟩,h5⟩:=h;obtain⟨g1,g2,_,_⟩:=Hu v h1;obtain⟨b1,b2,b3,b4⟩:=Hu v h3;obtain⟨ty,t1,t2⟩:=Z_2 h2;exact DC (Xn t1 g1 g2 b1 b2 t2 b3 b4 (S.e W T X _ a v h5).st (C2 h4)) (λ_ _=>rfl) rfl rfl
 |idx a i=>
  replace h:=Nq h;obtain⟨y,z,p,rfl,h⟩:=h;simp only[An]at h;obtain⟨⟨h1,h2⟩,h3⟩:=h;exact DC (Xo (Uh h1) (S.e W T X _ a v h2).st (S.e W T X _ i v h3).st) (λ_ _=>rfl) rfl rfl
 |sl a lo hi=>exact absurd (show Ae=Ab from h) Aw
 |tup es=>
  replace h:=IV h;obtain⟨ys,cc,p,rfl,h⟩:=h;simp only[An,AR]at h;have q:=S.es W T X _ es v h.1;exact DC (Xk q.1 λU ds z=>by rw[Le Z U _ _ z,<-q.2.2.1];omega) (λ_ _=>rfl) rfl rfl
 |lst es=>
  replace h:=TV h;obtain⟨ys,p,rfl,h⟩:=h;simp only[An,AR]at h;have q:=S.es W T X _ es v h.1;exact OU (Wv q.1 λU ds z=>by rw[Le Z U _ _ z,<-q.2.2.1];omega) (λ_ _=>rfl) rfl
 |comp elt t it c=>
  replace h:=Oi (e:=x) (F:=_) (by unfold A1 at h;exact h)
  obtain⟨y,tg,it',ifs,scope,p,rfl,h⟩:=h;replace h:=ER h;obtain⟨w,pw,rfl,h⟩:=h;simp only[An]at h;obtain⟨⟨⟨⟨⟨h1,h2⟩,h3⟩,h4⟩,h5⟩,h6⟩:=h;refine Po v.calm ⟨_,_,_,_,_,_,_,_,_,_,_,_,_,rfl,(Ly v h3).1,S.i W T X Ae _ _ it v rfl h1,V0 t,λcl C s H fp=>Vp (v.blk h3) (λz=>A5.mpr z) h4,λcl C s H fp=>S.t _ _ _ c (v.blk h3) h5,λcl C s H fp=>(S.e W0 _ _ _ elt (v.blk h3) h6).se,Jl h2,λU=>rfl⟩ (λ_ _=>rfl)
 |compT elt ts it c=>
  replace h:=Oi (e:=x) (F:=_) (by unfold A1 at h;exact h)
  obtain⟨y,tg,it',ifs,scope,p,rfl,h⟩:=h;replace h:=IV h;obtain⟨ys,cc,pw,rfl,h⟩:=h;simp only[An]at h;obtain⟨⟨⟨⟨⟨⟨h0,h1⟩,h2⟩,h3⟩,h4⟩,h5⟩,h6⟩:=h;refine Po v.calm ⟨_,_,_,_,_,_,_,_,_,_,_,_,_,rfl,(Ly v h3).1,S.i W T X Ab _ _ it v rfl h1,XS ts,λcl C s H fp=>Vs (v.blk h3) h0 h4,λcl C s H fp=>S.t _ _ _ c (v.blk h3) h5,λcl C s H fp=>(S.e W0 _ _ _ elt (v.blk h3) h6).se,Jl h2,λU=>rfl⟩ (λ_ _=>rfl)
 |tupI it=>exact absurd (show Ae=Ab from h) Aw
 |dnew=>exact noF h
 |fld o f=>exact noF h
 |clo i a=>
  replace h:=KC h;obtain⟨g,pp,y,ys,qq,rfl,h⟩:=h;replace h:=A9 h;obtain⟨h,h5⟩:=h;replace h:=A9 h;obtain⟨h,h4⟩:=h;replace h:=A9 h;obtain⟨h,h3⟩:=h;replace h:=A9 h;obtain⟨h1,h2⟩:=h;obtain rfl:=G2 h2;exact DC (Xq (v.clo h1) (Fh v h4) (by rw[C2 h3]) (S.e W T X _ a v h5).se) (λ_ _=>rfl) rfl rfl
theorem snd : ∀ n,Snd Z CL k n
 |0=>Ug
 |n+1=>⟨YL (snd n),YM (snd n),Wr (snd n),WK (snd n),YY (snd n),YW (snd n),YZ (snd n)⟩
end
section
variable{Z:Gam}{CL:ClA}{W:XW}{k n:Af}{T:Tc}{X:Cx}
theorem Vr{t:Af}(v:VX Z CL k W T X)(hf : ∀ x,X.fn x=Ab)(h:tgC T [t] [x]=Ab):PG X (.Name x pos) (DE t):=by
 unfold tgC at h;simp only[An,A5]at h;exact Hj (by rw[v.N];exact v.nd) (by rw[v.N];exact h.1.1) (by rw[v.sc];exact Je h.1.2) (.inl (hf x))
theorem NI(v:VX Z CL k W T X)(hf : ∀ x,X.fn x=Ab) : ∀(ys:Ac Am)(ts:Ac Af)(zs:Ac Ai),DN ys=Aa zs->tgC T ts zs=Ab->PGs X ys (ts.foldr (λt u=>FG (DE t) u) FL)/\ts.length=ys.length:=by
 intro ys
 induction ys with
 |nil=>
  intro ts zs e h;cases e;cases ts with
  |nil=>exact⟨Od,rfl⟩
  |cons t ts=>cases h
 |cons y r ih=>
  intro ts zs e h;obtain⟨x,p,ws,rfl,e2,rfl⟩:=Kw e;cases ts with
  |nil=>cases h
  |cons t ts=>
   have h':(T.N[t]? == Aa x&&G8 T x&&tgC T ts ws)=Ab:=h;simp only[An,A5]at h';obtain⟨h1,h2⟩:=ih ts ws e2 h'.2;exact⟨No (Hj (by rw[v.N];exact v.nd) (by rw[v.N];exact h'.1.1) (by rw[v.sc];exact Je h'.1.2) (.inl (hf x))) h1 (by rw[KH];rfl),congrArg (· + 1) h2⟩
theorem Vq(v:VX Z CL k W T X)(hf : ∀ x,X.fn x=Ab)(hn:(DN ys).isSome=Ab)(h:tgC T ts (tgN ys)=Ab):PG X (.Tuple ys kk pos) (HI X.K ts.length (ts.foldr (λt u=>FG (DE t) u) FL)):=by
 cases e:DN ys with
 |none=>rw[e]at hn;cases hn
 |some zs=>
  have e2:tgN ys=zs:=by unfold tgN;rw[e];rfl
  rw[e2]at h;obtain⟨h1,h2⟩:=NI v hf ys ts zs e h;obtain⟨h3,h4,_⟩:=Kv (env:=X.env) ys zs e;exact LA v.calm h1 (by rw[h3,h2]) h4
theorem WF(v:VX Z CL k W T X)(hf : ∀ x,X.fn x=Ab)(hn:(DN ys).isSome=Ab)(h:tgC T ts (tgN ys)=Ab):PG X (.Tuple ys kk pos) (gSq X.K ts.length (ts.foldr (λt u=>FG (DE t) u) FL)):=by
 cases e:DN ys with
 |none=>rw[e]at hn;cases hn
 |some zs=>
  have e2:tgN ys=zs:=by unfold tgN;rw[e];rfl
  rw[e2]at h;obtain⟨h1,h2⟩:=NI v hf ys ts zs e h;obtain⟨h3,h4,_⟩:=Kv (env:=X.env) ys zs e;exact Zg v.calm h1 (by rw[h3,h2]) h4
theorem WC{e:Am}(h:(Pp e||Cz 4 ys.length)=Ab):El [.Tuple ys kk pos] e env=pure Ad:=by
 cases e with
 |Tuple vs a b=>
  have h4:=CO (show Cz 4 ys.length=Ab from h)
  have e2:(ys.length==2)=Ae:=by rw[Bs];omega
  have e3:(ys.length==3)=Ae:=by rw[Bs];omega
  unfold El;dsimp only;rw[e2,e3];rfl
 |_=>rfl
theorem M8(ts:Ac Af) : ∀ d U x,E1 ts d U ≠ .exn x:=λd U x h=>by
 unfold E1 at h;cases d with
 |tup xs=>
  dsimp only at h;cases e:DB ts xs U with
  |some r=>rw[e]at h;cases h
  |none=>rw[e]at h;cases h
 |_=>cases h
theorem Ts(ts:Ac Af) : ∀ d U x,GK ts d U ≠ .exn x:=λd U x h=>by
 unfold GK at h;split at h
 .split at h <;> cases h
 .exact M8 ts _ U x h
theorem Ue{elt:Am}{gs:Ac Gr}{pos':Az} : ∃ b,CI (.ListComp elt gs scope pos) (Aa (.Name x pos')) l env=pure b/\(b=Ab->env.scope.names.lookup x=Aa .local):=by
 refine⟨_,rfl,λh => ?_⟩
 simp only[An,A5]at h;exact h.1.1.2
theorem Ll{v0:Am}{i:Af}{e:E}(v:VX Z CL k W T X)(hf : ∀ x,X.fn x=Ab)(hi:T.N[i]? = Aa x)(hl:G8 T x=Ab)(o:OkE Z CL W X v0 e)(hfr:fr=Ab->DG Z e=Ab):SAs X CL W fr i (.Assign [.Name x p] v0 pos) (λU=>evE Z U e):=by
 have hN:X.N.Nodup:=by rw[v.N];exact v.nd
 have hi':X.N[i]? = Aa x:=by rw[v.N];exact hi
 have hx:Loc X.env.scope x:=by rw[v.sc];exact Je hl
 have sc:SC X CL W fr v0 (λU=>evE Z U e):=by
  cases fr with
  |false=>exact o.se.sc
  |true=>exact o.nw (hfr rfl)
 cases hc:Hr v0 with
 |true=>exact SC.sas hN hi' hx sc (N6 hc) (.inl (hf x))
 |false=>
  obtain⟨tg,iter,elt,ifs,scope,pos2,N',ts,fi,fc,fe,as,g,rfl,B,h2,hGG,hg,ht,he,hs,ef⟩:=o.cp hc;obtain⟨b,hb,hb'⟩:=Ue (elt:=elt) (gs:=[⟨tg,iter,ifs,0⟩]) (scope:=scope) (pos:=pos2) (pos':=p) (x:=x) (l:=pos.line) (env:=X.env);cases b with
  |false=>exact SC.sas hN hi' hx sc hb (.inl (hf x))
  |true=>
   have q:=Uo (pos2:=pos) v.calm B h2 hGG hg ht he hs hN hi' (hb' rfl) hb;have q':SAs X CL W Ab i (.Assign [.Name x p] (.ListComp elt [⟨tg,iter,ifs,0⟩] scope pos2) pos) (λU=>evE Z U e):=by
    have:(λU=>evE Z U e)=_:=funext ef
    rw[this];exact q
   cases fr with
   |true=>exact q'
   | false=>exact λA=>PS.weak (q' A) λD Y H ⟨hA,U,gd,z⟩=>⟨hA,U,gd,by
     dsimp only at z ⊢;cases e0:evE Z U e with
     |ok d=>
      rw[e0]at z;exact λv' H' s' r'=>z v' H' s' ⟨r'.1,λ_=>r'.2 rfl⟩
     |exn y=>rw[e0]at z;exact z
     | bad=>rw[e0]at z;exact z⟩
theorem NL{e t:Am}(h : ∀ x p,t ≠ .Name x p):Fd [t] e l env=pure Ae:=by
 show CI e (Aa t) l env=pure Ae;cases e <;> first|rfl|(cases t <;> first|rfl|exact absurd rfl (h _ _))
theorem M1(U:Rho)(e:E)(h : ∀ i,e ≠ .var i):evS Z U (.ret e)=O.of U (evE Z U e) λd => .ret d (DG Z e):=by
 have k : ∀ b:Ak,b=Ae->top U e (evE Z U e)=evE Z U e->(O.of U (top U e (evE Z U e)) λd => .ret d (DG Z e||b))=O.of U (evE Z U e) λd => .ret d (DG Z e):=λb hb ht=>by
  rw[hb,ht];simp only[Fa]
 rw[V6];cases e with
 |var i=>exact absurd rfl (h i)
 |_=>exact k _ rfl rfl
structure DefX (X:Cx):Prop where
 fn : ∀ x,X.fn x=Ab
 ex:X.ex=[]
 st:X.stack=X.env::X.outer
 fm:X.env.frame=Aa X.env.locals
structure SndS (Z:Gam) (CL:ClA) (k:Af) (n:Af):Prop where
 s : ∀(W:XW)(T:Tc)(X:Cx)(x:AJ)(c:S),VX Z CL k W T X->DefX X->G9 n T x c=Ab->SS X CL W x (λU=>evS Z U c)
 ss : ∀(W:XW)(T:Tc)(X:Cx)(x:Ac AJ)(c:Ss),VX Z CL k W T X->DefX X->chkSs n T x c=Ab->SSs X CL W x (λU=>evSs Z U c)
theorem VX.pw(v:VX Z CL k W T X){pI:Ac (Ag × AB)}{Xw:Ah->Al->Prop}(own:EB (model X.prog X.w) X.A X.env Xw):VX Z CL k W0 T (Cx.pw X pI Xw):=⟨v.sc,v.kd,v.N,v.nd,v.calm,v.room,v.bl,v.fn,own,OT,PH,v.xt,v.gl,v.clo⟩
theorem STB.congr{st:Ac AJ}{f g:Rho->O}(h:STB X CL st f)(e : ∀ U,g U=f U):STB X CL st g:=by
 have:g=f:=funext e;rw[this];exact h
theorem YX(Z_:SndS Z CL k n)(W:XW)(T:Tc)(X:Cx)(st:AJ)(c:S)(v:VX Z CL k W T X)(hf:DefX X)(h:G9 (n+1) T st c=Ab):SS X CL W st (λU=>evS Z U c):=by
  have E:=snd (Z:=Z) (CL:=CL) (k:=k) n;cases c with
  |pass=>exact absurd (show Ae=Ab from h) Aw
  |brk=>exact absurd (show Ae=Ab from h) Aw
  |cont=>exact absurd (show Ae=Ab from h) Aw
  |asg i fresh e=>
    replace h:=Nx h;obtain⟨x,px,v0,pos,rfl,h⟩:=h;simp only[An,A5]at h;obtain⟨⟨h1,h2⟩,h3⟩:=h;have o:=E.e W T X _ e v h3;cases fresh with
    |false=>exact OL (Ll (fr:=Ae) v hf.fn h1 h2 o (λz=>nomatch z))
    |true=>
      cases hn:DG Z e with
      |true=>
        refine SS.ref (VH (Ll (fr:=Ab) v hf.fn h1 h2 o (λ_=>hn))) λU => .inr ?_
        show O.of U (evE Z U e) (λd=>if Ab=Ab then (if DG Z e=Ab then (match d with
          |.lst xs => .next (U.set i (Aa (.lst xs,Ab)))
          |.dic xs => .next (U.set i (Aa (.dic xs,Ab)))
          | _ => .bad) else .bad) else .next (U.set i (Aa (d,Ae))))=_
        rw[hn];rfl
      |false=>
        refine SS.ref (OL (Ll (fr:=Ae) v hf.fn h1 h2 o (λz=>nomatch z))) λU => ?_
        have e0:evS Z U (.asg i Ab e)=O.of U (evE Z U e) (λd=>if Ab=Ab then (if DG Z e=Ab then (match d with
          |.lst xs => .next (U.set i (Aa (.lst xs,Ab)))
          |.dic xs => .next (U.set i (Aa (.dic xs,Ab)))
          | _ => .bad) else .bad) else .next (U.set i (Aa (d,Ae)))):=rfl
        rw[e0,hn];cases evE Z U e with
        |ok d=>exact .inl rfl
        |exn y=>exact .inr rfl
        |bad=>exact .inl rfl
  |asgT ts e=>
    replace h:=K2 h;obtain⟨t,v0,pos,rfl,h⟩:=h;replace h:=IV h;obtain⟨ys,cc,pw,rfl,h⟩:=h;simp only[An]at h;obtain⟨⟨⟨h1,h2⟩,h3⟩,h5⟩:=h;exact VG (Z_1 ts) (WF v hf.fn h1 h2) (E.e W T X _ e v h5).se (NL (λ_ _ z=>by cases z)) (WC h3) rfl (Ts ts)
  |expr e=>
    replace h:=Nv h;obtain⟨v0,pos,rfl,h⟩:=h;simp only[An]at h;exact VF (E.e W T X _ e v h.2).se (N6 h.1)
  |ret e=>
    replace h:=Nr h;obtain⟨o,pos,rfl,h⟩:=h;cases o with
    |none=>exact noF h
    |some v0=>
    replace h:A1 n T v0 e=Ab:=h;have o:=E.e W T X _ e v h;cases hv:DG Z e with
    |true=>
      refine SS.ref (VD (o.nw hv)) λU => .inr ?_
      rw[M1 U e (λi z=>by subst z;cases hv),hv]
    |false=>
      cases e with
      |var i=>
        cases n with
        |zero=>exact noF h
        |succ n=>
          replace h:=ER h;obtain⟨y,py,rfl,h⟩:=h;exact VB (Fh v h)
      |_=>
        refine SS.ref (VC o.se) λU => .inr ?_
        rw[M1 U _ (by intro i z;cases z),hv]
  |retN=>exact absurd (show Ae=Ab from h) Aw
  |ife c a b=>
    replace h:=Oj h;obtain⟨t,xs,ys,pos,rfl,h⟩:=h;simp only[An]at h;exact OW (E.b W T X _ c v h.1.1) (Z_.ss W T X _ a v hf h.1.2) (Z_.ss W T X _ b v hf h.2)
  |lnd c a b=>
    replace h:=Oj h;obtain⟨t,xs,ys,pos,rfl,h⟩:=h;simp only[An]at h;exact OW (U_3 (E.b W T X _ c v h.1.1)) (Z_.ss W T X _ a v hf h.1.2) (Z_.ss W T X _ b v hf h.2)
  |fors t it body=>
    replace h:=Nu h;obtain⟨tg,it',xs,ys,pos,rfl,h⟩:=h;replace h:=A9 h;obtain⟨hn,h⟩:=h;obtain rfl:=G2 hn;replace h:=ER h;obtain⟨y,py,rfl,h⟩:=h;simp only[An]at h;obtain⟨⟨⟨h1,h2⟩,h3⟩,h4⟩:=h;exact OK v.own v.calm (VZ t) (Vr v hf.fn h1) (E.i W T X Ae _ _ it v rfl h3) (Z_.ss W T X _ body v hf h4) (Jl h2) (λ_ _ _ z=>nomatch z)
  |forT ts it body=>
    replace h:=Nu h;obtain⟨tg,it',xs,zs,pos,rfl,h⟩:=h;replace h:=A9 h;obtain⟨hn,h⟩:=h;obtain rfl:=G2 hn;replace h:=IV h;obtain⟨ys,cc,py,rfl,h⟩:=h;simp only[An]at h;obtain⟨⟨⟨⟨h0,h1⟩,h2⟩,h3⟩,h4⟩:=h;exact OK v.own v.calm (Oq ts) (Vq v hf.fn h0 h1) (E.i W T X Ab _ _ it v rfl h3) (Z_.ss W T X _ body v hf h4) (Jl h2) (M8 ts)
  |whl c body=>exact absurd (show Ae=Ab from h) Aw
  |rais c as=>
    replace h:(!(T.rzs.any λp=>p.2==c))=Ab:=h
    cases hc:T.rzs.any (λp=>p.2==c) with
    |false=>
      have hb : ∀ ds,Z.xn c ds = .bad:=v.xt.xb c λp hp z=>by
        have:T.rzs.any (λp=>p.2==c)=Ab:=List.any_eq_true.mpr ⟨p,hp,A5.mpr z⟩
        rw[hc]at this;cases this
      intro Fz B pI s Y H D I ⟨U,x,p⟩;have p':BN X.K CL Fz B W (O.of U (noX (evA Z U as)) λxs=>O.of U (Z.xn c xs) λx => .exn x U) D:=p
      cases e1:evA Z U as with
      |bad=>rw[e1]at p';exact p'.elim
      |exn y=>rw[e1]at p';exact p'.elim
      |ok ds=>
        rw[e1]at p';have p2:BN X.K CL Fz B W (O.of U (Z.xn c ds) λx => .exn x U) D:=p'
        rw[hb ds]at p2;exact p2.elim
    |true=>rw[hc]at h;cases h
  |app i e=>
    replace h:=Nt h;obtain⟨x,px,m,ap,l,cp,pos,rfl,h2,h⟩:=h;replace h:=Ff h;obtain⟨v0,rfl,h⟩:=h;simp only[An,A5]at h;obtain⟨⟨⟨rfl,h1⟩,h3⟩,h4⟩:=h;exact Wu (Fh v h1) (E.e W T X _ e v h4).se rfl (by rw[C2 h3];rfl) (by rw[h2];exact CF _) (C2 h3) rfl
  |ext i e=>
    replace h:=Nt h;obtain⟨x,px,m,ap,l,cp,pos,rfl,h2,h⟩:=h;replace h:=Ff h;obtain⟨v0,rfl,h⟩:=h;simp only[An,A5]at h;rw[B0]at h;obtain⟨⟨⟨rfl,h1⟩,h3⟩,h5⟩:=h;rcases h5 with h5|h5
    · rw[An]at h5;obtain⟨h5,h4⟩:=h5;exact Wt (Fh v h1) ((E.e W T X _ e v h4).nw (Wl Z h5)) rfl (by rw[C2 h3];rfl) (by rw[h2];exact CF _) (C2 h3) rfl
    · cases q:JJ e with
      |none=>rw[q]at h5;cases h5
      |some a=>
        rw[q]at h5;have eq:=UP q;subst eq;have fe:(λU=>evS Z U (.ext i (.bi .list (.cons (.bin .Add a (.tup .nil)) .nil))))=λU=>O.of U (Ci U i) λxs=>O.of U (top U a (evE Z U a)) λx=>O.of U ((Cj .Add x (.tup [])).bind λy=>biD .list [y]) λd=>O.of U (Hx d) λys=>if CD (xs.length+ys.length)=Ab then .next (U.set i (Aa (.lst (xs++ys),Ab))) else .bad:=funext λU=>by
          rw[V7];have e2:evE Z U (.bi .list (.cons (.bin .Add a (.tup .nil)) .nil))=(top U a (evE Z U a)).bind λx=>(Cj .Add x (.tup [])).bind λy=>biD .list [y]:=by
            simp only[Lw,evB,VL,Vn,UF,V8,evA,R.bind_ok,R.bind_assoc]
          rw[e2];cases Ci U i with
          |ok xs=>
            rw[O.of_ok,O.of_ok];cases top U a (evE Z U a) <;> rfl
          |exn z=>rfl
          |bad=>rfl
        show SS X CL W _ (λU=>evS Z U (.ext i (.bi .list (.cons (.bin .Add a (.tup .nil)) .nil))))
        rw[fe];exact VE (Fh v h1) (E.e W T X _ a v h5).st rfl (by rw[C2 h3];rfl) (by rw[h2];exact CF _) (C2 h3) rfl
  |rev i=>exact absurd (show Ae=Ab from h) Aw
  |clr i=>exact absurd (show Ae=Ab from h) Aw
  |put i k e=>
    replace h:=K2 h;obtain⟨t,v0,pos,rfl,h⟩:=h;replace h:=Nq h;obtain⟨o,y,sp,rfl,h⟩:=h;replace h:=ER h;obtain⟨x,p,rfl,h⟩:=h;simp only[An]at h;obtain⟨⟨⟨h1,h2⟩,h4⟩,h5⟩:=h;exact Ws (Fh v h1) (E.e W T X _ k v h4).st (E.e W T X _ e v h5).se (λw=>by cases y <;> first|rfl|cases h2) (NL (λ_ _ z=>by cases z)) rfl rfl
  |tryx body c x hh=>exact absurd (show Ae=Ab from h) Aw
  |try2 body c x hd c' hd' els=>exact absurd (show Ae=Ab from h) Aw
  |swp i k l=>exact absurd (show Ae=Ab from h) Aw
  |apop j i e=>exact absurd (show Ae=Ab from h) Aw
  |ins i k e=>exact absurd (show Ae=Ab from h) Aw
  |dput=>exact noF h
  |dsd=>exact noF h
  |rel=>exact noF h
theorem UO{c:Ss}(h:JY c=Ab)(U:Rho):evSs Z U c = .bad:=by
 cases c with
 |nil=>cases h
 |cons s ss=>
  cases s with
  |expr e=>
   cases e with
   |bi b as=>
    cases as with
    |nil=>
     cases b with
     |len=>rfl
     |_=>exact noF h
    |cons=>cases b <;> exact noF h
   |_=>exact noF h
  |_=>exact noF h
theorem WJ(Z_:SndS Z CL k n)(W:XW)(T:Tc)(X:Cx)(xs:Ac AJ)(c:Ss)(v:VX Z CL k W T X)(hf:DefX X)(h:chkSs (n+1) T xs c=Ab):SSs X CL W xs (λU=>evSs Z U c):=by
 by_cases hb:JY c=Ab
 .exact λFz B pI s Y H D I ⟨U,x,p⟩=>by
   dsimp only at p;rw[UO hb]at p;exact p.elim
 have hb:JY c=Ae:=by simpa using hb
 cases c with
 |nil=>
  simp only[chkSs,hb,Fa,List.isEmpty_iff]at h;subst h;exact VA
 |cons s ss=>
  by_cases hr : ∃ i,s = .rel i
  .obtain⟨i,rfl⟩:=hr;simp only[chkSs,hb,Fa]at h;exact Vz i (Z_.ss W T X xs ss v hf h)
  .cases xs with
   |nil=>cases s <;> first|(simp[chkSs,hb]at h;done)|exact absurd ⟨_,rfl⟩ hr
   |cons st r=>
    have h':G9 n T st s=Ab/\chkSs n T r ss=Ab:=by
     cases s <;> first|(simp only[chkSs,hb,Fa,An]at h;exact h)|exact absurd ⟨_,rfl⟩ hr
    exact Uf (Z_.s W T X st s v hf h'.1) (Z_.ss W T X r ss v hf h'.2)
theorem G6 : ∀ n,SndS Z CL k n
 |0=>⟨λ_ _ _ _ _ _ _ h=>noF h,λ_ _ _ _ _ _ _ h=>noF h⟩
 |n+1=>⟨YX (G6 n),WJ (G6 n)⟩
end
theorem HX{n:Af}{ds:Ac D}{i:Af}{o:Ak}(h:(CM n ds)[i]? = Aa (Aa (d,o))):o=Ae/\ds[i]? = Aa d:=by
 unfold CM at h;by_cases hi:i<ds.length
 .rw[DR (by simpa using hi),CZ]at h
  cases e:ds[i]? with
  |none=>rw[e]at h;cases h
  |some x=>rw[e]at h;cases h;exact⟨rfl,rfl⟩
 .rw[QN (by simpa using Nat.le_of_not_lt hi),QO]at h
  split at h <;> cases h
theorem S8{N:Ac Ai}{i:Af}(h:vs[i]? = Aa v):(L2.start N vs)[i]? = Aa (Aa v):=by
 unfold L2.start;have hi:=(AT.mp h).1;rw[DR (by simpa using hi),CZ,h]
 rfl
theorem Nk{A:Ag->Prop}{N:Ac Ai}{n:Af}{ds:Ac D}(hn:N.length=n)(hA:AOk H A)(r:Reps K CL H A vs ds):Sx K CL (λb o=>H b=Aa o) A (CM n ds) (L2.start N vs) H:=by
 have own : ∀ a,BO A (CM n ds) (L2.start N vs) a->A a:=λa h=>by
  rcases h with h|⟨j,d,h,_⟩
  .exact h
  .exact absurd (HX h).1 (by decide)
 have hlen:(CM n ds).length=(L2.start N vs).length:=by
  unfold CM L2.start;simp only[BP,Cb,QP,r.length,hn]
 refine⟨⟨λi d h => ?_,λi d h=>absurd (HX h).1 (by decide),hlen⟩,λa h=>hA a (own a h),λj d a h _=>absurd (HX h).1 (by decide),λi j d e a h _ _ _=>absurd (HX h).1 (by decide),λb o h=>h,hlen⟩
 obtain⟨v,h1,h2⟩:=r.get (HX h).2;exact⟨v,S8 h1,Rep.sub own _ h2⟩
structure FunX (K:Fg) (x qual:Ai) (st:AJ) (f:Ag) (fd:Bh):Prop where
 ex : ∃(oc:Ah)(od:Ao Ag)(dV kV doc pm:Ah)(an:Ao Ag)(cdv ct:Ah)(osl:AW (Ao Ah)),
  fd=Bp x qual (Er st) (C9 st) (Ba st) dV kV doc pm an cdv ct/\K.lookup f=Aa ⟨oc,od,.func fd,osl⟩/\C4 K cdv qual=Ab
 kp:BK K (.ref f)=Ab
theorem Ph{st:AJ}{f:Ag}(F:Fun K x qual st f fd):FunX K x qual st f fd:=by
 obtain⟨oc,od,kV,doc,pm,an,cdv,ct,osl,e,lk,hcd⟩:=F.ex;exact⟨⟨oc,od,.none,kV,doc,pm,an,cdv,ct,osl,e,lk,hcd⟩,F.kp⟩
noncomputable def IE(K:Fg)(mg:Ai->Ao Ah)(fns:Ac (Ai × Af × Af))(bl:Ac Ai)(rzs exs gls:Ac (Ai × Af))(Pg:Prg)(fuel:Af)(p:Ai × Af × Af):Prop := ∃ f fd ps qual st N,mg p.1=Aa (.ref f)/\FunX K p.1 qual st f fd/\E3 K fd ps []/\ps.length=p.2.2%1000/\F1 fuel (Cz 1000 p.2.2) fns bl rzs exs gls ps N st (Pg.defs p.2.1)=Ab
structure Tab (K:Fg) (mg:Ai->Ao Ah) (CL:ClA) (fns:Ac (Ai × Af × Af)) (bl:Ac Ai) (rzs exs gls:Ac (Ai × Af)) (Pg:Prg) (fuel:Af):Prop where
 xt:XT Pg.up Pg.xn CL rzs exs K mg
 bln : ∀ x,x∈bl->mg x=Ad
 gl : ∀ p∈gls,JS K mg CL p.1 (Pg.G p.2)
 fn : ∀ p∈fns,IE K mg fns bl rzs exs gls Pg fuel p
theorem XU(Pg:Prg)(n i:Af):(gam Pg n).fr i=(Pg.defs i).fr:=by cases n <;> rfl
theorem Ou(Pg:Prg)(n:Af):(gam Pg n).up=Pg.up:=by cases n <;> rfl
theorem Pf(Pg:Prg)(n:Af):(gam Pg n).G=Pg.G:=by cases n <;> rfl
theorem Ot(Pg:Prg)(n:Af):(gam Pg n).xn=Pg.xn:=by cases n <;> rfl
section
variable{P:Ay}{w:AH}{K:Fg}{mg:Ai->Ao Ah}{base:As}{CL:ClA}{fns:Ac (Ai × Af × Af)}{bl:Ac Ai}{rzs exs gls:Ac (Ai × Af)}{Pg:Prg}{fuel:Af}
noncomputable def Lvl(P:Ay)(w:AH)(K:Fg)(mg:Ai->Ao Ah)(base:As)(CL:ClA)(Pg:Prg)(n:Af)(p:Ai × Af × Af):Prop := ∃ f fd ps,mg p.1=Aa (.ref f)/\BK K (.ref f)=Ab/\E3 K fd ps []/\ps.length=p.2.2%1000/\(p.2.2<1000->FnOk P w K mg base (CXR P w) n f fd ps (spD K CL (p.2.2%1000) ((gam Pg n).fr p.2.1) ((gam Pg n).F p.2.1)))/\(1000<=p.2.2->HotOk P w K mg base n f fd ps (spH K CL (p.2.2%1000) ((gam Pg n).fr p.2.1) ((gam Pg n).F p.2.1)))
theorem XZ(t:Tab K mg CL fns bl rzs exs gls Pg fuel){n:Af}(hlv : ∀ q∈fns,Lvl P w K mg base CL Pg n q){st:AJ}{f:Ag}{ps N:Ac Ai}(h2:FunX K x qual st f fd)(h4:ps.length=m)(h5:F1 fuel Ae fns bl rzs exs gls ps N st (Pg.defs id)=Ab):FnOk P w K mg base (CXR P w) (n+1) f fd ps (spD K CL m ((gam Pg (n+1)).fr id) ((gam Pg (n+1)).F id)):=by
  unfold F1 at h5;simp only[An,A5,Bv,Bg,B0,Gq,ne_eq]at h5;obtain⟨⟨⟨⟨⟨⟨⟨⟨c1,c2⟩,c3⟩,c4⟩,c5⟩,c6⟩,c7⟩,c8⟩,c9⟩:=h5;obtain⟨oc,od,dV,kV,doc,pm,an,cdv,ct,osl,rfl,lk,hcd⟩:=h2.ex;refine LL (N:=N) lk hcd ⟨c1,c2,c3,FW c4,c5,c6,c7⟩ (λvs H Q E ⟨ds,A,z,_⟩=>z.trans h4.symm) λA outer s H vs Q E hr ⟨ds,B,hl,hA,hreps,hpost⟩ => ?_
  have xt:XT (gam Pg n).up (gam Pg n).xn CL rzs exs K mg:=by rw[Ou,Ot];exact t.xt
  have gl : ∀ p∈gls,JS K mg CL p.1 ((gam Pg n).G p.2):=by rw[Pf];exact t.gl
  have key : ∀ W:XW,(∀ x cls dx H',W x H'->Fj K CL H' cls dx x->E cls dx H')->BN K CL (λb o=>H b=Aa o) B W (evSs (gam Pg n) (CM (Pg.defs id).n ds) (Pg.defs id).body) {nx:=λ_ H'=>Q .non H',rt:=Q} ->
      ∃ t,PSs (DH (CXR P w) P w K mg base N qual (Ba st) f cdv A outer s H E) (C9 st) t/\t {nx:=λ_ H'=>Q .non H',rt:=Q} (start N vs) H:=λW hW hp=>by
    have v:VX (gam Pg n) CL n W ⟨Ba st,N,fns,bl,rzs,exs,gls,Ae⟩ (DH (CXR P w) P w K mg base N qual (Ba st) f cdv A outer s H E):=⟨rfl,c1,rfl,FW c4,rfl,hr,t.bln,hlv,ownR,O6 hW,rzR hW,xt,gl,λz=>nomatch z⟩
    exact⟨_,(G6 fuel).ss W _ _ _ (Pg.defs id).body v ⟨λ_=>rfl,rfl,rfl,rfl⟩ c9 (λb o=>H b=Aa o) B,_,Nk c8 hA hreps,hp⟩
  have no : ∀ x cls dx H',W0 x H'->Fj K CL H' cls dx x->E cls dx H':=λ_ _ _ _ z=>z.elim
  have e:(gam Pg (n+1)).F id ds=Fl Pg.xs ((evSs (gam Pg n) (CM (Pg.defs id).n ds) (Pg.defs id).body).ans (Pg.defs id).fr):=rfl;rw[e,XU]at hpost;have cutO : ∀ r:R D,(∀ x,r ≠ .exn x)->Fl Pg.xs r=r:=λr hr=>by
    cases Pg.xs <;> cases r <;> first|rfl|exact absurd rfl (hr _)
  cases eo:evSs (gam Pg n) (CM (Pg.defs id).n ds) (Pg.defs id).body with
  |next U'=>
    refine key W0 no ?_;rw[eo]at hpost ⊢;cases ef:(Pg.defs id).fr with
    |true=>rw[ef]at hpost;rw[cutO _ (by intro x z;cases z)]at hpost;exact hpost.elim
    |false=>
      rw[ef]at hpost;rw[cutO _ (by intro x z;cases z)]at hpost
      exact λY' H' x'=>hpost .non H' (λb o z=>x'.same b o z) ⟨rfl,λz=>nomatch z⟩
  |ret d b=>
    refine key W0 no ?_;rw[eo]at hpost ⊢;intro v H' sm rp fr;have hp2:(match Fl Pg.xs (if ((Pg.defs id).fr&&(!b&&isL d))=Ab then R.bad else R.ok d) with
      |.ok d => ∀ v H',Ax H H'->Dx K CL (Pg.defs id).fr H B H' v d->Q v H'
      |.exn x => ∀ cls dx H',Ax H H'->Fj K CL H' cls dx x->E cls dx H'
      | .bad=>AV):=hpost
    cases ec:((Pg.defs id).fr&&(!b&&isL d)) with
    |true=>rw[ec,AD rfl,cutO _ (by intro x z;cases z)]at hp2;exact hp2.elim
    |false=>
      rw[ec,AL (by decide),cutO _ (by intro x z;cases z)]at hp2
      refine hp2 v H' sm ⟨rp,λefr es hd => ?_⟩
      subst hd;have eb:b=Ab:=by
        cases b with
        |true=>rfl
        |false=>rw[efr]at ec;cases ec
      obtain⟨a,xs,h1,h2,h3,h4⟩:=fr eb es rfl;refine⟨a,xs,h1,?_,h3,h4⟩;cases ha:H a with
      |none=>rfl
      |some o=>exact absurd ha (h2 o)
  |brk U'=>rw[eo]at hpost;have hp2:(match Fl Pg.xs (R.bad:R D) with | .ok _=>_ | .exn _=>_ | .bad=>AV):=hpost;rw[cutO _ (by intro x z;cases z)]at hp2;exact hp2.elim
  |cont U'=>rw[eo]at hpost;have hp2:(match Fl Pg.xs (R.bad:R D) with | .ok _=>_ | .exn _=>_ | .bad=>AV):=hpost;rw[cutO _ (by intro x z;cases z)]at hp2;exact hp2.elim
  |bad=>rw[eo]at hpost;have hp2:(match Fl Pg.xs (R.bad:R D) with | .ok _=>_ | .exn _=>_ | .bad=>AV):=hpost;rw[cutO _ (by intro x z;cases z)]at hp2;exact hp2.elim
  |exn x U'=>
    rw[eo]at hpost;have hp2:(match Fl Pg.xs (R.exn x:R D) with
      |.ok d => ∀ v H',Ax H H'->Dx K CL (Pg.defs id).fr H B H' v d->Q v H'
      |.exn x => ∀ cls dx H',Ax H H'->Fj K CL H' cls dx x->E cls dx H'
      | .bad=>AV):=hpost
    cases ex:Pg.xs with
    |false=>rw[ex]at hp2;exact hp2.elim
    |true=>
      rw[ex]at hp2;have hp3 : ∀ cls dx H',Ax H H'->Fj K CL H' cls dx x->E cls dx H':=hp2;refine key (λy H'=>y=x/\Ax H H') (λy cls dx H' ⟨e1,sm⟩ xr => ?_) ?_
      · subst e1;exact hp3 cls dx H' sm xr
      · rw[eo];exact λH' sm=>⟨rfl,sm⟩
theorem XQ(t:Tab K mg CL fns bl rzs exs gls Pg fuel){n:Af}(hlv : ∀ q∈fns,Lvl P w K mg base CL Pg n q){st:AJ}{f:Ag}{ps N:Ac Ai}(h2:FunX K x qual st f fd)(h4:ps.length=m)(h5:F1 fuel Ab fns bl rzs exs gls ps N st (Pg.defs id)=Ab):HotOk P w K mg base (n+1) f fd ps (spH K CL m ((gam Pg (n+1)).fr id) ((gam Pg (n+1)).F id)):=by
 exfalso
 unfold F1 at h5;simp[PB]at h5
theorem Lq(t:Tab K mg CL fns bl rzs exs gls Pg fuel) : ∀ n,∀ p∈fns,Lvl P w K mg base CL Pg n p
 |0,p,hp=>by
  obtain⟨f,fd,ps,qual,st,N,h1,h2,h3,h4,h5⟩:=t.fn p hp;exact⟨f,fd,ps,h1,h2.kp,h3,h4,λ_=>⟨λvs H Q E ⟨ds,A,_,_,_,z⟩=>z.elim,λA outer s H args us vs Q E _ _ _ _ ⟨ds,A,_,_,_,z⟩=>z.elim⟩,λ_=>⟨λvs H Q E ⟨ds,A,_,_,_,z⟩=>z.elim,λA ev outer s H args us vs Q E _ _ _ _ ⟨ds,A,_,_,_,z⟩=>z.elim⟩⟩
 |n+1,p,hp=>by
  obtain⟨f,fd,ps,qual,st,N,h1,h2,h3,h4,h5⟩:=t.fn p hp;refine⟨f,fd,ps,h1,h2.kp,h3,h4,λhlt => ?_,λhge => ?_⟩
  .have eb:Cz 1000 p.2.2=Ae:=by
    cases e:Cz 1000 p.2.2 with
    |false=>rfl
    |true=>exact absurd (CO e) (by omega)
   rw[eb]at h5;exact XZ t (λq hq=>Lq t n q hq) h2 h4 h5
  .rw[Nat.ble_eq_true_of_le hge]at h5;exact XQ t (λq hq=>Lq t n q hq) h2 h4 h5
theorem X0{s s':Al}{e:Ah}(h:CXR P w [] H s (λ_ _ _=>AV) e s'):AV:=by
 obtain⟨_,_,_,_,_,_,_,_,_,_,_,_,_,_,_,z⟩:=h;exact z
noncomputable def PU:AJ->Ao (Am × Az)
 |.Expr e p=>Aa (e,p)
 |_=>Ad
theorem Uy{e:AJ}{t:Am × Az}(h:PU e=Aa t):e = .Expr t.1 t.2:=by
 cases e with
 |Expr x p=>cases h;rfl
 |_=>exact nomatch (show Ad=Aa t from h)
noncomputable def PY:AJ->Ao (Am × Am × Az)
  | .Assign ts v p=>(match ts with
    |[t]=>Aa (t,v,p)
    | _=>Ad)
  |_=>Ad
theorem UB{e:AJ}{t:Am × Am × Az}(h:PY e=Aa t):e = .Assign [t.1] t.2.1 t.2.2:=by
 cases e with
 |Assign ts v p=>
  cases ts with
  |nil=>exact nomatch (show Ad=Aa t from h)
  |cons a ts=>
   cases ts with
   |nil=>cases h;rfl
   |cons=>exact nomatch (show Ad=Aa t from h)
 |_=>exact nomatch (show Ad=Aa t from h)
noncomputable def L4:Am->Ao (Am × Ai × Az)
 |.Attribute e x p=>Aa (e,x,p)
 |_=>Ad
theorem NE{e:Am}{t:Am × Ai × Az}(h:L4 e=Aa t):e = .Attribute t.1 t.2.1 t.2.2:=by
 cases e with
 |Attribute e x p=>cases h;rfl
 |_=>exact nomatch (show Ad=Aa t from h)
noncomputable def P8:Am->Ao (Ac Am × Az)
 |.JoinedStr l p=>Aa (l,p)
 |_=>Ad
theorem UJ{e:Am}{t:Ac Am × Az}(h:P8 e=Aa t):e = .JoinedStr t.1 t.2:=by
 cases e with
 |JoinedStr l p=>cases h;rfl
 |_=>exact nomatch (show Ad=Aa t from h)
noncomputable def PR:Am->Ao (Am × Aj × Az)
  | .FormattedValue e n f p=>(match f with
    |none=>Aa (e,n,p)
    | _=>Ad)
  |_=>Ad
theorem Ux{e:Am}{t:Am × Aj × Az}(h:PR e=Aa t):e = .FormattedValue t.1 t.2.1 Ad t.2.2:=by
 cases e with
 |FormattedValue e n f p=>
  cases f with
  |none=>cases h;rfl
  |some=>exact nomatch (show Ad=Aa t from h)
 |_=>exact nomatch (show Ad=Aa t from h)
noncomputable def PV:Am->Ao (Ai × Af × Az)
  | .Constant c k p=>(match c with
    |.str z=>Aa (z,k,p)
    | _=>Ad)
  |_=>Ad
theorem Uz{e:Am}{t:Ai × Af × Az}(h:PV e=Aa t):e = .Constant (.str t.1) t.2.1 t.2.2:=by
 cases e with
 |Constant c k p=>
  cases c with
  |str z=>cases h;rfl
  |_=>exact nomatch (show Ad=Aa t from h)
 |_=>exact nomatch (show Ad=Aa t from h)
noncomputable def Qu(g par f:Ai)(b:Ac AJ):Ao Gf:=(JQ b).bind λs=>(PU s.1).bind λc=>(PX c.1).bind λcl=>(L4 cl.1).bind λat1=>(HE at1.1).bind λg1=>(JQ cl.2.1).bind λab=>(HE ab.1).bind λs1=>(P8 ab.2).bind λj=>(JQ j.1).bind λfk=>(PR fk.1).bind λfm=>(HE fm.1).bind λq1=>(PV fk.2).bind λz=>(PY s.2).bind λt=>(L4 t.1).bind λat2=>(HE at2.1).bind λs2=>(HE t.2.1).bind λq2=>
 if (g1.1==g&&(at1.2.1==("__init__" : Ai)&&(s1.1==("self" : Ai)&&(q1.1==par&&(decide (fm.2.1 = -1)&&(s2.1==("self" : Ai)&&(at2.2.1==f&&(q2.1==par&&(at1.2.2.endLine==cl.2.2.line&&Cz z.1.length 1000)))))))))=Ab then Aa () else Ad
noncomputable def Qv(g par f:Ai)(b:Ac AJ):Ak:=(Qu g par f b).isSome
theorem VY{g par f:Ai}{b:Ac AJ}(h:Qv g par f b=Ab) : ∃ z k np apos p1 p2 p3 p4 p5 cpos p6 p7 p8 p9 p10,b=Qw g par f z k np apos p1 p2 p3 p4 p5 cpos p6 p7 p8 p9 p10/\(apos.endLine==cpos.line)=Ab/\z.length<=1000:=by
 obtain⟨_,h⟩:=DV.mp (show (Qu g par f b).isSome=Ab from h)
 obtain⟨s,e1,h⟩:=AO.mp h;obtain⟨c,e2,h⟩:=AO.mp h;obtain⟨cl,e3,h⟩:=AO.mp h;obtain⟨at1,e4,h⟩:=AO.mp h;obtain⟨g1,e5,h⟩:=AO.mp h;obtain⟨ab,e6,h⟩:=AO.mp h;obtain⟨s1,e7,h⟩:=AO.mp h;obtain⟨j,e8,h⟩:=AO.mp h;obtain⟨fk,e9,h⟩:=AO.mp h;obtain⟨fm,f1,h⟩:=AO.mp h;obtain⟨q1,f2,h⟩:=AO.mp h;obtain⟨z,f3,h⟩:=AO.mp h;obtain⟨t,f4,h⟩:=AO.mp h;obtain⟨at2,f5,h⟩:=AO.mp h;obtain⟨s2,f6,h⟩:=AO.mp h;obtain⟨q2,f7,h⟩:=AO.mp h;split at h
 .rename_i hc;simp only[An,A5,AR]at hc;obtain⟨c1,c2,c3,c4,c5,c6,c7,c8,h1,h2⟩:=hc;rw[K6 e1,Uy e2,UA e3,NE e4,Ii e5,K6 e6,Ii e7,UJ e8,K6 e9,Ux f1,Ii f2,Uz f3,UB f4,NE f5,Ii f6,Ii f7,c1,c2,c3,c4,c5,c6,c7,c8];exact⟨_,_,_,_,_,_,_,_,_,_,_,_,_,_,_,rfl,by rw[A5];exact h1,CO h2⟩
 .cases h
noncomputable def Mg(g par f:Ai)(st:AJ):Ak:=
 (Ba st).kind==.function&&((Ba st).isCoroutine==Ae&&((Ba st).isGenerator==Ae&&(Gm ["self",par]&&((Ba st).names.lookup ("self" : Ai)==Aa .local&&((Ba st).names.lookup par==Aa .local&&(((Ba st).names.all λy=>y.2 != .free) &&
  ((Ba st).names.lookup g==Aa .globalImplicit&&(g != ("__debug__" : Ai)&&(par != ("__debug__" : Ai)&&(par != ("__classdict__" : Ai)&&Qv g par f (C9 st)))))))))))
noncomputable def InI(K:Fg)(f:Ag)(qual:Ai)(st:AJ):Prop := ∃ fd,Fun K "__init__" qual st f fd
theorem Wy{fI OV:Ag}{g par f qual:Ai}{st:AJ}(a:InI K fI qual st)(hk:Mg g par f st=Ab)(hb : ∀(u0 u1 kV doc pm:Ah)(an:Ao Ag)(cdv ct:Ah),FC (Bp "__init__" qual (Er st) (C9 st) (Ba st) .none kV doc pm an cdv ct) ⟨[u0,u1],[]⟩=pure ((["self",par]:Ac Ai).zip [u0,u1]))(xc:Go K C (Aa (.ref fI))=Ab)(dc:G5 K C=Ab)(ty:F5 K (.ref fI)=Aa (.type "function"))(mo:mg g=Aa (.ref OV))(s1:Fp K (.ref OV) "__getattribute__" = Aa (Aa (.builtin "type.__getattribute__")))(s2:FP K OV (.type "type")=Ab)(s3:FO K (.ref OV) (.type "type") "__init__" = Aa (.val (.builtin "ValueError.__init__")))(hf:Bb K (.ref C) f=Aa Ad)(hs:Bb K (.ref C) "__setattr__" = Aa (Aa (.builtin "object.__setattr__"))):XIn K mg C f:=by
 obtain⟨fd,fn⟩:=a;unfold Mg at hk;simp only[An,A5,Bg,Gq,ne_eq]at hk;obtain⟨c1,c2,c3,c4,c5,c6,c7,c8,c9,c10,c11,c12⟩:=hk;obtain⟨z,k,np,apos,p1,p2,p3,p4,p5,cpos,p6,p7,p8,p9,p10,eb,hl,hz⟩:=VY c12;exact .mk xc dc fn ty ⟨c1,c2,c3,FW c4,rfl,λx hx=>by
  rcases AK.mp hx with rfl|hx
  .exact .inl c5
  .rw[A6.mp hx];exact .inl c6,c7⟩ c5 c6 (fn.binds λkV doc pm an cdv ct us hu=>match us,hu with | [u0,u1],_=>hb u0 u1 kV doc pm an cdv ct) eb c8 mo (by simpa using c9) (by simpa using c10) (by simpa using c11) s1 s2 s3 hl hz hf hs
theorem Y_6(h : ∀ ds,xn c ds = .bad\/xn c ds = .ok ⟨c,[]⟩)(e:Go K C Ad=Ab)(ds:Ac D):xn c ds = .bad\/(xn c ds = .ok ⟨c,[]⟩/\Go K C Ad=Ab) \/ ∃ f,XIn K mg C f/\JL xn c f ds:=(h ds).imp id λz => .inl ⟨z,e⟩
theorem Y_5{f:Ai}(h : ∀ ds,xn c ds=mkX c f ds)(x:XIn K mg C f)(ds:Ac D):xn c ds = .bad\/(xn c ds = .ok ⟨c,[]⟩/\Go K C Ad=Ab) \/ ∃ f,XIn K mg C f/\JL xn c f ds:=by
  have e:=h ds
  match ds,e with
  |[],e=>exact .inl e
  |_::_::_,e=>exact .inl e
  |[d],e=>
    have e':xn c [d]=if (xfD 1 d||xfD 2 d)=Ab then .ok ⟨c,[(f,d)]⟩ else .bad:=e
    by_cases z:(xfD 1 d||xfD 2 d)=Ab
    · rw[AD z]at e';refine .inr (.inr ⟨f,x,d,?_⟩);rw[B0]at z;rcases z with z|z
      · exact⟨0,rfl,z,by decide,e'⟩
      · exact⟨1,rfl,z,by decide,e'⟩
    · rw[AL z]at e';exact .inl e'
theorem Ps(dc:G5 K C=Ab)(h1:Bb K (.ref C) "triple" = Aa Ad)(h2:Bb K (.ref C) "points" = Aa Ad)(f:Ai)(h:(f==("triple" : Ai)||f==("points" : Ai))=Ab):G5 K C=Ab/\Bb K (.ref C) f=Aa Ad:=by
 rw[B0]at h;rcases h with h|h
 .rw[eq_of_beq h];exact⟨dc,h1⟩
 .rw[eq_of_beq h];exact⟨dc,h2⟩
theorem UI{up:Af->Ac Af}(h : ∀ c ds,xn c ds = .bad):XT up xn (λ_=>Ad) [] [] K mg:=⟨λ_ _ z=>(nomatch z),λ_ z=>(nomatch z),λ_ z=>(nomatch z),λc _ ds z => .inl (h c ds),λ_ _ z=>(nomatch z),λc _ ds=>h c ds⟩
structure XA (K:Fg) (c:Ai) (x:Ag) (i:Ao Ah):Prop where
 n:Bj K AF c=Aa (Aa (.ref x))
 y:Go K x i=Ab
 dc:G5 K x=Ab
 ft:Bb K (.ref x) "triple" = Aa Ad
 fp:Bb K (.ref x) "points" = Aa Ad
 ok:XcOk K x
structure XB (K:Fg) (c:Ai) (x i:Ag) (q:Ai) (st:AJ):Prop where
 fi:Bb K (.ref x) "__init__" = Aa (Aa (.ref i))
 a:XA K c x (Aa (.ref i))
 ii:InI K i q st
 ti:F5 K (.ref i)=Aa (.type "function")
 sn:Bb K (.ref x) "__setattr__" = Aa (Aa (.builtin "object.__setattr__"))
structure XO (K:Fg) (x:Ag):Prop where
 sa:Fp K (.ref x) "__getattribute__" = Aa (Aa (.builtin "type.__getattribute__"))
 sb:FP K x (.type "type")=Ab
 sc:FO K (.ref x) (.type "type") "__init__" = Aa (.val (.builtin "ValueError.__init__"))
structure XR (K:Fg) (mg:Ai->Ao Ah) (xn:Af->Ac D->R Ex) (p:Af × Ag):Prop where
 ok:XcOk K p.2
 nf : ∀ f:Ai,(f==("triple" : Ai)||f==("points" : Ai))=Ab->G5 K p.2=Ab/\Bb K (.ref p.2) f=Aa Ad
 md : ∀ ds,xn p.1 ds = .bad\/(xn p.1 ds = .ok ⟨p.1,[]⟩/\Go K p.2 Ad=Ab) \/ ∃ f,XIn K mg p.2 f/\JL xn p.1 f ds
theorem XA.row{c:Ai}{x:Ag}(a:XA K c x Ad)(h : ∀ ds,xn k ds = .bad\/xn k ds = .ok ⟨k,[]⟩):XR K mg xn (k,x):=⟨a.ok,Ps a.dc a.ft a.fp,Y_6 h a.y⟩
theorem XB.row{c q:Ai}{x i o:Ag}{st:AJ}{g par f:Ai}(X:K.In h)(G:h.Ns AF mg)(b:XB K c x i q st)(w:XO K o)(no:Bj K AF g=Aa (Aa (.ref o)))(hf:f = "triple" \/ f = "points")(hk:Mg g par f st=Ab)(hb : ∀(u0 u1 kV doc pm:Ah)(an:Ao Ag)(cdv ct:Ah),FC (Bp "__init__" q (Er st) (C9 st) (Ba st) .none kV doc pm an cdv ct) ⟨[u0,u1],[]⟩=pure ((["self",par]:Ac Ai).zip [u0,u1]))(hx : ∀ ds,xn k ds=mkX k f ds):XR K mg xn (k,x):=
 ⟨b.a.ok,Ps b.a.dc b.a.ft b.a.fp,Y_5 hx (Wy b.ii hk hb b.a.y b.a.dc b.ti (Ek X G no) w.sa w.sb w.sc (by rcases hf with rfl|rfl;exact b.a.ft;exact b.a.fp) b.sn)⟩
noncomputable def ZT(K:Fg):Sp:=λvs H Q _ => ∃(a:Ag)(ns:Ac Aj),vs=[.ref a]/\ns.length<=63/\SqL K H a (ns.map V.int) /\ ∀ v H',v=V.bl Ab->Q v H'
theorem law_fn{f:Ag}{ps:Ac Ai}{F:Ac D->R D}(G:FnOk P w K mg base CX k f fd ps (spD K CL 1 Ae F))(h : ∀ ns:Ac Aj,F [.lst (ns.map .int)] = .ok (.bl Ab)):FnOk P w K mg base CX k f fd ps (ZT K):=G.imp λvs H Q E ⟨a,ns,e,hl,hS,q⟩=>by
 subst e;have rs : ∀ l:Ac Aj,Reps K CL H A0 (l.map V.int) (l.map D.int):=λl=>by
  induction l with
  |nil=>trivial
  |cons x l ih=>exact⟨rfl,ih⟩
 refine⟨[.lst (ns.map .int)],A0,rfl,λ_ z=>z.elim,⟨⟨a,_,rfl,.inl (λz=>z),hS,rs ns⟩,trivial⟩,?_⟩
 rw[h ns];exact λv H' _ r=>q v H' r.1
theorem Lh{Q:α->Prop} : ∀ x∈([]:Ac α),Q x:=λ_ h=>nomatch h
theorem all_cons{Q:α->Prop}{a:α}{l:Ac α}(h1:Q a)(h2 : ∀ x∈l,Q x) : ∀ x∈a::l,Q x:=List.forall_mem_cons.2 ⟨h1,h2⟩
noncomputable def FnI(K:Fg)(f:Ag)(n:Ai)(st:AJ):Prop := ∃ fd,Fun K n n st f fd/\Bj K AF n=Aa (Aa (.ref f))
theorem fni{n:Ai}{st:AJ}{f:Ag}{od an:Ao Ag}{kV doc pm cdv ct:Ah}(a:Bj K AF n=Aa (Aa (.ref f)))(l:K.lookup f=Aa ⟨oc,od,.func (Bp n n (Er st) (C9 st) (Ba st) .none kV doc pm an cdv ct),osl⟩)(c:C4 K cdv n=Ab)(k:BK K (.ref f)=Ab):FnI K f n st:=⟨_,XV l c k,a⟩
noncomputable def Bd(n:Ai)(st:AJ)(ps:Ac Ai)(us:Ac Ah):Prop := ∀(kV doc pm:Ah)(an:Ao Ag)(cdv ct:Ah),FC (Bp n n (Er st) (C9 st) (Ba st) .none kV doc pm an cdv ct) ⟨us,[]⟩=pure (ps.zip us)
theorem Lm{n:Ai}{f:Ag}{st:AJ}{ps N:Ac Ai}(m id:Af)(X:K.In h)(G:h.Ns AF mg)(A:FnI K f n st)(hl:ps.length=m%1000)(hc:F1 fuel (Cz 1000 m) fns bl rzs exs gls ps N st (Pg.defs id)=Ab)(hb : ∀ us:Ac Ah,us.length=ps.length->Bd n st ps us):IE K mg fns bl rzs exs gls Pg fuel (n,id,m):=by
 obtain⟨fd,F,a⟩:=A;exact⟨_,_,_,_,_,_,Ek X G a,Ph F,F.binds λkV doc pm an cdv ct us hu=>hb us hu kV doc pm an cdv ct,hl,hc⟩
theorem Ma{l:Ac α}(h:l.length=0):l=[]:=List.eq_nil_of_length_eq_zero h
theorem HG{l:Ac α}{n:Af}(h:l.length=n+1) : ∃ a r,l=a::r/\r.length=n:=by
 cases l with
 |nil=>cases h
 |cons a r=>exact⟨a,r,rfl,Nat.succ.inj h⟩
theorem JO{n:Ai}{f:Ag}{st:AJ}{N:Ac Ai}(m id:Af)(X:K.In h)(G:h.Ns AF mg)(A:FnI K f n st)(hl:1=m%1000)(hc:F1 fuel (Cz 1000 m) fns bl rzs exs gls [x0] N st (Pg.defs id)=Ab)(hb : ∀ u0,Bd n st [x0] [u0]):IE K mg fns bl rzs exs gls Pg fuel (n,id,m):=
 Lm (ps:=[x0]) m id X G A hl hc λus hu=>by obtain⟨u0,v0,rfl,h0⟩:=HG hu;obtain rfl:=Ma h0;exact hb u0
theorem Iy{n:Ai}{f:Ag}{st:AJ}{N:Ac Ai}(m id:Af)(X:K.In h)(G:h.Ns AF mg)(A:FnI K f n st)(hl:2=m%1000)(hc:F1 fuel (Cz 1000 m) fns bl rzs exs gls [x0,x1] N st (Pg.defs id)=Ab)(hb : ∀ u0 u1,Bd n st [x0,x1] [u0,u1]):IE K mg fns bl rzs exs gls Pg fuel (n,id,m):=
 Lm (ps:=[x0,x1]) m id X G A hl hc λus hu=>by obtain⟨u0,v0,rfl,h0⟩:=HG hu;obtain⟨u1,v1,rfl,h1⟩:=HG h0;obtain rfl:=Ma h1;exact hb u0 u1
theorem JN{n:Ai}{f:Ag}{st:AJ}{N:Ac Ai}{x2:Ai}(m id:Af)(X:K.In h)(G:h.Ns AF mg)(A:FnI K f n st)(hl:3=m%1000)(hc:F1 fuel (Cz 1000 m) fns bl rzs exs gls [x0,x1,x2] N st (Pg.defs id)=Ab)(hb : ∀ u0 u1 u2,Bd n st [x0,x1,x2] [u0,u1,u2]):IE K mg fns bl rzs exs gls Pg fuel (n,id,m):=
 Lm (ps:=[x0,x1,x2]) m id X G A hl hc λus hu=>by obtain⟨u0,v0,rfl,h0⟩:=HG hu;obtain⟨u1,v1,rfl,h1⟩:=HG h0;obtain⟨u2,v2,rfl,h2⟩:=HG h1;obtain rfl:=Ma h2;exact hb u0 u1 u2
end
noncomputable def Gp(mg:Ai->Ao Ah)(h:As):Prop := ∃ bm o,mg "__builtins__" = Aa (.ref bm)/\bm≠CG/\bm≠AF/\h.get? bm=Aa o/\o.cls = .type "module" /\ o.dict=Aa CG/\o.data = .plain
noncomputable def JK(H:Hp)(P:Ag):Prop:=H P=Aa (.tbl #[]) /\ ∀ b,b≠P->H b=Ad \/ ∃ o xs,H b=Aa (.frz o (.lst xs))
theorem TF{Pg:Ay}{w:AH}{mg mb:Ai->Ao Ah}{fa a c P:Ag}{sp:Sp}{s₁:Al}{vs:Ac Ah}{ns:Ac Aj}(KX:K.In s₁.heap)(hns:s₁.heap.Ns AF mg)(hb:s₁.heap.Ns CG mb)(hbb : ∀ x:Ai,x ≠ "__name__" -> mb x=B4 x)(hlim:s₁.heap.NoLimit)(hg:s₁.gens = #[])(ha:s₁.heap.get? a=Aa { cls := .type "list",data := .seq vs.toArray })(hi:Fs vs ns)(hl:ns.length<=sizeLine)(hr:Room k De)(hC:B6 s₁.heap c P)(hP:s₁.heap.get? P=Aa (Dt #[]))(hKP:K.lookup P=Ad)(hbm:Gp mg s₁.heap)(F : ∀ base:As,K.In base->base.Ns AF mg->B6 base c P->Gp mg base->FnOk Pg w K mg base CX k fa fd [x] sp)(hbind : ∀(s:Al)(u:Ah),Dp s fd ⟨[u],[]⟩ [(x,u)])(hsp : ∀ H:Hp,JK H P->SqL K H a (ns.map V.int)->sp [.ref a] H (λv _=>v = .bl Ab) λ_ _ _=>AV)(hCX : ∀ H e s',CX [] H s₁ (λ_ _ _=>AV) e s'->AV):D6 (model Pg w) De (.call (.ref fa) ⟨[.ref a],[]⟩) (λr s'=>r = .ok (.ret (.bool Ab))/\OldK s₁.heap s'.heap/\s'.os=s₁.os/\Do s'.gens) s₁:=by
 have rv:=KB hi;have lenV:=hi.length;have haP:a≠P:=λz=>by
  rw[z,hP]at ha;cases ha
 have core : ∀ H:Hp,JK H P->SqL K H a (ns.map V.int)->HOk Pg w H s₁.heap->(∀ b,H b≠Ad->b=a\/b=P)->(H a≠Ad->K.lookup a=Ad) ->
   D6 (model Pg w) De (.call (.ref fa) ⟨[.ref a],[]⟩) (λr s'=>r = .ok (.ret (.bool Ab))/\OldK s₁.heap s'.heap/\s'.os=s₁.os/\Do s'.gens) s₁:=by
  intro H hO hS hok hA hK;have base_of : ∀{b:Ag}{o:AB},s₁.heap.get? b=Aa o->H b=Ad->(Ed s₁.heap H).get? b=Aa o:=λe n=>Ng e n
  have noX : ∀{b:Ag}{o:AB},s₁.heap.get? b=Aa o->(∀ its n,o.data ≠ .seq its n)->(∀ its,o.data ≠ .fields its\/o.cls ≠ .none)->H b=Ad:=λ{b o} e d1 d2=>by
   cases q:H b with
   |none=>rfl
   |some u=>
    rcases hA b (by rw[q];simp) with e'|e'
    .subst e';rw[ha]at e;cases e;exact absurd rfl (d1 _ _)
    .subst e';rw[hP]at e;cases e;rcases d2 #[] with z|z
     .exact absurd rfl z
     .exact absurd rfl z
  have noA : ∀{b:Ag}{o:AB}{es:AW DictEntry}{ep:Af},s₁.heap.get? b=Aa o->o.data = .dict es ep->H b=Ad:=λ{b o es ep} e d=>noX e (λ_ _ z=>by rw[d]at z;cases z) λ_ => .inl λz=>by rw[d]at z;cases z
  have nsK : ∀{b:Ag}{m:Ai->Ao Ah},s₁.heap.Ns b m->(Ed s₁.heap H).Ns b m:=λ{b m} ⟨o,es,ep,e,d,r⟩=>⟨o,es,ep,base_of e (noA e d),d,r⟩
  have hKb:K.In (Ed s₁.heap H):=λb o e=>base_of (KX b o e) (by
   cases q:H b with
   |none=>rfl
   |some u=>
    rcases hA b (by rw[q];simp) with e'|e'
    .subst e';rw[hK (by rw[q];simp)]at e;cases e
    .subst e';rw[hKP]at e;cases e)
  have hM:Mod K mg (Ed s₁.heap H):=⟨hKb,nsK hns,⟨mb,nsK hb,hbb⟩,let ⟨mc,h1,h2⟩:=hlim;⟨mc,nsK h1,h2⟩⟩
  have e0:Env0 Pg w K mg (Ed s₁.heap H) De [] s₁ H:=⟨rfl,hM,λb o e=>Ol e,Gv (MZ _ _),trivial,λb hb=>absurd (show b∈([]:Ac Ag) from hb) (by simp),hok,.of_eq hg⟩
  have hCb:B6 (Ed s₁.heap H) c P:=by
   obtain⟨o,vs',file,tf,flags,tg,inF,text,tt,e1,e2,r⟩:=hC;exact⟨o,vs',file,tf,flags,tg,inF,text,tt,base_of e1 (noX e1 (λ_ _ z=>by rw[r.1]at z;cases z) λ_ => .inr (by rw[e2];nofun)),e2,r⟩
  have hBb:Gp mg (Ed s₁.heap H):=by
   obtain⟨bm,o,b1,b2,b3,b4,b5,b6,b7⟩:=hbm;exact⟨bm,o,b1,b2,b3,base_of b4 (noX b4 (λ_ _ z=>by rw[b7]at z;cases z) λ_ => .inl λz=>by rw[b7]at z;cases z),b5,b6,b7⟩
  refine EM ((F _ hKb (nsK hns) hCb hBb).run De [] s₁ H ⟨[.ref a],[]⟩ [.ref a] [.ref a] _ _ hr e0 (hbind s₁ (.ref a)) (.cons rfl .nil) (hsp H hO hS)) λr s' h => ?_
  cases r with
  |error e=>exact(hCX H e s' h).elim
  |ok fl=>
   cases fl with
   |next=>exact BQ h
   |brk=>exact BQ h
   |cont=>exact BQ h
   |ret u=>
    obtain⟨v,H',os,bare,un,hok',r',q⟩:=h;have q':v = .bl Ab:=q;subst q';obtain rfl:u=Hd Ab:=r';have kp : ∀ b o,b≠P->s₁.heap.get? b=Aa o->s'.heap.get? b=Aa o:=λb o hb e=>by
     cases q:H b with
     |none=>exact un.keep b o e q (by intro z;exact absurd (show b∈([]:Ac Ag) from z) (by simp)) (by simp)
     |some u=>
      rcases hO.2 b hb with z|⟨ob,xs,z⟩
      .rw[q]at z;cases z
      .have z2:=un.frzs b ob _ z;obtain⟨e1,_⟩:=hok b _ z;obtain⟨e2,_⟩:=hok' b _ z2;rw[e]at e1;cases e1;exact e2
    obtain⟨more,hP'⟩:=un.tbls P #[] hO.1;have gP:s'.heap.get? P=Aa (Dt (#[]++more)):=hok' P _ hP';refine⟨rfl,⟨λb o e => ?_,λb o e => ?_⟩,os,bare⟩
    .by_cases z:b=P
     .rw[z]at e ⊢;rw[hP]at e;cases e;exact .inr (.inl ⟨(hC.tab hP).isCodeTable,rfl,#[],more,rfl,gP⟩)
     .exact .inl (kp b o z e)
    .by_cases z:b=P
     .rw[z];exact⟨_,gP⟩
     .exact⟨o,kp b o z e⟩
 cases hk:K.lookup a with
 |some o=>
  have e:=KX a o hk;rw[ha]at e;cases e;refine core (λb=>if b=P then Aa (.tbl #[]) else Ad) ⟨AD rfl,λb z => .inl (AL z)⟩ (.inr ⟨_,vs.toArray,_,hk,rfl,rfl,rfl,by rw[Av,lenV];exact hl,by simpa using rv⟩) (λb u z => ?_) (λb z => ?_) λz=>absurd (AL haP) z
  .by_cases hbP:b=P
   .have z':=(AD hbP).symm.trans z;cases z';rw[hbP];exact hP
   .have z':=(AL hbP).symm.trans z;cases z'
  .by_cases hbP:b=P
   .exact .inr hbP
   .exact absurd (AL hbP) z
 |none=>
  refine core (λb=>if b=P then Aa (.tbl #[]) else if b=a then Aa (.frz { cls := .type "list",data := .seq vs.toArray } (.lst (ns.map V.int))) else Ad) ⟨AD rfl,λb z => ?_⟩ (.inl (.inr ⟨{ cls := .type "list",data := .seq vs.toArray },(AL haP).trans (AD rfl)⟩)) (λb u z => ?_) (λb z => ?_) λ_=>hk
  .by_cases hb:b=a
   .exact .inr ⟨_,_,(AL z).trans (AD hb)⟩
   .exact .inl ((AL z).trans (AL hb))
  .by_cases hbP:b=P
   .have z':=(AD hbP).symm.trans z;cases z';rw[hbP];exact hP
   .by_cases hb:b=a
    .have z':=((AL hbP).trans (AD hb)).symm.trans z;cases z';subst hb;exact⟨ha,by rw[Cb];exact hl,vs,_,rv,ha⟩
    .have z':=((AL hbP).trans (AL hb)).symm.trans z;cases z'
  .by_cases hbP:b=P
   .exact .inr hbP
   .by_cases hb:b=a
    .exact .inl hb
    .exact absurd ((AL hbP).trans (AL hb)) z
theorem S6{l:Dy}{n k:Af}{q:Ay}{loose:Ac Ai}{XP:(Ai->Ao Ah)->As->Prop}{YP:AH->As->Prop}{d:HS}{K:Hb->Fg}{CX:AH->CXT}{sp:AH->Ag->Sp}{v:Ai}(hn:l.most=Aa n)(hn2:n<=sizeLine)(hdf:d.params.defaults=[])(hr:Room k De)(hv:((recsOf q).find? (λe=>e.name==v)).isSome=Ab)(hY : ∀(w:AH)(h:As),YP w h->(K w.params).In h)(F : ∀(w:AH)(mg:Ai->Ao Ah)(fa:Ag)(h:As),(K w.params).In h->h.Ns AF mg->mg d.name=Aa (.ref fa) ->
   ∃ fd:Bh,(∀(s:Al)(u:Ah),Dp s fd ⟨[u],[]⟩ [(x,u)]) /\ ∃ c P,CV (K w.params) v=Aa (c,P)/\(K w.params).lookup P=Ad /\
    ∀ base:As,(K w.params).In base->base.Ns AF mg->B6 base c P->Gp mg base->FnOk l.prog w (K w.params) mg base (CX w) k fa fd [x] (sp w P))(hsp : ∀(w:AH)(H:Hp)(a P:Ag)(ns:Ac Aj),ns.length<=n->JK H P->SqL (K w.params) H a (ns.map V.int)->sp w P [.ref a] H (λv _=>v = .bl Ab) λ_ _ _=>AV)(hCX : ∀(w:AH)(H:Hp)(s:Al)(e:Ah)(s':Al),CX w [] H s (λ_ _ _=>AV) e s'->AV):Gs q loose XP YP l.row.toRowW d [] (λf vs=>Gd f vs):=by
 refine Att.attach_call hn hdf λw s₀ s₁ mg mb fa o pm cd doc a vs ns G Y_ ho hd hcd hmg hobj hints hlen hg => ?_
 have KX:=hY w _ Y_;obtain⟨fd,hb,c,P,ht,hKP,hF⟩:=F w mg fa _ KX G.T.g hmg;obtain⟨dv,hv⟩:=DV.mp hv;obtain⟨hC,hP⟩:=PySem.W.tab_of G.T KX hv ht;have hbm:Gp mg s₁.heap:=by
  obtain⟨bm,ob,b1,b2,b3,b4,b5,b6⟩:=G.T.bmain;refine⟨bm,ob,b1,b2,λz => ?_,b3,b4,b5,b6⟩
  obtain⟨og,es,ep,e,dd,_⟩:=G.T.g;rw[z,e]at b3;cases b3;rw[dd]at b6;cases b6
 exact TF KX G.T.g G.T.b G.T.builtins G.T.nolimit hg hobj hints (Cc hlen hn2) hr hC hP hKP hbm hF hb (λH hO hS=>hsp w H a P ns hlen hO hS) λH e s'=>hCX w H s₁ e s'
noncomputable def ndX(st:AJ):Nd:=match C9 st with
  | [.FunctionDef name params body _ _ _ scope _ _ pos,_]=>(match (Er st).args with
    |[a1,a2]=>⟨name, "valuer" ++ ".<locals>." ++ name,params,body,scope,pos,a1.arg,a2.arg⟩
    | _=>⟨"", "",Er st,[],Ba st,⟨0,0,0,0⟩, "", ""⟩)
  |_=>⟨"", "",Er st,[],Ba st,⟨0,0,0,0⟩, "", ""⟩
noncomputable def rtX(st:AJ):Az × Az:=match C9 st with
  |[_,.Return (Aa (.Name _ p)) q]=>(p,q)
  |_=>(⟨0,0,0,0⟩,⟨0,0,0,0⟩)
noncomputable def ndB(n:Nd)(pt:Ai):Ak:=
  n.scope.kind==.function&&(n.scope.isCoroutine==Ae&&(n.scope.isGenerator==Ae&&((n.scope.names.all λy=>y.2 != .cell)&&((n.scope.names.all λy=>y.2 != .free||(y.1==n.x1||y.1==n.x2)) &&
    (n.scope.names.lookup pt==Aa .local&&(n.scope.names.lookup n.x1==Aa .free&&(n.scope.names.lookup n.x2==Aa .free&&(Gm [pt,n.x1,n.x2]&&(n.scope.names.lookup ("value" : Ai)==Aa .globalImplicit&&(([pt,n.x1,n.x2].all λx=>x != ("__debug__" : Ai)&&x != ("__classdict__" : Ai)) &&
      (Ev n.body λs=>Ju s λo=>(match o with
        |some e=>GL e λg as=>g==("value" : Ai)&&Pn as λa b c=>Et a (· == n.x1)&&(Et b (· == n.x2)&&Et c (· == pt))
        | none=>Ae))))))))))))
theorem X5{n:Nd}(h:ndB n pt=Ab)(hb : ∀(s:Al)(cl:Ac (Ai × Ag))(doc pm ctv u:Ah)(c:Ag),Dp s (Eg n.name n.qual n.params n.body n.scope cl .none .none doc pm Ad (.ref c) ctv) ⟨[u],[]⟩ [(pt,u)]):NdV n pt:=by
 unfold ndB at h;obtain⟨h1,h⟩:=A9 h;obtain⟨h2,h⟩:=A9 h;obtain⟨h3,h⟩:=A9 h;obtain⟨h4,h⟩:=A9 h;obtain⟨h5,h⟩:=A9 h;obtain⟨h6,h⟩:=A9 h;obtain⟨h7,h⟩:=A9 h;obtain⟨h8,h⟩:=A9 h;obtain⟨h9,h⟩:=A9 h;obtain⟨h10,h⟩:=A9 h;obtain⟨h11,h⟩:=A9 h;refine⟨⟨eq_of_beq h1,eq_of_beq h2,eq_of_beq h3,λx hx => ?_,λx hx => ?_,eq_of_beq h6,eq_of_beq h7,eq_of_beq h8,FW h9,hb⟩,?_,eq_of_beq h10,λx hx => ?_⟩
 .have:=Bg.mp h4 x hx;simpa using this
 .have:=Bg.mp h5 _ (Br hx);simpa using this
 .obtain⟨s,e,h⟩:=Ff h;obtain⟨o,p,rfl,h⟩:=Nr h;cases o with
  |none=>exact absurd h Aw
  |some e0=>
   obtain⟨g,vp,as,cp,rfl,h⟩:=G0 h;obtain⟨hg,h⟩:=A9 h;obtain⟨a,b,c,rfl,h⟩:=TU h;obtain⟨ha,h⟩:=A9 h;obtain⟨hb',hc⟩:=A9 h;obtain⟨x1,p1,rfl,e1⟩:=ER ha;obtain⟨x2,p2,rfl,e2⟩:=ER hb';obtain⟨x3,p3,rfl,e3⟩:=ER hc;rw[eq_of_beq hg,eq_of_beq e1,eq_of_beq e2,eq_of_beq e3]at e;exact⟨vp,p1,p2,p3,cp,p,e⟩
 .have:=Bg.mp h11 x hx;simpa using this
noncomputable def JR(T:Tc)(i j k:Af)(s:AJ):Ak:=LU s λx v=>T.N[i]? == Aa x&&G8 T x&&(GL v λg as=>g==("valuer" : Ai)&&glB T g&&Fi as λa b=>Et a (isV T · j)&&Et b (isV T · k))
noncomputable def pst:AJ := .Pass ⟨0,0,0,0⟩
noncomputable def Mf(fuel:Af)(T:Tc)(b:Ac AJ)(k1 k2 k3:S)(kr:Ss):Ak:=Cz 5 b.length&&(G9 fuel T (b.getD 0 pst) k1&&(G9 fuel T (b.getD 1 pst) k2&&(G9 fuel T (b.getD 2 pst) k3&&(JR T 4 1 2 (b.getD 3 pst)&&(JR T 5 1 3 (b.getD 4 pst)&&chkSs fuel T (b.drop 5) kr)))))
theorem aJ{b:Ac AJ}(h:5<=b.length):b=b.getD 0 pst::b.getD 1 pst::b.getD 2 pst::b.getD 3 pst::b.getD 4 pst::b.drop 5:=by
  match b,h with
  |a::b::c::d::e::r,_=>rfl
section
variable{K:Fg}{CL:ClA}{H H':Hp}{A:Ag->Prop}{P:Ag}{ps:AW Ah}
noncomputable def L7:D->Ak
 |.lst xs=>xs.all Ix
 |d=>Dk d
theorem K7 : ∀{vs:Ac V}(ds:Ac D),ds.all Ix=Ab->Reps K CL H A vs ds->Reps K CL H' A vs ds
 |[],[],_,h=>h
 |_::_,d::ds,z,h=>by
  rw[DJ,An]at z;refine⟨?_,K7 ds z.2 h.2⟩;cases d with
  |int i=>exact h.1
  |_=>cases z.1
 |[],_::_,_,h=>h.elim
 |_::_,[],_,h=>h.elim
theorem GF(hP:H P=Aa (.tbl ps))(k : ∀ b o,H b=Aa o->b≠P->H' b=Aa o)(z:L7 d=Ab)(h:Rep K CL H A v d):Rep K CL H' A v d:=by
 have kk : ∀ b o,H b=Aa o->(∀ qs,o ≠ .tbl qs)->H' b=Aa o:=λb o e n=>k b o e λy=>by
  rw[y,hP]at e;exact n _ (AQ e).symm
 have rd : ∀ a u,(∀ qs,u ≠ .tbl qs)->Rd H a u->Rd H' a u:=λa u n r=>by
  rcases r with r|⟨o,r⟩
  .exact .inl (kk _ _ r n)
  .exact .inr ⟨o,kk _ _ r λ_ y=>by cases y⟩
 cases d with
 |int i=>exact h
 |tup ds=>
  obtain⟨a,xs,e,na,sq,r⟩:=h;exact⟨a,xs,e,na,sq.imp (rd _ _ λ_ y=>by cases y) id,K7 ds z r⟩
 |lst ds=>
  obtain⟨a,xs,e,na,sq,r⟩:=h;exact⟨a,xs,e,na,sq.imp (rd _ _ λ_ y=>by cases y) id,K7 ds z r⟩
 |_=>cases z
end
noncomputable def Jg(K:Fg)(P:Ag):Sp:=λvs H Q _ => ∃(a:Ag)(ns:Ac Aj),vs=[.ref a]/\ns.length<=63/\JK H P/\SqL K H a (ns.map V.int) /\ ∀ v H',v=V.bl Ab->Q v H'
section
variable{Pg:Ay}{w:AH}{K:Fg}{mg:Ai->Ao Ah}{base:As}{CL:ClA}{fns:Ac (Ai × Af × Af)}{bl:Ac Ai}{rzs exs gls:Ac (Ai × Af)}{Q0:Prg}{fuel:Af}
theorem YU{Fz:Ag->HO->Prop}{U:Rho}{Y:L2.St}(hl:U.length=Y.length)(hf : ∀ b o,Fz b o->H b=Aa o)(h : ∀(i:Af) d o,U[i]? = Aa (Aa (d,o))->o=Ae /\ ∃ v,Y[i]? = Aa (Aa v)/\Rep K CL H A0 v d):Sx K CL Fz A0 U Y H:=by
 have own : ∀ a,BO A0 U Y a->A0 a:=λa z=>by
  rcases z with z|⟨j,d,z,_⟩
  .exact z
  .exact absurd (h j d Ab z).1 (by decide)
 refine⟨⟨λi d z => ?_,λi d z=>absurd (h i d Ab z).1 (by decide),hl⟩,λa z=>(own a z).elim,λj d a z _=>absurd (h j d Ab z).1 (by decide),λi j d e a z _ _ _=>absurd (h i d Ab z).1 (by decide),hf,hl⟩
 obtain⟨v,e,r⟩:=(h i d Ae z).2;exact⟨v,e,Rep.sub own _ r⟩
structure ValT (st:AJ) (pt:Ai) (d1 d2:Af):Prop where
 body:C9 st=[.FunctionDef (ndX st).name (ndX st).params (ndX st).body [] Ad [] (ndX st).scope Ad (ndX st).name (ndX st).pos,.Return (Aa (.Name (ndX st).name (rtX st).1)) (rtX st).2]
 nf : ∀(oc:Ah)(od:Ao Ag)(kV doc pm:Ah)(an:Ao Ag)(cdv ct:Ah)(osl:AW (Ao Ah)),Qp ⟨oc,od,.func (Bp "valuer" "valuer" (Er st) (C9 st) (Ba st) .none kV doc pm an cdv ct),osl⟩=Aa (ndX st)
 cl : ∀(L f c:Ag),Fq (ndX st).scope (Cw "valuer" (Ba st) L f (.ref c))=pure [((ndX st).x1,L+d1),((ndX st).x2,L+d2)]
 ne:d1≠d2
 c1 : ∀ L:Ag,(Bt (L+1) (Ba st).names []).lookup (ndX st).x1=Aa (L+d1)
 c2 : ∀ L:Ag,(Bt (L+1) (Ba st).names []).lookup (ndX st).x2=Aa (L+d2)
 sc:((Ba st).kind==.function&&((Ba st).isCoroutine==Ae&&((Ba st).isGenerator==Ae&&(Gm [(ndX st).x1,(ndX st).x2,(ndX st).name]&&((Ba st).names.lookup (ndX st).x1==Aa .cell&&((Ba st).names.lookup (ndX st).x2==Aa .cell&&((Ba st).names.lookup (ndX st).name==Aa .local&&(((Ba st).names.all λy=>y.2 != .free)&&((ndX st).name != ("__debug__" : Ai)&&(ndX st).name != ("__classdict__" : Ai))))))))))=Ab
 q : ∀(L f c:Ag),He (Cw "valuer" (Ba st) L f (.ref c)) (ndX st).name (ndX st).name=(ndX st).qual
 d0:(ndX st).params.defaults=[]
 k0:(ndX st).params.kw_defaults=[]
 an : ∀(L f c:Ag),HV (ndX st).params Ad (Cw "valuer" (Ba st) L f (.ref c))=[]
 nb:ndB (ndX st) pt=Ab
 bi : ∀(s:Al)(cl:Ac (Ai × Ag))(doc pm ctv u:Ah)(c:Ag),Dp s (Eg (ndX st).name (ndX st).qual (ndX st).params (ndX st).body (ndX st).scope cl .none .none doc pm Ad (.ref c) ctv) ⟨[u],[]⟩ [(pt,u)]
 bv : ∀(u0 u1 kV doc pm:Ah)(an:Ao Ag)(cdv ct:Ah),FC (Bp "valuer" "valuer" (Er st) (C9 st) (Ba st) .none kV doc pm an cdv ct) ⟨[u0,u1],[]⟩=pure ([(ndX st).x1,(ndX st).x2].zip [u0,u1])
theorem Wz{st:AJ}{fv c:Ag}(V:ValT st pt d1 d2)(I:FnI K fv "valuer" st)(ht:CV K "valuer" = Aa (c,P))(hC:B6 base c P)(hbt:Gp mg base):IA K=Aa (ndX st)/\∃ fd,BK K (.ref fv)=Ab/\E3 K fd [(ndX st).x1,(ndX st).x2] []/\FnOk Pg w K mg base CX (k+1) fv fd [(ndX st).x1,(ndX st).x2] (spV (ndX st) P):=by
 obtain⟨fd,F,ns⟩:=I;have bi:=F.binds (ps:=[(ndX st).x1,(ndX st).x2]) λkV doc pm an cdv ct us hu=>match us,hu with | [u0,u1],_=>V.bv u0 u1 kV doc pm an cdv ct
 obtain⟨oc,od,kV,doc,pm,an,cdv,ct,osl,rfl,lk,hcd⟩:=F.ex;have hn:IA K=Aa (ndX st):=by
  unfold IA;rw[ns];dsimp only;rw[lk];exact V.nf oc od kV doc pm an cdv ct osl
 have hc:cdv = .ref c:=by
  unfold CV at ht;rw[ns]at ht;dsimp only at ht;rw[lk]at ht;dsimp only at ht;cases cdv with
  |ref c2=>
   dsimp only at ht;split at ht
   .split at ht
    .cases ht;rfl
    .cases ht
   .cases ht
  |_=>cases ht
 subst hc;have sc:=V.sc;obtain⟨h1,sc⟩:=A9 sc;obtain⟨h2,sc⟩:=A9 sc;obtain⟨h3,sc⟩:=A9 sc;obtain⟨h4,sc⟩:=A9 sc;obtain⟨h5,sc⟩:=A9 sc;obtain⟨h6,sc⟩:=A9 sc;obtain⟨h7,sc⟩:=A9 sc;obtain⟨h8,sc⟩:=A9 sc;obtain⟨h9,h10⟩:=A9 sc;have S:FnScope [(ndX st).x1,(ndX st).x2,(ndX st).name] [(ndX st).x1,(ndX st).x2] (Ba st):=⟨eq_of_beq h1,eq_of_beq h2,eq_of_beq h3,FW h4,rfl,λx hx=>by
  rcases AK.mp hx with rfl|hx
  .exact .inr (eq_of_beq h5)
  .rw[A6.mp hx];exact .inr (eq_of_beq h6),λy hy=>by
  have:=Bg.mp h8 y hy;simpa using this⟩
 refine⟨hn,_,F.kp,bi,?_⟩;rw[V.body]at lk ⊢;exact V3 (d1:=d1) (d2:=d2) lk hcd S hC hbt (λL=>V.cl L fv c) V.ne V.c1 V.c2 (eq_of_beq h5) (eq_of_beq h6) (eq_of_beq h7) (λL=>V.q L fv c) V.d0 V.k0 (λL=>V.an L fv c) (by simpa using h9) (by simpa using h10)
noncomputable def scB(st:AJ)(N:Ac Ai):Ak:=(Ba st).kind==.function&&((Ba st).isCoroutine==Ae&&((Ba st).isGenerator==Ae&&(Gm N&&(N.take 1==(["_law_script"]:Ac Ai)&&((Ba st).names.lookup ("_law_script" : Ai)==Aa .local&&(((Ba st).names.all λy=>y.2 != .free)&&N.length==13))))))
theorem Ha.tb{q:Ai}(h:Ha H P q pos) : ∃ ps,H P=Aa (.tbl ps):=by
 rcases h with h|⟨c,h,_⟩
 .exact⟨_,h⟩
 .exact⟨_,h⟩
theorem T6(t:Tab K mg CL fns bl rzs exs gls Q0 fuel){n:Af}{st stv:AJ}{f fv:Ag}{N:Ac Ai}{k1 k2 k3:S}{kr:Ss}{c:Ag}(hx:FunX K "law" "law" st f fd)(cs:scB st N=Ab)(hlb:Mf fuel ⟨Ba st,N,fns,bl,rzs,exs,gls,Ab⟩ (C9 st) k1 k2 k3 kr=Ab)(VT:ValT stv pt d1 d2)(I:FnI K fv "valuer" stv)(hmv:mg "valuer" = Aa (.ref fv))(hval:(("value" : Ai),126,3)∈fns)(ht:CV K "valuer" = Aa (c,P))(hC:B6 base c P)(hbt:Gp mg base)(hd:Ql (gam Q0 n) (ndX stv).x1 (ndX stv).x2 k1 k2 k3 kr):
    FnOk Pg w K mg base (CXR Pg w) (n+2) f fd ["_law_script"] (Jg K P):=by
  unfold scB at cs;obtain⟨c1,cs⟩:=A9 cs;obtain⟨c2,cs⟩:=A9 cs;obtain⟨c3,cs⟩:=A9 cs;obtain⟨c4,cs⟩:=A9 cs;obtain⟨c5,cs⟩:=A9 cs;obtain⟨c6,cs⟩:=A9 cs;obtain⟨c7,c8⟩:=A9 cs;unfold Mf at hlb;obtain⟨l0,hlb⟩:=A9 hlb;obtain⟨l1,hlb⟩:=A9 hlb;obtain⟨l2,hlb⟩:=A9 hlb;obtain⟨l3,hlb⟩:=A9 hlb;obtain⟨l4,hlb⟩:=A9 hlb;obtain⟨l5,l6⟩:=A9 hlb;obtain⟨oc,od,dV,kV,doc,pm,an,cdv,ct,osl,rfl,lk,hcd⟩:=hx.ex;have S:FnScope N ["_law_script"] (Ba st):=⟨eq_of_beq c1,eq_of_beq c2,eq_of_beq c3,FW c4,eq_of_beq c5,λx hx=>by rw[A6.mp hx];exact .inl (eq_of_beq c6),λy hy=>by
    have:=Bg.mp c7 y hy;simpa using this⟩
  have hlv:=Lq (P:=Pg) (w:=w) (base:=base) t n;obtain⟨hnd,fdv,hkv,bv,Fv⟩:=Wz (Pg:=Pg) (w:=w) (CX:=CX0) (k:=n) VT I ht hC hbt;refine LL (k:=n+1) (N:=N) lk hcd S (λvs H Q E ⟨a,ns,e,_⟩=>by rw[e];rfl) λA outer s H vs Q E hr ⟨a,ns,e,hl,hO,hS,hQ⟩ => ?_
  subst e;obtain⟨p,one,other,b,z1,z2,z3,e1,e2,e3,er⟩:=hd ns hl;have no : ∀ x cls dx H',W0 x H'->Fj K CL H' cls dx x->E cls dx H':=λ_ _ _ _ z=>z.elim
  have xt:XT (gam Q0 n).up (gam Q0 n).xn CL rzs exs K mg:=by rw[Ou,Ot];exact t.xt
  have gl : ∀ p∈gls,JS K mg CL p.1 ((gam Q0 n).G p.2):=by rw[Pf];exact t.gl
  obtain⟨f0,fd0,ps0,m1,m2,m3,m4,m5,_⟩:=hlv _ hval;have cv:Mr (gam Q0 n) CL n (DH (CXR Pg w) Pg w K mg base N "law" (Ba st) f cdv A outer s H E):=⟨hr,ndX stv,pt,hnd,X5 VT.nb VT.bi,f0,fd0,ps0,_,m1,m2,m3,m5 (by decide)⟩
  have v:VX (gam Q0 n) CL n W0 ⟨Ba st,N,fns,bl,rzs,exs,gls,Ab⟩ (DH (CXR Pg w) Pg w K mg base N "law" (Ba st) f cdv A outer s H E):=⟨rfl,eq_of_beq c1,rfl,FW c4,rfl,hr.mono (QZ n),t.bln,hlv,ownR,O6 no,rzR no,xt,gl,λ_=>cv⟩
  have dx:DefX (DH (CXR Pg w) Pg w K mg base N "law" (Ba st) f cdv A outer s H E):=⟨λ_=>rfl,rfl,rfl,rfl⟩
  have asg : ∀(i j k:Af)(st4:AJ),JR ⟨Ba st,N,fns,bl,rzs,exs,gls,Ab⟩ i j k st4=Ab->PS (DH (CXR Pg w) Pg w K mg base N "law" (Ba st) f cdv A outer s H E) st4 (Iu (O4 (spV (ndX stv) P) [] E0 (LG (Fk j) (LG (Fk k) P5))) (DE i)):=λi j k st4 h=>by
    unfold JR at h;obtain⟨x,px,v0,q,e0,h'⟩:=Nx h
    clear h
    subst e0;obtain⟨h1',hb'⟩:=A9 h'
    clear h'
    obtain⟨h1,h2⟩:=A9 h1';obtain⟨g,pp,as,qq,e0,hc'⟩:=G0 hb'
    clear hb'
    subst e0;obtain⟨hd',he'⟩:=A9 hc'
    clear hc'
    obtain⟨h3,h4⟩:=A9 hd'
    clear hd'
    obtain⟨a',b',e0,hf'⟩:=Gh he'
    clear he'
    subst e0;obtain⟨h5',h6'⟩:=A9 hf';obtain⟨xa,pa,e0,h5⟩:=ER h5'
    clear h5'
    subst e0;obtain⟨xb,pb,e0,h6⟩:=ER h6'
    clear h6'
    subst e0;obtain rfl:=eq_of_beq h3;have lo:=Je h2;exact Lo (Ja (CX:=CX0) (E:=E0) (ds:=[]) Fv hr (by unfold glB at h4;exact eq_of_beq h4) hmv hkv bv .nil Zl (Du (Fh v h5) (Du (Fh v h6) EQ)) (by decide)) (Hj (FW c4) (eq_of_beq h1) lo (.inl rfl))
  refine⟨_,by
    rw[aJ (CO l0)];exact GZ ((G6 fuel).s W0 _ _ _ k1 v dx l1 (λb o=>H b=Aa o) A0) (GZ ((G6 fuel).s W0 _ _ _ k2 v dx l2 (λb o=>H b=Aa o) A0) (GZ ((G6 fuel).s W0 _ _ _ k3 v dx l3 (λb o=>H b=Aa o) A0) (GZ (asg 4 1 2 _ l4) (GZ (asg 5 1 3 _ l5) ((G6 fuel).ss W0 _ _ _ kr v dx l6 (λ_ _=>AV) A0))))),?_⟩
  have rs : ∀ l:Ac Aj,Reps K CL H A0 (l.map V.int) (l.map D.int):=λl=>by
    induction l with
    |nil=>trivial
    |cons x l ih=>exact⟨rfl,ih⟩
  have nl:N.length=13:=eq_of_beq c8;refine⟨_,Nk (n:=13) (ds:=[.lst (ns.map .int)]) nl (λ_ z=>z.elim) ⟨⟨a,_,rfl,.inl (λz=>z),hS,rs ns⟩,trivial⟩,?_⟩
  show BN _ _ _ _ _ (evS (gam Q0 n) [Aa (.lst (ns.map .int),Ae),Ad,Ad,Ad,Ad,Ad,Ad,Ad,Ad,Ad,Ad,Ad,Ad] k1) _;rw[e1];intro Y1 H1 x1;refine⟨_,x1,?_⟩;dsimp only;rw[e2];intro Y2 H2 x2;refine⟨_,x2,?_⟩;dsimp only;rw[e3];intro Y3 H3 x3;obtain⟨v0,g0,r0⟩:=x3.good.sh 0 _ rfl;obtain⟨v1,g1,r1⟩:=x3.good.sh 1 _ rfl;obtain⟨v2,g2,r2⟩:=x3.good.sh 2 _ rfl;obtain⟨v3,g3,r3⟩:=x3.good.sh 3 _ rfl;have q0:=Rep.sub (B:=A0) (λ_ z=>z.elim) _ r0
  have q1:=Rep.sub (B:=A0) (λ_ z=>z.elim) _ r1
  have q2:=Rep.sub (B:=A0) (λ_ z=>z.elim) _ r2
  have q3:=Rep.sub (B:=A0) (λ_ z=>z.elim) _ r3
  have hP3:H3 P=Aa (.tbl #[]):=x3.same P _ hO.1;have sl:Y3.length=13:=x3.len.symm;have y0:L7 (.lst (ns.map .int))=Ab:=by
    show (ns.map D.int).all Ix=Ab;rw[Fx];exact Bg.mpr λ_ _=>rfl
  have yL : ∀ d,Dk d=Ab->L7 d=Ab:=λd h=>by cases d <;> first|exact h|cases h
  refine⟨v1,g1,v2,g2,v1,v2,rfl,.inl hP3,λq H4 k4 tb4 cl4 => ?_⟩
  obtain⟨ps4,hP4⟩:=tb4.tb;have h41:(Y3.set 4 (Aa (V.ref q)))[1]? = Aa (Aa v1):=by rw[BS (by decide)];exact g1
  have h43:(Y3.set 4 (Aa (V.ref q)))[3]? = Aa (Aa v3):=by rw[BS (by decide)];exact g3
  refine⟨v1,h41,v3,h43,v1,v3,rfl,tb4,λq' H5 k5 tb5 cl5 => ?_⟩
  have cl4':=UM cl4 hP4 k5;have w0:=GF hP4 k5 y0 (GF hP3 k4 y0 q0);have w1:=GF hP4 k5 (yL _ z1) (GF hP3 k4 (yL _ z1) q1);have w2:=GF hP4 k5 (yL _ z2) (GF hP3 k4 (yL _ z2) q2);have w3:=GF hP4 k5 (yL _ z3) (GF hP3 k4 (yL _ z3) q3);have clo : ∀(q:Ag)(u:V)(d:D),JM (ndX stv) H5 q v1 u->Rep K CL H5 A0 u d->Rep K CL H5 A0 (.ref q) (.obj 50 [((ndX stv).x1,p),((ndX stv).x2,d)]):=λq u d ⟨cc,k1,k2,ne,a1,a2,a3,a4⟩ ru=>
    ⟨q,_,rfl,⟨_,hnd,v1,u,rfl,cc,k1,k2,ne,⟨a1,id⟩,⟨a2,id⟩,⟨a3,id⟩,⟨a4,id⟩⟩,⟨rfl,w1⟩,⟨rfl,ru⟩,trivial⟩
  have u4:=clo q v2 one cl4' w2;have u5:=clo q' v3 other cl5 w3;refine⟨[Aa (.lst (ns.map .int),Ae),Aa (p,Ae),Aa (one,Ae),Aa (other,Ae),Aa (.obj 50 [((ndX stv).x1,p),((ndX stv).x2,one)],Ae),Aa (.obj 50 [((ndX stv).x1,p),((ndX stv).x2,other)],Ae),Ad,Ad,Ad,Ad,Ad,Ad,Ad],YU ?_ (λ_ _ z=>z.elim) ?_,?_⟩
  · rw[AX,AX,sl];rfl
  · intro i d o h;have s5 : ∀ j:Af,j≠4->j≠5->((Y3.set 4 (Aa (V.ref q))).set 5 (Aa (V.ref q')))[j]? = Y3[j]? := λj n4 n5=>by rw[BS (λz=>n5 z.symm),BS (λz=>n4 z.symm)]
    match i,h with
    |0,h=>cases h;exact⟨rfl,v0,(s5 0 (by decide) (by decide)).trans g0,w0⟩
    |1,h=>cases h;exact⟨rfl,v1,(s5 1 (by decide) (by decide)).trans g1,w1⟩
    |2,h=>cases h;exact⟨rfl,v2,(s5 2 (by decide) (by decide)).trans g2,w2⟩
    |3,h=>cases h;exact⟨rfl,v3,(s5 3 (by decide) (by decide)).trans g3,w3⟩
    |4,h=>
      cases h;refine⟨rfl,.ref q,?_,u4⟩;rw[BS (by decide),Bm (by omega)]
    |5,h=>
      cases h;refine⟨rfl,.ref q',?_,u5⟩;rw[Bm (by rw[AX];omega)]
    |6,h=>cases h
    |7,h=>cases h
    |8,h=>cases h
    |9,h=>cases h
    |10,h=>cases h
    |11,h=>cases h
    |12,h=>cases h
    |k+13,h=>cases h
  · rw[er];exact λv H' _ rp _=>hQ v H' rp
noncomputable def FnV(K:Fg)(f c P:Ag)(st:AJ):Prop:=FnI K f "valuer" st/\CV K "valuer" = Aa (c,P)/\K.lookup P=Ad
theorem fnv_mk{st:AJ}{f c P:Ag}{oc2:Ah}{od an od2:Ao Ag}{sl2:AW (Ao Ah)}{kV doc pm ct:Ah}{vs:AW Ah}(a:Bj K AF "valuer" = Aa (Aa (.ref f)))(l:K.lookup f=Aa ⟨oc,od,.func (Bp "valuer" "valuer" (Er st) (C9 st) (Ba st) .none kV doc pm an (.ref c) ct),osl⟩)(cc:C4 K (.ref c) "valuer" = Ab)(k:BK K (.ref f)=Ab)(lc:K.lookup c=Aa ⟨oc2,od2,.fields vs,sl2⟩)(hv:vs[11]? = Aa (.ref P))(lp:K.lookup P=Ad):FnV K f c P st:=by
 refine⟨fni a l cc k,?_,lp⟩;unfold CV;rw[a];dsimp only;rw[l];dsimp only;rw[lc];dsimp only;rw[hv]
end
end Ov
namespace OvC
open PySem Ov
variable{x p y K:Aj}{xs:Ac Aj}{Z:Gam}{m n k:Af}
noncomputable abbrev tr(a b c:Aj):D := .tup [.int a,.int b,.int c]
noncomputable def det(a0 a1 a2 b0 b1 b2 c0 c1 c2:Aj):Aj:=a0*(b1*c2-b2*c1)-a1*(b0*c2-b2*c0)+a2*(b0*c1-b1*c0)
noncomputable def Sm(x:Aj):Prop:=0<=x/\x<11
theorem mo(h:Sm x)(y:Aj):DD x y=Ab:=Hl (by have:=h.1;omega) (by have:=h.2;omega)
theorem Sm.of(h:P4 p)(x:Aj):Sm (x%p):=⟨Bz _ (by have:=h.pos;omega),by have:=Bl x h.pos;have:=h.hi;omega⟩
noncomputable def FI(p:Aj):Ac Aj:=(B1 (p-1).toNat).map fun(k:Af)=>1+(k:Aj)
theorem K3{t:Aj}:t∈FI p↔1<=t/\t<p:=by
 unfold FI;rw[List.mem_map];constructor
 .rintro⟨k,hk,rfl⟩;have:=Ck.mp hk;omega
 .rintro⟨h1,h2⟩;exact⟨(t-1).toNat,Ck.mpr (by omega),by omega⟩
theorem Up(h:P4 p):C3 1 p = .ok ((FI p).map D.int):=by
 rcases h with rfl|rfl|rfl|rfl <;> rfl
theorem VV : ∀ p:Fin 12,(p.val=3\/p.val=5\/p.val=7\/p.val=11) -> ∀ r:Fin 12,r.val<p.val->r.val≠0 -> ∃ t:Fin 12,1<=t.val/\t.val<p.val/\r.val*t.val%p.val=1:=by decide+kernel
theorem Jh{n:Aj}(h:P4 p)(hn:n%p≠0) : ∃ t,1<=t/\t<p/\n*t%p=1:=by
 have p0:0<p/\p<12:=by rcases h with rfl|rfl|rfl|rfl <;> decide
 obtain⟨q,rfl⟩ : ∃ q:Af,p=q:=⟨p.toNat,by omega⟩
 have h0:=Bz n (b:=(q:Aj)) (by omega)
 have h1:=Bl n p0.1;obtain⟨r,hr⟩ : ∃ r:Af,n%(q:Aj)=r:=⟨(n%(q:Aj)).toNat,by omega⟩
 obtain⟨t,t1,t2,t3⟩:=VV ⟨q,by omega⟩ (by rcases h with e|e|e|e <;> simp <;> omega) ⟨r,by omega⟩ (by show r<q;omega) (by show r≠0;omega)
 refine⟨(t.val:Aj),by omega,by show (t.val:Aj)<q;exact Int.ofNat_lt.mpr t2,?_⟩
 have e:((r*t.val%q:Af):Aj)=1:=by rw[show r*t.val%q=1 from t3];rfl
 rw[<-e,Int.natCast_emod,Int.natCast_mul,<-hr];exact(BU n _ _).trans (by rw[BU (n%(q:Aj)) (t.val:Aj) (q:Aj),BR n (C5 _)])
noncomputable def IC(p n t:Aj):Prop:=1<=t/\t<p/\n*t%p=1
theorem TJ{n t u:Aj}(h1:IC p n t)(h2:IC p n u):t=u:=by
 have hp:1<p:=by have:=h1.1;have:=h1.2.1;omega
 have e:t%p=u%p:=by
  have a:t%p=t*(n*u)%p:=by rw[BU,h2.2.2,GS,BR _ (C5 p)]
  have b:u%p=(n*t)*u%p:=by rw[BU (n*t) u p,h1.2.2,FR,BR _ (C5 p)]
  rw[a,b]
  congr 1
  rw[<-Fb,C7 t n]
 rw[A3 (by have:=h1.1;omega) h1.2.1,A3 (by have:=h2.1;omega) h2.2.1]at e
 exact e
theorem Il{c:Aj}(hp:P4 p)(hc:c%p≠0)(hx:x%p≠0):c*x%p≠0:=λz=>by
 obtain⟨t,_,_,e⟩:=Jh hp hc;refine hx ?_;have e1:x%p=(c*t)*x%p:=by rw[BU (c*t) x p,e,FR,BR _ (C5 p)]
 rw[e1,show c*t*x=t*(c*x) by rw[C7 c t,Fb],BU,z,QF,QI]
noncomputable def Cu(p:Aj):Ac Aj->Ao Aj
 |[]=>Ad
 |x::xs=>if x%p=0 then Cu p xs else Aa (x%p)
theorem MW{p:Aj} : ∀{xs:Ac Aj},Cu p xs=Ad ↔ ∀ x∈xs,x%p=0
 |[]=>by simp[Cu]
 |x::xs=>by
  unfold Cu;by_cases h:x%p=0
  .rw[AD h,MW (xs:=xs)];simp[h]
  .rw[AL h];simp[h]
theorem KD{p l:Aj}(hp:0<p) : ∀{xs:Ac Aj},Cu p xs=Aa l->l%p≠0/\0<l/\l<p
 |[],h=>by cases h
 |x::xs,h=>by
  unfold Cu at h;by_cases hx:x%p=0
  .rw[AD hx]at h;exact KD hp h
  .rw[AL hx]at h;cases h;have h0:=Bz x (b:=p) (by omega)
   have h1:=Bl x hp;exact⟨by rw[BR _ (C5 p)];exact hx,by omega,h1⟩
theorem Nb{p c:Aj}(hp:P4 p)(hc:c%p≠0){f:Aj->Aj}(hf : ∀ x,f x%p=c*x%p) : ∀ xs:Ac Aj,Cu p (xs.map f)=(Cu p xs).map λl=>c*l%p
 |[]=>rfl
 |x::xs=>by
  rw[DK];unfold Cu;rw[hf x];by_cases hx:x%p=0
  .rw[AD hx,AD (by rw[BU,hx,QF,QI]),Nb hp hc hf xs]
  .rw[AL hx,AL (Il hp hc hx),Q4]
   congr 1
   rw[BU c (x%p),BR _ (C5 p),<-BU]
noncomputable def ds(xs:Ac Aj):Ac D:=xs.map D.int
noncomputable def E4(b:Ak)(xs:Ac Aj):D:=if b=Ab then .tup (ds xs) else .lst (ds xs)
theorem Tn(b xs):CK (E4 b xs) = .ok (ds xs):=by unfold E4;cases b <;> rfl
theorem KJ{g:D->R Ak}{f:D->R D}{φ:Aj->Aj} : ∀(xs:Ac Aj),(∀ x∈xs,g (.int x) = .ok Ab/\f (.int x) = .ok (.int (φ x)))->Bx g f (ds xs) = .ok (ds (xs.map φ))
 |[],_=>rfl
 |x::xs,h=>by
  obtain⟨h1,h2⟩:=h x (AM ..);show (g (.int x)).bind _=_;rw[h1,R.bind_ok,AD rfl,h2,R.bind_ok];show (Bx g f (ds xs)).bind _=_;rw[KJ xs λy hy=>h y (AG _ hy)]
  rfl
noncomputable def fmI(p t:Aj)(xs:Ac Aj):Ac Aj:=xs.map λx=>t*(x%p)%p
section
variable{Z:Gam}{p:Aj}{xs:Ac Aj}{b:Ak}
end
theorem Ks{g:D->R Ak}{f:D->R D}{q:Aj->Ak} : ∀(xs:Ac Aj),(∀ x∈xs,g (.int x) = .ok (q x)/\f (.int x) = .ok (.int x))->Bx g f (ds xs) = .ok (ds (xs.filter q))
 |[],_=>rfl
 |x::xs,h=>by
  obtain⟨h1,h2⟩:=h x (AM ..);have ih:=Ks xs λy hy=>h y (AG _ hy)
  show (g (.int x)).bind _=_;rw[h1,R.bind_ok];cases hq:q x with
  |true=>
   rw[AD rfl,h2,R.bind_ok,Cy,hq,AD rfl];show (Bx g f (ds xs)).bind _=_;rw[ih];rfl
  |false=>
   rw[AL (by decide),Cy,hq,AL (by decide)]
   exact ih
theorem MD{p:Aj}(hp:0<p) : ∀(xs:Ac Aj),((xs.map λx=>x%p).filter λr=>decide (0<r)).head? = Cu p xs
 |[]=>rfl
 |x::xs=>by
  have h0:=Bz x (b:=p) (by omega)
  unfold Cu;rw[DK,Cy];by_cases h:x%p=0
  .rw[AD h,AL (by simp[h]),MD hp xs]
  .rw[AL h,AD (by simp;omega)]
   rfl
theorem Tl{p l t:Aj}(it:IC p l t):((FI p).filter λk=>decide (k*l%p=1)).head? = Aa t:=by
 have hm:t∈(FI p).filter λk=>decide (k*l%p=1):=DS.mpr ⟨K3.mpr ⟨it.1,it.2.1⟩,by simp[C7 t l,it.2.2]⟩
 cases e:(FI p).filter λk=>decide (k*l%p=1) with
 |nil=>rw[e]at hm;cases hm
 |cons u us=>
  have hu:u∈(FI p).filter λk=>decide (k*l%p=1):=by rw[e];exact AM ..
  obtain⟨h1,h2⟩:=DS.mp hu;obtain⟨a,b⟩:=K3.mp h1;have h3:u*l%p=1:=by simpa using h2
  rw[TJ it ⟨a,b,by rw[C7];exact h3⟩]
  rfl
theorem M0{l:Aj}(h:xs.head? = Aa l):Ee (ds xs) 0 = .ok (.int l):=by
 cases xs with
 |nil=>cases h
 |cons x xs=>cases h;exact K4 (by omega) rfl
theorem Pl(n:Af)(xs:Ac Aj):(ds xs).all (flD n)=Ab:=by simp[ds]
theorem Y_0(n:Af)(xs:Ac Aj):(ds xs).all (nlD n)=Ab:=by
 unfold ds;rw[Fx,Bg];intro x _;cases n <;> rfl
theorem Oz : ∀ xs:Ac Aj,eqDs (ds xs) (ds xs)=Ab
 |[]=>rfl
 |x::xs=>by
  show (eqD (.int x) (.int x)&&eqDs (ds xs) (ds xs))=Ab;rw[Oz xs];simp
theorem NT : ∀ xs:Ac Aj,Ew (xs.map λ_=>D.bl Ab) = .ok Ab
 |[]=>rfl
 |x::xs=>by
  rw[DK,KW,NT xs];rfl
theorem N7{g:D->R Ak}{f:D->R D} : ∀(xs:Ac Aj),(∀ x∈xs,g (.int x) = .ok Ab/\f (.int x) = .ok (.bl Ab))->Bx g f (ds xs) = .ok (xs.map λ_=>D.bl Ab)
 |[],_=>rfl
 |x::xs,h=>by
  obtain⟨h1,h2⟩:=h x (AM ..);show (g (.int x)).bind _=_;rw[h1,R.bind_ok,AD rfl,h2,R.bind_ok];show (Bx g f (ds xs)).bind _=_;rw[N7 xs λy hy=>h y (AG _ hy)]
  rfl
noncomputable abbrev own(xs:Ac Aj):Sl:=Aa (.lst (ds xs),Ab)
section
variable{Z:Gam}{ns:Ac Aj}{a1 a2 a4 a6 a7 a8 a9 b0 b1 b2 b3 b4:Sl}{p:Aj}
end
section
variable{Z:Gam}{ns:Ac Aj}{a1 a4 a6 a7 a8 a9 b2 b3 b4:Sl}{p m:Aj}{xs:Ac Aj}
end
noncomputable def Cg(p x y:Aj):Prop:=x%p=y%p
section
variable{p a b c d:Aj}
theorem Cg.rfl:Cg p a a:=Eq.refl _
theorem Cg.of(h:a=b):Cg p a b:=by unfold Cg;rw[h]
theorem Cg.trans{a b c:Aj}(h:Cg p a b)(g:Cg p b c):Cg p a c:=Eq.trans h g
theorem Cg.symm(h:Cg p a b):Cg p b a:=Eq.symm h
theorem Cg.add(h:Cg p a b)(g:Cg p c d):Cg p (a+c) (b+d):=by unfold Cg at *;rw[QC,h,g,<-QC]
theorem Cg.mul(h:Cg p a b)(g:Cg p c d):Cg p (a*c) (b*d):=by unfold Cg at *;rw[BU,h,g,<-BU]
end
theorem P4.m1(h:P4 p):(-1:Aj)%p≠0:=by rcases h with rfl|rfl|rfl|rfl <;> decide
theorem P4.o1(h:P4 p):(1:Aj)%p≠0:=by rcases h with rfl|rfl|rfl|rfl <;> decide
noncomputable abbrev R3:=Aj × Aj × Aj
variable{a:R3}
noncomputable def Mb(a:R3):D := .lst [.int a.1,.int a.2.1,.int a.2.2]
noncomputable def Iz(a b c:R3):Aj:=det a.1 a.2.1 a.2.2 b.1 b.2.1 b.2.2 c.1 c.2.1 c.2.2
noncomputable def In3(p:Aj)(a:R3):Prop:=(0<=a.1/\a.1<p)/\(0<=a.2.1/\a.2.1<p)/\(0<=a.2.2/\a.2.2<p)
structure GoodR (p:Aj) (a b c:R3):Prop where
 p4:P4 p
 ia:In3 p a
 ib:In3 p b
 ic:In3 p c
 nz:Iz a b c%p≠0
theorem GoodR.of{k:Aj}{a b c a' b' c':R3}(h:GoodR p a b c)(hk:k%p≠0)(e:Cg p (Iz a' b' c') (k*Iz a b c))(hin:In3 p a'/\In3 p b'/\In3 p c'):GoodR p a' b' c':=⟨h.p4,hin.1,hin.2.1,hin.2.2,by rw[show Iz a' b' c'%p=_ from e];exact Il h.p4 hk h.nz⟩
noncomputable def Ip(ns:Ac Aj)(k:Aj):Aj:=if k<ns.length then ns.getD k.toNat 0 else 0
noncomputable def ET(ns:Ac Aj)(k:Aj):Aj:=(Ip ns k%1000003+7919*k+11)*48271%1000033*69621%999983
noncomputable def IG:Df:=⟨3,Ae,(.cons (.asg 2 Ae (.int 0)) (.cons (.ife (.cmp .Lt (.var 1) (.bi .len (.cons (.var 0) .nil))) (.cons (.asg 2 Ae (.idx (.var 0) (.var 1))) .nil) .nil) (.cons (.ret (.bin .Mod (.bin .Mult (.bin .Mod (.bin .Mult (.bin .Add (.bin .Add (.bin .Mod (.var 2) (.int 1000003)) (.bin .Mult (.int 7919) (.var 1))) (.int 11)) (.int 48271)) (.int 1000033)) (.int 69621)) (.int 999983))) .nil)))⟩
noncomputable def Im(Z:Gam):Prop := ∀(ns:Ac Aj)(k:Aj),0<=k->Z.F 79 [scr ns,.int k] = .ok (.int (ET ns k))
theorem V1{ns:Ac Aj}{k:Aj}(h0:0<=k)(h1:k<ns.length):Ee (ns.map D.int) k = .ok (.int (ns.getD k.toNat 0)):=K4 h0 (by
 have:k.toNat<ns.length:=by omega
 simp[this])
theorem WX(Z:Gam)(ns:Ac Aj)(k:Aj)(h0:0<=k):IG.run Z [scr ns,.int k] = .ok (.int (ET ns k)):=by
 have m1:DD 7919 k=Ab:=Hl (by decide) (by decide)
 have m2 : ∀ x,DD x 48271=Ab:=λx=>La (by decide) (by decide)
 have m3 : ∀ x,DD x 69621=Ab:=λx=>La (by decide) (by decide)
 by_cases h1:k<ns.length
 .have g:=V1 h0 h1;have c:Ip ns k=ns.getD k.toNat 0:=by unfold Ip;rw[AD h1]
  simp at g c;simp[IG,Df.run,CM,h1,g,m1,m2,m3,ET,c]
 .have c:Ip ns k=0:=by unfold Ip;rw[AL h1]
  simp[IG,Df.run,CM,h1,m1,m2,m3,ET,c]
noncomputable def Kc:Df:=⟨1,Ae,(.cons (.ret (.idx (.lst (.cons (.int 3) (.cons (.int 5) (.cons (.int 7) (.cons (.int 11) .nil))))) (.bin .Mod (.call 79 (.cons (.var 0) (.cons (.int 0) .nil))) (.int 4)))) .nil)⟩
noncomputable def NV(Z:Gam):Prop := ∀ ns:Ac Aj,Z.F 81 [scr ns] = .ok (.int (pr4 (ET ns 0)))
theorem Us(h:Im Z)(ns:Ac Aj):Kc.run Z [scr ns] = .ok (.int (pr4 (ET ns 0))):=by
 simp[Kc,Df.run,CM,h ns 0 (by decide),TQ]
noncomputable abbrev ownR(a b c:R3):Sl:=Aa (.lst [Mb a,Mb b,Mb c],Ab)
section
variable{Z:Gam}{ns:Ac Aj}{at_ many s5 s0 s1 s2:Sl}{p t m:Aj}{a b c:R3}
end
section
variable{Z:Gam}{ns:Ac Aj}{many s5 s6 s7 s8 s9 s0 s1 s2:Sl}{p:Aj}{a b c:R3}
end
noncomputable def Mx:E:=(.bl Ab)
noncomputable def Kl:E:=(.bin .Mod (.var 5) (.var 0))
noncomputable def Kg:E:=(.cmp .Gt (.var 6) (.int 0))
noncomputable def Kk:E:=(.var 6)
noncomputable def Kf:E:=(.cmp .Eq (.bin .Mod (.bin .Mult (.var 7) (.var 3)) (.var 0)) (.int 1))
noncomputable def Kj:E:=(.var 7)
noncomputable def Mw:E:=(.bl Ab)
noncomputable def Kh:E:=(.bin .Mod (.bin .Mult (.var 8) (.var 4)) (.var 0))
noncomputable def Ku:Df:=⟨9,Ae,(.cons (.asg 2 Ae (.comp Kl 5 (.e (.var 1)) Mx)) (.cons (.asg 3 Ae (.idx (.comp Kk 6 (.e (.var 2)) Kg) (.int 0))) (.cons (.asg 4 Ae (.idx (.comp Kj 7 (.rng2 (.int 1) (.var 0)) Kf) (.int 0))) (.cons (.ret (.bi .tuple (.cons (.comp Kh 8 (.e (.var 2)) Mw) .nil))) .nil))))⟩
noncomputable def NX(Z:Gam):Prop := ∀(p:Aj)(b:Ak)(xs:Ac Aj)(l t:Aj),P4 p->Cu p xs=Aa l->IC p l t->Z.F 82 [.int p,E4 b xs] = .ok (.tup (ds (fmI p t xs)))
theorem Vd(Z:Gam){b:Ak}{l t:Aj}(hp:P4 p)(e:Cu p xs=Aa l)(it:IC p l t):Ku.run Z [.int p,E4 b xs] = .ok (.tup (ds (fmI p t xs))):=by
 have p0:=hp.pos;have ph:=hp.hi;have c1:Bx (cG Z [si p,sh (E4 b xs),Ad,Ad,Ad,Ad,Ad,Ad,Ad] 5 Mx) (cF Z [si p,sh (E4 b xs),Ad,Ad,Ad,Ad,Ad,Ad,Ad] 5 Kl) (ds xs) = .ok (ds (xs.map λx=>x%p)):=by
  refine KJ xs λx _=>⟨rfl,?_⟩
  simp[cF,Kl,p0]
 generalize hR:(xs.map λx=>x%p)=rs at c1
 have c2:Bx (cG Z [si p,sh (E4 b xs),sh (.lst (ds rs)),Ad,Ad,Ad,Ad,Ad,Ad] 6 Kg) (cF Z [si p,sh (E4 b xs),sh (.lst (ds rs)),Ad,Ad,Ad,Ad,Ad,Ad] 6 Kk) (ds rs) = .ok (ds (rs.filter λr=>decide (0<r))):=by
  refine Ks rs λx _=>⟨?_,?_⟩
  .simp[cG,Kg]
  .simp[cF,Kk]
 have hl:=MD p0 xs;rw[hR,e]at hl;generalize hL:(rs.filter λr=>decide (0<r))=ls at c2 hl
 have g0:=M0 hl;obtain⟨_,l0,l1⟩:=KD p0 e;have c3:Bx (cG Z [si p,sh (E4 b xs),sh (.lst (ds rs)),si l,Ad,Ad,Ad,Ad,Ad] 7 Kf) (cF Z [si p,sh (E4 b xs),sh (.lst (ds rs)),si l,Ad,Ad,Ad,Ad,Ad] 7 Kj) (ds (FI p)) = .ok (ds ((FI p).filter λk=>decide (k*l%p=1))):=by
  refine Ks (FI p) λx hx=>⟨?_,?_⟩
  .obtain⟨x1,x2⟩:=K3.mp hx;have m:DD x l=Ab:=Hl (by omega) (by omega)
   simp[cG,Kf,m,p0];rw[Dg];simp
  .simp[cF,Kj]
 have g1:=M0 (Tl it);have c4:Bx (cG Z [si p,sh (E4 b xs),sh (.lst (ds rs)),si l,si t,Ad,Ad,Ad,Ad] 8 Mw) (cF Z [si p,sh (E4 b xs),sh (.lst (ds rs)),si l,si t,Ad,Ad,Ad,Ad] 8 Kh) (ds rs) = .ok (ds (rs.map λr=>t*r%p)):=by
  refine KJ rs λx _=>⟨rfl,?_⟩
  have m:DD x t=Ab:=La (by have:=it.1;omega) (by have:=it.2.1;omega)
  simp[cF,Kh,m,p0,C7]
 have ru:C3 1 p = .ok (ds (FI p)):=Up hp;have fe:fmI p t xs=rs.map λr=>t*r%p:=by rw[<-hR];simp[fmI,List.map_map,Function.comp_def]
 simp[Ku,Df.run,CM,Tn,c1,c2,g0,ru,c3,g1,c4,fe]
noncomputable def Bd(n:Af)(x:Aj):Prop:=x.natAbs<2 ^ n
theorem Bd.mul(h:Bd m x)(g:Bd n y):Bd (m+n) (x*y):=by
 unfold Bd at *;rw[Int.natAbs_mul,Nat.pow_add];exact Nat.mul_lt_mul'' h g
theorem Jp(h:Bd m x)(g:Bd n y)(hm:m<=2000)(hn:n<=2000):FX x y=Ab:=by
 unfold FX Bd at *;rw[An,AR,AR];exact⟨Ar h (EH (by decide) hm),Ar g (EH (by decide) hn)⟩
noncomputable def B3(a:R3):Prop:=Bd 300 a.1/\Bd 300 a.2.1/\Bd 300 a.2.2
noncomputable def Be(q:Ak)(a:R3):D:=E4 q [a.1,a.2.1,a.2.2]
theorem Yi(q:Ak)(a:R3):EU (Be q a) (.int 0) = .ok (.int a.1)/\EU (Be q a) (.int 1) = .ok (.int a.2.1)/\EU (Be q a) (.int 2) = .ok (.int a.2.2):=by cases q <;> exact⟨rfl,rfl,rfl⟩
section
variable{Z:Gam}{ns:Ac Aj}{p t:Aj}{a b c r:R3}{made s6 s7:Sl}
end
noncomputable def Ka:Df:=⟨1,Ae,(.cons (.ret (.and (.cons (.isi (.var 0) [.int]) (.cons (.no (.isi (.var 0) [.bool])) .nil)))) .nil)⟩
noncomputable def KY(Z:Gam):Prop := ∀ x:Aj,Z.F 85 [.int x] = .ok (.bl Ab)
theorem Uq(Z:Gam)(x:Aj):Ka.run Z [.int x] = .ok (.bl Ab):=by
 simp[Ka,Df.run,CM,kiD,DP]
noncomputable def Mv:E:=(.bl Ab)
noncomputable def Ke:E:=(.and (.cons (.call 85 (.cons (.var 3) .nil)) (.cons (.cmp2 .LtE .Lt (.int 0) (.var 3) (.var 1)) .nil)))
noncomputable def Kb:Df:=⟨4,Ae,(.cons (.ife (.or (.cons (.no (.isi (.var 0) [.tuple])) (.cons (.cmp .NotEq (.bi .len (.cons (.var 0) .nil)) (.var 2)) .nil))) (.cons (.ret (.bl Ae)) .nil) .nil) (.cons (.ret (.bi .all (.cons (.comp Ke 3 (.e (.var 0)) Mv) .nil))) .nil))⟩
noncomputable def NU(Z:Gam):Prop := ∀(p:Aj)(xs:Ac Aj),(∀ x∈xs,0<=x/\x<p)->Z.F 86 [.tup (ds xs),.int p,.int xs.length] = .ok (.bl Ab)
theorem Ur(h:KY Z)(p:Aj)(xs:Ac Aj)(hx : ∀ x∈xs,0<=x/\x<p):Kb.run Z [.tup (ds xs),.int p,.int xs.length] = .ok (.bl Ab):=by
 have c1:Bx (cG Z [sh (.tup (ds xs)),si p,si xs.length,Ad] 3 Mv) (cF Z [sh (.tup (ds xs)),si p,si xs.length,Ad] 3 Ke) (ds xs) = .ok (xs.map λ_=>D.bl Ab):=by
  refine N7 xs λx hm=>⟨rfl,?_⟩
  obtain⟨h0,h1⟩:=hx x hm;simp[cF,Ke,h x,h0,h1]
 have dl:(ds xs).length=xs.length:=Cb ..;simp[Kb,Df.run,CM,kiD,DP,dl,c1,NT]
section
variable{Z:Gam}{ns:Ac Aj}{p m:Aj}{a b c:R3}{fa fb fc:R3}{q:Ak}{s9 s0 s1 s2:Sl}
end
section
variable{Z:Gam}{p:Aj}{xs:Ac Aj}{b:Ak}
end
noncomputable def HL(a b c:R3):R3:=(a.1,b.1,c.1)
noncomputable def HK(a b c:R3):R3:=(a.2.1,b.2.1,c.2.1)
noncomputable def HJ(a b c:R3):R3:=(a.2.2,b.2.2,c.2.2)
noncomputable def F0(a x:R3):Aj:=a.1*x.1+a.2.1*x.2.1+a.2.2*x.2.2
theorem Js(hp:P4 p)(h0:0<=x)(h1:x<p):Bd 10 x:=by
 unfold Bd;have:=hp.hi;omega
theorem Bd.mono(h:Bd m x)(hm:m<=n):Bd n x:=Ar h (EH (by decide) hm)
noncomputable def Bn(n:Af)(a:R3):Prop:=Bd n a.1/\Bd n a.2.1/\Bd n a.2.2
theorem Bn.b3(h:Bn n a)(hn:n<=300):B3 a:=⟨h.1.mono hn,h.2.1.mono hn,h.2.2.mono hn⟩
theorem J7(hp:P4 p)(h:In3 p a):Bn 10 a:=⟨Js hp h.1.1 h.1.2,Js hp h.2.1.1 h.2.1.2,Js hp h.2.2.1 h.2.2.2⟩
noncomputable def Ct(k:Aj)(a:R3):R3:=(k*a.1,k*a.2.1,k*a.2.2)
noncomputable def fk0(p:Aj)(a b c d:R3):Aj:=Iz d b c%p
noncomputable def fs0(p:Aj)(a b c d:R3):R3:=Ct (fk0 p a b c d) a
noncomputable def CgR(p:Aj)(x y:R3):Prop:=Cg p x.1 y.1/\Cg p x.2.1 y.2.1/\Cg p x.2.2 y.2.2
section
variable{p:Aj}{a b c a' b' c' x y z x':R3}{k l m k':Aj}
theorem CgR.rfl:CgR p a a:=⟨Cg.rfl,Cg.rfl,Cg.rfl⟩
theorem CgR.of(h:a=b):CgR p a b:=by rw[h];exact CgR.rfl
theorem CgR.trans(h:CgR p a b)(g:CgR p b c):CgR p a c:=⟨h.1.trans g.1,h.2.1.trans g.2.1,h.2.2.trans g.2.2⟩
theorem CgR.symm(h:CgR p a b):CgR p b a:=⟨h.1.symm,h.2.1.symm,h.2.2.symm⟩
theorem CgR.sc(hk:Cg p k k')(h:CgR p a b):CgR p (Ct k a) (Ct k' b):=⟨hk.mul h.1,hk.mul h.2.1,hk.mul h.2.2⟩
theorem G3(ha:CgR p a a')(hb:CgR p b b'):Cg p (F0 a b) (F0 a' b'):=((ha.1.mul hb.1).add (ha.2.1.mul hb.2.1)).add (ha.2.2.mul hb.2.2)
theorem X1(ha:CgR p a a')(hb:CgR p b b')(hc:CgR p c c'):CgR p (HL a b c) (HL a' b' c')/\CgR p (HK a b c) (HK a' b' c')/\CgR p (HJ a b c) (HJ a' b' c'):=⟨⟨ha.1,hb.1,hc.1⟩,⟨ha.2.1,hb.2.1,hc.2.1⟩,⟨ha.2.2,hb.2.2,hc.2.2⟩⟩
noncomputable def ap(a b c x:R3):R3:=(F0 a x,F0 b x,F0 c x)
theorem Pa(k l:Aj)(x:R3):Ct k (Ct l x)=Ct (k*l) x:=by
 unfold Ct;simp only[Fb]
theorem Z_5(a b c x:R3)(k:Aj):ap a b c (Ct k x)=Ct k (ap a b c x):=by
 unfold ap Ct F0;refine GX ?_ (GX ?_ ?_) <;> (simp only;grind)
end
section
variable{p:Aj}{a b c f0 f1 f2 f3 g0 g1 g2 g3:R3}{d0 d1 d2 d3:Aj}
end
section
variable{Z:Gam}{ns:Ac Aj}
end
section
variable{Z:Gam}{ns:Ac Aj}{many s5 s6 s7 s8 s9 s0 s1 s2:Sl}{p:Aj}{a b c:R3}
end
noncomputable def Mt:E:=(.bl Ab)
noncomputable def Kd:E:=(.bin .Mod (.bin .FloorDiv (.call 79 (.cons (.var 0) (.cons (.bin .Add (.var 2) (.var 5)) .nil))) (.int 7)) (.var 1))
noncomputable def IH:Ss:=(.cons (.ife (.cmp .Eq (.bin .Mod (.bin .FloorDiv (.call 79 (.cons (.var 0) (.cons (.bin .Add (.var 2) (.int 6)) .nil))) (.bin .Add (.bin .Mult (.var 4) (.var 4)) (.int 1))) (.int 3)) (.int 0)) (.cons (.put 3 (.var 4) (.int 0)) .nil) .nil) .nil)
noncomputable def IR:Df:=⟨6,Ae,(.cons (.asg 3 Ab (.comp Kd 5 (.rng (.int 6)) Mt)) (.cons (.fors 4 (.rng (.int 6)) IH) (.cons (.ife (.cmp .Eq (.bi .count (.cons (.var 3) (.cons (.int 0) .nil))) (.int 6)) (.cons (.put 3 (.bin .Mod (.call 79 (.cons (.var 0) (.cons (.var 2) .nil))) (.int 6)) (.int 1)) .nil) .nil) (.cons (.ret (.call 82 (.cons (.var 1) (.cons (.var 3) .nil)))) .nil))))⟩
theorem Tq{g:D->R Ak}{f:D->R D}{φ:Af->Aj}(n:Af)(h : ∀ k,k<n->g (.int (0+(k:Aj))) = .ok Ab/\f (.int (0+(k:Aj))) = .ok (.int (φ k))):Bx g f (Da 0 n) = .ok (ds ((B1 n).map φ)):=by
 have key : ∀(L:Ac Af),(∀ k∈L,g (.int (0+(k:Aj))) = .ok Ab/\f (.int (0+(k:Aj))) = .ok (.int (φ k)))->Bx g f (L.map fun(k:Af)=>D.int (0+(k:Aj))) = .ok (ds (L.map φ)):=by
  intro L
  induction L with
  |nil=>intro _;rfl
  |cons k L ih=>
   intro h;obtain⟨h1,h2⟩:=h k (AM ..);show (g _).bind _=_;rw[h1,R.bind_ok,AD rfl,h2,R.bind_ok,ih λm hm=>h m (AG _ hm)]
   rfl
 exact key _ λk hk=>h k (Ck.mp hk)
theorem Qd : ∀ xs:Ac Aj,((ds xs).filter λy=>eqD y (.int 0)).length=(xs.filter λx=>decide (x=0)).length
 |[]=>rfl
 |x::xs=>by
  have ih:=Qd xs;have e:eqD (.int x) (.int 0)=decide (x=0):=by
   show (x==0)=_;rw[Dg];simp
  show (List.filter (λy=>eqD y (.int 0)) (D.int x::ds xs)).length=_
  rw[Cy,Cy,e];by_cases h:x=0
  .simp only[h,decide_true,if_true,Cf];rw[ih]
  .simp only[h,decide_false,E6,IF];exact ih
noncomputable def InL(p:Aj)(xs:Ac Aj):Prop := ∀ x∈xs,0<=x/\x<p
theorem InL.set(h:InL p xs)(k:Af){v:Aj}(h0:0<=v)(h1:v<p):InL p (xs.set k v):=λx hx=>by
 rcases List.mem_or_eq_of_mem_set hx with z|rfl
 .exact h x z
 .exact⟨h0,h1⟩
noncomputable def Lj(Z:Gam):Prop := ∀(ns:Ac Aj)(p at_:Aj),P4 p->0<=at_ -> ∃ xs:Ac Aj,xs.length=6/\InL p xs/\Cu p xs=Aa 1/\Z.F 124 [scr ns,.int p,.int at_] = .ok (.tup (ds xs))
section
variable{Z:Gam}{ns:Ac Aj}{p at_:Aj}
theorem O8(h:k<xs.length):plD (ds xs).length (k:Aj)=Aa k:=by
 have e:(ds xs).length=xs.length:=Cb ..;unfold plD;rw[e,AD (by omega),AD (by omega)]
 simp
theorem OM(xs:Ac Aj)(k:Af)(v:Aj):(ds xs).set k (.int v)=ds (xs.set k v):=by simp[ds]
theorem ZV(hk:k<6):(k:Aj)*k+1<1073741824:=by
 have:(k:Aj)*k<=5*k:=Int.mul_le_mul_of_nonneg_right (by omega) (by omega)
 omega
noncomputable def cvX:E := .call 79 (.cons (.var 0) (.cons (.bin .Add (.var 2) (.int 6)) .nil))
noncomputable def cvY:E := .bin .Add (.bin .Mult (.var 4) (.var 4)) (.int 1)
noncomputable def cvC:E := .cmp .Eq (.bin .Mod (.bin .FloorDiv cvX cvY) (.int 3)) (.int 0)
theorem aL{M:Aj}(m6:Z.F 79 [scr ns,D.int (at_+6)]=R.ok (D.int M)):evE Z [sh (scr ns),si p,si at_,own xs,si K,Ad] cvX = .ok (.int M):=by
 simp[cvX,m6]
theorem aK(mo:DD K K=Ab):evE Z [sh (scr ns),si p,si at_,own xs,si K,Ad] cvY = .ok (.int (K*K+1)):=by
 simp[cvY,mo]
theorem aO{M d:Aj}(b:Ak)(hc:decide (M/d%3=0)=b)(fd : ∀ x:Aj,Cj .FloorDiv (.int x) (.int d) = .ok (.int (x/d)))(hx:evE Z [sh (scr ns),si p,si at_,own xs,si K,Ad] cvX = .ok (.int M))(hy:evE Z [sh (scr ns),si p,si at_,own xs,si K,Ad] cvY = .ok (.int d)):evE Z [sh (scr ns),si p,si at_,own xs,si K,Ad] cvC = .ok (.bl b):=by
 have ht : ∀ r,top [sh (scr ns),si p,si at_,own xs,si K,Ad] cvX r=r:=λ_=>rfl
 have hu : ∀ r,top [sh (scr ns),si p,si at_,own xs,si K,Ad] cvY r=r:=λ_=>rfl
 rw[<-hc];unfold cvC;by_cases h:M/d%3=0
 .simp[-Jf,fd,hx,hy,h,ht,hu]
 .simp[-Jf,fd,hx,hy,h,ht,hu]
theorem aN(c:E)(a:Ss)(b:Ak)(hc:evE Z [sh (scr ns),si p,si at_,own xs,si K,Ad] c = .ok (.bl b))(ht : ∀ r,top [sh (scr ns),si p,si at_,own xs,si K,Ad] c r=r):evSs Z [sh (scr ns),si p,si at_,own xs,si K,Ad] (.cons (.ife c a .nil) .nil)=if b=Ab then evSs Z [sh (scr ns),si p,si at_,own xs,si K,Ad] a else .next [sh (scr ns),si p,si at_,own xs,si K,Ad]:=by
 cases b
 .simp[hc,ht]
 .simp[hc,ht]
theorem aM(pl:plD (ds xs).length K=Aa k):evSs Z [sh (scr ns),si p,si at_,own xs,si K,Ad] (.cons (.put 3 (.var 4) (.int 0)) .nil) = .next [sh (scr ns),si p,si at_,own (xs.set k 0),si K,Ad]:=by
 simp[N4,Ci,pl,OM]
theorem VN(hm:Im Z)(ha:0<=at_)(hp:0<p)(hl:xs.length=6)(hi:InL p xs)(hk:k<6)(s4:Sl) : ∃ ys,ys.length=6/\InL p ys/\Gn Z 4 IH (.int (0+(k:Aj))) [sh (scr ns),si p,si at_,own xs,s4,Ad] = .next [sh (scr ns),si p,si at_,own ys,si (0+(k:Aj)),Ad]:=by
 have m6:=hm ns (at_+6) (by omega)
 have mo:DD (k:Aj) (k:Aj)=Ab:=Hl (by omega) (by omega)
 have d0:0<(k:Aj)*k+1:=by have:=QE (QG k) (QG k);omega
 have d1:=ZV hk;have fd : ∀ x:Aj,Cj .FloorDiv (.int x) (.int ((k:Aj)*k+1)) = .ok (.int (x/((k:Aj)*k+1))):=λx=>by rw[Jf,AD ⟨d0,d1⟩]
 clear d0 d1
 have pl:=O8 (xs:=xs) (k:=k) (by omega)
 generalize ET ns (at_+6)=M at m6;rw[Fw];have e0:Gn Z 4 IH (.int (k:Aj)) [sh (scr ns),si p,si at_,own xs,s4,Ad]=evSs Z [sh (scr ns),si p,si at_,own xs,si (k:Aj),Ad] (.cons (.ife cvC (.cons (.put 3 (.var 4) (.int 0)) .nil) .nil) .nil):=rfl;rw[e0];generalize (k:Aj)=K at *;have ex:=aL (Z:=Z) (ns:=ns) (p:=p) (at_:=at_) (xs:=xs) (K:=K) m6;have ey:=aK (Z:=Z) (ns:=ns) (p:=p) (at_:=at_) (xs:=xs) (K:=K) mo;have ec:=aO _ rfl fd ex ey;have ei:=aN _ (.cons (.put 3 (.var 4) (.int 0)) .nil) _ ec (λ_=>rfl)
 rw[ei];by_cases hc:M/(K*K+1)%3=0
 .refine⟨xs.set k 0,by simpa using hl,hi.set k (by omega) hp,?_⟩
  rw[AD (bO hc)];exact aM pl
 .refine⟨xs,hl,hi,?_⟩;rw[AL (by rw[AR];exact hc)]
theorem Ve(hm:Im Z)(hf:NX Z)(f82:Z.fr 82=Ae)(hp:P4 p)(ha:0<=at_) : ∃ xs:Ac Aj,xs.length=6/\InL p xs/\Cu p xs=Aa 1/\IR.run Z [scr ns,.int p,.int at_] = .ok (.tup (ds xs)):=by
 have p0:=hp.pos;have ph:=hp.hi;have pl:=hp.lo;have c1:Bx (cG Z [sh (scr ns),si p,si at_,Ad,Ad,Ad] 5 Mt) (cF Z [sh (scr ns),si p,si at_,Ad,Ad,Ad] 5 Kd) (Da 0 6) = .ok (ds ((B1 6).map fun(k:Af)=>ET ns (at_+k)/7%p)):=by
  refine Tq 6 λk hk=>⟨rfl,?_⟩
  have m:=hm ns (at_+k) (by omega)
  simp[cF,Kd,m,p0]
 have i1:InL p ((B1 6).map fun(k:Af)=>ET ns (at_+k)/7%p):=λx hx=>by
  obtain⟨k,_,rfl⟩:=EC.mp hx;exact⟨Bz _ (by omega),Bl _ p0⟩
 generalize hR:((B1 6).map fun(k:Af)=>ET ns (at_+k)/7%p)=rs at c1 i1
 have l1:rs.length=6:=by rw[<-hR];simp
 obtain⟨U',e,xs,s4,h1,h2,rfl⟩:=K5 (body:=Gn Z 4 IH) (λU => ∃ xs s4,xs.length=6/\InL p xs/\U=[sh (scr ns),si p,si at_,own xs,s4,Ad]) (Da 0 6) [sh (scr ns),si p,si at_,own rs,Ad,Ad] ⟨rs,Ad,l1,i1,rfl⟩ (by
  rintro x hx U ⟨xs,s4,h1,h2,rfl⟩;obtain⟨k,hk,rfl⟩:=Na hx;obtain⟨ys,g1,g2,e⟩:=VN (Z:=Z) (ns:=ns) hm ha p0 h1 h2 hk s4;exact⟨_,e,ys,_,g1,g2,rfl⟩)
 have r6:C3 0 6 = .ok (Da 0 6):=rfl;have hcl : ∀ ys:Ac Aj,GO Ae (.tup (ds ys))=Ab:=λys=>Y_0 4 ys
 have fin : ∀(ys:Ac Aj),ys.length=6->InL p ys->(∃ x∈ys,x≠0) -> ∃ zs:Ac Aj,zs.length=6/\InL p zs/\Cu p zs=Aa 1/\Z.F 82 [.int p,.lst (ds ys)] = .ok (.tup (ds zs)):=λys g1 g2 ⟨x,hx,xz⟩=>by
  cases el:Cu p ys with
  |none=>
   have:=MW.mp el x hx;obtain⟨x0,x1⟩:=g2 x hx;rw[A3 x0 x1]at this;exact absurd this xz
  |some l=>
   obtain⟨lz,_,_⟩:=KD p0 el;obtain⟨t,t1,t2,t3⟩:=Jh hp lz;have tz:t%p≠0:=by rw[A3 (by omega) t2];omega
   have ff : ∀ x,(t*(x%p)%p)%p=t*x%p:=λx=>by rw[BR _ (C5 p),BU t (x%p) p,BR _ (C5 p),<-BU]
   have lv:=Nb hp tz (f:=λx=>t*(x%p)%p) ff ys
   rw[el]at lv;refine⟨fmI p t ys,by simpa [fmI] using g1,λx hx => ?_,?_,hf p Ae ys l t hp el ⟨t1,t2,t3⟩⟩
   .obtain⟨y,_,rfl⟩:=EC.mp hx;exact⟨Bz _ (by omega),Bl _ p0⟩
   .show Cu p (ys.map λx=>t*(x%p)%p)=_
    rw[lv,Q4,C7,t3]
 have ct:=Qd xs;by_cases hc:(xs.filter λx=>decide (x=0)).length=6
 .have mj:=hm ns at_ ha;have j0:0<=ET ns at_%6:=Bz _ (by decide)
  have j1:ET ns at_%6<6:=Bl _ (by decide)
  generalize hj:ET ns at_%6=j at j0 j1;obtain⟨n,rfl⟩ : ∃ n:Af,j=n:=⟨j.toNat,by omega⟩
  have pn:=O8 (xs:=xs) (k:=n) (by omega)
  obtain⟨zs,z1,z2,z3,z4⟩:=fin (xs.set n 1) (by simpa using h1) (h2.set n (by omega) (by omega)) ⟨1,List.mem_iff_getElem?.mpr ⟨n,by rw[Bm (by omega)]⟩,by decide⟩
  refine⟨zs,z1,z2,z3,?_⟩;have hc':(((xs.filter λx=>decide (x=0)).length:Af):Aj)=6:=by omega
  have bc:biD .count [.lst (ds xs),.int 0] = .ok (.int (((xs.filter λx=>decide (x=0)).length:Af):Aj)):=by
   rw[<-ct];show (if (flD 5 (.int 0)&&(ds xs).all (flD 5))=Ab then _ else R.bad)=_
   rw[Pl];rfl
  simp[IR,Df.run,CM,r6,c1,DG,e,bc,hc',mj,hj,N4,Ci,pn,OM,z4,f82,hcl,FY,shE]
 .obtain⟨zs,z1,z2,z3,z4⟩:=fin xs h1 h2 (by
   refine QA λh=>hc ?_
   rw[<-h1,List.length_filter_eq_length_iff];intro x hx;rw[AR];exact QA λz=>h ⟨x,hx,z⟩)
  refine⟨zs,z1,z2,z3,?_⟩;have hc' : ¬ (((xs.filter λx=>decide (x=0)).length:Af):Aj)=6:=by omega
  have bc:biD .count [.lst (ds xs),.int 0] = .ok (.int (((xs.filter λx=>decide (x=0)).length:Af):Aj)):=by
   rw[<-ct];show (if (flD 5 (.int 0)&&(ds xs).all (flD 5))=Ab then _ else R.bad)=_
   rw[Pl];rfl
  simp[IR,Df.run,CM,r6,c1,DG,e,bc,hc',z4,f82,hcl,FY,shE]
end
section
variable{Z:Gam}{ns:Ac Aj}{p t:Aj}
end
structure C6 where
 c0:Aj
 c1:Aj
 c2:Aj
 c3:Aj
 c4:Aj
 c5:Aj
noncomputable def C6.l(C:C6):Ac Aj:=[C.c0,C.c1,C.c2,C.c3,C.c4,C.c5]
noncomputable def A4(C:C6):D := .tup (ds C.l)
noncomputable def vI(C:C6)(x:R3):Aj:=C.c0*x.1*x.1+C.c1*x.2.1*x.2.1+C.c2*x.2.2*x.2.2+(C.c3*x.1*x.2.1+C.c4*x.1*x.2.2+C.c5*x.2.1*x.2.2)
noncomputable def tw0(C:C6):R3:=(2*C.c0,C.c3,C.c4)
noncomputable def tw1(C:C6):R3:=(C.c3,2*C.c1,C.c5)
noncomputable def tw2(C:C6):R3:=(C.c4,C.c5,2*C.c2)
noncomputable def bI(C:C6)(x y:R3):Aj:=F0 (ap (tw0 C) (tw1 C) (tw2 C) x) y
noncomputable def scC(k:Aj)(C:C6):C6:=⟨k*C.c0,k*C.c1,k*C.c2,k*C.c3,k*C.c4,k*C.c5⟩
noncomputable def CgC(p:Aj)(C D:C6):Prop:=Cg p C.c0 D.c0/\Cg p C.c1 D.c1/\Cg p C.c2 D.c2/\Cg p C.c3 D.c3/\Cg p C.c4 D.c4/\Cg p C.c5 D.c5
noncomputable def pb(C:C6)(a b c:R3):C6:=⟨vI C (HL a b c),vI C (HK a b c),vI C (HJ a b c),bI C (HL a b c) (HK a b c),bI C (HL a b c) (HJ a b c),bI C (HK a b c) (HJ a b c)⟩
section
variable{p:Aj}{C D E:C6}{a b c a' b' c' x y x' y':R3}{k k':Aj}
theorem C6.ext'(h0:C.c0=D.c0)(h1:C.c1=D.c1)(h2:C.c2=D.c2)(h3:C.c3=D.c3)(h4:C.c4=D.c4)(h5:C.c5=D.c5):C=D:=by
 cases C;cases D;simp_all
theorem CgC.rfl:CgC p C C:=⟨Cg.rfl,Cg.rfl,Cg.rfl,Cg.rfl,Cg.rfl,Cg.rfl⟩
theorem CgC.of(h:C=D):CgC p C D:=by rw[h];exact CgC.rfl
theorem CgC.symm(h:CgC p C D):CgC p D C:=⟨h.1.symm,h.2.1.symm,h.2.2.1.symm,h.2.2.2.1.symm,h.2.2.2.2.1.symm,h.2.2.2.2.2.symm⟩
theorem CgC.trans(h:CgC p C D)(g:CgC p D E):CgC p C E:=⟨h.1.trans g.1,h.2.1.trans g.2.1,h.2.2.1.trans g.2.2.1,h.2.2.2.1.trans g.2.2.2.1,h.2.2.2.2.1.trans g.2.2.2.2.1,h.2.2.2.2.2.trans g.2.2.2.2.2⟩
theorem CgC.sc(hk:Cg p k k')(h:CgC p C D):CgC p (scC k C) (scC k' D):=⟨hk.mul h.1,hk.mul h.2.1,hk.mul h.2.2.1,hk.mul h.2.2.2.1,hk.mul h.2.2.2.2.1,hk.mul h.2.2.2.2.2⟩
theorem LC(h:CgC p C D)(hx:CgR p x x'):Cg p (vI C x) (vI D x'):=
 (((((h.1.mul hx.1).mul hx.1).add ((h.2.1.mul hx.2.1).mul hx.2.1)).add ((h.2.2.1.mul hx.2.2).mul hx.2.2))).add ((((h.2.2.2.1.mul hx.1).mul hx.2.1).add ((h.2.2.2.2.1.mul hx.1).mul hx.2.2)).add ((h.2.2.2.2.2.mul hx.2.1).mul hx.2.2))
theorem YA(h:CgC p C D):CgR p (tw0 C) (tw0 D)/\CgR p (tw1 C) (tw1 D)/\CgR p (tw2 C) (tw2 D):=
 ⟨⟨Cg.rfl.mul h.1,h.2.2.2.1,h.2.2.2.2.1⟩,⟨h.2.2.2.1,Cg.rfl.mul h.2.1,h.2.2.2.2.2⟩,⟨h.2.2.2.2.1,h.2.2.2.2.2,Cg.rfl.mul h.2.2.1⟩⟩
theorem Yv(ha:CgR p a a')(hb:CgR p b b')(hc:CgR p c c')(hx:CgR p x x'):CgR p (ap a b c x) (ap a' b' c' x'):=⟨G3 ha hx,G3 hb hx,G3 hc hx⟩
theorem LX(h:CgC p C D)(hx:CgR p x x')(hy:CgR p y y'):Cg p (bI C x y) (bI D x' y'):=
 let ⟨t0,t1,t2⟩:=YA h
 G3 (Yv t0 t1 t2 hx) hy
theorem O5(h:CgC p C D)(ha:CgR p a a')(hb:CgR p b b')(hc:CgR p c c'):CgC p (pb C a b c) (pb D a' b' c'):=
 let ⟨s0,s1,s2⟩:=X1 ha hb hc
 ⟨LC h s0,LC h s1,LC h s2,LX h s0 s1,LX h s0 s2,LX h s1 s2⟩
theorem OR(k l:Aj)(C:C6):scC k (scC l C)=scC (k*l) C:=by
 unfold scC;simp only[Fb]
theorem NB(C:C6):scC 1 C=C:=by unfold scC;simp only[FR]
theorem Zk(k:Aj)(C:C6)(a b c:R3):pb (scC k C) a b c=scC k (pb C a b c):=by
 unfold pb scC vI bI ap tw0 tw1 tw2 F0;refine C6.ext' ?_ ?_ ?_ ?_ ?_ ?_ <;> (simp only;grind)
theorem WN(k:Aj)(C:C6)(a b c:R3):pb C (Ct k a) (Ct k b) (Ct k c)=scC (k*k) (pb C a b c):=by
 unfold pb scC vI bI ap tw0 tw1 tw2 F0 HL HK HJ Ct;refine C6.ext' ?_ ?_ ?_ ?_ ?_ ?_ <;> (simp only;grind)
noncomputable def PrC(p:Aj)(C D:C6):Prop := ∃ d,d%p≠0/\CgC p C (scC d D)
theorem PrC.rfl(hp:P4 p):PrC p C C:=⟨1,hp.o1,CgC.of (NB C).symm⟩
theorem PrC.trans(hp:P4 p)(i:PrC p C D)(j:PrC p D E):PrC p C E:=by
 obtain⟨d,dz,e⟩:=i;obtain⟨d',dz',e'⟩:=j;exact⟨d*d',Il hp dz dz',e.trans ((CgC.sc Cg.rfl e').trans (CgC.of (OR _ _ _)))⟩
theorem XN(hp:P4 p)(dz:k%p≠0) : ∃ u,u%p≠0/\Cg p (u*k) 1:=by
 obtain⟨u,u1,u2,u3⟩:=Jh hp dz;refine⟨u,by rw[A3 (by omega) u2];omega,?_⟩
 show u*k%p=1%p;rw[C7,u3,A3 (by decide) (by have:=hp.lo;omega)]
theorem PrC.symm(hp:P4 p)(i:PrC p C D):PrC p D C:=by
 obtain⟨d,dz,e⟩:=i;obtain⟨u,uz,o⟩:=XN hp dz;refine⟨u,uz,?_⟩;have q:=CgC.sc (k:=u) (k':=u) Cg.rfl e;rw[OR]at q;exact(q.trans ((CgC.sc o CgC.rfl).trans (CgC.of (NB D)))).symm
theorem PrC.pb(i:PrC p C D):PrC p (OvC.pb C a b c) (OvC.pb D a b c):=by
 obtain⟨d,dz,e⟩:=i;exact⟨d,dz,(O5 e CgR.rfl CgR.rfl CgR.rfl).trans (CgC.of (Zk d D a b c))⟩
theorem PrC.tab(hp:P4 p)(kz:k%p≠0)(ha:CgR p a (Ct k a'))(hb:CgR p b (Ct k b'))(hc:CgR p c (Ct k c')):PrC p (OvC.pb C a b c) (OvC.pb C a' b' c'):=
 ⟨k*k,Il hp kz kz,(O5 CgC.rfl ha hb hc).trans (CgC.of (WN k C a' b' c'))⟩
noncomputable def InC(p:Aj)(C:C6):Prop := ∀ x∈C.l,0<=x/\x<p
end
noncomputable def Lf:Df:=⟨5,Ae,(.cons (.asg 3 Ae (.bin .Add (.bin .Add (.bin .Mult (.bin .Mult (.idx (.var 1) (.int 0)) (.idx (.var 2) (.int 0))) (.idx (.var 2) (.int 0))) (.bin .Mult (.bin .Mult (.idx (.var 1) (.int 1)) (.idx (.var 2) (.int 1))) (.idx (.var 2) (.int 1)))) (.bin .Mult (.bin .Mult (.idx (.var 1) (.int 2)) (.idx (.var 2) (.int 2))) (.idx (.var 2) (.int 2))))) (.cons (.asg 4 Ae (.bin .Add (.bin .Add (.bin .Mult (.bin .Mult (.idx (.var 1) (.int 3)) (.idx (.var 2) (.int 0))) (.idx (.var 2) (.int 1))) (.bin .Mult (.bin .Mult (.idx (.var 1) (.int 4)) (.idx (.var 2) (.int 0))) (.idx (.var 2) (.int 2)))) (.bin .Mult (.bin .Mult (.idx (.var 1) (.int 5)) (.idx (.var 2) (.int 1))) (.idx (.var 2) (.int 2))))) (.cons (.ret (.call 1 (.cons (.var 0) (.cons (.bin .Add (.var 3) (.var 4)) .nil)))) .nil)))⟩
theorem ix6(C:C6):EU (A4 C) (.int 0) = .ok (.int C.c0)/\EU (A4 C) (.int 1) = .ok (.int C.c1)/\EU (A4 C) (.int 2) = .ok (.int C.c2)/\EU (A4 C) (.int 3) = .ok (.int C.c3)/\EU (A4 C) (.int 4) = .ok (.int C.c4)/\EU (A4 C) (.int 5) = .ok (.int C.c5):=⟨rfl,rfl,rfl,rfl,rfl,rfl⟩
structure BC (C:C6):Prop where
 b0:Bd 10 C.c0
 b1:Bd 10 C.c1
 b2:Bd 10 C.c2
 b3:Bd 10 C.c3
 b4:Bd 10 C.c4
 b5:Bd 10 C.c5
theorem InC.b{C:C6}(hp:P4 p)(h:InC p C):BC C:=by
 have k : ∀ x∈C.l,Bd 10 x:=λx hx=>Js hp (h x hx).1 (h x hx).2
 exact⟨k _ (by simp[C6.l]),k _ (by simp[C6.l]),k _ (by simp[C6.l]),k _ (by simp[C6.l]),k _ (by simp[C6.l]),k _ (by simp[C6.l])⟩
noncomputable def IY(Z:Gam):Prop := ∀(p:Aj)(C:C6)(x:R3),P4 p->InC p C->In3 p x->Z.F 126 [.int p,A4 C,Be Ab x] = .ok (.int (vI C x%p))
theorem Vb(hr:OH Z)(p:Aj)(C:C6)(x:R3)(hp:P4 p)(iC:InC p C)(ix:In3 p x):Lf.run Z [.int p,A4 C,Be Ab x] = .ok (.int (vI C x%p)):=by
 obtain⟨i0,i1,i2,i3,i4,i5⟩:=ix6 C;obtain⟨x0,x1,x2⟩:=Yi Ab x;have bC:=iC.b hp;have bx:=J7 hp ix;have k : ∀ {u v},Bd 10 u->Bd 10 v->FX u v=Ab:=λhu hv=>Jp hu hv (by decide) (by decide)
 have k2 : ∀ {u v w},Bd 10 u->Bd 10 v->Bd 10 w->FX (u*v) w=Ab:=λhu hv hw=>Jp (hu.mul hv) hw (by decide) (by decide)
 simp[Lf,Df.run,CM,i0,i1,i2,i3,i4,i5,x0,x1,x2,k bC.b0 bx.1,k bC.b1 bx.2.1,k bC.b2 bx.2.2,k bC.b3 bx.1,k bC.b4 bx.1,k bC.b5 bx.2.1,k2 bC.b0 bx.1 bx.1,k2 bC.b1 bx.2.1 bx.2.1,k2 bC.b2 bx.2.2 bx.2.2,k2 bC.b3 bx.1 bx.2.1,k2 bC.b4 bx.1 bx.2.2,k2 bC.b5 bx.2.1 bx.2.2,hr p _ hp.pos];rfl
noncomputable def t0(p:Aj)(C:C6):R3:=(2*C.c0%p,C.c3,C.c4)
noncomputable def t1(p:Aj)(C:C6):R3:=(C.c3,2*C.c1%p,C.c5)
noncomputable def t2(p:Aj)(C:C6):R3:=(C.c4,C.c5,2*C.c2%p)
section
variable{Z:Gam}{ns:Ac Aj}{p at_:Aj}{φ:Aj->Aj}
end
noncomputable def Pr(p:Aj)(x y:R3):Prop := ∃ d,d%p≠0/\CgR p x (Ct d y)
section
variable{p:Aj}{a b c x y z f g h:R3}{k:Aj}
theorem OS(x:R3):Ct 1 x=x:=by unfold Ct;simp only[FR]
theorem Pr.rfl(hp:P4 p):Pr p x x:=⟨1,hp.o1,CgR.of (OS x).symm⟩
theorem Pr.trans(hp:P4 p)(i:Pr p x y)(j:Pr p y z):Pr p x z:=by
 obtain⟨d,dz,e⟩:=i;obtain⟨d',dz',e'⟩:=j;exact⟨d*d',Il hp dz dz',e.trans ((CgR.sc Cg.rfl e').trans (CgR.of (Pa _ _ _)))⟩
theorem Pr.symm(hp:P4 p)(i:Pr p x y):Pr p y x:=by
 obtain⟨d,dz,e⟩:=i;obtain⟨u,u1,u2,u3⟩:=Jh hp dz;have uz:u%p≠0:=by rw[A3 (by omega) u2];omega
 have o:Cg p (u*d) 1:=by
  show u*d%p=1%p;rw[C7,u3,A3 (by decide) (by have:=hp.lo;omega)]
 refine⟨u,uz,?_⟩;have q:=CgR.sc (k:=u) (k':=u) Cg.rfl e;rw[Pa]at q;exact(q.trans ((CgR.sc o CgR.rfl).trans (CgR.of (OS y)))).symm
theorem PD{a' b' c' x':R3}(ha:CgR p a a')(hb:CgR p b b')(hc:CgR p c c')(hx:CgR p x x'):CgR p (ap a b c x) (ap a' b' c' x'):=⟨G3 ha hx,G3 hb hx,G3 hc hx⟩
theorem Pr.ap(i:Pr p x y):Pr p (OvC.ap a b c x) (OvC.ap a b c y):=by
 obtain⟨d,dz,e⟩:=i;exact⟨d,dz,(PD CgR.rfl CgR.rfl CgR.rfl e).trans (CgR.of (Z_5 a b c y d))⟩
theorem Yu(k:Aj)(a b c x:R3):ap (Ct k a) (Ct k b) (Ct k c) x=Ct k (ap a b c x):=by
 unfold ap Ct F0;refine GX ?_ (GX ?_ ?_) <;> (simp only;grind)
theorem Pr.tab{a' b' c':R3}(kz:k%p≠0)(ha:CgR p a (Ct k a'))(hb:CgR p b (Ct k b'))(hc:CgR p c (Ct k c')):Pr p (OvC.ap a b c x) (OvC.ap a' b' c' x):=
 ⟨k,kz,(PD ha hb hc CgR.rfl).trans (CgR.of (Yu k a' b' c' x))⟩
end
noncomputable def tri(g:R3):Ac Aj:=[g.1,g.2.1,g.2.2]
section
variable{p:Aj}{a b c a' b' c' f0 f1 f2 f3 g0 g1 g2 g3 h0 h1 h2 h3:R3}
end
section
variable{Z:Gam}{ns:Ac Aj}{p:Aj}
end
section
variable{Z:Gam}{ns:Ac Aj}{mid:Af}{p:Aj}{a b c:R3}{s2 s4 s5 s6 s7 s8:Sl}
end
theorem S0{lo hi:Aj}(h1 : -1000<=lo)(h2:lo<=1000)(h3 : -1000<=hi)(h4:hi<=1000):C3 lo hi = .ok (Da lo (hi-lo).toNat):=by
 unfold C3;rw[AD (by refine⟨⟨by omega,by omega⟩,⟨by omega,by omega⟩,?_⟩;omega)]
theorem Yb(h:1<p):Cu p [0,0,1]=Aa 1:=by
 simp[Cu,A3 (by decide:(0:Aj)<=1) h]
theorem ZS(h:1<p)(z:Aj):Cu p [0,1,z]=Aa 1:=by
 simp[Cu,A3 (by decide:(0:Aj)<=1) h]
theorem bG(h:1<p)(y z:Aj):Cu p [1,y,z]=Aa 1:=by
 simp[Cu,A3 (by decide:(0:Aj)<=1) h]
theorem XX(x:R3):flD 5 (Be Ab x)=Ab/\eqD (Be Ab x) (Be Ab x)=Ab:=by
 refine⟨rfl,?_⟩;show eqDs (ds [x.1,x.2.1,x.2.2]) (ds [x.1,x.2.1,x.2.2])=Ab;rw[Oz]
section
variable{Z:Gam}{ns:Ac Aj}{p:Aj}{C:C6}{s3 s4 s5 s6 s7 s8:Sl}
end
section
variable{Z:Gam}{ns:Ac Aj}
end
section
variable{Z:Gam}{ns:Ac Aj}{p:Aj}{C:C6}{s3 s4 s5 s6 s7 s8:Sl}
end
noncomputable def NF(p:Aj)(x:R3):Prop:=In3 p x/\Cu p (tri x)=Aa 1
noncomputable def ptI(p n:Aj):R3:=if n=0 then (0,0,1) else if n<=p then (0,1,n-1) else (1,(n-p-1)/p,(n-p-1)%p)
noncomputable def DI(p:Aj):Ac R3:=(B1 (p*p+p+1).toNat).map fun(n:Af)=>ptI p n
theorem Ze{n:Aj}(hp:P4 p)(h0:0<=n)(h1:n<p*p+p+1):NF p (ptI p n):=by
 have p1:1<p:=by have:=hp.lo;omega
 have p0:=hp.pos;unfold ptI;by_cases z:n=0
 .rw[AD z];exact⟨⟨⟨by decide,p0⟩,⟨by decide,p0⟩,⟨by decide,p1⟩⟩,Yb p1⟩
 .rw[AL z];by_cases z1:n<=p
  .rw[AD z1];exact⟨⟨⟨QD 0,p0⟩,⟨(by decide:(0:Aj)<=1),p1⟩,⟨by show 0<=n-1;omega,by show n-1<p;omega⟩⟩,ZS p1 _⟩
  .rw[AL z1];have d0:0<=(n-p-1)/p:=Int.ediv_nonneg (by omega) (by omega)
   have d1:(n-p-1)/p<p:=by rw[Int.ediv_lt_iff_lt_mul p0];omega
   exact⟨⟨⟨(by decide:(0:Aj)<=1),p1⟩,⟨d0,d1⟩,⟨Bz _ (by omega),Bl _ p0⟩⟩,bG p1 _ _⟩
theorem Y_3{x:R3}(hp:P4 p)(h:NF p x) : ∃ n:Aj,0<=n/\n<p*p+p+1/\x=ptI p n:=by
 obtain⟨⟨i0,i1,i2⟩,l⟩:=h;have p1:1<p:=by have:=hp.lo;omega
 have p0:=hp.pos;have pp:=GU p0 p0;obtain⟨x0,x1,x2⟩:=x;simp only at i0 i1 i2;unfold tri Cu at l;simp only at l;rw[A3 i0.1 i0.2]at l;by_cases z0:x0=0
 .rw[AD z0]at l;unfold Cu at l;rw[A3 i1.1 i1.2]at l;by_cases z1:x1=0
  .rw[AD z1]at l;unfold Cu at l;rw[A3 i2.1 i2.2]at l;by_cases z2:x2=0
   .rw[AD z2]at l;cases l
   .rw[AL z2,Ea]at l;exact⟨0,QD 0,by omega,by rw[z0,z1,l];rfl⟩
  .rw[AL z1,Ea]at l;refine⟨x2+1,by omega,by omega,?_⟩
   unfold ptI;rw[AL (by omega),AD (by omega),z0,l,Int.add_sub_cancel]
 .rw[AL z0,Ea]at l;have m1:p*x1<=p*(p-1):=Int.mul_le_mul_of_nonneg_left (by omega) (by omega)
  have m0:0<=p*x1:=QE (by omega) i1.1
  rw[Int.mul_sub,GS]at m1;refine⟨p+1+p*x1+x2,by omega,by omega,?_⟩
  unfold ptI;have e:p+1+p*x1+x2-p-1=x2+p*x1:=by omega
  rw[AL (by omega),AL (by omega),e,Int.add_mul_ediv_left _ _ (by omega),Int.ediv_eq_zero_of_lt i2.1 i2.2,Int.add_mul_emod_self_left,A3 i2.1 i2.2,Fw,l]
theorem Ld{x:R3}(hp:P4 p):x∈DI p↔NF p x:=by
 have p0:=hp.pos;have pp:=GU p0 p0;constructor
 .intro h;obtain⟨n,hn,rfl⟩:=EC.mp h;have:=Ck.mp hn;exact Ze hp (by omega) (by omega)
 .intro h;obtain⟨n,n0,n1,rfl⟩:=Y_3 hp h;refine List.mem_map.mpr ⟨n.toNat,Ck.mpr (by omega),?_⟩
  rw[Int.toNat_of_nonneg n0]
noncomputable def q4(w:Af)(k:Aj)(y:R3):Aj:=match w with
  |0=>y.1*y.2.2-y.2.1*y.2.1
  |1=>y.1*y.1
  |2=>y.1*y.2.1
  |_=>y.1*y.1-k*(y.2.1*y.2.1)
noncomputable def D3(p:Aj)(C:C6):Ac R3:=(DI p).filter λx=>decide (vI C x%p=0)
noncomputable def ES(pts:Ac R3):D := .lst (pts.map (Be Ab))
theorem KI{g:D->R Ak}{f:D->R D}{q:R3->Ak} : ∀(xs:Ac R3),(∀ x∈xs,g (Be Ab x) = .ok (q x)/\f (Be Ab x) = .ok (Be Ab x))->Bx g f (xs.map (Be Ab)) = .ok ((xs.filter q).map (Be Ab))
 |[],_=>rfl
 |x::xs,h=>by
  obtain⟨h1,h2⟩:=h x (AM ..);have ih:=KI xs λy hy=>h y (AG _ hy)
  show (g (Be Ab x)).bind _=_;rw[h1,R.bind_ok,Cy];cases hq:q x with
  |true=>
   rw[AD rfl,AD rfl,h2,R.bind_ok,show Bx g f (HQ (Be Ab) xs)=_ from ih]
   rfl
  |false=>
   rw[AL (by decide),AL (by decide)]
   exact ih
noncomputable def SN:Ss:=(.cons (.app 1 (.tup (.cons (.int 0) (.cons (.int 1) (.cons (.var 2) .nil))))) .nil)
noncomputable def SU:E:=(.bl Ab)
noncomputable def SQ:E:=(.tup (.cons (.int 1) (.cons (.var 3) (.cons (.var 4) .nil))))
noncomputable def SV:Ss:=(.cons (.ext 1 (.comp SQ 4 (.rng (.var 0)) SU)) .nil)
noncomputable def MJ:Df:=⟨5,Ab,(.cons (.asg 1 Ab (.lst (.cons (.tup (.cons (.int 0) (.cons (.int 0) (.cons (.int 1) .nil)))) .nil))) (.cons (.fors 2 (.rng (.var 0)) SN) (.cons (.fors 3 (.rng (.var 0)) SV) (.cons (.ret (.var 1)) .nil))))⟩
noncomputable def PF(Z:Gam):Prop := ∀ p:Aj,P4 p->Z.F 69 [.int p] = .ok (ES (DI p))
theorem Y_8(Z:Gam)(p:Aj)(hp:P4 p):MJ.run Z [.int p] = .ok (ES (DI p)):=by
 rcases hp with rfl|rfl|rfl|rfl <;> kernel_rfl!
noncomputable def J8:E:=(.cmp .Eq (.call 126 (.cons (.var 0) (.cons (.var 1) (.cons (.var 2) .nil)))) (.int 0))
noncomputable def J9:E:=(.var 2)
noncomputable def Kt:Df:=⟨3,Ab,(.cons (.ret (.comp J9 2 (.e (.call 69 (.cons (.var 0) .nil))) J8)) .nil)⟩
noncomputable def NW(Z:Gam):Prop := ∀(p:Aj)(C:C6),P4 p->InC p C->Z.F 128 [.int p,A4 C] = .ok (ES (D3 p C))
theorem Vc(ht:PF Z)(hv:IY Z)(p:Aj)(C:C6)(hp:P4 p)(iC:InC p C):Kt.run Z [.int p,A4 C] = .ok (ES (D3 p C)):=by
 have e1:=ht p hp;have cp:Bx (cG Z [si p,sh (A4 C),Ad] 2 J8) (cF Z [si p,sh (A4 C),Ad] 2 J9) ((DI p).map (Be Ab)) = .ok ((D3 p C).map (Be Ab)):=by
  refine KI (DI p) λx hx=>⟨?_,?_⟩
  .have e:=hv p C x hp iC ((Ld hp).mp hx).1;generalize vI C x%p=v at *;simp[cG,J8,e];rw[Dg];simp
  .simp[cF,J9]
 have sq:CK (ES (DI p)) = .ok ((DI p).map (Be Ab)):=rfl;generalize DI p=A at *;generalize ES A=AA at *;simp[Kt,Df.run,CM,e1,sq,cp];rfl
section
variable{Z:Gam}{p i j k d N:Aj}{PP x y u:D}{RL:Ac D}{s t s' t' v:Sl}
end
section
variable{Z:Gam}{p:Aj}{pts:Ac R3}
end
theorem V4 : ∀ pts:Ac R3,flD 5 (ES pts)=Ab/\eqD (ES pts) (ES pts)=Ab:=λpts=>by
 have k1 : ∀ l:Ac R3,(l.map (Be Ab)).all (flD 4)=Ab:=λl=>by
  rw[Bg];intro x hx;obtain⟨y,_,rfl⟩:=EC.mp hx;rfl
 have k2 : ∀ l:Ac R3,eqDs (l.map (Be Ab)) (l.map (Be Ab))=Ab:=λl=>by
  induction l with
  |nil=>rfl
  |cons x l ih=>
   show (eqD (Be Ab x) (Be Ab x)&&eqDs (l.map (Be Ab)) (l.map (Be Ab)))=Ab;rw[(XX x).2,ih];rfl
 exact⟨k1 pts,k2 pts⟩
noncomputable def Ia:Df:=⟨2,Ae,(.cons (.asg 1 Ae (.bin .Mod (.var 1) (.bin .Add (.bin .Add (.bin .Mult (.var 0) (.var 0)) (.var 0)) (.int 1)))) (.cons (.ife (.cmp .Eq (.var 1) (.int 0)) (.cons (.ret (.tup (.cons (.int 0) (.cons (.int 0) (.cons (.int 1) .nil))))) .nil) .nil) (.cons (.ife (.cmp .LtE (.var 1) (.var 0)) (.cons (.ret (.tup (.cons (.int 0) (.cons (.int 1) (.cons (.bin .Sub (.var 1) (.int 1)) .nil))))) .nil) .nil) (.cons (.ret (.tup (.cons (.int 1) (.cons (.bin .FloorDiv (.bin .Sub (.bin .Sub (.var 1) (.var 0)) (.int 1)) (.var 0)) (.cons (.bin .Mod (.bin .Sub (.bin .Sub (.var 1) (.var 0)) (.int 1)) (.var 0)) .nil))))) .nil))))⟩
noncomputable def Yx(Z:Gam):Prop := ∀(p n:Aj),P4 p->Z.F 93 [.int p,.int n] = .ok (Be Ab (ptI p (n%(p*p+p+1))))
theorem pN{n:Aj}(hp:P4 p):0<p*p+p+1/\0<=n%(p*p+p+1)/\n%(p*p+p+1)<p*p+p+1:=by
 have p0:=hp.pos;have N0:0<p*p+p+1:=by have:=GU p0 p0;omega
 exact⟨N0,Bz n (Int.ne_of_gt N0),Bl n N0⟩
theorem WW(Z:Gam)(p n:Aj)(hp:P4 p):Ia.run Z [.int p,.int n] = .ok (Be Ab (ptI p (n%(p*p+p+1)))):=by
 have pp:DD p p=Ab:=Hl (by have:=hp.lo;omega) (by have:=hp.hi;omega)
 have p0:=hp.pos;have ph:=hp.hi;obtain⟨N0,h0,h1⟩:=pN (n:=n) hp;have pb:p<1073741824:=by omega
 generalize hr:n%(p*p+p+1)=r at *;unfold ptI;by_cases z0:r=0
 .rw[AD z0];simp[Ia,Df.run,CM,pp,N0,hr,z0];rfl
 .rw[AL z0];by_cases z1:r<=p
  .rw[AD z1];simp[Ia,Df.run,CM,pp,N0,hr,z0,z1];rfl
  .rw[AL z1];simp[Ia,Df.run,CM,pp,N0,hr,z0,z1,p0,pb];rfl
noncomputable def KA:E:=(.bl Ab)
noncomputable def H9:E:=(.call 93 (.cons (.var 0) (.cons (.var 1) .nil)))
noncomputable def KP:Df:=⟨2,Ae,(.cons (.ret (.comp H9 1 (.rng (.bin .Add (.bin .Add (.bin .Mult (.var 0) (.var 0)) (.var 0)) (.int 1))) KA)) .nil)⟩
noncomputable def NY(Z:Gam):Prop := ∀ p:Aj,P4 p->Z.F 94 [.int p] = .ok (ES (DI p))
theorem Vf(h:Yx Z)(p:Aj)(hp:P4 p):KP.run Z [.int p] = .ok (ES (DI p)):=by
 have pp:DD p p=Ab:=Hl (by have:=hp.lo;omega) (by have:=hp.hi;omega)
 have N1:0<=p*p+p+1/\p*p+p+1<=1000:=by rcases hp with rfl|rfl|rfl|rfl <;> decide
 have rg:C3 0 (p*p+p+1) = .ok (Da 0 (p*p+p+1-0).toNat):=S0 (by decide) (by decide) (by omega) (by omega)
 rw[Gu]at rg;have cp:Bx (cG Z [si p,Ad] 1 KA) (cF Z [si p,Ad] 1 H9) (Da 0 (p*p+p+1).toNat) = .ok ((DI p).map (Be Ab)):=by
  have key : ∀ L:Ac Af,(∀ k∈L,(k:Aj)<p*p+p+1)->Bx (cG Z [si p,Ad] 1 KA) (cF Z [si p,Ad] 1 H9) (L.map fun(k:Af)=>D.int (0+(k:Aj))) = .ok ((L.map fun(n:Af)=>ptI p n).map (Be Ab)):=λL=>by
   induction L with
   |nil=>intro _;rfl
   |cons k L ih=>
    intro hL;have e:=h p k hp;rw[A3 (by omega) (hL k AM)]at e
    have f:cF Z [si p,Ad] 1 H9 (.int (0+(k:Aj))) = .ok (Be Ab (ptI p k)):=by
     rw[Fw];simp[cF,H9,e]
    have ih':=ih λm hm=>hL m (AG _ hm)
    show (R.ok Ab).bind _=_;rw[R.bind_ok,AD rfl,f,R.bind_ok,show Bx _ _ (HQ _ L)=_ from ih']
    rfl
  exact key _ λk hk=>by have:=Ck.mp hk;omega
 generalize hN:p*p+p+1=N at *;generalize Da 0 N.toNat=RL at *;have e1:p*p+p+1=N:=hN;simp[KP,Df.run,CM,pp,e1,rg,cp];rfl
noncomputable def Kn:E:=(.bl Ab)
noncomputable def Ko:E:=(.bin .Mult (.var 7) (.var 8))
noncomputable def KQ:Df:=⟨9,Ae,(.cons (.asgT [3,4,5] (.var 2)) (.cons (.asg 6 Ae (.lst (.cons (.bin .Mult (.var 3) (.var 3)) (.cons (.bin .Mult (.var 4) (.var 4)) (.cons (.bin .Mult (.var 5) (.var 5)) (.cons (.bin .Mult (.var 3) (.var 4)) (.cons (.bin .Mult (.var 3) (.var 5)) (.cons (.bin .Mult (.var 4) (.var 5)) .nil)))))))) (.cons (.ret (.bin .Mod (.bi .sum (.cons (.compT Ko [7,8] (.zip (.var 1) (.var 6)) Kn) .nil)) (.var 0))) .nil)))⟩
noncomputable def OG(Z:Gam):Prop := ∀(p:Aj)(C:C6)(q:Ak)(x:R3),P4 p->InC p C->Bn 10 x->Z.F 129 [.int p,A4 C,Be q x] = .ok (.int (vI C x%p))
theorem WU(Z:Gam)(p:Aj)(C:C6)(q:Ak)(x:R3)(hp:P4 p)(iC:InC p C)(bx:Bn 10 x):KQ.run Z [.int p,A4 C,Be q x] = .ok (.int (vI C x%p)):=by
 have p0:=hp.pos;have bC:=iC.b hp;have k : ∀ {u v},Bd 10 u->Bd 10 v->FX u v=Ab:=λhu hv=>Jp hu hv (by decide) (by decide)
 have k2 : ∀ {u v w},Bd 10 u->Bd 10 v->Bd 10 w->FX u (v*w)=Ab:=λhu hv hw=>Jp hu (hv.mul hw) (by decide) (by decide)
 obtain⟨c0,c1,c2,c3,c4,c5⟩:=C;obtain⟨x0,x1,x2⟩:=x;have q00:=k bx.1 bx.1;have q11:=k bx.2.1 bx.2.1;have q22:=k bx.2.2 bx.2.2;have q01:=k bx.1 bx.2.1;have q02:=k bx.1 bx.2.2;have q12:=k bx.2.1 bx.2.2;have m0:=k2 bC.b0 bx.1 bx.1;have m1:=k2 bC.b1 bx.2.1 bx.2.1;have m2:=k2 bC.b2 bx.2.2 bx.2.2;have m3:=k2 bC.b3 bx.1 bx.2.1;have m4:=k2 bC.b4 bx.1 bx.2.2;have m5:=k2 bC.b5 bx.2.1 bx.2.2;simp only at q00 q11 q22 q01 q02 q12 m0 m1 m2 m3 m4 m5;have sC:CK (A4 ⟨c0,c1,c2,c3,c4,c5⟩) = .ok [.int c0,.int c1,.int c2,.int c3,.int c4,.int c5]:=rfl;have as : ∀ U:Rho,GK [3,4,5] (Be q (x0,x1,x2)) U = .ok (((U.set 3 (si x0)).set 4 (si x1)).set 5 (si x2)):=λ_=>by cases q <;> rfl
 have ev:vI ⟨c0,c1,c2,c3,c4,c5⟩ (x0,x1,x2)=c0*(x0*x0)+c1*(x1*x1)+c2*(x2*x2)+c3*(x0*x1)+c4*(x0*x2)+c5*(x1*x2):=by
  unfold vI;simp only;grind
 rw[ev];generalize A4 ⟨c0,c1,c2,c3,c4,c5⟩=cC at *;generalize Be q (x0,x1,x2)=xx at *;generalize hz0:x0*x0=z0 at *;generalize hz1:x1*x1=z1 at *;generalize hz2:x2*x2=z2 at *;generalize hz3:x0*x1=z3 at *;generalize hz4:x0*x2=z4 at *;generalize hz5:x1*x2=z5 at *;have cp:Bx (cGT Z [si p,sh cC,sh xx,si x0,si x1,si x2,sh (.lst [.int z0,.int z1,.int z2,.int z3,.int z4,.int z5]),Ad,Ad] [7,8] Kn) (cFT Z [si p,sh cC,sh xx,si x0,si x1,si x2,sh (.lst [.int z0,.int z1,.int z2,.int z3,.int z4,.int z5]),Ad,Ad] [7,8] Ko) (Ec [.int c0,.int c1,.int c2,.int c3,.int c4,.int c5] [.int z0,.int z1,.int z2,.int z3,.int z4,.int z5]) = .ok [.int (c0*z0),.int (c1*z1),.int (c2*z2),.int (c3*z3),.int (c4*z4),.int (c5*z5)]:=by
  simp[Bx,cGT,cFT,Ec,Ko,Kn,m0,m1,m2,m3,m4,m5]
 generalize hs:c0*z0+c1*z1+c2*z2+c3*z3+c4*z4+c5*z5=s;have sm:FJ 0 [.int (c0*z0),.int (c1*z1),.int (c2*z2),.int (c3*z3),.int (c4*z4),.int (c5*z5)] = .ok s:=by rw[<-hs];simp[FJ]
 simp[KQ,Df.run,CM,as,q00,q11,q22,q01,q02,q12,hz0,hz1,hz2,hz3,hz4,hz5,sC,cp,sm,p0]
noncomputable def HY:Ss:=(.cons (.asg 7 Ae (.call 79 (.cons (.var 0) (.cons (.bin .Add (.int 15) (.var 6)) .nil)))) (.cons (.asg 8 Ae (.tup (.cons (.bin .Mod (.var 7) (.var 1)) (.cons (.bin .Mod (.bin .FloorDiv (.var 7) (.var 1)) (.var 1)) (.cons (.bin .Mod (.bin .FloorDiv (.var 7) (.int 121)) (.var 1)) .nil))))) (.cons (.asg 9 Ae (.call 129 (.cons (.var 1) (.cons (.var 2) (.cons (.var 8) .nil))))) (.cons (.ife (.or (.cons (.no (.call 85 (.cons (.call 126 (.cons (.var 1) (.cons (.var 2) (.cons (.var 8) .nil)))) .nil))) (.cons (.cmp .NotEq (.call 126 (.cons (.var 1) (.cons (.var 2) (.cons (.var 8) .nil)))) (.var 9)) (.cons (.cmp .NotEq (.clo 4 (.var 8)) (.var 9)) .nil)))) (.cons (.ret (.bl Ae)) .nil) .nil) (.cons (.ife (.or (.cons (.cmp .NotEq (.clo 5 (.var 8)) (.call 129 (.cons (.var 1) (.cons (.var 3) (.cons (.var 8) .nil))))) (.cons (.no (.call 85 (.cons (.clo 4 (.var 8)) .nil))) .nil))) (.cons (.ret (.bl Ae)) .nil) .nil) .nil)))))
noncomputable def Ky:E:=(.cmp .Eq (.call 129 (.cons (.var 1) (.cons (.var 2) (.cons (.var 11) .nil)))) (.int 0))
noncomputable def Kz:E:=(.var 11)
noncomputable def Kx:E:=(.bl Ab)
noncomputable def HZ:E:=(.call 86 (.cons (.var 12) (.cons (.var 1) (.cons (.int 3) .nil))))
noncomputable def JG:S:=(.asg 1 Ae (.call 81 (.cons (.var 0) .nil)))
noncomputable def JF:S:=(.asg 2 Ae (.call 124 (.cons (.var 0) (.cons (.var 1) (.cons (.int 1) .nil)))))
noncomputable def JE:S:=(.asg 3 Ae (.call 124 (.cons (.var 0) (.cons (.var 1) (.cons (.int 8) .nil)))))
noncomputable def JD:Ss:=(.cons (.fors 6 (.rng (.int 20)) HY) (.cons (.asg 9 Ae (.comp Kz 11 (.e (.call 94 (.cons (.var 1) .nil))) Ky)) (.cons (.asg 10 Ab (.call 128 (.cons (.var 1) (.cons (.var 2) .nil)))) (.cons (.lnd (.or (.cons (.no (.isi (.var 10) [.list])) (.cons (.cmp .NotEq (.var 10) (.var 9)) (.cons (.no (.bi .all (.cons (.comp HZ 12 (.e (.var 10)) Kx) .nil))) .nil)))) (.cons (.ret (.bl Ae)) .nil) .nil) (.cons (.app 10 (.tup (.cons (.int 0) (.cons (.int 0) (.cons (.int 0) .nil))))) (.cons (.ret (.cmp .Eq (.call 128 (.cons (.var 1) (.cons (.var 2) .nil))) (.var 9))) .nil))))))
noncomputable def BY(x1 x2:Ai)(p:Aj)(C:C6):D := .obj 50 [(x1,.int p),(x2,A4 C)]
structure H32 (Z:Gam):Prop where
 mi:Im Z
 pr:NV Z
 cu:Lj Z
 va:IY Z
 v9:OG Z
 al:NY Z
 pt:NW Z
 fr:Z.fr 128=Ab
 wh:KY Z
 re:NU Z
section
variable{Z:Gam}{ns:Ac Aj}{p:Aj}{C E:C6}{x1 x2:Ai}
theorem Qc(h:Lj Z)(at_:Aj)(hp:P4 p)(ha:0<=at_) : ∃ C:C6,InC p C/\Z.F 124 [scr ns,.int p,.int at_] = .ok (A4 C):=by
  obtain⟨xs,hl,hi,_,e⟩:=h ns p at_ hp ha
  match xs,hl with
  |[a,b,c,d,e',f],_=>exact⟨⟨a,b,c,d,e',f⟩,hi,e⟩
theorem Pd(h:IY Z)(hp:P4 p)(iC:InC p C){x:R3}(ix:In3 p x):JX Z.F (.ok (BY x1 x2 p C)) (.ok (Be Ab x)) = .ok (.int (vI C x%p)):=by
 have e:=h p C x hp iC ix;show (R.ok (Be Ab x)).bind (λy=>if (Dk (.int p)&&Dk (A4 C)&&Dk y)=Ab then noX (Z.F 126 [.int p,A4 C,y]) else .bad)=_
 have hs:(Dk (.int p)&&Dk (A4 C)&&Dk (Be Ab x))=Ab:=rfl;rw[R.bind_ok,AD hs,e];rfl
theorem WB(h:H32 Z)(hp:P4 p)(iC:InC p C)(iE:InC p E)(k:Aj)(hk:0<=k)(s6 s7 s8 s9:Sl) : ∃ s7' s8' s9',Gn Z 6 HY (.int k) [sh (scr ns),si p,sh (A4 C),sh (A4 E),sh (BY x1 x2 p C),sh (BY x1 x2 p E),s6,s7,s8,s9,Ad,Ad,Ad] = .next [sh (scr ns),si p,sh (A4 C),sh (A4 E),sh (BY x1 x2 p C),sh (BY x1 x2 p E),si k,s7',s8',s9',Ad,Ad,Ad]:=by
 have em:=h.mi ns (15+k) (by omega)
 generalize ET ns (15+k)=m at *;have p0:=hp.pos;have ph:=hp.hi;have pb:p<1073741824:=by omega
 have ix:In3 p (m%p,m/p%p,m/121%p):=⟨⟨Bz _ (by omega),Bl _ p0⟩,⟨Bz _ (by omega),Bl _ p0⟩,Bz _ (by omega),Bl _ p0⟩
 have e1:=h.va p C _ hp iC ix;have e2:=h.v9 p C Ab _ hp iC (J7 hp ix);have e3:=h.v9 p E Ab _ hp iE (J7 hp ix);have e4:=Pd (x1:=x1) (x2:=x2) h.va hp iC ix;have e5:=Pd (x1:=x1) (x2:=x2) h.va hp iE ix;have er:Be Ab (m%p,m/p%p,m/121%p) = .tup [.int (m%p),.int (m/p%p),.int (m/121%p)]:=rfl;rw[er]at e1 e2 e3 e4 e5;have w1:=h.wh (vI C (m%p,m/p%p,m/121%p)%p);generalize vI C (m%p,m/p%p,m/121%p)%p=v at *;generalize vI E (m%p,m/p%p,m/121%p)%p=u at *;generalize BY x1 x2 p C=c4 at *;generalize BY x1 x2 p E=c5 at *;generalize A4 C=cC at *;generalize A4 E=cE at *;generalize scr ns=S at *;refine⟨si m,sh (.tup [.int (m%p),.int (m/p%p),.int (m/121%p)]),si v,?_⟩;simp[Gn,HY,em,p0,pb,e1,e2,e3,e4,e5,w1]
theorem X9(h:H32 Z)(hp:P4 p)(iC:InC p C)(iE:InC p E) : ∃ s6 s7 s8 s9:Sl,E5 (Gn Z 6 HY) (Da 0 20) [sh (scr ns),si p,sh (A4 C),sh (A4 E),sh (BY x1 x2 p C),sh (BY x1 x2 p E),Ad,Ad,Ad,Ad,Ad,Ad,Ad] = .next [sh (scr ns),si p,sh (A4 C),sh (A4 E),sh (BY x1 x2 p C),sh (BY x1 x2 p E),s6,s7,s8,s9,Ad,Ad,Ad]:=by
 obtain⟨U,e,s6,s7,s8,s9,rfl⟩:=K5 (body:=Gn Z 6 HY) (λU => ∃ s6 s7 s8 s9:Sl,U=[sh (scr ns),si p,sh (A4 C),sh (A4 E),sh (BY x1 x2 p C),sh (BY x1 x2 p E),s6,s7,s8,s9,Ad,Ad,Ad]) (Da 0 20) [sh (scr ns),si p,sh (A4 C),sh (A4 E),sh (BY x1 x2 p C),sh (BY x1 x2 p E),Ad,Ad,Ad,Ad,Ad,Ad,Ad] ⟨Ad,Ad,Ad,Ad,rfl⟩ (by
  rintro x hx U ⟨s6,s7,s8,s9,rfl⟩;obtain⟨k,hk,rfl⟩:=Na hx;obtain⟨s7',s8',s9',e⟩:=WB (ns:=ns) (x1:=x1) (x2:=x2) h hp iC iE (0+(k:Aj)) (by omega) s6 s7 s8 s9
  exact⟨_,e,_,_,_,_,rfl⟩)
 exact⟨s6,s7,s8,s9,e⟩
theorem WT(h:H32 Z)(hp:P4 p)(iC:InC p C)(iE:InC p E):evSs Z [sh (scr ns),si p,sh (A4 C),sh (A4 E),sh (BY x1 x2 p C),sh (BY x1 x2 p E),Ad,Ad,Ad,Ad,Ad,Ad,Ad] JD = .ret (.bl Ab) Ae:=by
 obtain⟨s6,s7,s8,s9,lo⟩:=X9 (ns:=ns) (x1:=x1) (x2:=x2) h hp iC iE;have rg:C3 0 20 = .ok (Da 0 20):=S4 (by decide) (by decide)
 have ea:=h.al p hp;have ep:=h.pt p C hp iC;have sq:CK (ES (DI p)) = .ok ((DI p).map (Be Ab)):=rfl;have cp : ∀ s9,Bx (cG Z [sh (scr ns),si p,sh (A4 C),sh (A4 E),sh (BY x1 x2 p C),sh (BY x1 x2 p E),s6,s7,s8,s9,Ad,Ad,Ad] 11 Ky) (cF Z [sh (scr ns),si p,sh (A4 C),sh (A4 E),sh (BY x1 x2 p C),sh (BY x1 x2 p E),s6,s7,s8,s9,Ad,Ad,Ad] 11 Kz) ((DI p).map (Be Ab)) = .ok ((D3 p C).map (Be Ab)):=λs9=>by
  refine KI (DI p) λx hx=>⟨?_,?_⟩
  .have e:=h.v9 p C Ab x hp iC (J7 hp ((Ld hp).mp hx).1);generalize vI C x%p=v at *;generalize BY x1 x2 p C=c4 at *;generalize BY x1 x2 p E=c5 at *;generalize A4 C=cC at *;generalize A4 E=cE at *;generalize Be Ab x=X at *;simp[cG,Ky,e];rw[Dg];simp
  .generalize Be Ab x=X at *;simp[cF,Kz]
 have cp2 : ∀ s6 s7 s8 s9 s10:Sl,Bx (cG Z [sh (scr ns),si p,sh (A4 C),sh (A4 E),sh (BY x1 x2 p C),sh (BY x1 x2 p E),s6,s7,s8,s9,s10,Ad,Ad] 12 Kx) (cF Z [sh (scr ns),si p,sh (A4 C),sh (A4 E),sh (BY x1 x2 p C),sh (BY x1 x2 p E),s6,s7,s8,s9,s10,Ad,Ad] 12 HZ) ((D3 p C).map (Be Ab)) = .ok ((D3 p C).map λ_=>D.bl Ab):=λs6 s7 s8 s9 s10=>by
  have key : ∀ l:Ac R3,(∀ x∈l,In3 p x)->Bx (cG Z [sh (scr ns),si p,sh (A4 C),sh (A4 E),sh (BY x1 x2 p C),sh (BY x1 x2 p E),s6,s7,s8,s9,s10,Ad,Ad] 12 Kx) (cF Z [sh (scr ns),si p,sh (A4 C),sh (A4 E),sh (BY x1 x2 p C),sh (BY x1 x2 p E),s6,s7,s8,s9,s10,Ad,Ad] 12 HZ) (l.map (Be Ab)) = .ok (l.map λ_=>D.bl Ab):=λl=>by
   induction l with
   |nil=>intro _;rfl
   |cons x l ih=>
    intro hl;have i3:=hl x (AM ..);have e:Z.F 86 [Be Ab x,.int p,.int 3] = .ok (.bl Ab):=h.re p [x.1,x.2.1,x.2.2] (by
     intro y hy;obtain⟨a,b,c⟩:=i3;rcases AK.mp hy with rfl|hy
     .exact a
     .rcases AK.mp hy with rfl|hy
      .exact b
      .rw[A6.mp hy];exact c)
    have f1:cF Z [sh (scr ns),si p,sh (A4 C),sh (A4 E),sh (BY x1 x2 p C),sh (BY x1 x2 p E),s6,s7,s8,s9,s10,Ad,Ad] 12 HZ (Be Ab x) = .ok (.bl Ab):=by
     generalize BY x1 x2 p C=c4 at *;generalize BY x1 x2 p E=c5 at *;generalize A4 C=cC at *;generalize A4 E=cE at *;generalize Be Ab x=X at *;simp[cF,HZ,e]
    show (R.ok Ab).bind _=_;rw[R.bind_ok,AD rfl,f1,R.bind_ok,show Bx _ _ (HQ _ l)=_ from ih λy hy=>hl y (AG _ hy)]
    rfl
  exact key _ λx hx=>by
   unfold D3 at hx;exact((Ld hp).mp (DS.mp hx).1).1
 have al:biD .all [.lst ((D3 p C).map λ_=>D.bl Ab)] = .ok (.bl Ab):=by
  show (Ew ((D3 p C).map λ_=>D.bl Ab)).bind _=_
  have : ∀ l:Ac R3,Ew (l.map λ_=>D.bl Ab) = .ok Ab:=λl=>by
   induction l with
   |nil=>rfl
   |cons _ l ih=>
    show (Ew (l.map λ_=>D.bl Ab)).bind _=_
    rw[ih];rfl
  rw[this];rfl
 obtain⟨f3,f4⟩:=V4 (D3 p C);have nl:GO Ab (ES (D3 p C))=Ab:=by
  show (Ab&&((D3 p C).map (Be Ab)).all (nlD 5))=Ab;rw[Fx];exact Bg.mpr λ_ _=>rfl
 have hz:CD (((D3 p C).map (Be Ab)).length+1)=Ab:=by
  refine Nat.ble_eq.mpr ?_;rw[Cb];have h1:(D3 p C).length<=(DI p).length:=by
   unfold D3;exact List.length_filter_le _ _
  have h2:(DI p).length<=1000:=by rcases hp with rfl|rfl|rfl|rfl <;> decide+kernel
  omega
 have fr:=h.fr;unfold ES at ep f3 f4 nl ea sq;generalize (D3 p C).map (λ_=>D.bl Ab)=BT at *
 generalize (D3 p C).map (Be Ab)=PT at *;generalize (DI p).map (Be Ab)=AP at *;generalize BY x1 x2 p C=c4 at *;generalize BY x1 x2 p E=c5 at *;generalize A4 C=cC at *;generalize A4 E=cE at *;generalize Da 0 20=R1 at *;generalize scr ns=S at *;have sA : ∀ s9:Sl,shA [sh S,si p,sh cC,sh cE,sh c4,sh c5,s6,s7,s8,Aa (.lst PT,Ae),Aa (.lst PT,Ab),Ad,Ad]=[sh S,si p,sh cC,sh cE,sh c4,sh c5,shS s6,shS s7,shS s8,sh (.lst PT),sh (.lst PT),Ad,Ad]:=λ_=>rfl
 have sA:=sA Ad;simp[JD,rg,lo,ea,cp,NO,DG,fr,ep,nl,sA,cp2,al,f3,f4,Ci,hz]
end
noncomputable def aC:Af->Ac Af:=λ_=>[]
noncomputable def Z_9:Af->Ac D->R Ex:=λ_ _ => .bad
noncomputable def Q32:Prg:=⟨Ab,fun
 |1=>Lx
 |69=>MJ
 |126=>Lf
 |128=>Kt
 |79=>IG
 |81=>Kc
 |82=>Ku
 |93=>Ia
 |94=>KP
 |129=>KQ
 |124=>IR
 |85=>Ka
 |86=>Kb
 | _=>⟨0,Ae,.nil⟩,λ_ => .non,aC,Z_9⟩
theorem ZU(x1 x2:Ai):Ql (gam Q32 6) x1 x2 JG JF JE JD:=by
 have rs : ∀ n,OH (gam Q32 (n+1)):=λn p m hp=>WV (gam Q32 n) p m hp
 have mi : ∀ n,Im (gam Q32 (n+1)):=λn ns k hk=>WX (gam Q32 n) ns k hk
 have f2 : ∀ n,NX (gam Q32 (n+1)):=λn p b xs l t hp e it=>Vd (gam Q32 n) hp e it
 have va : ∀ n,IY (gam Q32 (n+2)):=λn p C x hp iC ix=>Vb (rs n) p C x hp iC ix
 have tr : ∀ n,PF (gam Q32 (n+1)):=λn p hp=>Y_8 (gam Q32 n) p hp
 have pt : ∀ n,NW (gam Q32 (n+3)):=λn p C hp iC=>Vc (tr (n+1)) (va n) p C hp iC
 have al : ∀ n,NY (gam Q32 (n+2)):=λn p hp=>Vf (Z:=gam Q32 (n+1)) (λp m hp=>WW (gam Q32 n) p m hp) p hp
 have wh : ∀ n,KY (gam Q32 (n+1)):=λn x=>Uq (gam Q32 n) x
 have re : ∀ n,NU (gam Q32 (n+2)):=λn p xs hx=>Ur (wh n) p xs hx
 have pr : ∀ n,NV (gam Q32 (n+2)):=λn ns=>Us (mi n) ns
 have v9 : ∀ n,OG (gam Q32 (n+1)):=λn p C q x hp iC bx=>WU (gam Q32 n) p C q x hp iC bx
 have cu : ∀ n,Lj (gam Q32 (n+2)):=λn ns p at_ hp ha=>Ve (mi n) (f2 n) rfl hp ha
 have H:H32 (gam Q32 6):=⟨mi 5,pr 4,cu 4,va 4,v9 5,al 4,pt 3,rfl,wh 5,re 4⟩;intro ns hl;obtain⟨p,hp,ep⟩ : ∃ p,P4 p/\(gam Q32 6).F 81 [scr ns] = .ok (.int p):=⟨_,W5 _,H.pr ns⟩;obtain⟨C,iC,e1⟩:=Qc (ns:=ns) H.cu 1 hp (by decide)
 obtain⟨E,iE,e2⟩:=Qc (ns:=ns) H.cu 8 hp (by decide)
 have re:=WT (ns:=ns) (x1:=x1) (x2:=x2) H hp iC iE;refine⟨.int p,A4 C,A4 E,Ae,rfl,rfl,rfl,?_,?_,?_,re⟩
 .generalize gam Q32 6=G at *;show evS G [sh (scr ns),Ad,Ad,Ad,Ad,Ad,Ad,Ad,Ad,Ad,Ad,Ad,Ad] JG = .next [sh (scr ns),si p,Ad,Ad,Ad,Ad,Ad,Ad,Ad,Ad,Ad,Ad,Ad];generalize scr ns=S at *;simp[JG,ep]
 .generalize gam Q32 6=G at *;show evS G [sh (scr ns),si p,Ad,Ad,Ad,Ad,Ad,Ad,Ad,Ad,Ad,Ad,Ad] JF = .next [sh (scr ns),si p,sh (A4 C),Ad,Ad,Ad,Ad,Ad,Ad,Ad,Ad,Ad,Ad];generalize A4 C=cC at *;generalize scr ns=S at *;simp[JF,e1]
 .generalize gam Q32 6=G at *;show evS G [sh (scr ns),si p,sh (A4 C),Ad,Ad,Ad,Ad,Ad,Ad,Ad,Ad,Ad,Ad] JE = .next [sh (scr ns),si p,sh (A4 C),sh (A4 E),Ad,Ad,Ad,Ad,Ad,Ad,Ad,Ad,Ad];generalize A4 C=cC at *;generalize A4 E=cE at *;generalize scr ns=S at *;simp[JE,e2]
end OvC
namespace OvC
open PySem PySem.Spec PyProof.Rows Ov L2
variable{l:Dy}
noncomputable def tp32(i:Af):AJ:=PySem.Challenge.pw_ovalfield_k32_values_and_points.main.body.getD i (.Pass ⟨0,0,0,0⟩)
noncomputable def LK:Ac (Ai × Af × Af):=([("rest",1,2),("triples",69,1),("value",126,3),("points_of",128,2),("_law_mixed",79,2),("_law_prime",81,1),("_law_form",82,2),("_law_triple",93,2),("_law_all",94,1),("_law_value",129,3),("_law_curve",124,3),("_law_whole",85,1),("_law_rests",86,3)]:Ac (Ai × Af × Af))
noncomputable def Mj:Ac Ai:=["all", "bool", "int", "isinstance", "len", "list", "range", "sum", "tuple", "zip"]
noncomputable def LD:Ac (Ai × Af):=[]
noncomputable def LM:Ac (Ai × Af):=[]
noncomputable def LJ:Ac (Ai × Af):=[]
noncomputable abbrev C32(h:Ak)(n:Af)(N:Ac Ai)(i d:Af):Ak:=F1 80 h LK Mj LD LM LJ (N.take n) N (tp32 i) (Q32.defs d)
theorem Ym:C32 Ae 2 ["p", "n"] 1 1=Ab:=by decide+kernel
theorem Yl:C32 Ae 1 ["p", "told", "z", "y", "#4"] 3 69=Ab:=by decide+kernel
theorem Yk:C32 Ae 3 ["p", "curve", "point", "squares", "products"] 5 126=Ab:=by decide+kernel
theorem XM:C32 Ae 2 ["p", "curve", "#2"] 7 128=Ab:=by decide+kernel
theorem XJ:C32 Ae 2 ["_law_script", "_law_k", "_law_cell"] 9 79=Ab:=by decide+kernel
theorem XI:C32 Ae 1 ["_law_script"] 10 81=Ab:=by decide+kernel
theorem XH:C32 Ae 2 ["_law_p", "_law_numbers", "_law_rests_here", "_law_first", "_law_over", "#5", "#6", "#7", "#8"] 11 82=Ab:=by decide+kernel
theorem XG:C32 Ae 2 ["_law_p", "_law_number"] 12 93=Ab:=by decide+kernel
theorem XF:C32 Ae 1 ["_law_p", "#1"] 13 94=Ab:=by decide+kernel
theorem XE:C32 Ae 3 ["_law_p", "_law_curve_here", "_law_point", "_law_x", "_law_y", "_law_z", "_law_terms", "#7", "#8"] 14 129=Ab:=by decide+kernel
theorem VS:C32 Ae 3 ["_law_script", "_law_p", "_law_at", "_law_rests_here", "_law_k", "#5"] 15 124=Ab:=by decide+kernel
theorem VR:C32 Ae 1 ["_law_found"] 16 85=Ab:=by decide+kernel
theorem VQ:C32 Ae 3 ["_law_found", "_law_p", "_law_many", "#3"] 17 86=Ab:=by decide+kernel
theorem VP:scB (tp32 18) ["_law_script", "_law_p", "_law_one", "_law_other", "_law_asked", "_law_other_asked", "_law_k", "_law_cell", "_law_point", "_law_due", "_law_found", "#11", "#12"]=Ab:=by decide+kernel
theorem aP:Mf 80 ⟨Ba (tp32 18),["_law_script", "_law_p", "_law_one", "_law_other", "_law_asked", "_law_other_asked", "_law_k", "_law_cell", "_law_point", "_law_due", "_law_found", "#11", "#12"],LK,Mj,LD,LM,LJ,Ab⟩ (C9 (tp32 18)) JG JF JE JD=Ab:=by decide+kernel
theorem aA:ValT (tp32 6) "point" 1 2:=⟨by kernel_rfl,λ_ _ _ _ _ _ _ _ _=>by kernel_rfl,λ_ _ _=>by kernel_rfl,by decide,λ_=>by kernel_rfl,λ_=>by kernel_rfl,by decide+kernel,λ_ _ _=>by kernel_rfl,by kernel_rfl,by kernel_rfl,λ_ _ _=>by kernel_rfl,by decide+kernel,λ_ _ _ _ _ _ _ => .of_eq (by kernel_rfl),λ_ _ _ _ _ _ _ _=>by kernel_rfl⟩
set_option maxHeartbeats 0 in
theorem all32{w:AH}{K:Fg}{h:As}{mg:Ai->Ao Ah}{fa f0 f1 f2 f3 f4 f5 f6 f7 f8 f9 f10 f11 f12 f13:Ag}(X:K.In h)(G:h.Ns AF mg)(hfa:mg "law" = Aa (.ref fa)){fv cv pv:Ag}(a0:FnI K f0 "rest" (tp32 1))(a1:FnI K f1 "triples" (tp32 3))(a2:FnI K f2 "value" (tp32 5))(a3:FnI K f3 "points_of" (tp32 7))(a4:FnI K f4 "_law_mixed" (tp32 9))(a5:FnI K f5 "_law_prime" (tp32 10))(a6:FnI K f6 "_law_form" (tp32 11))(a7:FnI K f7 "_law_triple" (tp32 12))(a8:FnI K f8 "_law_all" (tp32 13))(a9:FnI K f9 "_law_value" (tp32 14))(a10:FnI K f10 "_law_curve" (tp32 15))(a11:FnI K f11 "_law_whole" (tp32 16))(a12:FnI K f12 "_law_rests" (tp32 17))(a13:FnI K f13 "law" (tp32 18))(vv:FnV K fv cv pv (tp32 6))(z0:Bj K AF "all" = Aa Ad)(z1:Bj K AF "bool" = Aa Ad)(z2:Bj K AF "int" = Aa Ad)(z3:Bj K AF "isinstance" = Aa Ad)(z4:Bj K AF "len" = Aa Ad)(z5:Bj K AF "list" = Aa Ad)(z6:Bj K AF "range" = Aa Ad)(z7:Bj K AF "sum" = Aa Ad)(z8:Bj K AF "tuple" = Aa Ad)(z9:Bj K AF "zip" = Aa Ad):
  ∃ fd:Bh,(∀(s:Al)(v:Ah),Dp s fd ⟨[v],[]⟩ [("_law_script",v)]) /\ ∃ c P,CV K "valuer" = Aa (c,P)/\K.lookup P=Ad /\ ∀ base:As,K.In base->base.Ns AF mg->B6 base c P->Gp mg base->FnOk l.prog w K mg base (CXR l.prog w) 8 fa fd ["_law_script"] (Jg K P):=by
 obtain⟨_,F,e⟩:=a13;obtain⟨_,_,_,_,_,_,_,_,_,rfl,_,_⟩:=F.ex;cases hfa.symm.trans (Ek X G e);have T:Tab K mg (λ_=>Ad) LK Mj LD LM LJ Q32 80:=⟨UI λ_ _=>rfl,all_cons (BA X G z0) (all_cons (BA X G z1) (all_cons (BA X G z2) (all_cons (BA X G z3) (all_cons (BA X G z4) (all_cons (BA X G z5) (all_cons (BA X G z6) (all_cons (BA X G z7) (all_cons (BA X G z8) (all_cons (BA X G z9) (Lh)))))))))),Lh,all_cons (Iy 2 1 X G a0 rfl Ym λ_ _ _ _ _ _ _ _=>rfl) (all_cons (JO 1 69 X G a1 rfl Yl λ_ _ _ _ _ _ _=>rfl) (all_cons (JN 3 126 X G a2 rfl Yk λ_ _ _ _ _ _ _ _ _=>rfl) (all_cons (Iy 2 128 X G a3 rfl XM λ_ _ _ _ _ _ _ _=>rfl) (all_cons (Iy 2 79 X G a4 rfl XJ λ_ _ _ _ _ _ _ _=>rfl) (all_cons (JO 1 81 X G a5 rfl XI λ_ _ _ _ _ _ _=>rfl) (all_cons (Iy 2 82 X G a6 rfl XH λ_ _ _ _ _ _ _ _=>rfl) (all_cons (Iy 2 93 X G a7 rfl XG λ_ _ _ _ _ _ _ _=>rfl) (all_cons (JO 1 94 X G a8 rfl XF λ_ _ _ _ _ _ _=>rfl) (all_cons (JN 3 129 X G a9 rfl XE λ_ _ _ _ _ _ _ _ _=>rfl) (all_cons (JN 3 124 X G a10 rfl VS λ_ _ _ _ _ _ _ _ _=>rfl) (all_cons (JO 1 85 X G a11 rfl VR λ_ _ _ _ _ _ _=>rfl) (all_cons (JN 3 86 X G a12 rfl VQ λ_ _ _ _ _ _ _ _ _=>rfl) (Lh)))))))))))))⟩
 obtain⟨av,tb,kp⟩:=vv;exact⟨_,λs v => .of_eq rfl,cv,pv,tb,kp,λbase _ _ hC hB=>T6 T (Ph F) VP aP aA av (by obtain⟨_,_,e2⟩:=av;exact Ek X G e2) (by decide+kernel) tb hC hB (ZU _ _)⟩
theorem walk32{q:Ay}{loose:Ac Ai}{XP:(Ai->Ao Ah)->As->Prop}{YP:AH->As->Prop}{d:HS}{K:Hb->Fg}(hn:l.most=Aa 63)(hdf:d.params.defaults=[])(hv:((recsOf q).find? (λe=>e.name==("valuer" : Ai))).isSome=Ab)(hY : ∀(w:AH)(h:As),YP w h->(K w.params).In h)(F : ∀(w:AH)(mg:Ai->Ao Ah)(fa:Ag)(h:As),(K w.params).In h->h.Ns AF mg->mg d.name=Aa (.ref fa) ->
   ∃ fd:Bh,(∀(s:Al)(u:Ah),Dp s fd ⟨[u],[]⟩ [("_law_script",u)]) /\ ∃ c P,CV (K w.params) "valuer" = Aa (c,P)/\(K w.params).lookup P=Ad /\ ∀ base:As,(K w.params).In base->base.Ns AF mg->B6 base c P->Gp mg base->FnOk l.prog w (K w.params) mg base (CXR l.prog w) 8 fa fd ["_law_script"] (Jg (K w.params) P)):Gs q loose XP YP l.row.toRowW d [] (λf vs=>Gd f vs):=
 S6 (n:=63) (k:=8) (x := "_law_script") (v := "valuer") (CX:=λw=>CXR l.prog w) (sp:=λw P=>Jg (K w.params) P) hn (by decide) hdf ⟨rfl,by decide,by decide,rfl⟩ hv hY F (λ_ H a P ns hl hO hS=>⟨a,ns,rfl,hl,hO,hS,λ_ _ z=>z⟩) λ_ _ _ _ _ z=>X0 z
end OvC
open PySem PySem.W PyProof.Rows
noncomputable def OvC.view32:PySem.Program := { PySem.Challenge.pw_ovalfield_k32_values_and_points with main := {PySem.Challenge.pw_ovalfield_k32_values_and_points.main with body:=[OvC.tp32 1,OvC.tp32 3,OvC.tp32 5,OvC.tp32 6,OvC.tp32 7,OvC.tp32 9,OvC.tp32 10,OvC.tp32 11,OvC.tp32 12,OvC.tp32 13,OvC.tp32 14,OvC.tp32 15,OvC.tp32 16,OvC.tp32 17,OvC.tp32 18]} }
set_option hygiene false
local macro_rules | `(tactic| o_head $H) => `(tactic| refine holds_open (q := OvC.view32) (loose := []) (Xt := fun s => xlAt OvC.view32 [] s&&recOk (RowW.records (OpenRow.toRowW (PySem.Challenge.rw_ovalfield_k32_values_and_points.row))) s) (XP := XL OvC.view32 []) (Yf := Hook.obs $H) (Ya := Hook.val $H) (YP := Hook.says $H) (N := 1044) ?hl (Hook.of $H) (Hook.keeps $H) (fun s e => xl_of s (Bool.and_eq_true_iff.mp e).1) XL.keeps (by rfl) (by rfl) (by rfl) (fun s e => recFacts_of (Bool.and_eq_true_iff.mp e).2) (by rfl) (by first|assumption|decide +kernel) (by decide +kernel) ⟨rfl, rfl, rfl, rfl, rfl, by decide +kernel⟩ ?hw ?hc)
set_option maxRecDepth 100000 in
set_option maxHeartbeats 0 in
theorem PySem.Challenge.cw_ovalfield_k32_values_and_points_holds : PySem.Challenge.rw_ovalfield_k32_values_and_points.Holds := by
 w_on;refine holds_law (by decide+kernel) λsaid => ?_;k_head
 (case hl=>intro w;unfold openEnds fencedOpening topFrom;rw[PySem.W.Fast.te10274390034422433532,PySem.W.Fast.te14364793385576792824,PySem.W.Fast.te1435165496053646825,PySem.W.Fast.te14289696077712309145,PySem.W.Fast.te14082659384304107361,PySem.W.Fast.te4187177175401517315];kernel_rfl)
 (case hw=>w_witness2)
 k_fill
 refine OvC.walk32 (l:=PySem.Challenge.rw_ovalfield_k32_values_and_points) rfl rfl (by kernel_rfl) (λw h Y_=>PySem.W.km_in_of Y_) ?F
 case F=>
  intro w mg fa h KX G hmg
  refine' OvC.all32 KX G hmg ?a0 ?a1 ?a2 ?a3 ?a4 ?a5 ?a6 ?a7 ?a8 ?a9 ?a10 ?a11 ?a12 ?a13 ?vv ?z0 ?z1 ?z2 ?z3 ?z4 ?z5 ?z6 ?z7 ?z8 ?z9
  case a0|a1|a2|a3|a4|a5|a6|a7|a8|a9|a10|a11|a12|a13=>(refine' Ov.fni ?a ?l ?c ?k;(case a=>k_is);(case l=>k_is);(case c=>k_is);(case k=>k_is))
  case vv=>(refine' Ov.fnv_mk ?a ?l ?c ?k ?d ?e ?f;(case a=>k_is);(case l=>k_is);(case c=>k_is);(case k=>k_is);(case d=>k_is);(case e=>rfl);(case f=>kernel_rfl))
  case z0|z1|z2|z3|z4|z5|z6|z7|z8|z9=>k_is
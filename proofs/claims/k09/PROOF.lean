import PyProof.Rows.All
import Wide.All
import OpenK.AllK
import Wide.FinOn
import PyProof.EqAt
import KE.KSortTup
import PyProof.EqKinds
import PyProof.TupleCall
import Lean
import PySem.Challenge.RW_ovalfield_k09_refusals_made
set_option Elab.async false
set_option linter.all false
set_option maxRecDepth 100000
set_option maxHeartbeats 4000000
open Option renaming some→Aa,none→Af,bind_eq_some_iff→Aw,isSome_iff_exists→BQ,map→Dy,bind_some→Pa
open Bool renaming true→Ab,false→Ac,and_eq_true→Al,false_ne_true→Ap,not_eq_true'→Bj,or_eq_true→BN,or_false→C5,or_true→ER,and_false→Fp,and_true→OK,eq_iff_iff→OL
open _root_ renaming List→Ad,Nat→Ae,Bool→Aj,Option→An,Int→Ao,beq_iff_eq→AH,of_decide_eq_true→AI,decide_eq_true_eq→AQ,False→AT,if_pos→AY,if_neg→A8,Array→Ba,dif_neg→Bt,String→B6,decide_eq_false→Cf,Unit→Dd,beq_eq_false_iff_ne→Dh,beq_self_eq_true→DY,Decidable→D0,if_true→EQ,True→E1,bne_iff_ne→FR,not_or→HR,or_false→HS,decide_eq_true→Yu
open PySem renaming Str→Ag,Value→Ah,Addr→Ai,Expr→Ak,Shared→Am,starEach→Aq,World→Ar,wpAny→As,wpAny_bind→At,Heap→Ay,Pos→Az,Stmt→AC,Obj→AD,Program→AE,Around→AN,mainGlobals→AV,wpAny_mono→AZ,FuncData→Bl,wpAny_pure→Bm,cLine→Bo,wpAny_loadPart_at→Bu,backTo→Bv,Scope→Bw,binaryOp→Bx,excClassObj→BA,Env→BE,mem_of_lookup→BL,Tok→BW,foldedSetIterable→BX,wpAny_truthy_bool→BY,cellsFrom→B1,compareOp→B2,bootBuiltins→B5,sizeLine_eq→Cc,CmpOp→Cd,swapsWith→Ch,assignEach→Cy,codeAny_call_builtin→Cz,OwnTail→CF,NameKind→CG,GenState→CQ,ExceptHandler→C7,wpAny_standAt→C9,wpAny_isSubtype_exc→Dc,wpAny_execs_nil→Dl,wpAny_passesOwn→Dm,Operator→Dq,PassesOwn→Dr,wpAny_Call_Name_kw→Ds,codeAny→DB,attributeBase→DN,strLen_append→DO,checkBuiltinCall→DQ,Keyword→D1,codeAny_mono→Ea,letOwnedTupleGo→Eb,BindsTo→Ei,Model→Eo,noteFrame→Eu,pushCells→Ev,rawInt→Ew,Sem→Ez,behindInMarks→EA,wpAny_holding→EB,wpAny_call→EK,OsState→EL,callerA→EM,ExcBaseFacts→EV,Paired→EX,bindArgs→EY,wpAny_execs_cons→EZ,Drawn→Fc,pushCells_keeps→Fe,setFlight→Ff,wpAny_field→Fh,Result→Ft,isTrue→Fv,newFunctionEnv→Fw,notedBy→Fx,recursionLimit→FA,wpAny_setField→FB,bindC→FC,bindL→FD,builtinsNs→FE,isInstance→FF,Comprehension→FS,concat_meets→FY,onTheHeap→FZ,keywordEach→Gb,handleBy→Gc,PyData→Gw,StoreFacts→Gy,call→GA,sysModules→GB,wpAny_Name→GC,UnaryOp→GD,IntMulOk→G8,JoinOk→G9,Params→Ha,backToKw→Hc,codeAny_call_function→Qw,noFill_tuple_add→Qx,refuseLoop_ref→Qy,wpAny_JoinedStr→Qz,wpAny_assign_Name→QA,wpAny_comprehension_free→QB,wpAny_newFunctionEnv_cells→QC,wpAny_newObj_type→QD,wpAny_pyIter_list→QE
open PySem.W renaming findIn→Au,mg_of→AB,subIn→Bf,nsIn→Bh,keepIn→BB,looks_findIn→BH,fnOf→BJ,mg_none_of→BR,fencedOpening→BS,mroIn→BU,kitOne→BV,clsIn→Cg,typeIn→Cm,openEnds→CS,specialIn→CU,codeIn→CV,topFrom→Db,findCls→Dj,readsIn→Dk,OpenLaw→DK,methodObj→EJ,kitAny→Fu,excIn→FU,WalkO→Qm,callWith_K→Qn,cellsFrom_some→Qo,codeRec_of→Qp,isNs_of_in→Qq,kIn_of→Qr,kitMeta→Qs,looks_subIn→Qt,nsOkIn→Qu,tail_of_in→Qv
open PySem.Heap renaming get?_push_of_some→Ax,lt_size→AA,get?_push_size→Bs,get?_update_other→B4,get?_none_of_le→Ce,get?_update_self→Cp,size_push→DA,SameBut→EW,MadeExcOf→Fs,get?_push_at→PY,get?_update_ne→PZ
open Nat renaming lt_of_lt_of_le→AF,le_refl→AW,lt_irrefl→Bc,ne_of_lt→Bp,le_trans→BP,le_of_ble_eq_true→Cb,ble→Ck,le_of_lt→D7,zero_le→En,lt_of_le_of_lt→Er,lt_succ_of_lt→EI,mod_eq_of_lt→EU,le_succ→O3,log2_le_self→O4,lt_succ_self→O5,min_self→O6,ne_of_gt→O7,not_lt→O8,succ_mul→O9
open List renaming mem_cons_of_mem→AG,mem_cons→AR,mem_cons_self→AU,length_set→AX,size_toArray→A1,getElem?_eq_some_iff→A2,mem_append_right→A6,length_cons→A9,mem_singleton→Bn,lookup_cons→Bz,getElem?_eq_getElem→BO,append_nil→B0,getElem?_set_self→B3,length_append→Ca,all_eq_true→Cj,length_map→Co,getD_eq_getElem?_getD→Cr,isEmpty_eq_false_iff→Cv,lookup→CC,range→CO,getElem?_map→CT,getElem?_append_left→Di,toArray→Dp,replicate→Dx,getElem?_set_self'→DC,all_cons→DL,any_eq_true→DP,getElem?_set_ne→D4,mem_append_left→D5,nodup_cons→D6,filterMap_cons→Eg,getElem_of_mem→Eh,contains_cons→Ep,map_cons→Ey,getElem_mem→ES,not_mem_nil→ET,mem_append→Fa,of_mem_zip→Fb,all_map→ON,any_cons→OO,contains_eq_mem→OP,drop_eq_getElem_cons→OQ,drop_eq_nil_of_le→OR,forIn_nil→OS,getElem?_append_right→OT,getElem?_replicate→OU,length_replicate→OW,length_singleton→OX,mem_of_getElem?→OY,mem_range→OZ,reverse_cons→O0,set_set→O1,take_append_drop→O2
open PySem.W.Fast renaming te10274390034422433532→AJ,te14082659384304107361→AK,te14289696077712309145→AL,te14364793385576792824→AM,te1435165496053646825→AO
open PySem.Str renaming ofString→A4,empty→CD
open False renaming elim→A5
open PySem.NameKind renaming cell→Bi,free→Ct
open Option.some renaming inj→BD
open PySem.Value renaming ref→BG,builtin→B7,none→Cw,bool→Gz,int→G4,str→G5,bytes→Qh,float→Qi,type→Qj
open PySem.PyData renaming shownAll→Cq,depthAll→Fd,hasDictAll→P2,showableAll→P3
open ForInStep renaming yield→CN
open PySem.Obj renaming data_mapFields→CP,mapFields→DM,isFreed_of_fields→D2,mapSeq→P0
open PyProof.Rows renaming callWith_type1→C1,envOfC→C6,AllBare→Dz,boot_isinstance→D8,IntsAre→Fq,IsTup→G6,boot_list→Pc,boot_tuple→Pd,subscriptTail_builtinR→Pe
open PySem.Calls renaming evalArgs_plain→C2,Name_function_global→Pi,callWith_builtin→Pj
open PySem.F renaming excBase_ValueError→C8,attr_ValueError→DD,args_tuple_add_2→PQ,entry_bexc_ga→PR,entry_tuple_add→PU,slot_tuple_add→PV,typeOf_object_class→PX
open Ne renaming symm→Da
open Int renaming emod_lt_of_pos→Do,emod_nonneg→D3,sub_zero→OM
open Classical renaming choose_spec→DZ
open PySem.SeqAt renaming EqAt→D9,RcNeAt→FX,RcAt→Gx
open PySem.Code renaming quiet_builtin→Et,isFrame→FW,frames→Pk
open Sum renaming inl→EN,inr→EO
open PySem.Value.ref renaming inj→FT
open PySem.Around renaming under→FV
open NeZero renaming ne→G2
open PySem.Data renaming cell→G3,seq→G7
open PySem.Txt renaming join→Hb
open Array renaming length_toList→OI,toList→OJ
open PyProof.Rows.IsTup renaming new→Pb
open PySem.Builtin.Int renaming intBits→Pf
open PySem.Builtin.ObjectAttr renaming storeInDict→Ph
open PySem.EntryCells renaming newEntry→Pl
open PySem.Expr renaming Attribute→Pn,BinOp→Pp,BoolOp→Pr,Call→Pt,Compare→Pv,Constant→Px,List→Pz,ListComp→PC,Name→PF,Subscript→PJ,Tuple→PL,UnaryOp→PN
open PySem.Expr.Attribute renaming elim→Po
open PySem.Expr.BinOp renaming elim→Pq
open PySem.Expr.BoolOp renaming elim→Ps
open PySem.Expr.Call renaming elim→Pu
open PySem.Expr.Compare renaming elim→Pw
open PySem.Expr.Constant renaming elim→Py
open PySem.Expr.List renaming elim→PB
open PySem.Expr.ListComp renaming elim→PD
open PySem.Expr.Name renaming elim→PH
open PySem.Expr.Subscript renaming elim→PK
open PySem.Expr.Tuple renaming elim→PM
open PySem.Expr.UnaryOp renaming elim→PP
open PySem.Paired renaming length→P1
open PySem.SeqAt.EqAt renaming of_refs→P5,same→P6
open PySem.Stmt renaming Assign→P7,Expr→P9,Raise→Qd,Return→Qf
open PySem.Stmt.Assign renaming elim→P8
open PySem.Stmt.Expr renaming elim→Qa
open PySem.Stmt.For renaming elim→Qb
open PySem.Stmt.If renaming elim→Qc
open PySem.Stmt.Raise renaming elim→Qe
open PySem.Stmt.Return renaming elim→Qg
open PySem.W.WData renaming int→Qk
open PySem.W.WShape renaming has→Ql
abbrev Fg:=PySem.W.Frag
set_option genSizeOfSpec false
section
open PySem PySem.W PyProof.Rows
namespace OvC
set_option genInjectivity false in
structure Eleven (P:Prop) where
 (α1 α2 α3 α4 α5 α6 α7 α8 α9 α10 α11:Type)
 (l1 r1:Ar->α1)
 (l2 r2:Ar->α2)
 (l3 r3:Ar->α3)
 (l4 r4:Ar->α4)
 (l5 r5:Ar->α5)
 (l6 r6:Ar->α6)
 (l7 r7:Ar->α7)
 (l8 r8:Ar->α8)
 (l9 r9:Ar->α9)
 (l10 r10:Ar->α10)
 (l11 r11:Ar->α11)
 X:Prop
 go:(∀ w,l1 w=r1 w)->(∀ w,l2 w=r2 w)->(∀ w,l3 w=r3 w)->(∀ w,l4 w=r4 w)->(∀ w,l5 w=r5 w)->(∀ w,l6 w=r6 w)->(∀ w,l7 w=r7 w)->(∀ w,l8 w=r8 w)->(∀ w,l9 w=r9 w)->(∀ w,l10 w=r10 w)->(∀ w,l11 w=r11 w)->X->P
theorem map_pair{Z α β:Type}{A:Z->α}{B:Z->β}{r:An Z}{a:α}{b:β}(h1:Dy A r=Aa a)(h2:Dy B r=Aa b):Dy (λs=>(A s,B s)) r=Aa (a,b):=by
 cases r with
 |none=>cases h1
 |some s=>cases h1;cases h2;rfl
theorem map_take{Z α:Type}{B:Z->Ad α}{r:An Z}{v:Ad α}(n:Ae)(h1:Dy (λs=>(B s).take n) r=Aa (v.take n))(h2:Dy (λs=>(B s).drop n) r=Aa (v.drop n)):Dy B r=Aa v:=by
 cases r with
 |none=>cases h1
 |some s=>
  have e1:(B s).take n=v.take n:=by injection h1
  have e2:(B s).drop n=v.drop n:=by injection h2
  show Aa (B s)=Aa v;rw[<-O2 n (B s),<-O2 n v,e1,e2]
end OvC
namespace OvC
noncomputable def tp09(i:Ae):AC:=PySem.Challenge.pw_ovalfield_k09_refusals_made.main.body.getD i (.Pass ⟨0,0,0,0⟩)
end OvC
noncomputable def OvC.view09:PySem.Program := { PySem.Challenge.pw_ovalfield_k09_refusals_made with main := {PySem.Challenge.pw_ovalfield_k09_refusals_made.main with body:=[OvC.tp09 1,OvC.tp09 2,OvC.tp09 3,OvC.tp09 4,OvC.tp09 5,OvC.tp09 6,OvC.tp09 7,OvC.tp09 8,OvC.tp09 9,OvC.tp09 10,OvC.tp09 11,OvC.tp09 12,OvC.tp09 13,OvC.tp09 14,OvC.tp09 15,OvC.tp09 16,OvC.tp09 18,OvC.tp09 19,OvC.tp09 20,OvC.tp09 21,OvC.tp09 22,OvC.tp09 23,OvC.tp09 24,OvC.tp09 25]} }
set_option hygiene false
local macro_rules | `(tactic| o_head $H) => `(tactic| refine holds_open (q := OvC.view09) (loose := []) (Xt := fun s => xlAt OvC.view09 [] s&&recOk (RowW.records (OpenRow.toRowW (PySem.Challenge.rw_ovalfield_k09_refusals_made.row))) s) (XP := XL OvC.view09 []) (Yf := Hook.obs $H) (Ya := Hook.val $H) (YP := Hook.says $H) (N := 7644) ?hl (Hook.of $H) (Hook.keeps $H) (fun s e => xl_of s (Bool.and_eq_true_iff.mp e).1) XL.keeps (by rfl) (by rfl) (by rfl) (fun s e => recFacts_of (Bool.and_eq_true_iff.mp e).2) (by rfl) (by first|assumption|decide +kernel) (by decide +kernel) ⟨rfl, rfl, rfl, rfl, rfl, by decide +kernel⟩ ?hw ?hc)
set_option maxRecDepth 100000 in
set_option maxHeartbeats 0 in
noncomputable def OvC.hold09:OvC.Eleven PySem.Challenge.rw_ovalfield_k09_refusals_made.Holds:=by
 refine' ⟨_,_,_,_,_,_,_,_,_,_,_,_,_,_,_,_,_,_,_,_,_,_,_,_,_,_,_,_,_,_,_,_,_,_,λg1 g2 g3 g4 g5 g6 g7 g8 g9 g10 g11 x=>_⟩
 rotate_right
 w_on;refine holds_law (by decide+kernel) λsaid => ?_;k_head
 (case hl=>intro w;refine OvC.map_pair ?p1 (OvC.map_take 100 ?p2 ?p3);(case p1=>rw[PySem.W.Fast.te4187177175401517315];unfold PySem.W.Fast.tw4187177175401517315 openGood;refine OvC.map_pair ?q1 (OvC.map_pair ?q2 (OvC.map_pair ?q3 (OvC.map_pair ?q4 (OvC.map_pair ?q5 (OvC.map_pair ?q6 (OvC.map_pair ?q7 (OvC.map_pair ?q8 ?q9)))))));(case q1=>unfold CS BS Db;rw[AJ,AM,AO,AL,AK];exact g1 w);(case q2=>unfold CS BS Db;rw[AJ,AM,AO,AL,AK];exact g2 w);(case q3=>unfold CS BS Db;rw[AJ,AM,AO,AL,AK];exact g3 w);(case q4=>unfold CS BS Db;rw[AJ,AM,AO,AL,AK];exact g4 w);(case q5=>unfold CS BS Db;rw[AJ,AM,AO,AL,AK];exact g5 w);(case q6=>unfold CS BS Db;rw[AJ,AM,AO,AL,AK];exact g6 w);(case q7=>unfold CS BS Db;rw[AJ,AM,AO,AL,AK];exact g7 w);(case q8=>unfold CS BS Db;rw[AJ,AM,AO,AL,AK];exact g8 w);(case q9=>unfold CS BS Db;rw[AJ,AM,AO,AL,AK];exact g9 w);skip);(case p2=>unfold CS BS Db;rw[AJ,AM,AO,AL,AK];exact g10 w);(case p3=>unfold CS BS Db;rw[AJ,AM,AO,AL,AK];exact g11 w))
 (case hw=>w_witness2)
 k_fill
 revert said
 exact x
theorem OvC.reck09_1(w:Ar):OvC.hold09.l1 w=OvC.hold09.r1 w:=by kernel_rfl
theorem OvC.reck09_2(w:Ar):OvC.hold09.l2 w=OvC.hold09.r2 w:=by kernel_rfl
theorem OvC.reck09_3(w:Ar):OvC.hold09.l3 w=OvC.hold09.r3 w:=by kernel_rfl
theorem OvC.reck09_4(w:Ar):OvC.hold09.l4 w=OvC.hold09.r4 w:=by kernel_rfl
theorem OvC.reck09_5(w:Ar):OvC.hold09.l5 w=OvC.hold09.r5 w:=by kernel_rfl
theorem OvC.reck09_6(w:Ar):OvC.hold09.l6 w=OvC.hold09.r6 w:=by kernel_rfl
theorem OvC.reck09_7(w:Ar):OvC.hold09.l7 w=OvC.hold09.r7 w:=by kernel_rfl
theorem OvC.reck09_8(w:Ar):OvC.hold09.l8 w=OvC.hold09.r8 w:=by kernel_rfl
theorem OvC.reck09_9(w:Ar):OvC.hold09.l9 w=OvC.hold09.r9 w:=by kernel_rfl
theorem OvC.reck09_10(w:Ar):OvC.hold09.l10 w=OvC.hold09.r10 w:=by kernel_rfl
theorem OvC.reck09_11(w:Ar):OvC.hold09.l11 w=OvC.hold09.r11 w:=by kernel_rfl
end
-- CHANGE: your row's module here, as the last of these rows
namespace L2
open PySem PySem.Spec PyProof.Rows
noncomputable abbrev Key:=Sum Ao Ag
noncomputable def NP:Key->Ah->Aj
 |.inl k,v=>Value.isInt k v
 |.inr x,v=>Value.isStrOf x v
noncomputable def XQ(w:Ar):Key->Ao
 |.inl k=>hashInt k
 |.inr x=>hashStr w x
theorem FG : ∀{k:Key}{v:Ah},NP k v=Ab->(∃ i t,k=EN i/\v=G4 i t)\/(∃ x t,k=EO x/\v=G5 x t)
 |.inl i,v,h=>by
  obtain⟨t,e⟩:=Value.isInt_shape (k:=i) (v:=v) h;exact .inl ⟨i,t,rfl,e⟩
 |.inr x,v,h=>by
  obtain⟨t,e⟩:=Value.isStrOf_shape (x:=x) (v:=v) h;exact .inr ⟨x,t,rfl,e⟩
theorem V2(a b:Ao):decide ((EN a:Key)=EN b)=(a==b):=by
 by_cases e:a=b
 .subst e;simp
 .have h : ¬ (EN a:Key)=EN b:=λq=>e (Sum.inl.inj q)
  rw[Cf h];exact(Dh.mpr e).symm
theorem VZ(a b:Ag):decide ((EO a:Key)=EO b)=decide (a=b):=by
 by_cases e:a=b
 .subst e;simp
 .have h : ¬ (EO a:Key)=EO b:=λq=>e (Sum.inr.inj q)
  rw[Cf h,Cf e]
theorem V1(a:Ao)(b:Ag):decide ((EN a:Key)=EO b)=Ac:=Cf (λq=>nomatch q)
theorem V0(a:Ag)(b:Ao):decide ((EO a:Key)=EN b)=Ac:=Cf (λq=>nomatch q)
noncomputable def JT(prog:AE)(w:Ar):PySem.KeyKind prog w Key where
 is:=NP
 hash:=XQ w
 inj:=λv a b ha hb=>by
  rcases FG ha with ⟨i,t,rfl,rfl⟩|⟨x,t,rfl,rfl⟩
  .rcases FG hb with ⟨j,u,rfl,e⟩|⟨y,u,rfl,e⟩
   .injection e with e1 _;rw[e1]
   .exact nomatch e
  .rcases FG hb with ⟨j,u,rfl,e⟩|⟨y,u,rfl,e⟩
   .exact nomatch e
   .injection e with e1 _;rw[e1]
 byValue:=λk v h=>by
  rcases FG h with ⟨i,t,rfl,rfl⟩|⟨x,t,rfl,rfl⟩ <;> rfl
 pyHash:=λhv h=>by
  rcases FG hv with ⟨i,t,rfl,rfl⟩|⟨x,t,rfl,rfl⟩
  .exact wpAny_pyHash_int h
  .exact wpAny_pyHash_str h
 eqBool:=λhu hv h=>by
  rcases FG hu with ⟨i,t,rfl,rfl⟩|⟨x,t,rfl,rfl⟩
  .rcases FG hv with ⟨j,u,rfl,rfl⟩|⟨y,u,rfl,rfl⟩
   .rw[V2]at h;exact wpAny_eqBool_int h
   .rw[V1]at h;exact SeqAt.EqAt.int_str i t y u _ _ _ _ h
  .rcases FG hv with ⟨j,u,rfl,rfl⟩|⟨y,u,rfl,rfl⟩
   .rw[V0]at h;exact SeqAt.EqAt.str_int x t j u _ _ _ _ h
   .rw[VZ]at h;exact wpAny_eqBool_str h
 «strs» := λk x t v h=>by
  rcases FG h with ⟨i,u,rfl,e⟩|⟨y,u,rfl,e⟩
  .exact nomatch e
  .injection e with e1 _
   subst e1;cases v <;> rfl
end L2
namespace L2
open PySem PySem.Spec PyProof.Rows
variable{us:Ad Ah}{a b it:Ai}{P:AE}{h:Ay}{o:AD}{g':Ba CQ}{t' i j k n:Ae}{d':Fc}{ch fp:Ad Ai}{x qual:Ag}{M:Eo}{u:Ah}{e tg:Ak}{s:Am}{pos:Az}{pI:Ad (Ai × AD)}{Q:Ah->Am->Prop}{es:Ad Ak}{body:Ad AC}{f:Ah->Ah->Ez Ah}{g:Ao->Ao->Ao}{op:Cd}{kw:Ad (Ag × Ah)}{fd:Bl}{ps:Ad Ag}{scope:Bw}
inductive V where
 |non|bl (b:Aj)|int (i:Ao)|str (x:Ag)|byt (b:Ba UInt8)|flt (b:UInt64)|ref (a:Ai)|ty (n:B6)
 deriving DecidableEq
variable{xs vs:Ad V}{v y:V}
def Be:V->Ah->Prop
 |.non,u=>u=Cw
 |.bl b,u=>u=Gz b
 |.int i,u => ∃ t,u=G4 i t
 |.str x,u => ∃ t,u=G5 x t
 |.byt b,u => ∃ t,u=Qh b t
 |.flt b,u => ∃ t,u=Qi b t
 |.ref a,u=>u=BG a
 |.ty n,u=>u=Qj n
noncomputable abbrev AS:Ad V->Ad Ah->Prop:=EX Be
theorem AS.length(r:AS xs us):xs.length=us.length:=P1 r
theorem AS.get : ∀{xs:Ad V}{us:Ad Ah}{i:Ae}{x:V},AS xs us->xs[i]? = Aa x -> ∃ u,us[i]? = Aa u/\Be x u
 |_,_,_,_,.nil,e=>by simp at e
 |_,_,0,_,.cons r _,e=>by simp at e;subst e;exact⟨_,rfl,r⟩
 |_,_,i+1,x,.cons _ t,e=>by
  obtain⟨u,h1,h2⟩:=AS.get (i:=i) (x:=x) t (by simpa using e)
  exact⟨u,by simpa using h1,h2⟩
theorem AS.set{x:V}{u:Ah}(r:Be x u) : ∀{xs:Ad V}{us:Ad Ah}(i:Ae),AS xs us->AS (xs.set i x) (us.set i u)
 |_,_,_,.nil => .nil
 |_,_,0,.cons _ t => .cons r t
 |_,_,i+1,.cons q t => .cons q (AS.set r i t)
theorem AS.append : ∀{xs ys:Ad V}{us ws:Ad Ah},AS xs us->AS ys ws->AS (xs++ys) (us++ws)
 |_,_,_,_,.nil,s=>s
 |_,_,_,_,.cons r t,s => .cons r (AS.append t s)
theorem AS.take : ∀{xs:Ad V}{us:Ad Ah}(n:Ae),AS xs us->AS (xs.take n) (us.take n)
 |_,_,0,_ => .nil
 |_,_,_+1,.nil => .nil
 |_,_,n+1,.cons r t => .cons r (AS.take n t)
theorem AS.drop : ∀{xs:Ad V}{us:Ad Ah}(n:Ae),AS xs us->AS (xs.drop n) (us.drop n)
 |_,_,0,r=>r
 |_,_,_+1,.nil => .nil
 |_,_,n+1,.cons _ t=>AS.drop n t
def HP:An V->An Ah->Prop
 |some v,Aa u=>Be v u
 |none,Af=>E1
 |_,_=>AT
noncomputable def KV{κ:Type}:Ad (κ × V)->Ad (κ × Ah)->Prop:=EX fun(p:κ × V)(q:κ × Ah)=>p.1=q.1/\Be p.2 q.2
noncomputable def kV:Key->V
 |.inl i => .int i
 |.inr x => .str x
inductive HO where
 /-- a list -/
 |lst (xs:Ad V)
 /-- a tuple (never changes) -/
 |tup (xs:Ad V)
 /-- a dict whose keys are ints and texts;one whose keys are tuples of ints and texts (the empty one is both) -/
 |dK (kvs:Ad (Key × V))|dT (kvs:Ad (Ad Key × V))
 /-- a set of ints: its members, its size -/
 |set (S:Ao->Aj) (n:Ae)
 /-- an instance of the class at C, its dict at dx, its attributes -/
 |ins (C dx:Ai) (fs:Ad (Ag × V))
 /-- the dict of the instance at x -/
 |own (x:Ai)
 /-- the dict of an exception -/
 |xd (fs:Ad (Ag × V))
 /-- a bound method, f of x -/
 |met (f x:Ai)
 /-- a range object lo, lo+1, .. below hi -/
 |rng (lo hi:Ao)
 /-- a thing that is known to the object (the script;a dict while a loop walks it): read, never written while it is so -/
 |frz (o:AD) (u:HO)
 /-- a code object's table -/
 |tbl (ps:Ba Ah)
 /-- any other thing, by what is Ab of its one object (a def of one's own: SetO a S n := HO.ext fun h => ..) -/
 |ext (φ:Ay->Prop)
noncomputable abbrev Hp:=Ai->An HO
variable{H:Hp}
noncomputable def upd(H:Hp)(a:Ai)(o:HO):Hp:=λb=>if b=a then Aa o else H b
theorem Dt{o:HO}:upd H a o a=Aa o:=by unfold upd;rw[AY rfl]
theorem Bb{o:HO}(h:b≠a):upd H a o b=H b:=by unfold upd;rw[A8 h]
theorem MH{o u:HO}:upd (upd H a o) a u=upd H a u:=by
 funext b;unfold upd;split <;> rfl
theorem DF{o:HO}(h:H a=Aa o)(h':H b=Af):a≠b:=by
 intro e;subst e;rw[h]at h';cases h'
section
variable(P:AE)(w:Ar)
def ObjOk(H:Hp)(h:Ay)(a:Ai):HO->Prop
  |.lst xs=>xs.length<=sizeLine /\ ∃(its:Ad Ah)(n:Ae),AS xs its/\h.get? a=Aa { cls := .type "list",data := .seq its.toArray n }
  |.tup xs=>xs.length<=sizeLine /\ ∃ its:Ad Ah,AS xs its/\G6 h a its.toArray
  |.dK kvs=>kvs.length<=sizeLine/\(a==GB)=Ac /\ ∃ vs,KV kvs vs/\h.DictOf (JT P w) a vs
  |.dT kvs=>kvs.length<=sizeLine/\(a==GB)=Ac /\ ∃ xs:Ad (Ad Key × Ai × Ah),
      EX (fun(p:Ad Key × V)(q:Ad Key × Ai × Ah)=>p.1=q.1/\H q.2.1=Aa (.tup (p.1.map kV))/\Be p.2 q.2.2) kvs xs /\
      ∃ o es ep,h.get? a=Aa o/\o.ExactDict/\o.data = .dict es ep/\es.toList=xs.map (entryOfKey (tupleKind (JT P w)))/\(xs.map (·.1)).Nodup
  |.set S n=>h.SetOf (intKind P w) a S n
  |.ins C dx fs=>H dx=Aa (.own a)/\fs.length<=1000/\dx≠a/\h.get? a=Aa (PySem.W.instObj C dx) /\
      ∃ mA,h.Ns1 dx mA/\(∀ f,HP (fs.lookup f) (mA f))/\PySem.Within mA (fs.map (·.1))
  |.own _ => ∃ o,h.get? a=Aa o
  |.xd fs => ∃ mA,h.Ns1 a mA /\ ∀ f,HP (fs.lookup f) (mA f)
  |.rng lo hi => ∃ t u v,h.get? a=Aa { cls := .type "range",data := .fields #[.int lo t,.int hi u,.int 1 v] }
  |.frz o u=>h.get? a=Aa o/\ObjOk H h a u
  |.tbl ps=>h.get? a=Aa {cls := .none,data := .fields ps}
  |.met f x=>h.get? a=Aa (EJ (.ref f) (.ref x))
  |.ext φ=>φ h/\(∃ o,h.get? a=Aa o) /\ ∀ h1 h2:Ay,φ h1->(∀ o,h1.get? a=Aa o->h2.get? a=Aa o)->φ h2
noncomputable def HOk(H:Hp)(h:Ay):Prop := ∀ a o,H a=Aa o->ObjOk P w H h a o
end
section
variable{P:AE}{w:Ar}{H H':Hp}{h h':Ay}{a:Ai}{o:HO}
theorem ObjOk.lt(x:ObjOk P w H h a o):a<h.objs.size:=by
 cases o with
 |lst xs=>obtain⟨_,_,_,_,e⟩:=x;exact AA e
 |tup xs=>obtain⟨_,_,_,p⟩:=x;exact p.lt
 |dK kvs=>obtain⟨_,_,_,_,o,_,_,e,_⟩:=x;exact AA e
 |dT kvs=>obtain⟨_,_,_,_,o,_,_,e,_⟩:=x;exact AA e
 |set S n=>obtain⟨o,_,_,_,e,_⟩:=x;exact AA e
 |ins C dx fs=>obtain⟨_,_,_,e,_⟩:=x;exact AA e
 |own y=>obtain⟨_,e⟩:=x;exact AA e
 |xd fs=>obtain⟨_,⟨_,_,_,e,_⟩,_⟩:=x;exact AA e
 |rng lo hi=>obtain⟨_,_,_,e⟩:=x;exact AA e
 |frz ob u=>obtain⟨e,_⟩:=x;exact AA e
 |tbl ps=>exact AA (show h.get? a=Aa _ from x)
 |met f y=>exact AA (show h.get? a=Aa _ from x)
 |ext φ=>obtain⟨_,⟨_,e⟩,_⟩:=x;exact AA e
theorem EX.mapP{α β:Type}{F G:α->β->Prop} : ∀{l₁:Ad α}{l₂:Ad β},EX F l₁ l₂->(∀ a b,F a b->G a b)->EX G l₁ l₂
 |_,_,.nil,_ => .nil
 |_,_,.cons r t,f => .cons (f _ _ r) (EX.mapP t f)
theorem ObjOk.stay(x:ObjOk P w H h a o)(k : ∀ b u,(b=a\/H b=Aa (.own a))->h.get? b=Aa u->h'.get? b=Aa u)(ho : ∀ b,H b=Aa (.own a)->H' b=Aa (.own a))(ht : ∀ b xs,H b=Aa (.tup xs)->H' b=Aa (.tup xs)):ObjOk P w H' h' a o:=by
 induction o with
 |lst xs=>obtain⟨z,its,n,r,e⟩:=x;exact⟨z,its,n,r,k _ _ (.inl rfl) e⟩
 |tup xs=>obtain⟨z,its,r,ob,e,c⟩:=x;exact⟨z,its,r,ob,k _ _ (.inl rfl) e,c⟩
 |dK kvs=>obtain⟨z,y,vs,r,ob,es,ep,e,c⟩:=x;exact⟨z,y,vs,r,ob,es,ep,k _ _ (.inl rfl) e,c⟩
 |dT kvs=>
  obtain⟨z,y,xs,r,ob,es,ep,e,c⟩:=x;exact⟨z,y,xs,EX.mapP r λp q z=>⟨z.1,ht _ _ z.2.1,z.2.2⟩,ob,es,ep,k _ _ (.inl rfl) e,c⟩
 |set S n=>obtain⟨ob,es,ep,t,e,c⟩:=x;exact⟨ob,es,ep,t,k _ _ (.inl rfl) e,c⟩
 |ins C dx fs=>
  obtain⟨d,z,ne,e,mA,⟨od,es,ep,e2,c⟩,r⟩:=x;exact⟨ho _ d,z,ne,k _ _ (.inl rfl) e,mA,⟨od,es,ep,k _ _ (.inr d) e2,c⟩,r⟩
 |own y=>obtain⟨ob,e⟩:=x;exact⟨ob,k _ _ (.inl rfl) e⟩
 |xd fs=>obtain⟨mA,⟨od,es,ep,e,c⟩,r⟩:=x;exact⟨mA,⟨od,es,ep,k _ _ (.inl rfl) e,c⟩,r⟩
 |rng lo hi=>obtain⟨t,u,v,e⟩:=x;exact⟨t,u,v,k _ _ (.inl rfl) e⟩
 |frz ob u ih=>obtain⟨e,q⟩:=x;exact⟨k _ _ (.inl rfl) e,ih q⟩
 |tbl ps=>
  have e:h.get? a=Aa {cls := .none,data := .fields ps}:=x;show h'.get? a=Aa {cls := .none,data := .fields ps};exact k a _ (.inl rfl) e
 |met f y=>
  have e:h.get? a=Aa (EJ (.ref f) (.ref y)):=x;show h'.get? a=Aa (EJ (.ref f) (.ref y));exact k a _ (.inl rfl) e
 |ext φ=>obtain⟨p,⟨o,e⟩,st⟩:=x;exact⟨st _ _ p λo q=>k _ _ (.inl rfl) q,⟨o,k _ _ (.inl rfl) e⟩,st⟩
theorem HOk.lt(x:HOk P w H h)(e:H a=Aa o):a<h.objs.size:=(x a o e).lt
theorem HOk.fresh(x:HOk P w H h)(e:h.objs.size<=a):H a=Af:=by
 cases q:H a with
 |none=>rfl
 |some u=>exact absurd (AF (x.lt q) e) (Bc _)
theorem HOk.kept(x:HOk P w H h)(k : ∀ b u,h.get? b=Aa u->h'.get? b=Aa u):HOk P w H h':=λa o e=>
 (x a o e).stay (λb u _ q=>k b u q) (λ_ q=>q) λ_ _ q=>q
theorem HOk.laid(x:HOk P w H h)(k : ∀ b u,h.get? b=Aa u->h'.get? b=Aa u)(hp:h.objs.size<=a)(new:ObjOk P w (upd H a o) h' a o):HOk P w (upd H a o) h':=λb u e=>by
 have hn:=x.fresh hp;by_cases hb:b=a
 .subst hb;rw[Dt]at e;cases e;exact new
 .rw[Bb hb]at e;exact(x b u e).stay (λc v _ q=>k c v q) (λc q=>by rw[Bb (DF q hn)];exact q) λc xs q=>by rw[Bb (DF q hn)];exact q
end
noncomputable def Rd(H:Hp)(a:Ai)(u:HO):Prop:=H a=Aa u \/ ∃ o,H a=Aa (.frz o u)
theorem Rd.ok{w:Ar}{u:HO}(r:Rd H a u)(x:HOk P w H h):ObjOk P w H h a u:=by
 rcases r with r|⟨o,r⟩
 .exact x a u r
 .obtain⟨_,q⟩:=x a _ r;exact q
def Mut:An HO->Prop
 |some (.lst _)=>E1
 |some (.dK _)=>E1
 |some (.dT _)=>E1
 |some (.set _ _)=>E1
 |some (.ins _ _ _)=>E1
 |some (.ext _)=>E1
 |_=>AT
section
variable{P:AE}{w:Ar}{H:Hp}{h h':Ay}{x e:Ai}{o':HO}
theorem HOk.write(ok:HOk P w H h)(mu:Mut (H x))(he:e=x\/H e=Aa (.own x))(k : ∀ b u,b≠e->h.get? b=Aa u->h'.get? b=Aa u)(heo : ∃ u,h'.get? e=Aa u)(new:ObjOk P w (upd H x o') h' x o'):HOk P w (upd H x o') h':=λb u q=>by
 have nown : ∀ c y,H c=Aa (.own y)->c≠x:=λc y r z=>by subst z;rw[r]at mu;exact mu
 have ntup : ∀ c xs,H c=Aa (.tup xs)->c≠x:=λc xs r z=>by subst z;rw[r]at mu;exact mu
 by_cases hb:b=x
 .subst hb;rw[Dt]at q;cases q;exact new
 .rw[Bb hb]at q;by_cases hbe:b=e
  .have q':H b=Aa (.own x):=by
    rcases he with z|z
    .exact absurd (hbe.trans z) hb
    .rw[hbe];exact z
   rw[q]at q';cases q';obtain⟨v,hv⟩:=heo;exact⟨v,by rw[hbe];exact hv⟩
  .refine(ok b u q).stay (λc v hc r=>k c v ?_ r) (λc r=>by rw[Bb (nown c b r)];exact r) λc xs r=>by rw[Bb (ntup c xs r)];exact r
   rcases hc with rfl|hc
   .exact hbe
   .rintro rfl;rcases he with z|z
    .exact nown c b hc z
    .rw[hc]at z;cases z;exact hb rfl
end
structure Un (fs ex:Ad Ai) (H H':Hp) (h h':Ay):Prop where
 keep : ∀ b o,h.get? b=Aa o->H b=Af->b ∉ fs->b ∉ ex->h'.get? b=Aa o
 slot : ∀ b o,h.get? b=Aa o->H b=Af->b∈fs->b ∉ ex -> ∃ sl,h'.get? b=Aa {o with slots:=sl}
 free : ∀ b o,h.get? b=Aa o->H b=Af->b ∉ ex->H' b=Af
 there : ∀ b o,h.get? b=Aa o->b ∉ ex -> ∃ o',h'.get? b=Aa o'
 tups : ∀ b xs,H b=Aa (.tup xs)->H' b=Aa (.tup xs)
 frzs : ∀ b o u,H b=Aa (.frz o u)->H' b=Aa (.frz o u)
 tbls : ∀ b ps,H b=Aa (.tbl ps) -> ∃ more,H' b=Aa (.tbl (ps++more))
section
variable{fs fs' ex ex':Ad Ai}{H H1 H2:Hp}{h h1 h2 h':Ay}{a x e:Ai}{o:HO}
theorem Un.any(u:Un fs ex H H1 h h1){ob:AD}(q:h.get? b=Aa ob)(n:H b=Af)(hx:b ∉ ex) : ∃ sl,h1.get? b=Aa {ob with slots:=sl}:=by
 by_cases hb:b∈fs
 .exact u.slot b ob q n hb hx
 .exact⟨ob.slots,u.keep b ob q n hb hx⟩
theorem Un.kept(k : ∀ b u,h.get? b=Aa u->h'.get? b=Aa u):Un fs ex H H h h':=
 ⟨λb ob q _ _ _=>k b ob q,λb ob q _ _ _=>⟨ob.slots,k b ob q⟩,λ_ _ _ n _=>n,λb ob q _=>⟨ob,k b ob q⟩,λ_ _ q=>q,λ_ _ _ q=>q,λ_ ps q=>⟨#[],by rw[q];simp⟩⟩
theorem Un.refl:Un fs ex H H h h:=Un.kept λ_ _ q=>q
theorem Un.laid(k : ∀ b u,h.get? b=Aa u->h'.get? b=Aa u)(hp:h.objs.size<=a)(hn:H a=Af):Un fs ex H (upd H a o) h h' where
 keep:=λb u q _ _ _=>k b u q
 slot:=λb u q _ _ _=>⟨u.slots,k b u q⟩
 free:=λb u q n _=>by rw[Bb (Bp (AF (AA q) hp))];exact n
 there:=λb u q _=>⟨u,k b u q⟩
 tups:=λb xs q=>by rw[Bb (DF q hn)];exact q
 frzs:=λb u xs q=>by rw[Bb (DF q hn)];exact q
 tbls:=λb ps q=>⟨#[],by rw[Bb (DF q hn),q];simp⟩
theorem Un.write(mu:Mut (H x))(he:e=x\/H e=Aa (.own x))(k : ∀ b u,b≠e->h.get? b=Aa u->h'.get? b=Aa u)(heo : ∃ u,h'.get? e=Aa u):Un fs ex H (upd H x o) h h':=by
 have hx : ∀ b,H b=Af->b≠x:=λb n z=>by subst z;rw[n]at mu;exact mu
 have hb : ∀ b,H b=Af->b≠e:=λb n z=>by
  subst z;rcases he with r|r
  .exact hx b n r
  .rw[n]at r;cases r
 have hm : ∀ b u,H b=Aa u -> ¬ Mut (Aa u)->b≠x:=λb u q nm z=>by subst z;rw[q]at mu;exact nm mu
 refine⟨λb u q n _ _=>k b u (hb b n) q,λb u q n _ _=>⟨u.slots,k b u (hb b n) q⟩,λb u q n _=>by rw[Bb (hx b n)];exact n,λb u q _ => ?_,
  λb xs q=>by rw[Bb (hm b _ q λz=>z)];exact q,λb u xs q=>by rw[Bb (hm b _ q λz=>z)];exact q,λb ps q=>⟨#[],by rw[Bb (hm b _ q λz=>z),q];simp⟩⟩
 by_cases hbe:b=e
 .subst hbe;exact heo
 .exact⟨u,k b u hbe q⟩
end
noncomputable def trk(h:Ay)(H:Hp):Ad Ai:=(CO h.objs.size).filter λa=>(H a).isSome
noncomputable def FP(h:Ay)(H:Hp):Ay:=PySem.W.hideAll h (trk h H)
theorem Q5(h:Ay)(H:Hp):(FP h H).objs.size=h.objs.size:=PySem.W.hideAll_size _ _
theorem Se(e:h.get? b=Aa o)(n:H b=Af):(FP h H).get? b=Aa o:=
 PySem.W.hideAll_get _ e λhm=>by
  have q:(H b).isSome=Ab:=(List.mem_filter.mp hm).2;rw[n]at q;simp at q
theorem TK(e:(FP h H).get? b=Aa o):h.get? b=Aa o/\H b=Af:=by
 have e':h.get? b=Aa o:=PySem.W.of_hideAll (trk h H) e;refine⟨e',?_⟩;cases q:H b with
 |none=>rfl
 |some x=>
  have hm:b∈trk h H:=List.mem_filter.mpr ⟨OZ.mpr (AA e'),by simp[q]⟩
  have z:(FP h H).get? b=Af:=PySem.W.hideAll_none (trk h H) hm;rw[z]at e;cases e
noncomputable def UR(g h:Ay)(L:Ai):Ad (Ai × AD):=(CO h.objs.size).filterMap λa=>if a=L\/(g.get? a).isSome=Ab then Af else (h.get? a).map λo=>(a,o)
noncomputable def Bg(g h:Ay)(L d:Ai):Ad (Ai × AD):=(UR g h L).filter λp=>decide (p.1≠d)
structure Mod (K:Fg) (mg:Ag->An Ah) (base:Ay):Prop where
 kin:K.In base
 glob:base.Ns AV mg
 blt : ∃ mb,base.Ns FE mb /\ ∀ x:Ag,x ≠ "__name__" -> mb x=B5 x
 nolimit:base.NoLimit
structure Cx where
 prog:AE
 w:Ar
 K:Fg
 mg:Ag->An Ah
 base:Ay
 A:AN
 N:Ad Ag
 s₀:Am
 H₀:Hp
 env:BE
 outer:Ad BE
 stack:Ad BE
 ex:Ad Ai
 fn:Ag->Aj
 calm:Aj
 pn:Ad (Ai × AD)
 xe:Ah->Am->Prop
variable{X:Cx}
noncomputable def frs(l:Ad BE):Ad Ai:=l.filterMap (·.frame)
noncomputable abbrev Cx.fs(X:Cx):Ad Ai:=frs X.outer
noncomputable def Vis(sc:Bw)(x:Ag):Prop:=sc.names.lookup x=Aa .local\/sc.names.lookup x=Aa .cell\/sc.names.lookup x=Aa .free
noncomputable def Loc(sc:Bw)(x:Ag):Prop:=sc.names.lookup x=Aa .local\/sc.names.lookup x=Aa .cell
noncomputable def Yr(env:BE)(h:Ay)(m:Ag->An Ah)(x:Ag)(u:Ah):Prop:=
 (env.kindOf x=Aa .local/\m x=Aa u)\/((env.kindOf x=Aa .cell\/env.kindOf x=Aa .free) /\ ∃ c,env.cells.lookup x=Aa c/\h.IsCell c (Aa u))
structure Cx.Ok (X:Cx):Prop where
 mod:Mod X.K X.mg X.base
 kind:X.env.scope.kind = .function
 glob:X.env.globals=AV
 blt:X.env.builtins=FE
 above:X.s₀.heap.objs.size<=X.env.locals
 inj : ∀ x y c,X.env.cells.lookup x=Aa c->X.env.cells.lookup y=Aa c->x=y
 has : ∀ x,(X.env.kindOf x=Aa .cell\/X.env.kindOf x=Aa .free) -> ∃ c,X.env.cells.lookup x=Aa c
 cab : ∀ x c,X.fn x=Ab->X.env.cells.lookup x=Aa c->X.s₀.heap.objs.size<=c
 hd:X.calm=Ab->X.A.handled=Af
 frames:X.A.frames=Aa X.stack
 stk:X.stack=X.outer\/(X.stack=X.env::X.outer/\X.env.frame=Aa X.env.locals)
 exf : ∀ b∈X.ex,b≠X.env.locals /\ ∀ x c,X.env.cells.lookup x=Aa c->c≠b
 bs : ∀ b o,X.base.get? b=Aa o->X.s₀.heap.get? b=Aa o/\X.H₀ b=Af
 bsz:X.base.objs.size<=X.s₀.heap.objs.size
 noex : ∀ b o,X.base.get? b=Aa o->b ∉ X.ex
 exfs : ∀ b∈X.ex,b ∉ X.fs
 funs:X.s₀.heap.FunFrames X.base X.outer
 frf : ∀ b∈X.fs,X.H₀ b=Af
structure Inv (X:Cx) (pI:Ad (Ai × AD)) (Z:Ad (An V)) (H:Hp) (s:Am):Prop where
 ok:X.Ok
 os:s.os=X.s₀.os
 bare:Dz s.gens
 base:Un X.fs X.ex X.H₀ H X.s₀.heap s.heap
 loc : ∃ m,s.heap.Ns X.env.locals m /\ ∀(i:Ae)(x:Ag)(v:V),X.N[i]? = Aa x->Z[i]? = Aa (Aa v)->Vis X.env.scope x -> ∃ u,Be v u/\Yr X.env s.heap m x u
 cell : ∀ x c,X.env.cells.lookup x=Aa c -> ∃ v,s.heap.IsCell c v
 free:H X.env.locals=Af
 freeC : ∀ x c,X.env.cells.lookup x=Aa c->H c=Af
 pin : ∀ p∈X.pn++pI,s.heap.get? p.1=Aa p.2/\H p.1=Af/\p.1≠X.env.locals/\p.1 ∉ X.fs /\ ∀ v,p.2.data ≠ .cell v
 hok:HOk X.prog X.w H s.heap
 len:Z.length=X.N.length
section
variable{X:Cx}{pI:Ad (Ai × AD)}{Z:Ad (An V)}{H H':Hp}{s:Am}{h':Ay}
theorem Cx.Ok.nofr(ok:X.Ok)(e:X.base.get? b=Aa o):b ∉ X.fs:=λhb=>by
 have:=(ok.funs.mem hb).1;rw[e]at this;cases this
theorem Inv.bs(I:Inv X pI Z H s) : ∀ b o,X.base.get? b=Aa o->s.heap.get? b=Aa o/\H b=Af:=λb o e=>
 ⟨I.base.keep b o (I.ok.bs b o e).1 (I.ok.bs b o e).2 (I.ok.nofr e) (I.ok.noex b o e),I.base.free b o (I.ok.bs b o e).1 (I.ok.bs b o e).2 (I.ok.noex b o e)⟩
theorem Inv.bk(I:Inv X pI Z H s) : ∀ b o,X.base.get? b=Aa o->s.heap.get? b=Aa o:=λb o e=>(I.bs b o e).1
theorem Inv.mod(I:Inv X pI Z H s):Mod X.K X.mg X.base:=I.ok.mod
theorem Inv.kIn(I:Inv X pI Z H s):X.K.In s.heap:=I.ok.mod.kin.keeps I.bk
theorem Inv.lt(I:Inv X pI Z H s):X.env.locals<s.heap.objs.size:=let ⟨_,hn,_⟩:=I.loc;hn.lt
theorem Inv.sz(I:Inv X pI Z H s):X.s₀.heap.objs.size<=s.heap.objs.size:=BP I.ok.above (D7 I.lt)
theorem Inv.nofs(I:Inv X pI Z H s)(h:s.heap.objs.size<=a):a ∉ X.fs:=λhb=>by
 obtain⟨_,o,ho,_⟩:=I.ok.funs.mem hb;exact absurd (AF (AA ho) (BP I.sz h)) (Bc _)
theorem Inv.cne(I:Inv X pI Z H s) : ∀ x c,X.env.cells.lookup x=Aa c->c≠X.env.locals:=λx c e z=>by
 obtain⟨v,o,ho,hd⟩:=I.cell x c e;obtain⟨m,⟨o',es,ep,ho',hd',_⟩,_⟩:=I.loc;rw[z,ho']at ho;cases ho;rw[hd']at hd;cases hd
theorem Inv.funs(I:Inv X pI Z H s):s.heap.FunFrames X.base X.outer:=by
 have all : ∀(l:Ad BE),(∀ b∈frs l,b∈X.fs)->X.s₀.heap.FunFrames X.base l->s.heap.FunFrames X.base l:=by
  intro l
  induction l with
  |nil=>intro _ _;trivial
  |cons env r ih=>
   intro hs hl;obtain⟨hk,⟨L,o,hf,hn,ho,hd⟩,hr⟩:=hl;have hL:L∈X.fs:=hs L (by unfold frs;rw[Eg,hf];exact AU)
   obtain⟨sl,e⟩:=I.base.slot L o ho (I.ok.frf L hL) hL λz=>I.ok.exfs L z hL
   exact⟨hk,⟨L,_,hf,hn,e,hd⟩,ih (λb hb=>hs b (by unfold frs;rw[Eg,hf];exact AG _ hb)) hr⟩
 exact all X.outer (λ_ hb=>hb) I.ok.funs
theorem Inv.stack(I:Inv X pI Z H s):s.heap.FunFrames X.base X.stack:=by
 rcases I.ok.stk with e|⟨e,hf⟩
 .rw[e];exact I.funs
 .rw[e];obtain⟨m,hn,_⟩:=I.loc;refine .cons (by rw[I.ok.kind];decide) hf hn ?_ I.funs
  exact Ce (BP I.ok.bsz I.ok.above)
theorem Inv.stkSub(I:Inv X pI Z H s) : ∀ b∈frs X.stack,b∈X.env.locals::X.fs:=λb hb=>by
 rcases I.ok.stk with e|⟨e,hf⟩
 .rw[e]at hb;exact AG _ hb
 .rw[e]at hb;unfold frs at hb;rw[Eg,hf]at hb;exact hb
theorem Inv.stkFree(I:Inv X pI Z H s) : ∀ b∈frs X.stack,H b=Af:=λb hb=>by
 rcases AR.mp (I.stkSub b hb) with e|hb
 .rw[e];exact I.free
 .obtain⟨_,o,ho,_⟩:=I.ok.funs.mem hb;exact I.base.free b o ho (I.ok.frf b hb) λz=>I.ok.exfs b z hb
theorem Inv.step(I:Inv X pI Z H s)(hch : ∀ b∈ch,(b∈X.ex\/X.s₀.heap.objs.size<=b)/\b≠X.env.locals/\(∀ x c,X.env.cells.lookup x=Aa c->c≠b) /\ ∀ p∈X.pn++pI,p.1≠b)(keep : ∀ b o,b≠X.env.locals->b ∉ X.fs->b ∉ ch->s.heap.get? b=Aa o->H b=Af->h'.get? b=Aa o)(slot : ∀ b o,b≠X.env.locals->b∈X.fs->b ∉ ch->s.heap.get? b=Aa o->H b=Af -> ∃ sl,h'.get? b=Aa {o with slots:=sl})(free : ∀ b o,b ∉ ch->s.heap.get? b=Aa o->H b=Af->H' b=Af)(there : ∀ b o,b ∉ ch->s.heap.get? b=Aa o -> ∃ o',h'.get? b=Aa o')(tups : ∀ b xs,H b=Aa (.tup xs)->H' b=Aa (.tup xs))(frzs : ∀ b o u,H b=Aa (.frz o u)->H' b=Aa (.frz o u))(tbls : ∀ b ps,H b=Aa (.tbl ps) -> ∃ more,H' b=Aa (.tbl (ps++more)))(ns : ∀ m,s.heap.Ns X.env.locals m->h'.Ns X.env.locals m)(hok:HOk X.prog X.w H' h')(hg:Dz g'):Inv X pI Z H' {s with heap:=h',gens:=g',drawn:=d',toks:=t'}:=by
 have neL : ∀ b o,X.s₀.heap.get? b=Aa o->b≠X.env.locals:=λb o e=>Bp (AF (AA e) I.ok.above)
 have neC : ∀ b o,X.s₀.heap.get? b=Aa o->b ∉ X.ex->b ∉ ch:=λb o e hx hb=>by
  rcases (hch b hb).1 with z|z
  .exact hx z
  .exact absurd (AF (AA e) z) (Bc _)
 have cellK : ∀ x c,X.env.cells.lookup x=Aa c -> ∀ v,s.heap.IsCell c v->h'.IsCell c v:=λx c e v ⟨o,ho,hd⟩=>by
  have nch:c ∉ ch:=λz=>(hch c z).2.2.1 x c e rfl
  by_cases hc:c∈X.fs
  .obtain⟨sl,q⟩:=slot c o (I.cne x c e) hc nch ho (I.freeC x c e);exact⟨_,q,hd⟩
  .exact⟨o,keep c o (I.cne x c e) hc nch ho (I.freeC x c e),hd⟩
 refine⟨I.ok,I.os,hg,⟨λb o e n hb hx => ?_,λb o e n hb hx => ?_,λb o e n hx => ?_,λb o e hx => ?_,λb xs e=>tups b xs (I.base.tups b xs e),λb o xs e=>frzs b o xs (I.base.frzs b o xs e),λb ps e => ?_⟩,?_,λx c e => ?_,?_,λx c e => ?_,λp hp => ?_,hok,I.len⟩
 .exact keep b o (neL b o e) hb (neC b o e hx) (I.base.keep b o e n hb hx) (I.base.free b o e n hx)
 .obtain⟨sl,e1⟩:=I.base.slot b o e n hb hx;obtain⟨sl',e2⟩:=slot b _ (neL b o e) hb (neC b o e hx) e1 (I.base.free b o e n hx);exact⟨sl',e2⟩
 .obtain⟨o',e1⟩:=I.base.there b o e hx;exact free b o' (neC b o e hx) e1 (I.base.free b o e n hx)
 .obtain⟨o',e1⟩:=I.base.there b o e hx;exact there b o' (neC b o e hx) e1
 .obtain⟨m1,e1⟩:=I.base.tbls b ps e;obtain⟨m2,e2⟩:=tbls b _ e1;exact⟨m1++m2,by rw[e2,Array.append_assoc]⟩
 .obtain⟨m,hn,hl⟩:=I.loc;refine⟨m,ns m hn,λi x v e1 e2 e3 => ?_⟩
  obtain⟨u,r,l⟩:=hl i x v e1 e2 e3;refine⟨u,r,?_⟩;rcases l with l|⟨k,c,e,z⟩
  .exact .inl l
  .exact .inr ⟨k,c,e,cellK x c e _ z⟩
 .obtain⟨v,z⟩:=I.cell x c e;exact⟨v,cellK x c e v z⟩
 .obtain⟨m,⟨o,_,_,ho,_⟩,_⟩:=I.loc;exact free _ o (λz=>(hch _ z).2.1 rfl) ho I.free
 .obtain⟨v,o,ho,hd⟩:=I.cell x c e;exact free c o (λz=>(hch c z).2.2.1 x c e rfl) ho (I.freeC x c e)
 .obtain⟨e,n,ne,nf,d⟩:=I.pin p hp;have nch:p.1 ∉ ch:=λz=>(hch p.1 z).2.2.2 p hp rfl
  exact⟨keep p.1 p.2 ne nf nch e n,free p.1 p.2 nch e n,ne,nf,d⟩
theorem Inv.un(I:Inv X pI Z H s)(u:Un X.fs [] H H' s.heap h')(hok:HOk X.prog X.w H' h'):Inv X pI Z H' {s with heap:=h',toks:=t'}:=by
 obtain⟨m,⟨o,es,ep,ho,r⟩,_⟩:=id I.loc;obtain⟨sl,hL⟩:=u.any ho I.free (by simp)
 exact I.step (g':=s.gens) (d':=s.drawn) (ch:=[]) (λ_ z=>nomatch z) (λb o _ hb _ e n=>u.keep b o e n hb (by simp)) (λb o _ hb _ e n=>u.slot b o e n hb (by simp)) (λb o _ e n=>u.free b o e n (by simp)) (λb o _ e=>u.there b o e (by simp)) u.tups u.frzs u.tbls (λm' hm=>by
  obtain⟨o',es',ep',ho',r'⟩:=hm;rw[ho]at ho';cases ho';exact⟨_,es',ep',hL,r'⟩) hok I.bare
theorem Inv.call(I:Inv X pI Z H s)(u:Un (frs X.stack) ch H H' s.heap h')(hok:HOk X.prog X.w H' h')(hg:Dz g')(hch : ∀ b∈ch,(b∈X.ex\/X.s₀.heap.objs.size<=b)/\b≠X.env.locals/\(∀ x c,X.env.cells.lookup x=Aa c->c≠b) /\ ∀ p∈X.pn++pI,p.1≠b):Inv X pI Z H' {s with heap:=h',gens:=g',drawn:=d',toks:=t'}:=by
 obtain⟨m,⟨o,es,ep,ho,r⟩,_⟩:=id I.loc;obtain⟨sl,hL⟩:=u.any ho I.free λz=>(hch _ z).2.1 rfl
 exact I.step (ch:=ch) hch (λb o hL hb hc e n=>u.keep b o e n (λz=>(AR.mp (I.stkSub b z)).elim hL hb) hc) (λb o _ _ hc e n=>u.any e n hc) (λb o hc e n=>u.free b o e n hc) (λb o hc e=>u.there b o e hc) u.tups u.frzs u.tbls (λm' hm=>by
  obtain⟨o',es',ep',ho',r'⟩:=hm;rw[ho]at ho';cases ho';exact⟨_,es',ep',hL,r'⟩) hok hg
theorem Inv.turned(I:Inv X pI Z H s)(k : ∀ b o,b≠it->s.heap.get? b=Aa o->h'.get? b=Aa o)(hn:H it=Af)(hL:it≠X.env.locals)(h1:it∈X.ex\/X.s₀.heap.objs.size<=it)(h2 : ∀ x c,X.env.cells.lookup x=Aa c->c≠it)(h3 : ∀ p∈X.pn++pI,p.1≠it):Inv X pI Z H {s with heap:=h',toks:=t'}:=by
 have nit : ∀ b u,H b=Aa u->b≠it:=λb u e z=>by rw[z,hn]at e;cases e
 refine I.step (g':=s.gens) (d':=s.drawn) (ch:=[it]) (λb hb => ?_) (λb o _ _ hc e _=>k b o (λz=>hc (by simp[z])) e) (λb o _ _ hc e _=>⟨o.slots,k b o (λz=>hc (by simp[z])) e⟩) (λ_ _ _ _ n=>n)
  (λb o hc e=>⟨o,k b o (λz=>hc (by simp[z])) e⟩) (λ_ _ e=>e) (λ_ _ _ e=>e) (λb ps e=>⟨#[],by rw[e];simp⟩) (λm hm => ?_) (λb u e => ?_) I.bare
 .have e:b=it:=by simpa using hb
  subst e;exact⟨h1,hL,h2,h3⟩
 .obtain⟨o,es,ep,ho,r⟩:=hm;exact⟨o,es,ep,k _ o (Da hL) ho,r⟩
 .refine(I.hok b u e).stay (λc v hc q=>k c v ?_ q) (λ_ q=>q) λ_ _ q=>q
  rcases hc with z|z
  .rw[z];exact nit b u e
  .exact nit c _ z
theorem Inv.tok(I:Inv X pI Z H s)(t:Ae):Inv X pI Z H {s with toks:=t}:=I.un (h':=s.heap) (t':=t) Un.refl I.hok
theorem Inv.kept{t':Ae}(I:Inv X pI Z H s)(k : ∀ b u,s.heap.get? b=Aa u->h'.get? b=Aa u):Inv X pI Z H {s with heap:=h',toks:=t'}:=I.un (Un.kept k) (I.hok.kept k)
theorem Inv.laid{a:Ai}{o:HO}{t':Ae}(I:Inv X pI Z H s)(k : ∀ b u,s.heap.get? b=Aa u->h'.get? b=Aa u)(hp:s.heap.objs.size<=a)(new:ObjOk X.prog X.w (upd H a o) h' a o):Inv X pI Z (upd H a o) {s with heap:=h',toks:=t'}:=I.un (Un.laid k hp (I.hok.fresh hp)) (I.hok.laid k hp new)
theorem Inv.write{x e:Ai}{o:HO}{t':Ae}(I:Inv X pI Z H s)(mu:Mut (H x))(he:e=x\/H e=Aa (.own x))(k : ∀ b u,b≠e->s.heap.get? b=Aa u->h'.get? b=Aa u)(heo : ∃ u,h'.get? e=Aa u)(new:ObjOk X.prog X.w (upd H x o) h' x o):Inv X pI Z (upd H x o) {s with heap:=h',toks:=t'}:=I.un (Un.write mu he k heo) (I.hok.write mu he k heo new)
theorem Inv.pins_of{pins':Ad (Ai × AD)}(I:Inv X pI Z H s)(h : ∀ p∈pins',s.heap.get? p.1=Aa p.2/\H p.1=Af/\p.1≠X.env.locals/\p.1 ∉ X.fs /\ ∀ v,p.2.data ≠ .cell v):Inv X pins' Z H s:=
 ⟨I.ok,I.os,I.bare,I.base,I.loc,I.cell,I.free,I.freeC,λp hp=>(Fa.mp hp).elim (λz=>I.pin p (D5 _ z)) (h p),I.hok,I.len⟩
theorem Jy{N:Ad Ag}(hN:N.Nodup)(a:N[i]? = Aa x)(b:N[j]? = Aa x):i=j:=by
 obtain⟨h1,e1⟩:=A2.mp a;obtain⟨h2,e2⟩:=A2.mp b;exact(List.getElem_inj hN).mp (e1.trans e2.symm)
theorem LM{A:AN}{E:Ah->Am->Prop}{Q:Dd->Am->Prop}(I:Inv X pI Z H s)(hN:X.N.Nodup)(hi:X.N[i]? = Aa x)(hx:Loc X.env.scope x)(r:Be v u)(h : ∀ s',Inv X pI (Z.set i (Aa v)) H s'->(∃ a,EW a s.heap s'.heap/\(a=X.env.locals\/X.env.cells.lookup x=Aa a))->Q () s')(hf:X.fn x=Ab\/X.env.scope.names.lookup x=Aa .local:=by first|exact .inl rfl|exact .inr rfl|assumption):As M A (storeName X.env x u) Q E s:=by
 obtain⟨m,hn,hl⟩:=id I.loc;have hcls:(X.env.scope.kind==.class||(X.env.scope.kind==.module&&X.env.locals != X.env.globals))=Ac:=by rw[I.ok.kind];rfl
 have hiσ:i<Z.length:=by rw[I.len];exact(A2.mp hi).1
 have cne:=I.cne;have tracked : ∀{a:Ai}{h':Ay},(∃ o,s.heap.get? a=Aa o/\H a=Af)->EW a s.heap h'->HOk X.prog X.w H h':=λ{a h'} ha hs b ob e=>by
  obtain⟨_,_,hfree⟩:=ha;refine(I.hok b ob e).stay (λc w' hc q=>(hs.2 c ?_).trans q) (λ_ q=>q) λ_ _ q=>q
  rintro rfl;rcases hc with rfl|hc
  .rw[hfree]at e;cases e
  .rw[hfree]at hc;cases hc
 rcases hx with hk|hk
 .refine wpAny_storeName_local hk hn (λh' hn' hs => ?_) hcls
  obtain⟨oL,_,_,hoL,_⟩:=id hn;refine h _ ⟨I.ok,I.os,I.bare,⟨λb o e n hb hx => ?_,λb o e n hb hx => ?_,I.base.free,λb o e hx => ?_,I.base.tups,I.base.frzs,I.base.tbls⟩,⟨_,hn',λj y v' e1 e2 e3 => ?_⟩,λy c e => ?_,I.free,I.freeC,λp hp => ?_,tracked ⟨oL,hoL,I.free⟩ hs,by simpa using I.len⟩ ⟨_,hs,.inl rfl⟩
  .exact(hs.2 b (Bp (AF (AA e) I.ok.above))).trans (I.base.keep b o e n hb hx)
  .obtain⟨sl,e1⟩:=I.base.slot b o e n hb hx;exact⟨sl,(hs.2 b (Bp (AF (AA e) I.ok.above))).trans e1⟩
  .obtain⟨o',e1⟩:=I.base.there b o e hx;exact⟨o',(hs.2 b (Bp (AF (AA e) I.ok.above))).trans e1⟩
  .by_cases hj:j=i
   .subst hj;rw[hi]at e1;cases e1;rw[B3 hiσ]at e2;cases e2;exact⟨u,r,.inl ⟨hk,by simp⟩⟩
   .rw[D4 (Da hj)]at e2;obtain⟨u',r',q⟩:=hl j y v' e1 e2 e3;refine⟨u',r',?_⟩;rcases q with ⟨k,e⟩|⟨k,c,e,z⟩
    .refine .inl ⟨k,?_⟩;have:y≠x:=λe=>hj (Jy hN e1 (e ▸ hi))
     simp[this,e]
    .exact .inr ⟨k,c,e,z.sameBut hs (cne y c e)⟩
  .obtain⟨w',z⟩:=I.cell y c e;exact⟨w',z.sameBut hs (cne y c e)⟩
  .obtain⟨e,n,ne,nf,d⟩:=I.pin p hp;exact⟨(hs.2 p.1 ne).trans e,n,ne,nf,d⟩
 .have hfn:X.fn x=Ab:=by
   rcases hf with z|z
   .exact z
   .rw[z]at hk;cases hk
  obtain⟨c,hc⟩:=I.ok.has x (.inl hk);obtain⟨w',z⟩:=I.cell x c hc;refine wpAny_storeName_cell I.ok.kind hk hc z (λh' hc' hs => ?_)
  obtain⟨oc,hoc,hocd⟩:=id z;refine h {s with heap:=h'} ⟨I.ok,I.os,I.bare,⟨λb o e n hb hx => ?_,λb o e n hb hx => ?_,I.base.free,λb o e hx => ?_,I.base.tups,I.base.frzs,I.base.tbls⟩,⟨m,hn.sameBut hs (Da (cne x c hc)),λj y v' e1 e2 e3 => ?_⟩,λy c' e => ?_,I.free,I.freeC,λp hp => ?_,tracked ⟨oc,hoc,I.freeC x c hc⟩ hs,by simpa using I.len⟩ ⟨c,hs,.inr hc⟩
  .exact(hs.2 b (Bp (AF (AA e) (I.ok.cab x c hfn hc)))).trans (I.base.keep b o e n hb hx)
  .obtain⟨sl,e1⟩:=I.base.slot b o e n hb hx;exact⟨sl,(hs.2 b (Bp (AF (AA e) (I.ok.cab x c hfn hc)))).trans e1⟩
  .obtain⟨o',e1⟩:=I.base.there b o e hx;exact⟨o',(hs.2 b (Bp (AF (AA e) (I.ok.cab x c hfn hc)))).trans e1⟩
  .by_cases hj:j=i
   .subst hj;rw[hi]at e1;cases e1;rw[B3 hiσ]at e2;cases e2;exact⟨u,r,.inr ⟨.inl hk,c,hc,hc'⟩⟩
   .rw[D4 (Da hj)]at e2;obtain⟨u',r',q⟩:=hl j y v' e1 e2 e3;refine⟨u',r',?_⟩;rcases q with q|⟨k,c',e,z'⟩
    .exact .inl q
    .refine .inr ⟨k,c',e,z'.sameBut hs ?_⟩;rintro rfl;exact hj (Jy hN e1 (I.ok.inj _ _ _ e hc ▸ hi))
  .by_cases hcc:c'=c
   .subst hcc;exact⟨_,hc'⟩
   .obtain⟨w2,z2⟩:=I.cell y c' e;exact⟨w2,z2.sameBut hs hcc⟩
  .obtain⟨e,n,ne,nf,d⟩:=I.pin p hp;refine⟨(hs.2 p.1 ?_).trans e,n,ne,nf,d⟩;intro q;rw[q,hoc]at e;have q':oc=p.2:=BD e;exact d w' (by rw[<-q'];exact hocd)
theorem JC{A:AN}{E:Ah->Am->Prop}{Q:Dd->Am->Prop}(I:Inv X pI Z H s)(hN:X.N.Nodup)(hi:X.N[i]? = Aa x)(hx:Loc X.env.scope x)(r:Be v u)(h : ∀ s',Inv X pI (Z.set i (Aa v)) H s'->Q () s')(hf:X.fn x=Ab\/X.env.scope.names.lookup x=Aa .local:=by first|exact .inl rfl|exact .inr rfl|assumption):As M A (storeName X.env x u) Q E s:=
 LM I hN hi hx r (λs' I' _=>h s' I') hf
theorem Inv.call'{s':Am}(I:Inv X pI Z H s)(ho:s'.os=s.os)(u:Un (frs X.stack) ch H H' s.heap s'.heap)(hok:HOk X.prog X.w H' s'.heap)(hg:Dz s'.gens)(hch : ∀ b∈ch,(b∈X.ex\/X.s₀.heap.objs.size<=b)/\b≠X.env.locals/\(∀ x c,X.env.cells.lookup x=Aa c->c≠b) /\ ∀ p∈X.pn++pI,p.1≠b):Inv X pI Z H' s':=by
 obtain⟨h',g',d',t',o'⟩:=s';have e:o'=s.os:=ho;subst e;exact I.call (g':=g') (t':=t') (d':=d') u hok hg hch
end
noncomputable abbrev XK:=Ah->An Ai->Hp->Prop
noncomputable abbrev St:=Ad (An V)
variable{Z:St}
noncomputable abbrev VK:=V->Hp->Prop
noncomputable abbrev TE:=St->Hp->VK->Prop
noncomputable abbrev TT:=St->Hp->(Aj->Hp->Prop)->Prop
noncomputable abbrev TA:=St->Hp->(Ad V->Hp->Prop)->Prop
variable{ta:TA}
structure Ends where
 nx:St->Hp->Prop
 rt:VK
 bk:St->Hp->Prop:=λ_ _=>AT
 ct:St->Hp->Prop:=λ_ _=>AT
noncomputable abbrev TS:=Ends->St->Hp->Prop
noncomputable def EP(X:Cx)(pI:Ad (Ai × AD))(Z:St)(Q:VK)(u:Ah)(s':Am):Prop := ∃ v H',Inv X pI Z H' s'/\Be v u/\Q v H'
noncomputable def TP(X:Cx)(pI:Ad (Ai × AD))(Z:St)(Q:Aj->Hp->Prop)(b:Aj)(s':Am):Prop := ∃ H',Inv X pI Z H' s'/\Q b H'
noncomputable def AP(X:Cx)(pI:Ad (Ai × AD))(Z:St)(Q:Ad V->Hp->Prop)(us:Ad Ah)(s':Am):Prop := ∃ vs H',Inv X pI Z H' s'/\AS vs us/\Q vs H'
noncomputable def SP(X:Cx)(pI:Ad (Ai × AD))(D:Ends)(f:Flow)(s':Am):Prop:=
  match f with
  |.next => ∃ Z' H',Inv X pI Z' H' s'/\D.nx Z' H'
  |.brk => ∃ Z' H',Inv X pI Z' H' s'/\D.bk Z' H'
  |.cont => ∃ Z' H',Inv X pI Z' H' s'/\D.ct Z' H'
  |.ret u => ∃ v Z' H',Inv X pI Z' H' s'/\Be v u/\D.rt v H'
noncomputable def PE(X:Cx)(e:Ak)(t:TE):Prop:=
 ∀(pI:Ad (Ai × AD))(s:Am)(Z:St)(H:Hp)(Q:VK),Inv X pI Z H s->t Z H Q->As (model X.prog X.w) X.A (eval e X.env) (EP X pI Z Q) X.xe s
noncomputable def PT(X:Cx)(e:Ak)(t:TT):Prop:=
 ∀(pI:Ad (Ai × AD))(s:Am)(Z:St)(H:Hp)(Q:Aj->Hp->Prop),Inv X pI Z H s->t Z H Q->As (model X.prog X.w) X.A (Fv e X.env (eval e X.env)) (TP X pI Z Q) X.xe s
noncomputable def PW(X:Cx)(e:Ak)(t:TT):Prop:=
 ∀(whole:Ez Ah)(pI:Ad (Ai × AD))(s:Am)(Z:St)(H:Hp)(Q:Aj->Hp->Prop),Inv X pI Z H s->t Z H Q->As (model X.prog X.w) X.A (Fv e X.env whole) (TP X pI Z Q) X.xe s
theorem PW.pt{t:TT}(h:PW X e t):PT X e t:=h _
noncomputable def PA(X:Cx)(es:Ad Ak)(t:TA):Prop:=
 ∀(pos:Az)(pI:Ad (Ai × AD))(s:Am)(Z:St)(H:Hp)(Q:Ad V->Hp->Prop),Inv X pI Z H s->t Z H Q->As (model X.prog X.w) X.A (spliced (Bv pos (Aq es X.env))) (AP X pI Z Q) X.xe s
noncomputable def PS(X:Cx)(st:AC)(t:TS):Prop:=
 ∀(pI:Ad (Ai × AD))(s:Am)(Z:St)(H:Hp)(D:Ends),Inv X pI Z H s->t D Z H->As (model X.prog X.w) X.A (exec st X.env) (SP X pI D) X.xe s
noncomputable def PSs(X:Cx)(st:Ad AC)(t:TS):Prop:=
 ∀(pI:Ad (Ai × AD))(s:Am)(Z:St)(H:Hp)(D:Ends),Inv X pI Z H s->t D Z H->As (model X.prog X.w) X.A (execs st X.env) (SP X pI D) X.xe s
theorem thn{α:Type}{t:Ez α}{Q Q':α->Am->Prop}{A:AN}{E:Ah->Am->Prop}(h:As M A t Q E s)(hQ : ∀ a s,Q a s->Q' a s):As M A t Q' E s:=AZ h hQ λ_ _ x=>x
section
variable{X:Cx}
noncomputable def DJ(i:Ae):TE:=λZ H Q => ∃ v,Z[i]? = Aa (Aa v)/\Q v H
noncomputable def tC(v:V):TE:=λ_ H Q=>Q v H
theorem Ir(hN:X.N[i]? = Aa x)(hv:Vis X.env.scope x)(hd:(x==("__debug__" : Ag))=Ac:=by decide)(hcd:(x==("__classdict__" : Ag))=Ac:=by decide):PE X (.Name x pos) (DJ i):=by
 intro pI s Z H Q I h;obtain⟨v,e,h⟩:=h;obtain⟨m,hn,hl⟩:=I.loc;obtain⟨u,r,l⟩:=hl i x v hN e hv;have fin:EP X pI Z Q u s:=⟨v,H,I,r,h⟩;rcases l with ⟨hk,hm⟩|⟨hk,c,hc,hcell⟩
 .exact GC (wpAny_loadName_local I.ok.kind hk hn hm fin) hd
 .rcases hk with hk|hk
  .exact GC (wpAny_loadName_cell I.ok.kind hk hc hcell fin) hd
  .exact GC (wpAny_loadName_free I.ok.kind hk hc hcell fin hcd) hd
theorem Vh{i j pos}:PE X (.Constant (.int i) j pos) (tC (.int i)):=λ_ _ _ H _ I h=>wpAny_Constant_int ⟨.int i,H,I.tok _,⟨_,rfl⟩,h⟩
theorem Xs{b j pos}:PE X (.Constant (.bool b) j pos) (tC (.bl b)):=λ_ _ _ H _ I h=>Constant_bool ⟨.bl b,H,I,rfl,h⟩
theorem Vf{j pos}:PE X (.Constant .none j pos) (tC .non):=λ_ _ _ H _ I h=>Constant_none ⟨.non,H,I,rfl,h⟩
theorem Iu{x j pos}:PE X (.Constant (.str x) j pos) (tC (.str x)):=λ_ _ _ H _ I h=>Calls.Constant_str ⟨.str x,H,I.tok _,⟨_,rfl⟩,h⟩
noncomputable def Gl(X:Cx)(x:Ag):Prop:=X.env.kindOf x=Aa .globalImplicit
theorem Gk{E:Ah->Am->Prop}(I:Inv X pI Z H s)(hg:Gl X x)(hm:X.mg x=Aa u)(h:Q u s)(hd:(x==("__debug__" : Ag))=Ac:=by decide):As (model X.prog X.w) X.A (eval (.Name x pos) X.env) Q E s:=
 Pi I.ok.kind hg (Calls.loadGlobal_global (by rw[I.ok.glob];exact I.mod.glob.keeps I.bk) hm h) hd
theorem Hv{E:Ah->Am->Prop}(I:Inv X pI Z H s)(hg:Gl X x)(hm:X.mg x=Af)(hv:B5 x=Aa u)(h:Q u s)(hn:x ≠ "__name__" := by decide)(hd:(x==("__debug__" : Ag))=Ac:=by decide):As (model X.prog X.w) X.A (eval (.Name x pos) X.env) Q E s:=by
 obtain⟨mb,h1,h2⟩:=I.mod.blt;exact Pi I.ok.kind hg (Calls.loadGlobal_builtin (by rw[I.ok.glob];exact I.mod.glob.keeps I.bk) hm (by rw[I.ok.blt];exact h1.keeps I.bk) ((h2 x hn).trans hv) h) hd
theorem Ms(hg:Gl X x)(hm:X.mg x=Aa u)(r:Be v u)(hd:(x==("__debug__" : Ag))=Ac:=by decide):PE X (.Name x pos) (tC v):=
 λ_ _ _ H _ I h=>Gk I hg hm ⟨v,H,I,r,h⟩ hd
theorem Mu(hg:Gl X x)(hm:X.mg x=Af)(hv:B5 x=Aa u)(r:Be v u)(hn:x ≠ "__name__" := by decide)(hd:(x==("__debug__" : Ag))=Ac:=by decide):PE X (.Name x pos) (tC v):=
 λ_ _ _ H _ I h=>Hv I hg hm hv ⟨v,H,I,r,h⟩ hn hd
variable{a b:Ak}{ta tb:TE}{pos:Az}
variable{tA tB':TT}{Bg:Ad Ak}
noncomputable def Yc(t u:TT):TT:=λZ H Q=>t Z H λc H1=>if c=Ab then u Z H1 Q else Q Ac H1
noncomputable def tOr(t u:TT):TT:=λZ H Q=>t Z H λc H1=>if c=Ab then Q Ab H1 else u Z H1 Q
noncomputable def X5(t:TT):TT:=λZ H Q=>t Z H λc H1=>Q (!c) H1
theorem T4(ha:PT X a tA):PW X (.BoolOp .And [a] pos) tA:=by
 intro wh pI s Z H Q I h;refine isTrue_and (thn (ha pI s Z H Q I h) λc s1 e => ?_)
 cases c with
 |true=>exact isTrue_and_nil e
 |false=>exact e
theorem U_4(ha:PT X a tA):PW X (.BoolOp .Or [a] pos) tA:=by
 intro wh pI s Z H Q I h;refine isTrue_or (thn (ha pI s Z H Q I h) λc s1 e => ?_)
 cases c with
 |false=>exact isTrue_or_nil e
 |true=>exact e
theorem U_5(ha:PT X a tA)(hb:PW X (.BoolOp .And (b::Bg) pos) tB'):PW X (.BoolOp .And (a::b::Bg) pos) (Yc tA tB'):=by
 intro wh pI s Z H Q I h;refine isTrue_and (thn (ha pI s Z H _ I h) λc s1 ⟨H1,I1,q1⟩ => ?_)
 cases c with
 |true=>exact hb wh pI s1 Z H1 Q I1 q1
 |false=>exact⟨H1,I1,q1⟩
theorem Xn(ha:PT X a tA)(hb:PW X (.BoolOp .Or (b::Bg) pos) tB'):PW X (.BoolOp .Or (a::b::Bg) pos) (tOr tA tB'):=by
 intro wh pI s Z H Q I h;refine isTrue_or (thn (ha pI s Z H _ I h) λc s1 ⟨H1,I1,q1⟩ => ?_)
 cases c with
 |true=>exact⟨H1,I1,q1⟩
 |false=>exact hb wh pI s1 Z H1 Q I1 q1
theorem U_6(ha:PT X a tA):PT X (.UnaryOp .Not a pos) (X5 tA):=by
 intro pI s Z H Q I h;exact isTrue_not (ha pI s Z H (λc H1=>Q (!c) H1) I h)
noncomputable def WM(ta tb:TE):TE:=λZ H Q=>ta Z H λx H1 => ∃ c,x = .bl c/\if c=Ab then tb Z H1 Q else Q (.bl Ac) H1
noncomputable def X4(ta tb:TE):TE:=λZ H Q=>ta Z H λx H1 => ∃ c,x = .bl c/\if c=Ab then Q (.bl Ab) H1 else tb Z H1 Q
noncomputable def We(ta:TE):TE:=λZ H Q=>ta Z H λx H1 => ∃ c,x = .bl c/\Q (.bl (!c)) H1
theorem Vd{op}{t:TE}(h:PE X a t):PE X (.BoolOp op [a] pos) t:=λpI s Z H Q I hw=>BoolOp_one (h pI s Z H Q I hw)
theorem Vi(ha:PE X a ta)(hb:PE X (.BoolOp .And (b::Bg) pos) tb):PE X (.BoolOp .And (a::b::Bg) pos) (WM ta tb):=by
 intro pI s Z H Q I h;refine BoolOp_and (thn (ha pI s Z H _ I h) λv s1 ⟨x,H1,I1,r1,q1⟩ => ?_)
 obtain⟨c,rfl,q1⟩:=q1;cases r1;refine BY ?_;cases c with
 |true=>exact hb pI s1 Z H1 Q I1 q1
 |false=>exact⟨.bl Ac,H1,I1,rfl,q1⟩
theorem Xp(ha:PE X a ta)(hb:PE X (.BoolOp .Or (b::Bg) pos) tb):PE X (.BoolOp .Or (a::b::Bg) pos) (X4 ta tb):=by
 intro pI s Z H Q I h;refine BoolOp_or (thn (ha pI s Z H _ I h) λv s1 ⟨x,H1,I1,r1,q1⟩ => ?_)
 obtain⟨c,rfl,q1⟩:=q1;cases r1;refine BY ?_;cases c with
 |false=>exact hb pI s1 Z H1 Q I1 q1
 |true=>exact⟨.bl Ab,H1,I1,rfl,q1⟩
theorem Ve(ha:PE X a ta):PE X (.UnaryOp .Not a pos) (We ta):=by
 intro pI s Z H Q I h;refine UnaryOp_ (thn (ha pI s Z H _ I h) λv s1 ⟨x,H1,I1,r1,q1⟩ => ?_)
 obtain⟨c,rfl,q1⟩:=q1;cases r1;exact not_of (BY ⟨.bl (!c),H1,I1,rfl,q1⟩)
end
noncomputable def SqL(K:Fg)(H:Hp)(a:Ai)(xs:Ad V):Prop:=
 Rd H a (.lst xs) \/
  ∃(o:AD)(its:Ba Ah)(n:Ae),K.lookup a=Aa o/\o.cls = .type "list" /\ o.dict=Af/\o.data = .seq its n/\its.size<=sizeLine/\AS xs its.toList
noncomputable def SqT(K:Fg)(H:Hp)(a:Ai)(xs:Ad V):Prop:=
 Rd H a (.tup xs) \/
  ∃(o:AD)(its:Ba Ah)(n:Ae),K.lookup a=Aa o/\o.cls = .type "tuple" /\ o.data = .seq its n/\its.size<=sizeLine/\AS xs its.toList
noncomputable def Yn:Ah->An V
 |.none=>Aa .non
 |.bool b=>Aa (.bl b)
 |.int i _=>Aa (.int i)
 |.str x _=>Aa (.str x)
 |.bytes b _=>Aa (.byt b)
 |.float b _=>Aa (.flt b)
 |.ref a=>Aa (.ref a)
 |.type n=>Aa (.ty n)
 |_=>Af
theorem Be.abs{x:V}(r:Be x u):Yn u=Aa x:=by
 cases x with
 |non=>cases r;rfl
 |bl _=>cases r;rfl
 |int _=>obtain⟨t,rfl⟩:=r;rfl
 |str _=>obtain⟨t,rfl⟩:=r;rfl
 |byt _=>obtain⟨t,rfl⟩:=r;rfl
 |flt _=>obtain⟨t,rfl⟩:=r;rfl
 |ref _=>cases r;rfl
 |ty _=>cases r;rfl
theorem Be.inj{x:V}(r:Be x u)(q:Be y u):x=y:=BD (r.abs.symm.trans q.abs)
theorem AS.inj : ∀{xs ys:Ad V}{us:Ad Ah},AS xs us->AS ys us->xs=ys
 |_,_,_,.nil,.nil=>rfl
 |_,_,_,.cons r t,.cons r' t'=>by rw[r.inj r',AS.inj t t']
section
variable{X:Cx}{pI:Ad (Ai × AD)}{Z:St}{H:Hp}{s:Am}{a:Ai}{xs ys:Ad V}
theorem SqL.of{K:Fg}(h:H a=Aa (.lst xs)):SqL K H a xs := .inl (.inl h)
theorem SqT.of{K:Fg}(h:H a=Aa (.tup xs)):SqT K H a xs := .inl (.inl h)
theorem Inv.list(I:Inv X pI Z H s)(h:SqL X.K H a xs) : ∃ its:Ad Ah,AS xs its/\PlainL s.heap a its.toArray/\xs.length<=sizeLine:=by
 rcases h with h|⟨o,its,n,hk,hc,hd,hs,hz,r⟩
 .obtain⟨z,its,n,r,e⟩:=h.ok I.hok;exact⟨its,r,⟨_,n,e,rfl,rfl,rfl⟩,z⟩
 .refine⟨its.toList,r,⟨o,n,I.kIn a o hk,hc,hd,by simpa using hs⟩,?_⟩
  have e:=r.length;simp only[OI]at e;omega
theorem Inv.tuple(I:Inv X pI Z H s)(h:SqT X.K H a xs) : ∃ its:Ad Ah,AS xs its/\G6 s.heap a its.toArray/\xs.length<=sizeLine:=by
 rcases h with h|⟨o,its,n,hk,hc,hs,hz,r⟩
 .obtain⟨z,its,r,p⟩:=h.ok I.hok;exact⟨its,r,p,z⟩
 .refine⟨its.toList,r,⟨o,I.kIn a o hk,hc,n,by simpa using hs⟩,?_⟩
  have e:=r.length;simp only[OI]at e;omega
theorem Inv.list_inj(I:Inv X pI Z H s)(h:SqL X.K H a xs)(h':SqL X.K H a ys):xs=ys:=by
 obtain⟨its,r,⟨o,n,e,_,_,d⟩,_⟩:=I.list h;obtain⟨its',r',⟨o',n',e',_,_,d'⟩,_⟩:=I.list h';rw[e]at e';cases e';rw[d]at d'
 injection d' with d1 _
 have:its=its':=by simpa using congrArg OJ d1
 subst this;exact r.inj r'
theorem Inv.tuple_inj(I:Inv X pI Z H s)(h:SqT X.K H a xs)(h':SqT X.K H a ys):xs=ys:=by
 obtain⟨its,r,⟨o,e,_,n,d⟩,_⟩:=I.tuple h;obtain⟨its',r',⟨o',e',_,n',d'⟩,_⟩:=I.tuple h';rw[e]at e';cases e';rw[d]at d'
 injection d' with d1 _
 have:its=its':=by simpa using congrArg OJ d1
 subst this;exact r.inj r'
end
noncomputable abbrev Cx.wish(X:Cx)(E:Ah->Am->Prop):Cx := {X with xe:=E}
noncomputable abbrev Cx.nox(X:Cx):Cx:=X.wish λ_ _=>AT
theorem Cx.Ok.wish(ok:X.Ok)(E:Ah->Am->Prop):(X.wish E).Ok:=
 ⟨ok.mod,ok.kind,ok.glob,ok.blt,ok.above,ok.inj,ok.has,ok.cab,ok.hd,ok.frames,ok.stk,ok.exf,ok.bs,ok.bsz,ok.noex,ok.exfs,ok.funs,ok.frf⟩
theorem Cx.Ok.unwish{E:Ah->Am->Prop}(ok:(X.wish E).Ok):X.Ok:=
 ⟨ok.mod,ok.kind,ok.glob,ok.blt,ok.above,ok.inj,ok.has,ok.cab,ok.hd,ok.frames,ok.stk,ok.exf,ok.bs,ok.bsz,ok.noex,ok.exfs,ok.funs,ok.frf⟩
section
variable{X:Cx}{pI:Ad (Ai × AD)}{Z:St}{H:Hp}{s:Am}{E:Ah->Am->Prop}
theorem Inv.wish(I:Inv X pI Z H s)(E:Ah->Am->Prop):Inv (X.wish E) pI Z H s:=⟨I.ok.wish E,I.os,I.bare,I.base,I.loc,I.cell,I.free,I.freeC,I.pin,I.hok,I.len⟩
theorem Inv.unwish(I:Inv (X.wish E) pI Z H s):Inv X pI Z H s:=⟨I.ok.unwish,I.os,I.bare,I.base,I.loc,I.cell,I.free,I.freeC,I.pin,I.hok,I.len⟩
theorem SP.unwish{D:Ends}{f:Flow}{s':Am}(h:SP (X.wish E) pI D f s'):SP X pI D f s':=by
 cases f with
 |next=>obtain⟨Z',H',I,q⟩:=h;exact⟨Z',H',I.unwish,q⟩
 |brk=>obtain⟨Z',H',I,q⟩:=h;exact⟨Z',H',I.unwish,q⟩
 |cont=>obtain⟨Z',H',I,q⟩:=h;exact⟨Z',H',I.unwish,q⟩
 |ret u=>obtain⟨v,Z',H',I,r,q⟩:=h;exact⟨v,Z',H',I.unwish,r,q⟩
theorem PSs.nox{st:Ad AC}{t:TS}(h:PSs X.nox st t):PSs X st t:=λpI s Z H D I hw=>
 AZ (h pI s Z H D (I.wish _) hw) (λ_ _ q=>q.unwish) λ_ _ z=>A5 z
end
section
variable{X:Cx}{st:AC}{Bg:Ad AC}{t u:TS}{e:Ak}{te:TE}{pos:Az}
noncomputable def Wf:TS:=λD Z H=>D.nx Z H
noncomputable def X2(t u:TS):TS:=λD Z H=>t {D with nx:=u D} Z H
theorem T8:PSs X [] Wf:=λ_ _ Z H _ I h=>Dl ⟨Z,H,I,h⟩
theorem Mg(h1:PS X st t)(h2:PSs X Bg u):PSs X (st::Bg) (X2 t u):=by
 intro pI s Z H D I h;refine EZ (thn (h1 pI s Z H {D with nx:=u D} I h) λf s1 q => ?_)
 cases f with
 |next=>
  obtain⟨Z',H',I',q⟩:=q;exact h2 pI s1 Z' H' D I' q
 |ret v=>exact q
 |brk=>exact q
 |cont=>exact q
theorem Ho(h1:PS X st t):PSs X [st] t:=by
 intro pI s Z H D I h;refine EZ (thn (h1 pI s Z H D I h) λf s1 q => ?_)
 cases f with
 |next=>exact Dl q
 |ret v=>exact q
 |brk=>exact q
 |cont=>exact q
theorem Inv.quiet(I:Inv X pI Z H s):interactive X.env=Ac:=by simp[interactive,I.ok.kind]
noncomputable def Wg(te:TE):TS:=λD Z H=>te Z H λ_ H1=>D.nx Z H1
theorem Hq(he:PE X e te)(hs:Ch e Af pos.line X.env=pure Ac:=by rfl):PS X (.Expr e pos) (Wg te):=by
 intro pI s Z H D I h;exact wpAny_Expr_any (thn (he pI s Z H _ I h) λv s1 ⟨x,H1,I1,r1,q1⟩=>⟨Z,H1,I1,q1⟩) I.quiet hs
noncomputable def X3(te:TE):TS:=λD Z H=>te Z H D.rt
theorem Kb(he:PE X e te):PS X (.Return (Aa e) pos) (X3 te):=by
 intro pI s Z H D I h;exact wpAny_Return_some (thn (he pI s Z H _ I h) λv s1 ⟨x,H1,I1,r1,q1⟩=>⟨x,Z,H1,I1,r1,q1⟩)
noncomputable def X8(c:TT)(t u:TS):TS:=λD Z H=>c Z H λb H1=>if b=Ab then t D Z H1 else u D Z H1
theorem Xo{c:Ak}{a b:Ad AC}{tc:TT}(hc:PT X c tc)(ha:PSs X a t)(hb:PSs X b u):PS X (.If c a b pos) (X8 tc t u):=by
 intro pI s Z H D I h;refine wpAny_If (thn (hc pI s Z H _ I h) λd s1 ⟨H1,I1,q1⟩ => ?_)
 cases d with
 |true=>exact ha pI s1 Z H1 D I1 q1
 |false=>exact hb pI s1 Z H1 D I1 q1
end
noncomputable abbrev TG:=V->St->Hp->(St->Hp->Prop)->Prop
noncomputable abbrev TGs:=Ad V->St->Hp->(St->Hp->Prop)->Prop
noncomputable def PG(X:Cx)(target:Ak)(t:TG):Prop:=
 ∀(pI:Ad (Ai × AD))(s:Am)(Z:St)(H:Hp)(v:V)(u:Ah)(Q:St->Hp->Prop),Inv X pI Z H s->Be v u->t v Z H Q ->
  As (model X.prog X.w) X.A (assign target X.env u) (λ_ s' => ∃ Z' H',Inv X pI Z' H' s'/\Q Z' H') X.xe s
noncomputable def PGs(X:Cx)(ts:Ad Ak)(t:TGs):Prop:=
 ∀(pI:Ad (Ai × AD))(s:Am)(Z:St)(H:Hp)(vs:Ad V)(us:Ad Ah)(Q:St->Hp->Prop),Inv X pI Z H s->AS vs us->t vs Z H Q ->
  As (model X.prog X.w) X.A (assignInOrder ((Cy ts X.env).map (·.2)) us) (λ_ s' => ∃ Z' H',Inv X pI Z' H' s'/\Q Z' H') X.xe s
section
variable{X:Cx}{pos:Az}
noncomputable def EF(i:Ae):TG:=λv Z H Q=>Q (Z.set i (Aa v)) H
theorem Ij(hN:X.N.Nodup)(hi:X.N[i]? = Aa x)(hx:Loc X.env.scope x)(hf:X.fn x=Ab\/X.env.scope.names.lookup x=Aa .local:=by first|exact .inl rfl|exact .inr rfl|assumption):PG X (.Name x pos) (EF i):=by
 intro pI s Z H v u Q I r h;exact QA (JC I hN hi hx r (λs' I'=>⟨_,H,I',h⟩) hf)
noncomputable def HN:TGs:=λvs Z H Q=>vs=[]/\Q Z H
noncomputable def Hy(t:TG)(u:TGs):TGs:=λvs Z H Q => ∃ v r,vs=v::r/\t v Z H λZ' H'=>u r Z' H' Q
theorem Ue:PGs X [] HN:=by
 intro pI s Z H vs us Q I r h;obtain⟨e,h⟩:=h;subst e;cases r;exact assignInOrder_nil ⟨Z,H,I,h⟩
theorem RG{t:TG}{u:TGs}(h1:PG X e t)(h2:PGs X es u)(hs:(Cy (e::es) X.env).map (·.2)=assign e X.env::(Cy es X.env).map (·.2):=by rfl):PGs X (e::es) (Hy t u):=by
 intro pI s Z H vs us Q I r h;obtain⟨v,vr,e1,h⟩:=h;subst e1;cases r with
 |cons r rr=>
  rw[hs];refine assignInOrder_cons (thn (h1 pI s Z H _ _ _ I r h) λ_ s1 ⟨Z1,H1,I1,q1⟩ => ?_)
  exact h2 pI s1 Z1 H1 _ _ Q I1 rr q1
noncomputable def Lh(K:Fg)(n:Ae)(t:TGs):TG:=λv Z H Q => ∃ a xs,v = .ref a/\SqT K H a xs/\xs.length=n/\t xs Z H Q
theorem Vc{t:TGs}(hc:X.calm=Ab)(h:PGs X es t)(hn:(Cy es X.env).length=n:=by rfl)(hst:(Cy es X.env).findIdx? (·.1)=Af:=by rfl):PG X (.Tuple es k pos) (Lh X.K n t):=by
 intro pI s Z H v u Q I r hw;obtain⟨a,xs,e1,hq,hl,hw⟩:=hw;subst e1;cases r;obtain⟨its,rv,ht,hz⟩:=I.tuple hq;refine assign_Tuple_tuple (I.ok.hd hc) ht (by simp[hn,<-hl,rv.length]) hst λh' hx => ?_
 have I1:Inv X pI Z H {s with heap:=h'}:=I.kept (t':=s.toks) λb o e=>hx b o (Bp (AA e)) e
 exact h pI _ Z H xs _ Q I1 (by simpa using rv) hw
noncomputable def K0(te:TE)(g:TG):TS:=λD Z H=>te Z H λx H1=>g x Z H1 D.nx
theorem Ip{te:TE}{pos':Az}(hN:X.N.Nodup)(hi:X.N[i]? = Aa x)(hx:Loc X.env.scope x)(he:PE X e te)(hs:Ch e (Aa (.Name x pos')) pos.line X.env=pure Ac:=by rfl)(hf:X.fn x=Ab\/X.env.scope.names.lookup x=Aa .local:=by first|exact .inl rfl|exact .inr rfl|assumption):PS X (.Assign [.Name x pos'] e pos) (K0 te (EF i)):=by
 intro pI s Z H D I h;refine wpAny_Assign_Name (thn (he pI s Z H _ I h) λv s1 ⟨y,H1,I1,r1,q1⟩ => ?_) hs
 exact JC I1 hN hi hx r1 (λs2 I2=>⟨_,H1,I2,q1⟩) hf
end
section
variable{X:Cx}{pos:Az}
end
structure It where
 go:Ae->Hp->Prop
 yld:Ae->Hp->V->Hp->Prop
 stop:Ae->Hp->Prop
noncomputable def Fo(X:Cx)(pI:Ad (Ai × AD))(H:Hp)(b:Ai):Prop:=
 H b=Af/\b≠X.env.locals/\b ∉ X.fs/\(b∈X.ex\/X.s₀.heap.objs.size<=b)/\(∀ x c,X.env.cells.lookup x=Aa c->c≠b) /\ ∀ p∈X.pn++pI,p.1≠b
theorem Inv.fpOk{H':Hp}(I:Inv X pI Z H s)(hb:s.heap.objs.size<=b)(hn:H' b=Af):Fo X pI H' b:=by
 refine⟨hn,O7 (AF I.lt hb),I.nofs hb,.inr (BP I.sz hb),λx c e z => ?_,λp hp z => ?_⟩
 .obtain⟨v,q⟩:=I.cell x c e;exact absurd (AF q.lt (by rw[z];exact hb)) (Bc _)
 .exact absurd (AF (AA (I.pin p hp).1) (by rw[z];exact hb)) (Bc _)
structure Turn (P:AE) (w:Ar) (K:Fg) (tg:Ak) (J:It) (fp:Ad Ai) (it:Ai) (tn:Ae->Ay->Prop):Prop where
 mem:it∈fp
 obj : ∀ i h,tn i h -> ∀ b∈fp,∃ o,h.get? b=Aa o /\ ∀ v,o.data ≠ .cell v
 keep : ∀ i h h',tn i h->(∀ b∈fp,∀ o,h.get? b=Aa o->h'.get? b=Aa o)->tn i h'
 item : ∀(X:Cx),X.prog=P->X.w=w->X.K=K->X.calm=Ab -> ∀(i:Ae)(pI:Ad (Ai × AD))(s:Am)(Z:St)(H:Hp)(E:Ah->Am->Prop),Inv X pI Z H s->(∀ b∈fp,Fo X pI H b)->tn i s.heap->J.go i H ->
  As (model P w) X.A (pyNext (.ref it)) (λr s1 => ∃ u,r=Aa u /\
   As (model P w) X.A (Eb tg (.ref it) u) (λ_ s2 => ∃ x H',Inv X pI Z H' s2/\Be x u/\J.yld i H x H'/\tn (i+1) s2.heap /\ ∀ b∈fp,H' b=Af) E s1) E s
 done : ∀(X:Cx),X.prog=P->X.w=w->X.K=K->X.calm=Ab -> ∀(i:Ae)(pI:Ad (Ai × AD))(s:Am)(Z:St)(H:Hp)(E:Ah->Am->Prop),Inv X pI Z H s->(∀ b∈fp,Fo X pI H b)->tn i s.heap->J.stop i H ->
  As (model P w) X.A (pyNext (.ref it)) (λr s1=>r=Af/\Inv X pI Z H s1) E s
 self : ∀(A:AN)(i:Ae)(s:Am)(Q:Ah->Am->Prop)(E:Ah->Am->Prop),tn i s.heap->Q (.ref it) s->As (model P w) A (pyIter (.ref it)) Q E s
noncomputable abbrev TI:=St->Hp->(It->Hp->Prop)->Prop
noncomputable def PIE(X:Cx)(pI:Ad (Ai × AD))(Z:St)(tg:Ak)(R:It->Hp->Prop)(itv:Ah)(s2:Am):Prop:=
 ∃(it:Ai)(fp:Ad Ai)(tn:Ae->Ay->Prop)(J:It)(H':Hp),itv = .ref it/\Inv X pI Z H' s2/\Turn X.prog X.w X.K tg J fp it tn/\tn 0 s2.heap/\(∀ b∈fp,Fo X pI H' b)/\R J H'
noncomputable def PI(X:Cx)(tg iter:Ak)(wi:TI):Prop:=
 ∀(pI:Ad (Ai × AD))(s:Am)(Z:St)(H:Hp)(R:It->Hp->Prop),Inv X pI Z H s->wi Z H R ->
  As (model X.prog X.w) X.A (eval iter X.env) (λv s1=>As (model X.prog X.w) X.A (pyIter v) (PIE X pI Z tg R) X.xe s1) X.xe s
theorem Ks{A:AN}{E:Ah->Am->Prop}{n:B6}{vs:Ba Ah}{Q:Dd->Am->Prop}(ho:s.heap.get? it=Aa o)(hc:o.cls = .type n)(hd:o.data = .fields vs)(hn:["enumerate", "zip", "dict_itemiterator", "dict_reverseitemiterator", "odict_iterator", "itertools.zip_longest", "itertools.pairwise"].contains n=Ac)(hQ:Q () s):As M A (Eb tg (.ref it) u) Q E s:=by
  unfold Eb;cases tg <;> first
    |exact Bm hQ
    | (cases u <;> first
        |exact Bm hQ
        | (refine At (wpAny_load ho ?_)
           rw[hc,hd];show As M A (if (["enumerate", "zip", "dict_itemiterator", "dict_reverseitemiterator", "odict_iterator", "itertools.zip_longest", "itertools.pairwise"].contains n&&vs[0]? == Aa (Ew _))=Ab then _ else _) Q E s
           rw[A8 (by intro h;rw[hn,Bool.false_and]at h;cases h)]
           exact Bm hQ))
noncomputable def Itl(K:Fg)(a:Ai):It:=
 ⟨λi H => ∃ xs x,SqL K H a xs/\xs[i]? = Aa x,λi H x H'=>H'=H /\ ∀ xs,SqL K H a xs->xs[i]? = Aa x,λi H => ∃ xs,SqL K H a xs/\xs.length<=i⟩
noncomputable def Itt(K:Fg)(a:Ai):It:=
 ⟨λi H => ∃ xs x,SqT K H a xs/\xs[i]? = Aa x,λi H x H'=>H'=H /\ ∀ xs,SqT K H a xs->xs[i]? = Aa x,λi H => ∃ xs,SqT K H a xs/\xs.length<=i⟩
noncomputable def Itr(lo:Ao)(n:Ae):It:=⟨λi _=>i<n,λi H x H'=>H'=H/\x = .int (lo+i),λi _=>n<=i⟩
theorem Rk{w:Ar}{K:Fg}(a it:Ai):Turn P w K tg (Itl K a) [it] it (λi h=>h.IsListIter it a i) where
 mem:=by simp
 obj:=λi h st b hb=>by
  have e:b=it:=by simpa using hb
  subst e;obtain⟨o,e,c,d⟩:=st;exact⟨o,e,λv z=>by rw[d]at z;cases z⟩
 keep:=λi h h' st k=>st.at λo e=>k it (by simp) o e
 item:=by
  intro X hP hw hK hc i pI s Z H E I hf st hg;subst hP hw hK;obtain⟨xs,x,hq,hx⟩:=hg;obtain⟨its,rv,p,hz⟩:=I.list hq;obtain⟨u,hu,ru⟩:=rv.get hx;obtain⟨f0,f1,f2,f3,f4,f5⟩:=hf it (by simp)
  refine wpAny_pyNext_list_item st p.isList (x:=u) (by simpa using hu) λh' st' sb => ?_
  have I1:Inv X pI Z H {s with heap:=h'}:=I.turned (t':=s.toks) (λb o hb e=>(sb.2 b hb).trans e) f0 f1 f3 f4 f5
  obtain⟨o,e,c,d⟩:=id st';exact⟨u,rfl,Ks (s := {s with heap:=h'}) e c d (by decide) ⟨x,H,I1,ru,⟨rfl,λys hy=>by rw[I.list_inj hy hq];exact hx⟩,st',λb hb=>(hf b hb).1⟩⟩
 done:=by
  intro X hP hw hK hc i pI s Z H E I hf st hg;subst hP hw hK;obtain⟨xs,hq,hx⟩:=hg;obtain⟨its,rv,p,hz⟩:=I.list hq;obtain⟨f0,f1,f2,f3,f4,f5⟩:=hf it (by simp)
  have hl:=rv.length;exact wpAny_pyNext_list_end (I.ok.hd hc) st p.isList (by simp;omega) λh' eb=>⟨rfl,I.turned (t':=s.toks) (λb o hb e=>eb b o hb e) f0 f1 f3 f4 f5⟩
 self:=λ_ _ _ _ _ st h=>wpAny_pyIter_listiter st h
theorem QT{w:Ar}{K:Fg}(a it:Ai):Turn P w K tg (Itt K a) [it] it (λi h=>h.IsTupleIter it a i) where
 mem:=by simp
 obj:=λi h st b hb=>by
  have e:b=it:=by simpa using hb
  subst e;obtain⟨o,e,c,d⟩:=st;exact⟨o,e,λv z=>by rw[d]at z;cases z⟩
 keep:=λi h h' st k=>st.at λo e=>k it (by simp) o e
 item:=by
  intro X hP hw hK hc i pI s Z H E I hf st hg;subst hP hw hK;obtain⟨xs,x,hq,hx⟩:=hg;obtain⟨its,rv,p,hz⟩:=I.tuple hq;obtain⟨u,hu,ru⟩:=rv.get hx;obtain⟨f0,f1,f2,f3,f4,f5⟩:=hf it (by simp)
  refine wpAny_pyNext_tuple_item st (show s.heap.IsTuple a its.toArray from p) (x:=u) (by simpa using hu) λh' st' sb => ?_
  have I1:Inv X pI Z H {s with heap:=h'}:=I.turned (t':=s.toks) (λb o hb e=>(sb.2 b hb).trans e) f0 f1 f3 f4 f5
  obtain⟨o,e,c,d⟩:=id st';exact⟨u,rfl,Ks (s := {s with heap:=h'}) e c d (by decide) ⟨x,H,I1,ru,⟨rfl,λys hy=>by rw[I.tuple_inj hy hq];exact hx⟩,st',λb hb=>(hf b hb).1⟩⟩
 done:=by
  intro X hP hw hK hc i pI s Z H E I hf st hg;subst hP hw hK;obtain⟨xs,hq,hx⟩:=hg;obtain⟨its,rv,p,hz⟩:=I.tuple hq;obtain⟨f0,f1,f2,f3,f4,f5⟩:=hf it (by simp)
  have hl:=rv.length;exact wpAny_pyNext_tuple_end (I.ok.hd hc) st (show s.heap.IsTuple a its.toArray from p) (by simp;omega) λh' eb=>⟨rfl,I.turned (t':=s.toks) (λb o hb e=>eb b o hb e) f0 f1 f3 f4 f5⟩
 self:=λ_ _ _ _ _ st h=>wpAny_pyIter_tupleiter st h
theorem QU{w:Ar}{K:Fg}(it:Ai)(lo:Ao)(n:Ae):Turn P w K tg (Itr lo n) [it] it (λi h=>IsRangeIter h it (lo+(i:Ae)*1) ((n:Ao)-(i:Ae)) 1) where
 mem:=by simp
 obj:=λi h st b hb=>by
  have e:b=it:=by simpa using hb
  subst e;exact⟨_,st,λv z=>by
   have z':Data.fields _=G3 v:=z;cases z'⟩
 keep:=λi h h' st k=>k it (by simp) _ st
 item:=by
  intro X hP hw hK hc i pI s Z H E I hf st hg;subst hP hw hK;obtain⟨f0,f1,f2,f3,f4,f5⟩:=hf it (by simp)
  have W:=Walks.range (prog:=X.prog) (w:=X.w) (I.ok.hd hc) it lo 1 n;refine W.item i s _ _ hg st λv h' tk hv st' kk => ?_
  obtain⟨t,rfl⟩:=hv;have I1:Inv X pI Z H {s with heap:=h',toks:=tk}:=I.turned (λb o hb e=>kk b o (by simpa using hb) e) f0 f1 f3 f4 f5
  refine⟨_,rfl,Ks (s := {s with heap:=h',toks:=tk}) (n := "range_iterator") st' rfl rfl (by decide) ⟨.int (lo+i),H,I1,⟨t,?_⟩,⟨rfl,rfl⟩,st',λb hb=>(hf b hb).1⟩⟩
  rw[Int.mul_one]
 done:=by
  intro X hP hw hK hc i pI s Z H E I hf st hg;subst hP hw hK;obtain⟨f0,f1,f2,f3,f4,f5⟩:=hf it (by simp)
  exact wpAny_pyNext_range_end (I.ok.hd hc) st (by have:n<=i:=hg;omega) λh' eb=>⟨rfl,I.turned (t':=s.toks) (λb o hb e=>eb b o hb e) f0 f1 f3 f4 f5⟩
 self:=λ_ _ _ _ _ st h=>wpAny_pyIter_rangeiter st h
section
variable{X:Cx}{tg:Ak}
theorem Mf{R:It->Hp->Prop}{E:Ah->Am->Prop}{lo hi:Ao}{t u v:BW}{tk:Ae}(I:Inv X pI Z H s)(h1 : -(2 ^ 62)<=lo)(h2:lo<2 ^ 62)(h3 : -(2 ^ 62)<=hi)(h4:hi<2 ^ 62)(q:R (Itr lo (hi-lo).toNat) H):As (model X.prog X.w) X.A (pyIter (.ref s.heap.objs.size)) (PIE X pI Z tg R) E { s with heap:=s.heap.push { cls := .type "range",data := .fields #[.int lo t,.int hi u,.int 1 v] },toks:=tk }:=by
 refine wpAny_pyIter_range (IsRange.new ..) (small_one h1 h2 h3 h4) ?_;have I1:Inv X pI Z H { s with heap:=s.heap.push { cls := .type "range",data := .fields #[.int lo t,.int hi u,.int 1 v] },toks:=tk }:=I.kept λb o e=>Ax _ e
 refine⟨(s.heap.push { cls := .type "range",data := .fields #[.int lo t,.int hi u,.int 1 v] }).objs.size,[(s.heap.push { cls := .type "range",data := .fields #[.int lo t,.int hi u,.int 1 v] }).objs.size],_,_,H,rfl,
  I1.kept (t':=tk) λb o e=>Ax _ e,QU _ lo (hi-lo).toNat,?_,λb hb => ?_,q⟩
 .have e1:lo+((0:Ae):Ao)*1=lo:=by simp
  have e2:(((hi-lo).toNat:Ae):Ao)-((0:Ae):Ao)=Builtin.Range.rangeSize lo hi 1:=by rw[rangeSize_one];split <;> omega
  show IsRangeIter _ _ (lo+((0:Ae):Ao)*1) ((((hi-lo).toNat:Ae):Ao)-((0:Ae):Ao)) 1;rw[e1,e2];exact Bs _ rfl
 .have e:b=(s.heap.push { cls := .type "range",data := .fields #[.int lo t,.int hi u,.int 1 v] }).objs.size:=by simpa using hb
  subst e;exact I1.fpOk (AW _) (I1.hok.fresh (AW _))
noncomputable def WZ(ta:TA):TI:=λZ H R=>ta Z H λvs H1 => ∃ j:Ao,vs=[.int j] /\ -(2 ^ 62)<=j/\j<2 ^ 62/\R (Itr 0 j.toNat) H1
noncomputable def WY(ta:TA):TI:=λZ H R=>ta Z H λvs H1 => ∃ i j:Ao,vs=[.int i,.int j]/\(-(2 ^ 62)<=i/\i<2 ^ 62 /\ -(2 ^ 62)<=j/\j<2 ^ 62)/\R (Itr i (j-i).toNat) H1
theorem Re{a:Ak}{p:Az}(hg:Gl X "range")(hm:X.mg "range" = Af)(ha:PA X [a] ta)(hs:Aq [a] X.env=[(Ac,eval a X.env)]:=by rfl):PI X tg (.Call (.Name "range" p) [a] [] pos) (WZ ta):=by
 intro pI s Z H R I h;refine Call_ (Hv I hg hm boot_range (C1 (thn (ha pos pI s Z H _ I h) λus s1 ⟨vs,H1,I1,r1,q1⟩ => ?_) hs rfl))
 obtain⟨j,e,q1,q2,q⟩:=q1;subst e;cases r1 with
 |cons r rr=>
  cases rr;obtain⟨t,rfl⟩:=r;exact call_range_1 (Mf I1 (by omega) (by omega) q1 q2 (by simpa using q))
theorem Rc{a b:Ak}{p:Az}(hg:Gl X "range")(hm:X.mg "range" = Af)(ha:PA X [a,b] ta)(hs:Aq [a,b] X.env=[(Ac,eval a X.env),(Ac,eval b X.env)]:=by rfl)(hs2:Aq [b] X.env=[(Ac,eval b X.env)]:=by rfl):
  PI X tg (.Call (.Name "range" p) [a,b] [] pos) (WY ta):=by
 intro pI s Z H R I h;refine Call_ (Hv I hg hm boot_range (C1 (thn (ha pos pI s Z H _ I h) λus s1 ⟨vs,H1,I1,r1,q1⟩ => ?_) (by rw[hs,hs2]) (by rw[hs2];rfl)))
 obtain⟨i,j,e,⟨q1,q2,q3,q4⟩,q⟩:=q1;subst e;cases r1 with
 |cons r rr=>
  cases rr with
  |cons r' rr=>
   cases rr;obtain⟨t,rfl⟩:=r;obtain⟨t',rfl⟩:=r';exact call_range_2 (Mf I1 q1 q2 q3 q4 q)
noncomputable def Yb(wi:TI)(g:TG)(tb:TS):TS:=λD Z H=>wi Z H λJ H1 => ∃ W:Ae->Ae->St->Hp->Prop,(∃ m,W 0 m Z H1) /\ ∀ i m Z H,W i m Z H ->
 (J.stop i H/\D.nx Z H)\/(J.go i H /\ ∃ N:St->Hp->Prop,(∀ Z' H',N Z' H' -> ∃ m',m'<m/\W (i+1) m' Z' H') /\ ∀ x H',J.yld i H x H'->g x Z H' λZ2 H2=>tb {D with nx:=N,ct:=N,bk:=D.nx} Z2 H2)
noncomputable def Gm(fp:Ad Ai)(h:Ay):Ad (Ai × AD):=fp.filterMap λb=>(h.get? b).map λo=>(b,o)
theorem Ib(hb:b∈fp)(e:h.get? b=Aa o):(b,o)∈Gm fp h:=List.mem_filterMap.mpr ⟨b,hb,by rw[e];rfl⟩
theorem LS{p:Ai × AD}(hp:p∈Gm fp h):p.1∈fp/\h.get? p.1=Aa p.2:=by
 obtain⟨b,hb,e⟩:=List.mem_filterMap.mp hp;cases q:h.get? b with
 |none=>rw[q]at e;cases e
 |some o=>
  rw[q]at e;have e':(b,o)=p:=BD e;subst e';exact⟨hb,q⟩
theorem Inv.pinned(I:Inv X pI Z H s)(hf : ∀ b∈fp,Fo X pI H b)(ho : ∀ b∈fp,∃ o,s.heap.get? b=Aa o /\ ∀ v,o.data ≠ .cell v):Inv X (pI++Gm fp s.heap) Z H s:=
 I.pins_of λp hp=>(Fa.mp hp).elim (λz=>I.pin p (A6 _ z)) λz=>by
  obtain⟨hb,e⟩:=LS z;obtain⟨f0,f1,f2,_⟩:=hf p.1 hb;obtain⟨o,e',d⟩:=ho p.1 hb;rw[e]at e';cases e';exact⟨e,f0,f1,f2,d⟩
theorem Inv.unpinned{pl:Ad (Ai × AD)}(I:Inv X (pI++pl) Z H s):Inv X pI Z H s:=I.pins_of λp hp=>I.pin p (A6 _ (D5 _ hp))
theorem U_7{iter:Ak}{wi:TI}{g:TG}{tb:TS}(hp:Dr (model X.prog X.w) X.A X.env X.xe)(hc:X.calm=Ab)(hi:PI X tg iter wi)(hg:PG X tg g)(hb:PSs X body tb)(hs : ∀ x,BX iter X.env x=pure x:=by intro _;rfl):PS X (.For tg iter body [] pos) (Yb wi g tb):=by
 intro pI s Z H D I h;refine wpAny_For (thn (hi pI s Z H _ I h) λv s1 h1=>thn h1 λitv s2 h2 => ?_) hs
 obtain⟨it,fp,tn,J,H2,e,I2,T,st2,f2,W,⟨m0,w0⟩,turn⟩:=h2;subst e
 -- what stays Ab of the iterator's objects through the loop
 have stat : ∀{H':Hp},(∀ b∈fp,H' b=Af) -> ∀ b∈fp,Fo X pI H' b:=λhn b hb=>⟨hn b hb,(f2 b hb).2⟩
 refine codeAny_forLoop_any (λn s' => ∃ i Z' H',Inv X pI Z' H' s'/\tn i s'.heap/\(∀ b∈fp,H' b=Af)/\W i n Z' H') ?_ m0 ⟨0,Z,H2,I2,st2,λb hb=>(f2 b hb).1,w0⟩
 rintro n s3 ⟨i,Z3,H3,I3,st3,fr3,w3⟩;rcases turn i n Z3 H3 w3 with ⟨stop,qn⟩|⟨go,N,hN,step⟩
 .refine Dm hp (thn (T.done X rfl rfl rfl hc i pI s3 Z3 H3 X.xe I3 (stat fr3) st3 stop) λr s4 ⟨hr,I4⟩ => ?_)
  subst hr;exact Dl ⟨Z3,H3,I4,qn⟩
 .refine Dm hp (thn (T.item X rfl rfl rfl hc i pI s3 Z3 H3 X.xe I3 (stat fr3) st3 go) λr s4 ⟨u,hr,h4⟩ => ?_)
  subst hr;refine Dm hp (thn h4 λ_ s5 ⟨x,H5,I5,r5,y5,st5,fr5⟩ => ?_)
  have I5':=I5.pinned (stat fr5) (T.obj _ _ st5);refine Dm hp (thn (hg _ s5 Z3 H5 x u _ I5' r5 (step x H5 y5)) λ_ s6 ⟨Z6,H6,I6,q6⟩ => ?_)
  refine Dm hp (thn (hb _ s6 Z6 H6 _ I6 q6) λf s7 q7 => ?_)
  have again : ∀{Z7:St}{H7:Hp},Inv X (pI++Gm fp s5.heap) Z7 H7 s7->N Z7 H7 -> ∃ m,m<n /\ ∃ i Z' H',Inv X pI Z' H' s7/\tn i s7.heap/\(∀ b∈fp,H' b=Af)/\W i m Z' H':=λ{Z7 H7} I7 n7=>by
   obtain⟨m',hm,w7⟩:=hN Z7 H7 n7;refine⟨m',hm,i+1,Z7,H7,I7.unpinned,T.keep _ _ _ st5 λb hb o e=>(I7.pin (b,o) (A6 _ (A6 _ (Ib hb e)))).1,λb hb => ?_,w7⟩
   obtain⟨o,e,d⟩:=T.obj _ _ st5 b hb;exact(I7.pin (b,o) (A6 _ (A6 _ (Ib hb e)))).2.1
  cases f with
  |next=>obtain⟨Z7,H7,I7,n7⟩:=q7;exact again I7 n7
  |cont=>obtain⟨Z7,H7,I7,n7⟩:=q7;exact again I7 n7
  |brk=>obtain⟨Z7,H7,I7,q7⟩:=q7;exact⟨Z7,H7,I7.unpinned,q7⟩
  |ret v=>obtain⟨x7,Z7,H7,I7,r7,q7⟩:=q7;exact⟨x7,Z7,H7,I7.unpinned,r7,q7⟩
end
noncomputable abbrev R2:=V->V->Hp->VK->Prop
variable{r:R2}
noncomputable def OpR(X:Cx)(f:Ah->Ah->Ez Ah)(r:R2):Prop:=
 ∀(pI:Ad (Ai × AD))(s:Am)(Z:St)(H:Hp)(x y:V)(v u:Ah)(Q:VK),Inv X pI Z H s->Be x v->Be y u->r x y H Q ->
  As (model X.prog X.w) X.A (f v u) (EP X pI Z Q) X.xe s
noncomputable def F4(X:Cx)(f:Ah)(r:Ad V->Hp->VK->Prop):Prop:=
 ∀(pI:Ad (Ai × AD))(s:Am)(Z:St)(H:Hp)(xs:Ad V)(us:Ad Ah)(Q:VK),Inv X pI Z H s->AS xs us->r xs H Q ->
  As (model X.prog X.w) X.A (call f us) (EP X pI Z Q) X.xe s
noncomputable def Yp(X:Cx)(r:V->Hp->(Aj->Hp->Prop)->Prop):Prop:=
 ∀(pI:Ad (Ai × AD))(s:Am)(Z:St)(H:Hp)(x:V)(v:Ah)(Q:Aj->Hp->Prop),Inv X pI Z H s->Be x v->r x H Q ->
  As (model X.prog X.w) X.A (truthy v) (TP X pI Z Q) X.xe s
noncomputable def tOp(r:R2)(ta tb:TE):TE:=λZ H Q=>ta Z H λx H1=>tb Z H1 λy H2=>r x y H2 Q
noncomputable def rI(C:Ao->Ao->Prop)(g:Ao->Ao->V):R2:=λx y H Q => ∃ i j,x = .int i/\y = .int j/\C i j/\Q (g i j) H
noncomputable def rI0(g:Ao->Ao->V):R2:=λx y H Q => ∃ i j,x = .int i/\y = .int j/\Q (g i j) H
section
variable{X:Cx}{a b c:Ak}{ta tb tc:TE}{pos:Az}
theorem Lf(ha:PE X a ta)(hb:PE X b tb){R:V->V->Hp->Prop}(I:Inv X pI Z H s)(h:ta Z H λx H1=>tb Z H1 λy H2=>R x y H2)(hf : ∀ v u s2 x y H2,Inv X pI Z H2 s2->Be x v->Be y u->R x y H2->As (model X.prog X.w) X.A (f v u) Q X.xe s2):As (model X.prog X.w) X.A (eval a X.env) (λv s₁=>As (model X.prog X.w) X.A (eval b X.env) (λu s₂=>As (model X.prog X.w) X.A (f v u) Q X.xe s₂) X.xe s₁) X.xe s:=by
 refine thn (ha pI s Z H _ I h) λv s1 ⟨x,H1,I1,r1,q1⟩ => ?_
 refine thn (hb pI s1 Z H1 _ I1 q1) λu s2 ⟨y,H2,I2,r2,q2⟩ => ?_
 exact hf v u s2 x y H2 I2 r1 r2 q2
theorem NH{op:Dq}(ho:OpR X (Bx op) r)(ha:PE X a ta)(hb:PE X b tb):PE X (.BinOp a op b pos) (tOp r ta tb):=by
 intro pI s Z H Q I h;exact wpAny_BinOp (Lf ha hb I h λv u s2 x y H2 I2 rx ry q=>ho pI s2 Z H2 x y v u Q I2 rx ry q)
theorem opI{C:Ao->Ao->Prop}(rule : ∀(i j:Ao)(t u:BW)(s:Am)(Q:Ah->Am->Prop)(E:Ah->Am->Prop),C i j->Q (.int (g i j) s.toks) {s with toks:=s.toks+1}->As (model X.prog X.w) X.A (f (.int i t) (.int j u)) Q E s):OpR X f (rI C λi j =>.int (g i j)):=by
 intro pI s Z H x y v u Q I rx ry h;obtain⟨i,j,rfl,rfl,hc,q⟩:=h;obtain⟨t,rfl⟩:=rx;obtain⟨t',rfl⟩:=ry;exact rule i j t t' s _ _ hc ⟨.int (g i j),H,I.tok _,⟨_,rfl⟩,q⟩
theorem N7(rule : ∀(i j:Ao)(t u:BW)(s:Am)(Q:Ah->Am->Prop)(E:Ah->Am->Prop),Q (.int (g i j) s.toks) {s with toks:=s.toks+1}->As (model X.prog X.w) X.A (f (.int i t) (.int j u)) Q E s):OpR X f (rI0 λi j =>.int (g i j)):=by
 intro pI s Z H x y v u Q I rx ry h;obtain⟨i,j,rfl,rfl,q⟩:=h;obtain⟨t,rfl⟩:=rx;obtain⟨t',rfl⟩:=ry;exact rule i j t t' s _ _ ⟨.int (g i j),H,I.tok _,⟨_,rfl⟩,q⟩
theorem IS{g:Ao->Ao->Aj}(rule : ∀(i j:Ao)(t u:BW)(s:Am)(Q:Ah->Am->Prop)(E:Ah->Am->Prop),Q (.bool (g i j)) s->As (model X.prog X.w) X.A (f (.int i t) (.int j u)) Q E s):OpR X f (rI0 λi j =>.bl (g i j)):=by
 intro pI s Z H x y v u Q I rx ry h;obtain⟨i,j,rfl,rfl,q⟩:=h;obtain⟨t,rfl⟩:=rx;obtain⟨t',rfl⟩:=ry;exact rule i j t t' s _ _ ⟨.bl (g i j),H,I,rfl,q⟩
noncomputable def Yt(i j:Ao):Prop:=0<j/\j<1073741824
noncomputable def Ys(i j:Ao):Prop:=0<=j/\j<=1000000/\i.natAbs<2 ^ 64
noncomputable def Jb(i j:Ao):Prop:=(-(2 ^ 64)<i/\i<2 ^ 64)\/(-(2 ^ 64)<j/\j<2 ^ 64)
theorem Jb.ok{i j:Ao}(h:Jb i j):G8 i j:=by
 rcases h with ⟨h1,h2⟩|⟨h1,h2⟩
 .exact .of_left (intBits_le_64 h1 h2)
 .exact .of_right (intBits_le_64 h1 h2)
theorem US:OpR X (Bx .Add) (rI0 λi j => .int (i+j)):=N7 λ_ _ _ _ _ _ _ q=>add_int q
theorem Vj:OpR X (Bx .Sub) (rI0 λi j => .int (i-j)):=N7 λ_ _ _ _ _ _ _ q=>sub_int q
theorem Tz:OpR X (Bx .FloorDiv) (rI Yt λi j => .int (i/j)):=opI λi j _ _ _ _ _ hc q=>by
 have h1:(0:Ao)<j:=hc.1;have h2:j<1073741824:=hc.2;exact floordiv_int (by omega) (by rw[Int.fdiv_eq_ediv_of_nonneg i (by omega)];exact q) (.inl (PyProof.noPylong_small (by omega)))
theorem Vl:OpR X (Bx .Mod) (rI (λ_ j=>0<j) λi j => .int (i%j)):=opI λi j _ _ _ _ _ hc q=>by
 have h1:(0:Ao)<j:=hc;exact mod_int' (by omega) (by rw[Int.fmod_eq_emod_of_nonneg i (by omega)];exact q)
theorem Vk:OpR X (Bx .Pow) (rI Ys λi j => .int (i ^ j.toNat)):=opI λ_ _ _ _ _ _ _ hc q=>pow_int_small hc.1 hc.2.1 hc.2.2 q
end
section
variable{X:Cx}{a b c:Ak}{ta tb tc:TE}{pos:Az}
theorem Nk{Q:VK}{k k':Aj}(I:Inv X pI Z H s)(q:Q (.bl k) H)(e:k=k'):EP X pI Z Q (.bool k') s:=by
 subst e;exact⟨.bl k,H,I,rfl,q⟩
theorem Xv:OpR X (B2 .Lt) (rI0 λi j => .bl (decide (i<j))):=IS λ_ _ _ _ _ _ _ q=>lt_int q
theorem Xx:OpR X (B2 .LtE) (rI0 λi j => .bl (decide (i<=j))):=IS λ_ _ _ _ _ _ _ q=>le_int q
theorem Xy:OpR X (B2 .Gt) (rI0 λi j => .bl (decide (j<i))):=IS λ_ _ _ _ _ _ _ q=>gt_int q
theorem Xz:OpR X (B2 .GtE) (rI0 λi j => .bl (decide (j<=i))):=IS λ_ _ _ _ _ _ _ q=>ge_int q
theorem Vm:OpR X (B2 .Is) (λx y H Q=>y = .non/\Q (.bl (decide (x = .non))) H):=by
 intro pI s Z H x y v u Q I rx ry h;obtain⟨rfl,q⟩:=h;cases ry;refine is_none_gen (Nk I q ?_);cases x <;> first
  |(cases rx;rfl)
  |(obtain⟨t,rfl⟩:=rx;rfl)
theorem Up:OpR X (B2 .IsNot) (λx y H Q=>y = .non/\Q (.bl (!decide (x = .non))) H):=by
 intro pI s Z H x y v u Q I rx ry h;obtain⟨rfl,q⟩:=h;cases ry;refine isnot_none_gen (Nk I q ?_);cases x <;> first
  |(cases rx;rfl)
  |(obtain⟨t,rfl⟩:=rx;rfl)
theorem Uh(ho:OpR X (B2 op) r)(ha:PE X a ta)(hb:PE X b tb)(hm:EA op b=Ac):PE X (.Compare a [op] [b] pos) (tOp r ta tb):=by
 intro pI s Z H Q I h;exact wpAny_Compare1 (Lf ha hb I h λv u s2 x y H2 I2 rx ry q=>ho pI s2 Z H2 x y v u Q I2 rx ry q) hm
noncomputable def Nz(t:TE):TT:=λZ H Q=>t Z H λx H' => ∃ k,x = .bl k/\Q k H'
theorem T7(ho:OpR X (B2 op) r)(ha:PE X a ta)(hb:PE X b tb)(hm:EA op b=Ac):PT X (.Compare a [op] [b] pos) (Nz (tOp r ta tb)):=by
 intro pI s Z H Q I h;refine wpAny_isTrue_Compare1 (thn (ha pI s Z H _ I h) λv s1 ⟨x,H1,I1,r1,q1⟩=>thn (hb pI s1 Z H1 _ I1 q1) λu s2 ⟨y,H2,I2,r2,q2⟩=>
  thn (ho pI s2 Z H2 x y v u _ I2 r1 r2 q2) λc s3 ⟨z,H3,I3,r3,k,e,q3⟩ => ?_) hm
 subst e;cases r3;exact BY ⟨H3,I3,q3⟩
noncomputable def Ut(r r':R2)(ta tb tc:TE):TE:=λZ H Q=>ta Z H λx H1=>tb Z H1 λy H2=>r x y H2 λz H3 => ∃ k,z = .bl k /\
 (if k=Ab then tc Z H3 λw' H4=>r' y w' H4 Q else Q (.bl Ac) H3)
theorem RE{op':Cd}{r':R2}(ho:OpR X (B2 op) r)(ho':OpR X (B2 op') r')(ha:PE X a ta)(hb:PE X b tb)(hc:PE X c tc)(hm:lastMarks [op,op'] [b,c]=Ac:=by with_unfolding_all rfl):PT X (.Compare a [op,op'] [b,c] pos) (Nz (Ut r r' ta tb tc)):=by
 intro pI s Z H Q I h;refine isTrue_chain (thn (ha pI s Z H _ I h) λv s1 ⟨x,H1,I1,r1,q1⟩=>test_link (thn (hb pI s1 Z H1 _ I1 q1) λu s2 ⟨y,H2,I2,r2,q2⟩=>
  thn (ho pI s2 Z H2 x y v u _ I2 r1 r2 q2) λd s3 ⟨z,H3,I3,r3,k,e,q3⟩ => ?_)) hm
 subst e;cases r3;refine BY ?_;cases k with
 |false=>
  obtain⟨k',e',q'⟩:=q3;cases e';exact ite_ff ⟨H3,I3,q'⟩
 |true=>
  refine ite_tt (test_last (thn (hc pI s3 Z H3 _ I3 q3) λw' s4 ⟨z',H4,I4,r4,q4⟩=>thn (ho' pI s4 Z H4 y z' u w' _ I4 r2 r4 q4) λd' s5 ⟨z2,H5,I5,r5,k2,e2,q5⟩ => ?_))
  subst e2;cases r5;exact BY ⟨H5,I5,q5⟩
noncomputable def OG(K:Fg)(x:V)(H:Hp)(k:Aj):Prop:=
  match x with
  |.non=>k=Ac
  |.bl b=>k=b
  |.int i=>k=(i != 0)
  |.str y=>y.length<=sizeLine/\k=((y.length:Ao) != 0)
  |.byt y=>y.size<=sizeLine/\k=((y.size:Ao) != 0)
  |.ref p=>(∃ xs,SqL K H p xs/\k = !xs.isEmpty)\/(∃ xs,SqT K H p xs/\k = !xs.isEmpty) \/ ∃ kvs,H p=Aa (.dK kvs)/\k = !kvs.isEmpty
  |_=>AT
theorem Q1{κ:Type}{kvs:Ad (κ × V)}{vs:Ad (κ × Ah)}(r:KV kvs vs):(!vs.isEmpty) = !kvs.isEmpty:=by
 cases r <;> rfl
theorem Lx{its:Ad Ah}(r:AS xs its):(!its.toArray.isEmpty) = !xs.isEmpty:=by
 cases r <;> simp
theorem Hu:(sizeLine:Ae)<2 ^ 63:=by rw[Cc];decide
theorem Uq:Yp X (λx H Q => ∃ k,OG X.K x H k/\Q k H):=by
 intro pI s Z H x v Q I rx h;obtain⟨k,e,q⟩:=h;have hl:=Hu;have hs:sizeLine=16777216:=Cc;cases x with
 |non=>
  cases rx;have e':k=Ac:=e;subst e';exact truthy_none ⟨H,I,q⟩
 |bl b=>
  cases rx;have e':k=b:=e;subst e';exact BY ⟨H,I,q⟩
 |int i=>
  obtain⟨t,rfl⟩:=rx;have e':k=(i != 0):=e;subst e';exact PySem.P.truthy_int ⟨H,I,q⟩
 |str y=>
  obtain⟨t,rfl⟩:=rx;obtain⟨hy,e'⟩:y.length<=sizeLine/\k=((y.length:Ao) != 0):=e;subst e';exact PySem.P.truthy_str (by omega) ⟨H,I.tok _,q⟩
 |byt y=>
  obtain⟨t,rfl⟩:=rx;obtain⟨hy,e'⟩:y.size<=sizeLine/\k=((y.size:Ao) != 0):=e;subst e';exact PySem.W.truthy_bytes (by omega) ⟨H,I.tok _,q⟩
 |ref p=>
  cases rx;have e':(∃ xs,SqL X.K H p xs/\k = !xs.isEmpty)\/(∃ xs,SqT X.K H p xs/\k = !xs.isEmpty) \/ ∃ kvs,H p=Aa (.dK kvs)/\k = !kvs.isEmpty:=e;rcases e' with ⟨xs,hx,e'⟩|⟨xs,hx,e'⟩|⟨kvs,hx,e'⟩
  .subst e';obtain⟨its,r,pl,hz⟩:=I.list hx;have hlen:=r.length;exact wpAny_truthy_list pl.isList (by simp only[A1];omega) ⟨H,I.tok _,by rw[Lx r];exact q⟩
  .subst e';obtain⟨its,r,pl,hz⟩:=I.tuple hx;have hlen:=r.length;exact truthy_tuple pl (by simp only[A1];omega) ⟨H,I.tok _,by rw[Lx r];exact q⟩
  .subst e';obtain⟨hz,hS,vs,r,m⟩:kvs.length<=sizeLine/\(p==GB)=Ac /\ ∃ vs,KV kvs vs/\s.heap.DictOf (JT X.prog X.w) p vs:=I.hok p _ hx;have hlen:kvs.length=vs.length:=P1 r;exact wpAny_truthy_dict hS m (by omega) ⟨H,I.tok _,by rw[Q1 r];exact q⟩
 |_=>exact(show AT from e).elim
theorem RD(ha:PE X a ta)(he : ∀ whole,Fv a X.env whole=(do let v <-whole;standAt a.pos;holding [v] (truthy v))):PT X a (λZ H Q=>ta Z H λx H' =>∃ k,OG X.K x H' k/\Q k H'):=by
 intro pI s Z H Q I h;exact isTrue_plain (thn (ha pI s Z H _ I h) λv s1 ⟨x,H1,I1,r1,q1⟩=>Uq pI s1 Z H1 x v Q I1 r1 q1) (he _)
theorem QX:OpR X (Bx .Add) (λx y H Q => ∃ i j,x = .str i/\y = .str j/\i.length+j.length<=sizeLine/\Q (.str (i++j)) H):=by
 intro pI s Z H x y v u Q I rx ry h;obtain⟨i,j,rfl,rfl,hz,q⟩:=h;obtain⟨t,rfl⟩:=rx;obtain⟨t',rfl⟩:=ry;exact add_str (λt' tk=>⟨.str (i++j),H,I.tok _,⟨_,rfl⟩,q⟩) hz
theorem GV{x:V}(r:AS [x] us) : ∃ u,us=[u]/\Be x u:=by
 cases r with
 |cons r1 r2=>cases r2;exact⟨_,rfl,r1⟩
theorem HC{x:V}(r:AS [x,y] us) : ∃ u w',us=[u,w']/\Be x u/\Be y w':=by
 cases r with
 |cons r1 r2=>
  cases r2 with
  |cons r3 r4=>cases r4;exact⟨_,_,rfl,r1,r3⟩
end
section
variable{prog:AE}{w:Ar}{A:AN}{E:Ah->Am->Prop}{s:Am}{K:Fg}{x dx C f:Ai}{mA:Ag->An Ah}{name:Ag}{v:Ah}
end
theorem HP.some_of{o:An Ah}(r:HP (Aa v) o) : ∃ u,o=Aa u/\Be v u:=by
 cases o with
 |none=>exact(show AT from r).elim
 |some u=>exact⟨u,rfl,r⟩
theorem Q6(r:Be v u):PySem.W.handedIn u=Ab:=by
 cases v with
 |non=>cases (show u=Cw from r);rfl
 |bl b=>cases (show u=Gz b from r);rfl
 |int i=>obtain⟨t,e⟩:=(show ∃ t,u=G4 i t from r);cases e;rfl
 |str x=>obtain⟨t,e⟩:=(show ∃ t,u=G5 x t from r);cases e;rfl
 |byt b=>obtain⟨t,e⟩:=(show ∃ t,u=Qh b t from r);cases e;rfl
 |flt b=>obtain⟨t,e⟩:=(show ∃ t,u=Qi b t from r);cases e;rfl
 |ref a=>cases (show u=BG a from r);rfl
 |ty n=>cases (show u=Qj n from r);rfl
section
variable{P:AE}{w:Ar}{H H':Hp}{h h':Ay}{a C dx:Ai}{fs fs':Ad (Ag × V)}
end
section
variable{X:Cx}{pI:Ad (Ai × AD)}{Z:St}{H:Hp}{s:Am}{a C dx:Ai}{fs:Ad (Ag × V)}{f:Ag}{v:V}{A:AN}{E:Ah->Am->Prop}
theorem UN{prog:AE}{w:Ar}{env:BE}{f:Ag}(hb:DN e f env (eval e env)=eval e env)(h:As (model prog w) A (eval e env) (λo s₁=>As (model prog w) A (getAttr o f Ab) Q E s₁) E s):As (model prog w) A (eval (.Attribute e f pos) env) Q E s:=
 Attribute_any_ h (by rw[arm_eval_Attribute,hb])
end
section
variable{X:Cx}{o e value:Ak}{f:Ag}{pos pos' tpos:Az}{ta tv:TE}
end
section
variable{X:Cx}{pI:Ad (Ai × AD)}{Z:St}{H:Hp}{s:Am}{A:AN}{E:Ah->Am->Prop}{Q:Ah->Am->Prop}{c:Ah}{b:Aj}
end
structure Room (k:Ae) (A:AN):Prop where
 hd:A.handled=Af
 dp:A.depth+3*k+5<FA
 un:A.units+16*k+200<Bo
 gd:A.guards=Aa []
theorem Room.mono{A:AN}(r:Room k A)(h:j<=k):Room j A:=⟨r.hd,by have:=r.dp;omega,by have:=r.un;omega,r.gd⟩
theorem Room.deeper{A:AN}(r:Room (k+1) A)(env:BE):Room k (A.deeper env):=
 ⟨r.hd,by have:=r.dp;show A.depth+1+3*k+5<_;omega,by have:=r.un;show A.units+3+16*k+200<_;omega,r.gd⟩
theorem QZ{A:AN}{C:Ai}:(A.under (.builtin "type.__call__" ⟨.ref C::us,kw⟩)).depth=A.depth+1:=by
 first|rfl|simp[FV,Code.weight,Code.isCreation,Code.isGuard,Code.isCaller,Pk,FW,guardIds]
theorem QY{A:AN}{C:Ai}:(A.under (.builtin "type.__call__" ⟨.ref C::us,kw⟩)).units=A.units+1:=by
 first|rfl|simp[FV,Code.cUnits,Pk,FW]
theorem Room.depth{A:AN}(r:Room k A):A.depth<FA:=by have:=r.dp;omega
theorem Room.units{A:AN}(r:Room k A):A.units+64<Bo:=by have:=r.un;omega
noncomputable def X6:TA:=λ_ H Q=>Q [] H
noncomputable def Wh(ta:TE)(tr:TA):TA:=λZ H Q=>ta Z H λx H1=>tr Z H1 λxs H2=>Q (x::xs) H2
section
variable{X:Cx}{e:Ak}{es:Ad Ak}{te:TE}{t:TA}{pos:Az}
theorem E2:PA X [] X6:=λ_ _ _ _ H Q I h=>Calls.spliced_nil ⟨[],H,I,.nil,h⟩
theorem Du(ha:PE X e te)(hr:PA X es t)(hs:Aq (e::es) X.env=(Ac,eval e X.env)::Aq es X.env:=by rfl):PA X (e::es) (Wh te t):=by
 intro pos pI s Z H Q I h;rw[hs];show As _ _ (spliced ((Ac,eval e X.env)::Bv pos (Aq es X.env))) _ _ s;refine Calls.spliced_cons (thn (ha pI s Z H _ I h) λu s1 ⟨x,H1,I1,r1,q1⟩ => ?_)
 exact thn (hr pos pI s1 Z H1 _ I1 q1) λus s2 ⟨xs,H2,I2,r2,q2⟩=>⟨x::xs,H2,I2,.cons r1 r2,q2⟩
noncomputable def X1(t:TA):TE:=λZ H Q=>t Z H λxs H1=>xs.length<=sizeLine /\ ∀ p,H1 p=Af->Q (.ref p) (upd H1 p (.tup xs))
noncomputable def X7(t:TA):TE:=λZ H Q=>t Z H λxs H1=>xs.length<=sizeLine /\ ∀ p,H1 p=Af->Q (.ref p) (upd H1 p (.lst xs))
theorem Nh{x1}(h:PA X es t):PE X (.Tuple es x1 pos) (X1 t):=by
 intro pI s Z H Q I hq;refine wpAny_Tuple_spliced (thn (h pos pI s Z H _ I hq) λus s1 ⟨xs,H1,I1,r,z,q⟩=>⟨by rw[<-r.length];exact z,?_⟩)
 have hf:H1 s1.heap.objs.size=Af:=I1.hok.fresh (AW _);refine⟨.ref s1.heap.objs.size,upd H1 s1.heap.objs.size (.tup xs),I1.laid (t':=s1.toks) (λb u e=>Ax _ e) (AW _) ?_,rfl,q _ hf⟩
 exact⟨z,us,r,⟨_,Bs _ rfl,rfl,_,rfl⟩⟩
theorem Vg(h:PA X es t):PE X (.List es pos) (X7 t):=by
 intro pI s Z H Q I hq;refine wpAny_List_spliced (thn (h pos pI s Z H _ I hq) λus s1 ⟨xs,H1,I1,r,z,q⟩=>⟨by rw[<-r.length];exact z,?_⟩)
 have hf:H1 s1.heap.objs.size=Af:=I1.hok.fresh (AW _);refine⟨.ref s1.heap.objs.size,upd H1 s1.heap.objs.size (.lst xs),I1.laid (t':=s1.toks) (λb u e=>Ax _ e) (AW _) ?_,rfl,q _ hf⟩
 exact⟨z,us,0,r,Bs _ rfl⟩
end
noncomputable abbrev Sp:=Ad V->Hp->VK->XK->Prop
variable{sp:Sp}
noncomputable abbrev CXT:=Ad BE->Hp->Am->XK->Ah->Am->Prop
variable{CX:CXT}
structure Env0 (P:AE) (w:Ar) (K:Fg) (mg:Ag->An Ah) (base:Ay) (A:AN) (outer:Ad BE) (s:Am) (H:Hp):Prop where
 frames:A.frames=Aa outer
 mod:Mod K mg base
 bs : ∀ b o,base.get? b=Aa o->s.heap.get? b=Aa o/\H b=Af
 bsz:base.objs.size<=s.heap.objs.size
 funs:s.heap.FunFrames base outer
 frf : ∀ b∈frs outer,H b=Af
 hok:HOk P w H s.heap
 bare:Dz s.gens
noncomputable def CE(outer:Ad BE)(P:AE)(w:Ar)(H:Hp)(s:Am)(Q:VK)(u:Ah)(s':Am):Prop:=
 ∃ v H',s'.os=s.os/\Dz s'.gens/\Un (frs outer) [] H H' s.heap s'.heap/\HOk P w H' s'.heap/\Be v u/\Q v H'
noncomputable def CR(CX:CXT)(outer:Ad BE)(P:AE)(w:Ar)(H:Hp)(s:Am)(Q:VK)(E:XK)(r:Ft)(s':Am):Prop:=
  match r with
  |.ok (.ret u)=>CE outer P w H s Q u s'
  |.ok _=>AT
  |.error e=>CX outer H s E e s'
structure FnOk (P:AE) (w:Ar) (K:Fg) (mg:Ag->An Ah) (base:Ay) (CX:CXT) (k:Ae) (f:Ai) (fd:Bl) (ps:Ad Ag) (sp:Sp):Prop where
 len : ∀ vs H Q E,sp vs H Q E->vs.length=ps.length
 run : ∀(A:AN)(outer:Ad BE)(s:Am)(H:Hp)(args:Args)(us:Ad Ah)(vs:Ad V)(Q:VK)(E:XK),Room k A->Env0 P w K mg base A outer s H->Ei s fd args (ps.zip us)->AS vs us->sp vs H Q E ->
  DB (model P w) A (.call (.ref f) args) (CR CX outer P w H s Q E) s
theorem FnOk.imp{w:Ar}{K:Fg}{mg:Ag->An Ah}{base:Ay}{f:Ai}{sp':Sp}(F:FnOk P w K mg base CX k f fd ps sp)(h : ∀ vs H Q E,sp' vs H Q E->sp vs H Q E):FnOk P w K mg base CX k f fd ps sp':=
 ⟨λvs H Q E q=>F.len vs H Q E (h _ _ _ _ q),λA outer s H args us vs Q E hr he hb hv hs=>F.run A outer s H args us vs Q E hr he hb hv (h _ _ _ _ hs)⟩
theorem Env0.make{w:Ar}{K:Fg}{mg:Ag->An Ah}{base:Ay}{A:AN}{outer:Ad BE}(e:Env0 P w K mg base A outer s H)(C:Ai)(us:Ad Ah)(kw:Ad (Ag × Ah)):
    Env0 P w K mg base (A.under (.builtin "type.__call__" ⟨.ref C::us,kw⟩)) outer s H:=⟨by first|exact e.frames|(simpa [FV,Code.envs,FW,pushEnvs] using e.frames),e.mod,e.bs,e.bsz,e.funs,e.frf,e.hok,e.bare⟩
section
variable{X:Cx}{pI:Ad (Ai × AD)}{Z:St}{H:Hp}{s s':Am}
theorem Inv.env0(I:Inv X pI Z H s):Env0 X.prog X.w X.K X.mg X.base X.A X.stack s H:=
 ⟨I.ok.frames,I.ok.mod,I.bs,BP I.ok.bsz I.sz,I.stack,I.stkFree,I.hok,I.bare⟩
theorem Inv.after{Q:VK}(I:Inv X pI Z H s)(h:CE X.stack X.prog X.w H s Q u s'):EP X pI Z Q u s':=by
 obtain⟨v,H',os,bare,un,hok,r,q⟩:=h;obtain⟨hh,g,d,t,os'⟩:=s';obtain rfl:os'=s.os:=os;exact⟨v,H',I.call (h':=hh) (g':=g) (d':=d) (t':=t) (ch:=[]) un hok bare (λb z=>absurd z (by simp)),r,q⟩
end
noncomputable def Wi(sp:Sp)(dvs:Ad V)(E:XK)(t:TA):TE:=λZ H Q=>t Z H λvs H1=>sp (vs++dvs) H1 Q E
noncomputable def Ed(K:Fg)(fd:Bl)(ps:Ad Ag)(ds:Ad Ah):Prop:=
 ∀(s:Am)(us:Ad Ah),K.In s.heap->(us++ds).length=ps.length->Ei s fd ⟨us,[]⟩ (ps.zip (us++ds))
theorem Ed.all{K:Fg}(h : ∀ us:Ad Ah,us.length=ps.length->EY fd ⟨us,[]⟩=pure (ps.zip us)):Ed K fd ps []:=λs us _ hl=>by
 rw[B0]at hl ⊢;exact .of_eq (h us hl)
noncomputable def GU(CX:CXT)(X:Cx)(E:XK):Prop := ∀(pI:Ad (Ai × AD))(Z:St)(H:Hp)(s:Am)(e:Ah)(s':Am),Inv X pI Z H s->CX X.stack H s E e s'->X.xe e s'
section
variable{X:Cx}{CX:CXT}{k:Ae}{f C:Ai}{fd:Bl}{ps:Ad Ag}{sp:Sp}{dvs:Ad V}{ds:Ad Ah}{E:XK}{x m:Ag}{p pos apos:Az}{e o:Ak}{es:Ad Ak}{ta:TE}{t:TA}
theorem U_1{Q:VK}(F:FnOk X.prog X.w X.K X.mg X.base CX k f fd ps sp)(hr:Room k X.A)(hb:Ed X.K fd ps ds)(hd:AS dvs ds)(hx:GU CX X E)(I:Inv X pI Z H s)(r:AS vs us)(h:sp (vs++dvs) H Q E):As (model X.prog X.w) X.A (call (.ref f) us) (EP X pI Z Q) X.xe s:=by
 have r2:AS (vs++dvs) (us++ds):=r.append hd;have hl:(us++ds).length=ps.length:=by rw[<-r2.length];exact F.len _ _ _ _ h
 refine EK (Ea (F.run X.A X.stack s H ⟨us,[]⟩ (us++ds) (vs++dvs) Q E hr I.env0 (hb s us I.kIn hl) r2 h) λr s' hq => ?_)
 cases r with
 |error e=>exact hx pI Z H s e s' I hq
 |ok fl=>
  cases fl with
  |ret u=>exact I.after hq
  |next=>exact A5 hq
  |brk=>exact A5 hq
  |cont=>exact A5 hq
theorem Mt(F:FnOk X.prog X.w X.K X.mg X.base CX k f fd ps sp)(hr:Room k X.A)(hg:Gl X x)(hm:X.mg x=Aa (.ref f))(hk:BB X.K (.ref f)=Ab)(hb:Ed X.K fd ps ds)(hd:AS dvs ds)(hx:GU CX X E)(ha:PA X (e::es) t)(hdb:(x==("__debug__" : Ag))=Ac:=by decide)(he:Aq (e::es) X.env=(Ac,eval e X.env)::Aq es X.env:=by rfl)(hpl:(Bv pos (Aq es X.env)).any (·.1)=Ac:=by rfl):PE X (.Call (.Name x p) (e::es) [] pos) (Wi sp dvs E t):=by
 intro pI s Z H Q I h;refine Ds (Gk I hg hm ?_ hdb);refine Qn (h₀:=X.base) I.ok.mod.kin hk (thn (ha pos pI s Z H _ I h) λus s1 ⟨vs,H1,I1,r,q⟩=>⟨I1.kIn,?_⟩) he hpl
 exact U_1 F hr hb hd hx I1 r q
end
section
variable{X:Cx}{CX:CXT}{k:Ae}{f C:Ai}{fd:Bl}{ps ks:Ad Ag}{sp:Sp}{E:XK}{x m:Ag}{p pos apos kpos:Az}{e o:Ak}{es:Ad Ak}{kws:Ad D1}{te ta:TE}{t tk:TA}{nm:An Ag}
variable{g:Ad Ah->Ad Ah->Ad Ah}{gV:Ad V->Ad V->Ad V}
end
structure FnScope (N P:Ad Ag) (sc:Bw):Prop where
 kind:sc.kind = .function
 co:sc.isCoroutine=Ac
 gen:sc.isGenerator=Ac
 nd:N.Nodup
 pre:N.take P.length=P
 par : ∀ x∈P,sc.names.lookup x=Aa .local\/sc.names.lookup x=Aa .cell
 nofree : ∀ y∈sc.names,y.2 ≠ .free
theorem LG{kindOf:Ag->An CG}{x:Ag} : ∀{binds:Ad (Ag × Ah)}{m:Ag->An Ah},(∀ v,(x,v) ∉ binds)->FD kindOf binds m x=m x
 |[],_,_=>rfl
 |(n,v)::r,m,h=>by
  unfold FD;rw[LG λw hw=>h w (AG _ hw)]
  split
  .have:x≠n:=by rintro rfl;exact h v AU
   simp[this]
  .rfl
theorem LI{kindOf:Ag->An CG}{x:Ag} : ∀{binds:Ad (Ag × Ah)}{m:Ag->An Ah},(∀ v,(x,v) ∉ binds)->FC kindOf binds m x=m x
 |[],_,_=>rfl
 |(n,v)::r,m,h=>by
  unfold FC;rw[LI λw hw=>h w (AG _ hw)]
  split
  .rfl
  .have:x≠n:=by rintro rfl;exact h v AU
   simp[this]
theorem LH{kindOf:Ag->An CG}{x:Ag}{v:Ah} :∀{P:Ad Ag}{vs:Ad Ah}{i:Ae}{m:Ag->An Ah},P.Nodup->P[i]? = Aa x->vs[i]? = Aa v->kindOf x=Aa .local->FD kindOf (P.zip vs) m x=Aa v
 |[],_,_,_,_,h,_,_=>by simp at h
 |_::_,[],_,_,_,_,h,_=>by simp at h
 |p::P,w::vs,0,m,nd,h1,h2,hk=>by
  simp at h1 h2;subst h1;subst h2;show FD kindOf ((p,w)::P.zip vs) m p=_;unfold FD;rw[LG λv hv=>(D6.mp nd).1 (Fb hv).1,AY hk]
  simp
 |p::P,w::vs,i+1,m,nd,h1,h2,hk=>by
  show FD kindOf ((p,w)::P.zip vs) m x=_;unfold FD;exact LH (i:=i) (D6.mp nd).2 (by simpa using h1) (by simpa using h2) hk
theorem LJ{kindOf:Ag->An CG}{x:Ag}{v:Ah} :∀{P:Ad Ag}{vs:Ad Ah}{i:Ae}{m:Ag->An Ah},P.Nodup->P[i]? = Aa x->vs[i]? = Aa v->kindOf x≠Aa .local->FC kindOf (P.zip vs) m x=Aa v
 |[],_,_,_,_,h,_,_=>by simp at h
 |_::_,[],_,_,_,_,h,_=>by simp at h
 |p::P,w::vs,0,m,nd,h1,h2,hk=>by
  simp at h1 h2;subst h1;subst h2;show FC kindOf ((p,w)::P.zip vs) m p=_;unfold FC;rw[LI λv hv=>(D6.mp nd).1 (Fb hv).1,A8 hk]
  simp
 |p::P,w::vs,i+1,m,nd,h1,h2,hk=>by
  show FC kindOf ((p,w)::P.zip vs) m x=_;unfold FC;exact LJ (i:=i) (D6.mp nd).2 (by simpa using h1) (by simpa using h2) hk
noncomputable def start(N:Ad Ag)(vs:Ad V):St:=vs.map Aa++Dx (N.length-vs.length) Af
noncomputable def DW(CX:CXT)(P:AE)(w:Ar)(K:Fg)(mg:Ag->An Ah)(base:Ay)(N:Ad Ag)(qual:Ag)(scope:Bw)(f:Ai)(cd:Ah)(A:AN)(outer:Ad BE)(s:Am)(H:Hp)(E:XK):Cx where
 prog:=P
 w:=w
 K:=K
 mg:=mg
 base:=base
 A:=A.deeper (C6 qual scope s.heap.objs.size f cd)
 N:=N
 s₀:=s
 H₀:=H
 env:=C6 qual scope s.heap.objs.size f cd
 outer:=outer
 stack:=C6 qual scope s.heap.objs.size f cd::outer
 ex:=[]
 calm:=Ab
 fn:=λ_=>Ab
 pn:=[]
 xe:=λe s'=>As (model P w) (A.deeper (C6 qual scope s.heap.objs.size f cd)) (leaving (C6 qual scope s.heap.objs.size f cd) e) (λ_ s''=>CX outer H s E e s'') (λe' s''=>CX outer H s E e' s'') s'
theorem Ma{sc:Bw}(h:sc.names.lookup x=Aa .cell) : ∃ c,(B1 n sc.names []).lookup x=Aa c:=by
 have q:=Qo sc.names n [] (.inl h);exact BQ.mp q
theorem LU{w:Ar}{K:Fg}{mg:Ag->An Ah}{base:Ay}{N ps:Ad Ag}{f:Ai}{cd:Ah}{A:AN}{outer:Ad BE}{s1:Am}{E:XK}(S:FnScope N ps scope)(hd:A.handled=Af)(e0:Env0 P w K mg base A outer s H)(hl:vs.length=ps.length)(r:AS vs us)(x:InCallC s s.heap.objs.size (FD (C6 qual scope s.heap.objs.size f cd).kindOf (ps.zip us) λ_=>Af) (B1 (s.heap.objs.size+1) scope.names []) (FC (C6 qual scope s.heap.objs.size f cd).kindOf (ps.zip us) λ_=>Af) s1):Inv (DW CX P w K mg base N qual scope f cd A outer s H E) [] (start N vs) H s1:=by
 have hpl:ps.length<=N.length:=by have:=congrArg List.length S.pre;rw[List.length_take]at this;omega
 obtain⟨h1,tk,rfl,hk⟩:=x.done;have noA : ∀ b:Ai,b ∉ (DW CX P w K mg base N qual scope f cd A outer s H E).ex:=λb z=>absurd (show b∈([]:Ad Ai) from z) (by simp)
 refine⟨⟨e0.mod,S.kind,rfl,rfl,AW _,λy z c h1 h2 => ?_,λy hy => ?_,λy c _ h => ?_,λ_=>hd,Around.frames_deeper e0.frames,.inr ⟨rfl,rfl⟩,λb z=>absurd z (noA b),e0.bs,e0.bsz,λb _ _=>noA b,λb z=>absurd z (noA b),e0.funs,e0.frf⟩,
  rfl,e0.bare,Un.kept hk,⟨_,x.toInCall.ns,λi y v h1 h2 h3 => ?_⟩,λy c h=>⟨_,x.cell y c h⟩,e0.hok.fresh (AW _),λy c h => ?_,λp hp=>absurd (show p∈([]:Ad (Ai × AD)) from hp) (by simp),e0.hok.kept hk,?_⟩
 .exact name_of_addr x.apart (BL h1) (BL h2)
 .have hy:scope.names.lookup y=Aa .cell\/scope.names.lookup y=Aa .free:=hy;rcases hy with hy|hy
  .exact Ma hy
  .exact absurd rfl (S.nofree _ (BL hy))
 .exact D7 (x.above y c (BL h))
 .have hi:i<vs.length:=by
   unfold start at h2;by_cases hi:i<vs.length
   .exact hi
   .rw[OT (by simpa using hi)]at h2
    rw[OU]at h2;split at h2 <;> cases h2
  have ha:vs[i]? = Aa v:=by
   unfold start at h2;rw[Di (by simpa using hi),CT]at h2
   cases e:vs[i]? with
   |none=>rw[e]at h2;cases h2
   |some a=>rw[e]at h2;cases h2;rfl
  obtain⟨u,hu,rv⟩:=r.get ha;have hp:ps[i]? = Aa y:=by
   rw[<-S.pre,List.getElem?_take_of_lt (by omega)];exact h1
  have ndP:ps.Nodup:=by rw[<-S.pre];exact S.nd.sublist (List.take_sublist _ _)
  refine⟨u,rv,?_⟩;rcases S.par y (OY hp) with k|k
  .exact .inl ⟨k,LH ndP hp hu k⟩
  .obtain⟨c,e⟩:=Ma (n:=s.heap.objs.size+1) k;refine .inr ⟨.inl k,c,e,?_⟩;have q:=x.cell y c e;rw[LJ ndP hp hu (by show scope.names.lookup y≠_;rw[k];decide)]at q
   exact q
 .exact e0.hok.fresh (D7 (x.above y c (BL h)))
 .unfold start;show _=N.length;rw[Ca,Co,OW];omega
theorem NM{w:Ar}{K:Fg}{mg:Ag->An Ah}{base:Ay}{f:Ai}{name:Ag}{params:Arguments}{dV kV doc pm cdv ct oc:Ah}{an od:An Ai}{osl:Ba (An Ah)}{N ps:Ad Ag}(lk:K.lookup f=Aa ⟨oc,od,.func (BJ name qual params body scope dV kV doc pm an cdv ct),osl⟩)(hcd:CV K cdv qual=Ab)(S:FnScope N ps scope)(len : ∀ vs H Q E,sp vs H Q E->vs.length=ps.length)(hbody : ∀(A:AN)(outer:Ad BE)(s:Am)(H:Hp)(vs:Ad V)(Q:VK)(E:XK),Room k (A.deeper (C6 qual scope s.heap.objs.size f cdv))->sp vs H Q E ->
   ∃ t,PSs (DW CX P w K mg base N qual scope f cdv A outer s H E) body t/\t {nx:=λ_ H'=>Q .non H',rt:=Q} (start N vs) H):FnOk P w K mg base CX (k+1) f (BJ name qual params body scope dV kV doc pm an cdv ct) ps sp:=by
 refine⟨len,λA outer s H args us vs Q E hr e0 hb r hsp => ?_⟩
 have hl:=len _ _ _ _ hsp;have KX:K.In s.heap:=e0.mod.kin.keeps λb o e=>(e0.bs b o e).1
 have lim:s.heap.NoLimit:=e0.mod.nolimit.keeps λb o e=>(e0.bs b o e).1
 have hkind : ∀ y∈ps.zip us,scope.names.lookup y.1=Aa .local\/(scope.names.lookup y.1=Aa .cell/\((B1 (s.heap.objs.size+1) scope.names []).lookup y.1).isSome=Ab):=λ⟨n,v⟩ hy=>by
  rcases S.par n (Fb hy).1 with q|q
  .exact .inl q
  .exact .inr ⟨q,Qo _ _ _ (.inl q)⟩
 refine Qw hr.depth (KX _ _ lk) rfl S.co S.gen rfl (Qp KX hcd) (hb _ _ _ _ ?_);refine QC S.kind hkind λenv he s1 x => ?_
 subst he;refine⟨lim.keeps x.toInCall.keep,codeAny_func ?_⟩;obtain⟨t,ht,hq⟩:=hbody A outer s H vs Q E (hr.deeper _) hsp;have I:Inv (DW CX P w K mg base N qual scope f cdv A outer s H E) [] (start N vs) H s1:=LU S hr.hd e0 hl r x;refine AZ (ht [] s1 (start N vs) H _ I hq) (λfl s' hs => ?_) λe s' hs=>hs
 have fin : ∀{Z':St}{H':Hp}{v:V}{u:Ah},Inv (DW CX P w K mg base N qual scope f cdv A outer s H E) [] Z' H' s'->Be v u->Q v H'->CE outer P w H s Q u s':=
  λ{Z' H' v u} J rv q=>⟨v,H',J.os,J.bare,J.base,J.hok,rv,q⟩
 cases fl with
 |ret u=>
  obtain⟨v,Z',H',J,rv,q⟩:=hs;exact fin J rv q
 |next=>
  obtain⟨Z',H',J,q⟩:=hs;exact fin (v:=V.non) (u:=Cw) J rfl q
 |brk=>
  obtain⟨_,_,_,q⟩:=hs;exact A5 q
 |cont=>
  obtain⟨_,_,_,q⟩:=hs;exact A5 q
section
variable{X:Cx}{x:Ag}{p pos:Az}{e:Ak}{es:Ad Ak}{t:TA}{id T:B6}{r:Ad V->Hp->VK->Prop}
noncomputable def tCB(r:Ad V->Hp->VK->Prop)(t:TA):TE:=λZ H Q=>t Z H λvs H1=>r vs H1 Q
theorem Hn(hc:F4 X (.builtin id) r)(hg:Gl X x)(hm:X.mg x=Af)(hv:B5 x=Aa (.builtin id))(ha:PA X (e::es) t)(hn:x ≠ "__name__" := by decide)(hdb:(x==("__debug__" : Ag))=Ac:=by decide)(he:Aq (e::es) X.env=(Ac,eval e X.env)::Aq es X.env:=by rfl)(hpl:(Bv pos (Aq es X.env)).any (·.1)=Ac:=by rfl):PE X (.Call (.Name x p) (e::es) [] pos) (tCB r t):=by
 intro pI s Z H Q I h;refine Ds (Hv I hg hm hv ?_ hn hdb);exact PyProof.Rows.callWith_builtin1 (thn (ha pos pI s Z H _ I h) λus s1 ⟨vs,H1,I1,r1,q1⟩=>hc pI s1 Z H1 vs us Q I1 r1 q1) he hpl
theorem LR(hc:F4 X (.type T) r)(hg:Gl X x)(hm:X.mg x=Af)(hv:B5 x=Aa (.type T))(ha:PA X (e::es) t)(hn:x ≠ "__name__" := by decide)(hdb:(x==("__debug__" : Ag))=Ac:=by decide)(he:Aq (e::es) X.env=(Ac,eval e X.env)::Aq es X.env:=by rfl)(hpl:(Bv pos (Aq es X.env)).any (·.1)=Ac:=by rfl):PE X (.Call (.Name x p) (e::es) [] pos) (tCB r t):=by
 intro pI s Z H Q I h;refine Ds (Hv I hg hm hv ?_ hn hdb);exact C1 (thn (ha pos pI s Z H _ I h) λus s1 ⟨vs,H1,I1,r1,q1⟩=>hc pI s1 Z H1 vs us Q I1 r1 q1) he hpl
end
end L2
namespace HT
open PySem PyProof.Rows
section
open PySem.SeqAt
open PySem.AutoSeq1 (wpAny_loadPart')
open PySem.MeetsSeq PySem.MeetsSeq2 PySem.MeetsSeq3
end
section
variable{prog:AE}{w:Ar}{A:AN}{E:Ah->Am->Prop}{s:Am}
theorem cat_tup{t b:Ai}{vs ws:Ad Ah}{Q:Ah->Am->Prop}(ht:G6 s.heap t vs.toArray)(hb:G6 s.heap b ws.toArray)(hv:vs≠[])(h1:ws=[]->Q (.ref t) s)(h2:ws≠[]->Q (.ref s.heap.objs.size) { s with heap:=s.heap.push { cls := .type "tuple",data := .seq (vs++ws).toArray } })(hsz:vs.length+ws.length<=sizeLine):As (model prog w) A (Bx .Add (.ref t) (.ref b)) Q E s:=by
 obtain⟨⟨cls,dd,data,sl⟩,ho,hc,n,hd⟩:=id ht;obtain⟨⟨cls2,dd2,data2,sl2⟩,ho2,hc2,n2,hd2⟩:=id hb;simp only at hc hd hc2 hd2;subst hc hd hc2 hd2;have e:vs.toArray++ws.toArray=(vs++ws).toArray:=by simp
 by_cases hw:ws=[]
 .exact FY ⟨_,ho,rfl⟩ ⟨_,ho2,rfl⟩ Qx seq_tuple_add PV PU (PQ _ _)
   (tuple_addW1 t b vs.toArray ws.toArray n n2 dd dd2 sl sl2 (by simpa using hv) (by simp[hw])) ⟨ho,ho2,h1 hw⟩
 .refine FY ⟨_,ho,rfl⟩ ⟨_,ho2,rfl⟩ Qx seq_tuple_add PV PU (PQ _ _)
   (tuple_addW2 t b vs.toArray ws.toArray n n2 dd dd2 sl sl2 (by simpa using hv) (by simpa using hw) (by rw[A1,A1];exact hsz)) ⟨ho,ho2,?_⟩
  rw[e];exact h2 hw
end
end HT
namespace L2
open PySem PySem.Spec PyProof.Rows
variable{xs:Ad V}{us its:Ad Ah}{n t':Ae}{i:Ao}{r:R2}{pI:Ad (Ai × AD)}{Z:St}{H:Hp}{s:Am}
noncomputable abbrev TO:=St->Hp->(An Ao->Hp->Prop)->Prop
noncomputable def PO(X:Cx)(e:An Ak)(t:TO):Prop:=
 ∀(pI:Ad (Ai × AD))(s:Am)(Z:St)(H:Hp)(Q:An Ao->Hp->Prop),Inv X pI Z H s->t Z H Q ->
  As (model X.prog X.w) X.A (evalPart e X.env) (λu s' => ∃ o H',Inv X pI Z H' s'/\IsPart u o/\Q o H') X.xe s
noncomputable def SV:TO:=λ_ H Q=>Q Af H
noncomputable def Wd(t:TE):TO:=λZ H Q=>t Z H λx H1 => ∃ i,x = .int i/\Q (Aa i) H1
section
variable{X:Cx}{e:Ak}{te:TE}{lo hi:An Ak}{tl th:TO}{pos p2:Az}
theorem Ud:PO X Af SV:=by
 intro pI s Z H Q I h;rw[evalPart_none];exact Bm ⟨Af,H,I,.none,h⟩
theorem Uc(h:PE X e te):PO X (Aa e) (Wd te):=by
 intro pI s Z H Q I hw;rw[evalPart_some];refine thn (h pI s Z H _ I hw) λu s1 ⟨x,H1,I1,r1,q1⟩ => ?_
 obtain⟨i,rfl,q⟩:=q1;obtain⟨t,rfl⟩:=r1;exact⟨Aa i,H1,I1,.int i t,q⟩
noncomputable def Xl(K:Fg):R2:=λx y H Q => ∃ a b xs ys,x = .ref a/\y = .ref b/\SqT K H a xs/\SqT K H b ys/\xs≠[]/\xs.length+ys.length<=sizeLine /\
 (ys=[]->Q (.ref a) H)/\(ys≠[] -> ∀ p,H p=Af->Q (.ref p) (upd H p (.tup (xs++ys))))
theorem AS.nil_iff(r:AS xs us):us=[]↔xs=[]:=by
 cases r with
 |nil=>simp
 |cons _ _=>simp
theorem TB:OpR X (Bx .Add) (Xl X.K):=by
 intro pI s Z H x y v u Q I rx ry h;obtain⟨a,b,xs,ys,rfl,rfl,ha,hb,hx,hz,q1,q2⟩:=h;cases rx;cases ry;obtain⟨its,r1,p1,_⟩:=I.tuple ha;obtain⟨its2,r2,p2,_⟩:=I.tuple hb;refine HT.cat_tup p1 p2 (λz=>hx (r1.nil_iff.mp z)) (λz=>⟨.ref a,H,I,rfl,q1 (r2.nil_iff.mp z)⟩) (λz => ?_) (by rw[<-r1.length,<-r2.length];exact hz)
 refine⟨.ref s.heap.objs.size,_,I.laid (t':=s.toks) (o := .tup (xs++ys)) (λb ob q=>Ax _ q) (AW _) ?_,rfl,q2 (λw=>z (r2.nil_iff.mpr w)) _ (I.hok.fresh (AW _))⟩
 exact⟨by rw[Ca];exact hz,_,r1.append r2,Pb _ _⟩
end
noncomputable def ixN(n:Ae)(i:Ao):An Ae:=if 0<=i then (if i<n then Aa i.toNat else Af) else if -(n:Ao)<=i then Aa (i+n).toNat else Af
noncomputable def atI{α:Type}(xs:Ad α)(i:Ao):An α:=(ixN xs.length i).bind λj=>xs[j]?
theorem Tq{j:Ae}(h:ixN n i=Aa j):seqIndex? i n=Aa j/\j<n /\ -(n:Ao)<=i/\i<n:=by
 unfold ixN at h;by_cases h0:0<=i
 .rw[AY h0]at h;by_cases h1:i<n
  .rw[AY h1]at h;have e:i.toNat=j:=BD h;exact⟨by rw[seqIndex_of h0 h1,e],by omega,by omega,h1⟩
  .rw[A8 h1]at h;cases h
 .rw[A8 h0]at h;by_cases h1 : -(n:Ao)<=i
  .rw[AY h1]at h;have e:(i+n).toNat=j:=BD h;exact⟨by rw[seqIndex_neg (by omega) h1,e],by omega,h1,by omega⟩
  .rw[A8 h1]at h;cases h
theorem MS{α:Type}{xs:Ad α}{v:α}(h:atI xs i=Aa v) : ∃ j,seqIndex? i xs.length=Aa j/\xs[j]? = Aa v/\j<xs.length /\ -(xs.length:Ao)<=i/\i<xs.length:=by
 unfold atI at h;cases e:ixN xs.length i with
 |none=>rw[e]at h;cases h
 |some j=>
  rw[e]at h;obtain⟨h1,h2,h3,h4⟩:=Tq e;exact⟨j,h1,h,h2,h3,h4⟩
noncomputable def J9(b:Ak):Prop := ∀ o i,subscripted b Ac o i=operate [o,i] (getItem o i)
noncomputable def IxR(X:Cx)(r:R2):Prop:=
 ∀(value slice:Ak)(pI:Ad (Ai × AD))(s:Am)(Z:St)(H:Hp)(x y:V)(v u:Ah)(Q:VK),Inv X pI Z H s->Be x v->Be y u->r x y H Q ->
  subscripted slice Ac v u=operate [v,u] (getItem v u)->As (model X.prog X.w) X.A (subscriptTail value slice v u) (EP X pI Z Q) X.xe s
noncomputable def MtR(X:Cx)(id:B6)(r:V->Ad V->Hp->VK->Prop):Prop:=
 ∀(pI:Ad (Ai × AD))(s:Am)(Z:St)(H:Hp)(x:V)(xs:Ad V)(v:Ah)(us:Ad Ah)(Q:VK),Inv X pI Z H s->Be x v->AS xs us->r x xs H Q ->
  As (model X.prog X.w) X.A (call (.builtin id) (v::us)) (EP X pI Z Q) X.xe s
section
variable{X:Cx}{a b:Ak}{ta tb:TE}{pos:Az}
theorem IxR.or{r':R2}(h:IxR X r)(h':IxR X r'):IxR X (λx y H Q=>r x y H Q\/r' x y H Q):=by
 intro value slice pI s Z H x y v u Q I rx ry q hs;rcases q with q|q
 .exact h value slice pI s Z H x y v u Q I rx ry q hs
 .exact h' value slice pI s Z H x y v u Q I rx ry q hs
theorem Xq(hr:IxR X r)(ha:PE X a ta)(hb:PE X b tb)(hs:J9 b):PE X (.Subscript a b pos) (tOp r ta tb):=by
 intro pI s Z H Q I h;exact Subscript_ (Lf ha hb I h λv u s2 x y H2 I2 rx ry q=>hr a b pI s2 Z H2 x y v u Q I2 rx ry q (hs _ _))
noncomputable def N5(K:Fg):R2:=λx y H Q => ∃ p xs i v,x = .ref p/\y = .int i/\SqL K H p xs/\atI xs i=Aa v/\Q v H
noncomputable def N4(K:Fg):R2:=λx y H Q => ∃ p xs i v,x = .ref p/\y = .int i/\SqT K H p xs/\atI xs i=Aa v/\Q v H
noncomputable def Yg:R2:=λx y H Q => ∃ z i c,x = .str z/\y = .int i/\z.length<=sizeLine/\atI z.cps.toList i=Aa c/\Q (.str ⟨#[c]⟩) H
theorem ZqP:IxR X (N5 X.K):=by
 intro value slice pI s Z H x y v u Q I rx ry h hs;obtain⟨p,xs,i,z,rfl,rfl,hq,he,q⟩:=h;cases rx;obtain⟨t,rfl⟩:=ry;obtain⟨its,r,pl,hz⟩:=I.list hq;obtain⟨j,h1,h2,h3,h4,h5⟩:=MS he;obtain⟨w,ew,rw'⟩:=r.get h2;have hl:=r.length;have hn:=Hu;have fin:EP X pI Z Q w s:=⟨z,H,I,rw',q⟩;by_cases h0:0<=i
 .have hj:i.toNat=j:=by
   rw[seqIndex_of h0 h5]at h1;exact BD h1
  exact item_listR pl.isList h0 (by omega) (by rw[hj];simpa using ew) fin hs
 .have hj:(i+(its.toArray.size:Ao)).toNat=j:=by
   rw[seqIndex_neg (by omega) h4]at h1
   rw[A1,<-hl];exact BD h1
  exact Pe (x:=w) pl.isList.typeIs slot_list_getitem.lookup
   (wpAny_getItem_list_neg (Q:=λr s'=>r=w/\EP X pI Z Q r s') pl.isList (by omega) (by rw[A1] <;> omega) (by omega) (by rw[hj];simpa using ew) ⟨rfl,fin⟩) hs
theorem Zs0:IxR X (N4 X.K):=by
 intro value slice pI s Z H x y v u Q I rx ry h hs;obtain⟨p,xs,i,z,rfl,rfl,hq,he,q⟩:=h;cases rx;obtain⟨t,rfl⟩:=ry;obtain⟨its,r,pl,hz⟩:=I.tuple hq;obtain⟨j,h1,h2,h3,h4,h5⟩:=MS he;obtain⟨w,ew,rw'⟩:=r.get h2;have hl:=r.length;have hn:=Hu;have fin:EP X pI Z Q w s:=⟨z,H,I,rw',q⟩;exact Pe (x:=w) pl.typeIs slot_tuple_getitem.lookup
  (getItem_tuple (j:=j) (Q:=λr s'=>r=w/\EP X pI Z Q r s') pl (by omega) (by omega) (by rw[A1,<-hl];exact h1) (by simpa using ew) ⟨rfl,fin⟩) hs
noncomputable def rIx(K:Fg):R2:=λx y H Q=>N5 K x y H Q\/N4 K x y H Q\/Yg x y H Q
theorem Inv.lst{p:Ai}(I:Inv X pI Z H s)(h:H p=Aa (.lst xs)):
  ∃(its:Ad Ah)(n:Ae),AS xs its/\s.heap.get? p=Aa { cls := .type "list",data := .seq its.toArray n }/\xs.length<=sizeLine:=by
 obtain⟨z,its,n,r,e⟩:=I.hok p _ h;exact⟨its,n,r,e,z⟩
theorem Ln:F4 X (.builtin "len") (λxs H Q => ∃ p ys,xs=[.ref p]/\(SqL X.K H p ys\/SqT X.K H p ys)/\Q (.int ys.length) H):=by
 intro pI s Z H xs us Q I r h;obtain⟨p,ys,rfl,hq,q⟩:=h;obtain⟨u,rfl,rx⟩:=GV r;cases rx;have hn:=Hu;rcases hq with hq|hq
 .obtain⟨its,r',pl,hz⟩:=I.list hq;have hlen:=r'.length;exact Calls.call_len_list pl.isList (by simp only[A1] <;> omega) ⟨.int ys.length,H,I.tok _,⟨s.toks+1,by rw[A1,hlen]⟩,q⟩
 .obtain⟨its,r',pl,hz⟩:=I.tuple hq;have hlen:=r'.length;exact len_tuple pl (by simp only[A1] <;> omega) ⟨.int ys.length,H,I.tok _,⟨s.toks+1,by rw[A1,hlen]⟩,q⟩
theorem QJ:F4 X (.builtin "len") (λxs H Q => ∃ z,xs=[.str z]/\z.length<=sizeLine/\Q (.int z.length) H):=by
 intro pI s Z H xs us Q I r h;obtain⟨z,rfl,hz,q⟩:=h;obtain⟨u,rfl,t,rfl⟩:=GV r;have hn:=Hu;exact len_str (by omega) ⟨.int z.length,H,I.tok _,⟨_,rfl⟩,q⟩
theorem Lm:F4 X (.type "list") (λxs H Q => ∃ p ys,xs=[.ref p]/\(SqL X.K H p ys\/SqT X.K H p ys) /\ ∀ l,H l=Af->Q (.ref l) (upd H l (.lst ys))):=by
 intro pI s Z H xs us Q I r h;obtain⟨p,ys,rfl,hq,q⟩:=h;obtain⟨u,rfl,rx⟩:=GV r;cases rx;have fin : ∀(its:Ad Ah),AS ys its->ys.length<=sizeLine -> ∀(h':Ay)(c':Ae),(∀ b o',s.heap.get? b=Aa o'->h'.get? b=Aa o') ->
   h'.get? s.heap.objs.size=Aa { cls := .type "list",dict:=Af,data := .seq its.toArray c',slots := #[] }->EP X pI Z Q (.ref s.heap.objs.size) {s with heap:=h'}:=λits r' hz h' c' kp e=>
  ⟨.ref s.heap.objs.size,_,I.laid (t':=s.toks) kp (AW _) (show ObjOk X.prog X.w _ h' _ (.lst ys) from ⟨hz,its,c',r',e⟩),rfl,q _ (I.hok.fresh (AW _))⟩
 rcases hq with hq|hq
 .obtain⟨its,r',pl,hz⟩:=I.list hq;have hlen:=r'.length;obtain⟨o,ho,hc,n,hd⟩:=pl.isList;exact call_list_seq p (.inl rfl) ho hc hd (λh' c' kp e=>fin its r' hz h' c' kp e) (by simp only[A1] <;> omega)
 .obtain⟨its,r',pl,hz⟩:=I.tuple hq;have hlen:=r'.length;obtain⟨o,ho,hc,n,hd⟩:=pl;exact call_list_seq p (.inr rfl) ho hc hd (λh' c' kp e=>fin its r' hz h' c' kp e) (by simp only[A1] <;> omega)
theorem Lk:F4 X (.type "tuple") (λxs H Q => ∃ p ys,xs=[.ref p]/\((SqL X.K H p ys /\ ∀ l,H l=Af->Q (.ref l) (upd H l (.tup ys)))\/(SqT X.K H p ys/\Q (.ref p) H))):=by
 intro pI s Z H xs us Q I r h;obtain⟨p,ys,rfl,h⟩:=h;obtain⟨u,rfl,rx⟩:=GV r;cases rx;rcases h with ⟨hq,q⟩|⟨hq,q⟩
 .obtain⟨its,r',pl,hz⟩:=I.list hq;have hlen:=r'.length;refine call_tuple_list pl.isList (λh' kp => ?_) (by simp only[A1] <;> omega)
  have I1:Inv X pI Z H {s with heap:=h'}:=I.kept (t':=s.toks) kp
  have I2:Inv X pI Z (upd H h'.objs.size (.tup ys)) { s with heap:=h'.push { cls := .type "tuple",data := .seq its.toArray } }:=
   I1.laid (t':=s.toks) (λb o e=>Ax _ e) (AW _) (show ObjOk X.prog X.w _ _ _ (.tup ys) from ⟨hz,its,r',Pb _ _⟩)
  exact⟨.ref h'.objs.size,_,I2,rfl,q _ (I1.hok.fresh (AW _))⟩
 .obtain⟨its,r',pl,hz⟩:=I.tuple hq;exact call_tuple_same pl ⟨.ref p,H,I,rfl,q⟩
noncomputable def tyV(K:Fg)(T:B6)(x:V)(H:Hp):Prop:=match x with
  |.str _=>T = "str"
  |.int _=>T = "int"
  |.ref p=>(T = "list" /\ ∃ xs,SqL K H p xs)\/(T = "tuple" /\ ∃ o,K.lookup p=Aa o/\o.cls = .type "tuple" /\ o.dict=Af) \/
      (T = "dict" /\ ((∃ kvs,H p=Aa (.dK kvs)) \/ ∃ kvs,H p=Aa (.dT kvs)))\/(T = "set" /\ ∃ S n,H p=Aa (.set S n))
  |_=>AT
theorem UC{T:B6}{x:V}{v:Ah}(I:Inv X pI Z H s)(r:Be x v)(ty:tyV X.K T x H):s.TypeIs v T/\∀ a,v = .ref a->∃ ob,s.heap.get? a=Aa ob/\ob.dict=Af:=by
 cases x with
 |str z=>
  obtain⟨t,rfl⟩:=r;cases (show T = "str" from ty)
  exact⟨typeIs_str s z t,λ_ e=>nomatch e⟩
 |int i=>
  obtain⟨t,rfl⟩:=r;cases (show T = "int" from ty)
  exact⟨typeIs_int s i t,λ_ e=>nomatch e⟩
 |ref p=>
  cases r;rcases ty with ⟨rfl,xs,hq⟩|⟨rfl,o,hk,hc,hd⟩|⟨rfl,hk⟩|⟨rfl,S,n,hk⟩
  .obtain⟨its,_,pl,_⟩:=I.list hq;refine⟨pl.isList.typeIs,λa e => ?_⟩
   cases e;obtain⟨o,n,e,c,hd,_⟩:=pl;exact⟨o,e,hd⟩
  .refine⟨⟨o,I.kIn p o hk,hc⟩,λa e => ?_⟩
   cases e;exact⟨o,I.kIn _ o hk,hd⟩
  .have z : ∃ o,s.heap.get? p=Aa o/\o.ExactDict:=by
    rcases hk with ⟨kvs,hk⟩|⟨kvs,hk⟩
    .obtain⟨_,_,_,_,o,_,_,e,ex,_⟩:=I.hok p _ hk;exact⟨o,e,ex⟩
    .obtain⟨_,_,_,_,o,_,_,e,ex,_⟩:=I.hok p _ hk;exact⟨o,e,ex⟩
   obtain⟨o,e,ex⟩:=z;refine⟨⟨o,e,ex.1⟩,λa e2 => ?_⟩
   cases e2;exact⟨o,e,ex.2.1⟩
  .obtain⟨o,_,_,_,e,ex,_⟩:=I.hok p _ hk;refine⟨⟨o,e,ex.1⟩,λa e2 => ?_⟩
   cases e2;exact⟨o,e,ex.2.1⟩
 |_=>exact A5 ty
noncomputable def tBM(K:Fg)(T:B6)(r:V->Ad V->Hp->VK->Prop)(to:TE)(t:TA):TE:=λZ H Q=>to Z H λx H1=>tyV K T x H1/\t Z H1 λxs H2=>r x xs H2 Q
variable{o e:Ak}{es:Ad Ak}{to:TE}{t:TA}{name:Ag}{apos cpos:Az}{T id:B6}{r:V->Ad V->Hp->VK->Prop}
theorem Xr(pa:PlainAttrs T)(slot:Slot T name id)(hty:typeOf (.builtin id)=pure (.type "method_descriptor"))(hm:MtR X id r)(ho:PE X o to)(ha:PA X (e::es) t)(hbase:DN o name X.env (eval o X.env)=eval o X.env:=by rfl)(hfew:((Bv cpos (Aq (e::es) X.env)).all (λx => !x.1)&&(Hc cpos (Gb [] X.env)).all (λx=>x.1.isSome)
   && decide ((e::es).length+([]:Ad D1).length+(if ([]:Ad D1).isEmpty then 0 else 1)<30))=Ab:=by rfl)(hline:(apos.endLine==cpos.line)=Ab:=by rfl)(hs:Aq (e::es) X.env=(Ac,eval e X.env)::Aq es X.env:=by rfl)(hplain:(Bv cpos (Aq es X.env)).any (·.1)=Ac:=by rfl):PE X (.Call (.Attribute o name apos) (e::es) [] cpos) (tBM X.K T r to t):=by
 intro pI s Z H Q I h;refine wpAny_Call_method_late hbase hfew hline rfl (thn (ho pI s Z H _ I h) λv s1 ⟨x,H1,I1,r1,ty,q1⟩ => ?_)
 obtain⟨h1,h2⟩:=UC I1 r1 ty;refine⟨T,id,pa,slot,hty,h1,h2,?_⟩;have hA:=ha cpos pI s1 Z H1 _ I1 q1;rw[hs]at hA ⊢;refine Pj (by show (Ac||(Bv cpos (Aq es X.env)).any (·.1))=Ac;rw[hplain] <;> rfl) (C2 ?_)
 exact thn hA λus s2 ⟨vs,H2,I2,r2,q2⟩=>hm pI s2 Z H2 x vs v us Q I2 r1 r2 q2
/- xs.append(e), list.index on a module's tuple .. are MtR facts of 06m -/
end
noncomputable def MtM(X:Cx)(id:B6)(r:V->Ad V->Hp->VK->Prop):Prop:=
 ∀(pI:Ad (Ai × AD))(s:Am)(Z:St)(H:Hp)(x:V)(xs:Ad V)(v:Ah)(us:Ad Ah)(Q:VK),Inv X pI Z H s->Be x v->AS xs us->r x xs H Q ->
  As (model X.prog X.w) X.A (call (.builtin id) (v::us)) (EP X pI Z Q) X.xe s
theorem AS.one : ∀{x:V}{us:Ad Ah},AS [x] us -> ∃ u,us=[u]/\Be x u
 |_,_,.cons r .nil=>⟨_,rfl,r⟩
theorem AS.zero : ∀{us:Ad Ah},AS [] us->us=[]
 |_,.nil=>rfl
theorem AS.eraseIdx : ∀{xs:Ad V}{us:Ad Ah}(i:Ae),AS xs us->AS (xs.eraseIdx i) (us.eraseIdx i)
 |_,_,_,.nil => .nil
 |_,_,0,.cons _ t=>t
 |_,_,i+1,.cons r t => .cons r (AS.eraseIdx i t)
theorem AS.reverse(h:AS xs us):AS xs.reverse us.reverse:=by
 induction h with
 |nil=>exact .nil
 |cons r t ih=>rw[O0,O0];exact AS.append ih (.cons r .nil)
section
variable{X:Cx}{pI:Ad (Ai × AD)}{Z:St}{H:Hp}{s:Am}{l b:Ai}{xs ys zs:Ad V}
theorem Inv.lset{its':Ad Ah}{f:Ba Ah->Ba Ah}(I:Inv X pI Z H s)(hH:H l=Aa (.lst xs))(e:s.heap.get? l=Aa { cls := .type "list",data := .seq its.toArray n })(hf:f its.toArray=its'.toArray)(hv:AS ys its')(hz:ys.length<=sizeLine):Inv X pI Z (upd H l (.lst ys)) {s with heap:=s.heap.update l (P0 f),toks:=t'}:=by
 have q:=PySem.IsL.update e f;rw[hf]at q;refine I.write (x:=l) (e:=l) (by rw[hH];exact trivial) (.inl rfl) (λb' u hb hu=>(B4 s.heap (P0 f) (Da hb)).trans hu) ⟨_,q⟩ ?_
 exact⟨hz,its',_,hv,q⟩
theorem Inv.lnew(I:Inv X pI Z H s)(hv:AS ys its)(hz:ys.length<=sizeLine):
  Inv X pI Z (upd H s.heap.objs.size (.lst ys)) { s with heap:=s.heap.push { cls := .type "list",data := .seq its.toArray },toks:=t' }:=
 I.laid (λ_ _ q=>Ax _ q) (AW _) ⟨hz,its,0,hv,Bs _ rfl⟩
theorem Inv.fresh(I:Inv X pI Z H s):H s.heap.objs.size=Af:=I.hok.fresh (AW _)
theorem Inv.lstM(I:Inv X pI Z H s)(hH:H l=Aa (.lst xs)):xs.length<=sizeLine /\ ∃(its:Ad Ah)(n:Ae),AS xs its/\xs.length=its.length/\s.heap.get? l=Aa { cls := .type "list",data := .seq its.toArray n }:=by
 obtain⟨z,its,n,r,e⟩:=I.hok l _ hH;exact⟨z,its,n,r,r.length,e⟩
end
section
variable{X:Cx}
noncomputable def TZ:V->Ad V->Hp->VK->Prop:=λx vs H Q => ∃ l xs y,x = .ref l/\vs=[y]/\H l=Aa (.lst xs)/\xs.length<sizeLine/\Q .non (upd H l (.lst (xs++[y])))
theorem Rg:MtM X "list.append" TZ:=by
 intro pI s Z H x vs v us Q I rx rv h;obtain⟨l,xs,y,rfl,rfl,hH,hz,q⟩:=h;cases rx;obtain⟨u,rfl,ru⟩:=rv.one;obtain⟨z,its,n,r,hl,e⟩:=I.lstM hH;refine call_meets F.slot_list_append ⟨_,e,rfl⟩ F.entry_list_append (F.args_list_append_2 _ _) (PySem.list_append l its.toArray n u (by rw[A1];omega)) ⟨e,?_⟩
 refine⟨.non,_,I.lset (its':=its++[u]) hH e (by simp) (r.append (.cons ru .nil)) ?_,rfl,q⟩
 rw[Ca,OX];omega
end
section
variable{prog:AE}{w:Ar}{A:AN}{E:Ah->Am->Prop}{s:Am}
set_option maxRecDepth 100000 in
end
section
variable{X:Cx}
end
end L2
namespace Att
open PySem PySem.W PySem.Calls PyProof.Rows
variable{P:Ha}{h:Ay}{l:DK}{n:Ae}
theorem QF : ∀(ns:Ad Ao)(vs:Ad Ah),WellAll P h vs (ns.map Qk)->Fq vs ns:=by
 intro ns
 induction ns with
 |nil=>
  intro vs w;rw[List.map_nil]at w;cases w;exact .nil
 |cons n ns ih=>
  intro vs w;rw[Ey]at w;cases w with
  |cons a b=>
   cases a;exact .cons _ _ (ih _ b)
theorem Ro(hn:l.most=Aa n){args:Ad WData}{vals:Ad Ah}(hpre:l.row.toRowW.claim.pre args=Ab)(hwl:WellAll P h vals args):
  ∃ a vs ns,vals=[BG a]/\args=[WData.list (ns.map Qk)]/\h.get? a=Aa { cls := .type "list",data := .seq vs.toArray }/\Fq vs ns/\ns.length<=n:=by
 have hsh:WShape.hasAll [] args [.list .int]=Ab:=(pre_splitW hpre).1;have hc:l.pre.holds [] {args:=args}=Ab:=(pre_splitW hpre).2;obtain⟨d,r,rfl,h1,h2⟩:=hasAllW_cons hsh;obtain rfl:=hasAllW_nil h2;obtain⟨xs,rfl,h3⟩:=hasW_list h1;obtain⟨ns,rfl⟩:=items_int h3;have hlen:ns.length<=n:=by
  unfold OpenLaw.pre at hc;have h4:(WTm.not (.lt (.lit (.int (n:Ao))) (.len (.arg 0)))).holds [] {args:=[.list (ns.map .int)]}=Ab:=by
   have h4:=(holds_andW hc).1;rw[hn]at h4;exact h4
  have h5:=condW_of h4 (w_not (w_lt w_lit (w_len_list (w_arg rfl))));rw[Co]at h5;refine Nat.le_of_not_lt λq => ?_
  have q':(n:Ao)<((ns.length:Ae):Ao):=by omega
  first
   |(rw[Yu q']at h5;exact absurd h5 (by decide))
   |(simp at h5;omega)
 cases hwl with
 |cons w1 w2=>
  cases w2;cases w1 with
  |list ho hall=>exact⟨_,_,ns,rfl,rfl,ho,QF ns _ hall,hlen⟩
theorem Rb(l:DK)(args:Ad WData):l.row.toRowW.claim.post args (.bool Ab) args=Ab:=
 postW_of (r:=l.row.toRowW) (X:=(Ab==Ab))
  (show Ql [] (.bool Ab) .bool=Ab by first|rfl|decide|simp[Ql,WShape.arms,WShape.armsAll])
  (show (WTm.eq .res (.lit (.bool Ab))).value [] {args:=args,res:=Aa (.bool Ab),after:=args}=Aa (.bool (Ab==Ab)) from w_eq_bool (w_res rfl) w_lit) rfl
theorem attach_call{q:AE}{loose:Ad Ag}{XP:(Ag->An Ah)->Ay->Prop}{YP:Ar->Ay->Prop}{d:DefRec}(hn:l.most=Aa n)(hdf:d.params.defaults=[])(call : ∀(w:Ar)(s₀ s₁:Am)(mg mb:Ag->An Ah)(fa:Ai)(o:AD)(pm cd doc:Ah)(a:Ai)(vs:Ad Ah)(ns:Ad Ao),
   Ground q loose [] XP w s₀ mg mb s₁.heap->YP w s₁.heap ->
   s₁.heap.get? fa=Aa o->o.data = .func (docDef d.name d.params d.body d.scope pm cd doc)->s₁.heap.CodeRec cd d.name->mg d.name=Aa (.ref fa) ->
   s₁.heap.get? a=Aa { cls := .type "list",data := .seq vs.toArray }->Fq vs ns->ns.length<=n->s₁.gens = #[] ->
   DB (model l.prog w) EM (.call (.ref fa) ⟨[.ref a],[]⟩) (λr s'=>r = .ok (.ret (.bool Ab))/\OldK s₁.heap s'.heap/\s'.os=s₁.os/\Dz s'.gens) s₁):WalkO q loose XP YP l.row.toRowW d [] (λf vs=>GA f vs):=by
 intro w s₀ s₁ mg mb G Y_ fa o pm cd doc dV kV ho hd hcd hD hmg hg args vals as hpre hlay hrd hwl hlo;obtain rfl:dV = .none:=Dflts.none hD hdf;obtain rfl:kV = .none:=Dflts.noKw hD;obtain⟨a,vs,ns,rfl,rfl,hobj,hints,hlen⟩:=Ro hn hpre hwl;refine enter_call (Ea (call w s₀ s₁ mg mb fa o pm cd doc a vs ns G Y_ ho (fd_plain hd) hcd hmg hobj hints hlen hg) λr s' hq => ?_)
 obtain⟨rfl,h2,h3,h4⟩:=hq;exact⟨.inl ⟨.bool Ab,.bool Ab,[],rfl,λ_=>rfl,.bool Ab,Rb l _,λ_=>⟨List.Pairwise.nil,λ_ hm=>(nomatch hm)⟩⟩,h2,h3,h4⟩
section
variable{prog:AE}{w:Ar}{A:AN}{E:Ah->Am->Prop}{s:Am}{K:Frag}
end
end Att
namespace L2
open PySem PySem.Spec PyProof.Rows
variable{k:Ae}{x:Ag}
theorem LL : ∀{vs:Ad Ah}{ns:Ad Ao},Fq vs ns->AS (ns.map V.int) vs
 |_,_,.nil => .nil
 |_,_,.cons n t h => .cons ⟨t,rfl⟩ (LL h)
noncomputable def La(H:Hp):Prop := ∀ b,H b=Af \/ ∃ o xs,H b=Aa (.frz o (.lst xs))
theorem R5{P:AE}{w:Ar}{K:Fg}{mg mb:Ag->An Ah}{CX:CXT}{fa a:Ai}{fd:Bl}{sp:Sp}{s₁:Am}{vs:Ad Ah}{ns:Ad Ao}(KX:K.In s₁.heap)(hns:s₁.heap.Ns AV mg)(hb:s₁.heap.Ns FE mb)(hbb : ∀ x:Ag,x ≠ "__name__" -> mb x=B5 x)(hlim:s₁.heap.NoLimit)(hg:s₁.gens = #[])(ha:s₁.heap.get? a=Aa { cls := .type "list",data := .seq vs.toArray })(hi:Fq vs ns)(hl:ns.length<=sizeLine)(hr:Room k EM)(F : ∀ base:Ay,K.In base->base.Ns AV mg->FnOk P w K mg base CX k fa fd [x] sp)(hbind : ∀(s:Am)(u:Ah),Ei s fd ⟨[u],[]⟩ [(x,u)])(hsp : ∀ H:Hp,La H->SqL K H a (ns.map V.int)->sp [.ref a] H (λv _=>v = .bl Ab) λ_ _ _=>AT)(hCX : ∀ H e s',CX [] H s₁ (λ_ _ _=>AT) e s'->AT):DB (model P w) EM (.call (.ref fa) ⟨[.ref a],[]⟩) (λr s'=>r = .ok (.ret (.bool Ab))/\OldK s₁.heap s'.heap/\s'.os=s₁.os/\Dz s'.gens) s₁:=by
 have rv:=LL hi;have lenV:=hi.length
 -- from an abstract heap in which nothing but the script may be tracked
 have core : ∀ H:Hp,La H->SqL K H a (ns.map V.int)->HOk P w H s₁.heap->(∀ b,H b≠Af->b=a)->(H a≠Af->K.lookup a=Af) ->
   DB (model P w) EM (.call (.ref fa) ⟨[.ref a],[]⟩) (λr s'=>r = .ok (.ret (.bool Ab))/\OldK s₁.heap s'.heap/\s'.os=s₁.os/\Dz s'.gens) s₁:=by
  intro H hO hS hok hA hK;have base_of : ∀{b:Ai}{o:AD},s₁.heap.get? b=Aa o->H b=Af->(FP s₁.heap H).get? b=Aa o:=λe n=>Se e n
  have noA : ∀{b:Ai}{o:AD}{es:Ba DictEntry}{ep:Ae},s₁.heap.get? b=Aa o->o.data = .dict es ep->H b=Af:=λ{b o es ep} e d=>by
   cases q:H b with
   |none=>rfl
   |some u=>
    have e':b=a:=hA b (by rw[q];simp)
    subst e';rw[ha]at e;cases e;have d':G7 vs.toArray _=Data.dict es ep:=d;cases d'
  have nsK : ∀{b:Ai}{m:Ag->An Ah},s₁.heap.Ns b m->(FP s₁.heap H).Ns b m:=λ{b m} ⟨o,es,ep,e,d,r⟩=>⟨o,es,ep,base_of e (noA e d),d,r⟩
  have hKb:K.In (FP s₁.heap H):=λb o e=>base_of (KX b o e) (by
   cases q:H b with
   |none=>rfl
   |some u=>
    have e':b=a:=hA b (by rw[q];simp)
    subst e';rw[hK (by rw[q];simp)]at e;cases e)
  have hM:Mod K mg (FP s₁.heap H):=⟨hKb,nsK hns,⟨mb,nsK hb,hbb⟩,let ⟨mc,h1,h2⟩:=hlim;⟨mc,nsK h1,h2⟩⟩
  have e0:Env0 P w K mg (FP s₁.heap H) EM [] s₁ H:=⟨rfl,hM,λb o e=>TK e,Nat.le_of_eq (Q5 _ _),trivial,λb hb=>absurd (show b∈([]:Ad Ai) from hb) (by simp),hok,.of_eq hg⟩
  refine Ea ((F _ hKb (nsK hns)).run EM [] s₁ H ⟨[.ref a],[]⟩ [.ref a] [.ref a] _ _ hr e0 (hbind s₁ (.ref a)) (.cons rfl .nil) (hsp H hO hS)) λr s' h => ?_
  cases r with
  |error e=>exact(hCX H e s' h).elim
  |ok fl=>
   cases fl with
   |next=>exact A5 h
   |brk=>exact A5 h
   |cont=>exact A5 h
   |ret u=>
    obtain⟨v,H',os,bare,un,hok',r',q⟩:=h;have q':v = .bl Ab:=q;subst q';obtain rfl:u=Gz Ab:=r';refine⟨rfl,OldK.of_keep λb o e => ?_,os,bare⟩
    cases q:H b with
    |none=>exact un.keep b o e q (by intro z;exact absurd (show b∈([]:Ad Ai) from z) (by simp)) (by simp)
    |some u=>
     rcases hO b with z|⟨ob,xs,z⟩
     .rw[q]at z;cases z
     .have z2:=un.frzs b ob _ z;obtain⟨e1,_⟩:=hok b _ z;obtain⟨e2,_⟩:=hok' b _ z2;rw[e]at e1;cases e1;exact e2
 cases hk:K.lookup a with
 |some o=>
  -- the script is one of the module's own objects
  have e:=KX a o hk;rw[ha]at e;cases e;refine core (λ_=>Af) (λ_ => .inl rfl) (.inr ⟨_,vs.toArray,_,hk,rfl,rfl,rfl,by rw[A1,lenV];exact hl,by simpa using rv⟩) (λb u z=>by have z':(Af:An HO)=Aa u:=z;cases z') (λb z=>absurd rfl z) λz=>absurd rfl z
 |none=>
  refine core (λb=>if b=a then Aa (.frz { cls := .type "list",data := .seq vs.toArray } (.lst (ns.map V.int))) else Af) (λb => ?_) (.inl (.inr ⟨{ cls := .type "list",data := .seq vs.toArray },AY rfl⟩)) (λb u z => ?_) (λb z => ?_) λ_=>hk
  .by_cases hb:b=a
   .exact .inr ⟨_,_,AY hb⟩
   .exact .inl (A8 hb)
  .by_cases hb:b=a
   .have z':=(AY hb).symm.trans z;cases z';subst hb;exact⟨ha,by rw[Co];exact hl,vs,_,rv,ha⟩
   .have z':=(A8 hb).symm.trans z;cases z'
  .by_cases hb:b=a
   .exact hb
   .exact absurd (A8 hb) z
noncomputable abbrev KOf{K:Fg}{h:Ay}(_:K.In h):Fg:=K
theorem walk_of{l:DK}{n:Ae}{q:AE}{loose:Ad Ag}{XP:(Ag->An Ah)->Ay->Prop}{YP:Ar->Ay->Prop}{d:DefRec}{K:Ha->Fg}{CX:Ar->CXT}{sp:Ar->Sp}(hn:l.most=Aa n)(hn2:n<=sizeLine)(hdf:d.params.defaults=[])(hr:Room k EM)(hY : ∀(w:Ar)(h:Ay),YP w h->(K w.params).In h)(F : ∀(w:Ar)(mg:Ag->An Ah)(fa:Ai)(h:Ay),(K w.params).In h->h.Ns AV mg->mg d.name=Aa (.ref fa) ->
   ∃ fd:Bl,(∀(s:Am)(u:Ah),Ei s fd ⟨[u],[]⟩ [(x,u)]) /\
    ∀ base:Ay,(K w.params).In base->base.Ns AV mg->FnOk l.prog w (K w.params) mg base (CX w) k fa fd [x] (sp w))(hsp : ∀(w:Ar)(H:Hp)(a:Ai)(ns:Ad Ao),ns.length<=n->La H->SqL (K w.params) H a (ns.map V.int)->sp w [.ref a] H (λv _=>v = .bl Ab) λ_ _ _=>AT)(hCX : ∀(w:Ar)(H:Hp)(s:Am)(e:Ah)(s':Am),CX w [] H s (λ_ _ _=>AT) e s'->AT):Qm q loose XP YP l.row.toRowW d [] (λf vs=>GA f vs):=by
 refine Att.attach_call hn hdf λw s₀ s₁ mg mb fa o pm cd doc a vs ns G Y_ ho hd hcd hmg hobj hints hlen hg => ?_
 have KX:=hY w _ Y_;obtain⟨fd,hb,hF⟩:=F w mg fa _ KX G.T.g hmg;exact R5 KX G.T.g G.T.b G.T.builtins G.T.nolimit hg hobj hints (BP hlen hn2) hr hF hb (λH hO hS=>hsp w H a ns hlen hO hS) λH e s'=>hCX w H s₁ e s'
end L2
/- THE LAST THEOREM (shape;LID, My.* are yours):
   My.Adr:a structure of the addresses that your layer names (classes,functions);My.Txt K t:a structure (Prop) of the equations over K;
   My.txt_mk : {K} {implicit addresses ..} (e1:nsIn K AV "law" = Aa (Aa (.ref f))) (e2:K.lookup f=Aa ⟨oc,od,.func (fnOf "law" "law" params body scope dV kV doc pm an cdv ct),sl⟩) (e3:codeIn K cdv "law" = Ab) .. : ∃ t,My.Txt K t
set_option maxRecDepth 100000 in
set_option maxHeartbeats 0 in
theorem PySem.Challenge.cw_LID_holds : PySem.Challenge.rw_LID.Holds := by
 w_on;o_law;k_head;(case hw=>w_witness2)
 k_fill
 refine L2.walk_of (l:=PySem.Challenge.rw_LID) (n:=63) (k:=40) (x := "script") (CX:=λw => ..) (sp:=λ_=>My.sp_law) rfl (by decide) rfl ⟨rfl,by decide,by decide⟩ (λw h Y_=>Qr Y_) ?F ?S ?C
 case F=>
  intro w mg fa h KX G hmg;have T : ∃ t,My.Txt (L2.KOf KX) t:=by
   dsimp only[L2.KOf]                          -- K must stand as «<heap const> w.params» for k_is
   refine' My.txt_mk ?e1 ?e2 ?e3 ..
   (case e1 => PySem.W.k_is)                    -- in the order: a name -> its address -> its object -> its parts
   (case e2=>PySem.W.k_is)
   ..
  obtain⟨t, T⟩ := T;have e0 := hmg.symm.trans (AB KX G T.law);cases e0                                       -- fa is the law's own address
  exact⟨_, fun s u => .of_eq rfl, fun base kb nb => My.law_fn T kb nb⟩     -- if «.of_eq rfl» comes too early: refine' ⟨_, ?b, fun base kb nb => My.law_fn T kb nb⟩;exact fun s u => .of_eq rfl
 case S=>exact λw H a ns hl hO hS => ..
 case C=>exact ..
(the tactic k_is has no namespace:write k_is) -/
namespace L2
open PySem PySem.Spec PyProof.Rows
noncomputable def E4(s:AC):Arguments:=match s with
  |.FunctionDef _ a _ _ _ _ _ _ _ _=>a
  |_ => {posonlyargs:=[],args:=[],vararg:=Af,kwonlyargs:=[],kw_defaults:=[],kwarg:=Af,defaults:=[]}
noncomputable def Dv(s:AC):Ad AC:=match s with
  |.FunctionDef _ _ b _ _ _ _ _ _ _=>b
  |_=>[]
noncomputable def BK(s:AC):Bw:=match s with
  |.FunctionDef _ _ _ _ _ _ sc _ _ _=>sc
  |_ => {kind := .function,names:=[],isGenerator:=Ac,isCoroutine:=Ac}
noncomputable abbrev CX0:CXT:=λ_ _ _ _ _ _=>AT
noncomputable abbrev E0:XK:=λ_ _ _=>AT
structure Fun (K:Fg) (x qual:Ag) (st:AC) (f:Ai) (fd:Bl):Prop where
 ex : ∃(oc:Ah)(od:An Ai)(kV doc pm:Ah)(an:An Ai)(cdv ct:Ah)(osl:Ba (An Ah)),
  fd=BJ x qual (E4 st) (Dv st) (BK st) .none kV doc pm an cdv ct/\K.lookup f=Aa ⟨oc,od,.func fd,osl⟩/\CV K cdv qual=Ab
 kp:BB K (.ref f)=Ab
section
variable{P:AE}{w:Ar}{K:Fg}{mg:Ag->An Ah}{base:Ay}
theorem Fun.ok{x qual:Ag}{st:AC}{f:Ai}{fd:Bl}{N ps:Ad Ag}{k:Ae}{sp:Sp}(F:Fun K x qual st f fd)(S:FnScope N ps (BK st))(len : ∀ vs H Q E,sp vs H Q E->vs.length=ps.length)(hbody : ∀(cdv:Ah)(A:AN)(outer:Ad BE)(s:Am)(H:Hp)(vs:Ad V)(Q:VK)(E:XK),Room k (A.deeper (C6 qual (BK st) s.heap.objs.size f cdv))->sp vs H Q E ->
   ∃ t,PSs (DW CX0 P w K mg base N qual (BK st) f cdv A outer s H E).nox (Dv st) t/\t {nx:=λ_ H'=>Q .non H',rt:=Q} (start N vs) H):FnOk P w K mg base CX0 (k+1) f fd ps sp:=by
 obtain⟨oc,od,kV,doc,pm,an,cdv,ct,osl,rfl,lk,hcd⟩:=F.ex;refine NM lk hcd S len λA outer s H vs Q E hr hsp => ?_
 obtain⟨t,h,q⟩:=hbody cdv A outer s H vs Q E hr hsp;exact⟨t,h.nox,q⟩
theorem Fun.binds{x qual:Ag}{st:AC}{f:Ai}{fd:Bl}{ps:Ad Ag}(F:Fun K x qual st f fd)(h : ∀(kV doc pm:Ah)(an:An Ai)(cdv ct:Ah)(us:Ad Ah),us.length=ps.length->EY (BJ x qual (E4 st) (Dv st) (BK st) .none kV doc pm an cdv ct) ⟨us,[]⟩=pure (ps.zip us)):Ed K fd ps []:=by
 obtain⟨oc,od,kV,doc,pm,an,cdv,ct,osl,rfl,lk,hcd⟩:=F.ex;exact .all (h kV doc pm an cdv ct)
theorem M0{x qual:Ag}{st:AC}{f:Ai}{oc:Ah}{od an:An Ai}{osl:Ba (An Ah)}{kV doc pm cdv ct:Ah}(l:K.lookup f=Aa ⟨oc,od,.func (BJ x qual (E4 st) (Dv st) (BK st) .none kV doc pm an cdv ct),osl⟩)(c:CV K cdv qual=Ab)(k:BB K (.ref f)=Ab):Fun K x qual st f (BJ x qual (E4 st) (Dv st) (BK st) .none kV doc pm an cdv ct):=⟨⟨oc,od,kV,doc,pm,an,cdv,ct,osl,rfl,l,c⟩,k⟩
end
section
variable{X:Cx}
end
noncomputable def Av(H H':Hp):Prop := ∀ b o,H b=Aa o->H' b=Aa o
theorem Av.refl(H:Hp):Av H H:=λ_ _ h=>h
theorem Av.trans{H H1 H2:Hp}(a:Av H H1)(b:Av H1 H2):Av H H2:=λc o h=>b c o (a c o h)
theorem Av.free{H H':Hp}(e:Av H H'){l:Ai}(h:H' l=Af):H l=Af:=by
 cases q:H l with
 |none=>rfl
 |some o=>
  rw[e l o q]at h;cases h
end L2
section
namespace Ov
open PySem
variable{α β:Type}
inductive D where
 |non|bl (b:Aj)|int (i:Ao)|str (x:Ag)|tup (ds:Ad D)|lst (ds:Ad D)
 |obj (c:Ae) (fs:Ad (Ag × D))|exc (c:Ae) (fs:Ad (Ag × D))|dic (kvs:Ad (Ad Ao × D))
 deriving Inhabited
structure Ex where
 c:Ae
 fs:Ad (Ag × D)
 deriving Inhabited
inductive R (α:Type) where
 |ok (a:α)|exn (x:Ex)|bad
 deriving Inhabited
noncomputable def R.bind{α β:Type}(r:R α)(f:α->R β):R β:=match r with
  |.ok a=>f a
  |.exn x => .exn x
  |.bad => .bad
@[simp]theorem R.bind_ok(a:α)(f:α->R β):(R.ok a).bind f=f a:=rfl
@[simp]theorem R.bind_exn(x:Ex)(f:α->R β):(R.exn x:R α).bind f = .exn x:=rfl
@[simp]theorem R.bind_bad(f:α->R β):(R.bad:R α).bind f = .bad:=rfl
theorem R.bind_assoc{γ:Type}(r:R α)(f:α->R β)(g:β->R γ):(r.bind f).bind g=r.bind λa=>(f a).bind g:=by cases r <;> rfl
noncomputable def B9(n:Ae):Aj:=Ck n 1000000
noncomputable def FJ(i j:Ao):Aj:=(decide (-(18446744073709551616:Ao)<i)&&decide (i<18446744073709551616))||(decide (-(18446744073709551616:Ao)<j)&&decide (j<18446744073709551616))
noncomputable def IL(i j:Ao):Aj:=decide (i.natAbs<2 ^ 2000)&&decide (j.natAbs<2 ^ 2000)
noncomputable def Cn:Dq->D->D->R D
 |.Add,.int i,.int j => .ok (.int (i+j))
 |.Sub,.int i,.int j => .ok (.int (i-j))
 |.Mult,.int i,.int j=>if (FJ i j||IL i j)=Ab then .ok (.int (i*j)) else .bad
 |.FloorDiv,.int i,.int j=>if 0<j/\j<1073741824 then .ok (.int (i/j)) else .bad
 |.Mod,.int i,.int j=>if 0<j then .ok (.int (i%j)) else .bad
 |.Pow,.int i,.int j=>if (0<=j/\j<=1000000)/\(-(18446744073709551616:Ao)<i/\i<18446744073709551616) then .ok (.int (i ^ j.toNat)) else .bad
 |.Add,.str x,.str y=>if B9 (x.length+y.length)=Ab then .ok (.str (x++y)) else .bad
 |.Add,.lst x,.lst y=>if B9 (x.length+y.length)=Ab then .ok (.lst (x++y)) else .bad
 |.Add,.tup x,.tup y=>if (!x.isEmpty&&B9 (x.length+y.length))=Ab then .ok (.tup (x++y)) else .bad
 |_,_,_ => .bad
noncomputable def unD:GD->D->R D
 |.USub,.int i => .ok (.int (-i))
 |_,_ => .bad
noncomputable def b2i(b:Aj):Ao:=if b=Ab then 1 else 0
mutual
noncomputable def eqD:D->D->Aj
 |.non,.non=>Ab
 |.bl a,.bl b=>a==b
 |.bl a,.int j=>b2i a==j
 |.int i,.bl b=>i==b2i b
 |.int i,.int j=>i==j
 |.str x,.str y=>x==y
 |.tup xs,.tup ys=>eqDs xs ys
 |.lst xs,.lst ys=>eqDs xs ys
 |_,_=>Ac
noncomputable def eqDs:Ad D->Ad D->Aj
 |[],[]=>Ab
 |x::xs,y::ys=>eqD x y&&eqDs xs ys
 |_,_=>Ac
end
noncomputable def flD:Ae->D->Aj
 |_,.non=>Ab
 |_,.bl _=>Ab
 |_,.int _=>Ab
 |_,.str _=>Ab
 |n+1,.tup xs=>xs.all (flD n)
 |n+1,.lst xs=>xs.all (flD n)
 |_,_=>Ac
noncomputable def F8:D->An (Ad Ao)
 |.tup ds=>keyDs ds
 |_=>Af
where keyDs:Ad D->An (Ad Ao)
 |[]=>Aa []
 |.int i::r=>(keyDs r).map (i :: ·)
 |_=>Af
noncomputable def ltD:Ae->D->D->Aj
 |0,.int i,.int j=>decide (i<j)
 |n+1,.tup xs,.tup ys=>ltDs (ltD n) xs ys
 |_,_,_=>Ac
where ltDs (lt:D->D->Aj):Ad D->Ad D->Aj
 |[],[]=>Ac
 |[],_::_=>Ab
 |_::_,[]=>Ac
 |x::xs,y::ys=>if eqD x y=Ab then ltDs lt xs ys else lt x y
noncomputable def rkD:Ae->D->Aj
 |0,.int _=>Ab
 |n+1,.tup xs=>xs.all (rkD n)
 |_,_=>Ac
noncomputable def NZ(lt:D->D->Aj)(x:D):Ad D->Ad D
 |[]=>[x]
 |y::ys=>if lt y x=Ab then y::NZ lt x ys else x::y::ys
noncomputable def NI(lt:D->D->Aj):Ad D->Ad D
 |[]=>[]
 |x::xs=>NZ lt x (NI lt xs)
noncomputable def Oa:Ad D->Aj
 |[]=>Ab
 |x::xs=>xs.all (λy => !eqD x y)&&Oa xs
noncomputable def OE:Ad D->Aj
 |[]=>Ab
 |[_]=>Ab
 |x::y::r=>ltD 1 x y&&OE (y::r)
noncomputable def MK(xs:Ad D):R (Ad D):=if (xs.all (λd=>rkD 1 d && !eqD d (.tup []))&&Oa xs&&(decide (xs.length<64)||(OE xs&&decide (xs.length<=1000))))=Ab then .ok (NI (ltD 1) xs) else .bad
noncomputable def Br:Cd->D->D->R D
  |.Eq,x,y=>if (flD 5 x&&flD 5 y)=Ab then .ok (.bl (eqD x y)) else .bad
  |.NotEq,x,y=>if (flD 5 x&&flD 5 y)=Ab then .ok (.bl (!eqD x y)) else .bad
  |.Lt,.int i,.int j => .ok (.bl (decide (i<j)))
  |.LtE,.int i,.int j => .ok (.bl (decide (i<=j)))
  |.Gt,.int i,.int j => .ok (.bl (decide (j<i)))
  |.GtE,.int i,.int j => .ok (.bl (decide (j<=i)))
  |.In,x,.lst ys=>if (flD 5 x&&ys.all (flD 5))=Ab then .ok (.bl (ys.any λy=>eqD y x)) else .bad
  |.In,x,.dic kvs=>match F8 x with
    |some k => .ok (.bl (kvs.any λp=>p.1==k))
    |none => .bad
  |.In,x,.tup ys=>if (flD 5 x&&ys.all (flD 5))=Ab then .ok (.bl (ys.any λy=>eqD y x)) else .bad
  |.NotIn,x,.lst ys=>if (flD 5 x&&ys.all (flD 5))=Ab then .ok (.bl (!ys.any λy=>eqD y x)) else .bad
  |.NotIn,x,.tup ys=>if (flD 5 x&&ys.all (flD 5))=Ab then .ok (.bl (!ys.any λy=>eqD y x)) else .bad
  |.Is,.non,.non => .ok (.bl Ab)
  |.Is,.bl _,.non => .ok (.bl Ac)
  |.Is,.int _,.non => .ok (.bl Ac)
  |.Is,.str _,.non => .ok (.bl Ac)
  |.Is,.tup _,.non => .ok (.bl Ac)
  |.Is,.lst _,.non => .ok (.bl Ac)
  |.Is,.obj _ _,.non => .ok (.bl Ac)
  |.Is,.bl a,.bl b => .ok (.bl (a==b))
  |.IsNot,.bl a,.bl b => .ok (.bl (!(a==b)))
  |.IsNot,.non,.non => .ok (.bl Ac)
  |.IsNot,.bl _,.non => .ok (.bl Ab)
  |.IsNot,.int _,.non => .ok (.bl Ab)
  |.IsNot,.str _,.non => .ok (.bl Ab)
  |.IsNot,.tup _,.non => .ok (.bl Ab)
  |.IsNot,.lst _,.non => .ok (.bl Ab)
  |.IsNot,.obj _ _,.non => .ok (.bl Ab)
  |_,_,_ => .bad
noncomputable def Bq:D->R Aj
 |.non => .ok Ac
 |.bl b => .ok b
 |.int i => .ok (i != 0)
 |.str x=>if B9 x.length=Ab then .ok (x.length != 0) else .bad
 |.tup xs => .ok (!xs.isEmpty)
 |.lst xs => .ok (!xs.isEmpty)
 |_ => .bad
noncomputable def plD(n:Ae)(i:Ao):An Ae:=if 0<=i then (if i<n then Aa i.toNat else Af) else if -(n:Ao)<=i then Aa (i+n).toNat else Af
noncomputable def CZ(xs:Ad D)(i:Ao):R D:=match plD xs.length i with
  |some k=>match xs[k]? with
    |some d => .ok d
    |none => .bad
  |none => .bad
noncomputable def Ka(kvs:Ad (Ad Ao × D))(k:Ad Ao):An D:=(kvs.find? λp=>p.1==k).map (·.2)
noncomputable def Nm(kvs:Ad (Ad Ao × D))(k:Ad Ao)(v:D):Ad (Ad Ao × D):=if (kvs.any λp=>p.1==k)=Ab then kvs.map (λp=>if (p.1==k)=Ab then (k,v) else p) else kvs++[(k,v)]
noncomputable def FQ(x:Ag):Ad D:=x.cps.toList.map λc => .str ⟨#[c]⟩
noncomputable def Ga:D->D->R D
  |.str x,.int i=>if B9 x.length=Ab then CZ (FQ x) i else .bad
  |.lst xs,.int i=>CZ xs i
  |.tup xs,.int i=>CZ xs i
  |.dic kvs,k=>match (F8 k).bind (Ka kvs) with
    |some d => .ok d
    |none => .bad
  |_,_ => .bad
noncomputable def Dw:D->R Ao
 |.int i => .ok i
 |_ => .bad
noncomputable def Cu:D->R Aj
 |.bl b => .ok b
 |_ => .bad
noncomputable def DU:D->R (Ad D)
 |.lst xs => .ok xs
 |.tup xs => .ok xs
 |_ => .bad
noncomputable def KO:D->R (Ad D)
 |.lst xs => .ok xs
 |_ => .bad
inductive BI where
 |len|abs|max|min|int|list|tuple|all|any|sum|sorted|str|count|stp|lset|tmin|tmax|tlt|rvs|sjoin
 deriving DecidableEq,Inhabited
inductive Ki where
 |int|bool|str|list|tuple|verr|cls (c:Ae)
 deriving DecidableEq,Inhabited
mutual
inductive E where
 |non|bl (b:Aj)|int (i:Ao)|str (x:Ag)
 |var (i:Ae)|glob (g:Ae)
 |bin (op:Dq) (a b:E)|un (op:GD) (a:E)|no (a:E)
 |and (es:Es)|or (es:Es)
 |cmp (op:Cd) (a b:E)|cmp2 (op op':Cd) (a b c:E)
 |ite (c a b:E)
 |call (f:Ae) (as:Es)|bi (b:BI) (as:Es)
 |isi (a:E) (ks:Ad Ki)
 |idx (a i:E)|sl (a lo hi:E)
 |tup (es:Es)|lst (es:Es)
 |comp (elt:E) (t:Ae) (it:I) (c:E)|compT (elt:E) (ts:Ad Ae) (it:I) (c:E)|tupI (it:I)|dnew
 |fld (o:E) (f:Ag)|mkx (c:Ae) (as:Es)
inductive Es where
 |nil|cons (e:E) (es:Es)
inductive I where
 |e (a:E)|rng (a:E)|rng2 (a b:E)|zip (a b:E)|zip3 (a b c:E)|enm (a:E)
end
noncomputable abbrev Sl:=An (D × Aj)
noncomputable abbrev Rho:=Ad Sl
structure Gam where
 F:Ae->Ad D->R D
 G:Ae->D
 up:Ae->Ad Ae
 /-- the defs whose answer is a new list -/
 fr:Ae->Aj
 /-- what is raised: the class, what it is made of -/
 xn:Ae->Ad D->R Ex
noncomputable def DX(lo:Ao)(n:Ae):Ad D:=(CO n).map fun(k:Ae)=>D.int (lo+(k:Ao))
noncomputable def De(lo hi:Ao):R (Ad D):=if (-(4611686018427387904:Ao)<=lo/\lo<4611686018427387904)/\(-(4611686018427387904:Ao)<=hi/\hi<4611686018427387904)/\hi-lo<1000000 then .ok (DX lo (hi-lo).toNat) else .bad
noncomputable def kiD(up:Ae->Ad Ae):Ki->D->Aj
 |.int,.int _=>Ab
 |.int,.bl _=>Ab
 |.bool,.bl _=>Ab
 |.str,.str _=>Ab
 |.list,.lst _=>Ab
 |.tuple,.tup _=>Ab
 |.cls c,.obj k _=>(up k).contains c
 |.cls c,.exc k _=>(up k).contains c
 |.verr,.exc _ _=>Ab
 |_,_=>Ac
noncomputable def CJ:Ki->Aj
 |.cls _=>Ab
 |.verr=>Ab
 |_=>Ac
noncomputable def CI(up:Ae->Ad Ae)(ks:Ad Ki)(x:D):R D:=match x with
  |.obj _ _ => .bad
  |.exc _ _=>if ks.all CJ=Ab then .ok (.bl (ks.any λk=>kiD up k x)) else .bad
  |.dic _ => .bad
  |_=>if ks.any CJ=Ab then .bad else .ok (.bl (ks.any λk=>kiD up k x))
noncomputable def DI:D->R Aj
 |.non => .ok Ac
 |.bl b => .ok b
 |.int i => .ok (i != 0)
 |_ => .bad
noncomputable def Ek:Ad D->R Aj
 |[] => .ok Ab
 |x::r=>(DI x).bind λb=>(Ek r).bind λc => .ok (b&&c)
noncomputable def F3:Ad D->R Aj
 |[] => .ok Ac
 |x::r=>(DI x).bind λb=>(F3 r).bind λc => .ok (b||c)
noncomputable def HJ:Ao->Ad D->R Ao
 |a,[] => .ok a
 |a,.int i::r=>HJ (a+i) r
 |_,_ => .bad
noncomputable def KR:Ad D->Ad D->Ad D
 |x::xs,y::ys => .tup [x,y]::KR xs ys
 |_,_=>[]
noncomputable def NB:Ad D->Ad D->Ad D->Ad D
 |x::xs,y::ys,z::zs => .tup [x,y,z]::NB xs ys zs
 |_,_,_=>[]
noncomputable def NA(x y z:D):R (Ad D):=(DU x).bind λxs=>(DU y).bind λys=>(DU z).bind λzs=>if 0<xs.length/\xs.length<=1000/\ys.length=xs.length/\zs.length=xs.length then .ok (NB xs ys zs) else .bad
noncomputable def Le:Ao->Ad D->Ad D
 |_,[]=>[]
 |i,x::xs => .tup [.int i,x]::Le (i+1) xs
noncomputable def nlD:Ae->D->Aj
 |_,.non=>Ab
 |_,.bl _=>Ab
 |_,.int _=>Ab
 |_,.str _=>Ab
 |n+1,.tup xs=>xs.all (nlD n)
 |_,_=>Ac
noncomputable def Em(fr:Aj):D->Aj
 |.lst ds=>fr&&ds.all (nlD 5)
 |d=>nlD 5 d
noncomputable def IQ:Ad D->An (Ad Ao)
 |[]=>Aa []
 |.int i::r=>(IQ r).map (i :: ·)
 |_=>Af
noncomputable def Ob(i:Ao):Ad Ao->Ao
 |[]=>i
 |j::r=>Ob (if j<i then j else i) r
noncomputable def pk2(k n:Ae):Ad Ae:=(CO ((n-min k n+1)/2)).map λj=>min k n+2*j
noncomputable def Os(k:Ae)(xs:Ad D):Ad D:=(pk2 k xs.length).filterMap λi=>xs[i]?
noncomputable def ddS(acc:Ad Ao)(x:Ao):Ad Ao:=if acc.any (· == x)=Ab then acc else acc++[x]
noncomputable def ddN(is:Ad Ao):Ae:=(is.foldl ddS []).length
noncomputable def NN(xs:Ad D):R D:=match IQ xs with
  |some is=>if Ck is.length 4000=Ab then .ok (.int (ddN is)) else .bad
  |none => .bad
noncomputable def mmD(mx:Aj)(x y:D):R D:=if [x,y].all (λd=>rkD 1 d && !eqD d (.tup []))=Ab then .ok (if (if mx=Ab then ltD 1 x y else ltD 1 y x)=Ab then y else x) else .bad
noncomputable def On(x y:D):R D:=if [x,y].all (λd=>rkD 1 d && !eqD d (.tup []))=Ab then .ok (.bl (ltD 1 x y)) else .bad
noncomputable def XY(k:Ad Ao):Ao:=reduceHash (Builtin.Tuple.tupleHashOf (k.map hashInt))
noncomputable def NO:Ad D->An (Ad (Ad Ao))
 |[]=>Aa []
 |.tup xs::r=>(IQ xs).bind λk=>(NO r).map (k :: ·)
 |_=>Af
noncomputable def Ol:Ad Ao->Aj
 |[]=>Ab
 |h::r => !r.contains h&&Ol r
noncomputable def W8(xs:Ad D):R D:=match NO xs with
  |some ks=>if (Ck ks.length 3&&Ol (ks.map XY))=Ab then .ok (.int ks.length) else .bad
  |none => .bad
noncomputable def II:Ad D->An (Ad Ag)
 |[]=>Aa []
 |.str x::r=>(II r).map (x :: ·)
 |_=>Af
noncomputable def Kj(s:Ag)(xs:Ad D):R D:=match II xs with
  |some ss=>if G9 s ss=Ab then .ok (.str (Hb s ss)) else .bad
  |none => .bad
noncomputable def biD:BI->Ad D->R D
  |.len,[.lst xs] => .ok (.int xs.length)
  |.len,[.tup xs] => .ok (.int xs.length)
  |.len,[.str x]=>if B9 x.length=Ab then .ok (.int x.length) else .bad
  |.abs,[.int i] => .ok (.int (if i<0 then -i else i))
  |.max,[.int i,.int j] => .ok (.int (if i<j then j else i))
  |.min,[.int i,.int j] => .ok (.int (if j<i then j else i))
  |.min,[.lst xs]=>match IQ xs with
    |some (i::is) => .ok (.int (Ob i is))
    |_ => .bad
  |.int,[.int i] => .ok (.int i)
  |.int,[.bl b] => .ok (.int (b2i b))
  |.list,[.lst xs] => .ok (.lst xs)
  |.list,[.tup xs] => .ok (.lst xs)
  |.tuple,[.lst xs] => .ok (.tup xs)
  |.tuple,[.tup xs] => .ok (.tup xs)
  |.all,[.lst xs]=>(Ek xs).bind λb => .ok (.bl b)
  |.any,[.lst xs]=>(F3 xs).bind λb => .ok (.bl b)
  |.any,[.tup xs]=>(F3 xs).bind λb => .ok (.bl b)
  |.sum,[.lst xs]=>(HJ 0 xs).bind λi => .ok (.int i)
  |.sum,[.tup xs]=>(HJ 0 xs).bind λi => .ok (.int i)
  |.sorted,[.lst xs]=>(MK xs).bind λys => .ok (.lst ys)
  |.count,[.lst xs,x]=>if (flD 5 x&&xs.all (flD 5))=Ab then .ok (.int ((xs.filter λy=>eqD y x).length:Ae)) else .bad
  |.len,[.dic kvs] => .ok (.int kvs.length)
  |.stp,[.lst xs,.int k] => .ok (.lst (Os k.toNat xs))
  |.lset,[.lst xs]=>NN xs
  |.lset,[.tup xs]=>W8 xs
  |.sjoin,[.str s,.lst xs]=>Kj s xs
  |.tmin,[x,y]=>mmD Ac x y
  |.tmax,[x,y]=>mmD Ab x y
  |.tlt,[x,y]=>On x y
  |.rvs,[.lst xs] => .ok (.lst xs.reverse)
  |_,_ => .bad
noncomputable def slE(c:E)(d:D):R (An Ao):=match c with
  |.non => .ok Af
  |_=>(Dw d).bind λi => .ok (Aa i)
noncomputable def Gu(n d:Ae):An Ao->Ae
 |none=>d
 |some i=>if i<0 then (i+n).toNat else min i.toNat n
noncomputable def Jc(xs:Ad D)(lo hi:An Ao):Ad D:=(xs.drop (Gu xs.length 0 lo)).take (Gu xs.length xs.length hi-Gu xs.length 0 lo)
noncomputable def slD:D->An Ao->An Ao->R D
 |.lst xs,l,h => .ok (.lst (Jc xs l h))
 |.tup xs,l,h=>if (Gu xs.length 0 l==0&&Gu xs.length xs.length h==xs.length)=Ab then .bad else .ok (.tup (Jc xs l h))
 |_,_,_ => .bad
noncomputable def HL:D->Ag->R D
  |.exc _ fs,f=>match fs.lookup f with
    |some d => .ok d
    |none => .bad
  |_,_ => .bad
noncomputable def DH(Y:Rho)(i:Ae):R D:=match Y[i]? with
  |some (Aa (d,Ac)) => .ok d
  |_ => .bad
noncomputable def CB(Y:Rho)(i:Ae):R D:=match Y[i]? with
  |some (Aa (d,_)) => .ok d
  |_ => .bad
noncomputable def shE(Y:Rho):E->Aj
  | .var i=>(match Y[i]? with
    |some (Aa (_,Ab))=>Ac
    | _=>Ab)
  |_=>Ab
noncomputable def Fl(Y:Rho):Es->Aj
 |.nil=>Ab
 |.cons e es=>shE Y e&&Fl Y es
noncomputable def EC:Ad Ae->Ad D->Rho->An Rho
 |[],[],Y=>Aa Y
 |t::ts,d::ds,Y=>EC ts ds (Y.set t (Aa (d,Ac)))
 |_,_,_=>Af
noncomputable def ED(ts:Ad Ae)(d:D)(Y:Rho):R Rho:=match d with
  | .tup xs=>(match EC ts xs Y with
    |some Y' => .ok Y'
    | none => .bad)
  |_ => .bad
noncomputable def IM(ts:Ad Ae)(d:D)(Y:Rho):R Rho:=match d with
  | .lst xs=>(match EC ts xs Y with
    |some Y' => .ok Y'
    | none => .bad)
  |d=>ED ts d Y
noncomputable def CM(g:D->R Aj)(f:D->R D):Ad D->R (Ad D)
 |[] => .ok []
 |x::xs=>(g x).bind λb=>if b=Ab then (f x).bind λy=>(CM g f xs).bind λys => .ok (y::ys) else CM g f xs
noncomputable def noX{α:Type}:R α->R α
 |.ok a => .ok a
 |_ => .bad
noncomputable def top(Y:Rho)(e:E)(r:R D):R D:=match e with
  |.var i=>CB Y i
  |_=>r
mutual
noncomputable def evE(U:Gam)(Y:Rho):E->R D
 |.non => .ok .non
 |.bl b => .ok (.bl b)
 |.int i => .ok (.int i)
 |.str x => .ok (.str x)
 |.var i=>DH Y i
 |.glob g => .ok (U.G g)
 |.bin op a b=>(top Y a (evE U Y a)).bind λx=>(top Y b (evE U Y b)).bind λy=>Cn op x y
 |.un op a=>(top Y a (evE U Y a)).bind λx=>unD op x
 |.no a=>(top Y a (evE U Y a)).bind λx=>(Cu x).bind λb => .ok (.bl (!b))
 |.and es=>evN U Y es
 |.or es=>evO U Y es
 |.cmp op a b=>(top Y a (evE U Y a)).bind λx=>(top Y b (evE U Y b)).bind λy=>Br op x y
 |.cmp2 op op' a b c=>(top Y a (evE U Y a)).bind λx=>(top Y b (evE U Y b)).bind λy=>(Br op x y).bind λz=>(Cu z).bind λk=>if k=Ab then (top Y c (evE U Y c)).bind λu=>Br op' y u else .ok (.bl Ac)
 |.ite c a b=>(top Y c (evE U Y c)).bind λx=>(Bq x).bind λk=>if k=Ab then evE U Y a else evE U Y b
 |.call f as=>(evB U Y as).bind λxs=>(U.F f xs).bind λd=>if Fl Y as=Ab then .ok d else if Em (U.fr f) d=Ab then .ok d else .bad
 |.bi b as=>(evB U Y as).bind λxs=>biD b xs
 |.isi a ks=>(top Y a (evE U Y a)).bind λx=>CI U.up ks x
 |.idx a i=>(top Y a (evE U Y a)).bind λx=>(top Y i (evE U Y i)).bind λy=>Ga x y
 |.sl a lo hi=>(top Y a (evE U Y a)).bind λx=>(top Y lo (evE U Y lo)).bind λl=>(slE lo l).bind λl'=>(top Y hi (evE U Y hi)).bind λh=>(slE hi h).bind λh'=>slD x l' h'
 |.tup es=>(evA U Y es).bind λxs => .ok (.tup xs)
 |.lst es=>(evA U Y es).bind λxs => .ok (.lst xs)
 |.comp elt t it c=>(evI U Y it).bind λxs=>(noX (CM (λx=>(top (Y.set t (Aa (x,Ac))) c (evE U (Y.set t (Aa (x,Ac))) c)).bind Bq) (λx=>evE U (Y.set t (Aa (x,Ac))) elt) xs)).bind λys => .ok (.lst ys)
 |.compT elt ts it c=>(evI U Y it).bind λxs=>(noX (CM (λx=>(ED ts x Y).bind λY'=>(top Y' c (evE U Y' c)).bind Bq) (λx=>(ED ts x Y).bind λY'=>evE U Y' elt) xs)).bind λys => .ok (.lst ys)
 |.tupI it=>(evI U Y it).bind λxs => .ok (.tup xs)
 |.dnew => .ok (.dic [])
 |.fld o f=>(top Y o (evE U Y o)).bind λx=>HL x f
 |.mkx c as=>(noX (evA U Y as)).bind λxs=>(U.xn c xs).bind λx => .ok (.exc x.c x.fs)
noncomputable def evN(U:Gam)(Y:Rho):Es->R D
 |.nil => .bad
 |.cons e .nil=>evE U Y e
 |.cons e (.cons e' es)=>(evE U Y e).bind λx=>(Cu x).bind λc=>if c=Ab then evN U Y (.cons e' es) else .ok (.bl Ac)
noncomputable def evO(U:Gam)(Y:Rho):Es->R D
 |.nil => .bad
 |.cons e .nil=>evE U Y e
 |.cons e (.cons e' es)=>(evE U Y e).bind λx=>(Cu x).bind λc=>if c=Ab then .ok (.bl Ab) else evO U Y (.cons e' es)
noncomputable def evA(U:Gam)(Y:Rho):Es->R (Ad D)
 |.nil => .ok []
 |.cons e es=>(evE U Y e).bind λx=>(evA U Y es).bind λxs => .ok (x::xs)
noncomputable def evB(U:Gam)(Y:Rho):Es->R (Ad D)
 |.nil => .ok []
 |.cons e es=>(top Y e (evE U Y e)).bind λx=>(evB U Y es).bind λxs => .ok (x::xs)
noncomputable def evI(U:Gam)(Y:Rho):I->R (Ad D)
 |.e a=>(evE U Y a).bind DU
 |.rng a=>(top Y a (evE U Y a)).bind λx=>(Dw x).bind λj=>De 0 j
 |.rng2 a b=>(top Y a (evE U Y a)).bind λx=>(top Y b (evE U Y b)).bind λy=>(Dw x).bind λi=>(Dw y).bind λj=>De i j
 |.zip a b=>(evE U Y a).bind λx=>(evE U Y b).bind λy=>(DU x).bind λxs=>(DU y).bind λys => .ok (KR xs ys)
 |.zip3 a b c=>(evE U Y a).bind λx=>(evE U Y b).bind λy=>(evE U Y c).bind λz=>NA x y z
 |.enm a=>(evE U Y a).bind λx=>(DU x).bind λxs => .ok (Le 0 xs)
end
noncomputable def Dg(U:Gam):E->Aj
 |.lst _=>Ab
 |.comp _ _ _ _=>Ab
 |.compT _ _ _ _=>Ab
 |.dnew=>Ab
 |.bin .Add _ _=>Ab
 |.bi .list _=>Ab
 |.bi .sorted _=>Ab
 |.sl _ _ _=>Ab
 |.call f _=>U.fr f
 |_=>Ac
mutual
inductive S where
 |pass
 /-- x = e;fresh: x alone holds the new list -/
 |asg (i:Ae) (fresh:Aj) (e:E)
 /-- a, b, .. = e -/
 |asgT (ts:Ad Ae) (e:E)
 |expr (e:E)
 |ret (e:E)|retN
 |ife (c:E) (a b:Ss)
 |fors (t:Ae) (it:I) (body:Ss)
 |forT (ts:Ad Ae) (it:I) (body:Ss)
 |whl (c:E) (body:Ss)
 /-- raise C(e, ..) -/
 |rais (c:Ae) (as:Es)
 /-- try: body except C as x: h -/
 |tryx (body:Ss) (c:Ae) (x:Ae) (h:Ss)
 /-- .. except C as x: h, except C' as x: h', else: els -/
 |try2 (body:Ss) (c:Ae) (x:Ae) (h:Ss) (c':Ae) (h' els:Ss)
 /-- x.append(e), x.extend(e), x.insert(k, e), x.reverse(), x.clear() -/
 |app (i:Ae) (e:E)|ext (i:Ae) (e:E)|ins (i:Ae) (k e:E)|rev (i:Ae)|clr (i:Ae)
 /-- d[k] = e, d.setdefault(k, e) -/
 |dput (i:Ae) (k e:E)|dsd (i:Ae) (k e:E)
 /-- x[k] = e -/
 |put (i:Ae) (k e:E)
 /-- x[k], x[l] = x[l], x[k] -/
 |swp (i k l:Ae)
 /-- x.append(y.pop(e)) -/
 |apop (j i:Ae) (e:E)
 |brk|cont
 /-- nothing: from here on x is no longer changed -/
 |rel (i:Ae)
inductive Ss where
 |nil|cons (s:S) (ss:Ss)
end
inductive O where
 |next (Y:Rho)|ret (d:D) (fr:Aj)|brk (Y:Rho)|cont (Y:Rho)|exn (x:Ex) (Y:Rho)|bad
 deriving Inhabited
noncomputable def O.of{α:Type}(Y:Rho)(r:R α)(f:α->O):O:=match r with
  |.ok a=>f a
  |.exn x => .exn x Y
  |.bad => .bad
@[simp]theorem O.of_ok(Y:Rho)(a:α)(f:α->O):O.of Y (.ok a) f=f a:=rfl
@[simp]theorem O.of_exn(Y:Rho)(x:Ex)(f:α->O):O.of Y (.exn x:R α) f = .exn x Y:=rfl
@[simp]theorem O.of_bad(Y:Rho)(f:α->O):O.of Y (.bad:R α) f = .bad:=rfl
noncomputable def Fm(U:Gam)(Y:Rho)(i:I):R (Ad D):=evI U Y i
noncomputable def CY(Y:Rho)(i:Ae):R (Ad D):=match Y[i]? with
  |some (Aa (.lst xs,Ab)) => .ok xs
  |_ => .bad
noncomputable def N6(Y:Rho)(i:Ae):R (Ad (Ad Ao × D)):=match Y[i]? with
  |some (Aa (.dic xs,Ab)) => .ok xs
  |_ => .bad
noncomputable def NK(d:D):R (Ad Ao):=match F8 d with
  |some k => .ok k
  |none => .bad
noncomputable def NU:Ae:=4096
noncomputable def O.seq(o:O)(f:Rho->O):O:=match o with
  |.next Y=>f Y
  |.ret d b => .ret d b
  |.brk Y => .brk Y
  |.cont Y => .cont Y
  |.exn x Y => .exn x Y
  |.bad => .bad
noncomputable def O.turn(o:O)(f:Rho->O):O:=match o with
  |.next Y=>f Y
  |.cont Y=>f Y
  |.brk Y => .next Y
  |.ret d b => .ret d b
  |.exn x Y => .exn x Y
  |.bad => .bad
noncomputable def E8(body:D->Rho->O):Ad D->Rho->O
 |[],Y => .next Y
 |x::xs,Y=>(body x Y).turn (E8 body xs)
noncomputable def KY(c:Rho->R Aj)(body:Rho->O):Ae->Rho->O
 |0,_ => .bad
 |n+1,Y=>O.of Y (c Y) λb=>if b=Ab then (body Y).turn (KY c body n) else .next Y
noncomputable def NQ(Y:Rho)(k:Ae):R Ao:=(DH Y k).bind Dw
noncomputable def Yd(Y:Rho)(d:D)(i k l:Ae):O:=match d with
  |.tup [x,y]=>O.of Y (CY Y i) λxs=>O.of Y (NQ Y k) λa=>O.of Y (NQ Y l) λb=>match plD xs.length a,plD xs.length b with
    |some m,Aa n => .next (Y.set i (Aa (.lst ((xs.set m x).set n y),Ab)))
    |_,_ => .bad
  |_ => .bad
noncomputable def apD(Y:Rho)(j i:Ae)(ys xs:Ad D)(n:Ao):O:=match plD xs.length n with
  | some m=>(match xs[m]? with
    |some d=>if (j != i&&(B9 xs.length&&B9 (ys.length+1)))=Ab then .next ((Y.set i (Aa (.lst (xs.eraseIdx m),Ab))).set j (Aa (.lst (ys++[d]),Ab))) else .bad
    | none => .bad)
  |none => .bad
noncomputable def hdO(i:Ae)(y:Ex)(Y':Rho)(fh:Rho->O):O:=match fh (Y'.set i (Aa (.exc y.c y.fs,Ac))) with
  |.next Y'' => .next (Y''.set i Af)
  |.ret d f => .ret d f
  |_ => .bad
mutual
noncomputable def evS(U:Gam)(Y:Rho):S->O
  |.pass => .next Y
  | .asg i fresh e=>O.of Y (evE U Y e) λd=>if fresh=Ab then (if Dg U e=Ab then (match d with
      |.lst xs => .next (Y.set i (Aa (.lst xs,Ab)))
      |.dic xs => .next (Y.set i (Aa (.dic xs,Ab)))
      | _ => .bad) else .bad) else .next (Y.set i (Aa (d,Ac)))
  |.asgT ts e=>O.of Y (evE U Y e) λd=>O.of Y (IM ts d Y) λY' => .next Y'
  |.expr e=>O.of Y (evE U Y e) λ_ => .next Y
  |.ret e=>O.of Y (top Y e (evE U Y e)) λd => .ret d (Dg U e||(match e with | .var i=>(match Y[i]? with|some (Aa (_,o))=>o|_=>Ac)|_=>Ac))
  |.retN => .ret .non Ac
  |.ife c a b=>O.of Y ((top Y c (evE U Y c)).bind Bq) λk=>if k=Ab then evSs U Y a else evSs U Y b
  |.fors t it body=>O.of Y (Fm U Y it) λxs=>E8 (λx Y'=>evSs U (Y'.set t (Aa (x,Ac))) body) xs Y
  |.forT ts it body=>O.of Y (Fm U Y it) λxs=>E8 (λx Y'=>O.of Y' (ED ts x Y') λY''=>evSs U Y'' body) xs Y
  |.whl c body=>KY (λY'=>(top Y' c (evE U Y' c)).bind Bq) (λY'=>evSs U Y' body) NU Y
  |.rais c as=>O.of Y (noX (evA U Y as)) λxs=>O.of Y (U.xn c xs) λx => .exn x Y
  |.tryx body c x h=>match evSs U Y body with
      | .exn y Y'=>if (U.up y.c).contains c=Ab then (match evSs U (Y'.set x (Aa (.exc y.c y.fs,Ac))) h with
          |.next Y'' => .next (Y''.set x Af)
          |.ret d f => .ret d f
          | _ => .bad) else .bad
      |o=>o
  |.try2 body c x h c' h' els=>match evSs U Y body with
      |.exn y Y'=>if (U.up y.c).contains c=Ab then hdO x y Y' (λr=>evSs U r h) else if (U.up y.c).contains c'=Ab then hdO x y Y' (λr=>evSs U r h') else .bad
      |.next Y'=>evSs U Y' els
      |o=>o
  |.app i e=>O.of Y (CY Y i) λxs=>O.of Y (evE U Y e) λd=>if B9 (xs.length+1)=Ab then .next (Y.set i (Aa (.lst (xs++[d]),Ab))) else .bad
  |.ext i e=>O.of Y (CY Y i) λxs=>O.of Y (evE U Y e) λd=>O.of Y (KO d) λys=>if B9 (xs.length+ys.length)=Ab then .next (Y.set i (Aa (.lst (xs++ys),Ab))) else .bad
  |.ins i k e=>O.of Y (CY Y i) λxs=>O.of Y ((top Y k (evE U Y k)).bind Dw) λj=>O.of Y (evE U Y e) λd=>if (B9 (xs.length+1)&&decide (0<=j)&&decide (j<=xs.length))=Ab then .next (Y.set i (Aa (.lst (xs.take j.toNat++d::xs.drop j.toNat),Ab))) else .bad
  |.rev i=>O.of Y (CY Y i) λxs => .next (Y.set i (Aa (.lst xs.reverse,Ab)))
  |.clr i=>O.of Y (CY Y i) λ_ => .next (Y.set i (Aa (.lst [],Ab)))
  |.dput i k e=>O.of Y (evE U Y e) λd=>O.of Y (N6 Y i) λxs=>O.of Y ((evE U Y k).bind NK) λj=>if B9 (xs.length+1)=Ab then .next (Y.set i (Aa (.dic (Nm xs j d),Ab))) else .bad
  |.dsd i k e=>O.of Y (N6 Y i) λxs=>O.of Y ((evE U Y k).bind NK) λj=>O.of Y (evE U Y e) λd=>if B9 (xs.length+1)=Ab then .next (Y.set i (Aa (.dic (if (xs.any λp=>p.1==j)=Ab then xs else Nm xs j d),Ab))) else .bad
  |.put i k e=>O.of Y (evE U Y e) λd=>O.of Y (CY Y i) λxs=>O.of Y ((top Y k (evE U Y k)).bind Dw) λj=>match plD xs.length j with
      |some n => .next (Y.set i (Aa (.lst (xs.set n d),Ab)))
      |none => .bad
  |.swp i k l=>O.of Y (evE U Y (.tup (.cons (.idx (.var i) (.var l)) (.cons (.idx (.var i) (.var k)) .nil)))) λd=>Yd Y d i k l
  |.apop j i e=>O.of Y (CY Y j) λys=>O.of Y (CY Y i) λxs=>O.of Y (evE U Y e) λd=>O.of Y (Dw d) λn=>apD Y j i ys xs n
  |.brk => .brk Y
  |.cont => .cont Y
  |.rel i=>match Y[i]? with
      |some (Aa (d,Ab)) => .next (Y.set i (Aa (d,Ac)))
      |_ => .next Y
noncomputable def evSs(U:Gam)(Y:Rho):Ss->O
 |.nil => .next Y
 |.cons s ss=>(evS U Y s).seq λY'=>evSs U Y' ss
end
structure Df where
 n:Ae
 fr:Aj
 body:Ss
noncomputable def CW(n:Ae)(ds:Ad D):Rho:=ds.map (λd=>Aa (d,Ac))++Dx (n-ds.length) Af
noncomputable def isL:D->Aj
 |.lst _=>Ab
 |.dic _=>Ab
 |_=>Ac
noncomputable def O.ans(fr:Aj)(o:O):R D:=match o with
  |.ret d b=>if (fr&&(!b&&isL d))=Ab then .bad else .ok d
  |.next _=>if fr=Ab then .bad else .ok .non
  |.exn x _ => .exn x
  |_ => .bad
noncomputable def Df.run(U:Gam)(f:Df)(ds:Ad D):R D:=(evSs U (CW f.n ds) f.body).ans f.fr
structure Prg where
 xs:Aj
 defs:Ae->Df
 G:Ae->D
 up:Ae->Ad Ae
 xn:Ae->Ad D->R Ex
noncomputable def EH(xs:Aj)(r:R D):R D:=match xs with
  |true=>r
  |false=>noX r
noncomputable def gam(P:Prg):Ae->Gam
 |0=>⟨λ_ _ => .bad,P.G,P.up,λi=>(P.defs i).fr,P.xn⟩
 |n+1=>⟨λi ds=>EH P.xs ((P.defs i).run (gam P n) ds),P.G,P.up,λi=>(P.defs i).fr,P.xn⟩
end Ov
end
section
namespace Ov
open PySem
variable{α β:Type}{lo hi:Ao}{n:Ae}{x:D}
section
variable(U:Gam)(Y:Rho)
@[simp]theorem Zrx:evE U Y .non = .ok .non:=rfl
@[simp]theorem Ztp(b):evE U Y (.bl b) = .ok (.bl b):=rfl
@[simp]theorem ZrC(b):evE U Y (.int b) = .ok (.int b):=rfl
@[simp]theorem UH(b):evE U Y (.str b) = .ok (.str b):=rfl
@[simp]theorem Zrv(i):evE U Y (.var i)=DH Y i:=rfl
@[simp]theorem Zog(i):evE U Y (.glob i) = .ok (U.G i):=rfl
@[simp]theorem ZrF(op a b):evE U Y (.bin op a b)=(top Y a (evE U Y a)).bind λx=>(top Y b (evE U Y b)).bind λy=>Cn op x y:=rfl
@[simp]theorem Ztl(op a):evE U Y (.un op a)=(top Y a (evE U Y a)).bind λx=>unD op x:=rfl
@[simp]theorem Zto(a):evE U Y (.no a)=(top Y a (evE U Y a)).bind λx=>(Cu x).bind λb => .ok (.bl (!b)):=rfl
@[simp]theorem ZrG(es):evE U Y (.and es)=evN U Y es:=rfl
@[simp]theorem Ztn(es):evE U Y (.or es)=evO U Y es:=rfl
@[simp]theorem Zrr(e):evN U Y (.cons e .nil)=evE U Y e:=rfl
@[simp]theorem Zn9(e e' es):evN U Y (.cons e (.cons e' es))=(evE U Y e).bind λx=>(Cu x).bind λc=>if c=Ab then evN U Y (.cons e' es) else .ok (.bl Ac):=rfl
@[simp]theorem Zrq(e):evO U Y (.cons e .nil)=evE U Y e:=rfl
@[simp]theorem Zn8(e e' es):evO U Y (.cons e (.cons e' es))=(evE U Y e).bind λx=>(Cu x).bind λc=>if c=Ab then .ok (.bl Ab) else evO U Y (.cons e' es):=rfl
@[simp]theorem UI(op a b):evE U Y (.cmp op a b)=(top Y a (evE U Y a)).bind λx=>(top Y b (evE U Y b)).bind λy=>Br op x y:=rfl
@[simp]theorem Zoj(op op' a b c):evE U Y (.cmp2 op op' a b c)=(top Y a (evE U Y a)).bind λx=>(top Y b (evE U Y b)).bind λy=>(Br op x y).bind λz=>(Cu z).bind λk=>if k=Ab then (top Y c (evE U Y c)).bind λu=>Br op' y u else .ok (.bl Ac):=rfl
@[simp]theorem ZrA(c a b):evE U Y (.ite c a b)=(top Y c (evE U Y c)).bind λx=>(Bq x).bind λk=>if k=Ab then evE U Y a else evE U Y b:=rfl
@[simp]theorem Sm(f as):evE U Y (.call f as)=(evB U Y as).bind λxs=>(U.F f xs).bind λd=>if Fl Y as=Ab then .ok d else if Em (U.fr f) d=Ab then .ok d else .bad:=rfl
@[simp]theorem VI(f as):evE U Y (.bi f as)=(evB U Y as).bind λxs=>biD f xs:=rfl
@[simp]theorem ZrB(a ks):evE U Y (.isi a ks)=(top Y a (evE U Y a)).bind λx=>CI U.up ks x:=rfl
@[simp]theorem ZrD(a i):evE U Y (.idx a i)=(top Y a (evE U Y a)).bind λx=>(top Y i (evE U Y i)).bind λy=>Ga x y:=rfl
@[simp]theorem Ztm(a lo hi):evE U Y (.sl a lo hi)=(top Y a (evE U Y a)).bind λx=>(top Y lo (evE U Y lo)).bind λl=>(slE lo l).bind λl'=>(top Y hi (evE U Y hi)).bind λh=>(slE hi h).bind λh'=>slD x l' h':=rfl
@[simp]theorem Zrw(es):evE U Y (.tup es)=(evA U Y es).bind λxs => .ok (.tup xs):=rfl
@[simp]theorem Zrz(es):evE U Y (.lst es)=(evA U Y es).bind λxs => .ok (.lst xs):=rfl
noncomputable def cG(U:Gam)(Y:Rho)(t:Ae)(c:E):D->R Aj:=λx=>(top (Y.set t (Aa (x,Ac))) c (evE U (Y.set t (Aa (x,Ac))) c)).bind Bq
noncomputable def cF(U:Gam)(Y:Rho)(t:Ae)(elt:E):D->R D:=λx=>evE U (Y.set t (Aa (x,Ac))) elt
noncomputable def mkL(r:R (Ad D)):R D:=(noX r).bind λys => .ok (.lst ys)
@[simp]theorem ZsQ(ys):mkL (.ok ys) = .ok (.lst ys):=rfl
@[simp]theorem Zoi(elt t it c):evE U Y (.comp elt t it c)=(evI U Y it).bind λxs=>mkL (CM (cG U Y t c) (cF U Y t elt) xs):=rfl
noncomputable def cGT(U:Gam)(Y:Rho)(ts:Ad Ae)(c:E):D->R Aj:=λx=>(ED ts x Y).bind λY'=>(top Y' c (evE U Y' c)).bind Bq
noncomputable def cFT(U:Gam)(Y:Rho)(ts:Ad Ae)(elt:E):D->R D:=λx=>(ED ts x Y).bind λY'=>evE U Y' elt
@[simp]theorem ZmH(elt ts it c):evE U Y (.compT elt ts it c)=(evI U Y it).bind λxs=>mkL (CM (cGT U Y ts c) (cFT U Y ts elt) xs):=rfl
@[simp]theorem Zof(it):evE U Y (.tupI it)=(evI U Y it).bind λxs => .ok (.tup xs):=rfl
@[simp]theorem Zoh:evE U Y .dnew = .ok (.dic []):=rfl
@[simp]theorem Zry(c as):evE U Y (.mkx c as)=(noX (evA U Y as)).bind λxs=>(U.xn c xs).bind λx => .ok (.exc x.c x.fs):=rfl
@[simp]theorem ZrE(o f):evE U Y (.fld o f)=(top Y o (evE U Y o)).bind λx=>HL x f:=rfl
@[simp]theorem ZrI:evA U Y .nil = .ok []:=rfl
@[simp]theorem L7(e es):evA U Y (.cons e es)=(evE U Y e).bind λx=>(evA U Y es).bind λxs => .ok (x::xs):=rfl
@[simp]theorem ZrH:evB U Y .nil = .ok []:=rfl
@[simp]theorem J6(e es):evB U Y (.cons e es)=(top Y e (evE U Y e)).bind λx=>(evB U Y es).bind λxs => .ok (x::xs):=rfl
@[simp]theorem Zuf(a):evI U Y (.e a)=(evE U Y a).bind DU:=rfl
@[simp]theorem Zrt(a):evI U Y (.rng a)=(top Y a (evE U Y a)).bind λx=>(Dw x).bind λj=>De 0 j:=rfl
@[simp]theorem Zoe(a b):evI U Y (.rng2 a b)=(top Y a (evE U Y a)).bind λx=>(top Y b (evE U Y b)).bind λy=>(Dw x).bind λi=>(Dw y).bind λj=>De i j:=rfl
@[simp]theorem Zrs(a b):evI U Y (.zip a b)=(evE U Y a).bind λx=>(evE U Y b).bind λy=>(DU x).bind λxs=>(DU y).bind λys => .ok (KR xs ys):=rfl
@[simp]theorem Zod(a b c):evI U Y (.zip3 a b c)=(evE U Y a).bind λx=>(evE U Y b).bind λy=>(evE U Y c).bind λz=>NA x y z:=rfl
@[simp]theorem Zru(a):evI U Y (.enm a)=(evE U Y a).bind λx=>(DU x).bind λxs => .ok (Le 0 xs):=rfl
@[simp]theorem Zoa(a b):Fm U Y (.zip a b)=evI U Y (.zip a b):=rfl
@[simp]theorem ZmF(a b c):Fm U Y (.zip3 a b c)=evI U Y (.zip3 a b c):=rfl
@[simp]theorem Zoc(a):Fm U Y (.enm a)=evI U Y (.enm a):=rfl
@[simp]theorem Ztk(a):Fm U Y (.e a)=(evE U Y a).bind DU:=rfl
@[simp]theorem Zob(a):Fm U Y (.rng a)=evI U Y (.rng a):=rfl
@[simp]theorem ZmG(a b):Fm U Y (.rng2 a b)=evI U Y (.rng2 a b):=rfl
variable(r:R D)
@[simp]theorem ZoP(i):top Y (.var i) r=CB Y i:=rfl
@[simp]theorem ZoR:top Y .non r=r:=rfl
@[simp]theorem Zsl(b):top Y (.bl b) r=r:=rfl
@[simp]theorem ZoW(b):top Y (.int b) r=r:=rfl
@[simp]theorem SK(b):top Y (.str b) r=r:=rfl
@[simp]theorem Zns(b):top Y (.glob b) r=r:=rfl
@[simp]theorem Zo0(op a b):top Y (.bin op a b) r=r:=rfl
@[simp]theorem Zsh(op a):top Y (.un op a) r=r:=rfl
@[simp]theorem Zsk(a):top Y (.no a) r=r:=rfl
@[simp]theorem Zo1(a):top Y (.and a) r=r:=rfl
@[simp]theorem Zsj(a):top Y (.or a) r=r:=rfl
@[simp]theorem ZoZ(op a b):top Y (.cmp op a b) r=r:=rfl
@[simp]theorem Znv(op op' a b c):top Y (.cmp2 op op' a b c) r=r:=rfl
@[simp]theorem ZoU(a b c):top Y (.ite a b c) r=r:=rfl
@[simp]theorem Znw(a b):top Y (.call a b) r=r:=rfl
@[simp]theorem Zsm(a b):top Y (.bi a b) r=r:=rfl
@[simp]theorem ZoV(a b):top Y (.isi a b) r=r:=rfl
@[simp]theorem ZoX(a b):top Y (.idx a b) r=r:=rfl
@[simp]theorem Zsi(a b c):top Y (.sl a b c) r=r:=rfl
@[simp]theorem ZoQ(a):top Y (.tup a) r=r:=rfl
@[simp]theorem ZoT(a):top Y (.lst a) r=r:=rfl
@[simp]theorem Znu(a b c d):top Y (.comp a b c d) r=r:=rfl
@[simp]theorem ZoS(a b):top Y (.mkx a b) r=r:=rfl
@[simp]theorem ZoY(a b):top Y (.fld a b) r=r:=rfl
@[simp]theorem Zk1(a b c d):top Y (.compT a b c d) r=r:=rfl
@[simp]theorem Znr(a):top Y (.tupI a) r=r:=rfl
@[simp]theorem Znt:top Y .dnew r=r:=rfl
end
@[simp]theorem ZkU(x:D × Aj)(Y:Rho):CB (Aa x::Y) 0 = .ok x.1:=rfl
@[simp]theorem ZkV(x:D)(Y:Rho):DH (Aa (x,Ac)::Y) 0 = .ok x:=rfl
@[simp]theorem ZkC(x:Sl)(Y:Rho)(i:Ae)[NeZero i]:CB (x::Y) i=CB Y (i-1):=by
 obtain⟨j,rfl⟩ : ∃ j,i=j+1:=⟨i-1,by have:=G2 i;omega⟩
 rfl
@[simp]theorem ZkD(x:Sl)(Y:Rho)(i:Ae)[NeZero i]:DH (x::Y) i=DH Y (i-1):=by
 obtain⟨j,rfl⟩ : ∃ j,i=j+1:=⟨i-1,by have:=G2 i;omega⟩
 rfl
noncomputable def shV(Y:Rho)(i:Ae):Aj:=match Y[i]? with
    |some (Aa (_,Ab))=>Ac
    |_=>Ab
@[simp]theorem Znz(x:D)(b:Aj)(Y:Rho):shV (Aa (x,b)::Y) 0 = !b:=by cases b <;> rfl
@[simp]theorem Zlm(Y:Rho):shV (Af::Y) 0=Ab:=rfl
@[simp]theorem Zln(x:Sl)(Y:Rho)(i:Ae)[NeZero i]:shV (x::Y) i=shV Y (i-1):=by
 obtain⟨j,rfl⟩ : ∃ j,i=j+1:=⟨i-1,by have:=G2 i;omega⟩
 rfl
section
variable(Y:Rho)
@[simp]theorem Zpr(i):shE Y (.var i)=shV Y i:=rfl
@[simp]theorem Zpu:shE Y .non=Ab:=rfl
@[simp]theorem ZsC(b):shE Y (.bl b)=Ab:=rfl
@[simp]theorem Zpz(b):shE Y (.int b)=Ab:=rfl
@[simp]theorem Zpt(b):shE Y (.str b)=Ab:=rfl
@[simp]theorem ZnC(b):shE Y (.glob b)=Ab:=rfl
@[simp]theorem ZpD(op a b):shE Y (.bin op a b)=Ab:=rfl
@[simp]theorem Zsy(op a):shE Y (.un op a)=Ab:=rfl
@[simp]theorem ZsB(a):shE Y (.no a)=Ab:=rfl
@[simp]theorem ZpE(a):shE Y (.and a)=Ab:=rfl
@[simp]theorem ZsA(a):shE Y (.or a)=Ab:=rfl
@[simp]theorem ZpC(op a b):shE Y (.cmp op a b)=Ab:=rfl
@[simp]theorem ZnF(op op' a b c):shE Y (.cmp2 op op' a b c)=Ab:=rfl
@[simp]theorem Zpx(a b c):shE Y (.ite a b c)=Ab:=rfl
@[simp]theorem ZnG(a b):shE Y (.call a b)=Ab:=rfl
@[simp]theorem ZsD(a b):shE Y (.bi a b)=Ab:=rfl
@[simp]theorem Zpy(a b):shE Y (.isi a b)=Ab:=rfl
@[simp]theorem ZpA(a b):shE Y (.idx a b)=Ab:=rfl
@[simp]theorem Zsz(a b c):shE Y (.sl a b c)=Ab:=rfl
@[simp]theorem Zps(a):shE Y (.tup a)=Ab:=rfl
@[simp]theorem Zpw(a):shE Y (.lst a)=Ab:=rfl
@[simp]theorem ZnE(a b c d):shE Y (.comp a b c d)=Ab:=rfl
@[simp]theorem Zlo(a b c d):shE Y (.compT a b c d)=Ab:=rfl
@[simp]theorem ZnB(a):shE Y (.tupI a)=Ab:=rfl
@[simp]theorem ZnD:shE Y .dnew=Ab:=rfl
@[simp]theorem Zpv(a b):shE Y (.mkx a b)=Ab:=rfl
@[simp]theorem ZpB(a b):shE Y (.fld a b)=Ab:=rfl
@[simp]theorem ZnA:Fl Y .nil=Ab:=rfl
@[simp]theorem Rn(e es):Fl Y (.cons e es)=(shE Y e&&Fl Y es):=rfl
end
@[simp]theorem ZkE(Y:Rho):EC [] [] Y=Aa Y:=rfl
@[simp]theorem ZiY(t ts d ds)(Y:Rho):EC (t::ts) (d::ds) Y=EC ts ds (Y.set t (Aa (d,Ac))):=rfl
@[simp]theorem Zm1(ts ds)(Y:Rho):IM ts (.lst ds) Y=match EC ts ds Y with
  |some Y' => .ok Y'
  |none => .bad:=rfl
@[simp]theorem Zm0(ts ds)(Y:Rho):IM ts (.tup ds) Y=ED ts (.tup ds) Y:=rfl
@[simp]theorem Q2(ts ds)(Y:Rho):ED ts (.tup ds) Y=match EC ts ds Y with
  |some Y' => .ok Y'
  |none => .bad:=rfl
@[simp]theorem Zot(c:Prop)[D0 c](a b:R α)(f:α->R β):(if c then a else b).bind f=if c then a.bind f else b.bind f:=by split <;> rfl
@[simp]theorem ZsO(Y:Rho)(c:Prop)[D0 c](a b:R α)(f:α->O):O.of Y (if c then a else b) f=if c then O.of Y a f else O.of Y b f:=by split <;> rfl
@[simp]theorem ZqB(Y:Rho)(a:R α)(g:α->R β)(f:β->O):O.of Y (a.bind g) f=O.of Y a λx=>O.of Y (g x) f:=by cases a <;> rfl
@[simp]theorem ZpG(c:Prop)[D0 c](a b:O)(f:Rho->O):O.seq (if c then a else b) f=if c then a.seq f else b.seq f:=by split <;> rfl
@[simp]theorem Znh(c:Prop)[D0 c](a b:O)(f:Rho->O):O.turn (if c then a else b) f=if c then a.turn f else b.turn f:=by split <;> rfl
@[simp]theorem Zr0(fr:Aj)(c:Prop)[D0 c](a b:O):O.ans fr (if c then a else b)=if c then a.ans fr else b.ans fr:=by split <;> rfl
@[simp]theorem ZnH(Y f):O.seq (.next Y) f=f Y:=rfl
@[simp]theorem ZpF(d b f):O.seq (.ret d b) f = .ret d b:=rfl
@[simp]theorem ZpI(Y f):O.seq (.brk Y) f = .brk Y:=rfl
@[simp]theorem ZnI(Y f):O.seq (.cont Y) f = .cont Y:=rfl
@[simp]theorem ZpH(x Y f):O.seq (.exn x Y) f = .exn x Y:=rfl
@[simp]theorem ZpJ(f):O.seq .bad f = .bad:=rfl
@[simp]theorem ZkY(Y f):O.turn (.next Y) f=f Y:=rfl
@[simp]theorem Zng(d b f):O.turn (.ret d b) f = .ret d b:=rfl
@[simp]theorem Znj(Y f):O.turn (.brk Y) f = .next Y:=rfl
@[simp]theorem ZkZ(Y f):O.turn (.cont Y) f=f Y:=rfl
@[simp]theorem Zni(x Y f):O.turn (.exn x Y) f = .exn x Y:=rfl
@[simp]theorem Znk(f):O.turn .bad f = .bad:=rfl
@[simp]theorem Zow(Y):O.ans Ac (.next Y) = .ok .non:=rfl
@[simp]theorem ZrZ(d b):O.ans Ac (.ret d b) = .ok d:=rfl
@[simp]theorem Zov(d b):O.ans Ab (.ret d b)=if (!b&&isL d)=Ab then .bad else .ok d:=rfl
@[simp]theorem Zq2(d):isL (.lst d)=Ab:=rfl
@[simp]theorem Zq1(d):isL (.tup d)=Ac:=rfl
@[simp]theorem Zq3(d):isL (.int d)=Ac:=rfl
@[simp]theorem Zr1(fr x Y):O.ans fr (.exn x Y) = .exn x:=rfl
@[simp]theorem Zr2(fr):O.ans fr .bad = .bad:=rfl
@[simp]theorem Ztx(i j:Ao):Cn .Add (.int i) (.int j) = .ok (.int (i+j)):=rfl
@[simp]theorem Zss(i j:Ao):Cn .Sub (.int i) (.int j) = .ok (.int (i-j)):=rfl
@[simp]theorem UW(i j:Ao):Cn .Mult (.int i) (.int j)=if (FJ i j||IL i j)=Ab then .ok (.int (i*j)) else .bad:=rfl
@[simp]theorem UE(i j:Ao):Cn .FloorDiv (.int i) (.int j)=if 0<j/\j<1073741824 then .ok (.int (i/j)) else .bad:=rfl
@[simp]theorem UX(i j:Ao):Cn .Mod (.int i) (.int j)=if 0<j then .ok (.int (i%j)) else .bad:=rfl
@[simp]theorem Va(i j:Ao):Cn .Pow (.int i) (.int j)=if (0<=j/\j<=1000000)/\(-(18446744073709551616:Ao)<i/\i<18446744073709551616) then .ok (.int (i ^ j.toNat)) else .bad:=rfl
@[simp]theorem Nw(x y:Ag):Cn .Add (.str x) (.str y)=if B9 (x.length+y.length)=Ab then .ok (.str (x++y)) else .bad:=rfl
@[simp]theorem Nx(x y:Ad D):Cn .Add (.lst x) (.lst y)=if B9 (x.length+y.length)=Ab then .ok (.lst (x++y)) else .bad:=rfl
@[simp]theorem Nv(x y:Ad D):Cn .Add (.tup x) (.tup y)=if (!x.isEmpty&&B9 (x.length+y.length))=Ab then .ok (.tup (x++y)) else .bad:=rfl
@[simp]theorem ZtW(i:Ao):unD .USub (.int i) = .ok (.int (-i)):=rfl
@[simp]theorem XG(x y:D):Br .Eq x y=if (flD 5 x&&flD 5 y)=Ab then .ok (.bl (eqD x y)) else .bad:=rfl
@[simp]theorem W5(x y:D):Br .NotEq x y=if (flD 5 x&&flD 5 y)=Ab then .ok (.bl (!eqD x y)) else .bad:=rfl
@[simp]theorem ZtX(i j:Ao):Br .Lt (.int i) (.int j) = .ok (.bl (decide (i<j))):=rfl
@[simp]theorem Zt0(i j:Ao):Br .LtE (.int i) (.int j) = .ok (.bl (decide (i<=j))):=rfl
@[simp]theorem Zua(i j:Ao):Br .Gt (.int i) (.int j) = .ok (.bl (decide (j<i))):=rfl
@[simp]theorem Zub(i j:Ao):Br .GtE (.int i) (.int j) = .ok (.bl (decide (j<=i))):=rfl
@[simp]theorem XX(x:D)(ys:Ad D):Br .In x (.lst ys)=if (flD 5 x&&ys.all (flD 5))=Ab then .ok (.bl (ys.any λy=>eqD y x)) else .bad:=rfl
@[simp]theorem XV(x:D)(ys:Ad D):Br .In x (.tup ys)=if (flD 5 x&&ys.all (flD 5))=Ab then .ok (.bl (ys.any λy=>eqD y x)) else .bad:=rfl
@[simp]theorem W4(x:D)(ys:Ad D):Br .NotIn x (.lst ys)=if (flD 5 x&&ys.all (flD 5))=Ab then .ok (.bl (!ys.any λy=>eqD y x)) else .bad:=rfl
@[simp]theorem W3(x:D)(ys:Ad D):Br .NotIn x (.tup ys)=if (flD 5 x&&ys.all (flD 5))=Ab then .ok (.bl (!ys.any λy=>eqD y x)) else .bad:=rfl
@[simp]theorem Zs4:Br .Is .non .non = .ok (.bl Ab):=rfl
@[simp]theorem Zs6(i):Br .Is (.int i) .non = .ok (.bl Ac):=rfl
@[simp]theorem Zs3(i):Br .Is (.tup i) .non = .ok (.bl Ac):=rfl
@[simp]theorem Zs5(i):Br .Is (.lst i) .non = .ok (.bl Ac):=rfl
@[simp]theorem Zt3(a b):Br .Is (.bl a) (.bl b) = .ok (.bl (a==b)):=rfl
@[simp]theorem Zs1(a b):Br .IsNot (.bl a) (.bl b) = .ok (.bl (!(a==b))):=rfl
@[simp]theorem ZqR:Br .IsNot .non .non = .ok (.bl Ac):=rfl
@[simp]theorem ZqT(i):Br .IsNot (.int i) .non = .ok (.bl Ab):=rfl
@[simp]theorem ZqQ(i):Br .IsNot (.tup i) .non = .ok (.bl Ab):=rfl
@[simp]theorem ZqS(i):Br .IsNot (.lst i) .non = .ok (.bl Ab):=rfl
@[simp]theorem ZrO(i j:Ao):eqD (.int i) (.int j)=(i==j):=rfl
@[simp]theorem Ztq(i j:Aj):eqD (.bl i) (.bl j)=(i==j):=rfl
@[simp]theorem ZrL(i j:Ag):eqD (.str i) (.str j)=(i==j):=rfl
@[simp]theorem ZrK(i j:Ad D):eqD (.tup i) (.tup j)=eqDs i j:=rfl
@[simp]theorem ZrN(i j:Ad D):eqD (.lst i) (.lst j)=eqDs i j:=rfl
@[simp]theorem ZrM:eqD .non .non=Ab:=rfl
@[simp]theorem Zkh(i):eqD .non (.int i)=Ac:=rfl
@[simp]theorem Zki(i):eqD (.int i) .non=Ac:=rfl
@[simp]theorem Zok:eqDs [] []=Ab:=rfl
@[simp]theorem JL(x y:D)(xs ys:Ad D):eqDs (x::xs) (y::ys)=(eqD x y&&eqDs xs ys):=rfl
@[simp]theorem Zrh(n)(i:Ao):flD n (.int i)=Ab:=by cases n <;> rfl
@[simp]theorem Ztj(n)(i:Aj):flD n (.bl i)=Ab:=by cases n <;> rfl
@[simp]theorem Zrf(n)(i:Ag):flD n (.str i)=Ab:=by cases n <;> rfl
@[simp]theorem Zrg(n):flD n .non=Ab:=by cases n <;> rfl
@[simp]theorem ZnO(i):flD 5 (.tup i)=i.all (flD 4):=rfl
@[simp]theorem ZnT(i):flD 5 (.lst i)=i.all (flD 4):=rfl
@[simp]theorem ZnP(i):flD 4 (.tup i)=i.all (flD 3):=rfl
@[simp]theorem ZnU(i):flD 4 (.lst i)=i.all (flD 3):=rfl
@[simp]theorem ZnQ(i):flD 3 (.tup i)=i.all (flD 2):=rfl
@[simp]theorem ZnV(i):flD 3 (.lst i)=i.all (flD 2):=rfl
@[simp]theorem ZnR(i):flD 2 (.tup i)=i.all (flD 1):=rfl
@[simp]theorem ZnW(i):flD 2 (.lst i)=i.all (flD 1):=rfl
@[simp]theorem ZnS(i):flD 1 (.tup i)=i.all (flD 0):=rfl
@[simp]theorem ZnX(i):flD 1 (.lst i)=i.all (flD 0):=rfl
@[simp]theorem ZoN(b):Bq (.bl b) = .ok b:=rfl
@[simp]theorem Zno(i):Bq (.int i) = .ok (i != 0):=rfl
@[simp]theorem Znn(i):Bq (.lst i) = .ok (!i.isEmpty):=rfl
@[simp]theorem Znl(i):Bq (.tup i) = .ok (!i.isEmpty):=rfl
@[simp]theorem Znm:Bq .non = .ok Ac:=rfl
@[simp]theorem ZoO(b):DI (.bl b) = .ok b:=rfl
@[simp]theorem Znq(i):DI (.int i) = .ok (i != 0):=rfl
@[simp]theorem Znp:DI .non = .ok Ac:=rfl
@[simp]theorem Zm8:Ek [] = .ok Ab:=rfl
@[simp]theorem Lz(x r):Ek (x::r)=(DI x).bind λb=>(Ek r).bind λc => .ok (b&&c):=rfl
@[simp]theorem Zm7:F3 [] = .ok Ac:=rfl
@[simp]theorem ZkN(x r):F3 (x::r)=(DI x).bind λb=>(F3 r).bind λc => .ok (b||c):=rfl
@[simp]theorem ZrQ(b)(d):EH b (.ok d) = .ok d:=by cases b <;> rfl
@[simp]theorem Zom(b):EH b .bad = .bad:=by cases b <;> rfl
@[simp]theorem Zol(x):EH Ab (.exn x) = .exn x:=rfl
@[simp]theorem ZkL(r):EH Ac r=noX r:=rfl
@[simp]theorem ZqC(a:α):noX (.ok a) = .ok a:=rfl
@[simp]theorem ZqE:noX (.bad:R α) = .bad:=rfl
@[simp]theorem ZqD(x):noX (.exn x:R α) = .bad:=rfl
@[simp]theorem ZrY(b):Cu (.bl b) = .ok b:=rfl
@[simp]theorem Zm6(b):Dw (.int b) = .ok b:=rfl
@[simp]theorem Zm4(b):KO (.lst b) = .ok b:=rfl
@[simp]theorem Zm3(b):DU (.lst b) = .ok b:=rfl
@[simp]theorem Zm2(b):DU (.tup b) = .ok b:=rfl
@[simp]theorem WX(xs i):Ga (.lst xs) (.int i)=CZ xs i:=rfl
@[simp]theorem WW(xs i):Ga (.tup xs) (.int i)=CZ xs i:=rfl
@[simp]theorem ZtZ(xs):biD .len [.lst xs] = .ok (.int xs.length):=rfl
@[simp]theorem ZtY(xs):biD .len [.tup xs] = .ok (.int xs.length):=rfl
@[simp]theorem Zuk(i):biD .abs [.int i] = .ok (.int (if i<0 then -i else i)):=rfl
@[simp]theorem ZsT(i j):biD .max [.int i,.int j] = .ok (.int (if i<j then j else i)):=rfl
@[simp]theorem ZsR(i j):biD .min [.int i,.int j] = .ok (.int (if j<i then j else i)):=rfl
@[simp]theorem Zt5(i):biD .int [.int i] = .ok (.int i):=rfl
@[simp]theorem Zt6(i):biD .int [.bl i] = .ok (.int (b2i i)):=rfl
@[simp]theorem ZsY(i):biD .list [.lst i] = .ok (.lst i):=rfl
@[simp]theorem ZsX(i):biD .list [.tup i] = .ok (.lst i):=rfl
@[simp]theorem ZoM(i):biD .tuple [.lst i] = .ok (.tup i):=rfl
@[simp]theorem ZoL(i):biD .tuple [.tup i] = .ok (.tup i):=rfl
@[simp]theorem XD(i):biD .all [.lst i]=(Ek i).bind λb => .ok (.bl b):=rfl
@[simp]theorem Zuj(i):biD .any [.lst i]=(F3 i).bind λb => .ok (.bl b):=rfl
@[simp]theorem Zui(i):biD .any [.tup i]=(F3 i).bind λb => .ok (.bl b):=rfl
@[simp]theorem ZtQ(i):biD .sum [.lst i]=(HJ 0 i).bind λb => .ok (.int b):=rfl
@[simp]theorem ZtP(i):biD .sum [.tup i]=(HJ 0 i).bind λb => .ok (.int b):=rfl
@[simp]theorem Znx(i):biD .sorted [.lst i]=(MK i).bind λb => .ok (.lst b):=rfl
@[simp]theorem ZtR(xs k):biD .stp [.lst xs,.int k] = .ok (.lst (Os k.toNat xs)):=rfl
@[simp]theorem ZtT(xs):biD .rvs [.lst xs] = .ok (.lst xs.reverse):=rfl
@[simp]theorem ZsV(xs):biD .lset [.lst xs]=NN xs:=rfl
@[simp]theorem Zsn(x y):biD .tmin [x,y]=mmD Ac x y:=rfl
@[simp]theorem ZtD(x y):biD .tlt [x,y]=On x y:=rfl
@[simp]theorem Zso(x y):biD .tmax [x,y]=mmD Ab x y:=rfl
@[simp]theorem ZrR(xs x):biD .count [.lst xs,x]=if (flD 5 x&&xs.all (flD 5))=Ab then .ok (.int ((xs.filter λy=>eqD y x).length:Ae)) else .bad:=rfl
@[simp]theorem Zus(xs lo hi):slD (.tup xs) lo hi=if (Gu xs.length 0 lo==0&&Gu xs.length xs.length hi==xs.length)=Ab then .bad else .ok (.tup (Jc xs lo hi)):=rfl
@[simp]theorem Zut(xs lo hi):slD (.lst xs) lo hi = .ok (.lst (Jc xs lo hi)):=rfl
@[simp]theorem Zpm(d):slE .non d = .ok Af:=rfl
@[simp]theorem Zpn(k i):slE (.int k) (.int i) = .ok (Aa i):=rfl
@[simp]theorem Zpl(k i):slE (.var k) (.int i) = .ok (Aa i):=rfl
@[simp]theorem Zpo(op a b i):slE (.bin op a b) (.int i) = .ok (Aa i):=rfl
@[simp]theorem Zsv(op a i):slE (.un op a) (.int i) = .ok (Aa i):=rfl
@[simp]theorem Zsw(b as i):slE (.bi b as) (.int i) = .ok (Aa i):=rfl
@[simp]theorem ZqW(up ks):CI up ks .non=if ks.any CJ=Ab then .bad else .ok (.bl (ks.any λk=>kiD up k .non)):=rfl
@[simp]theorem Zs2(up ks b):CI up ks (.bl b)=if ks.any CJ=Ab then .bad else .ok (.bl (ks.any λk=>kiD up k (.bl b))):=rfl
@[simp]theorem ZqY(up ks b):CI up ks (.int b)=if ks.any CJ=Ab then .bad else .ok (.bl (ks.any λk=>kiD up k (.int b))):=rfl
@[simp]theorem ZqV(up ks b):CI up ks (.str b)=if ks.any CJ=Ab then .bad else .ok (.bl (ks.any λk=>kiD up k (.str b))):=rfl
@[simp]theorem ZqU(up ks b):CI up ks (.tup b)=if ks.any CJ=Ab then .bad else .ok (.bl (ks.any λk=>kiD up k (.tup b))):=rfl
@[simp]theorem ZqX(up ks b):CI up ks (.lst b)=if ks.any CJ=Ab then .bad else .ok (.bl (ks.any λk=>kiD up k (.lst b))):=rfl
@[simp]theorem ZqZ(up ks c f):CI up ks (.exc c f)=if ks.all CJ=Ab then .ok (.bl (ks.any λk=>kiD up k (.exc c f))) else .bad:=rfl
@[simp]theorem Zoq(c):CJ (.cls c)=Ab:=rfl
@[simp]theorem ZmL:CJ .verr=Ab:=rfl
@[simp]theorem Zop:CJ .int=Ac:=rfl
@[simp]theorem ZmN:CJ .bool=Ac:=rfl
@[simp]theorem Zoo:CJ .str=Ac:=rfl
@[simp]theorem ZmM:CJ .list=Ac:=rfl
@[simp]theorem ZkM:CJ .tuple=Ac:=rfl
@[simp]theorem ZkI(up i):kiD up .int (.int i)=Ab:=rfl
@[simp]theorem ZkH(up):kiD up .int .non=Ac:=rfl
@[simp]theorem Zj0(up i):kiD up .bool (.int i)=Ac:=rfl
@[simp]theorem ZkG(up i):kiD up .int (.tup i)=Ac:=rfl
@[simp]theorem ZkK(up i):kiD up .bool (.bl i)=Ab:=rfl
@[simp]theorem ZjZ(up):kiD up .bool .non=Ac:=rfl
@[simp]theorem ZjY(up i):kiD up .list (.lst i)=Ab:=rfl
@[simp]theorem Zh1(up i):kiD up .tuple (.tup i)=Ab:=rfl
@[simp]theorem Zh2(up):kiD up .tuple .non=Ac:=rfl
@[simp]theorem ZkJ(up c k f):kiD up (.cls c) (.exc k f)=(up k).contains c:=rfl
@[simp]theorem ZjX(up k f):kiD up .verr (.exc k f)=Ab:=rfl
theorem JA{xs:Ad D}{i:Ao}{d:D}(h0:0<=i)(h:xs[i.toNat]? = Aa d):CZ xs i = .ok d:=by
 unfold CZ plD;obtain⟨h1,_⟩:=A2.mp h;rw[AY h0,AY (by omega)]
 dsimp only;rw[h]
section
variable(U:Gam)(Y:Rho)
@[simp]theorem ZnY:evSs U Y .nil = .next Y:=rfl
noncomputable def E7(U:Gam)(ss:Ss)(o:O):O:=o.seq λY'=>evSs U Y' ss
@[simp]theorem ZmE(s ss):evSs U Y (.cons s ss)=E7 U ss (evS U Y s):=rfl
@[simp]theorem Zra(ss):E7 U ss (.next Y)=evSs U Y ss:=rfl
@[simp]theorem Zta(ss d b):E7 U ss (.ret d b) = .ret d b:=rfl
@[simp]theorem Zte(ss):E7 U ss (.brk Y) = .brk Y:=rfl
@[simp]theorem Zrb(ss):E7 U ss (.cont Y) = .cont Y:=rfl
@[simp]theorem Ztd(ss x):E7 U ss (.exn x Y) = .exn x Y:=rfl
@[simp]theorem Ztf(ss):E7 U ss .bad = .bad:=rfl
@[simp]theorem Ztc(ss)(c:Prop)[D0 c](a b:O):E7 U ss (if c then a else b)=if c then E7 U ss a else E7 U ss b:=by split <;> rfl
@[simp]theorem Ztb(o:O):E7 U .nil o=o:=by cases o <;> rfl
noncomputable def Oz(U:Gam)(t:Ae)(body:Ss):D->Rho->O:=λx Y'=>evSs U (Y'.set t (Aa (x,Ac))) body
noncomputable def whC(U:Gam)(c:E):Rho->R Aj:=λY'=>(top Y' c (evE U Y' c)).bind Bq
noncomputable def whB(U:Gam)(body:Ss):Rho->O:=λY'=>evSs U Y' body
noncomputable def Oy(U:Gam)(t:Ae)(body:Ss)(Y:Rho)(r:R (Ad D)):O:=O.of Y r λxs=>E8 (Oz U t body) xs Y
@[simp]theorem Zre(t body xs):Oy U t body Y (.ok xs)=E8 (Oz U t body) xs Y:=rfl
@[simp]theorem Zn2:evS U Y .pass = .next Y:=rfl
@[simp]theorem Zro(i e):evS U Y (.asg i Ac e)=O.of Y (evE U Y e) λd => .next (Y.set i (Aa (d,Ac))):=rfl
@[simp]theorem Zn5(e):evS U Y (.expr e)=O.of Y (evE U Y e) λ_ => .next Y:=rfl
@[simp]theorem UG(e):evS U Y (.ret e)=O.of Y (top Y e (evE U Y e)) λd => .ret d (Dg U e||(match e with | .var i=>(match Y[i]? with|some (Aa (_,o))=>o|_=>Ac)|_=>Ac)):=rfl
@[simp]theorem Zn0:evS U Y .retN = .ret .non Ac:=rfl
@[simp]theorem Zrk(c a b):evS U Y (.ife c a b)=O.of Y ((top Y c (evE U Y c)).bind Bq) λk=>if k=Ab then evSs U Y a else evSs U Y b:=rfl
@[simp]theorem Zn3(t it body):evS U Y (.fors t it body)=Oy U t body Y (Fm U Y it):=rfl
noncomputable def NW(U:Gam)(ts:Ad Ae)(body:Ss):D->Rho->O:=λx Y'=>O.of Y' (ED ts x Y') λY''=>evSs U Y'' body
noncomputable def NV(U:Gam)(ts:Ad Ae)(body:Ss)(Y:Rho)(r:R (Ad D)):O:=O.of Y r λxs=>E8 (NW U ts body) xs Y
@[simp]theorem ZnN(t body xs):NV U t body Y (.ok xs)=E8 (NW U t body) xs Y:=rfl
@[simp]theorem Zn4(t it body):evS U Y (.forT t it body)=NV U t body Y (Fm U Y it):=rfl
@[simp]theorem Zn7(ts e):evS U Y (.asgT ts e)=O.of Y (evE U Y e) λd=>O.of Y (IM ts d Y) λY' => .next Y':=rfl
theorem Sk(i e):evS U Y (.asg i Ab e)=O.of Y (evE U Y e) λd=>if Dg U e=Ab then (match d with
      |.lst xs => .next (Y.set i (Aa (.lst xs,Ab)))
      |.dic xs => .next (Y.set i (Aa (.dic xs,Ab)))
      | _ => .bad) else .bad:=rfl
noncomputable def setF(Y:Rho)(i:Ae):D->O
 |.lst xs => .next (Y.set i (Aa (.lst xs,Ab)))
 |.dic xs => .next (Y.set i (Aa (.dic xs,Ab)))
 |_ => .bad
@[simp]theorem ZsE(i xs):setF Y i (.lst xs) = .next (Y.set i (Aa (.lst xs,Ab))):=rfl
@[simp]theorem ZsF(i xs):setF Y i (.dic xs) = .next (Y.set i (Aa (.dic xs,Ab))):=rfl
@[simp]theorem Q9(i e):evS U Y (.asg i Ab e)=O.of Y (evE U Y e) λd=>if Dg U e=Ab then setF Y i d else .bad:=by
 rw[Sk]
 congr 1
@[simp]theorem Zrp(i e):evS U Y (.app i e)=O.of Y (CY Y i) λxs=>O.of Y (evE U Y e) λd=>if B9 (xs.length+1)=Ab then .next (Y.set i (Aa (.lst (xs++[d]),Ab))) else .bad:=rfl
@[simp]theorem Zrl(i e):evS U Y (.ext i e)=O.of Y (CY Y i) λxs=>O.of Y (evE U Y e) λd=>O.of Y (KO d) λys=>if B9 (xs.length+ys.length)=Ab then .next (Y.set i (Aa (.lst (xs++ys),Ab))) else .bad:=rfl
@[simp]theorem Zrj(i):evS U Y (.rev i)=O.of Y (CY Y i) λxs => .next (Y.set i (Aa (.lst xs.reverse,Ab))):=rfl
@[simp]theorem Zrm(i):evS U Y (.clr i)=O.of Y (CY Y i) λ_ => .next (Y.set i (Aa (.lst [],Ab))):=rfl
@[simp]theorem Sj(body c x h):evS U Y (.tryx body c x h)=match evSs U Y body with
      | .exn y Y'=>if (U.up y.c).contains c=Ab then (match evSs U (Y'.set x (Aa (.exc y.c y.fs,Ac))) h with
          |.next Y'' => .next (Y''.set x Af)
          |.ret d f => .ret d f
          | _ => .bad) else .bad
      |o=>o:=rfl
@[simp]theorem ZnZ(body c x h c' h' els):evS U Y (.try2 body c x h c' h' els)=match evSs U Y body with
      |.exn y Y'=>if (U.up y.c).contains c=Ab then hdO x y Y' (λr=>evSs U r h) else if (U.up y.c).contains c'=Ab then hdO x y Y' (λr=>evSs U r h') else .bad
      |.next Y'=>evSs U Y' els
      |o=>o:=rfl
@[simp]theorem Zri(c body):evS U Y (.whl c body)=KY (whC U c) (whB U body) NU Y:=rfl
@[simp]theorem Zn1(c as):evS U Y (.rais c as)=O.of Y (noX (evA U Y as)) λxs=>O.of Y (U.xn c xs) λx => .exn x Y:=rfl
@[simp]theorem Zrn:evS U Y .brk = .brk Y:=rfl
@[simp]theorem Zn6:evS U Y .cont = .cont Y:=rfl
end
end Ov
namespace Ov
open PySem
theorem Ra(h1:0<=lo)(h2:lo<1000000)(h3:0<=hi)(h4:hi<1000000):De lo hi = .ok (DX lo (hi-lo).toNat):=by
 unfold De;rw[AY (by omega)]
theorem JH(h3:0<=hi)(h4:hi<1000000):De 0 hi = .ok (DX 0 hi.toNat):=by
 rw[Ra (by omega) (by omega) h3 h4,OM]
theorem Mn(h:x∈DX lo n) : ∃ k:Ae,k<n/\x = .int (lo+(k:Ao)):=by
 obtain⟨k,hk,e⟩:=List.mem_map.mp h;exact⟨k,List.mem_range.mp hk,e.symm⟩
theorem HV(lo:Ao)(n:Ae):(DX lo n).length=n:=by simp[DX]
theorem Sf{i:Ae}(h:(DX lo n)[i]? = Aa x):i<n/\x = .int (lo+(i:Ao)):=by
 have hl:=(A2.mp h).1;rw[HV]at hl;unfold DX at h;rw[CT,List.getElem?_range hl]at h;cases h;exact⟨hl,rfl⟩
noncomputable def Ss.take:Ae->Ss->Ss
 |0,_ => .nil
 |_,.nil => .nil
 |n+1,.cons s ss => .cons s (ss.take n)
noncomputable def Ss.drop:Ae->Ss->Ss
 |0,ss=>ss
 |_,.nil => .nil
 |n+1,.cons _ ss=>ss.drop n
end Ov
end
section
namespace Ov
noncomputable def xfD:Ae->D->Aj
 |0,.int i=>decide (0<=i)&&decide (i<100)
 |n+1,.tup ds=>Ck ds.length 8&&ds.all (xfD n)
 |_,_=>Ac
noncomputable def mkX(c:Ae)(f:Ag):Ad D->R Ex
 |[d]=>if (xfD 1 d||xfD 2 d)=Ab then .ok ⟨c,[(f,d)]⟩ else .bad
 |_ => .bad
noncomputable def mkI(c:Ae)(f:Ag):Ad D->R Ex
 |[d]=>if xfD 0 d=Ab then .ok ⟨c,[(f,d)]⟩ else .bad
 |_ => .bad
noncomputable def mkA(c:Ae)(f:Ag):Ad D->R Ex
 |[d]=>if (xfD 0 d||(xfD 1 d||xfD 2 d))=Ab then .ok ⟨c,[(f,d)]⟩ else .bad
 |_ => .bad
end Ov
end
section
namespace OvC
open PySem Ov PyProof.Rows
variable{j:Ao}{U:Gam}
noncomputable abbrev scr(ns:Ad Ao):D := .lst (ns.map .int)
noncomputable abbrev sh(d:D):Sl:=Aa (d,Ac)
noncomputable abbrev si(i:Ao):Sl:=Aa (.int i,Ac)
noncomputable def IK(ns:Ad Ao)(k:Ao):Ao:=if ns=[] then 0 else ns.getD (k%ns.length).toNat 0
noncomputable def E9(ns:Ad Ao)(k:Ao):Ao:=(IK ns k%1000003+7919*k+11)*48271%1000033
noncomputable def Iq(ns:Ad Ao)(k:Ao):Ao:=[3,5,7,11].getD (E9 ns k/16%4).toNat 0
theorem Ox{P:Ae->Prop}(h0:P 0)(h1:P 1)(h2:P 2)(h3:P 3):P (j%4).toNat:=by
 have:(j%4).toNat=0\/(j%4).toNat=1\/(j%4).toNat=2\/(j%4).toNat=3:=by omega
 rcases this with e|e|e|e <;> rw[e] <;> assumption
noncomputable def P4(p:Ao):Prop:=p=3\/p=5\/p=7\/p=11
noncomputable def pr4(j:Ao):Ao:=[3,5,7,11].getD (j%4).toNat 0
theorem U_8(j):P4 (pr4 j):=by
 unfold pr4;exact Ox (P:=λj=>P4 ([3,5,7,11].getD j 0)) (.inl rfl) (.inr (.inl rfl)) (.inr (.inr (.inl rfl))) (.inr (.inr (.inr rfl)))
theorem RF(ns k):P4 (Iq ns k):=U_8 _
theorem P4.pos{p}(h:P4 p):0<p:=by rcases h with rfl|rfl|rfl|rfl <;> decide
theorem P4.lo{p}(h:P4 p):3<=p:=by rcases h with rfl|rfl|rfl|rfl <;> decide
theorem P4.hi{p}(h:P4 p):p<=11:=by rcases h with rfl|rfl|rfl|rfl <;> decide
theorem Sg(j:Ao):CZ [.int 3,.int 5,.int 7,.int 11] (j%4) = .ok (.int (pr4 j)):=by
 have h:=Ox (P:=λj=>[D.int 3,D.int 5,D.int 7,D.int 11][j]? = Aa (D.int ([3,5,7,11].getD j 0))) (j:=j) rfl rfl rfl rfl
 exact JA (by omega) h
theorem TL{i:Ao}(h0 : -18446744073709551616<i)(h1:i<18446744073709551616):FJ i j=Ab:=by simp[FJ];left;exact⟨h0,h1⟩
noncomputable def Jm:Df:=⟨2,Ac,(.cons (.ife (.cmp .Eq (.bi .len (.cons (.var 0) .nil)) (.int 0)) (.cons (.ret (.int 0)) .nil) .nil) (.cons (.ret (.idx (.var 0) (.bin .Mod (.var 1) (.bi .len (.cons (.var 0) .nil))))) .nil))⟩
noncomputable def Ny(U:Gam):Prop := ∀(ns:Ad Ao)(k:Ao),U.F 2 [scr ns,.int k] = .ok (.int (IK ns k))
theorem U_3(U:Gam)(ns:Ad Ao)(k:Ao):Jm.run U [scr ns,.int k] = .ok (.int (IK ns k)):=by
 simp[Jm,Df.run,CW,IK];by_cases h:ns=[]
 .simp[h]
 .have hn:=List.length_pos_iff.mpr h;have hl:0<(ns.length:Ao):=by omega
  have h1:=D3 k (Int.ne_of_gt hl);have h2:=Do k hl;have h3:(k%ns.length).toNat<ns.length:=by omega
  simp[h,hn,JA (xs:=ns.map .int) (d := .int (ns.getD (k%ns.length).toNat 0)) h1 (by simp[h3])]
noncomputable def Ju:Df:=⟨2,Ac,(.cons (.ret (.bin .Mod (.bin .Mult (.bin .Add (.bin .Add (.bin .Mod (.call 2 (.cons (.var 0) (.cons (.var 1) .nil))) (.int 1000003)) (.bin .Mult (.int 7919) (.var 1))) (.int 11)) (.int 48271)) (.int 1000033))) .nil)⟩
noncomputable def JX(U:Gam):Prop := ∀(ns:Ad Ao)(k:Ao),U.F 3 [scr ns,.int k] = .ok (.int (E9 ns k))
theorem TY(h2:Ny U)(ns:Ad Ao)(k:Ao):Ju.run U [scr ns,.int k] = .ok (.int (E9 ns k)):=by
 simp[Ju,Df.run,CW,h2 ns k,FJ,E9]
noncomputable def Js:Df:=⟨2,Ac,(.cons (.ret (.idx (.lst (.cons (.int 3) (.cons (.int 5) (.cons (.int 7) (.cons (.int 11) .nil))))) (.bin .Mod (.bin .FloorDiv (.call 3 (.cons (.var 0) (.cons (.var 1) .nil))) (.int 16)) (.int 4)))) .nil)⟩
noncomputable def MV(U:Gam):Prop := ∀(ns:Ad Ao)(k:Ao),U.F 4 [scr ns,.int k] = .ok (.int (Iq ns k))
theorem TW(h:JX U)(ns:Ad Ao)(k:Ao):Js.run U [scr ns,.int k] = .ok (.int (Iq ns k)):=by
 simp[Js,Df.run,CW,h ns k,Sg];rfl
end OvC
end
namespace Ov
open PySem PySem.Spec PyProof.Rows L2
variable{A B:Ai->Prop}{H H' H1 H0:Hp}{p a b l q:Ai}{xs:Ad V}{v:V}{d:D}{Rp Rq:Hp->V->D->Prop}{r:R D}{Q:VK}{X:Cx}{e c tg iter elt:Ak}{t t' tt:TT}{Y:Rho}{i n j:Ae}{x:Ex}{Z:L2.St}{g:D->D->R D}{op:Cd}{K:Fg}{ds:Ad D}{pI:Ad (Ai × AD)}{s:Am}{its its2 ys:Ad Ah}{items2:Ba Ah}{h h':Ay}{u:Ah}{Bg es ifs:Ad Ak}{fs fi:Rho->R (Ad D)}{Q':An Ao->Hp->Prop}{T:B6}{f fc:Rho->R Aj}{α:Type}{Fz:Ai->HO->Prop}{D':Ends}{pos' pos pos2:Az}{lo hi:Ao}{as:D->Rho->R Rho}{k:Ki}{up:Ae->Ad Ae}{scope:Bw}{env:BE}{cl:Ad (Ag × Ai)}{N':Ad Ag}{ts:Ad Ae}{fp:Ad Ai}{te:TE}{J:It}{wi:TI}
noncomputable abbrev ClA:=Ae->An Ai
variable{CL:ClA}
noncomputable def KL(K:Fg)(a:Ai)(xs:Ad V):Prop := ∃(o:AD)(its:Ba Ah)(n:Ae),K.lookup a=Aa o/\o.cls = .type "list" /\ o.dict=Af/\o.data = .seq its n/\its.size<=sizeLine/\AS xs its.toList
noncomputable def KT(K:Fg)(a:Ai)(xs:Ad V):Prop := ∃(o:AD)(its:Ba Ah)(n:Ae),K.lookup a=Aa o/\o.cls = .type "tuple" /\ o.data = .seq its n/\its.size<=sizeLine/\AS xs its.toList
section
variable(K:Fg)(CL:ClA)(H:Hp)(A:Ai->Prop)
mutual
def Rep:V->D->Prop
 |v,.non=>v = .non
 |v,.bl b=>v = .bl b
 |v,.int i=>v = .int i
 |v,.str x=>v = .str x
 |v,.tup ds => ∃ a xs,v = .ref a/\(¬ A a\/KT K a xs)/\SqT K H a xs/\Reps xs ds
 |v,.lst ds => ∃ a xs,v = .ref a/\(¬ A a\/KL K a xs)/\SqL K H a xs/\Reps xs ds
 |v,.obj c fs => ∃ a C dx vs,v = .ref a /\ ¬ A a/\CL c=Aa C/\H a=Aa (.ins C dx vs)/\Repf vs fs
 |_,.dic _=>AT
 |v,.exc c fs => ∃ a C φ,v = .ref a /\ ¬ A a/\CL c=Aa C/\H a=Aa (.ext φ)/\(∀ h,φ h -> ∃ o,h.get? a=Aa o/\o.cls = .ref C)/\(fs=[] \/ ∃ dx vs,¬ A dx/\H dx=Aa (.xd vs)/\Repf vs fs /\ ∀ h,φ h -> ∃ o,h.get? a=Aa o/\o.dict=Aa dx /\ ∃ us,o.data = .fields us)
def Reps:Ad V->Ad D->Prop
 |[],[]=>E1
 |v::vs,d::ds=>Rep v d/\Reps vs ds
 |_,_=>AT
def Repf:Ad (Ag × V)->Ad (Ag × D)->Prop
 |[],[]=>E1
 |v::vs,d::ds=>Repp v d/\Repf vs ds
 |_,_=>AT
def Repp:Ag × V->Ag × D->Prop
 |v,(n,d)=>v.1=n/\Rep v.2 d
end
noncomputable def BZ(v:V)(d:D):Prop:=Rep K CL H A v d \/ ∃ a xs ds,v = .ref a/\d = .lst ds/\H a=Aa (.lst xs)/\Reps K CL H A xs ds
end
noncomputable def Kp(A:Ai->Prop)(H H':Hp):Prop := ∀ b o,H b=Aa o -> ¬ A b->H' b=Aa o
noncomputable def AOk(H:Hp)(A:Ai->Prop):Prop := ∀ a,A a -> ∃ xs,H a=Aa (.lst xs)
theorem Kp.of(h:Av H H'):Kp A H H':=λb o e _=>h b o e
theorem AOk.same(h:AOk H A)(s:Av H H'):AOk H' A:=λa ha=>let ⟨xs,e⟩:=h a ha;⟨xs,s _ _ e⟩
theorem AOk.new(h:AOk H A)(e:H p=Af) : ¬ A p:=λha=>by
 obtain⟨xs,q⟩:=h p ha;rw[e]at q;cases q
section
variable{K:Fg}{CL:ClA}{H H':Hp}{A B:Ai->Prop}
theorem NG{u:HO}(k:Kp A H H')(na : ¬ A a)(h:Rd H a u):Rd H' a u:=by
 rcases h with h|⟨o,h⟩
 .exact .inl (k _ _ h na)
 .exact .inr ⟨o,k _ _ h na⟩
theorem Kg(k:Kp A H H')(na : ¬ A a\/KL K a xs)(h:SqL K H a xs):SqL K H' a xs:=na.elim (λna=>h.imp (NG k na) id) .inr
theorem Kf(k:Kp A H H')(na : ¬ A a\/KT K a xs)(h:SqT K H a xs):SqT K H' a xs:=na.elim (λna=>h.imp (NG k na) id) .inr
mutual
theorem Rep.kp(k:Kp A H H') : ∀{v:V}(d:D),Rep K CL H A v d->Rep K CL H' A v d
 |_,.non,h=>h
 |_,.bl _,h=>h
 |_,.int _,h=>h
 |_,.str _,h=>h
 |_,.dic _,h=>h.elim
 |_,.tup ds,h=>by
  obtain⟨a,xs,e,na,s,r⟩:=h;exact⟨a,xs,e,na,by first|exact Kf k na s|exact Kg k na s,Reps.kp k ds r⟩
 |_,.lst ds,h=>by
  obtain⟨a,xs,e,na,s,r⟩:=h;exact⟨a,xs,e,na,by first|exact Kf k na s|exact Kg k na s,Reps.kp k ds r⟩
 |_,.obj c fs,h=>by
  obtain⟨a,C,dx,vs,e,na,c,s,r⟩:=h;exact⟨a,C,dx,vs,e,na,c,k _ _ s na,Repf.kp k fs r⟩
 |_,.exc c fs,h=>by
  obtain⟨a,C,φ,e,na,c,s,p,q⟩:=h;refine⟨a,C,φ,e,na,c,k _ _ s na,p,q.imp id ?_⟩;rintro⟨dx,vs,nx,s2,r,z⟩;exact⟨dx,vs,nx,k _ _ s2 nx,Repf.kp k fs r,z⟩
theorem Reps.kp(k:Kp A H H') : ∀{vs:Ad V}(ds:Ad D),Reps K CL H A vs ds->Reps K CL H' A vs ds
 |[],[],h=>h
 |_::_,d::ds,h=>⟨Rep.kp k d h.1,Reps.kp k ds h.2⟩
 |[],_::_,h=>h.elim
 |_::_,[],h=>h.elim
theorem Repf.kp(k:Kp A H H') : ∀{vs:Ad (Ag × V)}(ds:Ad (Ag × D)),Repf K CL H A vs ds->Repf K CL H' A vs ds
 |[],[],h=>h
 |_::_,d::ds,h=>⟨Repp.kp k d h.1,Repf.kp k ds h.2⟩
 |[],_::_,h=>h.elim
 |_::_,[],h=>h.elim
theorem Repp.kp(k:Kp A H H') : ∀{v:Ag × V}(d:Ag × D),Repp K CL H A v d->Repp K CL H' A v d
 |_,(_,d),h=>⟨h.1,Rep.kp k d h.2⟩
end
mutual
theorem Rep.sub(k : ∀ a,B a->A a) : ∀{v:V}(d:D),Rep K CL H A v d->Rep K CL H B v d
 |_,.non,h=>h
 |_,.bl _,h=>h
 |_,.int _,h=>h
 |_,.str _,h=>h
 |_,.dic _,h=>h.elim
 |_,.tup ds,h=>by
  obtain⟨a,xs,e,na,s,r⟩:=h;exact⟨a,xs,e,na.imp (λna z=>na (k _ z)) id,s,Reps.sub k ds r⟩
 |_,.lst ds,h=>by
  obtain⟨a,xs,e,na,s,r⟩:=h;exact⟨a,xs,e,na.imp (λna z=>na (k _ z)) id,s,Reps.sub k ds r⟩
 |_,.obj c fs,h=>by
  obtain⟨a,C,dx,vs,e,na,c,s,r⟩:=h;exact⟨a,C,dx,vs,e,λz=>na (k _ z),c,s,Repf.sub k fs r⟩
 |_,.exc c fs,h=>by
  obtain⟨a,C,φ,e,na,c,s,p,q⟩:=h;refine⟨a,C,φ,e,λz=>na (k _ z),c,s,p,q.imp id ?_⟩
  rintro⟨dx,vs,nx,s2,r,z⟩;exact⟨dx,vs,λz=>nx (k _ z),s2,Repf.sub k fs r,z⟩
theorem Reps.sub(k : ∀ a,B a->A a) : ∀{vs:Ad V}(ds:Ad D),Reps K CL H A vs ds->Reps K CL H B vs ds
 |[],[],h=>h
 |_::_,d::ds,h=>⟨Rep.sub k d h.1,Reps.sub k ds h.2⟩
 |[],_::_,h=>h.elim
 |_::_,[],h=>h.elim
theorem Repf.sub(k : ∀ a,B a->A a) : ∀{vs:Ad (Ag × V)}(ds:Ad (Ag × D)),Repf K CL H A vs ds->Repf K CL H B vs ds
 |[],[],h=>h
 |_::_,d::ds,h=>⟨Repp.sub k d h.1,Repf.sub k ds h.2⟩
 |[],_::_,h=>h.elim
 |_::_,[],h=>h.elim
theorem Repp.sub(k : ∀ a,B a->A a) : ∀{v:Ag × V}(d:Ag × D),Repp K CL H A v d->Repp K CL H B v d
 |_,(_,d),h=>⟨h.1,Rep.sub k d h.2⟩
end
mutual
theorem Rep.wide(hp : ∀ a,B a->A a\/H a=Af) : ∀{v:V}(d:D),Rep K CL H A v d->Rep K CL H B v d
 |_,.non,h=>h
 |_,.bl _,h=>h
 |_,.int _,h=>h
 |_,.str _,h=>h
 |_,.dic _,h=>h.elim
 |_,.tup ds,h=>by
  obtain⟨a,xs,e,na,s,r⟩:=h;refine⟨a,xs,e,?_,s,Reps.wide hp ds r⟩;rcases s with s|s
  .refine na.imp (λna z=>(hp _ z).elim na λe => ?_) id
   rcases s with s|⟨o,s⟩ <;> rw[e]at s <;> cases s
  .exact .inr s
 |_,.lst ds,h=>by
  obtain⟨a,xs,e,na,s,r⟩:=h;refine⟨a,xs,e,?_,s,Reps.wide hp ds r⟩;rcases s with s|s
  .refine na.imp (λna z=>(hp _ z).elim na λe => ?_) id
   rcases s with s|⟨o,s⟩ <;> rw[e]at s <;> cases s
  .exact .inr s
 |_,.obj c fs,h=>by
  obtain⟨a,C,dx,vs,e,na,c,s,r⟩:=h;exact⟨a,C,dx,vs,e,(λz=>(hp _ z).elim na λe=>by rw[e]at s;cases s),c,s,Repf.wide hp fs r⟩
 |_,.exc c fs,h=>by
  obtain⟨a,C,φ,e,na,c,s,p,q⟩:=h;refine⟨a,C,φ,e,(λz=>(hp _ z).elim na λe=>by rw[e]at s;cases s),c,s,p,q.imp id ?_⟩
  rintro⟨dx,vs,nx,s2,r,z⟩;exact⟨dx,vs,(λz=>(hp _ z).elim nx λe=>by rw[e]at s2;cases s2),s2,Repf.wide hp fs r,z⟩
theorem Reps.wide(hp : ∀ a,B a->A a\/H a=Af) : ∀{vs:Ad V}(ds:Ad D),Reps K CL H A vs ds->Reps K CL H B vs ds
 |[],[],h=>h
 |_::_,d::ds,h=>⟨Rep.wide hp d h.1,Reps.wide hp ds h.2⟩
 |[],_::_,h=>h.elim
 |_::_,[],h=>h.elim
theorem Repf.wide(hp : ∀ a,B a->A a\/H a=Af) : ∀{vs:Ad (Ag × V)}(ds:Ad (Ag × D)),Repf K CL H A vs ds->Repf K CL H B vs ds
 |[],[],h=>h
 |_::_,d::ds,h=>⟨Repp.wide hp d h.1,Repf.wide hp ds h.2⟩
 |[],_::_,h=>h.elim
 |_::_,[],h=>h.elim
theorem Repp.wide(hp : ∀ a,B a->A a\/H a=Af) : ∀{v:Ag × V}(d:Ag × D),Repp K CL H A v d->Repp K CL H B v d
 |_,(_,d),h=>⟨h.1,Rep.wide hp d h.2⟩
end
theorem Rep.same(s:Av H H')(h:Rep K CL H A v d):Rep K CL H' A v d:=Rep.kp (Kp.of s) d h
theorem Reps.same{v:Ad V}{d:Ad D}(s:Av H H')(h:Reps K CL H A v d):Reps K CL H' A v d:=Reps.kp (Kp.of s) d h
theorem BZ.same{v:V}{d:D}(s:Av H H')(h:BZ K CL H A v d):BZ K CL H' A v d:=by
 rcases h with h|⟨a,xs,ds,e,e2,q,r⟩
 .exact .inl (h.same s)
 .exact .inr ⟨a,xs,ds,e,e2,s _ _ q,r.same s⟩
theorem Reps.length : ∀{vs:Ad V}{ds:Ad D},Reps K CL H A vs ds->vs.length=ds.length
 |[],[],_=>rfl
 |_::_,_::_,h=>congrArg (· + 1) (Reps.length h.2)
 |[],_::_,h=>h.elim
 |_::_,[],h=>h.elim
theorem Reps.append : ∀{vs ws:Ad V}{ds es:Ad D},Reps K CL H A vs ds->Reps K CL H A ws es->Reps K CL H A (vs++ws) (ds++es)
 |[],_,[],_,_,h=>h
 |_::_,_,_::_,_,h,g=>⟨h.1,Reps.append h.2 g⟩
 |[],_,_::_,_,h,_=>h.elim
 |_::_,_,[],_,h,_=>h.elim
theorem Reps.get : ∀{vs:Ad V}{ds:Ad D}{i:Ae}{d:D},Reps K CL H A vs ds->ds[i]? = Aa d -> ∃ v,vs[i]? = Aa v/\Rep K CL H A v d
 |[],[],_,_,_,e=>by simp at e
 |v::_,_::_,0,_,h,e=>by simp at e;subst e;exact⟨v,rfl,h.1⟩
 |_::_,_::_,i+1,_,h,e=>by
  obtain⟨v,q,r⟩:=Reps.get (i:=i) h.2 (by simpa using e)
  exact⟨v,by simpa using q,r⟩
 |[],_::_,_,_,h,_=>h.elim
 |_::_,[],_,_,h,_=>h.elim
theorem Reps.take : ∀{vs:Ad V}{ds:Ad D}(n:Ae),Reps K CL H A vs ds->Reps K CL H A (vs.take n) (ds.take n)
 |_,_,0,_=>trivial
 |[],[],_+1,_=>trivial
 |_::_,_::_,n+1,h=>⟨h.1,Reps.take n h.2⟩
 |[],_::_,_+1,h=>h.elim
 |_::_,[],_+1,h=>h.elim
theorem Reps.drop : ∀{vs:Ad V}{ds:Ad D}(n:Ae),Reps K CL H A vs ds->Reps K CL H A (vs.drop n) (ds.drop n)
 |_,_,0,h=>h
 |[],[],_+1,_=>trivial
 |_::_,_::_,n+1,h=>Reps.drop n h.2
 |[],_::_,_+1,h=>h.elim
 |_::_,[],_+1,h=>h.elim
theorem Reps.set{x:V}{e:D}(r:Rep K CL H A x e) : ∀{vs:Ad V}{ds:Ad D}(n:Ae),Reps K CL H A vs ds->Reps K CL H A (vs.set n x) (ds.set n e)
 |[],[],_,_=>trivial
 |_::_,_::_,0,h=>⟨r,h.2⟩
 |_::_,_::_,n+1,h=>⟨h.1,Reps.set r n h.2⟩
 |[],_::_,_,h=>h.elim
 |_::_,[],_,h=>h.elim
end
structure Good (K:Fg) (CL:ClA) (A:Ai->Prop) (Y:Rho) (Z:L2.St) (H:Hp):Prop where
 sh : ∀(i:Ae)(d:D),Y[i]? = Aa (Aa (d,Ac)) -> ∃ v,Z[i]? = Aa (Aa v)/\Rep K CL H A v d
 ow : ∀(i:Ae)(d:D),Y[i]? = Aa (Aa (d,Ab)) -> ∃ a xs ds,Z[i]? = Aa (Aa (.ref a))/\d = .lst ds/\A a/\H a=Aa (.lst xs)/\Reps K CL H A xs ds
 len:Y.length=Z.length
theorem Good.same{K:Fg}{CL:ClA}{A:Ai->Prop}{Y:Rho}{Z:L2.St}{H H':Hp}(g:Good K CL A Y Z H)(s:Av H H'):Good K CL A Y Z H':=
 ⟨λi d e=>let ⟨v,q,r⟩:=g.sh i d e;⟨v,q,r.same s⟩,λi d e=>let ⟨a,xs,ds,q,z,na,h,r⟩:=g.ow i d e;⟨a,xs,ds,q,z,na,s _ _ h,r.same s⟩,g.len⟩
noncomputable abbrev XW:=Ex->Hp->Prop
variable{W:XW}
noncomputable def A3(Rp:Hp->V->D->Prop)(W:XW)(H:Hp)(r:R D)(Q:VK):Prop:=match r with
  |.ok d => ∀ v H',Av H H'->Rp H' v d->Q v H'
  |.exn x => ∀ H',Av H H'->W x H'
  |.bad=>AT
noncomputable def E6(Rp:Hp->Ad V->Ad D->Prop)(W:XW)(H:Hp)(r:R (Ad D))(Q:Ad V->Hp->Prop):Prop:=match r with
  |.ok d => ∀ v H',Av H H'->Rp H' v d->Q v H'
  |.exn x => ∀ H',Av H H'->W x H'
  |.bad=>AT
noncomputable def B8(W:XW)(H:Hp)(r:R Aj)(Q:Aj->Hp->Prop):Prop:=match r with
  |.ok b => ∀ H',Av H H'->Q b H'
  |.exn x => ∀ H',Av H H'->W x H'
  |.bad=>AT
theorem A3.same(s:Av H H')(h:A3 Rp W H r Q):A3 Rp W H' r Q:=by
 cases r with
 |ok d=>exact λv H2 s2 q=>h v H2 (s.trans s2) q
 |exn x=>exact λH2 s2=>h H2 (s.trans s2)
 |bad=>exact h
theorem B8.same{r:R Aj}{Q:Aj->Hp->Prop}(s:Av H H')(h:B8 W H r Q):B8 W H' r Q:=by
 cases r with
 |ok d=>exact λH2 s2=>h H2 (s.trans s2)
 |exn x=>exact λH2 s2=>h H2 (s.trans s2)
 |bad=>exact h
theorem A3.bind{f:D->R D}{Q':VK}(h:A3 Rq W H (r.bind f) Q)(k : ∀ d v H',r = .ok d->Av H H'->Rp H' v d->A3 Rq W H' (f d) Q->Q' v H'):A3 Rp W H r Q':=by
 cases r with
 |ok d=>exact λv H2 s2 q=>k d v H2 rfl s2 q (A3.same s2 h)
 |exn x=>exact h
 |bad=>exact h
section
variable(X:Cx)(CL:ClA)(W:XW)
noncomputable def SE(e:Ak)(f:Rho->R D):Prop := ∀ A,PE X e (λZ H Q=>AOk H A /\ ∃ Y,Good X.K CL A Y Z H/\A3 (λH=>Rep X.K CL H A) W H (f Y) Q)
noncomputable def ST(e:Ak)(f:Rho->R D):Prop := ∀ A,PE X e (λZ H Q=>AOk H A /\ ∃ Y,Good X.K CL A Y Z H/\A3 (λH=>BZ X.K CL H A) W H (f Y) Q)
noncomputable def SB(e:Ak)(f:Rho->R Aj):Prop := ∀ A,PT X e (λZ H Q=>AOk H A /\ ∃ Y,Good X.K CL A Y Z H/\B8 W H (f Y) Q)
noncomputable def SA(es:Ad Ak)(f:Rho->R (Ad D)):Prop := ∀ A,PA X es (λZ H Q=>AOk H A /\ ∃ Y,Good X.K CL A Y Z H/\E6 (λH=>Reps X.K CL H A) W H (f Y) Q)
end
theorem PE.weak{t t':TE}(h:PE X e t)(k : ∀ Z H Q,t' Z H Q->t Z H Q):PE X e t':=λpI s Z H Q I q=>h pI s Z H Q I (k _ _ _ q)
theorem PT.weak(h:PT X e t)(k : ∀ Z H Q,t' Z H Q->t Z H Q):PT X e t':=λpI s Z H Q I q=>h pI s Z H Q I (k _ _ _ q)
theorem PA.weak{e:Ad Ak}{t t':TA}(h:PA X e t)(k : ∀ Z H Q,t' Z H Q->t Z H Q):PA X e t':=λpos pI s Z H Q I q=>h pos pI s Z H Q I (k _ _ _ q)
noncomputable def OpD(X:Cx)(CL:ClA)(W:XW)(f:Ah->Ah->Ez Ah)(g:D->D->R D):Prop:=
 ∀ A,OpR X f (λx y H Q=>AOk H A /\ ∃ dx dy,BZ X.K CL H A x dx/\BZ X.K CL H A y dy/\A3 (λH=>Rep X.K CL H A) W H (g dx dy) Q)
section
variable{X:Cx}{CL:ClA}{W:XW}{a b c:Ak}{fa fb fc:Rho->R D}{pos:Az}
theorem SE.st(h:SE X CL W a fa):ST X CL W a fa:=λA=>PE.weak (h A) λZ H Q ⟨hA,Y,g,p⟩=>⟨hA,Y,g,by
 cases e:fa Y with
 |ok d=>rw[e]at p;exact λv H' s r=>p v H' s (.inl r)
 |exn x=>rw[e]at p;exact p
 | bad=>rw[e]at p;exact p⟩
theorem SE.congr{f g:Rho->R D}(h:SE X CL W a f)(e : ∀ Y,g Y=f Y):SE X CL W a g:=λA=>PE.weak (h A) λZ H Q ⟨hA,Y,q,p⟩=>⟨hA,Y,q,by rw[<-e];exact p⟩
theorem ID(h:PE X a (tC v))(r : ∀ H A,AOk H A->Rep X.K CL H A v d):SE X CL W a (λ_ => .ok d):=λA=>PE.weak h λZ H Q ⟨hA,Y,g,p⟩=>p v H (Av.refl H) (r H A hA)
theorem VB{i j}:SE X CL W (.Constant (.int i) j pos) (λ_ => .ok (.int i)):=ID Vh λ_ _ _=>rfl
theorem NJ{b j}:SE X CL W (.Constant (.bool b) j pos) (λ_ => .ok (.bl b)):=ID Xs λ_ _ _=>rfl
theorem Vy{j}:SE X CL W (.Constant .none j pos) (λ_ => .ok .non):=ID Vf λ_ _ _=>rfl
theorem M8{x j}:SE X CL W (.Constant (.str x) j pos) (λ_ => .ok (.str x)):=ID Iu λ_ _ _=>rfl
theorem SG(h:DH Y i = .ok d):Y[i]? = Aa (Aa (d,Ac)):=by
 unfold DH at h;split at h
 .rename_i e;cases h;exact e
 .cases h
theorem MF(h:CB Y i = .ok d) : ∃ o,Y[i]? = Aa (Aa (d,o)):=by
 unfold CB at h;split at h
 .rename_i e;cases h;exact⟨_,e⟩
 .cases h
theorem RY(h:DH Y i = .exn x):AT:=by
 unfold DH at h;split at h <;> cases h
theorem Mc(h:CB Y i = .exn x):AT:=by
 unfold CB at h;split at h <;> cases h
theorem Vx(h:PE X a (DJ i)):SE X CL W a (λY=>DH Y i):=λA=>PE.weak h λZ H Q ⟨hA,Y,g,p⟩=>by
 dsimp only at p;cases e:DH Y i with
 |ok d=>
  rw[e]at p;obtain⟨v,q,r⟩:=g.sh i d (SG e);exact⟨v,q,p v H (Av.refl H) r⟩
 |exn x=>exact(RY e).elim
 |bad=>rw[e]at p;exact p.elim
theorem GP(h:PE X a (DJ i)):ST X CL W a (λY=>CB Y i):=λA=>PE.weak h λZ H Q ⟨hA,Y,g,p⟩=>by
 dsimp only at p;cases e:CB Y i with
 |ok d=>
  rw[e]at p;obtain⟨o,e⟩:=MF e;cases o with
  |false=>
   obtain⟨v,q,r⟩:=g.sh i d e;exact⟨v,q,p v H (Av.refl H) (.inl r)⟩
  |true=>
   obtain⟨x,xs,ds,q,rfl,ha,hh,r⟩:=g.ow i d e;exact⟨_,q,p _ H (Av.refl H) (.inr ⟨x,xs,ds,rfl,rfl,hh,r⟩)⟩
 |exn x=>exact(Mc e).elim
 |bad=>rw[e]at p;exact p.elim
theorem op2(h:AOk H A /\ ∃ Y,Good X.K CL A Y Z H/\A3 Rq W H ((fa Y).bind λx=>(fb Y).bind λy=>g x y) Q):AOk H A/\∃ Y,Good X.K CL A Y Z H/\A3 (λH=>BZ X.K CL H A) W H (fa Y) (λx H1=>AOk H1 A/\∃ Y,Good X.K CL A Y Z H1/\A3 (λH=>BZ X.K CL H A) W H1 (fb Y) (λy H2=>AOk H2 A/\∃ dx dy,BZ X.K CL H2 A x dx/\BZ X.K CL H2 A y dy/\A3 Rq W H2 (g dx dy) Q)):=by
 obtain⟨hA,Y,gd,p⟩:=h;refine⟨hA,Y,gd,A3.bind p λdx x H1 _ s1 r1 p1=>⟨hA.same s1,Y,gd.same s1,A3.bind p1 λdy y H2 _ s2 r2 p2=>⟨(hA.same s1).same s2,dx,dy,r1.same s2,r2,p2⟩⟩⟩
theorem Km{op:Dq}(ho:OpD X CL W (Bx op) g)(ha:ST X CL W a fa)(hb:ST X CL W b fb):SE X CL W (.BinOp a op b pos) (λY=>(fa Y).bind λx=>(fb Y).bind λy=>g x y):=
 λA=>PE.weak (NH (ho A) (ha A) (hb A)) λZ H Q h=>op2 h
theorem VD(ho:OpD X CL W (B2 op) g)(ha:ST X CL W a fa)(hb:ST X CL W b fb)(hm:EA op b=Ac):SE X CL W (.Compare a [op] [b] pos) (λY=>(fa Y).bind λx=>(fb Y).bind λy=>g x y):=
 λA=>PE.weak (Uh (ho A) (ha A) (hb A) hm) λZ H Q h=>op2 h
theorem BZ.int_of{i:Ao}(h:BZ K CL H A v (.int i)):v = .int i:=by
 rcases h with h|⟨_,_,_,_,e,_⟩
 .exact h
 .cases e
theorem BZ.str_of{i:Ag}(h:BZ K CL H A v (.str i)):v = .str i:=by
 rcases h with h|⟨_,_,_,_,e,_⟩
 .exact h
 .cases e
theorem BZ.bl_of{i:Aj}(h:BZ K CL H A v (.bl i)):v = .bl i:=by
 rcases h with h|⟨_,_,_,_,e,_⟩
 .exact h
 .cases e
theorem BZ.non_of(h:BZ K CL H A v .non):v = .non:=by
 rcases h with h|⟨_,_,_,_,e,_⟩
 .exact h
 .cases e
theorem BZ.lst_of(h:BZ K CL H A v (.lst ds)) : ∃ a xs,v = .ref a/\SqL K H a xs/\Reps K CL H A xs ds:=by
 rcases h with ⟨a,xs,e,_,s,r⟩|⟨a,xs,es,rfl,e,s,r⟩
 .exact⟨a,xs,e,s,r⟩
 .cases e;exact⟨a,xs,rfl,SqL.of s,r⟩
theorem BZ.tup_of(h:BZ K CL H A v (.tup ds)) : ∃ a xs,v = .ref a/\(¬ A a\/KT K a xs)/\SqT K H a xs/\Reps K CL H A xs ds:=by
 rcases h with ⟨a,xs,e,n,s,r⟩|⟨_,_,_,_,e,_⟩
 .exact⟨a,xs,e,n,s,r⟩
 .cases e
theorem TN{i j:Ao}(h:FJ i j=Ab):Jb i j:=by
 unfold FJ at h;simp only[BN,Al,AQ]at h;unfold Jb;omega
theorem MQ{a:Ao}(h:a.natAbs<2 ^ 2000):Pf a<=2 ^ 20:=by
 unfold Pf;split
 .omega
 .rename_i hz;have h0:a.natAbs≠0:=by intro z;exact hz (by rw[Int.natAbs_eq_zero.mp z];rfl)
  have:=(Nat.log2_lt h0).mpr h;omega
theorem TM{i j:Ao}(h:(FJ i j||IL i j)=Ab):G8 i j:=by
 rcases Bool.or_eq_true_iff.mp h with h|h
 .exact(TN h).ok
 .unfold IL at h;rw[Al,AQ,AQ]at h;exact .of_bits (MQ h.1) (MQ h.2)
theorem Tx:OpR X (Bx .Mult) (rI G8 λi j => .int (i*j)):=opI λ_ _ _ _ _ _ _ hc q=>mul_int q hc
theorem Ge(h:B9 n=Ab):n<=sizeLine:=by
 unfold B9 at h;rw[Cc];have:=Cb h;omega
theorem MA(hA:AOk H A)(hp:H p=Af)(r:Reps K CL H A xs ds):Rep K CL (upd H p (.lst xs)) A (.ref p) (.lst ds):=
 ⟨p,xs,rfl,.inl (hA.new hp),SqL.of Dt,r.same λb o e=>by rw[Bb (DF e hp)];exact e⟩
theorem JS(hA:AOk H A)(hp:H p=Af)(r:Reps K CL H A xs ds):Rep K CL (upd H p (.tup xs)) A (.ref p) (.tup ds):=
 ⟨p,xs,rfl,.inl (hA.new hp),SqT.of Dt,r.same λb o e=>by rw[Bb (DF e hp)];exact e⟩
theorem E5(h:H p=Af)(o:HO):Av H (upd H p o):=λb u q=>by rw[Bb (DF q h)];exact q
noncomputable def Xm(K:Fg):R2:=λx y H Q => ∃ l b xs zs,x = .ref l/\y = .ref b/\SqL K H l xs/\SqL K H b zs/\xs.length+zs.length<=sizeLine /\ ∀ p,H p=Af->Q (.ref p) (upd H p (.lst (xs++zs)))
end
section
variable{X:Cx}{CL:ClA}{W:XW}
theorem Mw:OpR X (Bx .Add) (Xm X.K):=by
 intro pI s Z H x y v u Q I rx ry h;obtain⟨l,b,xs,zs,rfl,rfl,hH,hB,hz,q⟩:=h;cases rx;cases ry;obtain⟨its,r,⟨o,n,e,c,dd,dt⟩,z⟩:=I.list hH;obtain⟨its2,r2,⟨o2,n2,e2,c2,dd2,dt2⟩,z2⟩:=I.list hB;have hl:=r.length;have hl2:=r2.length;obtain⟨cls,dd0,data,sl⟩:=o;obtain⟨cls2,dd02,data2,sl2⟩:=o2;simp only at c dd dt c2 dd2 dt2;subst c dd dt c2 dd2 dt2;have ea:its.toArray++its2.toArray=(its++its2).toArray:=by simp
 refine FY ⟨_,e,rfl⟩ ⟨_,e2,rfl⟩ noFill_list_add seq_list_add PySem.F.slot_list_add PySem.F.entry_list_add (PySem.F.args_list_add_2 _ _) (list_addW l b its.toArray its2.toArray n n2 Af Af sl sl2 (by simp;omega)) ⟨e,e2,?_⟩
 rw[ea];exact⟨.ref _,_,I.lnew (t':=s.toks) (r.append r2) (by rw[Ca];omega),rfl,q _ I.fresh⟩
theorem Mv:OpD X CL W (Bx .Add) (Cn .Add):=by
 intro A pI s Z H x y v u Q I rx ry ⟨hA,dx,dy,hx,hy,p⟩;cases dx with
 |int i=>
  cases dy with
  |int j=>
   have ex:=hx.int_of;have ey:=hy.int_of
   subst ex ey;exact US pI s Z H _ _ v u Q I rx ry ⟨i,j,rfl,rfl,p _ H (Av.refl H) rfl⟩
  |_=>exact p.elim
 |str i=>
  cases dy with
  |str j=>
   have ex:=hx.str_of;have ey:=hy.str_of
   subst ex ey;simp only[Nw]at p;split at p
   .rename_i h;exact QX pI s Z H _ _ v u Q I rx ry ⟨i,j,rfl,rfl,Ge h,p _ H (Av.refl H) rfl⟩
   .exact p.elim
  |_=>exact p.elim
 |lst ds=>
  cases dy with
  |lst es=>
   obtain⟨a,xs,rfl,s1,r1⟩:=hx.lst_of;obtain⟨b,ys,rfl,s2,r2⟩:=hy.lst_of;simp only[Nx]at p;split at p
   .rename_i h;refine Mw pI s Z H _ _ v u Q I rx ry ⟨a,b,xs,ys,rfl,rfl,s1,s2,by rw[r1.length,r2.length];exact Ge h,λq hq => ?_⟩
    exact p _ _ (E5 hq _) (MA hA hq (r1.append r2))
   .exact p.elim
  |_=>exact p.elim
 |tup ds=>
  cases dy with
  |tup es=>
   obtain⟨a,xs,rfl,na1,s1,r1⟩:=hx.tup_of;obtain⟨b,ys,rfl,_,s2,r2⟩:=hy.tup_of;simp only[Nv]at p;split at p
   .rename_i h;simp only[Al]at h;refine TB pI s Z H _ _ v u Q I rx ry ⟨a,b,xs,ys,rfl,rfl,s1,s2,?_,by rw[r1.length,r2.length];exact Ge h.2,λhy0 => ?_,λ_ q hq => ?_⟩
    .rintro rfl;cases ds with
     |nil=>cases h.1
     |cons _ _=>exact r1.elim
    .subst hy0;cases es with
     |nil=>rw[B0]at p;exact p _ H (Av.refl H) ⟨a,xs,rfl,na1,s1,r1⟩
     |cons _ _=>exact r2.elim
    .exact p _ _ (E5 hq _) (JS hA hq (r1.append r2))
   .exact p.elim
  |_=>exact p.elim
 |_=>exact p.elim
theorem Ik{op:Dq}{C:Ao->Ao->Prop}{g:Ao->Ao->Ao}(ho:OpR X (Bx op) (rI C λi j => .int (g i j)))(hg : ∀ dx dy,(∃ i j,dx = .int i/\dy = .int j/\((C i j/\Cn op dx dy = .ok (.int (g i j)))\/Cn op dx dy = .bad))\/Cn op dx dy = .bad):OpD X CL W (Bx op) (Cn op):=by
 intro A pI s Z H x y v u Q I rx ry ⟨hA,dx,dy,hx,hy,p⟩;rcases hg dx dy with ⟨i,j,rfl,rfl,⟨c,e⟩|e⟩|e
 .have ex:=hx.int_of;have ey:=hy.int_of
  subst ex ey;rw[e]at p;exact ho pI s Z H _ _ v u Q I rx ry ⟨i,j,rfl,rfl,c,p _ H (Av.refl H) rfl⟩
 .rw[e]at p;exact p.elim
 .rw[e]at p;exact p.elim
theorem Uk:OpD X CL W (Bx .Sub) (Cn .Sub):=by
 intro A pI s Z H x y v u Q I rx ry ⟨hA,dx,dy,hx,hy,p⟩;cases dx with
 |int i=>
  cases dy with
  |int j=>
   have ex:=hx.int_of;have ey:=hy.int_of
   subst ex ey;exact Vj pI s Z H _ _ v u Q I rx ry ⟨i,j,rfl,rfl,p _ H (Av.refl H) rfl⟩
  |_=>exact p.elim
 |_=>exact p.elim
theorem Um:OpD X CL W (Bx .Mult) (Cn .Mult):=Ik Tx λdx dy=>by
 cases dx with
 |int i=>
  cases dy with
  |int j=>
   refine .inl ⟨i,j,rfl,rfl,?_⟩;rw[UW];split
   .rename_i h;exact .inl ⟨TM h,rfl⟩
   .exact .inr rfl
  |_=>exact .inr rfl
 |_=>exact .inr rfl
theorem RK:OpD X CL W (Bx .FloorDiv) (Cn .FloorDiv):=Ik Tz λdx dy=>by
 cases dx with
 |int i=>
  cases dy with
  |int j=>
   refine .inl ⟨i,j,rfl,rfl,?_⟩;rw[UE];split
   .rename_i h;exact .inl ⟨h,rfl⟩
   .exact .inr rfl
  |_=>exact .inr rfl
 |_=>exact .inr rfl
theorem Uo:OpD X CL W (Bx .Mod) (Cn .Mod):=Ik Vl λdx dy=>by
 cases dx with
 |int i=>
  cases dy with
  |int j=>
   refine .inl ⟨i,j,rfl,rfl,?_⟩;rw[UX];split
   .rename_i h;exact .inl ⟨h,rfl⟩
   .exact .inr rfl
  |_=>exact .inr rfl
 |_=>exact .inr rfl
theorem Ul:OpD X CL W (Bx .Pow) (Cn .Pow):=Ik Vk λdx dy=>by
 cases dx with
 |int i=>
  cases dy with
  |int j=>
   refine .inl ⟨i,j,rfl,rfl,?_⟩;rw[Va];split
   .rename_i h;exact .inl ⟨⟨h.1.1,h.1.2,by omega⟩,rfl⟩
   .exact .inr rfl
  |_=>exact .inr rfl
 |_=>exact .inr rfl
theorem J4(op:Dq):OpD X CL W (Bx op) (Cn op):=by
 cases op with
 |Add=>exact Mv
 |Sub=>exact Uk
 |Mult=>exact Um
 |FloorDiv=>exact RK
 |Mod=>exact Uo
 |Pow=>exact Ul
 |_=>
  intro A pI s Z H x y v u Q I rx ry ⟨hA,dx,dy,hx,hy,p⟩;exact p.elim
noncomputable abbrev A0:Ai->Prop:=λ_=>AT
theorem BZ.plain(h:BZ K CL H A v d):Rep K CL H A0 v d:=by
 rcases h with h|⟨a,xs,ds,rfl,rfl,e,r⟩
 .exact Rep.sub (λ_ z=>z.elim) d h
 .exact⟨a,xs,rfl,.inl λz=>z.elim,SqL.of e,Reps.sub (λ_ z=>z.elim) ds r⟩
mutual
theorem So : ∀(n:Ae)(d:D),flD n d=Ab->eqD d d=Ab
 |_,.non,_=>rfl
 |_,.bl b,_=>by simp
 |_,.int i,_=>by simp
 |_,.str x,_=>by simp
 |n+1,.tup ds,h=>by
  show eqDs ds ds=Ab;exact eqDs_refl n ds h
 |n+1,.lst ds,h=>by
  show eqDs ds ds=Ab;exact eqDs_refl n ds h
 |0,.tup ds,h=>by cases h
 |0,.lst ds,h=>by cases h
 |n,.obj _ _,h=>by cases n <;> cases h
 |n,.exc _ _,h=>by cases n <;> cases h
 |n,.dic _,h=>by cases n <;> cases h
theorem eqDs_refl : ∀(n:Ae)(ds:Ad D),ds.all (flD n)=Ab->eqDs ds ds=Ab
 |_,[],_=>rfl
 |n,d::ds,h=>by
  simp only[DL,Al]at h;simp only[JL,Al];exact⟨So n d h.1,eqDs_refl n ds h.2⟩
end
theorem LA{ys:Ad V}(I:Inv X pI Z H s)(h:SqL X.K H a xs)(h':SqT X.K H a ys):AT:=by
 obtain⟨its,r,⟨o,n,e,c,_,_⟩,_⟩:=I.list h;obtain⟨its',r',⟨o',e',c',_⟩,_⟩:=I.tuple h';rw[e]at e';cases e';rw[c]at c'
 injection c' with z
 exact absurd z (by decide)
mutual
theorem Ii{pI:Ad (Ai × AD)}{Z:L2.St}{H:Hp}{s:Am}(I:Inv X pI Z H s) : ∀(n:Ae)(d e:D){v:V},flD n d=Ab->flD n e=Ab->Rep X.K CL H A0 v d->Rep X.K CL H A0 v e->d=e
 |n,.tup ds,e,v,hd,he,r,q=>by
  obtain⟨a,xs,rfl,_,s1,r1⟩:=r;cases e with
  |tup es=>
   obtain⟨b,ys,e,_,s2,r2⟩:=q;cases e;have z:=I.tuple_inj s1 s2;subst z;cases n with
   |zero=>cases hd
   |succ n=>rw[reps_inj I n ds es hd he r1 r2]
  |lst es=>
   obtain⟨b,ys,e,_,s2,r2⟩:=q;cases e;exact(LA I s2 s1).elim
  |obj=>cases n <;> cases he
  |exc=>cases n <;> cases he
  |dic=>cases n <;> cases he
  |_=>cases q
 |n,.lst ds,e,v,hd,he,r,q=>by
  obtain⟨a,xs,rfl,_,s1,r1⟩:=r;cases e with
  |lst es=>
   obtain⟨b,ys,e,_,s2,r2⟩:=q;cases e;have z:=I.list_inj s1 s2;subst z;cases n with
   |zero=>cases hd
   |succ n=>rw[reps_inj I n ds es hd he r1 r2]
  |tup es=>
   obtain⟨b,ys,e,_,s2,r2⟩:=q;cases e;exact(LA I s1 s2).elim
  |obj=>cases n <;> cases he
  |exc=>cases n <;> cases he
  |dic=>cases n <;> cases he
  |_=>cases q
 |n,.obj _ _,e,v,hd,he,r,q=>by cases n <;> cases hd
 |n,.exc _ _,e,v,hd,he,r,q=>by cases n <;> cases hd
 |n,.dic _,e,v,hd,he,r,q=>by cases n <;> cases hd
 |n,.non,e,v,hd,he,r,q=>by
  cases r;cases e with
  |tup=>obtain⟨_,_,z,_⟩:=q;cases z
  |lst=>obtain⟨_,_,z,_⟩:=q;cases z
  |obj=>cases n <;> cases he
  |exc=>cases n <;> cases he
  |dic=>cases n <;> cases he
  |_=>cases q <;> rfl
 |n,.bl b,e,v,hd,he,r,q=>by
  cases r;cases e with
  |tup=>obtain⟨_,_,z,_⟩:=q;cases z
  |lst=>obtain⟨_,_,z,_⟩:=q;cases z
  |obj=>cases n <;> cases he
  |exc=>cases n <;> cases he
  |dic=>cases n <;> cases he
  |_=>cases q <;> rfl
 |n,.int b,e,v,hd,he,r,q=>by
  cases r;cases e with
  |tup=>obtain⟨_,_,z,_⟩:=q;cases z
  |lst=>obtain⟨_,_,z,_⟩:=q;cases z
  |obj=>cases n <;> cases he
  |exc=>cases n <;> cases he
  |dic=>cases n <;> cases he
  |_=>cases q <;> rfl
 |n,.str b,e,v,hd,he,r,q=>by
  cases r;cases e with
  |tup=>obtain⟨_,_,z,_⟩:=q;cases z
  |lst=>obtain⟨_,_,z,_⟩:=q;cases z
  |obj=>cases n <;> cases he
  |exc=>cases n <;> cases he
  |dic=>cases n <;> cases he
  |_=>cases q <;> rfl
theorem reps_inj{pI:Ad (Ai × AD)}{Z:L2.St}{H:Hp}{s:Am}(I:Inv X pI Z H s) : ∀(n:Ae)(ds es:Ad D){xs:Ad V},ds.all (flD n)=Ab->es.all (flD n)=Ab->Reps X.K CL H A0 xs ds->Reps X.K CL H A0 xs es->ds=es
 |_,[],[],_,_,_,_,_=>rfl
 |n,d::ds,e::es,x::xs,hd,he,r,q=>by
  simp only[DL,Al]at hd he;rw[Ii I n d e hd.1 he.1 r.1 q.1,reps_inj I n ds es hd.2 he.2 r.2 q.2]
 |_,[],_::_,[],_,_,_,q=>q.elim
 |_,[],_::_,_::_,_,_,r,_=>r.elim
 |_,_::_,[],[],_,_,r,_=>r.elim
 |_,_::_,[],_::_,_,_,_,q=>q.elim
 |_,_::_,_::_,[],_,_,r,_=>r.elim
end
theorem Hi : ∀{ds es:Ad D},ds.length≠es.length->eqDs ds es=Ac
 |[],[],h=>absurd rfl h
 |[],_::_,_=>rfl
 |_::_,[],_=>rfl
 |d::ds,e::es,h=>by
  simp only[JL,Hi (ds:=ds) (es:=es) (by simpa using h),Fp]
theorem Ls(n:Ae)(f:Ae->Aj):(CO (n+1)).all f=(f 0&&(CO n).all λj=>f (j+1)):=by
 rw[List.range_succ_eq_map,DL,ON];rfl
theorem Hj : ∀{ds es:Ad D},ds.length=es.length->eqDs ds es=(CO ds.length).all λj=>eqD (ds.getD j .non) (es.getD j .non)
 |[],[],_=>rfl
 |d::ds,e::es,h=>by
  rw[JL,Hj (ds:=ds) (es:=es) (by simpa using h),A9,Ls]
  rfl
 |[],_::_,h=>by cases h
 |_::_,[],h=>by cases h
theorem Gp(r:Reps K CL H A0 xs ds)(rv:AS xs its)(h:j<its.length):∃ x,Rep K CL H A0 x (ds.getD j .non)/\Be x its[j]:=by
 have e1:=rv.length;have e2:=r.length;have hd:ds[j]? = Aa (ds.getD j .non):=by
  rw[Cr,BO (by omega)];rfl
 obtain⟨x,hx,q⟩:=r.get hd;obtain⟨u,hu,ru⟩:=rv.get hx;refine⟨x,q,?_⟩;rw[BO h]at hu;cases hu;exact ru
theorem Gd(h:ds.all (flD n)=Ab)(j:Ae):flD n (ds.getD j .non)=Ab:=by
 rw[Cr];cases e:ds[j]? with
 |none=>cases n <;> rfl
 |some d=>exact List.all_eq_true.mp h d (OY e)
noncomputable def BM(B:AN)(s:Am)(u t:Ah)(k:Aj):Prop:=Gx B s u t k/\D9 B s u t k/\FX B s u t (!k)
section
variable{B:AN}{s:Am}
open SeqAt
theorem WK:BM B s .none .none Ab:=⟨RcAt.none_none,EqAt.same _,RcNeAt.none_none⟩
theorem Xk(a b:Aj):BM B s (.bool a) (.bool b) (a==b):=⟨RcAt.bool_bool _ _,EqAt.bool_bool _ _,RcNeAt.bool_bool _ _⟩
theorem Wn(b:Aj):BM B s .none (.bool b) Ac:=⟨RcAt.none_bool _,EqAt.none_bool _,RcNeAt.none_bool _⟩
theorem Xh(b:Aj):BM B s (.bool b) .none Ac:=⟨RcAt.bool_none _,EqAt.bool_none _,RcNeAt.bool_none _⟩
theorem Xd(a:Ao)(t:BW)(b:Ao)(u:BW):BM B s (.int a t) (.int b u) (a==b):=⟨RcAt.int_int _ _ _ _,EqAt.int_int _ _ _ _,RcNeAt.int_int _ _ _ _⟩
theorem WD(a:Ag)(t:BW)(b:Ag)(u:BW):BM B s (.str a t) (.str b u) (a==b):=⟨RcAt.str_str _ _ _ _,EqAt.str_str _ _ _ _,RcNeAt.str_str _ _ _ _⟩
theorem Wu(a:Ao)(t:BW)(b:Ag)(u:BW):BM B s (.int a t) (.str b u) Ac:=⟨RcAt.int_str _ _ _ _,EqAt.int_str _ _ _ _,RcNeAt.int_str _ _ _ _⟩
theorem WG(a:Ag)(t:BW)(b:Ao)(u:BW):BM B s (.str a t) (.int b u) Ac:=⟨RcAt.str_int _ _ _ _,EqAt.str_int _ _ _ _,RcNeAt.str_int _ _ _ _⟩
theorem Wm(b:Ao)(u:BW):BM B s .none (.int b u) Ac:=⟨RcAt.none_int _ _,EqAt.none_int _ _,RcNeAt.none_int _ _⟩
theorem Wv(b:Ao)(u:BW):BM B s (.int b u) .none Ac:=⟨RcAt.int_none _ _,EqAt.int_none _ _,RcNeAt.int_none _ _⟩
theorem WJ(b:Ag)(u:BW):BM B s .none (.str b u) Ac:=⟨RcAt.none_str _ _,EqAt.none_str _ _,RcNeAt.none_str _ _⟩
theorem WE(b:Ag)(u:BW):BM B s (.str b u) .none Ac:=⟨RcAt.str_none _ _,EqAt.str_none _ _,RcNeAt.str_none _ _⟩
theorem Xj(a:Aj)(b:Ao)(u:BW):BM B s (.bool a) (.int b u) (b2i a==b):=⟨RcAt.bool_int _ _ _,EqAt.bool_int _ _ _,RcNeAt.bool_int _ _ _⟩
theorem Xe(a:Aj)(b:Ao)(u:BW):BM B s (.int b u) (.bool a) (b==b2i a):=⟨RcAt.int_bool _ _ _,EqAt.int_bool _ _ _,RcNeAt.int_bool _ _ _⟩
theorem Xg(a:Aj)(b:Ag)(u:BW):BM B s (.bool a) (.str b u) Ac:=⟨RcAt.bool_str _ _ _,EqAt.bool_str _ _ _,RcNeAt.bool_str _ _ _⟩
theorem WH(a:Aj)(b:Ag)(u:BW):BM B s (.str b u) (.bool a) Ac:=⟨RcAt.str_bool _ _ _,EqAt.str_bool _ _ _,RcNeAt.str_bool _ _ _⟩
variable{l:Ai}{items:Ba Ah}
theorem Wq(h:s.heap.IsList l items)(hu:B.units<Bo):BM B s (.ref l) .none Ac:=⟨RcAt.list_none h hu,EqAt.list_none h hu,RcNeAt.list_none h hu⟩
theorem WL(h:s.heap.IsList l items)(hu:B.units<Bo):BM B s .none (.ref l) Ac:=⟨RcAt.none_list h hu,EqAt.none_list h hu,RcNeAt.none_list h hu⟩
theorem Ws(b:Aj)(h:s.heap.IsList l items)(hu:B.units<Bo):BM B s (.ref l) (.bool b) Ac:=⟨RcAt.list_bool b h hu,EqAt.list_bool b h hu,RcNeAt.list_bool b h hu⟩
theorem Xi(b:Aj)(h:s.heap.IsList l items)(hu:B.units<Bo):BM B s (.bool b) (.ref l) Ac:=⟨RcAt.bool_list b h hu,EqAt.bool_list b h hu,RcNeAt.bool_list b h hu⟩
theorem Wr(b:Ao)(u:BW)(h:s.heap.IsList l items)(hu:B.units<Bo):BM B s (.ref l) (.int b u) Ac:=⟨RcAt.list_int b u h hu,EqAt.list_int b u h hu,RcNeAt.list_int b u h hu⟩
theorem Xc(b:Ao)(u:BW)(h:s.heap.IsList l items)(hu:B.units<Bo):BM B s (.int b u) (.ref l) Ac:=⟨RcAt.int_list b u h hu,EqAt.int_list b u h hu,RcNeAt.int_list b u h hu⟩
theorem Wp(b:Ag)(u:BW)(h:s.heap.IsList l items)(hu:B.units<Bo):BM B s (.ref l) (.str b u) Ac:=⟨RcAt.list_str b u h hu,EqAt.list_str b u h hu,RcNeAt.list_str b u h hu⟩
theorem WF(b:Ag)(u:BW)(h:s.heap.IsList l items)(hu:B.units<Bo):BM B s (.str b u) (.ref l) Ac:=⟨RcAt.str_list b u h hu,EqAt.str_list b u h hu,RcNeAt.str_list b u h hu⟩
theorem Wy(h:s.heap.IsTuple l items)(hu:B.units<Bo):BM B s (.ref l) .none Ac:=⟨RcAt.tuple_none h hu,EqAt.tuple_none h hu,RcNeAt.tuple_none h hu⟩
theorem WI(h:s.heap.IsTuple l items)(hu:B.units<Bo):BM B s .none (.ref l) Ac:=⟨RcAt.none_tuple h hu,EqAt.none_tuple h hu,RcNeAt.none_tuple h hu⟩
theorem WB(b:Aj)(h:s.heap.IsTuple l items)(hu:B.units<Bo):BM B s (.ref l) (.bool b) Ac:=⟨RcAt.tuple_bool b h hu,EqAt.tuple_bool b h hu,RcNeAt.tuple_bool b h hu⟩
theorem Xf(b:Aj)(h:s.heap.IsTuple l items)(hu:B.units<Bo):BM B s (.bool b) (.ref l) Ac:=⟨RcAt.bool_tuple b h hu,EqAt.bool_tuple b h hu,RcNeAt.bool_tuple b h hu⟩
theorem WA(b:Ao)(u:BW)(h:s.heap.IsTuple l items)(hu:B.units<Bo):BM B s (.ref l) (.int b u) Ac:=⟨RcAt.tuple_int b u h hu,EqAt.tuple_int b u h hu,RcNeAt.tuple_int b u h hu⟩
theorem Wt(b:Ao)(u:BW)(h:s.heap.IsTuple l items)(hu:B.units<Bo):BM B s (.int b u) (.ref l) Ac:=⟨RcAt.int_tuple b u h hu,EqAt.int_tuple b u h hu,RcNeAt.int_tuple b u h hu⟩
theorem Wx(b:Ag)(u:BW)(h:s.heap.IsTuple l items)(hu:B.units<Bo):BM B s (.ref l) (.str b u) Ac:=⟨RcAt.tuple_str b u h hu,EqAt.tuple_str b u h hu,RcNeAt.tuple_str b u h hu⟩
theorem WC(b:Ag)(u:BW)(h:s.heap.IsTuple l items)(hu:B.units<Bo):BM B s (.str b u) (.ref l) Ac:=⟨RcAt.str_tuple b u h hu,EqAt.str_tuple b u h hu,RcNeAt.str_tuple b u h hu⟩
theorem Wo(h:s.heap.IsList l items)(h2:s.heap.IsTuple b items2)(hu:B.units<Bo):BM B s (.ref l) (.ref b) Ac:=⟨RcAt.list_tuple h h2 hu,EqAt.list_tuple h h2 hu,RcNeAt.list_tuple h h2 hu⟩
theorem Wz(h:s.heap.IsTuple l items)(h2:s.heap.IsList b items2)(hu:B.units<Bo):BM B s (.ref l) (.ref b) Ac:=⟨RcAt.tuple_list h h2 hu,EqAt.tuple_list h h2 hu,RcNeAt.tuple_list h h2 hu⟩
end
end
section
variable{X:Cx}{CL:ClA}{W:XW}
theorem GS{its:Ba Ah}(x:PlainL h a its):h.IsList a its:=let ⟨o,n,e,c,_,d⟩:=x;⟨o,e,c,n,d⟩
noncomputable def Yq(X:Cx)(CL:ClA)(H:Hp)(s:Am)(d:D)(u:Ah):Prop:=match d with
  |.non=>u = .none
  |.bl b=>u = .bool b
  |.int i => ∃ t,u = .int i t
  |.str x => ∃ t,u = .str x t
  |.tup ds => ∃ a xs its,u = .ref a/\Reps X.K CL H A0 xs ds/\AS xs its/\s.heap.IsTuple a its.toArray
  |.lst ds => ∃ a xs its,u = .ref a/\Reps X.K CL H A0 xs ds/\AS xs its/\s.heap.IsList a its.toArray
  |_=>AT
theorem MM(I:Inv X pI Z H s)(hd:flD n d=Ab)(r:Rep X.K CL H A0 v d)(q:Be v u):Yq X CL H s d u:=by
 cases d with
 |non=>cases r;exact q
 |bl b=>cases r;exact q
 |int b=>cases r;exact q
 |str b=>cases r;exact q
 |tup ds=>
  obtain⟨a,xs,rfl,_,sq,r⟩:=r;obtain⟨its,rv,p,_⟩:=I.tuple sq;cases q;exact⟨a,xs,its,rfl,r,rv,p⟩
 |lst ds=>
  obtain⟨a,xs,rfl,_,sq,r⟩:=r;obtain⟨its,rv,p,_⟩:=I.list sq;cases q;exact⟨a,xs,its,rfl,r,rv,GS p⟩
 |obj=>cases n <;> cases hd
 |exc=>cases n <;> cases hd
 |dic=>cases n <;> cases hd
theorem Sy{B:AN}{es:Ad D}(hl:s.heap.IsList l its.toArray)(hb:s.heap.IsList b its2.toArray)(e1:its.length=ds.length)(e2:its2.length=es.length)(hu:B.units<Bo)(hs:l=b->eqDs ds es=Ab)(he : ∀ j (h1:j<its.length) (h2:j<its2.length),D9 B.in1 s its[j] its2[j] (eqD (ds.getD j .non) (es.getD j .non))):BM B s (.ref l) (.ref b) (eqDs ds es):=by
 have rc:Gx B s (.ref l) (.ref b) (eqDs ds es):=by
  by_cases hz:its.length=its2.length
  .have q:=SeqAt.RcAt.lists (e:=λj=>eqD (ds.getD j .non) (es.getD j .non)) hl hb (by simpa using hz) hu (λj h1 h2=>by simpa using he j (by simpa using h1) (by simpa using h2))
   rw[Hj (by omega)]
   have e:its.toArray.size=ds.length:=by simpa using e1
   rw[e]at q;exact q
  .rw[Hi (by omega)]
   exact SeqAt.RcAt.lists_lengths hl hb (by simpa using hz) hu
 have ne:FX B s (.ref l) (.ref b) (!eqDs ds es):=by
  by_cases hz:its.length=its2.length
  .have q:=SeqAt.RcNeAt.lists (e:=λj=>eqD (ds.getD j .non) (es.getD j .non)) hl hb (by simpa using hz) hu (λj h1 h2=>by simpa using he j (by simpa using h1) (by simpa using h2))
   rw[Hj (by omega)]
   have e:its.toArray.size=ds.length:=by simpa using e1
   rw[e]at q;exact q
  .rw[Hi (by omega)]
   exact SeqAt.RcNeAt.lists_lengths hl hb (by simpa using hz) hu
 refine⟨rc,?_,ne⟩;by_cases hlb:l=b
 .rw[hs hlb,hlb];exact P6 _
 .exact P5 hlb rc
theorem Sw{B:AN}{es:Ad D}(hl:s.heap.IsTuple l its.toArray)(hb:s.heap.IsTuple b its2.toArray)(e1:its.length=ds.length)(e2:its2.length=es.length)(hu:B.units<Bo)(hs:l=b->eqDs ds es=Ab)(he : ∀ j (h1:j<its.length) (h2:j<its2.length),D9 B.in1 s its[j] its2[j] (eqD (ds.getD j .non) (es.getD j .non))):BM B s (.ref l) (.ref b) (eqDs ds es):=by
 have rc:Gx B s (.ref l) (.ref b) (eqDs ds es):=by
  have q:=SeqAt.RcAt.tuples (e:=λj=>eqD (ds.getD j .non) (es.getD j .non)) hl hb hu (λj h1 h2=>by simpa using he j (by simpa using h1) (by simpa using h2))
  have e:its.toArray.size=ds.length:=by simpa using e1
  have e':its2.toArray.size=es.length:=by simpa using e2
  rw[e,e']at q;by_cases hz:ds.length=es.length
  .rw[Hj hz];rw[hz,O6,DY,OK]at q;rw[hz];exact q
  .rw[Hi hz];rw[Dh.mpr hz,Fp]at q;exact q
 have ne:FX B s (.ref l) (.ref b) (!eqDs ds es):=by
  have q:=SeqAt.RcNeAt.tuples (e:=λj=>eqD (ds.getD j .non) (es.getD j .non)) hl hb hu (λj h1 h2=>by simpa using he j (by simpa using h1) (by simpa using h2))
  have e:its.toArray.size=ds.length:=by simpa using e1
  have e':its2.toArray.size=es.length:=by simpa using e2
  rw[e,e']at q;by_cases hz:ds.length=es.length
  .rw[Hj hz];rw[hz,O6,DY,OK]at q;rw[hz];exact q
  .rw[Hi hz];rw[Dh.mpr hz,Fp]at q;exact q
 refine⟨rc,?_,ne⟩;by_cases hlb:l=b
 .rw[hs hlb,hlb];exact P6 _
 .exact P5 hlb rc
theorem Hx{pI:Ad (Ai × AD)}{Z:L2.St}{H:Hp}{s:Am}(I:Inv X pI Z H s) :∀(n:Ae)(d e:D)(v w':V)(u t:Ah)(B:AN),flD n d=Ab->flD n e=Ab->Rep X.K CL H A0 v d->Rep X.K CL H A0 w' e->Be v u->Be w' t->B.units+n<Bo->BM B s u t (eqD d e)
  |n,d,e,v,w',u,t,B,hd,he,r,q,rv,rw',hu=>by
    have hu0:B.units<Bo:=by omega
    have sd:=MM I hd r rv;have se:=MM I he q rw'
    match d,e,sd,se with
    |.non,.non,s1,s2=>cases s1;cases s2;exact WK
    |.non,.bl b,s1,s2=>cases s1;cases s2;exact Wn b
    |.non,.int b,s1,s2=>cases s1;obtain⟨_,rfl⟩:=s2;exact Wm b _
    |.non,.str b,s1,s2=>cases s1;obtain⟨_,rfl⟩:=s2;exact WJ b _
    |.non,.tup es,s1,s2=>cases s1;obtain⟨_,_,_,rfl,_,_,p⟩:=s2;exact WI p hu0
    |.non,.lst es,s1,s2=>cases s1;obtain⟨_,_,_,rfl,_,_,p⟩:=s2;exact WL p hu0
    |.bl a,.non,s1,s2=>cases s1;cases s2;exact Xh a
    |.bl a,.bl b,s1,s2=>cases s1;cases s2;exact Xk a b
    |.bl a,.int b,s1,s2=>cases s1;obtain⟨_,rfl⟩:=s2;exact Xj a b _
    |.bl a,.str b,s1,s2=>cases s1;obtain⟨_,rfl⟩:=s2;exact Xg a b _
    |.bl a,.tup es,s1,s2=>cases s1;obtain⟨_,_,_,rfl,_,_,p⟩:=s2;exact Xf a p hu0
    |.bl a,.lst es,s1,s2=>cases s1;obtain⟨_,_,_,rfl,_,_,p⟩:=s2;exact Xi a p hu0
    |.int a,.non,s1,s2=>obtain⟨_,rfl⟩:=s1;cases s2;exact Wv a _
    |.int a,.bl b,s1,s2=>obtain⟨_,rfl⟩:=s1;cases s2;exact Xe b a _
    |.int a,.int b,s1,s2=>obtain⟨_,rfl⟩:=s1;obtain⟨_,rfl⟩:=s2;exact Xd a _ b _
    |.int a,.str b,s1,s2=>obtain⟨_,rfl⟩:=s1;obtain⟨_,rfl⟩:=s2;exact Wu a _ b _
    |.int a,.tup es,s1,s2=>obtain⟨_,rfl⟩:=s1;obtain⟨_,_,_,rfl,_,_,p⟩:=s2;exact Wt a _ p hu0
    |.int a,.lst es,s1,s2=>obtain⟨_,rfl⟩:=s1;obtain⟨_,_,_,rfl,_,_,p⟩:=s2;exact Xc a _ p hu0
    |.str a,.non,s1,s2=>obtain⟨_,rfl⟩:=s1;cases s2;exact WE a _
    |.str a,.bl b,s1,s2=>obtain⟨_,rfl⟩:=s1;cases s2;exact WH b a _
    |.str a,.int b,s1,s2=>obtain⟨_,rfl⟩:=s1;obtain⟨_,rfl⟩:=s2;exact WG a _ b _
    |.str a,.str b,s1,s2=>obtain⟨_,rfl⟩:=s1;obtain⟨_,rfl⟩:=s2;exact WD a _ b _
    |.str a,.tup es,s1,s2=>obtain⟨_,rfl⟩:=s1;obtain⟨_,_,_,rfl,_,_,p⟩:=s2;exact WC a _ p hu0
    |.str a,.lst es,s1,s2=>obtain⟨_,rfl⟩:=s1;obtain⟨_,_,_,rfl,_,_,p⟩:=s2;exact WF a _ p hu0
    |.tup ds,.non,s1,s2=>cases s2;obtain⟨_,_,_,rfl,_,_,p⟩:=s1;exact Wy p hu0
    |.tup ds,.bl b,s1,s2=>cases s2;obtain⟨_,_,_,rfl,_,_,p⟩:=s1;exact WB b p hu0
    |.tup ds,.int b,s1,s2=>obtain⟨_,rfl⟩:=s2;obtain⟨_,_,_,rfl,_,_,p⟩:=s1;exact WA b _ p hu0
    |.tup ds,.str b,s1,s2=>obtain⟨_,rfl⟩:=s2;obtain⟨_,_,_,rfl,_,_,p⟩:=s1;exact Wx b _ p hu0
    |.tup ds,.lst es,s1,s2=>obtain⟨_,_,_,rfl,_,_,p⟩:=s1;obtain⟨_,_,_,rfl,_,_,p2⟩:=s2;exact Wz p p2 hu0
    |.lst ds,.non,s1,s2=>cases s2;obtain⟨_,_,_,rfl,_,_,p⟩:=s1;exact Wq p hu0
    |.lst ds,.bl b,s1,s2=>cases s2;obtain⟨_,_,_,rfl,_,_,p⟩:=s1;exact Ws b p hu0
    |.lst ds,.int b,s1,s2=>obtain⟨_,rfl⟩:=s2;obtain⟨_,_,_,rfl,_,_,p⟩:=s1;exact Wr b _ p hu0
    |.lst ds,.str b,s1,s2=>obtain⟨_,rfl⟩:=s2;obtain⟨_,_,_,rfl,_,_,p⟩:=s1;exact Wp b _ p hu0
    |.lst ds,.tup es,s1,s2=>obtain⟨_,_,_,rfl,_,_,p⟩:=s1;obtain⟨_,_,_,rfl,_,_,p2⟩:=s2;exact Wo p p2 hu0
    |.tup ds,.tup es,s1,s2=>
      match n,hd,he,hu with
      |n+1,hd,he,hu=>
        obtain⟨a,xs,its,rfl,r1,v1,p1⟩:=s1;obtain⟨b,ys,its2,rfl,r2,v2,p2⟩:=s2;have l1:=v1.length;have l2:=r1.length;have l3:=v2.length;have l4:=r2.length
        refine Sw p1 p2 (by omega) (by omega) hu0 (λhab => ?_) λj h1 h2 => ?_
        · have e1:v = .ref a:=Be.inj rv rfl;have e2:w' = .ref b:=Be.inj rw' rfl;subst e1 e2 hab;have z:=Ii I (n+1) _ _ hd he r q
          injection z with z
          rw[z];exact eqDs_refl n es he
        · obtain⟨x,rx,qx⟩:=Gp r1 v1 h1;obtain⟨y,ry,qy⟩:=Gp r2 v2 h2;exact(Hx I n _ _ x y _ _ B.in1 (Gd hd j) (Gd he j) rx ry qx qy (by show B.units+1+n<Bo;omega)).2.1
    |.lst ds,.lst es,s1,s2=>
      match n,hd,he,hu with
      |n+1,hd,he,hu=>
        obtain⟨a,xs,its,rfl,r1,v1,p1⟩:=s1;obtain⟨b,ys,its2,rfl,r2,v2,p2⟩:=s2;have l1:=v1.length;have l2:=r1.length;have l3:=v2.length;have l4:=r2.length
        refine Sy p1 p2 (by omega) (by omega) hu0 (λhab => ?_) λj h1 h2 => ?_
        · have e1:v = .ref a:=Be.inj rv rfl;have e2:w' = .ref b:=Be.inj rw' rfl;subst e1 e2 hab;have z:=Ii I (n+1) _ _ hd he r q
          injection z with z
          rw[z];exact eqDs_refl n es he
        · obtain⟨x,rx,qx⟩:=Gp r1 v1 h1;obtain⟨y,ry,qy⟩:=Gp r2 v2 h2;exact(Hx I n _ _ x y _ _ B.in1 (Gd hd j) (Gd he j) rx ry qx qy (by show B.units+1+n<Bo;omega)).2.1
    |.obj _ _,_,s1,_=>exact s1.elim
    |.exc _ _,_,s1,_=>exact s1.elim
    |.dic _,_,s1,_=>exact s1.elim
    |_,.obj _ _,_,s2=>exact s2.elim
    |_,.exc _ _,_,s2=>exact s2.elim
    |_,.dic _,_,s2=>exact s2.elim
end
section
variable{X:Cx}{CL:ClA}{W:XW}
theorem Iw(I:Inv X pI Z H s)(B:AN)(hd:flD n d=Ab)(hs:ds.all (flD n)=Ab)(r:Reps X.K CL H A0 xs ds)(rv:AS xs its)(q:Rep X.K CL H A0 v d)(qv:Be v u)(hu:B.units+n<Bo):∃ e:Ah->Aj,(∀ y,y∈its.toArray->D9 B s y u (e y))/\its.toArray.any e=ds.any λy=>eqD y d:=by
 have l1:=rv.length;have l2:=r.length
 have key : ∀ y,y∈its -> ∃ k:Aj,D9 B s y u k /\ ∀ j (h:j<its.length),its[j]=y->eqD (ds.getD j .non) d=k:=λy hy=>by
  obtain⟨j,hj,rfl⟩:=Eh hy;obtain⟨x,rx,qx⟩:=Gp r rv hj;refine⟨eqD (ds.getD j .non) d,(Hx I n _ _ x v _ _ B (Gd hs j) hd rx q qx qv hu).2.1,λj' hj' e => ?_⟩
  obtain⟨x',rx',qx'⟩:=Gp r rv hj';rw[e]at qx';have z:=Be.inj qx qx';subst z;rw[Ii I n _ _ (Gd hs j') (Gd hs j) rx' rx]
 have key2 : ∀ y,∃ k:Aj,y∈its->D9 B s y u k /\ ∀ j (h:j<its.length),its[j]=y->eqD (ds.getD j .non) d=k:=λy=>by
  by_cases hy:y∈its
  .obtain⟨k,hk⟩:=key y hy;exact⟨k,λ_=>hk⟩
  .exact⟨Ab,λh=>absurd h hy⟩
 refine⟨λy=>Classical.choose (key2 y),λy hy=>(DZ (key2 y) (by simpa using hy)).1,?_⟩
 rw[OL];simp only[List.any_toArray,DP];constructor
 .rintro⟨y,hy,hk⟩;obtain⟨j,hj,rfl⟩:=Eh hy;have z:=(DZ (key2 its[j]) hy).2 j hj rfl;rw[hk]at z;refine⟨ds.getD j .non,?_,z⟩;rw[Cr,BO (by omega)]
  exact ES _
 .rintro⟨y,hy,hk⟩;obtain⟨j,hj,rfl⟩:=Eh hy;have hj':j<its.length:=by omega
  refine⟨its[j],ES _,?_⟩;have z:=(DZ (key2 its[j]) (ES _)).2 j hj' rfl;rw[<-z,Cr,BO hj];exact hk
theorem HZ{g:Ao->Ao->Aj}(ho:OpR X (B2 op) (rI0 λi j => .bl (g i j)))(hg : ∀ dx dy,(∃ i j,dx = .int i/\dy = .int j/\Br op dx dy = .ok (.bl (g i j)))\/Br op dx dy = .bad):OpD X CL W (B2 op) (Br op):=by
 intro A pI s Z H x y v u Q I rx ry ⟨hA,dx,dy,hx,hy,p⟩;rcases hg dx dy with ⟨i,j,rfl,rfl,e⟩|e
 .have ex:=hx.int_of;have ey:=hy.int_of
  subst ex ey;rw[e]at p;exact ho pI s Z H _ _ v u Q I rx ry ⟨i,j,rfl,rfl,p _ H (Av.refl H) rfl⟩
 .rw[e]at p;exact p.elim
theorem MX{x:V}(h:BZ X.K CL H A x d)(hd:d ≠ .non):x ≠ .non:=by
 rintro rfl;have h:=h.plain;cases d with
 |non=>exact hd rfl
 |tup=>obtain⟨_,_,e,_⟩:=h;cases e
 |lst=>obtain⟨_,_,e,_⟩:=h;cases e
 |obj=>obtain⟨_,_,_,_,e,_⟩:=h;cases e
 |exc=>obtain⟨_,_,_,e,_⟩:=h;cases e
 |dic=>exact h.elim
 |_=>cases h
theorem Il(hu:X.A.units+64<Bo)(op:Cd):OpD X CL W (B2 op) (Br op):=by
 cases op with
 |Eq=>
  intro A pI s Z H x y v u Q I rx ry ⟨hA,dx,dy,hx,hy,p⟩;rw[XG]at p;split at p
  .rename_i h;simp only[Al]at h;exact(Hx I 5 dx dy x y v u X.A h.1 h.2 hx.plain hy.plain rx ry (by omega)).1 X.prog X.w X.xe _ ⟨.bl _,H,I,rfl,p _ H (Av.refl H) rfl⟩
  .exact p.elim
 |NotEq=>
  intro A pI s Z H x y v u Q I rx ry ⟨hA,dx,dy,hx,hy,p⟩;rw[W5]at p;split at p
  .rename_i h;simp only[Al]at h;exact(Hx I 5 dx dy x y v u X.A h.1 h.2 hx.plain hy.plain rx ry (by omega)).2.2 X.prog X.w X.xe _ ⟨.bl _,H,I,rfl,p _ H (Av.refl H) rfl⟩
  .exact p.elim
 |Lt=>
  refine HZ Xv λdx dy => ?_
  cases dx with
  |int i=>
   cases dy with
   |int j=>exact .inl ⟨i,j,rfl,rfl,rfl⟩
   |_=>exact .inr rfl
  |_=>exact .inr rfl
 |LtE=>
  refine HZ Xx λdx dy => ?_
  cases dx with
  |int i=>
   cases dy with
   |int j=>exact .inl ⟨i,j,rfl,rfl,rfl⟩
   |_=>exact .inr rfl
  |_=>exact .inr rfl
 |Gt=>
  refine HZ Xy λdx dy => ?_
  cases dx with
  |int i=>
   cases dy with
   |int j=>exact .inl ⟨i,j,rfl,rfl,rfl⟩
   |_=>exact .inr rfl
  |_=>exact .inr rfl
 |GtE=>
  refine HZ Xz λdx dy => ?_
  cases dx with
  |int i=>
   cases dy with
   |int j=>exact .inl ⟨i,j,rfl,rfl,rfl⟩
   |_=>exact .inr rfl
  |_=>exact .inr rfl
 |In=>
  intro A pI s Z H x y v u Q I rx ry ⟨hA,dx,dy,hx,hy,p⟩;cases dy with
  |lst es=>
   rw[XX]at p;split at p
   .rename_i h;simp only[Al]at h;obtain⟨a,xs,e,_,sq,r⟩:=hy.plain;subst e;cases ry;obtain⟨its,rv,pl,_⟩:=I.list sq;obtain⟨e,he,ha⟩:=Iw I (n:=5) X.A.in1 h.1 h.2 r rv hx.plain rx (by show X.A.units+1+5<Bo;omega)
    refine SeqAt.in_listAt e (GS pl) he ?_;rw[ha];exact⟨.bl _,H,I,rfl,p _ H (Av.refl H) rfl⟩
   .exact p.elim
  |tup es=>
   rw[XV]at p;split at p
   .rename_i h;simp only[Al]at h;obtain⟨a,xs,e,_,sq,r⟩:=hy.plain;subst e;cases ry;obtain⟨its,rv,pl,_⟩:=I.tuple sq;obtain⟨e,he,ha⟩:=Iw I (n:=5) X.A.in1 h.1 h.2 r rv hx.plain rx (by show X.A.units+1+5<Bo;omega)
    refine SeqAt.in_tupleAt e pl he ?_;rw[ha];exact⟨.bl _,H,I,rfl,p _ H (Av.refl H) rfl⟩
   .exact p.elim
  |dic kvs=>exact hy.plain.elim
  |_=>exact p.elim
 |NotIn=>
  intro A pI s Z H x y v u Q I rx ry ⟨hA,dx,dy,hx,hy,p⟩;cases dy with
  |lst es=>
   rw[W4]at p;split at p
   .rename_i h;simp only[Al]at h;obtain⟨a,xs,e,_,sq,r⟩:=hy.plain;subst e;cases ry;obtain⟨its,rv,pl,_⟩:=I.list sq;obtain⟨e,he,ha⟩:=Iw I (n:=5) X.A.in1 h.1 h.2 r rv hx.plain rx (by show X.A.units+1+5<Bo;omega)
    refine SeqAt.notIn_listAt e (GS pl) he ?_;rw[ha];exact⟨.bl _,H,I,rfl,p _ H (Av.refl H) rfl⟩
   .exact p.elim
  |tup es=>
   rw[W3]at p;split at p
   .rename_i h;simp only[Al]at h;obtain⟨a,xs,e,_,sq,r⟩:=hy.plain;subst e;cases ry;obtain⟨its,rv,pl,_⟩:=I.tuple sq;obtain⟨e,he,ha⟩:=Iw I (n:=5) X.A.in1 h.1 h.2 r rv hx.plain rx (by show X.A.units+1+5<Bo;omega)
    refine SeqAt.notIn_tupleAt e pl he ?_;rw[ha];exact⟨.bl _,H,I,rfl,p _ H (Av.refl H) rfl⟩
   .exact p.elim
  |_=>exact p.elim
 |Is=>
  intro A pI s Z H x y v u Q I rx ry ⟨hA,dx,dy,hx,hy,p⟩;cases dy with
  |non=>
   have ey:=hy.non_of;subst ey;refine Vm pI s Z H _ _ v u Q I rx ry ⟨rfl,?_⟩;cases dx with
   |non=>
    have ex:=hx.non_of;subst ex;exact p _ H (Av.refl H) rfl
   |exc=>exact p.elim
   |dic=>exact p.elim
   |_=>rw[Cf (MX hx (by simp))];exact p _ H (Av.refl H) rfl
  |bl b=>
   cases dx with
   |bl a=>
    have ey:=hy.bl_of;have ex:=hx.bl_of;subst ex ey;cases rx;cases ry;refine wpAny_is_plain rfl ⟨.bl (a==b),H,I,?_,p _ H (Av.refl H) rfl⟩;cases a <;> cases b <;> rfl
   |_=>exact p.elim
  |_=>cases dx <;> exact p.elim
 |IsNot=>
  intro A pI s Z H x y v u Q I rx ry ⟨hA,dx,dy,hx,hy,p⟩;cases dy with
  |non=>
   have ey:=hy.non_of;subst ey;refine Up pI s Z H _ _ v u Q I rx ry ⟨rfl,?_⟩;cases dx with
   |non=>
    have ex:=hx.non_of;subst ex;exact p _ H (Av.refl H) rfl
   |exc=>exact p.elim
   |dic=>exact p.elim
   |_=>rw[Cf (MX hx (by simp))];exact p _ H (Av.refl H) rfl
  |bl b=>
   cases dx with
   |bl a=>
    have ey:=hy.bl_of;have ex:=hx.bl_of;subst ex ey;cases rx;cases ry;refine wpAny_isNot_plain rfl ⟨.bl (!(a==b)),H,I,?_,p _ H (Av.refl H) rfl⟩;cases a <;> cases b <;> rfl
   |_=>exact p.elim
  |_=>cases dx <;> exact p.elim
end
section
variable{X:Cx}{CL:ClA}{W:XW}{a b c:Ak}{fa fb fc:Rho->R D}{pos:Az}
theorem B8.bind{f:D->R Aj}{Q:Aj->Hp->Prop}{Q':VK}(h:B8 W H (r.bind f) Q)(k : ∀ d v H',r = .ok d->Av H H'->Rp H' v d->B8 W H' (f d) Q->Q' v H'):A3 Rp W H r Q':=by
 cases r with
 |ok d=>exact λv H2 s2 q=>k d v H2 rfl s2 q (B8.same s2 h)
 |exn x=>exact h
 |bad=>exact h
theorem B8.bindB{r:R Aj}{f:Aj->R Aj}{Q:Aj->Hp->Prop}{Q':Aj->Hp->Prop}(h:B8 W H (r.bind f) Q)(k : ∀ b H',r = .ok b->Av H H'->B8 W H' (f b) Q->Q' b H'):B8 W H r Q':=by
 cases r with
 |ok d=>exact λH2 s2=>k d H2 rfl s2 (B8.same s2 h)
 |exn x=>exact h
 |bad=>exact h
theorem E6.bind{Rp:Hp->Ad V->Ad D->Prop}{r:R (Ad D)}{f:Ad D->R D}{Q':Ad V->Hp->Prop}(h:A3 Rq W H (r.bind f) Q)(k : ∀ d v H',r = .ok d->Av H H'->Rp H' v d->A3 Rq W H' (f d) Q->Q' v H'):E6 Rp W H r Q':=by
 cases r with
 |ok d=>exact λv H2 s2 q=>k d v H2 rfl s2 q (A3.same s2 h)
 |exn x=>exact h
 |bad=>exact h
theorem JR{f:Aj->R D}(h:A3 Rq W H ((Cu d).bind f) Q) : ∃ c,d = .bl c/\A3 Rq W H (f c) Q:=by
 cases d with
 |bl c=>exact⟨c,rfl,h⟩
 |_=>exact h.elim
theorem M9(ha:ST X CL W a fa):SE X CL W (.UnaryOp .Not a pos) (λY=>(fa Y).bind λx=>(Cu x).bind λb => .ok (.bl (!b))):=λA=>PE.weak (Ve (ha A)) λZ H Q ⟨hA,Y,g,p⟩=>⟨hA,Y,g,A3.bind p λd v H1 _ s1 r1 p1=>by
 obtain⟨c,rfl,p2⟩:=JR p1;exact⟨c,r1.bl_of,p2 _ H1 (Av.refl H1) rfl⟩⟩
theorem Kl{op}(ha:SE X CL W a fa):SE X CL W (.BoolOp op [a] pos) fa:=λA=>Vd (ha A)
theorem Nd(ha:SE X CL W a fa)(hb:SE X CL W (.BoolOp .And (b::Bg) pos) fb):SE X CL W (.BoolOp .And (a::b::Bg) pos) (λY=>(fa Y).bind λx=>(Cu x).bind λc=>if c=Ab then fb Y else .ok (.bl Ac)):=
 λA=>PE.weak (Vi (ha A) (hb A)) λZ H Q ⟨hA,Y,g,p⟩=>⟨hA,Y,g,A3.bind p λd v H1 _ s1 r1 p1=>by
  obtain⟨c,rfl,p2⟩:=JR p1;refine⟨c,r1,?_⟩;cases c with
  |true=>exact⟨hA.same s1,Y,g.same s1,p2⟩
  | false=>exact p2 _ H1 (Av.refl H1) rfl⟩
theorem Ww(ha:SE X CL W a fa)(hb:SE X CL W (.BoolOp .Or (b::Bg) pos) fb):SE X CL W (.BoolOp .Or (a::b::Bg) pos) (λY=>(fa Y).bind λx=>(Cu x).bind λc=>if c=Ab then .ok (.bl Ab) else fb Y):=
 λA=>PE.weak (Xp (ha A) (hb A)) λZ H Q ⟨hA,Y,g,p⟩=>⟨hA,Y,g,A3.bind p λd v H1 _ s1 r1 p1=>by
  obtain⟨c,rfl,p2⟩:=JR p1;refine⟨c,r1,?_⟩;cases c with
  |false=>exact⟨hA.same s1,Y,g.same s1,p2⟩
  | true=>exact p2 _ H1 (Av.refl H1) rfl⟩
theorem Mr{xs:Ad D}{i:Ao}(h:CZ xs i = .ok d) : ∃ k,plD xs.length i=Aa k/\xs[k]? = Aa d:=by
 unfold CZ at h;split at h
 .rename_i k e;split at h
  .rename_i d' e';cases h;exact⟨k,e,e'⟩
  .cases h
 .cases h
theorem GO{xs:Ad D}{i:Ao}(h:CZ xs i = .exn x):AT:=by
 unfold CZ at h;split at h
 .split at h <;> cases h
 .cases h
theorem MR{i:Ao}(r:Reps K CL H A xs ds)(h:CZ ds i = .ok d) : ∃ v,atI xs i=Aa v/\Rep K CL H A v d:=by
 obtain⟨k,e,q⟩:=Mr h;obtain⟨v,hv,rv⟩:=r.get q;refine⟨v,?_,rv⟩;unfold atI;have:ixN xs.length i=Aa k:=by rw[r.length];exact e
 rw[this];exact hv
theorem UM{z:Ag}{i:Ao}(h:CZ (FQ z) i = .ok d) : ∃ c,atI z.cps.toList i=Aa c/\d = .str ⟨#[c]⟩:=by
 obtain⟨k,e,q⟩:=Mr h;unfold FQ at e q;rw[Co]at e;rw[CT]at q;cases hc:z.cps.toList[k]? with
 |none=>rw[hc]at q;cases q
 |some c=>
  rw[hc]at q;refine⟨c,?_,(BD q).symm⟩;unfold atI;have:ixN z.cps.toList.length i=Aa k:=e;rw[this];exact hc
theorem QV(h:B9 n=Ab):n<=sizeLine:=by
 unfold B9 at h;have:=Cb h;rw[Cc];omega
theorem VC(hs:J9 b)(ha:ST X CL W a fa)(hb:ST X CL W b fb):SE X CL W (.Subscript a b pos) (λY=>(fa Y).bind λx=>(fb Y).bind λy=>Ga x y):=
 λA=>PE.weak (Xq (r:=rIx X.K) ix_seq (ha A) (hb A) hs) λZ H Q h=>by
  obtain⟨hA,Y,g,h⟩:=op2 h;refine⟨hA,Y,g,?_⟩;cases e:fa Y with
  |bad=>rw[e]at h;exact h
  |exn x=>rw[e]at h;exact h
  |ok dx0=>
   rw[e]at h;intro x H1 s1 r1;obtain⟨hA1,Y1,g1,h1⟩:=h x H1 s1 r1;refine⟨hA1,Y1,g1,?_⟩;cases e1:fb Y1 with
   |bad=>rw[e1]at h1;exact h1
   |exn x=>rw[e1]at h1;exact h1
   |ok dy0=>
    rw[e1]at h1;intro y H2 s2 r2;obtain⟨hA2,dx,dy,rx,ry,p⟩:=h1 y H2 s2 r2;cases dy with
    |int i=>
     have ey:=ry.int_of;subst ey;cases dx with
     |lst ds=>
      obtain⟨q,xs,rfl,sq,r⟩:=rx.lst_of;rw[WX]at p;cases e2:CZ ds i with
      |ok d=>
       rw[e2]at p;obtain⟨v,hv,rv⟩:=MR r e2;exact .inl ⟨q,xs,i,v,rfl,rfl,sq,hv,p v H2 (Av.refl H2) rv⟩
      |exn x=>exact(GO e2).elim
      |bad=>rw[e2]at p;exact p.elim
     |tup ds=>
      obtain⟨q,xs,rfl,_,sq,r⟩:=rx.tup_of;rw[WW]at p;cases e2:CZ ds i with
      |ok d=>
       rw[e2]at p;obtain⟨v,hv,rv⟩:=MR r e2;exact .inr (.inl ⟨q,xs,i,v,rfl,rfl,sq,hv,p v H2 (Av.refl H2) rv⟩)
      |exn x=>exact(GO e2).elim
      |bad=>rw[e2]at p;exact p.elim
     |str z=>
      have ex:=rx.str_of;subst ex;have p':A3 (λH=>Rep X.K CL H A) W H2 (if B9 z.length=Ab then CZ (FQ z) i else .bad) Q:=p
      split at p'
      .rename_i hz;cases e2:CZ (FQ z) i with
       |ok d=>
        rw[e2]at p';obtain⟨c,hc,rfl⟩:=UM e2;exact .inr (.inr ⟨z,i,c,rfl,rfl,QV hz,hc,p' _ H2 (Av.refl H2) rfl⟩)
       |exn x=>exact(GO e2).elim
       |bad=>rw[e2]at p';exact p'.elim
      .exact p'.elim
     |dic=>exact rx.plain.elim
     |_=>exact p.elim
    |_=>cases dx <;> first|exact p.elim|exact rx.plain.elim
theorem Nf:SA X CL W [] (λ_ => .ok []):=λA=>PA.weak E2 λZ H Q ⟨hA,Y,g,p⟩=>p [] H (Av.refl H) trivial
theorem MO(ha:SE X CL W a fa)(hs:SA X CL W es fs)(hst:Aq (a::es) X.env=(Ac,eval a X.env)::Aq es X.env):SA X CL W (a::es) (λY=>(fa Y).bind λx=>(fs Y).bind λxs => .ok (x::xs)):=
 λA=>PA.weak (Du (ha A) (hs A) hst) λZ H Q ⟨hA,Y,g,p⟩=>by
  dsimp only at p;refine⟨hA,Y,g,?_⟩;cases e:fa Y with
  |bad=>rw[e]at p;exact p
  |exn x=>rw[e]at p;exact p
  |ok d=>
   rw[e]at p;intro v H1 s1 r1;refine⟨hA.same s1,Y,g.same s1,?_⟩;cases e1:fs Y with
   |bad=>rw[R.bind_ok,e1]at p;exact p
   |exn x=>rw[R.bind_ok,e1]at p;exact λH2 s2=>p H2 (s1.trans s2)
   |ok ds=>
    rw[R.bind_ok,e1]at p;exact λvs H2 s2 r2=>p (v::vs) H2 (s1.trans s2) ⟨r1.same s2,r2⟩
theorem M7{k:Ae}(hs:SA X CL W es fs)(hz : ∀ Y ds,fs Y = .ok ds->ds.length<=100000):SE X CL W (.Tuple es k pos) (λY=>(fs Y).bind λxs => .ok (.tup xs)):=
 λA=>PE.weak (Nh (hs A)) λZ H Q ⟨hA,Y,g,p⟩=>⟨hA,Y,g,E6.bind p λds vs H1 e s1 r1 p1=>⟨by
  rw[r1.length,Cc];have:=hz Y ds e;omega,λq hq=>p1 _ _ (E5 hq _) (JS (hA.same s1) hq r1)⟩⟩
noncomputable def HF(W:XW)(H:Hp)(r:R (An Ao))(Q:An Ao->Hp->Prop):Prop:=match r with
  |.ok o => ∀ H',Av H H'->Q o H'
  |.exn x => ∀ H',Av H H'->W x H'
  |.bad=>AT
theorem HF.bind{r:R (An Ao)}{f:An Ao->R D}(h:A3 Rq W H (r.bind f) Q)(k : ∀ o H',r = .ok o->Av H H'->A3 Rq W H' (f o) Q->Q' o H'):HF W H r Q':=by
 cases r with
 |ok d=>exact λH2 s2=>k d H2 rfl s2 (A3.same s2 h)
 |exn x=>exact h
 |bad=>exact h
noncomputable def SO(X:Cx)(CL:ClA)(W:XW)(e:An Ak)(f:Rho->R (An Ao)):Prop := ∀ A,PO X e (λZ H Q=>AOk H A /\ ∃ Y,Good X.K CL A Y Z H/\HF W H (f Y) Q)
theorem PO.weak{e:An Ak}{t t':TO}(h:PO X e t)(k : ∀ Z H Q,t' Z H Q->t Z H Q):PO X e t':=λpI s Z H Q I q=>h pI s Z H Q I (k _ _ _ q)
theorem S8:SO X CL W Af (λ_ => .ok Af):=λA=>PO.weak Ud λZ H Q ⟨hA,Y,g,p⟩=>p H (Av.refl H)
theorem S7(ha:ST X CL W a fa):SO X CL W (Aa a) (λY=>(fa Y).bind λd=>(Dw d).bind λi => .ok (Aa i)):=λA=>PO.weak (Uc (ha A)) λZ H Q ⟨hA,Y,g,p⟩=>by
 dsimp only at p;refine⟨hA,Y,g,?_⟩;cases e:fa Y with
 |bad=>rw[e]at p;exact p
 |exn x=>rw[e]at p;exact p
 |ok d=>
  rw[e]at p;intro v H1 s1 r1;cases d with
  |int i=>exact⟨i,r1.int_of,p H1 s1⟩
  |_=>exact p.elim
end
section
variable{X:Cx}{CL:ClA}{W:XW}{a b c:Ak}{fa fb fc:Rho->R D}{pos:Az}
def El(K:Fg)(CL:ClA)(H:Hp)(A:Ai->Prop):Ad V->Ad D->Prop
 |[],[]=>E1
 |v::vs,d::ds=>BZ K CL H A v d/\El K CL H A vs ds
 |_,_=>AT
theorem El.same{K:Fg}{H H':Hp}{A:Ai->Prop}(s:Av H H') : ∀{vs:Ad V}{ds:Ad D},El K CL H A vs ds->El K CL H' A vs ds
 |[],[],h=>h
 |_::_,_::_,h=>⟨h.1.same s,El.same s h.2⟩
 |[],_::_,h=>h.elim
 |_::_,[],h=>h.elim
theorem El.one{vs:Ad V}(h:El K CL H A vs [d]) : ∃ v,vs=[v]/\BZ K CL H A v d:=by
 cases vs with
 |nil=>exact h.elim
 |cons v vs=>
  cases vs with
  |nil=>exact⟨v,rfl,h.1⟩
  |cons=>exact h.2.elim
noncomputable def SAT(X:Cx)(CL:ClA)(W:XW)(es:Ad Ak)(f:Rho->R (Ad D)):Prop := ∀ A,PA X es (λZ H Q=>AOk H A /\ ∃ Y,Good X.K CL A Y Z H/\E6 (λH=>El X.K CL H A) W H (f Y) Q)
theorem Su:SAT X CL W [] (λ_ => .ok []):=λA=>PA.weak E2 λZ H Q ⟨hA,Y,g,p⟩=>p [] H (Av.refl H) trivial
theorem RB(ha:ST X CL W a fa)(hs:SAT X CL W es fs)(hst:Aq (a::es) X.env=(Ac,eval a X.env)::Aq es X.env):SAT X CL W (a::es) (λY=>(fa Y).bind λx=>(fs Y).bind λxs => .ok (x::xs)):=
 λA=>PA.weak (Du (ha A) (hs A) hst) λZ H Q ⟨hA,Y,g,p⟩=>by
  dsimp only at p;refine⟨hA,Y,g,?_⟩;cases e:fa Y with
  |bad=>rw[e]at p;exact p
  |exn x=>rw[e]at p;exact p
  |ok d=>
   rw[e]at p;intro v H1 s1 r1;refine⟨hA.same s1,Y,g.same s1,?_⟩;cases e1:fs Y with
   |bad=>rw[R.bind_ok,e1]at p;exact p
   |exn x=>rw[R.bind_ok,e1]at p;exact λH2 s2=>p H2 (s1.trans s2)
   |ok ds=>
    rw[R.bind_ok,e1]at p;exact λvs H2 s2 r2=>p (v::vs) H2 (s1.trans s2) ⟨r1.same s2,r2⟩
noncomputable def HG(X:Cx)(CL:ClA)(W:XW)(f:Ah)(g:Ad D->R D):Prop := ∀ A,F4 X f (λxs H Q=>AOk H A /\ ∃ ds,El X.K CL H A xs ds/\A3 (λH=>Rep X.K CL H A) W H (g ds) Q)
theorem Nc{x:Ag}{id:B6}{p:Az}{g:Ad D->R D}(hc:HG X CL W (.builtin id) g)(hg:Gl X x)(hm:X.mg x=Af)(hv:B5 x=Aa (.builtin id))(ha:SAT X CL W (e::es) fs)(hn:x ≠ "__name__")(hdb:(x==("__debug__" : Ag))=Ac)(he:Aq (e::es) X.env=(Ac,eval e X.env)::Aq es X.env)(hpl : ∀ pos,(Bv pos (Aq es X.env)).any (·.1)=Ac):SE X CL W (.Call (.Name x p) (e::es) [] pos) (λY=>(fs Y).bind g):=λA=>PE.weak (Hn (hc A) hg hm hv (ha A) hn hdb he (hpl _)) λZ H Q ⟨hA,Y,gd,q⟩=>⟨hA,Y,gd,E6.bind q λds vs H1 _ s1 r1 p1=>⟨hA.same s1,ds,r1,p1⟩⟩
theorem VE{x:Ag}{p:Az}{g:Ad D->R D}(hc:HG X CL W (.type T) g)(hg:Gl X x)(hm:X.mg x=Af)(hv:B5 x=Aa (.type T))(ha:SAT X CL W (e::es) fs)(hn:x ≠ "__name__")(hdb:(x==("__debug__" : Ag))=Ac)(he:Aq (e::es) X.env=(Ac,eval e X.env)::Aq es X.env)(hpl : ∀ pos,(Bv pos (Aq es X.env)).any (·.1)=Ac):SE X CL W (.Call (.Name x p) (e::es) [] pos) (λY=>(fs Y).bind g):=λA=>PE.weak (LR (hc A) hg hm hv (ha A) hn hdb he (hpl _)) λZ H Q ⟨hA,Y,gd,q⟩=>⟨hA,Y,gd,E6.bind q λds vs H1 _ s1 r1 p1=>⟨hA.same s1,ds,r1,p1⟩⟩
theorem VT:HG X CL W (.builtin "len") (biD .len):=by
  intro A pI s Z H xs us Q I r ⟨hA,ds,rs,p⟩
  match ds,rs,p with
  |[.lst es],rs,p=>
    obtain⟨v,rfl,rv⟩:=rs.one;obtain⟨q,ys,rfl,sq,ry⟩:=rv.lst_of;exact Ln pI s Z H _ us Q I r ⟨q,ys,rfl,.inl sq,p _ H (Av.refl H) (by rw[ry.length];rfl)⟩
  |[.tup es],rs,p=>
    obtain⟨v,rfl,rv⟩:=rs.one;obtain⟨q,ys,rfl,_,sq,ry⟩:=rv.tup_of;exact Ln pI s Z H _ us Q I r ⟨q,ys,rfl,.inr sq,p _ H (Av.refl H) (by rw[ry.length];rfl)⟩
  |[.str x],rs,p=>
    obtain⟨v,rfl,rv⟩:=rs.one;have e:=rv.str_of;subst e;have p':A3 (λH=>Rep X.K CL H A) W H (if B9 x.length=Ab then .ok (.int x.length) else .bad) Q:=p
    split at p'
    · rename_i h;exact QJ pI s Z H _ us Q I r ⟨x,rfl,Ge h,p' _ H (Av.refl H) rfl⟩
    · exact p'.elim
  |[],_,p=>exact p.elim
  |[.non],_,p=>exact p.elim
  |[.bl _],_,p=>exact p.elim
  |[.int _],_,p=>exact p.elim
  |[.obj _ _],_,p=>exact p.elim
  |[.exc _ _],_,p=>exact p.elim
  |[.dic _],rs,p=>first|exact p.elim|(obtain⟨v,rfl,rv⟩:=rs.one;exact rv.plain.elim)
  |x::_::_,_,p=>cases x <;> exact p.elim
theorem R3:HG X CL W (.type "tuple") (biD .tuple):=by
  intro A pI s Z H xs us Q I r ⟨hA,ds,rs,p⟩
  match ds,rs,p with
  |[.lst es],rs,p=>
    obtain⟨v,rfl,rv⟩:=rs.one;obtain⟨q,ys,rfl,sq,ry⟩:=rv.lst_of;exact Lk pI s Z H _ us Q I r ⟨q,ys,rfl,.inl ⟨sq,λl hl=>p _ _ (E5 hl _) (JS hA hl ry)⟩⟩
  |[.tup es],rs,p=>
    obtain⟨v,rfl,rv⟩:=rs.one;obtain⟨q,ys,rfl,na,sq,ry⟩:=rv.tup_of;exact Lk pI s Z H _ us Q I r ⟨q,ys,rfl,.inr ⟨sq,p _ H (Av.refl H) ⟨q,ys,rfl,na,sq,ry⟩⟩⟩
  |[],_,p=>exact p.elim
  |[.non],_,p=>exact p.elim
  |[.bl _],_,p=>exact p.elim
  |[.int _],_,p=>exact p.elim
  |[.str _],_,p=>exact p.elim
  |[.obj _ _],_,p=>exact p.elim
  |[.exc _ _],_,p=>exact p.elim
  |[.dic _],rs,p=>first|exact p.elim|(obtain⟨v,rfl,rv⟩:=rs.one;exact rv.plain.elim)
  |x::_::_,_,p=>cases x <;> exact p.elim
end
section
variable{X:Cx}{CL:ClA}{W:XW}{a b c:Ak}{fa fb fc:Rho->R D}{pos:Az}
theorem SB.congr{g:Rho->R Aj}(h:SB X CL W a f)(e : ∀ Y,g Y=f Y):SB X CL W a g:=λA=>PT.weak (h A) λZ H Q ⟨hA,Y,q,p⟩=>⟨hA,Y,q,by rw[<-e];exact p⟩
theorem VG(ha:SB X CL W a f):SB X CL W (.UnaryOp .Not a pos) (λY=>(f Y).bind λb => .ok (!b)):=λA=>PT.weak (U_6 (ha A)) λZ H Q ⟨hA,Y,g,p⟩=>⟨hA,Y,g,B8.bindB p λb H1 _ s1 p1=>p1 H1 (Av.refl H1)⟩
noncomputable def SW(X:Cx)(CL:ClA)(W:XW)(e:Ak)(f:Rho->R Aj):Prop := ∀ A,PW X e (λZ H Q=>AOk H A /\ ∃ Y,Good X.K CL A Y Z H/\B8 W H (f Y) Q)
theorem PW.weak(h:PW X e t)(k : ∀ Z H Q,t' Z H Q->t Z H Q):PW X e t':=λwh pI s Z H Q I q=>h wh pI s Z H Q I (k _ _ _ q)
theorem SW.sb(h:SW X CL W a f):SB X CL W a f:=λA=>PW.pt (h A)
theorem SW.congr{g:Rho->R Aj}(h:SW X CL W a f)(e : ∀ Y,g Y=f Y):SW X CL W a g:=λA=>PW.weak (h A) λZ H Q ⟨hA,Y,q,p⟩=>⟨hA,Y,q,by rw[<-e];exact p⟩
theorem SX(ha:SB X CL W a f):SW X CL W (.BoolOp .And [a] pos) f:=λA=>T4 (ha A)
theorem Uu(ha:SB X CL W a f):SW X CL W (.BoolOp .Or [a] pos) f:=λA=>U_4 (ha A)
theorem Uv{g:Rho->R Aj}(ha:SB X CL W a f)(hb:SW X CL W (.BoolOp .And (b::Bg) pos) g):SW X CL W (.BoolOp .And (a::b::Bg) pos) (λY=>(f Y).bind λc=>if c=Ab then g Y else .ok Ac):=
 λA=>PW.weak (U_5 (ha A) (hb A)) λZ H Q ⟨hA,Y,gd,p⟩=>⟨hA,Y,gd,B8.bindB p λc H1 _ s1 p1=>by
  cases c with
  |true=>exact⟨hA.same s1,Y,gd.same s1,p1⟩
  | false=>exact p1 H1 (Av.refl H1)⟩
theorem WN{g:Rho->R Aj}(ha:SB X CL W a f)(hb:SW X CL W (.BoolOp .Or (b::Bg) pos) g):SW X CL W (.BoolOp .Or (a::b::Bg) pos) (λY=>(f Y).bind λc=>if c=Ab then .ok Ab else g Y):=
 λA=>PW.weak (Xn (ha A) (hb A)) λZ H Q ⟨hA,Y,gd,p⟩=>⟨hA,Y,gd,B8.bindB p λc H1 _ s1 p1=>by
  cases c with
  |false=>exact⟨hA.same s1,Y,gd.same s1,p1⟩
  | true=>exact p1 H1 (Av.refl H1)⟩
theorem UZ(ho:OpD X CL W (B2 op) g)(ha:ST X CL W a fa)(hb:ST X CL W b fb)(hm:EA op b=Ac):SB X CL W (.Compare a [op] [b] pos) (λY=>(fa Y).bind λx=>(fb Y).bind λy=>(g x y).bind Cu):=
 λA=>PT.weak (T7 (ho A) (ha A) (hb A) hm) λZ H Q ⟨hA,Y,gd,p⟩=>⟨hA,Y,gd,B8.bind p λdx x H1 _ s1 r1 p1=>⟨hA.same s1,Y,gd.same s1,B8.bind p1 λdy y H2 _ s2 r2 p2=>
  ⟨(hA.same s1).same s2,dx,dy,r1.same s2,r2,B8.bind p2 λdz z H3 _ s3 r3 p3=>by
   cases dz with
   |bl k=>exact⟨k,r3,p3 H3 (Av.refl H3)⟩
   | _=>exact p3.elim⟩⟩⟩
theorem RA{op':Cd}(hu:X.A.units+64<Bo)(ha:ST X CL W a fa)(hb:ST X CL W b fb)(hc:ST X CL W c fc)(hm:lastMarks [op,op'] [b,c]=Ac):SB X CL W (.Compare a [op,op'] [b,c] pos) (λY=>(fa Y).bind λx=>(fb Y).bind λy=>(Br op x y).bind λz=>(Cu z).bind λk=>if k=Ab then (fc Y).bind λu=>(Br op' y u).bind Cu else .ok Ac):=
  λA=>PT.weak (RE (Il hu op A) (Il hu op' A) (ha A) (hb A) (hc A) hm) λZ H Q ⟨hA,Y,g,p⟩=>⟨hA,Y,g,B8.bind p λdx x H1 _ s1 r1 p1=>⟨hA.same s1,Y,g.same s1,B8.bind p1 λdy y H2 _ s2 r2 p2=>
    ⟨(hA.same s1).same s2,dx,dy,r1.same s2,r2,B8.bind p2 λdz z H3 _ s3 r3 p3=>by
      cases dz with
      |bl k=>
        refine⟨k,r3,?_⟩;cases k with
        |false=>exact⟨Ac,rfl,p3 H3 (Av.refl H3)⟩
        | true=>exact⟨((hA.same s1).same s2).same s3,Y,((g.same s1).same s2).same s3,B8.bind p3 λdu u H4 _ s4 r4 p5=>⟨(((hA.same s1).same s2).same s3).same s4,dy,du,(r2.same s3).same s4,r4,B8.bind p5 λdv v H5 _ s5 r5 p6=>by
            cases dv with
            |bl k'=>exact⟨k',r5,p6 H5 (Av.refl H5)⟩
            | _=>exact p6.elim⟩⟩
      | _=>exact p3.elim⟩⟩⟩
theorem VF(ha:ST X CL W a fa)(he : ∀ whole,Fv a X.env whole=(do let v <-whole;standAt a.pos;holding [v] (truthy v))):SB X CL W a (λY=>(fa Y).bind Bq):=
 λA=>PT.weak (RD (ha A) he) λZ H Q ⟨hA,Y,g,p⟩=>⟨hA,Y,g,B8.bind p λd v H1 _ s1 r1 p1=>by
  cases d with
  |non=>
   have e:=r1.non_of;subst e;exact⟨Ac,rfl,p1 H1 (Av.refl H1)⟩
  |bl b=>
   have e:=r1.bl_of;subst e;exact⟨b,rfl,p1 H1 (Av.refl H1)⟩
  |int i=>
   have e:=r1.int_of;subst e;exact⟨_,rfl,p1 H1 (Av.refl H1)⟩
  |str x=>
   have e:=r1.str_of;subst e;have p2:B8 W H1 (if B9 x.length=Ab then .ok (x.length != 0) else .bad) Q:=p1
   split at p2
   .rename_i h;refine⟨_,⟨Ge h,rfl⟩,?_⟩;have e:((x.length:Ao) != 0)=(x.length != 0):=by
     rw[OL];simp
    rw[e];exact p2 H1 (Av.refl H1)
   .exact p2.elim
  |tup ds=>
   obtain⟨q,xs,rfl,_,sq,r⟩:=r1.tup_of;refine⟨_,.inr (.inl ⟨xs,sq,rfl⟩),?_⟩;have e:xs.isEmpty=ds.isEmpty:=by
    have:=r.length;cases xs <;> cases ds <;> first|rfl|cases this
   rw[e];exact p1 H1 (Av.refl H1)
  |lst ds=>
   obtain⟨q,xs,rfl,sq,r⟩:=r1.lst_of;refine⟨_,.inl ⟨xs,sq,rfl⟩,?_⟩;have e:xs.isEmpty=ds.isEmpty:=by
    have:=r.length;cases xs <;> cases ds <;> first|rfl|cases this
   rw[e];exact p1 H1 (Av.refl H1)
  | _=>exact p1.elim⟩
noncomputable def Yo(K:Fg)(CL:ClA)(H:Hp)(A:Ai->Prop)(cls:Ah)(dx:An Ai)(x:Ex):Prop:=
 ∃ C,CL x.c=Aa C/\cls = .ref C/\(x.fs=[] \/ ∃ d vs,dx=Aa d /\ ¬ A d/\H d=Aa (.xd vs)/\Repf K CL H A vs x.fs)
noncomputable def DV(K:Fg)(CL:ClA)(H:Hp)(cls:Ah)(dx:An Ai)(x:Ex):Prop := ∀ A,AOk H A->Yo K CL H A cls dx x
end
noncomputable def Bk(B:Ai->Prop)(Y:Rho)(Z:L2.St):Ai->Prop:=λa=>B a \/ ∃(j:Ae)(d:D),Y[j]? = Aa (Aa (d,Ab))/\Z[j]? = Aa (Aa (.ref a))
structure Sx (K:Fg) (CL:ClA) (Fz:Ai->HO->Prop) (B:Ai->Prop) (Y:Rho) (Z:L2.St) (H:Hp):Prop where
 good:Good K CL (Bk B Y Z) Y Z H
 aok:AOk H (Bk B Y Z)
 new : ∀(j:Ae)(d:D)(a:Ai),Y[j]? = Aa (Aa (d,Ab))->Z[j]? = Aa (Aa (.ref a))->(∀ o,¬ Fz a o) /\ ¬ B a
 dis : ∀(i j:Ae)(d e:D)(a:Ai),Y[i]? = Aa (Aa (d,Ab))->Y[j]? = Aa (Aa (e,Ab))->Z[i]? = Aa (Aa (.ref a))->Z[j]? = Aa (Aa (.ref a))->i=j
 same : ∀ b o,Fz b o->H b=Aa o
 len:Y.length=Z.length
noncomputable def By(K:Fg)(CL:ClA)(Fz:Ai->HO->Prop)(B:Ai->Prop)(W:XW)(o:O)(D:Ends):Prop:=match o with
  |.next Y => ∀ Z H,Sx K CL Fz B Y Z H->D.nx Z H
  |.brk Y => ∀ Z H,Sx K CL Fz B Y Z H->D.bk Z H
  |.cont Y => ∀ Z H,Sx K CL Fz B Y Z H->D.ct Z H
  |.ret d fr => ∀ v H,(∀ b o,Fz b o->H b=Aa o)->Rep K CL H B v d->(fr=Ab -> ∀ ds,d = .lst ds -> ∃ a xs,v = .ref a/\(∀ o,¬ Fz a o)/\H a=Aa (.lst xs)/\Reps K CL H (λb=>B b\/b=a) xs ds)->D.rt v H
  |.exn x _ => ∀ H,(∀ b o,Fz b o->H b=Aa o)->W x H
  |.bad=>AT
section
variable{K:Fg}{CL:ClA}{Fz Fy:Ai->HO->Prop}{B:Ai->Prop}{Y:Rho}{Z:L2.St}{H H':Hp}
theorem Sx.mono(k : ∀ b o,Fz b o->Fy b o)(x:Sx K CL Fy B Y Z H):Sx K CL Fz B Y Z H:=⟨x.good,x.aok,λj d a h1 h2=>⟨λo z=>(x.new j d a h1 h2).1 o (k _ _ z),(x.new j d a h1 h2).2⟩,x.dis,λb o z=>x.same b o (k _ _ z),x.len⟩
theorem Sx.grow(x:Sx K CL Fz B Y Z H)(s:Av H H'):Sx K CL Fz B Y Z H':=⟨x.good.same s,x.aok.same s,x.new,x.dis,λb o z=>s _ _ (x.same b o z),x.len⟩
theorem BF{l:Ad α}{v:α}(h:i≠j):(l.set i v)[j]? = l[j]? := by rw[D4 h]
theorem Ej{l:Ad α}{v w':α}(h:(l.set i v)[i]? = Aa w'):w'=v:=by
 rw[DC]at h;cases e:l[i]? with
 |none=>rw[e]at h;cases h
 |some x=>rw[e]at h;cases h;rfl
theorem Sx.set(x:Sx K CL Fz B Y Z H){v:V}{d:D}(i:Ae)(r:Rep K CL H (Bk B Y Z) v d):Sx K CL Fz B (Y.set i (Aa (d,Ac))) (Z.set i (Aa v)) H:=by
 have own : ∀(j:Ae)(e:D),(Y.set i (Aa (d,Ac)))[j]? = Aa (Aa (e,Ab))->i≠j/\Y[j]? = Aa (Aa (e,Ab)):=λj e h=>by
  by_cases hj:i=j
  .subst hj;have:=Ej h;cases this
  .exact⟨hj,by rw[BF hj]at h;exact h⟩
 have sub : ∀ a,Bk B (Y.set i (Aa (d,Ac))) (Z.set i (Aa v)) a->Bk B Y Z a:=λa h=>by
  rcases h with h|⟨j,e,h1,h2⟩
  .exact .inl h
  .obtain⟨hj,h1⟩:=own j e h1;rw[BF hj]at h2;exact .inr ⟨j,e,h1,h2⟩
 refine⟨⟨λj e h => ?_,λj e h => ?_,by rw[AX,AX];exact x.len⟩,λa h=>x.aok a (sub a h),λj e a h1 h2 => ?_,λj k e f a h1 h2 h3 h4 => ?_,x.same,by rw[AX,AX];exact x.len⟩
 .by_cases hj:i=j
  .subst hj;have e1:=Ej h;cases e1;refine⟨v,?_,Rep.sub sub _ r⟩;have hl:i<Z.length:=by
    rw[<-x.len];have:=(A2.mp h).1;simpa using this
   rw[B3 hl]
  .rw[BF hj]at h;obtain⟨w',q,rw'⟩:=x.good.sh j e h;exact⟨w',by rw[BF hj];exact q,Rep.sub sub _ rw'⟩
 .obtain⟨hj,h1⟩:=own j e h;obtain⟨a,xs,ds,q,z,ha,hh,rr⟩:=x.good.ow j e h1;exact⟨a,xs,ds,by rw[BF hj];exact q,z,.inr ⟨j,e,h,by rw[BF hj];exact q⟩,hh,Reps.sub sub _ rr⟩
 .obtain⟨hj,h1⟩:=own j e h1;rw[BF hj]at h2;exact x.new j e a h1 h2
 .obtain⟨hj,h1⟩:=own j e h1;obtain⟨hk,h2⟩:=own k f h2;rw[BF hj]at h3;rw[BF hk]at h4;exact x.dis j k e f a h1 h2 h3 h4
end
section
variable{X:Cx}{CL:ClA}{W:XW}{pos:Az}{e:Ak}{fe:Rho->R D}
noncomputable def SS(X:Cx)(CL:ClA)(W:XW)(st:AC)(f:Rho->O):Prop := ∀ Fz B,PS X st (λD Z H => ∃ Y,Sx X.K CL Fz B Y Z H/\By X.K CL Fz B W (f Y) D)
noncomputable def SSs(X:Cx)(CL:ClA)(W:XW)(st:Ad AC)(f:Rho->O):Prop := ∀ Fz B,PSs X st (λD Z H => ∃ Y,Sx X.K CL Fz B Y Z H/\By X.K CL Fz B W (f Y) D)
theorem PS.weak{e:AC}{t t':TS}(h:PS X e t)(k : ∀ D Z H,t' D Z H->t D Z H):PS X e t':=λpI s Z H D I q=>h pI s Z H D I (k _ _ _ q)
theorem PSs.weak{e:Ad AC}{t t':TS}(h:PSs X e t)(k : ∀ D Z H,t' D Z H->t D Z H):PSs X e t':=λpI s Z H D I q=>h pI s Z H D I (k _ _ _ q)
theorem By.ex{f:D->O}(x:Sx X.K CL Fz B Y Z H)(h:By X.K CL Fz B W (O.of Y r f) D')(k : ∀ d v H',r = .ok d->Av H H'->Rp H' v d->Sx X.K CL Fz B Y Z H'->By X.K CL Fz B W (f d) D'->Q v H'):A3 Rp W H r Q:=by
 cases r with
 |ok d=>exact λv H' s r=>k d v H' rfl s r (x.grow s) h
 |exn y=>exact λH' s=>h H' λb o z=>s _ _ (x.same b o z)
 |bad=>exact h
theorem By.exB{r:R Aj}{f:Aj->O}{Q:Aj->Hp->Prop}(x:Sx X.K CL Fz B Y Z H)(h:By X.K CL Fz B W (O.of Y r f) D')(k : ∀ b H',r = .ok b->Av H H'->Sx X.K CL Fz B Y Z H'->By X.K CL Fz B W (f b) D'->Q b H'):B8 W H r Q:=by
 cases r with
 |ok d=>exact λH' s=>k d H' rfl s (x.grow s) h
 |exn y=>exact λH' s=>h H' λb o z=>s _ _ (x.same b o z)
 |bad=>exact h
theorem S6(he:SE X CL W e fe)(hs:Ch e Af pos.line X.env=pure Ac):SS X CL W (.Expr e pos) (λY=>O.of Y (fe Y) λ_ => .next Y):=λFz B pI s Z H D I ⟨Y,x,p⟩=>
 Hq (he (Bk B Y Z)) hs pI s Z H D I ⟨x.aok,Y,x.good,By.ex x p λd v H' _ s r x' q=>q Z H' x'⟩
theorem Vs{n:Ag}(hN:X.N.Nodup)(hi:X.N[i]? = Aa n)(hx:Loc X.env.scope n)(he:SE X CL W e fe)(hs:Ch e (Aa (.Name n pos')) pos.line X.env=pure Ac)(hf:X.fn n=Ab\/X.env.scope.names.lookup n=Aa .local):SS X CL W (.Assign [.Name n pos'] e pos) (λY=>O.of Y (fe Y) λd =>.next (Y.set i (Aa (d,Ac)))):=λFz B pI s Z H D I ⟨Y,x,p⟩=>
 Ip hN hi hx (he (Bk B Y Z)) hs hf pI s Z H D I ⟨x.aok,Y,x.good,By.ex x p λd v H' _ s r x' q=>q _ H' (x'.set i r)⟩
theorem S4(he:SE X CL W e fe):SS X CL W (.Return (Aa e) pos) (λY=>O.of Y (fe Y) λd => .ret d Ac):=λFz B pI s Z H D I ⟨Y,x,p⟩=>
 Kb (he (Bk B Y Z)) pI s Z H D I ⟨x.aok,Y,x.good,By.ex x p λd v H' _ s r x' q=>q v H' x'.same (Rep.sub (λa h => .inl h) _ r) λz=>nomatch z⟩
theorem WU{a b:Ad AC}{fa fb:Rho->O}(hc:SB X CL W c fc)(ha:SSs X CL W a fa)(hb:SSs X CL W b fb):SS X CL W (.If c a b pos) (λY=>O.of Y (fc Y) λk=>if k=Ab then fa Y else fb Y):=λFz B pI s Z H D I ⟨Y,x,p⟩=>
 Xo (hc (Bk B Y Z)) (ha Fz B) (hb Fz B) pI s Z H D I ⟨x.aok,Y,x.good,By.exB x p λk H' _ s x' q=>by
  cases k with
  |true=>exact⟨Y,x',q⟩
  | false=>exact⟨Y,x',q⟩⟩
theorem MI:SSs X CL W [] (λY => .next Y):=λFz B=>PSs.weak T8 λD Z H ⟨Y,x,p⟩=>p Z H x
theorem JD{st:AC}{Bg:Ad AC}{f g:Rho->O}(h1:SS X CL W st f)(h2:SSs X CL W Bg g):SSs X CL W (st::Bg) (λY=>(f Y).seq g):=λFz B=>PSs.weak (Mg (h1 Fz B) (h2 Fz B)) λD Z H ⟨Y,x,p⟩=>⟨Y,x,by
 dsimp only at p;cases e:f Y with
 |next Y'=>rw[e]at p;exact λZ' H' x'=>⟨Y',x',p⟩
 |ret d b=>rw[e]at p;exact p
 |brk Y'=>rw[e]at p;exact p
 |cont Y'=>rw[e]at p;exact p
 |exn y Y'=>rw[e]at p;exact p
 | bad=>rw[e]at p;exact p⟩
end
noncomputable def Gv(K:Fg)(CL:ClA)(A:Ai->Prop)(ds:Ad D)(J:It)(H1:Hp):Prop := ∀ H,Kp A H1 H -> ∀ i:Ae,(ds.length<=i->J.stop i H) /\ ∀ d,ds[i]? = Aa d->J.go i H /\ ∀ x H',J.yld i H x H'->Av H H' /\ ∀ B,(∀ a,B a->A a\/H1 a=Af)->AOk H B->Rep K CL H' B x d
noncomputable def DG(K:Fg)(CL:ClA)(A:Ai->Prop)(W:XW)(H:Hp)(r:R (Ad D))(Q:It->Hp->Prop):Prop:=match r with
  |.ok ds => ∀ J H',Av H H'->Gv K CL A ds J H'->ds.length<=sizeLine->Q J H'
  |.exn x => ∀ H',Av H H'->W x H'
  |.bad=>AT
noncomputable def SI(X:Cx)(CL:ClA)(W:XW)(tg iter:Ak)(f:Rho->R (Ad D)):Prop := ∀ A,PI X tg iter (λZ H R=>AOk H A /\ ∃ Y,Good X.K CL A Y Z H/\DG X.K CL A W H (f Y) R)
theorem PI.weak{t t':TI}(h:PI X tg e t)(k : ∀ Z H Q,t' Z H Q->t Z H Q):PI X tg e t':=λpI s Z H Q I q=>h pI s Z H Q I (k _ _ _ q)
section
variable{X:Cx}{CL:ClA}{W:XW}{pos p:Az}{tg e a b:Ak}{fe fa fb:Rho->R D}
theorem DG.ex{f:D->R (Ad D)}{Q:It->Hp->Prop}{Q':VK}(h:DG X.K CL A W H (r.bind f) Q)(k : ∀ d v H',r = .ok d->Av H H'->Rp H' v d->DG X.K CL A W H' (f d) Q->Q' v H'):A3 Rp W H r Q':=by
  cases r with
  | ok d=>exact λv H' s q=>k d v H' rfl s q (by
      have h':DG X.K CL A W H (f d) Q:=h;cases e:f d with
      |ok ds=>rw[e]at h';exact λJ H2 s2 y z=>h' J H2 (s.trans s2) y z
      |exn y=>rw[e]at h';exact λH2 s2=>h' H2 (s.trans s2)
      | bad=>rw[e]at h';exact h')
  |exn y=>exact h
  |bad=>exact h
theorem LO{x:V}(r:Rep K CL H1 A x d)(k:Kp A H1 H)(hB : ∀ a,B a->A a\/H1 a=Af):Rep K CL H B x d:=by
 have r1:Rep K CL H1 (λa=>A a\/B a) x d:=Rep.wide (λa ha=>ha.elim .inl (hB a)) _ r
 have r2:Rep K CL H (λa=>A a\/B a) x d:=Rep.kp (λb o e na=>k b o e λz=>na (.inl z)) _ r1
 exact Rep.sub (λa ha => .inr ha) _ r2
theorem QR(na : ¬ A q\/KL K q xs)(s:SqL K H q xs)(r:Reps K CL H A xs ds):Gv K CL A ds (Itl K q) H:=λH' k i=>by
 have s':=Kg k na s;refine⟨λh=>⟨xs,s',by rw[r.length];exact h⟩,λd hd => ?_⟩
 obtain⟨v,hv,rv⟩:=r.get hd;exact⟨⟨xs,v,s',hv⟩,λx H2 ⟨e,y⟩=>by
  subst e;have:=y xs s';rw[hv]at this;cases this;exact⟨Av.refl _,λB hB _=>LO rv k hB⟩⟩
theorem RT(na : ¬ A q\/KT K q xs)(s:SqT K H q xs)(r:Reps K CL H A xs ds):Gv K CL A ds (Itt K q) H:=λH' k i=>by
 have s':=Kf k na s;refine⟨λh=>⟨xs,s',by rw[r.length];exact h⟩,λd hd => ?_⟩
 obtain⟨v,hv,rv⟩:=r.get hd;exact⟨⟨xs,v,s',hv⟩,λx H2 ⟨e,y⟩=>by
  subst e;have:=y xs s';rw[hv]at this;cases this;exact⟨Av.refl _,λB hB _=>LO rv k hB⟩⟩
theorem Mb(lo:Ao)(n:Ae):Gv K CL A (DX lo n) (Itr lo n) H:=λH' k i=>by
 refine⟨λh=>by rw[HV]at h;exact h,λd hd => ?_⟩
 obtain⟨h1,rfl⟩:=Sf hd;exact⟨h1,λx H2 ⟨e,y⟩=>by
  subst e y;exact⟨Av.refl _,λ_ _ _=>rfl⟩⟩
theorem Vb{l:Ak}{tl:TE}(hl:PE X l tl):PI X tg l (λZ H R=>tl Z H λx H1=>(∃ a,x = .ref a/\(∃ xs,SqL X.K H1 a xs/\(xs.length<=sizeLine->R (Itl X.K a) H1))) \/ ∃ a,x = .ref a/\(∃ xs,SqT X.K H1 a xs/\(xs.length<=sizeLine->R (Itt X.K a) H1))):=by
 intro pI s Z H R I h;refine thn (hl pI s Z H _ I h) λv s1 ⟨x,H1,I1,r1,q1⟩ => ?_
 rcases q1 with ⟨a,e,xs,hq,q⟩|⟨a,e,xs,hq,q⟩
 .subst e;cases r1;obtain⟨its,rv,p,hz⟩:=I1.list hq;refine QE p.isList ?_;refine⟨s1.heap.objs.size,[s1.heap.objs.size],_,_,H1,rfl,I1.kept (t':=s1.toks) λb o e=>Ax _ e,Rk a _,⟨_,Bs _ rfl,rfl,rfl⟩,λb hb => ?_,q hz⟩
  have e:b=s1.heap.objs.size:=by simpa using hb
  subst e;exact I1.fpOk (AW _) (I1.hok.fresh (AW _))
 .subst e;cases r1;obtain⟨its,rv,p,hz⟩:=I1.tuple hq;refine wpAny_pyIter_tuple (show s1.heap.IsTuple a its.toArray from p) ?_
  refine⟨s1.heap.objs.size,[s1.heap.objs.size],_,_,H1,rfl,I1.kept (t':=s1.toks) λb o e=>Ax _ e,QT a _,⟨_,Bs _ rfl,rfl,rfl⟩,λb hb => ?_,q hz⟩
  have e:b=s1.heap.objs.size:=by simpa using hb
  subst e;exact I1.fpOk (AW _) (I1.hok.fresh (AW _))
theorem Ye(he:SE X CL W e fe):SI X CL W tg e (λY=>(fe Y).bind DU):=λA=>PI.weak (Vb (he A)) λZ H R ⟨hA,Y,g,p⟩=>⟨hA,Y,g,DG.ex p λd v H1 _ s1 r1 p1=>by
 cases d with
 |lst ds=>
  obtain⟨q,xs,rfl,na,sq,r⟩:=r1;exact .inl ⟨q,rfl,xs,sq,λhz=>p1 _ H1 (Av.refl H1) (QR na sq r) (by rw[<-r.length];exact hz)⟩
 |tup ds=>
  obtain⟨q,xs,rfl,na,sq,r⟩:=r1;exact .inr ⟨q,rfl,xs,sq,λhz=>p1 _ H1 (Av.refl H1) (RT na sq r) (by rw[<-r.length];exact hz)⟩
 | _=>exact p1.elim⟩
theorem LP(h:De lo hi = .ok ds):(-(2 ^ 62)<=lo/\lo<2 ^ 62)/\(-(2 ^ 62)<=hi/\hi<2 ^ 62)/\ds=DX lo (hi-lo).toNat/\(DX lo (hi-lo).toNat).length<=sizeLine:=by
 unfold De at h;split at h
 .rename_i q;cases h;exact⟨by omega,by omega,rfl,by rw[HV,Cc];omega⟩
 .cases h
theorem Lw(h:De lo hi = .exn x):AT:=by
 unfold De at h;split at h <;> cases h
theorem Vw(ha:ST X CL W a fa)(hg:Gl X "range")(hm:X.mg "range" = Af)(hs:Aq [a] X.env=[(Ac,eval a X.env)]):SI X CL W tg (.Call (.Name "range" p) [a] [] pos) (λY=>(fa Y).bind λx=>(Dw x).bind λj=>De 0 j):=
 λA=>PI.weak (Re hg hm (Du (ha A) E2 hs) hs) λZ H R ⟨hA,Y,g,q⟩=>⟨hA,Y,g,DG.ex q λd v H1 _ s1 r1 p1=>by
  cases d with
  |int j=>
   have e:=r1.int_of;subst e;have p2:DG X.K CL A W H1 (De 0 j) R:=p1;cases e2:De 0 j with
   |ok ds=>
    rw[e2]at p2;obtain⟨_,h2,rfl,hz⟩:=LP e2;exact⟨j,rfl,h2.1,h2.2,p2 _ H1 (Av.refl H1) (by rw[OM];exact Mb 0 j.toNat) hz⟩
   |exn y=>exact(Lw e2).elim
   |bad=>rw[e2]at p2;exact p2.elim
  | _=>exact p1.elim⟩
theorem S9(ha:ST X CL W a fa)(hb:ST X CL W b fb)(hg:Gl X "range")(hm:X.mg "range" = Af)(hs:Aq [a,b] X.env=[(Ac,eval a X.env),(Ac,eval b X.env)])(hs2:Aq [b] X.env=[(Ac,eval b X.env)]):
  SI X CL W tg (.Call (.Name "range" p) [a,b] [] pos) (λY=>(fa Y).bind λx=>(fb Y).bind λy=>(Dw x).bind λi=>(Dw y).bind λj=>De i j):=
 λA=>PI.weak (Rc hg hm (Du (ha A) (Du (hb A) E2 hs2) (by rw[hs,hs2])) hs hs2) λZ H R ⟨hA,Y,g,q⟩=>⟨hA,Y,g,DG.ex q λd v H1 _ s1 r1 p1=>⟨hA.same s1,Y,g.same s1,DG.ex p1 λd2 v2 H2 _ s2 r2 p2=>by
  cases d with
  |int i=>
   cases d2 with
   |int j=>
    have e:=r1.int_of;have e':=r2.int_of
    subst e e';have p3:DG X.K CL A W H2 (De i j) R:=p2;cases e2:De i j with
    |ok ds=>
     rw[e2]at p3;obtain⟨h1,h2,rfl,hz⟩:=LP e2;exact⟨i,j,rfl,⟨h1.1,h1.2,h2.1,h2.2⟩,p3 _ H2 (Av.refl H2) (Mb _ _) hz⟩
    |exn y=>exact(Lw e2).elim
    |bad=>rw[e2]at p3;exact p3.elim
   |_=>exact p2.elim
  | _=>exact p2.elim⟩⟩
theorem By.exI{r:R (Ad D)}{f:Ad D->O}{Q:It->Hp->Prop}(x:Sx X.K CL Fz B Y Z H)(h:By X.K CL Fz B W (O.of Y r f) D')(k : ∀ ds J H',r = .ok ds->Av H H'->Gv X.K CL A ds J H'->ds.length<=sizeLine->Sx X.K CL Fz B Y Z H'->By X.K CL Fz B W (f ds) D'->Q J H'):DG X.K CL A W H r Q:=by
 cases r with
 |ok d=>exact λJ H' s y z=>k d J H' rfl s y z (x.grow s) h
 |exn y=>exact λH' s=>h H' λb o z=>s _ _ (x.same b o z)
 |bad=>exact h
theorem By.turn{Fy:Ai->HO->Prop}{o:O}{g:Rho->O}{N:L2.St->Hp->Prop}(hf : ∀ b q,Fz b q->Fy b q)(h:By K CL Fz B W (o.turn g) D')(k : ∀ Y' Z' H',Sx K CL Fy B Y' Z' H'->By K CL Fz B W (g Y') D'->N Z' H'):By K CL Fy B W o {D' with nx:=N,ct:=N,bk:=D'.nx}:=by
 cases o with
 |next Y'=>exact λZ' H' x=>k Y' Z' H' x h
 |cont Y'=>exact λZ' H' x=>k Y' Z' H' x h
 |brk Y'=>exact λZ' H' x=>h Z' H' (x.mono hf)
 |ret d b=>exact λv H' s r n=>h v H' (λb o z=>s b o (hf b o z)) r λz ds e=>let ⟨a,xs,h1,h2,h3⟩:=n z ds e;⟨a,xs,h1,λo q=>h2 o (hf a o q),h3⟩
 |exn y Y'=>exact λH' s=>h H' (λb o z=>s b o (hf b o z))
 |bad=>exact h
noncomputable def Ec(ts:Ad Ae)(Y:Rho):Rho:=ts.foldl (λY t=>Y.set t Af) Y
noncomputable def GT(K:Fg)(CL:ClA)(as:D->Rho->R Rho)(g:TG):Prop := ∀ Fz B Y Z H v d Y' Q,Sx K CL Fz B Y Z H->Rep K CL H (Bk B Y Z) v d->as d Y = .ok Y'->(∀ Z',Sx K CL Fz B Y' Z' H->Q Z' H)->g v Z H Q
theorem Tw(i:Ae):GT K CL (λd Y => .ok (Y.set i (Aa (d,Ac)))) (EF i):=λFz B Y Z H v d Y' Q x r e k=>by
 cases e;exact k _ (x.set i r)
theorem MZ{K:Fg}{Fz:Ai->HO->Prop}{B:Ai->Prop}{H:Hp} : ∀(ts:Ad Ae)(ds:Ad D)(vs:Ad V)(Y Y':Rho)(Z:L2.St)(Q:L2.St->Hp->Prop),Sx K CL Fz B Y Z H->Reps K CL H (Bk B Y Z) vs ds->EC ts ds Y=Aa Y'->(∀ Z',Sx K CL Fz B Y' Z' H->Q Z' H)->(ts.foldr (λt u=>Hy (EF t) u) HN) vs Z H Q
 |[],[],[],Y,Y',Z,Q,x,_,e,k=>by
  cases e;exact⟨rfl,k Z x⟩
 |t::ts,d::ds,v::vs,Y,Y',Z,Q,x,r,e,k=>by
  refine⟨v,vs,rfl,MZ ts ds vs _ Y' _ Q (x.set t r.1) (Reps.sub (λa ha => ?_) ds r.2) e k⟩
  rcases ha with ha|⟨j,c,h1,h2⟩
  .exact .inl ha
  .by_cases hj:t=j
   .subst hj;have:=Ej h1;cases this
   .rw[BF hj]at h1 h2;exact .inr ⟨j,c,h1,h2⟩
 |[],_::_,_,_,_,_,_,_,_,e,_=>by cases e
 |_::_,[],_,_,_,_,_,_,_,e,_=>by cases e
 |[],[],_::_,_,_,_,_,_,r,_,_=>r.elim
 |_::_,_::_,[],_,_,_,_,_,r,_,_=>r.elim
theorem Lv : ∀(ts:Ad Ae)(ds:Ad D)(Y Y':Rho),EC ts ds Y=Aa Y'->ds.length=ts.length
 |[],[],_,_,_=>rfl
 |_::ts,_::ds,_,_,e=>congrArg (· + 1) (Lv ts ds _ _ e)
 |[],_::_,_,_,e=>by cases e
 |_::_,[],_,_,e=>by cases e
theorem V6(ts:Ad Ae):GT K CL (ED ts) (Lh K ts.length (ts.foldr (λt u=>Hy (EF t) u) HN)):=λFz B Y Z H v d Y' Q x r e k=>by
 cases d with
 |tup ds=>
  obtain⟨a,xs,rfl,na,sq,rs⟩:=r;rw[Q2]at e;cases e2:EC ts ds Y with
  |none=>rw[e2]at e;cases e
  |some Y2=>
   rw[e2]at e;cases e;exact⟨a,xs,rfl,sq,by rw[rs.length];exact Lv _ _ _ _ e2,MZ ts ds xs Y _ Z Q x rs e2 k⟩
 |_=>cases e
theorem M5{body:Ad AC}{fbd:Rho->O}{g:TG}(hp:Dr (model X.prog X.w) X.A X.env X.xe)(hc:X.calm=Ab)(hGT:GT X.K CL as g)(hg:PG X tg g)(hit:SI X CL W tg iter fi)(hb:SSs X CL W body fbd)(hs : ∀ x,BX iter X.env x=pure x)(hax : ∀ d Y x,as d Y ≠ .exn x):SS X CL W (.For tg iter body [] pos) (λY=>O.of Y (fi Y) λxs=>E8 (λx Y'=>O.of Y' (as x Y') fbd) xs Y):=λFz B pI s Z H D I ⟨Y,x,p⟩=>by
 refine U_7 hp hc (hit (Bk B Y Z)) hg (tb:=λD Z H => ∃ Fy,(λD Z H => ∃ Y,Sx X.K CL Fy B Y Z H/\By X.K CL Fy B W (fbd Y) D) D Z H) (λpI s Z H D I ⟨Fy,q⟩=>hb Fy B pI s Z H D I q) hs pI s Z H D I ⟨x.aok,Y,x.good,By.exI x p λds J H1 _ s1 y _ x1 q => ?_⟩
 let Fy:Ai->HO->Prop:=λb o=>H1 b=Aa o /\ ¬ ∃(j:Ae)(d:Ov.D),Y[j]? = Aa (Aa (d,Ab))/\Z[j]? = Aa (Aa (.ref b))
 have hfy : ∀ b o,Fz b o->Fy b o:=λb o z=>⟨x1.same b o z,λ⟨j,d,h1,h2⟩=>(x1.new j d b h1 h2).1 o z⟩
 have xy:Sx X.K CL Fy B Y Z H1:=⟨x1.good,x1.aok,λj d a h1 h2=>⟨λo z=>z.2 ⟨j,d,h1,h2⟩,(x1.new j d a h1 h2).2⟩,x1.dis,λb o z=>z.1,x1.len⟩
 refine⟨λk m Z' H'=>m=ds.length-k/\k<=ds.length /\ ∃ Y',Sx X.K CL Fy B Y' Z' H'/\By X.K CL Fz B W (E8 (λx Y'=>O.of Y' (as x Y') fbd) (ds.drop k) Y') D,⟨ds.length,by simp,En _,Y,xy,q⟩,?_⟩
 rintro k m Z' H' ⟨rfl,hk,Y',x',q'⟩;have kp:Kp (Bk B Y Z) H1 H':=λb o e na=>x'.same b o ⟨e,λz=>na (.inr z)⟩
 obtain⟨yst,ygo⟩:=y H' kp k;by_cases hlt:k<ds.length
 .have hd:ds[k]? = Aa ds[k]:=BO hlt;obtain⟨hgo,hyl⟩:=ygo _ hd;refine .inr ⟨hgo,λZ'' H'' => ∃ Y'',Sx X.K CL Fy B Y'' Z'' H''/\By X.K CL Fz B W (E8 (λx Y'=>O.of Y' (as x Y') fbd) (ds.drop (k+1)) Y'') D,λZ'' H'' z=>⟨ds.length-(k+1),by omega,rfl,hlt,z⟩,λv H2 hv => ?_⟩
  obtain⟨e2,rv⟩:=hyl v H2 hv;rw[OQ hlt]at q';have q2:By X.K CL Fz B W ((O.of Y' (as ds[k] Y') fbd).turn (E8 (λx Y'=>O.of Y' (as x Y') fbd) (ds.drop (k+1)))) D:=q'
  have rv':Rep X.K CL H2 (Bk B Y' Z') v ds[k]:=rv _ (λa ha=>by
    rcases ha with ha|⟨j,d,h1,h2⟩
    .exact .inl (.inl ha)
    .cases e:H1 a with
     |none=>exact .inr rfl
     |some o=>
      by_cases ho : ∃(j:Ae)(d:Ov.D),Y[j]? = Aa (Aa (d,Ab))/\Z[j]? = Aa (Aa (.ref a))
      .exact .inl (.inr ho)
      .exact absurd ⟨e,ho⟩ ((x'.new j d a h1 h2).1 o)) x'.aok
  cases ea:as ds[k] Y' with
  |bad=>rw[ea]at q2;exact q2.elim
  |exn z=>exact absurd ea (hax _ _ z)
  |ok Y2=>
   rw[ea,O.of_ok]at q2;exact hGT Fy B Y' Z' H2 v ds[k] Y2 _ (x'.grow e2) rv' ea λZ3 x3=>⟨Fy,Y2,x3,By.turn hfy q2 λY3 Z3 H3 x3 q3=>⟨Y3,x3,q3⟩⟩
 .have hk':ds.length<=k:=by omega
  rw[OR hk']at q';exact .inl ⟨yst hk',q' Z' H' (x'.mono hfy)⟩
end
section
variable{X:Cx}{CL:ClA}{W:XW}{a b c:Ak}{fa fb fc:Rho->R D}{pos:Az}
noncomputable def tyK:Ki->An B6
 |.int=>Aa "int"
 |.bool=>Aa "bool"
 |.str=>Aa "str"
 |.list=>Aa "list"
 |.tuple=>Aa "tuple"
 |_=>Af
noncomputable def Kc:D->Aj
 |.obj _ _=>Ac
 |.exc _ _=>Ac
 |.dic _=>Ac
 |_=>Ab
theorem V3{Q:Ah->Am->Prop}{E:Ah->Am->Prop}(I:Inv X pI Z H s)(r:BZ X.K CL H A v d)(q:Be v u)(hT:tyK k=Aa T)(hd:Kc d=Ab)(h : ∀ s',Inv X pI Z H s'->Q (.bool (kiD up k d)) s'):
  As (model X.prog X.w) X.A (call (.builtin "isinstance") [u,.type T]) Q E s:=by
 have r':=r.plain;have it:=λt=>h _ (I.tok t)
 cases d with
 |obj=>cases hd
 |exc=>cases hd
 |dic=>cases hd
 |non=>
  cases r';cases q;cases k <;> simp only[tyK]at hT <;> cases hT
  .exact IsiPair.NoneType_int (it _)
  .exact IsiPair.NoneType_bool (it _)
  .exact IsiPair.NoneType_str (it _)
  .exact IsiPair.NoneType_list (it _)
  .exact IsiPair.NoneType_tuple (it _)
 |bl b=>
  cases r';cases q;cases k <;> simp only[tyK]at hT <;> cases hT
  .exact IsiPair.bool_int (h _ I)
  .exact IsiPair.bool_bool (h _ I)
  .exact IsiPair.bool_str (it _)
  .exact IsiPair.bool_list (it _)
  .exact IsiPair.bool_tuple (it _)
 |int i=>
  cases r';obtain⟨t,rfl⟩:=q;cases k <;> simp only[tyK]at hT <;> cases hT
  .exact IsiPair.int_int (h _ I)
  .exact IsiPair.int_bool (it _)
  .exact IsiPair.int_str (it _)
  .exact IsiPair.int_list (it _)
  .exact IsiPair.int_tuple (it _)
 |str x=>
  cases r';obtain⟨t,rfl⟩:=q;cases k <;> simp only[tyK]at hT <;> cases hT
  .exact IsiPair.str_int (it _)
  .exact IsiPair.str_bool (it _)
  .exact IsiPair.str_str (h _ I)
  .exact IsiPair.str_list (it _)
  .exact IsiPair.str_tuple (it _)
 |tup ds=>
  obtain⟨p,xs,rfl,_,sq,rr⟩:=r';obtain⟨its,rv,pt,_⟩:=I.tuple sq;cases q;have pt':s.heap.IsTuple p its.toArray:=pt;cases k <;> simp only[tyK]at hT <;> cases hT
  .exact IsiPair.isTuple_int pt' (λ_ _ e=>e) (it _)
  .exact IsiPair.isTuple_bool pt' (λ_ _ e=>e) (it _)
  .exact IsiPair.isTuple_str pt' (λ_ _ e=>e) (it _)
  .exact IsiPair.isTuple_list pt' (λ_ _ e=>e) (it _)
  .exact IsiPair.isTuple_tuple pt' (λ_ _ e=>e) (h _ I)
 |lst ds=>
  obtain⟨p,xs,rfl,_,sq,rr⟩:=r';obtain⟨its,rv,pl,_⟩:=I.list sq;cases q;have pt':s.heap.IsList p its.toArray:=GS pl;cases k <;> simp only[tyK]at hT <;> cases hT
  .exact IsiPair.isList_int pt' (λ_ _ e=>e) (it _)
  .exact IsiPair.isList_bool pt' (λ_ _ e=>e) (it _)
  .exact IsiPair.isList_str pt' (λ_ _ e=>e) (it _)
  .exact IsiPair.isList_list pt' (λ_ _ e=>e) (h _ I)
  .exact IsiPair.isList_tuple pt' (λ_ _ e=>e) (it _)
theorem Rh(hT:tyK k=Aa T)(p:A3 Rp W H (CI up [k] d) Q):Kc d=Ab/\A3 Rp W H (.ok (.bl (kiD up k d))) Q:=by
 cases k <;> simp only[tyK]at hT <;> cases hT <;> cases d <;> first|exact p.elim|exact⟨rfl,by simpa using p⟩
theorem VA{x:Ag}{p p2:Az}(hT:tyK k=Aa T)(hg:Gl X "isinstance")(hm:X.mg "isinstance" = Af)(hg2:Gl X x)(hm2:X.mg x=Af)(hv:B5 x=Aa (.type T))(hn:x ≠ "__name__")(hdb:(x==("__debug__" : Ag))=Ac)(ha:ST X CL W a fa)(he:Aq [a,.Name x p2] X.env=(Ac,eval a X.env)::Aq [.Name x p2] X.env):SE X CL W (.Call (.Name "isinstance" p) [a,.Name x p2] [] pos) (λY=>(fa Y).bind λx=>CI up [k] x):=λA=>
 PE.weak (Hn (r:=λxs H Q => ∃ y d,xs=[y,.ty T]/\BZ X.K CL H A y d/\Kc d=Ab/\Q (.bl (kiD up k d)) H) (λpI s Z H xs us Q I r ⟨y,d,e,ry,hd,q⟩=>by
   subst e;obtain⟨u,w',rfl,r1,r2⟩:=HC r;cases r2;exact V3 I ry r1 hT hd λs' I'=>⟨.bl _,H,I',rfl,q⟩)
  hg hm D8 (Du (ha A) (Du (Mu (v := .ty T) hg2 hm2 hv rfl hn hdb) E2 rfl) he) (by decide) (by decide) he rfl) λZ H Q ⟨hA,Y,g,q⟩=>⟨hA,Y,g,A3.bind q λd v H1 _ s1 r1 p1=>by
   obtain⟨hd,p2⟩:=Rh hT p1;exact⟨v,d,rfl,r1,hd,p2 _ H1 (Av.refl H1) rfl⟩⟩
theorem SJ{b:Aj}{A':AN}{E:Ah->Am->Prop}{Q:Aj->Am->Prop}{prog:AE}{w:Ar}(r:Rep X.K CL H A v d)(q:Be v u)(h:DI d = .ok b)(hq:Q b s):As (model prog w) A' (truthy u) Q E s:=by
 cases d with
 |non=>
  cases r;cases q;cases h;exact truthy_none hq
 |bl k=>
  cases r;cases q;cases h;exact BY hq
 |int i=>
  cases r;obtain⟨t,rfl⟩:=q;cases h;exact truthy_int hq
 |_=>cases h
theorem LB : ∀{ds:Ad D}{b:Aj},Ek ds = .ok b->(∀ j,j<ds.length -> ∃ c,DI (ds.getD j .non) = .ok c)/\b=(CO ds.length).all λj=>match DI (ds.getD j .non) with
  |.ok c=>c
  |_=>Ac
 |[],b,h=>by cases h;exact⟨λj hj=>absurd hj (Nat.not_lt_zero _),rfl⟩
 |d::ds,b,h=>by
  rw[Lz]at h;cases e:DI d with
  |bad=>rw[e]at h;cases h
  |exn x=>rw[e]at h;cases h
  |ok c=>
   rw[e,R.bind_ok]at h;cases e2:Ek ds with
   |bad=>rw[e2]at h;cases h
   |exn x=>rw[e2]at h;cases h
   |ok c2=>
    rw[e2,R.bind_ok]at h;cases h;obtain⟨h1,h2⟩:=LB e2;refine⟨λj hj => ?_,?_⟩
    .cases j with
     |zero=>exact⟨c,e⟩
     |succ j=>exact h1 j (by simpa using hj)
    .rw[A9,Ls,h2];show (c&&_)=((match DI d with | .ok c=>c|_=>Ac)&&_)
     rw[e];rfl
theorem UO(r:Reps X.K CL H A0 xs ds)(rv:AS xs its){v:Ah}(h:its.toArray[j]? = Aa v):j<ds.length /\ ∃ x,Rep X.K CL H A0 x (ds.getD j .non)/\Be x v:=by
 have h':its[j]? = Aa v:=by simpa using h
 obtain⟨hj,e⟩:=A2.mp h';obtain⟨x,rx,q⟩:=Gp r rv hj;have l1:=rv.length;have l2:=r.length
 exact⟨by omega,x,rx,by rw[<-e];exact q⟩
theorem Xa{o:AD}(k : ∀ b q,b ∉ [h.objs.size]->(h.push o).get? b=Aa q->h'.get? b=Aa q) : ∀ b q,h.get? b=Aa q->h'.get? b=Aa q:=λb q e=>k b q (by
 intro z;have:=Bn.mp z;rw[this]at e;exact absurd (AA e) (Bc _)) (Ax _ e)
theorem VU(hc:X.calm=Ab):HG X CL W (.builtin "all") (biD .all):=by
  intro A pI s Z H xs us Q I r ⟨hA,ds,rs,p⟩
  match ds,rs,p with
  |[.lst es],rs,p=>
    obtain⟨v,rfl,rv⟩:=rs.one;obtain⟨q,ys,e,_,sq,ry⟩:=rv.plain;subst e;obtain⟨u,rfl,ru⟩:=GV r;cases ru;rw[XD]at p;cases e1:Ek es with
    |bad=>rw[e1]at p;exact p.elim
    |exn x=>
      exfalso
      have : ∀(es:Ad D) x,Ek es ≠ .exn x:=by
        intro es
        induction es with
        |nil=>intro x h;cases h
        |cons d ds ih=>
          intro x h;rw[Lz]at h;cases e:DI d with
          |bad=>rw[e]at h;cases h
          |exn y=>cases d <;> cases e
          |ok c=>
            rw[e,R.bind_ok]at h;cases e2:Ek ds with
            |bad=>rw[e2]at h;cases h
            |exn y=>exact ih y e2
            |ok c2=>rw[e2]at h;cases h
      exact this es x e1
    |ok b=>
      rw[e1,R.bind_ok]at p;obtain⟨h1,h2⟩:=LB e1;obtain⟨its,rvv,pl,_⟩:=I.list sq;have hlt:q<s.heap.objs.size:=by obtain⟨o,n,e,_⟩:=pl;exact AA e
      have hl:its.toArray.size=es.length:=by rw[A1,<-rvv.length,ry.length]
      refine call_all_walk (QE (GS pl) ⟨s.heap.objs.size,_,_,_,_,_,(λj=>match DI (es.getD j .non) with | .ok c=>c|_=>Ac),rfl,Walks.list (A:=X.A.in1) (I.ok.hd hc) s.heap.objs.size q (Bp hlt) its.toArray,⟨⟨_,Bs _ rfl,rfl,rfl⟩,(GS pl).push _⟩,λj v s' Q' E' hv hQ => ?_,λh' tk k => ?_⟩)
      · obtain⟨hj,x,rx,qx⟩:=UO ry rvv hv;obtain⟨c,ec⟩:=h1 j hj;exact SJ rx qx ec (by dsimp only at hQ;rw[ec]at hQ;exact hQ)
      · rw[hl,<-h2];exact⟨.bl b,H,I.kept (Xa k),rfl,p _ H (Av.refl H) rfl⟩
  |[],_,p=>exact p.elim
  |[.non],_,p=>exact p.elim
  |[.bl _],_,p=>exact p.elim
  |[.int _],_,p=>exact p.elim
  |[.str _],_,p=>exact p.elim
  |[.tup _],_,p=>exact p.elim
  |[.obj _ _],_,p=>exact p.elim
  |[.exc _ _],_,p=>exact p.elim
  |[.dic _],_,p=>exact p.elim
  |x::_::_,_,p=>cases x <;> exact p.elim
end
section
variable(K:Fg)(CL:ClA)
noncomputable def XF(H0:Hp)(A:Ai->Prop)(H:Hp)(v:V)(d:D):Prop := ∀ ds,d = .lst ds -> ∃ a xs,v = .ref a/\H0 a=Af/\H a=Aa (.lst xs)/\Reps K CL H (λb=>A b\/b=a) xs ds
noncomputable def CK(fr:Aj)(H0:Hp)(A:Ai->Prop)(H:Hp)(v:V)(d:D):Prop:=Rep K CL H A v d/\(fr=Ab->XF K CL H0 A H v d)
end
section
variable{X:Cx}{CL:ClA}{W:XW}{a b c:Ak}{fa fb fc:Rho->R D}{pos:Az}
noncomputable def SC(X:Cx)(CL:ClA)(W:XW)(fr:Aj)(e:Ak)(f:Rho->R D):Prop := ∀ A,PE X e (λZ H Q=>AOk H A /\ ∃ Y,Good X.K CL A Y Z H/\A3 (CK X.K CL fr H A) W H (f Y) Q)
theorem SC.se{fr:Aj}(h:SC X CL W fr a fa):SE X CL W a fa:=λA=>PE.weak (h A) λZ H Q ⟨hA,Y,g,p⟩=>⟨hA,Y,g,by
 cases e:fa Y with
 |ok d=>rw[e]at p;exact λv H' s r=>p v H' s r.1
 |exn x=>rw[e]at p;exact p
 | bad=>rw[e]at p;exact p⟩
theorem SE.sc(h:SE X CL W a fa):SC X CL W Ac a fa:=λA=>PE.weak (h A) λZ H Q ⟨hA,Y,g,p⟩=>⟨hA,Y,g,by
 cases e:fa Y with
 |ok d=>rw[e]at p;exact λv H' s r=>p v H' s ⟨r,λz=>nomatch z⟩
 |exn x=>rw[e]at p;exact p
 | bad=>rw[e]at p;exact p⟩
theorem SC.congr{fr:Aj}{f g:Rho->R D}(h:SC X CL W fr a f)(e : ∀ Y,g Y=f Y):SC X CL W fr a g:=λA=>PE.weak (h A) λZ H Q ⟨hA,Y,q,p⟩=>⟨hA,Y,q,by rw[<-e];exact p⟩
theorem Hm(s:Av H0 H)(hA:AOk H A)(hp:H p=Af)(r:Reps K CL H A xs ds):CK K CL Ab H0 A (upd H p (.lst xs)) (.ref p) (.lst ds):=
 ⟨MA hA hp r,λ_ ds' e=>by
  cases e;exact⟨p,xs,rfl,s.free hp,Dt,(Reps.wide (λa ha=>ha.imp id λe=>by rw[e];exact hp) _ r).same (E5 hp _)⟩⟩
theorem Sz{fr:Aj}(r:Rep K CL H A v d)(h : ∀ ds,d ≠ .lst ds):CK K CL fr H0 A H v d:=⟨r,λ_ ds e=>absurd e (h ds)⟩
theorem Kh(hs:SA X CL W es fs)(hz : ∀ Y ds,fs Y = .ok ds->ds.length<=100000):SC X CL W Ab (.List es pos) (λY=>(fs Y).bind λxs => .ok (.lst xs)):=
 λA=>PE.weak (Vg (hs A)) λZ H Q ⟨hA,Y,g,p⟩=>⟨hA,Y,g,E6.bind p λds vs H1 e s1 r1 p1=>⟨by
  rw[r1.length,Cc];have:=hz Y ds e;omega,λq hq=>p1 _ _ (E5 hq _) (Hm s1 (hA.same s1) hq r1)⟩⟩
theorem A3.bindF{fr:Aj}{f:D->R D}{Q':VK}(h:A3 (CK K CL fr H A) W H (r.bind f) Q)(k : ∀ d v H',r = .ok d->Av H H'->Rp H' v d->A3 (CK K CL fr H A) W H' (f d) Q->Q' v H'):A3 Rp W H r Q':=by
 cases r with
 |ok d=>exact λv H2 s2 q=>k d v H2 rfl s2 q (A3.same s2 h)
 |exn x=>exact h
 |bad=>exact h
theorem E6.bindF{Rp:Hp->Ad V->Ad D->Prop}{r:R (Ad D)}{f:Ad D->R D}{Q':Ad V->Hp->Prop}(h:A3 Rq W H (r.bind f) Q)(k : ∀ d v H',r = .ok d->Av H H'->Rp H' v d->A3 Rq W H' (f d) Q->Q' v H'):E6 Rp W H r Q':=by
 cases r with
 |ok d=>exact λv H2 s2 q=>k d v H2 rfl s2 q (A3.same s2 h)
 |exn x=>exact h
 |bad=>exact h
theorem HF.bindF{r:R (An Ao)}{f:An Ao->R D}(h:A3 Rq W H (r.bind f) Q)(k : ∀ o H',r = .ok o->Av H H'->A3 Rq W H' (f o) Q->Q' o H'):HF W H r Q':=by
 cases r with
 |ok d=>exact λH2 s2=>k d H2 rfl s2 (A3.same s2 h)
 |exn x=>exact h
 |bad=>exact h
noncomputable def OpN(X:Cx)(CL:ClA)(W:XW)(f:Ah->Ah->Ez Ah)(g:D->D->R D):Prop:=
 ∀ A H0,OpR X f (λx y H Q=>Av H0 H/\AOk H A /\ ∃ dx dy,BZ X.K CL H A x dx/\BZ X.K CL H A y dy/\A3 (CK X.K CL Ab H0 A) W H (g dx dy) Q)
theorem Uj:OpN X CL W (Bx .Add) (Cn .Add):=by
 intro A H0 pI s Z H x y v u Q I rx ry ⟨s0,hA,dx,dy,hx,hy,p⟩;have key:(∀ ds,dx ≠ .lst ds)->EP X pI Z Q=EP X pI Z Q->As (model X.prog X.w) X.A (Bx .Add v u) (EP X pI Z Q) X.xe s:=λhd _=>by
  refine Mv (W:=W) A pI s Z H x y v u Q I rx ry ⟨hA,dx,dy,hx,hy,?_⟩;cases e:Cn .Add dx dy with
  |bad=>rw[e]at p;exact p
  |exn x=>rw[e]at p;exact p
  |ok d=>
   rw[e]at p;refine λv' H' s' r'=>p v' H' s' (Sz r' λds z => ?_)
   subst z;cases dx with
   |lst ds=>exact hd _ rfl
   |tup xs=>
    cases dy with
    |tup ys=>rw[Nv]at e;split at e <;> cases e
    |_=>cases e
   |str xs=>
    cases dy with
    |str ys=>rw[Nw]at e;split at e <;> cases e
    |_=>cases e
   |int i=>cases dy <;> cases e
   |_=>cases e
 cases dx with
 |lst ds=>
  cases dy with
  |lst es=>
   obtain⟨a,xs,rfl,s1,r1⟩:=hx.lst_of;obtain⟨b,ys,rfl,s2,r2⟩:=hy.lst_of;simp only[Nx]at p;split at p
   .rename_i h;refine Mw pI s Z H _ _ v u Q I rx ry ⟨a,b,xs,ys,rfl,rfl,s1,s2,by rw[r1.length,r2.length];exact Ge h,λq hq => ?_⟩
    exact p _ _ (E5 hq _) (Hm s0 hA hq (r1.append r2))
   .exact p.elim
  |_=>exact p.elim
 |_=>exact key (by intro _ z;cases z) rfl
theorem Vv(ha:ST X CL W a fa)(hb:ST X CL W b fb):SC X CL W Ab (.BinOp a .Add b pos) (λY=>(fa Y).bind λx=>(fb Y).bind λy=>Cn .Add x y):=
 λA pI s Z H Q I h=>by
  obtain⟨hA,Y,g,p⟩:=h;exact NH (Uj (W:=W) A H) (ha A) (hb A) pI s Z H Q I ⟨hA,Y,g,A3.bindF p λdx x H1 _ s1 r1 p1=>⟨hA.same s1,Y,g.same s1,A3.bind (Rq:=CK X.K CL Ab H A) p1 λdy y H2 _ s2 r2 p2=>⟨s1.trans s2,(hA.same s1).same s2,dx,dy,r1.same s2,r2,p2⟩⟩⟩
noncomputable def NY(X:Cx)(CL:ClA)(W:XW)(f:Ah)(g:Ad D->R D):Prop := ∀ A H0,F4 X f (λxs H Q=>Av H0 H/\AOk H A /\ ∃ ds,El X.K CL H A xs ds/\A3 (CK X.K CL Ab H0 A) W H (g ds) Q)
theorem UK:NY X CL W (.type "list") (biD .list):=by
  intro A H0 pI s Z H xs us Q I r ⟨s0,hA,ds,rs,p⟩
  match ds,rs,p with
  |[.lst es],rs,p=>
    obtain⟨v,rfl,rv⟩:=rs.one;obtain⟨q,ys,rfl,sq,ry⟩:=rv.lst_of;exact Lm pI s Z H _ us Q I r ⟨q,ys,rfl,.inl sq,λl hl=>p _ _ (E5 hl _) (Hm s0 hA hl ry)⟩
  |[.tup es],rs,p=>
    obtain⟨v,rfl,rv⟩:=rs.one;obtain⟨q,ys,rfl,_,sq,ry⟩:=rv.tup_of;exact Lm pI s Z H _ us Q I r ⟨q,ys,rfl,.inr sq,λl hl=>p _ _ (E5 hl _) (Hm s0 hA hl ry)⟩
  |[],_,p=>exact p.elim
  |[.non],_,p=>exact p.elim
  |[.bl _],_,p=>exact p.elim
  |[.int _],_,p=>exact p.elim
  |[.str _],_,p=>exact p.elim
  |[.obj _ _],_,p=>exact p.elim
  |[.exc _ _],_,p=>exact p.elim
  |[.dic _],_,p=>exact p.elim
  |x::_::_,_,p=>cases x <;> exact p.elim
theorem Vu{x:Ag}{p:Az}{g:Ad D->R D}(hc:NY X CL W (.type T) g)(hg:Gl X x)(hm:X.mg x=Af)(hv:B5 x=Aa (.type T))(ha:SAT X CL W (e::es) fs)(hn:x ≠ "__name__")(hdb:(x==("__debug__" : Ag))=Ac)(he:Aq (e::es) X.env=(Ac,eval e X.env)::Aq es X.env)(hpl : ∀ pos,(Bv pos (Aq es X.env)).any (·.1)=Ac):SC X CL W Ab (.Call (.Name x p) (e::es) [] pos) (λY=>(fs Y).bind g):=λA pI s Z H Q I ⟨hA,Y,gd,q⟩=>
 LR (hc A H) hg hm hv (ha A) hn hdb he (hpl _) pI s Z H Q I ⟨hA,Y,gd,E6.bindF q λds vs H1 _ s1 r1 p1=>⟨s1,hA.same s1,ds,r1,p1⟩⟩
mutual
theorem Ky{K:Fg}{H:Hp}{A:Ai->Prop}(hA:AOk H A) : ∀(n:Ae)(d:D){v:V},nlD n d=Ab->Rep K CL H A0 v d->Rep K CL H A v d
 |_,.non,_,_,h=>h
 |_,.bl _,_,_,h=>h
 |_,.int _,_,_,h=>h
 |_,.str _,_,_,h=>h
 |0,.tup _,_,hn,_=>by cases hn
 |n+1,.tup ds,_,hn,h=>by
  obtain⟨a,xs,e,_,s,r⟩:=h;refine⟨a,xs,e,?_,s,nls_up hA n ds hn r⟩;rcases s with s|s
  .refine .inl λz => ?_
   obtain⟨ys,q⟩:=hA a z;rcases s with s|⟨o,s⟩ <;> rw[q]at s <;> cases s
  .exact .inr s
 |n,.lst _,_,hn,_=>by cases n <;> cases hn
 |n,.obj _ _,_,hn,_=>by cases n <;> cases hn
 |n,.exc _ _,_,hn,_=>by cases n <;> cases hn
 |n,.dic _,_,hn,_=>by cases n <;> cases hn
theorem nls_up{K:Fg}{H:Hp}{A:Ai->Prop}(hA:AOk H A) : ∀(n:Ae)(ds:Ad D){vs:Ad V},ds.all (nlD n)=Ab->Reps K CL H A0 vs ds->Reps K CL H A vs ds
 |_,[],[],_,h=>h
 |n,d::ds,_::_,hn,h=>by
  simp only[DL,Al]at hn;exact⟨Ky hA n d hn.1 h.1,nls_up hA n ds hn.2 h.2⟩
 |_,[],_::_,_,h=>h.elim
 |_,_::_,[],_,h=>h.elim
end
theorem No{fr:Aj}(hA0:AOk H0 A)(s:Av H0 H)(hc:Em fr d=Ab)(r:CK K CL fr H0 A0 H v d):CK K CL fr H0 A H v d:=by
 have hA:=hA0.same s;cases d with
 |lst ds=>
  have hc':(fr&&ds.all (nlD 5))=Ab:=hc;rw[Al]at hc';obtain⟨a,xs,e,h0,h1,rs⟩:=r.2 hc'.1 ds rfl;have hA2:AOk H (λb=>A b\/b=a):=λb hb=>hb.elim (hA b) λe=>by rw[e];exact⟨xs,h1⟩
  have rs':=nls_up hA2 5 ds hc'.2 (Reps.sub (λ_ z=>z.elim) _ rs)
  refine⟨⟨a,xs,e,.inl (hA0.new h0),SqL.of h1,Reps.sub (λ_ z => .inl z) _ rs'⟩,λ_ ds' e' => ?_⟩
  cases e';exact⟨a,xs,e,h0,h1,rs'⟩
 |_=>exact⟨Ky hA 5 _ hc r.1,λ_ _ z=>nomatch z⟩
noncomputable def spD(K:Fg)(CL:ClA)(n:Ae)(fr:Aj)(F:Ad D->R D):Sp:=λvs H Q E => ∃(ds:Ad D)(A:Ai->Prop),vs.length=n/\AOk H A/\Reps K CL H A vs ds/\(match F ds with
  |.ok d => ∀ v H',Av H H'->CK K CL fr H A H' v d->Q v H'
  |.exn x => ∀ cls dx H',Av H H'->DV K CL H' cls dx x->E cls dx H'
  | .bad=>AT)
noncomputable def EKW(K:Fg)(CL:ClA)(A:Ai->Prop)(W:XW):XK:=λcls dx H' => ∃ x,DV K CL H' cls dx x/\W x H'
theorem El.plain{K:Fg}{H:Hp}{A:Ai->Prop} : ∀{vs:Ad V}{ds:Ad D},El K CL H A vs ds->Reps K CL H A0 vs ds
 |[],[],h=>trivial
 |_::_,_::_,h=>⟨h.1.plain,El.plain h.2⟩
 |[],_::_,h=>h.elim
 |_::_,[],h=>h.elim
theorem Sr{CX:CXT}{k:Ae}{fr:Aj}{f:Ai}{fd:Bl}{ps:Ad Ag}{F:Ad D->R D}{x:Ag}{p:Az}{ft:Rho->R (Ad D)}{sh:Rho->Aj}(G:FnOk X.prog X.w X.K X.mg X.base CX k f fd ps (spD X.K CL n fr F))(hr:Room k X.A)(hg:Gl X x)(hm:X.mg x=Aa (.ref f))(hk:BB X.K (.ref f)=Ab)(hb:Ed X.K fd ps [])(hx : ∀ A,GU CX X (EKW X.K CL A W))(ha:SA X CL W (e::es) fs)(hat:SAT X CL W (e::es) ft)(hst : ∀ Y,sh Y=Ab->ft Y=fs Y)(hn : ∀ Y ds,ft Y = .ok ds->ds.length=n)(hdb:(x==("__debug__" : Ag))=Ac)(he:Aq (e::es) X.env=(Ac,eval e X.env)::Aq es X.env)(hpl : ∀ pos,(Bv pos (Aq es X.env)).any (·.1)=Ac):SC X CL W fr (.Call (.Name x p) (e::es) [] pos) (λY=>(ft Y).bind λds=>(F ds).bind λd=>if sh Y=Ab then .ok d else if Em fr d=Ab then .ok d else .bad):=λA pI s Z H Q I ⟨hA,Y,gd,q⟩=>by
 dsimp only at q;by_cases hs:sh Y=Ab
 .rw[hst Y hs]at q;refine Mt G hr hg hm hk hb .nil (hx A) (ha A) hdb he (hpl _) pI s Z H Q I ⟨hA,Y,gd,?_⟩;cases e1:fs Y with
  |bad=>rw[e1]at q;exact q
  |exn y=>rw[e1]at q;exact q
  |ok ds=>
   rw[e1]at q;intro vs H1 s1 r1;refine⟨ds,A,by rw[B0,r1.length];exact hn Y ds (by rw[hst Y hs];exact e1),hA.same s1,by rw[B0];exact r1,?_⟩
   have q':A3 (CK X.K CL fr H A) W H ((F ds).bind λd=>if sh Y=Ab then .ok d else if Em fr d=Ab then .ok d else .bad) Q:=q
   cases e2:F ds with
   |ok d=>
    rw[e2,R.bind_ok,AY hs]at q';exact λv H2 s2 r2=>q' v H2 (s1.trans s2) ⟨r2.1,λz ds' e'=>let ⟨a,xs,z1,z2,z3⟩:=r2.2 z ds' e';⟨a,xs,z1,s1.free z2,z3⟩⟩
   |exn y=>rw[e2]at q';exact λcls dx H2 s2 xr=>⟨y,xr,q' H2 (s1.trans s2)⟩
   |bad=>rw[e2]at q';exact q'.elim
 .refine Mt G hr hg hm hk hb .nil (hx A0) (hat A) hdb he (hpl _) pI s Z H Q I ⟨hA,Y,gd,?_⟩;cases e1:ft Y with
  |bad=>rw[e1]at q;exact q
  |exn y=>rw[e1]at q;exact q
  |ok ds=>
   rw[e1]at q;intro vs H1 s1 r1;refine⟨ds,A0,by rw[B0,r1.plain.length];exact hn Y ds e1,λ_ z=>z.elim,by rw[B0];exact r1.plain,?_⟩
   have q':A3 (CK X.K CL fr H A) W H ((F ds).bind λd=>if sh Y=Ab then .ok d else if Em fr d=Ab then .ok d else .bad) Q:=q
   cases e2:F ds with
   |ok d=>
    rw[e2,R.bind_ok,A8 hs]at q';split at q'
    .rename_i hc;exact λv H2 s2 r2=>q' v H2 (s1.trans s2) (No hA (s1.trans s2) hc ⟨r2.1,λz ds' e'=>let ⟨a,xs,z1,z2,z3⟩:=r2.2 z ds' e';⟨a,xs,z1,s1.free z2,z3⟩⟩)
    .exact q'.elim
   |exn y=>rw[e2]at q';exact λcls dx H2 s2 xr=>⟨y,xr,q' H2 (s1.trans s2)⟩
   |bad=>rw[e2]at q';exact q'.elim
end
theorem Jp(env:BE) : ∀(ns:Ad (Ag × CG))(acc:Ad (Ag × Ai)),(∀ x∈ns,x.2 = .free -> ∃ c,env.cells.lookup x.1=Aa c)->(∀ x c,acc.lookup x=Aa c->env.cells.lookup x=Aa c) ->
  ∃ cl,(forIn ns acc fun(x:Ag × CG)(cs:Ad (Ag × Ai))=>(if (x.2==.free)=Ab then do let c <-cellOf env x.1;pure (CN ((x.1,c)::cs)) else pure (CN cs):Ez (ForInStep (Ad (Ag × Ai)))))=pure cl /\
   (∀ x c,cl.lookup x=Aa c->env.cells.lookup x=Aa c)/\(∀ x,((x,Ct)∈ns \/ ∃ c,acc.lookup x=Aa c) -> ∃ c,cl.lookup x=Aa c)
 |[],acc,_,h2=>⟨acc,by rw[OS],h2,λx hx=>hx.elim (λz=>nomatch z) id⟩
 |(n,k)::r,acc,h1,h2=>by
  rw[List.forIn_cons];by_cases hk:k = .free
  .subst hk;obtain⟨c,hc⟩:=h1 (n,.free) AU rfl;obtain⟨cl,e,p,q⟩:=Jp env r ((n,c)::acc) (λx hx=>h1 x (AG _ hx)) (λx d hd=>by
    rw[Bz]at hd;split at hd
    .rename_i hx;cases hd;rw[eq_of_beq hx];exact hc
    .exact h2 x d hd)
   refine⟨cl,?_,p,λx hx=>q x ?_⟩
   .have e1:cellOf env n=pure c:=by unfold cellOf;dsimp only at hc;rw[hc]
    rw[AY (by rfl),e1]
    exact e
   .rcases hx with hx|⟨d,hd⟩
    .rcases AR.mp hx with z|z
     .cases z;exact .inr ⟨c,by simp[Bz]⟩
     .exact .inl z
    .by_cases hxn:x=n
     .exact .inr ⟨c,by subst hxn;simp[Bz]⟩
     .exact .inr ⟨d,by rw[Bz];rw[Dh.mpr hxn];exact hd⟩
  .obtain⟨cl,e,p,q⟩:=Jp env r acc (λx hx=>h1 x (AG _ hx)) h2
   refine⟨cl,?_,p,λx hx=>q x ?_⟩
   .rw[A8 (by simpa using hk)]
    exact e
   .rcases hx with hx|hx
    .rcases AR.mp hx with z|z
     .cases z;exact absurd rfl hk
     .exact .inl z
    .exact .inr hx
theorem Ly(h : ∀ x∈scope.names,x.2 = .free -> ∃ c,env.cells.lookup x.1=Aa c):∃ cl,closureFor scope env=pure cl/\(∀ x c,cl.lookup x=Aa c->env.cells.lookup x=Aa c)/\∀ x,(x,Ct)∈scope.names->∃ c,cl.lookup x=Aa c:=by
 obtain⟨cl,e,p,q⟩:=Jp env scope.names [] h (λx c z=>by simp at z)
 refine⟨cl,?_,p,λx hx=>q x (.inl hx)⟩
 unfold closureFor
 first
  |exact e
  |(simp only[bind_pure];exact e)
  |(rw[show (forIn scope.names ([]:Ad (Ag × Ai)) _:Ez _)=pure cl from e];rfl)
theorem JN :∀(names:Ad (Ag × CG))(h:Ay)(acc:Ad (Ag × Ai))(x:Ag)(c:Ai),(B1 h.objs.size names acc).lookup x=Aa c->acc.lookup x=Aa c\/((x,Bi)∈names/\h.objs.size<=c/\(Ev h names).IsCell c Af)
 |[],_,_,_,_,e => .inl e
 |(n,k)::r,h,acc,x,c,e=>by
  unfold B1 at e;unfold Ev;by_cases hk:(k==Bi)=Ab
  .rw[AY hk]at e ⊢;have hs:h.objs.size+1=(h.push { cls := .type "cell",data := .cell Af }).objs.size:=(DA ..).symm;rw[hs]at e;rcases JN r _ _ x c e with q|⟨q1,q2,q3⟩
   .rw[Bz]at q;cases hx:x==n with
    |true=>
     rw[hx]at q;cases q;refine .inr ⟨?_,AW _,?_⟩
     .rw[eq_of_beq hx,eq_of_beq hk];exact AU
     .exact⟨_,Fe r _ _ _ (Bs _ rfl),rfl⟩
    |false=>rw[hx]at q;exact .inl q
   .exact .inr ⟨AG _ q1,by omega,q3⟩
  .rw[A8 hk]at e ⊢;rcases JN r h acc x c e with q|⟨q1,q2,q3⟩
   .exact .inl q
   .exact .inr ⟨AG _ q1,q2,q3⟩
theorem JO :∀(names:Ad (Ag × CG))(h:Ay)(acc:Ad (Ag × Ai)),(∀ x y c,acc.lookup x=Aa c->acc.lookup y=Aa c->x=y)->(∀ x c,acc.lookup x=Aa c->c<h.objs.size)->∀ x y c,(B1 h.objs.size names acc).lookup x=Aa c->(B1 h.objs.size names acc).lookup y=Aa c->x=y
 |[],_,_,i,_,x,y,c,e1,e2=>i x y c e1 e2
 |(n,k)::r,h,acc,i,b,x,y,c,e1,e2=>by
  unfold B1 at e1 e2;by_cases hk:(k==Bi)=Ab
  .rw[AY hk]at e1 e2;have hs:h.objs.size+1=(h.push { cls := .type "cell",data := .cell Af }).objs.size:=(DA ..).symm;rw[hs]at e1 e2;have look : ∀ z d,CC z ((n,h.objs.size)::acc)=Aa d->(z=n/\d=h.objs.size)\/(z≠n/\acc.lookup z=Aa d):=λz d q=>by
    rw[Bz]at q;cases hx:z==n with
    |true=>rw[hx]at q;cases q;exact .inl ⟨eq_of_beq hx,rfl⟩
    |false=>rw[hx]at q;exact .inr ⟨λe=>by rw[e]at hx;simp at hx,q⟩
   refine JO r _ _ (λz z' d q q' => ?_) (λz d q => ?_) x y c e1 e2
   .rcases look z d q with ⟨rfl,q1⟩|⟨_,q1⟩ <;> rcases look z' d q' with ⟨rfl,q2⟩|⟨_,q2⟩
    .rfl
    .exact absurd (b _ _ q2) (by rw[q1];exact Bc _)
    .exact absurd (b _ _ q1) (by rw[q2];exact Bc _)
    .exact i _ _ _ q1 q2
   .rw[<-hs];rcases look z d q with ⟨_,q1⟩|⟨_,q1⟩
    .rw[q1];exact O5 _
    .exact EI (b _ _ q1)
  .rw[A8 hk]at e1 e2;exact JO r h acc i b x y c e1 e2
theorem Jq : ∀(names:Ad (Ag × CG))(n:Ae)(acc:Ad (Ag × Ai))(x:Ag),(x,Bi) ∉ names->(B1 n names acc).lookup x=acc.lookup x
 |[],_,_,_,_=>rfl
 |(m,k)::r,n,acc,x,hx=>by
  unfold B1;have hr:(x,Bi) ∉ r:=λz=>hx (AG _ z)
  by_cases hk:(k==Bi)=Ab
  .rw[AY hk,Jq r _ _ x hr,Bz];cases q:x==m with
   |true=>exact absurd (by rw[eq_of_beq q,eq_of_beq hk];exact AU) hx
   |false=>rfl
  .rw[A8 hk];exact Jq r n acc x hr
theorem JP(n0:Ae) : ∀(names:Ad (Ag × CG))(n:Ae)(acc:Ad (Ag × Ai))(x:Ag),n0<=n->((x,Bi)∈names \/ ∃ c,acc.lookup x=Aa c/\n0<=c) -> ∃ c,(B1 n names acc).lookup x=Aa c/\n0<=c
 |[],_,_,_,_,h=>h.elim (λz=>nomatch z) id
 |(m,k)::r,n,acc,x,hn,h=>by
  unfold B1;by_cases hk:(k==Bi)=Ab
  .rw[AY hk];refine JP n0 r _ _ x (by omega) ?_
   by_cases hx:(x==m)=Ab
   .exact .inr ⟨n,by rw[Bz,hx],hn⟩
   .rcases h with h|⟨c,h,hc⟩
    .rcases AR.mp h with z|z
     .cases z;simp at hx
     .exact .inl z
    .exact .inr ⟨c,by rw[Bz];simp only[hx];exact h,hc⟩
  .rw[A8 hk];refine JP n0 r _ _ x hn (h.imp (λh => ?_) id)
   rcases AR.mp h with z|z
   .cases z;simp at hk
   .exact z
theorem QG{M:Eo}{A:AN}{E:Ah->Am->Prop}{globals:Ai}{qual:Ag}{Q:BE->Am->Prop}(hQ:Q (newEnv scope s.heap.objs.size globals (B1 (s.heap.objs.size+1) scope.names cl) qual Af .none (Aa env) FE) { s with heap:=Ev (s.heap.push { cls := .type "dict",data := .dict #[] }) scope.names }):As M A (Fw scope globals cl [] qual Af .none (Aa env)) Q E s:=by
 simp only[Fw,Option.isSome_some,EQ];refine At (wpAny_alloc ?_);refine At (wpAny_layCells _ (λname kind cells=>by cases hkc:kind==Bi <;> simp[hkc]) _ _ _ _ ?_)
 rw[show ({ s with heap:=s.heap.push { cls := .type "dict",data := .dict #[] } }:Am).heap.objs.size=s.heap.objs.size+1 from DA ..]
 rw[OS];exact At (Bm (Bm hQ))
noncomputable def cxC(X:Cx)(scope:Bw)(cl:Ad (Ag × Ai))(C:Ai)(N':Ad Ag)(s₀:Am)(H₀:Hp)(fp:Ad Ai):Cx where
 prog:=X.prog
 w:=X.w
 K:=X.K
 mg:=X.mg
 base:=X.base
 A:=X.A
 N:=N'
 s₀:=s₀
 H₀:=H₀
 env:=compEnvC scope cl C X.env
 outer:=X.stack
 stack:=X.stack
 ex:=fp
 fn:=λx=>scope.names.lookup x==Aa Bi
 calm:=X.calm
 pn:=[]
 xe:=λ_ _=>AT
theorem HW{env:BE} :∀{names:Ad (Ag × CG)}{x:Ag}{k:CG},(names.map λ(n,k)=>if (k==Ct&&env.scope.kind==.function&&env.kindOf n==Aa .cell) then (n,Bi) else (n,k)).lookup x=Aa k->names.lookup x=Aa k\/(k = .cell/\names.lookup x=Aa .free)
 |[],_,_,h=>by simp at h
 |(n,j)::r,x,k,h=>by
  have ih := @HW env r x k;have h':CC x ((if (j==Ct&&env.scope.kind==.function&&env.kindOf n==Aa .cell)=Ab then (n,Bi) else (n,j))::(r.map λ(n,k)=>if (k==Ct&&env.scope.kind==.function&&env.kindOf n==Aa .cell) then (n,Bi) else (n,k)))=Aa k:=h
  by_cases hc:(j==Ct&&env.scope.kind==.function&&env.kindOf n==Aa .cell)=Ab
  .rw[AY hc]at h';rw[Bz]at h' ⊢;cases hx:x==n with
   |true=>
    rw[hx]at h';cases h';simp only[Al]at hc;exact .inr ⟨rfl,by rw[eq_of_beq hc.1.1]⟩
   |false=>rw[hx]at h';exact ih h'
  .rw[A8 hc]at h';rw[Bz]at h' ⊢;cases hx:x==n with
   |true=>rw[hx]at h';exact .inl h'
   |false=>rw[hx]at h';exact ih h'
structure BlockOk (X:Cx) (scope:Bw) (N':Ad Ag) (ts:Ad Ae):Prop where
 kind:scope.kind = .function
 uniq : ∀ y∈scope.names,scope.names.lookup y.1=Aa y.2
 names : ∀ y∈scope.names,y.2 = .local->scope.names.lookup y.1=Aa .local
 free : ∀ y∈scope.names,y.2 = .free->X.env.scope.names.lookup y.1=Aa .cell\/X.env.scope.names.lookup y.1=Aa .free
 len:N'.length=X.N.length
 same : ∀ i x,N'[i]? = Aa x->scope.names.lookup x=Aa .free->i ∉ ts->X.N[i]? = Aa x
 loc : ∀ i x,N'[i]? = Aa x->(scope.names.lookup x=Aa .local\/scope.names.lookup x=Aa .cell)->i∈ts
structure BCells (X:Cx) (scope:Bw) (cl:Ad (Ag × Ai)) (C:Ai) (h:Ay):Prop where
 own : ∀ x c,cl.lookup x=Aa c->X.env.cells.lookup x=Aa c\/(scope.names.lookup x=Aa .cell/\C<c/\h.IsCell c Af)
 inj : ∀ x y c,cl.lookup x=Aa c->cl.lookup y=Aa c->x=y
 has : ∀ x,scope.names.lookup x=Aa .cell -> ∃ c,cl.lookup x=Aa c/\C<c
 fr : ∀ x,(x,Ct)∈scope.names -> ∃ c,cl.lookup x=Aa c/\X.env.cells.lookup x=Aa c
section
variable{X:Cx}{pI:Ad (Ai × AD)}{Z:L2.St}{H:Hp}{s:Am}
noncomputable def hideT(ts:Ad Ae)(Z:L2.St):L2.St:=ts.foldl (λZ t=>Z.set t Af) Z
theorem JI : ∀(ts:Ad Ae)(Z:L2.St),(hideT ts Z).length=Z.length
 |[],_=>rfl
 |t::ts,Z=>by show (hideT ts (Z.set t Af)).length=_;rw[JI ts,AX]
theorem LW : ∀(ts:Ad Ae)(Z:L2.St){i:Ae}{v:V},(hideT ts Z)[i]? = Aa (Aa v)->Z[i]? = Aa (Aa v)/\i ∉ ts
 |[],_,_,_,h=>⟨h,by simp⟩
 |t::ts,Z,i,v,h=>by
  obtain⟨h1,h2⟩:=LW ts (Z.set t Af) (i:=i) (v:=v) h;by_cases e:t=i
  .subst e;have:=Ej h1;cases this
  .rw[BF e]at h1;exact⟨h1,by simp only[AR,HR];exact⟨λz=>e z.symm,h2⟩⟩
theorem QI{tk:Ae}{C:Ai}{m:Ag->An Ah}(I:Inv X pI Z H s)(B:BlockOk X scope N' ts)(hf : ∀ b∈fp,Fo X pI H b)(hfo : ∀ b∈fp,b<s.heap.objs.size)(hb:BCells X scope cl C h')(hk : ∀ b o,s.heap.get? b=Aa o->h'.get? b=Aa o)(hC:s.heap.objs.size<=C)(hn:h'.Ns C m):Inv (cxC X scope cl C N' s H fp) [] (hideT ts Z) H {s with heap:=h',toks:=tk}:=by
 have stf : ∀ b∈fp,b ∉ frs X.stack:=λb hb z=>by
  rcases AR.mp (I.stkSub b z) with e|e
  .exact(hf b hb).2.1 e
  .exact(hf b hb).2.2.1 e
 have frOf : ∀ x,((relabel scope X.env).names.lookup x=Aa .cell\/(relabel scope X.env).names.lookup x=Aa .free)->scope.names.lookup x=Aa .free\/scope.names.lookup x=Aa .cell:=λx hx=>by
  rcases hx with z|z
  .rcases HW z with z|⟨_,z⟩
   .exact .inr z
   .exact .inl z
  .rcases HW z with z|⟨z,_⟩
   .exact .inl z
   .cases z
 have gtC : ∀ c:Ai,C<c->s.heap.objs.size<=c:=λc z=>BP hC (D7 z)
 have cellK : ∀ c v,s.heap.IsCell c v->h'.IsCell c v:=λc v ⟨o,ho,hd⟩=>⟨o,hk _ _ ho,hd⟩
 refine⟨⟨I.ok.mod,B.kind,I.ok.glob,I.ok.blt,hC,hb.inj,λx hx => ?_,λx c h e => ?_,I.ok.hd,I.ok.frames,.inl rfl,λb hbb=>⟨?_,λx c e => ?_⟩,I.bs,BP I.ok.bsz I.sz,λb o e hbb => ?_,stf,I.stack,I.stkFree⟩,rfl,I.bare,Un.kept hk,⟨m,hn,λi x v h1 h2 h3 => ?_⟩,λx c e => ?_,I.hok.fresh hC,λx c e=>(hb.own x c e).elim (I.freeC x c) (λz=>I.hok.fresh (gtC c z.2.1)),λp hp=>absurd (show p∈([]:Ad (Ai × AD)) from hp) (by simp),I.hok.kept hk,?_⟩
 .rcases frOf x hx with z|z
  .obtain⟨c,q,_⟩:=hb.fr x (BL z);exact⟨c,q⟩
  .obtain⟨c,q,_⟩:=hb.has x z;exact⟨c,q⟩
 .obtain⟨c',q,z⟩:=hb.has x (eq_of_beq h);have e':cl.lookup x=Aa c:=e;rw[q]at e';cases e';exact gtC _ z
 .intro z;have z':b=C:=z;have:=hfo b hbb;rw[z']at this;exact absurd (AF this hC) (Bc _)
 .rcases hb.own x c e with z|z
  .exact(hf b hbb).2.2.2.2.1 x c z
  .intro q;have:=hfo b hbb;have:=gtC c z.2.1;rw[q]at this;exact absurd ‹b<_› (O8.mpr this)
 .rcases (hf b hbb).2.2.2.1 with z|z
  .exact I.ok.noex b o e z
  .exact absurd (AF (AA e) (BP I.ok.bsz z)) (Bc _)
 .obtain⟨h2,hts⟩:=LW ts Z h2;have h3':(relabel scope X.env).names.lookup x=Aa .local\/(relabel scope X.env).names.lookup x=Aa .cell\/(relabel scope X.env).names.lookup x=Aa .free:=h3;have h1':N'[i]? = Aa x:=h1;rcases h3' with z|z
  .rcases HW z with z|⟨z,_⟩
   .exact absurd (B.loc i x h1' (.inl z)) hts
   .cases z
  .have fr:=(frOf x z).resolve_right λq=>hts (B.loc i x h1' (.inr q))
   have hm:=BL fr;have hX:=B.same i x h1' fr hts;obtain⟨m0,hn0,hl0⟩:=I.loc;obtain⟨u,ru,lk⟩:=hl0 i x v hX h2 (by
    rcases B.free _ hm rfl with q|q
    .exact .inr (.inl q)
    .exact .inr (.inr q))
   refine⟨u,ru,?_⟩;obtain⟨c,hc,hcX⟩:=hb.fr x hm;rcases lk with ⟨q,_⟩|⟨_,c',hc',hcell⟩
   .have q':X.env.scope.names.lookup x=Aa .local:=q;rcases B.free _ hm rfl with p|p
    .rw[show X.env.scope.names.lookup x=_ from p]at q';cases q'
    .rw[show X.env.scope.names.lookup x=_ from p]at q';cases q'
   .have e:=hcX;rw[hc']at e;cases e;exact .inr ⟨z,c,hc,cellK _ _ hcell⟩
 .rcases hb.own x c e with z|z
  .obtain⟨v,q⟩:=I.cell x c z;exact⟨v,cellK _ _ q⟩
  .exact⟨_,z.2.2⟩
 .show (hideT ts Z).length=N'.length;rw[JI,I.len,B.len]
theorem LF{C D:Ai}{s':Am}{Z':L2.St}{pins':Ad (Ai × AD)}{h'':Ay}(I:Inv X pI Z H s)(hf : ∀ b∈fp,Fo X pI H b)(I':Inv (cxC X scope cl C N' s H fp) pins' Z' H' s')(hD:s.heap.objs.size<=D)(hDC:D≠C)(hC:s.heap.objs.size<=C)(hd:s'.heap.get? D=Aa { cls := .type "list",data := .seq ys.toArray n })(hDn:H' D=Af)(rv:AS xs ys)(hz:xs.length<=sizeLine)(hs:EW C s'.heap h''):Inv X pI Z (upd H' D (.lst xs)) {s' with heap:=h''}:=by
 have u:Un (frs X.stack) fp H H' s.heap s'.heap:=I'.base;have lt : ∀ b o,s.heap.get? b=Aa o->b≠C/\b≠D:=λb o e=>⟨λz=>absurd (AF (AA e) (z ▸ hC)) (Bc _),λz=>absurd (AF (AA e) (z ▸ hD)) (Bc _)⟩
 have HD:H D=Af:=I.hok.fresh hD;have hCn:H' C=Af:=I'.free;have kb : ∀ b o,b≠C->s'.heap.get? b=Aa o->h''.get? b=Aa o:=λb o hb e=>(hs.2 b hb).trans e
 have u2:Un (frs X.stack) fp H (upd H' D (.lst xs)) s.heap h'':=⟨λb o e q hb hx=>kb b o (lt b o e).1 (u.keep b o e q hb hx),λb o e q hb hx=>by
   obtain⟨sl,e1⟩:=u.slot b o e q hb hx;exact⟨sl,kb b _ (lt b o e).1 e1⟩,λb o e q hx=>by rw[Bb (lt b o e).2];exact u.free b o e q hx,λb o e hx=>by
   obtain⟨o',e1⟩:=u.there b o e hx;exact⟨o',kb b _ (lt b o e).1 e1⟩,λb zs q=>by rw[Bb (DF q HD)];exact u.tups b zs q,λb o zs q=>by rw[Bb (DF q HD)];exact u.frzs b o zs q,λb ps q=>by rw[Bb (DF q HD)];exact u.tbls b ps q⟩
 have hok:HOk X.prog X.w (upd H' D (.lst xs)) h'':=λb o e=>by
  by_cases hb:b=D
  .subst hb;rw[Dt]at e;cases e;exact⟨hz,ys,n,rv,kb _ _ hDC hd⟩
  .rw[Bb hb]at e;refine(I'.hok b o e).stay (λc v hc q=>kb c v ?_ q) (λc q=>by rw[Bb (DF q hDn)];exact q) λc zs q=>by rw[Bb (DF q hDn)];exact q
   rcases hc with rfl|hc
   .exact DF e hCn
   .exact DF hc hCn
 exact I.call' (s' := {s' with heap:=h''}) (ch:=fp) I'.os u2 hok I'.bare λb hb=>⟨(hf b hb).2.2.2.1,(hf b hb).2.1,(hf b hb).2.2.2.2.1,(hf b hb).2.2.2.2.2⟩
end
noncomputable def PTs(X:Cx)(ifs:Ad Ak)(tt:TT):Prop := ∀(pI:Ad (Ai × AD))(s:Am)(Z:L2.St)(H:Hp)(Q:Aj->Hp->Prop),Inv X pI Z H s->tt Z H Q ->
 As (model X.prog X.w) X.A (forIn ifs Ab λc r=>if r=Ab then do let ok <-Fv c X.env (eval c X.env);pure (CN ok) else pure (CN r)) (TP X pI Z Q) X.xe s
theorem T6:PTs X [] (λZ H Q=>Q Ab H):=λpI s Z H Q I h=>wpAny_tests_nil ⟨H,I,h⟩
theorem T5(h:PT X c t):PTs X [c] t:=λpI s Z H Q I q=>wpAny_tests_one (h pI s Z H Q I q)
theorem Q4{D:Ai}{y:Ah}{E:Ah->Am->Prop}{Q:Ah->Am->Prop}(I:Inv X ((D,{ cls := .type "list",data := .seq ys.toArray n })::pI) Z H s)(hD:X.s₀.heap.objs.size<=D)(hp : ∀ p∈X.pn++pI,p.1≠D)(hc : ∀ x c,X.env.cells.lookup x=Aa c->c≠D)(hz:ys.length<=sizeLine)(h : ∀ s',Inv X ((D,{ cls := .type "list",data := .seq (ys++[y]).toArray (n+1) })::pI) Z H s'->(∀ b o,b≠D->s.heap.get? b=Aa o->s'.heap.get? b=Aa o)->Q .none s'):As (model X.prog X.w) X.A (call (.builtin "list.append") [.ref D,y]) Q E s:=by
 obtain⟨e,hn,hL,hfs,_⟩:=I.pin (D,{ cls := .type "list",data := .seq ys.toArray n }) (A6 _ AU);refine append_at (hsz:=by rw[A1];exact hz) e λh' hs hd => ?_
 have hd':h'.get? D=Aa { cls := .type "list",data := .seq (ys++[y]).toArray (n+1) }:=by rw[hd];simp
 have kb : ∀ b o,b≠D->s.heap.get? b=Aa o->h'.get? b=Aa o:=λb o hb q=>(hs.2 b hb).trans q
 have I0:Inv X pI Z H s:=I.pins_of λp hp=>I.pin p (A6 _ (AG _ hp))
 have I1:Inv X pI Z H {s with heap:=h'}:=I0.turned (t':=s.toks) kb hn hL (.inr hD) hc hp
 refine h _ (I1.pins_of λp hp => ?_) kb
 rcases AR.mp hp with rfl|hp
 .exact⟨hd',hn,hL,hfs,λv z=>by
   have z':G7 _ _=G3 v:=z;cases z'⟩
 .exact I1.pin p (A6 _ hp)
section
variable{prog:AE}{w:Ar}{A:AN}{R:Ft->Am->Prop}{s:Am}
theorem QH{target:Ak}{it acc:Ah}(I:Ae->Am->Prop)(turn : ∀ n s,I n s->As (model prog w) A (pyNext it) (λr s₁=>match r with
      |none=>R (.ok .next) s₁
      | some v=>As (model prog w) A (Eb target it v) (λ_ s₁'=>As (model prog w) A (assign target env v) (λ_ s₂=>
          As (model prog w) A (forIn ifs Ab λc r=>if r=Ab then do let ok <-Fv c env (eval c env);pure (CN ok) else pure (CN r)) (λok s₃=>
            if ok=Ab then As (model prog w) A (eval elt env) (λx s₄=>
              As (model prog w) A (call (.builtin "list.append") [acc,x]) (λ_ s₅ => ∃ m,m<n/\I m s₅) (Fx (model prog w) A env λe s'=>R (.error e) s') s₄) (Fx (model prog w) A env λe s'=>R (.error e) s') s₃
            else ∃ m,m<n/\I m s₃) (Fx (model prog w) A env λe s'=>R (.error e) s') s₂) (Fx (model prog w) A env λe s'=>R (.error e) s') s₁') (Fx (model prog w) A env λe s'=>R (.error e) s') s₁) (Fx (model prog w) A env λe s'=>R (.error e) s') s)(n:Ae)(h:I n s):DB (model prog w) A (.compLoop (.ListComp elt [⟨target,iter,ifs,0⟩] scope pos) 0 it acc env) R s:=by
  refine codeAny_loop rfl I (λn s hI => ?_) n h
  show As _ A ((compTurn (.ListComp elt [⟨target,iter,ifs,0⟩] scope pos) 0 it acc env).onRaise (λx=>do Eu x env;theTreesLotGoes x)) _ _ s
  refine wpAny_noted ?_;rw[compTurn_list];refine At (C9 (At (AZ (turn n s hI) (λr s₁ h₁ => ?_) λ_ _ h'=>h')))
  cases r with
  |none=>exact Bm h₁
  |some v=>
    refine At (AZ h₁ (λ_ s₁' h₁' => ?_) λ_ _ h'=>h')
    refine At (AZ h₁' (λ_ s₂ h₂=>At (AZ h₂ (λok s₃ h₃ => ?_) λ_ _ h'=>h')) λ_ _ h'=>h')
    cases ok with
    |false=>exact Bm ⟨rfl,h₃⟩
    |true=>
      exact At (At (AZ h₃ (λx s₄ h₄=>At (AZ h₄ (λ_ s₅ h₅=>Bm (Bm ⟨rfl,h₅⟩)) λ_ _ h'=>h')) λ_ _ h'=>h'))
end
noncomputable def Hl(J:It)(ts:Ad Ae)(g:TG)(tt:TT)(te:TE)(Z:L2.St)(H:Hp)(Q:VK):Prop := ∃ W:Ae->Ae->Ad V->L2.St->Hp->Prop,(∃ m,W 0 m [] (hideT ts Z) H) /\ ∀ i m xs Z H,W i m xs Z H ->
 (J.stop i H /\ ∀ p,H p=Af->Q (.ref p) (upd H p (.lst xs))) \/
 (J.go i H/\xs.length<sizeLine /\ ∀ x H',J.yld i H x H'->g x Z H' λZ2 H2=>tt Z2 H2 λb H3=>if b=Ab then te Z2 H3 λy H4 => ∃ m',m'<m/\W (i+1) m' (xs++[y]) Z2 H4 else ∃ m',m'<m/\W (i+1) m' xs Z2 H3)
theorem L8{g:TG}{it:Ai}{tn:Ae->Ay->Prop}{E:Ah->Am->Prop}{RR:Ah->Ai->Ft->Am->Prop}(hc:X.calm=Ab)(B:BlockOk X scope N' ts)(I:Inv X pI Z H s)(T:Turn X.prog X.w X.K tg J fp it tn)(st:tn 0 s.heap)(hf : ∀ b∈fp,Fo X pI H b)(hcl : ∀ x c,cl.lookup x=Aa c->X.env.cells.lookup x=Aa c)(hcl2 : ∀ x,(x,Ct)∈scope.names -> ∃ c,cl.lookup x=Aa c)(hg : ∀ cl C s H,PG (cxC X scope cl C N' s H fp) tg g)(ht : ∀ cl C s H,PTs (cxC X scope cl C N' s H fp) ifs tt)(he : ∀ cl C s H,PE (cxC X scope cl C N' s H fp) elt te)(h:Hl J ts g tt te Z H Q)(hRR : ∀ cl D C s' H' Z' pins' xs ys n m,Inv (cxC X scope cl C N' s H fp) pins' Z' H' s'->s'.heap.get? D=Aa { cls := .type "list",data := .seq (Dp ys) n }->H' D=Af->AS xs ys->xs.length<=sizeLine->s.heap.objs.size<=D->D≠C->s.heap.objs.size<=C->s'.heap.Ns C m->Q (.ref D) (upd H' D (.lst xs))->RR (.ref D) C (.ok .next) s'):As (model X.prog X.w) X.A (newList []) (λacc s₃=>As (model X.prog X.w) X.A (Fw scope X.env.globals cl [] X.env.qual Af .none (Aa X.env)) (λcenv s₄=>DB (model X.prog X.w) X.A (.compStart (.ListComp elt [⟨tg,iter,ifs,0⟩] scope pos) 0 (.ref it) acc {cenv with scope:=relabel scope X.env}) (RR acc cenv.locals) s₄) E s₃) E s:=by
 refine QD (QG ?_);dsimp only;generalize hH2:s.heap.push { cls := .type "list",dict:=Af,data := .seq ([]:Ad Ah).toArray }=H2;have hns₁:(Ev (H2.push { cls := .type "dict",data := .dict #[] }) scope.names).Ns H2.objs.size (λ_=>Af):=(Heap.Ns.new H2 (.type "dict")).keeps (Fe _ _)
 have hkp₁ : ∀ b o,H2.get? b=Aa o->(Ev (H2.push { cls := .type "dict",data := .dict #[] }) scope.names).get? b=Aa o:=λb o e=>Fe _ _ b o (Ax _ e)
 have hown:=JN scope.names (H2.push { cls := .type "dict",data := .dict #[] }) cl;have hinj:=JO scope.names (H2.push { cls := .type "dict",data := .dict #[] }) cl;rw[DA]at hown hinj;generalize hcl':B1 (H2.objs.size+1) scope.names cl=cl' at hown hinj;have hcf : ∀ x,(x,Bi) ∉ scope.names->cl'.lookup x=cl.lookup x:=λx hx=>by rw[<-hcl'];exact Jq _ _ _ x hx
 have hch : ∀ x,(x,Bi)∈scope.names -> ∃ c,cl'.lookup x=Aa c/\H2.objs.size+1<=c:=λx hx=>by rw[<-hcl'];exact JP _ _ _ _ x (AW _) (.inl hx)
 generalize hh₁:Ev (H2.push { cls := .type "dict",data := .dict #[] }) scope.names=h₁ at hns₁ hkp₁ hown;have hC:H2.objs.size=s.heap.objs.size+1:=by rw[<-hH2,DA]
 have hCle:s.heap.objs.size<=H2.objs.size:=by rw[hC];exact O3 _
 have hDC:s.heap.objs.size≠H2.objs.size:=by rw[hC];exact Bp (O5 _)
 have below : ∀ b,b<s.heap.objs.size->b≠H2.objs.size:=λb hb=>by rw[hC];exact Bp (EI hb)
 have old : ∀ b o,s.heap.get? b=Aa o->h₁.get? b=Aa o:=λb o e=>hkp₁ b o (hH2 ▸ Ax _ e)
 have hacc:h₁.get? s.heap.objs.size=Aa { cls := .type "list",data := .seq ([]:Ad Ah).toArray 0 }:=hkp₁ _ _ (hH2 ▸ Bs _ rfl);have clt : ∀ x c,cl.lookup x=Aa c->c<s.heap.objs.size:=λx c e=>by
  obtain⟨v,q⟩:=I.cell x c (hcl x c e);exact q.lt
 have bc:BCells X scope cl' H2.objs.size h₁:=by
  refine⟨λx c e => ?_,hinj (λx y c e1 e2=>I.ok.inj x y c (hcl x c e1) (hcl y c e2)) (λx c e=>EI (AF (clt x c e) hCle)),λx hx => ?_,λx hx => ?_⟩
  .rcases hown x c e with q|⟨q1,q2,q3⟩
   .exact .inl (hcl x c q)
   .exact .inr ⟨B.uniq _ q1,q2,q3⟩
  .have hm:=BL hx;obtain⟨c,e,hc⟩:=hch x hm;exact⟨c,e,hc⟩
  .have hno:(x,Bi) ∉ scope.names:=λz=>by
    have e1:=B.uniq _ hx;have e2:=B.uniq _ z;rw[show scope.names.lookup x=_ from e1]at e2
    cases e2
   obtain⟨c,e⟩:=hcl2 x hx;exact⟨c,by rw[hcf x hno];exact e,hcl x c e⟩
 have hfo : ∀ b∈fp,b<s.heap.objs.size:=λb hb=>by
  obtain⟨o,e,_⟩:=T.obj 0 _ st b hb;exact AA e
 generalize hD:s.heap.objs.size=D at *;generalize hC':H2.objs.size=C at *;have I0:Inv (cxC X scope cl' C N' s H fp) [] (hideT ts Z) H {s with heap:=h₁,toks:=s.toks+([]:Ad (Ag × Ah)).length}:=QI (tk:=s.toks+([]:Ad (Ag × Ah)).length) I B hf (λb hb=>by rw[hD];exact hfo b hb) bc old (by rw[hD];exact hCle) hns₁
 have nD:H D=Af:=I.hok.fresh (by rw[hD];exact AW _)
 have noD : ∀ b∈fp,b≠D:=λb hb=>Bp (hfo b hb)
 have noC : ∀ b∈fp,b≠C:=λb hb=>below b (hfo b hb)
 have stfs:D ∉ frs X.stack:=λz=>by
  obtain⟨_,o,ho,_⟩:=I.stack.mem z;exact absurd (AA ho) (by rw[hD];exact Bc _)
 have cD : ∀ x c,cl'.lookup x=Aa c->c≠D:=λx c e z=>by
  rcases bc.own x c e with q|⟨_,q,_⟩
  .obtain⟨v,q⟩:=I.cell x c q;exact absurd q.lt (by rw[z,hD];exact Bc _)
  .rw[z]at q;exact absurd (AF q hCle) (Bc _)
 have I1:Inv (cxC X scope cl' C N' s H fp) [(D,{ cls := .type "list",data := .seq ([]:Ad Ah).toArray 0 })] (hideT ts Z) H {s with heap:=h₁,toks:=s.toks+([]:Ad (Ag × Ah)).length}:=I0.pins_of λp hp=>by
  have e:=Bn.mp hp;subst e;exact⟨hacc,nD,hDC,stfs,λv z=>by
   have z':G7 _ _=G3 v:=z;cases z'⟩
 have st1:tn 0 h₁:=T.keep _ _ _ st λb _ o e=>old b o e
 obtain⟨W,⟨m0,w0⟩,turn⟩:=h;have fpk : ∀{pl:Ad (Ai × AD)}{H':Hp},(∀ p∈pl,p.1=D)->(∀ b∈fp,H' b=Af) -> ∀ b∈fp,Fo (cxC X scope cl' C N' s H fp) pl H' b:=λ{pl H'} hp hn b hb=>
  ⟨hn b hb,noC b hb,λz=>by
   rcases AR.mp (I.stkSub b z) with e|e
   .exact(hf b hb).2.1 e
   .exact(hf b hb).2.2.1 e,.inl hb,λx c e=>(bc.own x c e).elim ((hf b hb).2.2.2.2.1 x c) (λz q=>absurd (Er hCle z.2.1) (O8.mpr (by rw[q];exact D7 (hfo b hb)))),λp hp'=>by
   have hp2:p∈pl:=hp';rw[hp p hp2];exact(noD b hb).symm⟩
 have loop : ∀ s₃:Am,s₃ = {s with heap:=h₁,toks:=s.toks+([]:Ad (Ag × Ah)).length} ->
   DB (model X.prog X.w) X.A (.compLoop (.ListComp elt [⟨tg,iter,ifs,0⟩] scope pos) 0 (.ref it) (.ref D) (compEnvC scope cl' C X.env)) (RR (.ref D) C) s₃:=by
  rintro s₃ rfl;refine QH (λk s' => ∃ i Z' H' xs ys n,Inv (cxC X scope cl' C N' s H fp) [(D,{ cls := .type "list",data := .seq (Dp ys) n })] Z' H' s'/\tn i s'.heap/\(∀ b∈fp,H' b=Af)/\AS xs ys/\xs.length<=sizeLine/\W i k xs Z' H') ?_ m0
   ⟨0,_,H,[],[],0,I1,st1,λb hb=>(hf b hb).1,.nil,En _,w0⟩
  rintro k s' ⟨i,Z',H',xs,ys,n,I',st',fr',rv,hz,w'⟩;have one : ∀ p∈[((D,{ cls := .type "list",data := .seq (Dp ys) n }):Ai × AD)],p.1=D:=λp hp=>by rw[Bn.mp hp]
  rcases turn i k xs Z' H' w' with ⟨stop,q⟩|⟨go,hlt,step⟩
  .refine AZ (T.done (cxC X scope cl' C N' s H fp) rfl rfl rfl hc i _ s' Z' H' (λ_ _=>AT) I' (fpk one fr') st' stop) (λr s1 ⟨hr,J1⟩ => ?_) λ_ _ f=>f.elim
   subst hr;obtain⟨e,hn,_⟩:=J1.pin _ (A6 _ AU);obtain⟨m,hm,_⟩:=J1.loc;exact hRR cl' D C s1 H' Z' _ xs ys n m J1 e hn rv hz (AW _) hDC hCle hm (q D hn)
  .refine AZ (T.item (cxC X scope cl' C N' s H fp) rfl rfl rfl hc i _ s' Z' H' (λ_ _=>AT) I' (fpk one fr') st' go) (λr s1 ⟨u,hr,h4⟩ => ?_) λ_ _ f=>f.elim
   subst hr;refine AZ h4 (λ_ s5 ⟨x,H5,I5,r5,y5,st5,fr5⟩ => ?_) λ_ _ f=>f.elim
   have I5':=I5.pinned (fpk one fr5) (T.obj _ _ st5);refine AZ (hg cl' C s H _ s5 Z' H5 x u _ I5' r5 (step x H5 y5)) (λ_ s6 ⟨Z6,H6,I6,q6⟩ => ?_) λ_ _ f=>f.elim
   refine AZ (ht cl' C s H _ s6 Z6 H6 _ I6 q6) (λok s7 ⟨H7,I7,q7⟩ => ?_) λ_ _ f=>f.elim
   have again : ∀{s8:Am}{H8:Hp}{ys':Ad Ah}{n':Ae},Inv (cxC X scope cl' C N' s H fp) ((D,{ cls := .type "list",data := .seq (Dp ys') n' })::Gm fp s5.heap) Z6 H8 s8->Inv (cxC X scope cl' C N' s H fp) [(D,{ cls := .type "list",data := .seq (Dp ys') n' })] Z6 H8 s8/\tn (i+1) s8.heap /\ ∀ b∈fp,H8 b=Af:=λ{s8 H8 ys' n'} I8=>
    ⟨I8.pins_of λp hp=>I8.pin p (A6 _ (by rw[Bn.mp hp];exact AU)),T.keep _ _ _ st5 λb hb o e=>(I8.pin (b,o) (A6 _ (AG _ (Ib hb e)))).1,λb hb=>by
     obtain⟨o,e,d⟩:=T.obj _ _ st5 b hb;exact(I8.pin (b,o) (A6 _ (AG _ (Ib hb e)))).2.1⟩
   cases ok with
   |false=>
    rw[A8 (by decide)]at q7
    obtain⟨m',hm,w7⟩:=q7;obtain⟨a1,a2,a3⟩:=again I7;rw[A8 (by decide)]
    exact⟨m',hm,i+1,Z6,H7,xs,ys,n,a1,a2,a3,rv,hz,w7⟩
   |true=>
    rw[AY rfl]at q7;rw[AY rfl];refine AZ (he cl' C s H _ s7 Z6 H7 _ I7 q7) (λval s8 ⟨y,H8,I8,r8,m',hm,w8⟩ => ?_) λ_ _ f=>f.elim
    have hl:=rv.length;refine Q4 (X:=cxC X scope cl' C N' s H fp) (ys:=ys) (n:=n) (pI:=Gm fp s5.heap) I8 (by show s.heap.objs.size<=D;rw[hD];exact AW _) (λp hp => ?_) cD (by omega) λs9 I9 kb => ?_
    .have hp2:p∈Gm fp s5.heap:=hp;exact noD _ (LS hp2).1
    .obtain⟨a1,a2,a3⟩:=again I9;exact⟨m',hm,i+1,Z6,H8,xs++[y],ys++[val],n+1,a1,a2,a3,rv.append (.cons r8 .nil),by rw[Ca];exact hlt,w8⟩
 exact codeAny_compStart_list (loop _ rfl) (T.self _ 0 _ _ _ st1 (loop _ rfl))
theorem Ug{g:TG}(hc:X.calm=Ab)(B:BlockOk X scope N' ts)(hi:PI X tg iter wi)(hg : ∀ cl C s H fp,PG (cxC X scope cl C N' s H fp) tg g)(ht : ∀ cl C s H fp,PTs (cxC X scope cl C N' s H fp) ifs tt)(he : ∀ cl C s H fp,PE (cxC X scope cl C N' s H fp) elt te)(hs : ∀ x,BX iter X.env x=pure x):PE X (.ListComp elt [⟨tg,iter,ifs,0⟩] scope pos) (λZ H Q=>wi Z H λJ H1=>Hl J ts g tt te Z H1 Q):=by
 intro pI s Z H Q I h;obtain⟨cl,hclos,hcl,hcl2⟩:=Ly (scope:=scope) (env:=X.env) λx hx hk=>I.ok.has x.1 ((B.free x hx hk).imp id id)
 rw[eval_ListComp];refine QB (use:=Af) rfl hs hclos B.kind B.names (thn (hi pI s Z H _ I h) λv s1 h1=>thn h1 λitv s2 h2 => ?_)
 obtain⟨it,fp,tn,J,H2,e,I2,T,st2,f2,h3⟩:=h2;subst e;refine L8 (RR:=λacc C=>compPost (model X.prog X.w) X.A X.xe Af (EP X pI Z Q) acc C) hc B I2 T st2 f2 hcl hcl2 (λcl C s H=>hg cl C s H fp) (λcl C s H=>ht cl C s H fp) (λcl C s H=>he cl C s H fp) h3 λcl' D C s' H' Z' pins' xs ys n m I' hd hDn rv hz hD hDC hC hm q => ?_
 exact⟨m,hm,λh'' hs''=>⟨.ref D,_,LF I2 f2 I' hD hDC hC hd hDn rv hz hs'',rfl,q⟩⟩
theorem Ub{n:Ag}{g:TG}(hc:X.calm=Ab)(B:BlockOk X scope N' ts)(hi:PI X tg iter wi)(hg : ∀ cl C s H fp,PG (cxC X scope cl C N' s H fp) tg g)(ht : ∀ cl C s H fp,PTs (cxC X scope cl C N' s H fp) ifs tt)(he : ∀ cl C s H fp,PE (cxC X scope cl C N' s H fp) elt te)(hs : ∀ x,BX iter X.env x=pure x)(hN:X.N.Nodup)(hni:X.N[i]? = Aa n)(hx:X.env.scope.names.lookup n=Aa .local)(hsw:Ch (.ListComp elt [⟨tg,iter,ifs,0⟩] scope pos) (Aa (.Name n pos')) pos2.line X.env=pure Ab):PS X (.Assign [.Name n pos'] (.ListComp elt [⟨tg,iter,ifs,0⟩] scope pos) pos2) (K0 (λZ H Q=>wi Z H λJ H1=>Hl J ts g tt te Z H1 Q) (EF i)):=by
 intro pI s Z H Dn I h;obtain⟨cl,hclos,hcl,hcl2⟩:=Ly (scope:=scope) (env:=X.env) λx hx hk=>I.ok.has x.1 ((B.free x hx hk).imp id id)
 rw[exec_Assign_Name_used _ _ _ _ hsw];refine At (C9 (At ?_));show As _ X.A (do let _ <-comprehension (.ListComp elt [⟨tg,iter,ifs,0⟩] scope pos) scope X.env _ (newList []) Ac (eval iter X.env) (Aa (assign (.Name n pos') X.env))) _ _ s
 refine At (AZ (QB (use:=Aa (assign (.Name n pos') X.env)) (Q:=λ_ s'=>SP X pI Dn .next s') rfl hs hclos B.kind B.names
  (thn (hi pI s Z H _ I h) λv s1 h1=>thn h1 λitv s2 h2 => ?_)) (λ_ s' hq=>Bm (Bm hq)) λ_ _ e=>e)
 obtain⟨it,fp,tn,J,H2,e,I2,T,st2,f2,h3⟩:=h2;subst e;refine L8 (RR:=λacc C=>compPost (model X.prog X.w) X.A X.xe (Aa (assign (.Name n pos') X.env)) (λ_ s'=>SP X pI Dn .next s') acc C) hc B I2 T st2 f2 hcl hcl2 (λcl C s H=>hg cl C s H fp) (λcl C s H=>ht cl C s H fp) (λcl C s H=>he cl C s H fp) h3 λcl' D C s' H' Z' pins' xs ys n' m I' hd hDn rv hz hD hDC hC hm q => ?_
 have J0:Inv X pI Z (upd H' D (.lst xs)) s':=LF I2 f2 I' hD hDC hC hd hDn rv hz (Heap.SameBut.refl ..);refine QA (LM J0 hN hni (.inl hx) (show Be (.ref D) (.ref D) from rfl) (λs'' J1 ⟨a,sb,ha⟩ => ?_) (.inr hx))
 have hC0:X.s₀.heap.objs.size<=C:=BP I2.sz hC;have hL:C≠X.env.locals:=λz=>absurd (AF I2.lt (z ▸ hC)) (Bc _)
 have hcC : ∀ x c,X.env.cells.lookup x=Aa c->c≠C:=λx c e z=>by
  obtain⟨v,q'⟩:=I2.cell x c e;exact absurd (AF q'.lt (by rw[z];exact hC)) (Bc _)
 have hp : ∀ p∈X.pn++pI,p.1≠C:=λp hp z=>absurd (AF (AA (I2.pin p hp).1) (by rw[z];exact hC)) (Bc _)
 have hCn:upd H' D (.lst xs) C=Af:=by rw[Bb hDC.symm];exact I'.free
 have hCa:C≠a:=by
  rcases ha with rfl|ha
  .exact hL
  .exact λz=>hcC n a ha z.symm
 refine⟨m,hm.sameBut sb hCa,λh'' hs''=>⟨_,_,J1.turned (t':=s''.toks) (λb o hb e=>(hs''.2 b hb).trans e) hCn hL (.inr hC0) hcC hp,q⟩⟩
theorem JK : ∀(ts:Ad Ae)(Y:Rho)(j:Ae),(Ec ts Y)[j]? = if j∈ts then (Y[j]?).map (λ_=>Af) else Y[j]?
 |[],Y,j=>by simp[Ec]
 |t::ts,Y,j=>by
  show (Ec ts (Y.set t Af))[j]? = _;rw[JK ts];by_cases h1:j∈ts
  .rw[AY h1,AY (AG _ h1)];by_cases h2:t=j
   .subst h2;rw[DC];cases Y[t]? <;> rfl
   .rw[BF h2]
  .rw[A8 h1];by_cases h2:t=j
   .subst h2;rw[AY AU,DC];cases Y[t]? <;> rfl
   .rw[BF h2,A8 (by simp only[AR,HR];exact⟨λz=>h2 z.symm,h1⟩)]
theorem JJ : ∀(ts:Ad Ae)(Y:Rho),(Ec ts Y).length=Y.length
 |[],_=>rfl
 |t::ts,Y=>by show (Ec ts (Y.set t Af)).length=_;rw[JJ ts,AX]
theorem Jo : ∀(ts:Ad Ae)(Z:L2.St){i:Ae},i ∉ ts->(hideT ts Z)[i]? = Z[i]?
 |[],_,_,_=>rfl
 |t::ts,Z,i,h=>by
  simp only[AR,HR]at h;show (hideT ts (Z.set t Af))[i]? = _;rw[Jo ts _ h.2,BF (λz=>h.1 z.symm)]
section
variable{K:Fg}{CL:ClA}{A:Ai->Prop}{Y Y':Rho}{Z:L2.St}{H:Hp}
theorem Good.less(g:Good K CL A Y Z H)(hl:Y'.length=Y.length)(h : ∀(i:Ae)(d:D)(o:Aj),Y'[i]? = Aa (Aa (d,o))->Y[i]? = Aa (Aa (d,o))):Good K CL A Y' Z H:=⟨λi d e=>g.sh i d (h i d Ac e),λi d e=>g.ow i d (h i d Ab e),hl.trans g.len⟩
theorem Good.put(g:Good K CL A Y Z H)(t:Ae)(r:Rep K CL H A v d):Good K CL A (Y.set t (Aa (d,Ac))) (Z.set t (Aa v)) H:=by
 refine⟨λj e h => ?_,λj e h => ?_,by rw[AX,AX];exact g.len⟩
 .by_cases hj:t=j
  .subst hj;have e1:=Ej h;cases e1;have hl:t<Z.length:=by
    rw[<-g.len];have:=(A2.mp h).1;simpa using this
   exact⟨v,by rw[B3 hl],r⟩
  .rw[BF hj]at h;obtain⟨w',q,rw'⟩:=g.sh j e h;exact⟨w',by rw[BF hj];exact q,rw'⟩
 .have hj:t≠j:=by
   rintro rfl;have:=Ej h;cases this
  rw[BF hj]at h;obtain⟨a,xs,ds,q,z⟩:=g.ow j e h;exact⟨a,xs,ds,by rw[BF hj];exact q,z⟩
theorem Good.hide(g:Good K CL A Y Z H)(ts:Ad Ae):Good K CL A (Ec ts Y) Z H:=g.less (JJ _ _) λi d o e=>by
 rw[JK]at e;split at e
 .cases q:Y[i]? with
  |none=>rw[q]at e;cases e
  |some x=>rw[q]at e;cases e
 .exact e
theorem Good.hideT(g:Good K CL A Y Z H)(ts:Ad Ae):Good K CL A (Ec ts Y) (hideT ts Z) H:=by
 have key : ∀ i x,(Ec ts Y)[i]? = Aa (Aa x)->Y[i]? = Aa (Aa x)/\i ∉ ts:=λi x e=>by
  rw[JK]at e;split at e
  .cases q:Y[i]? with
   |none=>rw[q]at e;cases e
   |some x=>rw[q]at e;cases e
  .exact⟨e,by assumption⟩
 refine⟨λi d e => ?_,λi d e => ?_,by rw[JJ,JI];exact g.len⟩
 .obtain⟨e1,e2⟩:=key i _ e;obtain⟨v,q,r⟩:=g.sh i d e1;exact⟨v,by rw[Jo _ _ e2];exact q,r⟩
 .obtain⟨e1,e2⟩:=key i _ e;obtain⟨a,xs,ds,q,r⟩:=g.ow i d e1;exact⟨a,xs,ds,by rw[Jo _ _ e2];exact q,r⟩
end
noncomputable def GG(K:Fg)(CL:ClA)(ts:Ad Ae)(as:D->Rho->R Rho)(g:TG):Prop := ∀ A Y Z H v d Y' Q,Good K CL A (Ec ts Y) Z H->Rep K CL H A v d->as d Y = .ok Y'->(∀ Z',Good K CL A Y' Z' H->Good K CL A (Ec ts Y) Z' H->Q Z' H)->g v Z H Q
theorem UD(i:Ae):GG K CL [i] (λd Y => .ok (Y.set i (Aa (d,Ac)))) (EF i):=λA Y Z H v d Y' Q g r e k=>by
 cases e;have g2:=g.put i r;have e1:(Ec [i] Y).set i (Aa (d,Ac))=Y.set i (Aa (d,Ac)):=by
  show (Y.set i Af).set i (Aa (d,Ac))=_;rw[O1]
 rw[e1]at g2;refine k _ g2 ?_;have:=g2.hide [i];have e2:Ec [i] (Y.set i (Aa (d,Ac)))=Ec [i] Y:=by
  show (Y.set i _).set i Af=Y.set i Af;rw[O1]
 rw[e2]at this;exact this
noncomputable abbrev W0:XW:=λ_ _=>AT
noncomputable def STs(X:Cx)(CL:ClA)(ifs:Ad Ak)(f:Rho->R Aj):Prop := ∀ A,PTs X ifs (λZ H Q=>AOk H A /\ ∃ Y,Good X.K CL A Y Z H/\B8 W0 H (f Y) Q)
theorem SZ:STs X CL [] (λ_ => .ok Ab):=λA pI s Z H Q I ⟨hA,Y,g,p⟩=>T6 pI s Z H Q I (p H (Av.refl H))
theorem SY(h:SB X CL W0 c f):STs X CL [c] f:=λA pI s Z H Q I q=>T5 (h A) pI s Z H Q I q
section
variable{X:Cx}{CL:ClA}{W:XW}{tg iter elt:Ak}{ifs:Ad Ak}{scope:Bw}{pos:Az}{N':Ad Ag}{ts:Ad Ae}{fi:Rho->R (Ad D)}{fc:Rho->R Aj}{fe:Rho->R D}{as:D->Rho->R Rho}{g:TG}
theorem QN{g:D->R Aj}{f:D->R D}{x:D}{xs ys:Ad D}(h:CM g f (x::xs) = .ok ys):(g x = .ok Ac/\CM g f xs = .ok ys) \/ ∃ y r,g x = .ok Ab/\f x = .ok y/\CM g f xs = .ok r/\ys=y::r:=by
 unfold CM at h;cases e:g x with
 |bad=>rw[e]at h;cases h
 |exn z=>rw[e]at h;cases h
 |ok b=>
  rw[e,R.bind_ok]at h;cases b with
  |false=>exact .inl ⟨rfl,h⟩
  |true=>
   rw[AY rfl]at h;cases e2:f x with
   |bad=>rw[e2]at h;cases h
   |exn z=>rw[e2]at h;cases h
   |ok y=>
    rw[e2,R.bind_ok]at h;cases e3:CM g f xs with
    |bad=>rw[e3]at h;cases h
    |exn z=>rw[e3]at h;cases h
    |ok r=>
     rw[e3,R.bind_ok]at h;cases h;exact .inr ⟨y,r,rfl,rfl,rfl,rfl⟩
theorem Gi{β:Type}{r:R α}{f:α->R β}{b:β}(h:r.bind f = .ok b) : ∃ a,r = .ok a/\f a = .ok b:=by
 cases r with
 |ok a=>exact⟨a,rfl,h⟩
 |exn x=>cases h
 |bad=>cases h
theorem RS{ys:Ad D}(hGG:GG K CL ts as g)(hA:AOk H1 A)(gd:Good K CL A Y Z H1)(yl:Gv K CL A ds J H1)(hz:ds.length<=sizeLine)(hcp:CM (λx=>(as x Y).bind fc) (λx=>(as x Y).bind fe) ds = .ok ys)(q : ∀ xs H2,Av H1 H2->Reps K CL H2 A xs ys -> ∀ p,H2 p=Af->Q (.ref p) (upd H2 p (.lst xs))):Hl J ts g (λZ H Q=>AOk H A/\∃ Y,Good K CL A Y Z H/\B8 W0 H (fc Y) Q) (λZ H Q=>AOk H A/\∃ Y,Good K CL A Y Z H/\A3 (λH=>Rep K CL H A) W0 H (fe Y) Q) Z H1 Q:=by
 refine⟨λi m xs Z' H'=>m=ds.length-i/\i<=ds.length/\xs.length<=i/\Av H1 H'/\Good K CL A (Ec ts Y) Z' H' /\ ∃ outs Bg,Reps K CL H' A xs outs/\CM (λx=>(as x Y).bind fc) (λx=>(as x Y).bind fe) (ds.drop i) = .ok Bg/\ys=outs++Bg,
  ⟨ds.length,by simp,En _,AW _,Av.refl _,gd.hideT ts,[],ys,trivial,hcp,rfl⟩,?_⟩
 rintro i m xs Z' H' ⟨rfl,hi,hxl,sm,g',outs,Bg,rs,hc,e⟩;obtain⟨yst,ygo⟩:=yl H' (Kp.of sm) i;by_cases hlt:i<ds.length
 .have hd:ds[i]? = Aa ds[i]:=BO hlt;obtain⟨hgo,hyl⟩:=ygo _ hd;refine .inr ⟨hgo,by omega,λx H2 hx => ?_⟩
  obtain⟨s2,rx⟩:=hyl x H2 hx;have rx':=rx A (λa ha => .inl ha) (hA.same sm)
  rw[OQ hlt]at hc;have sm2:=sm.trans s2;rcases QN hc with ⟨h1,h2⟩|⟨y,r,h1,h2,h3,h4⟩
  .obtain⟨Y',ea,ec⟩:=Gi h1;refine hGG A Y Z' H2 x ds[i] Y' _ (g'.same s2) rx' ea λZ3 g3 g4=>⟨hA.same sm2,Y',g3,?_⟩
   rw[ec];exact λH3 s3=>by
    dsimp only;rw[A8 (by decide)]
    exact⟨ds.length-(i+1),by omega,rfl,hlt,by omega,sm2.trans s3,g4.same s3,outs,Bg,(rs.same s2).same s3,h2,e⟩
  .obtain⟨Y',ea,ec⟩:=Gi h1;obtain⟨Y2,ea2,ee⟩:=Gi h2;rw[ea]at ea2;cases ea2;refine hGG A Y Z' H2 x ds[i] Y' _ (g'.same s2) rx' ea λZ3 g3 g4=>⟨hA.same sm2,Y',g3,?_⟩
   rw[ec];exact λH3 s3=>by
    dsimp only;rw[AY rfl];refine⟨(hA.same sm2).same s3,Y',g3.same s3,?_⟩;rw[ee];exact λv H4 s4 r4=>⟨ds.length-(i+1),by omega,rfl,hlt,by rw[Ca,OX];omega,(sm2.trans s3).trans s4,(g4.same s3).same s4,outs++[y],r,(((rs.same s2).same s3).same s4).append ⟨r4,trivial⟩,h3,by rw[e,h4];simp⟩
 .have hk':ds.length<=i:=by omega
  rw[OR hk']at hc;have hr:Bg=[]:=by cases hc;rfl
  subst hr;rw[B0]at e;subst e;exact .inl ⟨yst hk',λp hp=>q xs H' sm rs p hp⟩
theorem DG.ok_of{r:R (Ad D)}{f:Ad D->R D}{Q':It->Hp->Prop}(h:A3 Rq W H (r.bind f) Q)(k : ∀ ds J H',r = .ok ds->Av H H'->Gv K CL A ds J H'->ds.length<=sizeLine->A3 Rq W H' (f ds) Q->Q' J H'):DG K CL A W H r Q':=by
 cases r with
 |ok d=>exact λJ H2 s2 y z=>k d J H2 rfl s2 y z (A3.same s2 h)
 |exn x=>exact h
 |bad=>exact h
theorem UV{r:R α}{a:α}(h:noX r = .ok a):r = .ok a:=by
 cases r with
 |ok b=>exact h
 |exn x=>cases h
 |bad=>cases h
theorem LD(hGG:GG X.K CL ts as g)(hA:AOk H A)(gd:Good X.K CL A Y Z H)(p:A3 (CK X.K CL Ab H A) W H ((fi Y).bind λxs=>(noX (CM (λx=>(as x Y).bind fc) (λx=>(as x Y).bind fe) xs)).bind λys => .ok (.lst ys)) Q):DG X.K CL A W H (fi Y) (λJ H1=>Hl J ts g (λZ H Q=>AOk H A/\∃ Y,Good X.K CL A Y Z H/\B8 W0 H (fc Y) Q) (λZ H Q=>AOk H A/\∃ Y,Good X.K CL A Y Z H/\A3 (λH=>Rep X.K CL H A) W0 H (fe Y) Q) Z H1 Q):=
 DG.ok_of p λds J H1 e1 s1 yl hz p1=>by
  cases e2:noX (CM (λx=>(as x Y).bind fc) (λx=>(as x Y).bind fe) ds) with
  |ok ys=>
   rw[e2]at p1;exact RS hGG (hA.same s1) (gd.same s1) yl hz (UV e2) λxs H2 s2 rs q hq=>p1 _ _ (s2.trans (E5 hq _)) (Hm (s1.trans s2) ((hA.same s1).same s2) hq rs)
  |exn x=>rw[e2]at p1;cases hq:CM (λx=>(as x Y).bind fc) (λx=>(as x Y).bind fe) ds <;> rw[hq]at e2 <;> cases e2
  |bad=>rw[e2]at p1;exact p1.elim
theorem Ta(hc:X.calm=Ab)(B:BlockOk X scope N' ts)(hi:SI X CL W tg iter fi)(hGG:GG X.K CL ts as g)(hg : ∀ cl C s H fp,PG (cxC X scope cl C N' s H fp) tg g)(ht : ∀ cl C s H fp,STs (cxC X scope cl C N' s H fp) CL ifs fc)(he : ∀ cl C s H fp,SE (cxC X scope cl C N' s H fp) CL W0 elt fe)(hs : ∀ x,BX iter X.env x=pure x):SC X CL W Ab (.ListComp elt [⟨tg,iter,ifs,0⟩] scope pos) (λY=>(fi Y).bind λxs=>(noX (CM (λx=>(as x Y).bind fc) (λx=>(as x Y).bind fe) xs)).bind λys => .ok (.lst ys)):=λA pI s Z H Q I ⟨hA,Y,gd,p⟩=>
 Ug hc B (hi A) hg (λcl C s H fp=>ht cl C s H fp A) (λcl C s H fp=>he cl C s H fp A) hs pI s Z H Q I ⟨hA,Y,gd,LD hGG hA gd p⟩
end
section
variable{K:Fg}{CL:ClA}{Fz:Ai->HO->Prop}{B:Ai->Prop}{Y:Rho}{Z:L2.St}{H H':Hp}
theorem Sx.setF(x:Sx K CL Fz B Y Z H)(s:Av H H')(h0:H a=Af)(h1:H' a=Aa (.lst xs))(r:Reps K CL H' (λb=>Bk B Y Z b\/b=a) xs ds):Sx K CL Fz B (Y.set i (Aa (.lst ds,Ab))) (Z.set i (Aa (.ref a))) H':=by
 have nA : ¬ Bk B Y Z a:=x.aok.new h0;have own : ∀(j:Ae)(e:D),(Y.set i (Aa (.lst ds,Ab)))[j]? = Aa (Aa (e,Ab))->(i=j/\e = .lst ds)\/(i≠j/\Y[j]? = Aa (Aa (e,Ab))):=λj e h=>by
  by_cases hj:i=j
  .subst hj;have:=Ej h;cases this;exact .inl ⟨rfl,rfl⟩
  .exact .inr ⟨hj,by rw[BF hj]at h;exact h⟩
 have atI : ∀{j:Ae}{y:Sl},(Y.set i (Aa (.lst ds,Ab)))[j]? = Aa y->i=j->(Z.set i (Aa (.ref a)))[j]? = Aa (Aa (.ref a)):=λ{j y} h e=>by
  subst e;have hl:i<Z.length:=by
   rw[<-x.len];have:=(A2.mp h).1;simpa using this
  rw[B3 hl]
 have sub : ∀ b,Bk B (Y.set i (Aa (.lst ds,Ab))) (Z.set i (Aa (.ref a))) b->Bk B Y Z b\/b=a:=λb h=>by
  rcases h with h|⟨j,e,h1,h2⟩
  .exact .inl (.inl h)
  .rcases own j e h1 with ⟨hj,_⟩|⟨hj,h1'⟩
   .rw[atI h1 hj]at h2;cases h2;exact .inr rfl
   .rw[BF hj]at h2;exact .inl (.inr ⟨j,e,h1',h2⟩)
 have wide : ∀{v:V}{d:D},Rep K CL H (Bk B Y Z) v d->Rep K CL H' (Bk B (Y.set i (Aa (.lst ds,Ab))) (Z.set i (Aa (.ref a)))) v d:=λr=>(Rep.wide (λb hb=>(sub b hb).imp id λe=>by rw[e];exact h0) _ r).same s
 have wides : ∀{v:Ad V}{d:Ad D},Reps K CL H (Bk B Y Z) v d->Reps K CL H' (Bk B (Y.set i (Aa (.lst ds,Ab))) (Z.set i (Aa (.ref a)))) v d:=λr=>(Reps.wide (λb hb=>(sub b hb).imp id λe=>by rw[e];exact h0) _ r).same s
 refine⟨⟨λj e h => ?_,λj e h => ?_,by rw[AX,AX];exact x.len⟩,λb h => ?_,λj e b g1 g2 => ?_,λj k e f b g1 g2 g3 g4 => ?_,λb o z=>s _ _ (x.same b o z),by rw[AX,AX];exact x.len⟩
 .have hj:i≠j:=by
   rintro rfl;have:=Ej h;cases this
  rw[BF hj]at h;obtain⟨w',q,rw'⟩:=x.good.sh j e h;exact⟨w',by rw[BF hj];exact q,wide rw'⟩
 .rcases own j e h with ⟨hj,rfl⟩|⟨hj,h'⟩
  .have q:=atI h hj;exact⟨a,xs,ds,q,rfl,.inr ⟨j,_,h,q⟩,h1,Reps.sub sub _ r⟩
  .obtain⟨b,ys,es,q,z,ha,hh,rr⟩:=x.good.ow j e h';have q':(Z.set i (Aa (.ref a)))[j]? = Aa (Aa (.ref b)):=by rw[BF hj];exact q
   exact⟨b,ys,es,q',z,.inr ⟨j,e,h,q'⟩,s _ _ hh,wides rr⟩
 .rcases sub b h with z|z
  .obtain⟨ys,q⟩:=x.aok b z;exact⟨ys,s _ _ q⟩
  .rw[z];exact⟨xs,h1⟩
 .rcases own j e g1 with ⟨hj,_⟩|⟨hj,h'⟩
  .rw[atI g1 hj]at g2;cases g2;refine⟨λo z => ?_,λz=>nA (.inl z)⟩
   have:=x.same a o z;rw[h0]at this;cases this
  .rw[BF hj]at g2;exact x.new j e b h' g2
 .rcases own j e g1 with ⟨hj,_⟩|⟨hj,h'⟩
  .rw[atI g1 hj]at g3;cases g3;rcases own k f g2 with ⟨hk,_⟩|⟨hk,h''⟩
   .exact hj.symm.trans hk
   .rw[BF hk]at g4;exact absurd (.inr ⟨k,f,h'',g4⟩) nA
  .rw[BF hj]at g3;rcases own k f g2 with ⟨hk,_⟩|⟨hk,h''⟩
   .rw[atI g2 hk]at g4;cases g4;exact absurd (.inr ⟨j,e,h',g3⟩) nA
   .rw[BF hk]at g4;exact x.dis j k e f b h' h'' g3 g4
theorem Sx.upd(x:Sx K CL Fz B Y Z H){i:Ae}{d:D}{a:Ai}{xs:Ad V}{ds:Ad D}(hi:Y[i]? = Aa (Aa (d,Ab)))(ha:Z[i]? = Aa (Aa (.ref a)))(r:Reps K CL H (Bk B Y Z) xs ds):Sx K CL Fz B (Y.set i (Aa (.lst ds,Ab))) Z (L2.upd H a (.lst xs)):=by
 have oa:Bk B Y Z a := .inr ⟨i,d,hi,ha⟩;have hil:i<Y.length:=(A2.mp hi).1;have get : ∀(j:Ae)(e:D),(Y.set i (Aa (.lst ds,Ab)))[j]? = Aa (Aa (e,Ab))↔(i=j/\e = .lst ds)\/(i≠j/\Y[j]? = Aa (Aa (e,Ab))):=λj e=>by
  by_cases hj:i=j
  .subst hj;rw[B3 hil];simp;exact⟨λz=>z.symm,λz=>z.symm⟩
  .rw[BF hj];simp[hj]
 have same : ∀ b,Bk B (Y.set i (Aa (.lst ds,Ab))) Z b↔Bk B Y Z b:=λb=>by
  constructor
  .rintro (h|⟨j,e,h1,h2⟩)
   .exact .inl h
   .rcases (get j e).mp h1 with ⟨rfl,_⟩|⟨_,h1⟩
    .exact .inr ⟨i,d,hi,h2⟩
    .exact .inr ⟨j,e,h1,h2⟩
  .rintro (h|⟨j,e,h1,h2⟩)
   .exact .inl h
   .by_cases hj:i=j
    .subst hj;exact .inr ⟨i,.lst ds,(get i _).mpr (.inl ⟨rfl,rfl⟩),h2⟩
    .exact .inr ⟨j,e,(get j e).mpr (.inr ⟨hj,h1⟩),h2⟩
 have kp:Kp (Bk B Y Z) H (L2.upd H a (.lst xs)):=λb o e na=>by
  have hne:b≠a:=by
   rintro rfl;exact na oa
  rw[Bb hne];exact e
 refine⟨⟨λj e h => ?_,λj e h => ?_,by rw[AX];exact x.len⟩,λb h => ?_,λj e b g1 g2 => ?_,λj k e f b g1 g2 g3 g4 => ?_,λb o z => ?_,by rw[AX];exact x.len⟩
 .have hj:i≠j:=by
   rintro rfl;have:=Ej h;cases this
  rw[BF hj]at h;obtain⟨w',q,rw'⟩:=x.good.sh j e h;exact⟨w',q,Rep.sub (λb hb=>(same b).mp hb) _ (Rep.kp kp _ rw')⟩
 .rcases (get j e).mp h with ⟨rfl,rfl⟩|⟨hj,h'⟩
  .exact⟨a,xs,ds,ha,rfl,(same a).mpr oa,Dt,Reps.sub (λb hb=>(same b).mp hb) _ (Reps.kp kp _ r)⟩
  .obtain⟨b,ys,es,q,z,hb,hh,rr⟩:=x.good.ow j e h';have hne:b≠a:=λz=>hj (x.dis i j d e a hi h' ha (z ▸ q))
   exact⟨b,ys,es,q,z,(same b).mpr hb,by rw[Bb hne];exact hh,Reps.sub (λb hb=>(same b).mp hb) _ (Reps.kp kp _ rr)⟩
 .obtain⟨ys,q⟩:=x.aok b ((same b).mp h);by_cases e:b=a
  .rw[e];exact⟨xs,Dt⟩
  .exact⟨ys,by rw[Bb e];exact q⟩
 .rcases (get j e).mp g1 with ⟨rfl,_⟩|⟨_,h'⟩
  .exact x.new i d b hi g2
  .exact x.new j e b h' g2
 .rcases (get j e).mp g1 with ⟨rfl,_⟩|⟨hj,h'⟩
  .rcases (get k f).mp g2 with ⟨rfl,_⟩|⟨hk,h''⟩
   .rfl
   .exact x.dis i k d f b hi h'' g3 g4
  .rcases (get k f).mp g2 with ⟨rfl,_⟩|⟨hk,h''⟩
   .exact x.dis j i e d b h' hi g3 g4
   .exact x.dis j k e f b h' h'' g3 g4
 .have hne:b≠a:=λe=>(x.new i d a hi ha).1 o (e ▸ z)
  rw[Bb hne];exact x.same b o z
theorem Sx.rel(x:Sx K CL Fz B Y Z H)(hi:Y[i]? = Aa (Aa (d,Ab))):Sx K CL Fz B (Y.set i (Aa (d,Ac))) Z H:=by
 obtain⟨a,xs,ds,q,rfl,oa,hh,rr⟩:=x.good.ow i d hi;have own : ∀(j:Ae)(e:D),(Y.set i (Aa (.lst ds,Ac)))[j]? = Aa (Aa (e,Ab))->i≠j/\Y[j]? = Aa (Aa (e,Ab)):=λj e h=>by
  by_cases hj:i=j
  .subst hj;have:=Ej h;cases this
  .exact⟨hj,by rw[BF hj]at h;exact h⟩
 have sub : ∀ b,Bk B (Y.set i (Aa (.lst ds,Ac))) Z b->Bk B Y Z b:=λb h=>by
  rcases h with h|⟨j,e,h1,h2⟩
  .exact .inl h
  .exact .inr ⟨j,e,(own j e h1).2,h2⟩
 have na : ¬ Bk B (Y.set i (Aa (.lst ds,Ac))) Z a:=λh=>by
  rcases h with h|⟨j,e,h1,h2⟩
  .exact(x.new i _ a hi q).2 h
  .obtain⟨hj,h1⟩:=own j e h1;exact hj (x.dis i j _ e a hi h1 q h2)
 refine⟨⟨λj e h => ?_,λj e h => ?_,by rw[AX];exact x.len⟩,λb h=>x.aok b (sub b h),λj e b g1 g2=>x.new j e b (own j e g1).2 g2,λj k e f b g1 g2 g3 g4=>x.dis j k e f b (own j e g1).2 (own k f g2).2 g3 g4,x.same,by rw[AX];exact x.len⟩
 .by_cases hj:i=j
  .subst hj;have e1:=Ej h;cases e1;exact⟨_,q,a,xs,rfl,.inl na,SqL.of hh,Reps.sub sub _ rr⟩
  .rw[BF hj]at h;obtain⟨w',q',rw'⟩:=x.good.sh j e h;exact⟨w',q',Rep.sub sub _ rw'⟩
 .obtain⟨hj,h'⟩:=own j e h;obtain⟨b,ys,es,q',z,hb,hh',rr'⟩:=x.good.ow j e h';exact⟨b,ys,es,q',z,.inr ⟨j,e,h,q'⟩,hh',Reps.sub sub _ rr'⟩
end
section
variable{X:Cx}{CL:ClA}{W:XW}{pos:Az}{e:Ak}{fe:Rho->R D}{fr:Aj}
theorem By.exC{f:D->O}(x:Sx X.K CL Fz B Y Z H)(h:By X.K CL Fz B W (O.of Y r f) D')(k : ∀ d v H',r = .ok d->Av H H'->CK X.K CL fr H A H' v d->Sx X.K CL Fz B Y Z H'->By X.K CL Fz B W (f d) D'->Q v H'):A3 (CK X.K CL fr H A) W H r Q:=by
 cases r with
 |ok d=>exact λv H' s r=>k d v H' rfl s r (x.grow s) h
 |exn y=>exact λH' s=>h H' λb o z=>s _ _ (x.same b o z)
 |bad=>exact h
noncomputable def SAs(X:Cx)(CL:ClA)(W:XW)(fr:Aj)(i:Ae)(st:AC)(f:Rho->R D):Prop := ∀ A,PS X st (K0 (λZ H Q=>AOk H A /\ ∃ Y,Good X.K CL A Y Z H/\A3 (CK X.K CL fr H A) W H (f Y) Q) (EF i))
theorem SC.sas{n:Ag}(hN:X.N.Nodup)(hi:X.N[i]? = Aa n)(hx:Loc X.env.scope n)(he:SC X CL W fr e fe)(hs:Ch e (Aa (.Name n pos')) pos.line X.env=pure Ac)(hf:X.fn n=Ab\/X.env.scope.names.lookup n=Aa .local):SAs X CL W fr i (.Assign [.Name n pos'] e pos) fe:=
 λA=>Ip hN hi hx (he A) hs hf
theorem RC{n:Ag}{fe:Rho->R D}{g:TG}(hc:X.calm=Ab)(B:BlockOk X scope N' ts)(hi:SI X CL W tg iter fi)(hGG:GG X.K CL ts as g)(hg : ∀ cl C s H fp,PG (cxC X scope cl C N' s H fp) tg g)(ht : ∀ cl C s H fp,STs (cxC X scope cl C N' s H fp) CL ifs fc)(he : ∀ cl C s H fp,SE (cxC X scope cl C N' s H fp) CL W0 elt fe)(hs : ∀ x,BX iter X.env x=pure x)(hN:X.N.Nodup)(hni:X.N[i]? = Aa n)(hx:X.env.scope.names.lookup n=Aa .local)(hsw:Ch (.ListComp elt [⟨tg,iter,ifs,0⟩] scope pos) (Aa (.Name n pos')) pos2.line X.env=pure Ab):SAs X CL W Ab i (.Assign [.Name n pos'] (.ListComp elt [⟨tg,iter,ifs,0⟩] scope pos) pos2) (λY=>(fi Y).bind λxs=>(noX (CM (λx=>(as x Y).bind fc) (λx=>(as x Y).bind fe) xs)).bind λys =>.ok (.lst ys)):=λA pI s Z H Dn I ⟨hA,Y,gd,p⟩=>
 Ub hc B (hi A) hg (λcl C s H fp=>ht cl C s H fp A) (λcl C s H fp=>he cl C s H fp A) hs hN hni hx hsw pI s Z H Dn I ⟨hA,Y,gd,LD hGG hA gd p⟩
theorem M6{st:AC}(h:SAs X CL W fr i st fe):SS X CL W st (λY=>O.of Y (fe Y) λd => .next (Y.set i (Aa (d,Ac)))):=λFz B pI s Z H D I ⟨Y,x,p⟩=>
 h (Bk B Y Z) pI s Z H D I ⟨x.aok,Y,x.good,By.exC x p λd v H' _ s r x' q=>q _ H' (x'.set i r.1)⟩
theorem MJ{st:AC}(h:SAs X CL W Ab i st fe):SS X CL W st (λY=>O.of Y (fe Y) λd=>setF Y i d):=λFz B pI s Z H D I ⟨Y,x,p⟩=>
 h (Bk B Y Z) pI s Z H D I ⟨x.aok,Y,x.good,By.exC x p λd v H' _ s r x' q=>by
  cases d with
  |lst ds=>
   obtain⟨a,xs,rfl,h0,h1,rs⟩:=r.2 rfl ds rfl;exact q _ H' (x.setF s h0 h1 rs)
  |dic ds=>exact r.1.elim
  | _=>exact q.elim⟩
theorem S5(he:SC X CL W Ab e fe):SS X CL W (.Return (Aa e) pos) (λY=>O.of Y (fe Y) λd => .ret d Ab):=λFz B pI s Z H D I ⟨Y,x,p⟩=>
 Kb (he (Bk B Y Z)) pI s Z H D I ⟨x.aok,Y,x.good,By.exC x p λd v H' _ s r x' q=>q v H' x'.same (Rep.sub (λa h => .inl h) _ r.1) λ_ ds e=>by
  obtain⟨a,xs,h0,h1,h2,h3⟩:=r.2 rfl ds e;refine⟨a,xs,h0,λo z => ?_,h2,Reps.sub (λb hb=>hb.imp .inl id) _ h3⟩
  have:=x.same a o z;rw[h1]at this;cases this⟩
noncomputable def K7(Y:Rho)(i:Ae):Aj:=match Y[i]? with
  |some (Aa (_,o))=>o
  |_=>Ac
theorem S3(he:PE X e (DJ i)):SS X CL W (.Return (Aa e) pos) (λY=>O.of Y (CB Y i) λd => .ret d (K7 Y i)):=λFz B pI s Z H D I ⟨Y,x,p⟩=>
 Kb he pI s Z H D I (by
  dsimp only at p;cases e:CB Y i with
  |bad=>rw[e]at p;exact p.elim
  |exn z=>exact(Mc e).elim
  |ok d=>
   rw[e]at p;obtain⟨o,e⟩:=MF e;have eo:K7 Y i=o:=by unfold K7;rw[e]
   rw[O.of_ok,eo]at p;cases o with
   |false=>
    obtain⟨v,q,r⟩:=x.good.sh i d e;exact⟨v,q,p v H x.same (Rep.sub (λa h => .inl h) _ r) λz=>nomatch z⟩
   |true=>
    obtain⟨a,xs,ds,q,rfl,ha,hh,r⟩:=x.good.ow i d e;obtain⟨n1,n2⟩:=x.new i _ a e q;refine⟨_,q,p _ H x.same ⟨a,xs,rfl,.inl n2,SqL.of hh,Reps.sub (λa h => .inl h) _ r⟩ λ_ ds' e' => ?_⟩
    cases e';exact⟨a,xs,rfl,n1,hh,Reps.sub (λb hb=>hb.elim .inl λz=>z ▸ ha) _ r⟩)
theorem Ui(h:CY Y i = .ok ds):Y[i]? = Aa (Aa (.lst ds,Ab)):=by
 unfold CY at h;split at h
 .rename_i e;cases h;exact e
 .cases h
theorem RJ(h:CY Y i = .exn x):AT:=by
 unfold CY at h;split at h <;> cases h
variable{o:Ak}{i:Ae}{apos cpos:Az}
theorem Vt(ho:PE X o (DJ i))(he:SE X CL W e fe)(hbase:DN o "append" X.env (eval o X.env)=eval o X.env)(hfew:((Bv cpos (Aq [e] X.env)).all (λx => !x.1)&&(Hc cpos (Gb [] X.env)).all (λx=>x.1.isSome)&&decide ([e].length+([]:Ad D1).length+(if ([]:Ad D1).isEmpty then 0 else 1)<30))=Ab)(hline:(apos.endLine==cpos.line)=Ab)(hs:Aq [e] X.env=[(Ac,eval e X.env)])(hsw:Ch (.Call (.Attribute o "append" apos) [e] [] cpos) Af pos.line X.env=pure Ac):
  SS X CL W (.Expr (.Call (.Attribute o "append" apos) [e] [] cpos) pos) (λY=>O.of Y (CY Y i) λxs=>O.of Y (fe Y) λd=>if B9 (xs.length+1)=Ab then .next (Y.set i (Aa (.lst (xs++[d]),Ab))) else .bad):=λFz B pI s Z H D I ⟨Y,x,p⟩=>by
 refine Hq (Xr PySem.F.plainAttrs_list PySem.F.slot_list_append PySem.F.type_list_append Rg ho (Du (he (Bk B Y Z)) E2 hs) hbase hfew hline hs rfl) hsw pI s Z H D I ?_;dsimp only at p;cases e1:CY Y i with
 |bad=>rw[e1]at p;exact p.elim
 |exn z=>exact(RJ e1).elim
 |ok ds=>
  rw[e1,O.of_ok]at p;have hi:=Ui e1;obtain⟨a,xs,ds',q,e2,ha,hh,r⟩:=x.good.ow i _ hi;cases e2;refine⟨_,q,.inl ⟨rfl,xs,SqL.of hh⟩,x.aok,Y,x.good,By.ex x p λd v H' _ s rv x' q' => ?_⟩
  split at q'
  .rename_i hz;refine⟨a,xs,v,rfl,rfl,s _ _ hh,?_,q' _ _ (x'.upd hi q ((r.same s).append ⟨rv,trivial⟩))⟩;have:=Ge hz;rw[r.length];omega
  .exact q'.elim
theorem S2{Bg:Ad AC}{f:Rho->O}(i:Ae)(h:SSs X CL W Bg f):SSs X CL W Bg (λY=>(match Y[i]? with
   |some (Aa (d,Ab))=>O.next (Y.set i (Aa (d,Ac)))
   | _=>O.next Y).seq f):=λFz B=>PSs.weak (h Fz B) λD Z H ⟨Y,x,p⟩=>by
 dsimp only at p;split at p
 .rename_i d e;exact⟨_,x.rel e,p⟩
 .exact⟨Y,x,p⟩
end
section
variable{X:Cx}{CL:ClA}{W:XW}{pos:Az}{e k o:Ak}{fe fk:Rho->R D}{i:Ae}{apos cpos:Az}
theorem AS.take(r:AS xs its) : ∀ n,AS (xs.take n) (its.take n):=by
 induction r with
 |nil=>intro n;simp;exact .nil
 |cons h _ ih=>
  intro n;cases n with
  |zero=>exact .nil
  |succ n=>exact .cons h (ih n)
theorem AS.drop(r:AS xs its) : ∀ n,AS (xs.drop n) (its.drop n):=by
 induction r with
 |nil=>intro n;simp;exact .nil
 |cons h t ih=>
  intro n;cases n with
  |zero=>exact .cons h t
  |succ n=>exact ih n
end
section
variable{prog:AE}{w:Ar}{A:AN}{E:Ah->Am->Prop}{s:Am}
end
noncomputable def Lb(t:Aj)(h:Ay)(j l:Ai)(i:Ae):Prop:=match t with
  |true=>h.IsTupleIter j l i
  |false=>h.IsListIter j l i
noncomputable def HQ(t:Aj)(h:Ay)(l:Ai)(its:Ba Ah):Prop:=match t with
  |true=>h.IsTuple l its
  |false=>h.IsList l its
theorem nb2{I l c:Ae}(b:l<I)(h:c∈[I+1,l]):c≠I/\c≠I+3/\c≠I+4:=by
 have h':c=I+1\/c=l:=by simpa using h
 omega
section
variable{prog:AE}{w:Ar}{A:AN}{E:Ah->Am->Prop}{s:Am}
end
section
variable{prog:AE}{w:Ar}{A:AN}{E:Ah->Am->Prop}{s:Am}
theorem HQ.push{t:Aj}{its:Ba Ah}(z:HQ t h l its)(o:AD):HQ t (h.push o) l its:=by
 cases t with
 |true=>exact PySem.Heap.IsTuple.at z λ_ e=>Ax _ e
 |false=>exact PySem.Heap.IsList.at z λ_ e=>Ax _ e
end
theorem HQ.lt{t:Aj}{its:Ba Ah}(z:HQ t h a its):a<h.objs.size:=by
 cases t with
 |true=>obtain⟨o,e,_⟩:=z;exact AA e
 |false=>obtain⟨o,e,_⟩:=z;exact AA e
section
variable{X:Cx}{CL:ClA}{W:XW}{pos p:Az}{a b:Ak}{fa fb:Rho->R D}
end
section
variable{prog:AE}{w:Ar}{A:AN}{E:Ah->Am->Prop}{s:Am}
end
section
variable{X:Cx}{CL:ClA}{W:XW}{pos p:Az}{a:Ak}{fa:Rho->R D}
end
noncomputable abbrev OH(h:Ay)(z TI TO:Ai)(f0 f1:Ah):Prop:=h.get? z=Aa { cls := .type "zip",dict:=Af,data := .fields #[f0,f1,.bool Ac,.ref TI,.ref TO],slots := #[] }
noncomputable abbrev Ou(h:Ay)(T:Ai)(a b c:Ah):Prop:=h.get? T=Aa { cls := .type "tuple",data := .seq #[a,b,c] }
section
variable{prog:AE}{w:Ar}{A:AN}{E:Ah->Am->Prop}{s:Am}
noncomputable def Z_3(t1 t2 t3:Aj)(I l1 l2 l3 i:Ae)(h:Ay):Prop:=Ou h (I+3) (.ref (I+0)) (.ref (I+1)) (.ref (I+2))/\Lb t1 h (I+0) l1 i/\Lb t2 h (I+1) l2 i/\Lb t3 h (I+2) l3 i/\(∃ a b c,Ou h (I+4) a b c) /\
 (OH h (I+5) (I+3) (I+4) .none (.bool Ac) \/ ∃(T1:Ae)(f1:Aj),OH h (I+5) (I+3) (I+4) (Ew T1) (.bool f1))
end
section
variable{prog:AE}{w:Ar}{A:AN}{R:Ft->Am->Prop}
end
section
variable{prog:AE}{w:Ar}{A:AN}{E:Ah->Am->Prop}{s:Am}
end
theorem Z_3.ty{t1 t2 t3:Aj}{I l1 l2 l3 i:Ae}(z:Z_3 t1 t2 t3 I l1 l2 l3 i s.heap):s.TypeIs (.ref (I+5)) "zip" := by
 obtain⟨_,_,_,_,_,hz|⟨_,_,hz⟩⟩:=z
 .exact⟨_,hz,rfl⟩
 .exact⟨_,hz,rfl⟩
theorem Z_3.lt{t1 t2 t3:Aj}{I l1 l2 l3 i:Ae}(z:Z_3 t1 t2 t3 I l1 l2 l3 i s.heap):I+5<s.heap.objs.size:=by
 obtain⟨o,h,_⟩:=z.ty;exact AA h
section
variable{prog:AE}{w:Ar}{A:AN}{E:Ah->Am->Prop}{s:Am}
end
section
variable{X:Cx}{CL:ClA}{W:XW}{pos p pos' p':Az}{a b c:Ak}{fa fb fc:Rho->R D}
end
section
variable{X:Cx}{CL:ClA}{W:XW}{pos p tpos:Az}{a b c:Ak}{fa fb fc:Rho->R D}{x:Ag}
end
section
variable{X:Cx}{CL:ClA}{W:XW}{a:Ak}{fa:Rho->R D}
end
section
variable{X:Cx}{CL:ClA}{W:XW}{o o' e:Ak}{fe:Rho->R D}{i j:Ae}{apos cpos apos' cpos' pos:Az}
end
section
variable{X:Cx}{CL:ClA}{W:XW}
end
section
variable{X:Cx}
variable{CL:ClA}{W:XW}{pos p pos' p':Az}{a b:Ak}{fa fb:Rho->R D}
end
section
variable{X:Cx}{CL:ClA}{W:XW}{e o o' k l:Ak}{fe:Rho->R Ov.D}{i ik il:Ae}{pos spos spos' tpos:Az}{kt:Ae}
end
section
variable{prog:AE}{w:Ar}{A:AN}{E:Ah->Am->Prop}{s:Am}
end
section
variable{X:Cx}{pos:Az}{CL:ClA}
end
section
variable{X:Cx}{CL:ClA}{W:XW}
end
end Ov
namespace Ov
open PySem PySem.W PyProof.Rows
variable{p:Ba Ae}{m:Ae}
def Kr{α:Type}(lt:Ae->Ae->Aj)(n:Ae):KasT α->(α->Prop)->Prop
 |.ret a,Q=>Q a
 |.ask i j k,Q=>i<n/\j<n/\Kr lt n (k (lt i j)) Q
theorem Kr.mono{α:Type}{lt:Ae->Ae->Aj}{n:Ae}{Q Q':α->Prop} : ∀{t:KasT α},Kr lt n t Q->(∀ a,Q a->Q' a)->Kr lt n t Q'
 |.ret _,h,k=>k _ h
 |.ask i j f,h,k=>⟨h.1,h.2.1,Kr.mono (t:=f (lt i j)) h.2.2 k⟩
theorem Kr.bind{α β:Type}{lt:Ae->Ae->Aj}{n:Ae}{f:α->KasT β}{Q:β->Prop} : ∀{t:KasT α},Kr lt n t (λa=>Kr lt n (f a) Q)->Kr lt n (t.bind f) Q
 |.ret _,h=>h
 |.ask i j k,h=>⟨h.1,h.2.1,Kr.bind (t:=k (lt i j)) h.2.2⟩
structure Sto (lt:Ae->Ae->Aj) (n:Ae):Prop where
 tr : ∀ i j k,i<n->j<n->k<n->lt i j=Ab->lt j k=Ab->lt i k=Ab
 tot : ∀ i j,i<n->j<n->i≠j->lt i j=Ac->lt j i=Ab
 asy : ∀ i j,i<n->j<n->lt i j=Ab->lt j i=Ac
noncomputable def at0(p:Ba Ae)(x:Ae):Ae:=p.getD x 0
structure Pm (n:Ae) (p:Ba Ae):Prop where
 sz:p.size=n
 lt : ∀ x,x<n->at0 p x<n
 inj : ∀ x y,x<n->y<n->at0 p x=at0 p y->x=y
section
variable{lt:Ae->Ae->Aj}{n:Ae}
noncomputable def K9(lt:Ae->Ae->Aj)(p:Ba Ae)(m:Ae):Prop := ∀ x y,x<y->y<m->lt (at0 p x) (at0 p y)=Ab
noncomputable def Ld(lt:Ae->Ae->Aj)(p:Ba Ae)(m:Ae):Prop := ∀ x y,x<y->y<m->lt (at0 p y) (at0 p x)=Ab
theorem K9.succ(S:Sto lt n)(hp:Pm n p)(h1:1<=m)(hm:m<n)(h:K9 lt p m)(e:lt (at0 p (m-1)) (at0 p m)=Ab):K9 lt p (m+1):=λx y hxy hy=>by
 by_cases hym:y<m
 .exact h x y hxy hym
 .have:y=m:=by omega
  subst this;by_cases hx:x=y-1
  .rw[hx];exact e
  .exact S.tr _ _ _ (hp.lt _ (by omega)) (hp.lt _ (by omega)) (hp.lt _ hm) (h x (y-1) (by omega) (by omega)) e
theorem Ld.succ(S:Sto lt n)(hp:Pm n p)(h1:1<=m)(hm:m<n)(h:Ld lt p m)(e:lt (at0 p m) (at0 p (m-1))=Ab):Ld lt p (m+1):=λx y hxy hy=>by
 by_cases hym:y<m
 .exact h x y hxy hym
 .have:y=m:=by omega
  subst this;by_cases hx:x=y-1
  .rw[hx];exact e
  .exact S.tr _ _ _ (hp.lt _ hm) (hp.lt _ (by omega)) (hp.lt _ (by omega)) e (h x (y-1) (by omega) (by omega))
end
section
variable{prog:AE}{w:Ar}{A:AN}{E:Ah->Am->Prop}{κ:SortKind}{it:Ba Keyed}
end
section
variable{lt:Ae->Ae->Aj}{n:Ae}
end
noncomputable def JV(h:Ay)(v:Ah)(r:Ad Ao):Prop := ∃ a its,v = .ref a/\G6 h a its/\Fq its.toList r/\r≠[]
theorem JV.kept{h h':Ay}{v:Ah}{r:Ad Ao}(t:JV h v r)(k : ∀ b o,h.get? b=Aa o->h'.get? b=Aa o):JV h' v r:=by
 obtain⟨a,its,e,⟨o,ho,q⟩,i,n⟩:=t;exact⟨a,its,e,⟨o,k _ _ ho,q⟩,i,n⟩
section
variable{prog:AE}{w:Ar}{A:AN}{E:Ah->Am->Prop}{s:Am}
end
end Ov
section
namespace Ov
open PySem PySem.Spec PyProof.Rows L2
section
variable{X:Cx}{CL:ClA}{W:XW}
end
end Ov
end
section
namespace Ov
open PySem PySem.Spec PyProof.Rows
section
variable{t:SetTable}{hashAt:Ae->Ao}{h:Ao}
noncomputable def stand(i b:Ae):SetTable.Probe:=⟨i,0,i,b,Af⟩
end
section
variable{prog:AE}{w:Ar}{A:AN}{E:Ah->Am->Prop}{s:Am}{K:Type} [DecidableEq K] {knd:KeyKind prog w K}
end
section
variable{prog:AE}{w:Ar}{A:AN}{R:Ft->Am->Prop}{I:Ai}{fp wr:Ad Ai}{G:Ba CQ->Ba CQ->Prop}{n:Ae}{P:Ae->Ah->Prop}{St:Ae->Am->Prop}
end
section
variable{prog:AE}{w:Ar}{A:AN}{E:Ah->Am->Prop}{s:Am}
end
end Ov
end
namespace Ov
open PySem PySem.Spec PyProof.Rows L2
variable{P:AE}{w:Ar}{H H':Hp}{h h':Ay}{oe:AD}{vs:Ba Ah}{Q:Dd->Am->Prop}{T' C C' OV:Ai}{a0 oc:Ah}{X:Cx}{pI:Ad (Ai × AD)}{Z Z0:L2.St}{K:Fg}{m:Ag->An Ah}{x g z z' par name qual q x0:Ag}{v:An Ah}{M:Eo}{tk:BW}{fill expr:Aj}{φ:Ay->Prop}{CL:ClA}{Fz:Ai->HO->Prop}{B A:Ai->Prop}{Y:Rho}{W:XW}{hs:Ad AC}{h0:AC}{p1 hp pos p pos' np cpos p2 p3:Az}{fh:Rho->O}{dx od an:An Ai}{up:Ae->Ad Ae}{CX:CXT}{k c kk k' id:Ae}{fd:Bl}{ps:Ad Ag}{Xw:Ah->Am->Prop}{fs:Rho->R (Ad D)}{xn:Ae->Ad D->R Ex}{d:D}{α:Type}{env:BE}{as:Es}{xs ys:Ad Ak}{scope:Bw}{ts:Ad Ae}{ds:Ad D}{osl:Ba (An Ah)}
section
variable{X:Cx}
def Ji(K:Fg)(H:Hp):Ad V->Ad (Ad Ao)->Prop
 |[],[]=>E1
 |x::xs,k::ks=>(∃ b,x = .ref b/\SqT K H b (k.map V.int))/\Ji K H xs ks
 |_,_=>AT
theorem Ji.length{K:Fg}{H:Hp} : ∀{xs:Ad V}{ks:Ad (Ad Ao)},Ji K H xs ks->xs.length=ks.length
 |[],[],_=>rfl
 |_::_,_::_,h=>congrArg (· + 1) (Ji.length h.2)
 |[],_::_,h=>h.elim
 |_::_,[],h=>h.elim
variable{CL:ClA}{W:XW}{pos p pos' p':Az}{a:Ak}{fa:Rho->R D}
end
section
end
section
variable{X:Cx}
variable{CL:ClA}{W:XW}{o e:Ak}{fe:Rho->R D}{i:Ae}{apos cpos pos:Az}
end
section
open PySem.AutoSeq1 (wpAny_loadPart')
end
section
variable{prog:AE}{w:Ar}{A:AN}{R:Ft->Am->Prop}{I S T:Ai}{u v:Ah}{c:Ae}{P:Ae->Ah->Prop}{St:Ae->Ay->Prop}{s:Am}{r q:Ad Ao}
end
section
variable{X:Cx}{CL:ClA}{W:XW}
end
noncomputable def Ja(e T:Ai)(cls:Ah)(dx:An Ai)(fl:Ah)(h:Ay):Prop := ∃ oe vs oT ts a0,h.get? e=Aa oe/\oe.cls=cls/\oe.dict=dx/\vs[0]? = Aa a0/\oe.data = .fields vs/\vs[1]? = Aa (.ref T)/\T≠e/\h.get? T=Aa oT/\oT.data = .fields ts/\ts[3]? = Aa fl
noncomputable abbrev Fly(e T:Ai)(cls:Ah)(dx:An Ai)(h:Ay):Prop:=Ja e T cls dx Cw h
noncomputable def DT(C:Ai)(dx:An Ai)(t:Ai):AD := {cls := .ref C,dict:=dx,data := .fields #[.ref t,.none,.none,.none,.bool Ac,.none]}
structure Shift (ex fs:Ad Ai) (h h':Ay):Prop where
 keep : ∀ b o,h.get? b=Aa o->b ∉ ex->b ∉ fs->h'.get? b=Aa o
 slot : ∀ b o,h.get? b=Aa o->b∈fs -> ∃ sl,h'.get? b=Aa {o with slots:=sl}
theorem ObjOk.isThere{a:Ai} : ∀(o:HO),L2.ObjOk P w H h a o -> ∃ ob,h.get? a=Aa ob
 |.lst _,x=>by obtain⟨_,_,_,_,e⟩:=x;exact⟨_,e⟩
 |.tup _,x=>by obtain⟨_,_,_,p⟩:=x;obtain⟨o,e,_⟩:=p;exact⟨_,e⟩
 |.dK _,x=>by obtain⟨_,_,_,_,o,_,_,e,_⟩:=x;exact⟨_,e⟩
 |.dT _,x=>by obtain⟨_,_,_,_,o,_,_,e,_⟩:=x;exact⟨_,e⟩
 |.set _ _,x=>by obtain⟨o,_,_,_,e,_⟩:=x;exact⟨_,e⟩
 |.ins _ _ _,x=>by obtain⟨_,_,_,e,_⟩:=x;exact⟨_,e⟩
 |.own _,x=>x
 |.xd _,x=>by obtain⟨_,⟨_,_,_,e,_⟩,_⟩:=x;exact⟨_,e⟩
 |.met _ _,x=>⟨_,x⟩
 |.rng _ _,x=>by obtain⟨_,_,_,e⟩:=x;exact⟨_,e⟩
 |.frz _ _,x=>⟨_,x.1⟩
 |.tbl _,x=>⟨_,x⟩
 |.ext _,x=>x.2.1
theorem GN{a:Ai}(x:HOk P w H h)(e:h.get? a=Af):H a=Af:=by
 cases q:H a with
 |none=>rfl
 |some o=>
  obtain⟨ob,z⟩:=ObjOk.isThere o (x a o q);rw[e]at z;cases z
theorem HOk.shift{ex fs:Ad Ai}(x:HOk P w H h)(sh:Shift ex fs h h')(h1 : ∀ b∈ex,H b=Af)(h2 : ∀ b∈fs,H b=Af):HOk P w H h':=λa o e=>
 (x a o e).stay (λb u hb q=>by
  have hs : ∃ v,H b=Aa v:=by
   rcases hb with rfl|hb
   .exact⟨_,e⟩
   .exact⟨_,hb⟩
  obtain⟨v,hv⟩:=hs;exact sh.keep b u q (λz=>by rw[h1 b z]at hv;cases hv) (λz=>by rw[h2 b z]at hv;cases hv)) (λ_ q=>q) λ_ _ q=>q
theorem Un.shift{fs0 fs ex:Ad Ai}{h0:Ay}(u:Un fs0 [] H H' h0 h)(sh:Shift ex fs h h')(h1 : ∀ b∈ex,h0.get? b=Af)(h2 : ∀ b∈fs,b∈fs0\/h0.get? b=Af):Un fs0 [] H H' h0 h' where
 keep:=λb o q n hb hx=>sh.keep b o (u.keep b o q n hb hx) (λz=>by rw[h1 b z]at q;cases q) λz=>(h2 b z).elim hb λe=>by rw[e]at q;cases q
 slot:=λb o q n hb hx=>by
  obtain⟨sl,e1⟩:=u.slot b o q n hb hx;by_cases hf:b∈fs
  .obtain⟨sl',e2⟩:=sh.slot b _ e1 hf;exact⟨sl',e2⟩
  .exact⟨sl,sh.keep b _ e1 (λz=>by rw[h1 b z]at q;cases q) hf⟩
 free:=u.free
 there:=λb o q hx=>by
  obtain⟨o',e1⟩:=u.there b o q hx;by_cases hf:b∈fs
  .obtain⟨sl',e2⟩:=sh.slot b _ e1 hf;exact⟨_,e2⟩
  .exact⟨o',sh.keep b _ e1 (λz=>by rw[h1 b z]at q;cases q) hf⟩
 tups:=u.tups
 frzs:=u.frzs
 tbls:=u.tbls
theorem UJ(f:Ba Ah->Ba Ah)(o:AD):(DM f o).dict=o.dict:=by
 obtain⟨c,d,dt,sl⟩:=o;cases dt <;> rfl
section
variable{M:Eo}{A:AN}{E:Ah->Am->Prop}{s:Am}{env:BE}{outer:Ad BE}{L e T:Ai}{cls:Ah}{dx:An Ai}{base h:Ay}
theorem LQ{hd:Ah}{nx:Aj}(hfr:A.frames=Aa (env::outer))(hf:env.frame=Aa L)(ff:s.heap.FunFrames base (env::outer))(he:s.heap.get? e=Aa oe)(dt:oe.data = .fields vs)(hz:1<vs.size)(hQ : ∀ h' T' oT ts,h'.get? e=Aa (DM (·.setIfInBounds 1 (.ref T')) oe)->T'≠e->s.heap.get? T'=Af->h'.get? T'=Aa oT->oT.data = .fields ts->ts[3]? = Aa (Ew L)->Shift [e] (frs (env::outer)) s.heap h'->Q () {s with heap:=h'}):
  As M A (do
   let fr <-frameOf env
   let pl <-entryPlaceOf L nx
   let en <-Pl hd fr .none (Ew L) .none pl
   setField (.ref e) 1 en) Q E s:=by
 have nf:e ∉ frs (env::outer):=λz=>by
  obtain⟨_,o,q,n⟩:=ff.mem z;rw[he]at q;cases q;exact n vs dt
 refine At (wpAny_frameOf_fun hfr ff hf λk1 so=>At (wpAny_entryPlaceOf λpl ip => ?_))
 obtain⟨sz,sm,sl⟩:=so;have e1:k1.get? e=Aa oe:=(sm e nf).trans he;unfold Pl;unfold newFields;refine At (QD ?_ (ip.sizeOk5 _ _ _ _ _));generalize hX:({ cls := .type "traceback",dict:=Af,data := .fields ([hd,.ref L,.none,Ew L,.none]++(if pl.isEmpty then Dx 6 Cw else pl)).toArray }:AD)=ob
 have od:ob.data = .fields ([hd,.ref L,.none,Ew L,.none]++(if pl.isEmpty then Dx 6 Cw else pl)).toArray:=by rw[<-hX]
 have nl:k1.objs.size≠e:=O7 (AA e1);have e2:=Ax ob e1;refine FB e2 dt hz ?_;have up : ∀ b,b≠e->((k1.push ob).update e (DM (·.setIfInBounds 1 (.ref k1.objs.size)))).get? b=(k1.push ob).get? b:=λb nb=>B4 _ _ (Da nb)
 have lf:ob.isFreed=Ac:=by rw[<-hX];rfl
 refine hQ _ k1.objs.size ob _ (Cp _ e2 (D2 (CP dt _))) nl ?_ ((up _ nl).trans (Bs k1 lf)) od ?_ ⟨λb o q n1 n2 => ?_,λb o q hb => ?_⟩
 .rw[sz];exact Ce (AW _)
 .simp
 .have nb:b≠e:=λz=>n1 (by rw[z];exact AU)
  rw[up b nb];exact Ax ob ((sm b n2).trans q)
 .obtain⟨sl',q'⟩:=sl b o q;have nb:b≠e:=λz=>nf (z ▸ hb)
  exact⟨sl',(up b nb).trans (Ax ob q')⟩
theorem LY{oT:AD}{ts:Ba Ah}{fl:Ah}(hc:oe.cls=cls)(hx:oe.dict=dx)(h0:vs[0]? = Aa a0)(dt:oe.data = .fields vs)(hz:1<vs.size)(g:h'.get? e=Aa (DM (·.setIfInBounds 1 (.ref T')) oe))(ne:T'≠e)(gT:h'.get? T'=Aa oT)(dT:oT.data = .fields ts)(f3:ts[3]? = Aa fl):Ja e T' cls dx fl h':=
 ⟨_,_,oT,ts,a0,g,(Obj.cls_mapFields _ _).trans hc,(UJ _ _).trans hx,by rw[Array.getElem?_setIfInBounds_ne (by decide)];exact h0,CP dt _,by simp[hz],ne,gT,dT,f3⟩
theorem GF{i:Ae}{v:Ah}(q:vs[i]? = Aa v):i<vs.size:=(Array.getElem?_eq_some_iff.mp q).1
theorem Mq(hfr:A.frames=Aa (env::outer))(hf:env.frame=Aa L)(ff:s.heap.FunFrames base (env::outer))(fl:Fly e T cls dx s.heap)(hQ : ∀ h' T',Ja e T' cls dx (Ew L) h'->Shift [e,T] (frs (env::outer)) s.heap h'->s.heap.get? T'=Af->Q () {s with heap:=h'}):As M A (Eu (.ref e) env) Q E s:=by
 obtain⟨oe,vs,oT,ts,a0,he,hc,hx,h0,dt,h1,ne,hT,dT,h3⟩:=fl;have z3:=GF h3;unfold Eu;simp only[hf];refine At (Fh he dt h1 ?_);rw[AY (by simp:(BG T != Cw)=Ab)]
 refine At (Fh hT dT h3 ?_);rw[A8 (by simp[Ew] : ¬ (Cw==Ew L)=Ab)]
 refine At (FB hT dT z3 ?_);have up : ∀ b,b≠T->(s.heap.update T (DM (·.setIfInBounds 3 Cw))).get? b=s.heap.get? b:=λb nb=>B4 _ _ (Da nb)
 have rcd : ∀ b o,s.heap.get? b=Aa o->(∀ us,o.data ≠ .fields us)->b≠T:=λb o q n z=>by
  rw[z,hT]at q;cases q;exact n ts dT
 refine LQ (base:=base) hfr hf (ff.of_keeps λb o q n=>⟨o,(up b (rcd b o q n)).trans q,rfl⟩) ((up e (Da ne)).trans he) dt (GF h1) λh' T' oT' ts' g nT gn gT dT' f3 sh => ?_
 have T0:s.heap.get? T'=Af:=by
  by_cases z:T'=T
  .rw[z]at gn;rw[Cp _ hT (D2 (CP dT _))]at gn;cases gn
  .rw[<-up T' z];exact gn
 refine hQ h' T' (LY hc hx h0 dt (GF h1) g nT gT dT' f3) ⟨λb o q n1 n2 => ?_,λb o q hb => ?_⟩ T0
 .simp only[AR,ET,HS,HR]at n1;exact sh.keep b o ((up b n1.2).trans q) (by simp[n1.1]) n2
 .obtain⟨_,o',q',n⟩:=ff.mem hb;rw[q]at q';cases q';exact sh.slot b o ((up b (rcd b o q n)).trans q) hb
theorem Ie{fv:Ah}(fl:Ja e T cls dx fv s.heap)(hQ : ∀ h',Fly e T cls dx h'->(∀ b o,b≠T->s.heap.get? b=Aa o->h'.get? b=Aa o)->Q () {s with heap:=h'}):As M A (Ff (.ref e) Af) Q E s:=by
 obtain⟨oe,vs,oT,ts,a0,he,hc,hx,h0,dt,h1,ne,hT,dT,h3⟩:=fl;have z3:=GF h3;unfold Ff;refine At (Fh he dt h1 ?_);rw[AY (by simp:(BG T != Cw)=Ab)]
 refine FB hT dT z3 (hQ _ ?_ λb o nb q=>(B4 _ _ (Da nb)).trans q)
 exact⟨oe,vs,_,_,a0,(B4 _ _ ne).trans he,hc,hx,h0,dt,h1,ne,Cp _ hT (D2 (CP dT _)),CP dT _,by simp[z3]⟩
theorem JG{h1 h2:Ay}{ex:Ad Ai}(ff:s.heap.FunFrames base (env::outer))(sh:Shift ex (frs (env::outer)) s.heap h1)(hT:s.heap.get? T'=Af)(k : ∀ b o,b≠T'->h1.get? b=Aa o->h2.get? b=Aa o):Shift ex (frs (env::outer)) s.heap h2:=
 ⟨λb o q n1 n2=>k b o (λz=>by rw[z,hT]at q;cases q) (sh.keep b o q n1 n2),λb o q hb=>let ⟨sl,q'⟩:=sh.slot b o q hb;⟨sl,k b _ (λz=>by rw[z,hT]at q;cases q) q'⟩⟩
theorem Q7(hfr:A.frames=Aa (env::outer))(hf:env.frame=Aa L)(ff:s.heap.FunFrames base (env::outer))(fl:Fly e T cls dx s.heap)(hQ : ∀ h' T',Fly e T' cls dx h'->Shift [e,T] (frs (env::outer)) s.heap h'->(T'=T\/s.heap.get? T'=Af)->Q () {s with heap:=h'}):As M A (leaving env (.ref e)) Q E s:=by
 unfold leaving;exact At (Mq hfr hf ff fl λh1 T' f1 sh hT=>Ie f1 λh2 f2 k=>hQ h2 T' f2 (JG ff sh hT k) (.inr hT))
theorem Q0(hfr:A.frames=Aa (env::outer))(hf:env.frame=Aa L)(ff:s.heap.FunFrames base (env::outer))(he:s.heap.get? e=Aa oe)(hc:oe.cls=cls)(hx:oe.dict=dx)(dt:oe.data = .fields vs)(h0:vs[0]? = Aa a0)(h1:vs[1]? = Aa .none)(hQ : ∀ h' T',Fly e T' cls dx h'->Shift [e] (frs (env::outer)) s.heap h'->s.heap.get? T'=Af->Q () {s with heap:=h'}):As M A (leaving env (.ref e)) Q E s:=by
 unfold leaving Eu;simp only[hf];refine At (At (Fh he dt h1 ?_));rw[A8 (by decide)]
 exact LQ (base:=base) hfr hf ff he dt (GF h1) λh' T' oT ts g nT gn gT dT f3 sh=>Ie (LY hc hx h0 dt (GF h1) g nT gT dT f3) λh2 f2 k=>hQ h2 T' f2 (JG ff sh gn k) gn
theorem Si(hfr:A.frames=Aa (env::outer))(hf:env.frame=Aa L)(ff:s.heap.FunFrames base (env::outer))(fl:Fly e T cls dx s.heap)(hQ : ∀ h' T',Fly e T' cls dx h'->Shift [e,T] (frs (env::outer)) s.heap h'->(T'=T\/s.heap.get? T'=Af)->Q () {s with heap:=h'}):As M A (Eu (.ref e) env) (λ_ s2=>As M A (Ff (.ref e) Af) Q E s2) E s:=
 Mq hfr hf ff fl λh1 T' f1 sh hT=>Ie f1 λh2 f2 k=>hQ h2 T' f2 (JG ff sh hT k) (.inr hT)
theorem Q8{l:Ad BE}{A':AN}(ff:s.heap.FunFrames base l)(fl:Fly e T cls dx s.heap)(hQ : ∀ h' T',Fly e T' cls dx h'->Shift [e,T] (frs l) s.heap h'->(T'=T\/s.heap.get? T'=Af)->Q () {s with heap:=h'}):As M A' (Ff (.ref e) Af) Q E s:=by
 obtain⟨oe,vs,oT,ts,a0,he,hc,hx,h0,dt,h1,ne,hT,dT,h3⟩:=id fl;refine Ie fl λh' f' k=>hQ h' T f' ⟨λb o q n1 n2=>k b o (λz=>n1 (by rw[z];simp)) q,λb o q hb=>⟨o.slots,k b o (λz => ?_) q⟩⟩ (.inl rfl)
 obtain⟨_,o',q',n⟩:=ff.mem hb;rw[z,hT]at q';cases q';exact n ts dT
end
noncomputable def CXR(P:AE)(w:Ar):CXT:=λouter H s E ev s' => ∃ e T cls dx H',ev = .ref e/\s'.os=s.os/\Dz s'.gens/\Un (frs outer) [] H H' s.heap s'.heap/\HOk P w H' s'.heap/\Fly e T cls dx s'.heap/\H' e=Af/\H' T=Af/\s.heap.get? e=Af/\s.heap.get? T=Af/\E cls dx H'
noncomputable def HK(X:Cx)(CL:ClA)(W:XW):Prop := ∀ pI Z H s e C dx t x,Inv X pI Z H s->(X.ex=[]->X.s₀.heap.get? e=Af)->H e=Af->s.heap.get? e=Aa (DT C dx t)->DV X.K CL H (.ref C) dx x->W x H->X.xe (.ref e) s
section
variable{P:AE}{w:Ar}{K:Fg}{mg:Ag->An Ah}{base:Ay}{N:Ad Ag}{qual:Ag}{scope:Bw}{f:Ai}{cd:Ah}{A:AN}{outer:Ad BE}{s:Am}{H:Hp}{E:XK}{CL:ClA}{W:XW}
theorem JU{s:Am}(I:Inv X pI Z H s) : ∀ b∈frs X.stack,b∈X.fs\/X.s₀.heap.get? b=Af:=λb hb=>by
 rcases AR.mp (I.stkSub b hb) with z|z
 .exact .inr (by rw[z];exact Ce I.ok.above)
 .exact .inl z
theorem Gg{s:Am}{b:Ai}(I:Inv X pI Z H s)(hx:X.ex=[])(h:s.heap.get? b=Af):X.s₀.heap.get? b=Af:=by
 cases q:X.s₀.heap.get? b with
 |none=>rfl
 |some o=>
  obtain⟨o',z⟩:=I.base.there b o q (by rw[hx];simp)
  rw[h]at z;cases z
theorem Xu(hE : ∀ x cls dx H',W x H'->DV K CL H' cls dx x->E cls dx H') : ∀ A',GU (CXR P w) (DW (CXR P w) P w K mg base N qual scope f cd A outer s H E) (EKW K CL A' W):=by
 intro A' pI Z H1 s1 ev s2 I h;obtain⟨e,T,cls,dx,H',rfl,os,bare,un,hok,fl,he,hT,ne,nT,x,xr,wx⟩:=h;have I':=I.call' (s':=s2) (ch:=[]) os un hok bare (λb z=>absurd z (by simp))
 have hb0:Un (frs outer) [] H H' s.heap s2.heap:=I'.base;show As (model P w) (A.deeper (C6 qual scope s.heap.objs.size f cd)) (leaving (C6 qual scope s.heap.objs.size f cd) (.ref e)) _ _ s2;refine Q7 (L:=s.heap.objs.size) I'.ok.frames rfl I'.stack fl λh' T' fl' sh hT' => ?_
 have e0:s.heap.get? e=Af:=Gg I rfl ne;have T0:s.heap.get? T=Af:=Gg I rfl nT;refine⟨e,T',cls,dx,H',rfl,I'.os,bare,Un.shift hb0 sh ?_ (JU I'),HOk.shift hok sh ?_ I'.stkFree,fl',he,?_,e0,?_,?_⟩
 .intro b hb;rcases AR.mp hb with rfl|hb
  .exact e0
  .rw[Bn.mp hb];exact T0
 .intro b hb;rcases AR.mp hb with rfl|hb
  .exact he
  .rw[Bn.mp hb];exact hT
 .rcases hT' with rfl|z
  .exact hT
  .exact GN hok z
 .rcases hT' with rfl|z
  .exact T0
  .exact Gg I' rfl z
 .exact hE x cls dx H' wx xr
theorem rzR(hE : ∀ x cls dx H',W x H'->DV K CL H' cls dx x->E cls dx H'):HK (DW (CXR P w) P w K mg base N qual scope f cd A outer s H E) CL W:=by
 intro pI Z H1 s1 e C dx t x I e0 he ge xr hw;have hb0:Un (frs outer) [] H H1 s.heap s1.heap:=I.base;have e0':s.heap.get? e=Af:=e0 rfl;show As (model P w) (A.deeper (C6 qual scope s.heap.objs.size f cd)) (leaving (C6 qual scope s.heap.objs.size f cd) (.ref e)) _ _ s1;refine Q0 (cls := .ref C) (dx:=dx) (L:=s.heap.objs.size) I.ok.frames rfl I.stack ge rfl rfl rfl (a0 := .ref t) rfl rfl λh' T' fl' sh hT' => ?_
 have one : ∀{Z_:Ai->Prop},Z_ e -> ∀ b∈[e],Z_ b:=λ{Z_} z b hb=>by rw[Bn.mp hb];exact z
 exact⟨e,T',.ref C,dx,H1,rfl,I.os,I.bare,Un.shift hb0 sh (one e0') (JU I),HOk.shift I.hok sh (one (Z_:=λb=>H1 b=Af) he) I.stkFree,fl',he,GN I.hok hT',e0',Gg I rfl hT',hE x _ dx H1 hw xr⟩
theorem Yh:Dr (model P w) (DW (CXR P w) P w K mg base N qual scope f cd A outer s H E).A (DW (CXR P w) P w K mg base N qual scope f cd A outer s H E).env (DW (CXR P w) P w K mg base N qual scope f cd A outer s H E).xe:=PassesOwn.leaving
end
noncomputable def veB:Ad Ah:=[.type "ValueError",.type "Exception",.type "BaseException",.type "object"]
noncomputable def Ci(K:Fg)(C:Ai)(v:An Ah):Aj:=match K.lookup C with
  | some ⟨.type "type",_,.cls c,z⟩=>(match c.mro,z.toList with
    |.ref c0::tl,[_,_,_,_,Aa (.builtin nw),_]=>c0==C&&(nw == "ValueError.__new__" && (!c.hasDel&&(PySem.W.tailIn K veB tl&&(Qu K c.ns&&Bh K c.ns "__init__" == Aa v))))
    | _,_=>Ac)
  |_=>Ac
theorem Te(q:FU K C veB "ValueError.__new__" = Ab):Ci K C Af=Ab:=by
 unfold FU at q;unfold Ci;split at q
 .rename_i dd cd sl ho;split at q
  .rename_i C' bm k0 k1 k2 k3 n k5 hm hs;simp only[Al]at q;obtain⟨⟨⟨⟨⟨h1,h2⟩,h3⟩,h4⟩,h5⟩,h6⟩:=q;simp only[ho,hm,hs,Al];exact⟨h1,h2,h3,h4,h5,h6⟩
  .cases q
 .cases q
structure XcOk (K:Fg) (C:Ai):Prop where
 exc : ∃ v,Ci K C v=Ab
 ga:Au K (.ref C) "__getattribute__" = Aa (Aa (.builtin "BaseException.__getattribute__"))
 gt:Au K (.ref C) "__getattr__" = Aa Af
 cl:Au K (.ref C) "__class__" = Aa (Aa (.builtin "object.__class__"))
 ob:BU K C (.type "object")=Aa Ab
 be:Bf K (.ref C) (.type "BaseException")=Aa Ab
 cs:(Cg K C).isSome=Ab
 ve:BV K (.ref C) (.type "ValueError")=Aa Ab
noncomputable def XAt(e C:Ai)(h:Ay):Prop := ∃ o,h.get? e=Aa o/\o.cls = .ref C
theorem UU{N:Ai}{v:Ah}(X:K.In h)(G:h.Ns N m)(q:Bh K N x=Aa (Aa v)):m x=Aa v:=by
 obtain⟨ob,es,ep,g,dt,_,fd⟩:=G;unfold Bh at q;split at q
 .rename_i es' n' sl lk;have g':=X _ _ lk;rw[g]at g';cases g';cases dt;split at q
  .rename_i hf;cases q;rw[<-fd];unfold nsFind findBy;rw[<-Array.find?_toList,hf];rfl
  .by_cases z:(es.toList.any λy=>y.refKey)=Ab
   .rw[AY z]at q;cases q
   .rw[A8 z]at q;cases q
 .cases q
theorem JB{h0:Ay}(X0:K.In h0)(q:Ci K C v=Ab):
  ∃ bm N nm qn bs hd sn sub ab col dd k0 k1 k2 k3 k5 mN,(∀ h:Ay,K.In h->h.get? C=Aa (BA nm qn C N bs bm hd sn sub ab col dd k0 k1 k2 k3 k5 "ValueError.__new__")/\h.Ns N mN/\CF h veB bm)/\mN "__init__" = v/\bm.contains (.type "BaseException")=Ab:=by
 unfold Ci at q;split at q
 .rename_i dd cd sl ho;split at q
  .rename_i C' bm k0 k1 k2 k3 n k5 hm hs;simp only[Al,AH,Bj]at q;obtain⟨rfl,rfl,hdel,ht,hok,hni⟩:=q;obtain⟨nm,bs,mro,ns,qn,hd,sn,sub,ab,col,del⟩:=cd;dsimp only at hm hdel hok hni;subst hm hdel;have hsl:sl = #[k0,k1,k2,k3,Aa (.builtin "ValueError.__new__"),k5]:=by
    obtain⟨l⟩:=sl;simp only at hs;rw[hs]
   subst hsl;have kN : ∃ o,K.lookup ns=Aa o:=by
    unfold Qu at hok;split at hok
    .rename_i z;exact⟨_,z⟩
    .cases hok
   obtain⟨oN,hoN⟩:=kN;have nsAt : ∀ h:Ay,K.In h->h.Ns ns (h0.nsMap ns):=λh X=>by
    obtain⟨o,es,ep,e1,r⟩:=Heap.Ns.of_isNs (Qq X0 hok);have e2:=X0 _ _ hoN;rw[e1]at e2;cases e2;exact⟨_,es,ep,X _ _ hoN,r⟩
   refine⟨bm,ns,nm,qn,bs,hd,sn,sub,ab,col,dd,k0,k1,k2,k3,k5,h0.nsMap ns,λh X=>⟨X _ _ ho,nsAt h X,Qv X ht⟩,?_,(Qv X0 ht).hasType (by decide)⟩
   cases v with
   |none=>exact PySem.W.nsMap_none_of_in X0 hok hni
   |some u=>exact UU X0 (.of_isNs (Qq X0 hok)) hni
  .cases q
 .cases q
theorem UF(X:K.In h)(q:Ci K C v=Ab):
  ∃ bm N nm qn bs hd sn sub ab col dd k0 k1 k2 k3 k5 mN,h.get? C=Aa (BA nm qn C N bs bm hd sn sub ab col dd k0 k1 k2 k3 k5 "ValueError.__new__")/\h.Ns N mN/\mN "__init__" = v/\CF h veB bm:=by
 obtain⟨bm,N,nm,qn,bs,hd,sn,sub,ab,col,dd,k0,k1,k2,k3,k5,mN,ho,hi,_⟩:=JB X q;obtain⟨o1,o2,o3⟩:=ho h X;exact⟨bm,N,nm,qn,bs,hd,sn,sub,ab,col,dd,k0,k1,k2,k3,k5,mN,o1,o2,hi,o3⟩
section
variable{prog:AE}{w:Ar}{A:AN}{E:Ah->Am->Prop}{h:Ay}{g:Ba CQ}{d:Fc}{t:Ae}{os:EL}{K:Fg}{e C:Ai}
theorem F2(p:XAt e C h):PySem.W.Looks M h (typeOf (.ref e)) (.ref C):=by
 obtain⟨o,h1,h2⟩:=p;exact h2 ▸ (PySem.W.Looks.ld h1).andThen .now
theorem RW{R:Ft->Am->Prop}{tp:Ah}(X:K.In h)(p:XAt e C h)(hm:BU K C (.type "object")=Aa Ab)(hq:R (.ok (.ret (.ref C))) ⟨h,g,d,t,os⟩):
  DB (model prog w) A (.call (.builtin "getset_descriptor.__get__") ⟨[.builtin "object.__class__",.ref e,tp],[]⟩) R ⟨h,g,d,t,os⟩:=by
 have L0:=F2 (M:=model prog w) p;have L1:=PySem.W.looks_mroIn (M:=model prog w) X hm;refine Cz PySem.W.KF.slot_gs.plain PySem.W.KF.entry_gs (PySem.W.KF.slot_gs.check _ _ _ _ _ _ _ _ PySem.W.KF.type_class (PySem.W.KF.args_gs _ _ _) ?_);unfold Builtin.«getset_descriptor.__get__» Builtin.Getset_descriptor.descrGet;rw[PySem.W.dga_obj];refine At (Bm ?_);unfold Builtin.Getset_descriptor.descrGetter Builtin.Getset_descriptor.descrCheckInstance Builtin.Getset_descriptor.descrNameAndClass FF;simp only[PySem.W.KF.owner_class]
 repeat lk
 refine⟨Et _ (by decide+kernel),codeAny_builtin PySem.W.KF.entry_class ?_⟩
 unfold Builtin.«object.__class__» shownTypeOf
 repeat lk
 exact hq
theorem QS{Q:Fin->Am->Prop}(X:K.In h)(x:XcOk K C)(p:XAt e C h)(hq:Q (.done (.ret (.ref C))) ⟨h,g,d,t,os⟩):
  As (model prog w) A (Builtin.«object.__getattribute__» ⟨[.ref e,.str "__class__" tk],[]⟩) Q E ⟨h,g,d,t,os⟩:=by
 have L0:=F2 (M:=model prog w) p;have L1:=BH (M:=model prog w) X x.cl;have hT5:(⟨h,g,d,t,os⟩:Am).TypeIs (.builtin "object.__class__") "getset_descriptor" := PX;have f5:=PX;have f6:=F.slot_gs_get.lookup;have f7:=F.slot_gs_set.lookup
 repeat (any_goals (first|assumption|with_reducible refine L0.at ?_|with_reducible refine L1.at ?_|wp_step))
 refine RW X p x.ob ?_
 repeat (any_goals (first|assumption|wp_step))
theorem Lu{nameV:Ah}(X:K.In h)(x:XcOk K C)(p:XAt e C h)(hq:Q () ⟨h,g,d,t,os⟩):As M A (DQ "BaseException.__getattribute__" ⟨[.ref e,nameV],[]⟩) Q E ⟨h,g,d,t,os⟩:=by
 have hk:builtinKind "BaseException.__getattribute__" = Aa .slot:=by decide+kernel
 have hsplit:splitId "BaseException.__getattribute__" = Aa ("BaseException", "__getattribute__"):=by decide+kernel
 have L0:=F2 (M:=M) p;have L1:=Qt (M:=M) X x.be;have ha:=F.args_bexc_ga (.ref e) nameV;simp only[DQ,hk,hsplit];refine At ?_
 .unfold FF
  repeat (first|(with_reducible refine At (L0.at ?_))|(with_reducible refine L1.at ?_)|wp_step)
  exact hq
theorem Tf{Q:Ah->Am->Prop}(X:K.In h)(x:XcOk K C)(p:XAt e C h)(hq:Q (.ref C) ⟨h,g,d,t,os⟩):As (model prog w) A (getAttrBy (.ref e) (.str "__class__" tk) fill expr) Q E ⟨h,g,d,t,os⟩:=by
 have L0:=F2 (M:=model prog w) p;have L1:=BH (M:=model prog w) X x.ga;have L2:=BH (M:=model prog w) X x.gt;have f3:=DD.ga.bind (.ref e);have hx0:(expr&&FZ (B7 "BaseException.__getattribute__"))=Ac:=by cases expr <;> rfl
 have hx2:(B7 "BaseException.__getattribute__" == B7 "object.__getattribute__")=Ac:=by decide+kernel
 have hx1:(FZ (BG C)&&B7 "BaseException.__getattribute__" == B7 "object.__getattribute__")=Ac:=by rw[hx2];rfl
 repeat (any_goals (first|assumption|with_reducible refine L0.at ?_|with_reducible refine L1.at ?_|with_reducible refine L2.at ?_|wp_step))
 refine Cz DD.ga.plain PR (Lu X x p (QS X x p ?_))
 repeat (any_goals (first|assumption|wp_step))
theorem QQ{Q:An Ah->Am->Prop}(X:K.In h)(x:XcOk K C)(p:XAt e C h)(hq:Q (Aa (.ref C)) ⟨h,g,d,t+1,os⟩):As (model prog w) A (getAttr? (.ref e) "__class__") Q E ⟨h,g,d,t,os⟩:=by
 unfold getAttr? getAttrBy?
 repeat (any_goals (first|assumption|with_reducible apply Tf X x p|wp_step))
end
theorem Mo{e C:Ai}(x:XcOk K C):PySem.W.KitX K (.ref e) (.ref C) (XAt e C) where
 ty:=λM h _ p=>F2 p
 it:=λM h X _=>by
  obtain⟨cd,hc⟩:=BQ.mp x.cs;unfold Cg at hc;split at hc
  .rename_i c' d' cd' sl' ho;intro A' Q' E' s' k q;unfold isType loadHead;exact At (wpAny_loadPart (k _ _ (X _ _ ho)) (Bm q))
  .cases hc
 ne:=λh tp dd its n sl X htp=>by
  obtain⟨cd,hc⟩:=BQ.mp x.cs;refine Bool.eq_false_iff.mpr λq => ?_
  have e:C=tp:=FT (AH.mp q);subst e;unfold Cg at hc;split at hc
  .rename_i c' d' cd' sl' ho;have z:=(X _ _ ho).symm.trans htp;cases z
  .cases hc
 ca:=λ{_ _ _ _ _ s} X p k=>by
  obtain⟨h,g,d,t,os⟩:=s;exact QQ X x p k
theorem RX{A:AN}{E:Ah->Am->Prop}{g:Ba CQ}{d:Fc}{t:Ae}{os:EL}{e C C':Ai}{b:Aj}{Q:Aj->Am->Prop}(X:K.In h)(p:XAt e C h)(x':XcOk K C')(hs:Bf K (.ref C) (.ref C')=Aa b)(hq:Q b ⟨h,g,d,t,os⟩):As M A (excMatches (.ref e) (.ref C')) Q E ⟨h,g,d,t,os⟩:=by
 obtain⟨bm,N,nm,qn,bs,hd,sn,sub,ab,col,dd,k0,k1,k2,k3,k5,mN,hC',_,_,T⟩:=UF X x'.exc.choose_spec;have hcB:(BG C'::bm).contains (.type "BaseException")=Ab:=by rw[Ep,T.hasType (show veB.contains (.type "BaseException")=Ab by decide),ER]
 have L0:=F2 (M:=M) p;have L1:=Qt (M:=M) X hs;have f:=tc_notTuple;unfold excMatches
 repeat (first|(with_reducible refine At (L0.at ?_))|(with_reducible refine L1.at ?_)|(with_reducible refine At (L1.at ?_))|with_reducible refine Bu hC' ?_|(with_reducible refine Dc hC' ?_;rw[hcB])|wp_step)
 all_goals first|exact hq|(cases b <;> (wp_walk;exact hq))
noncomputable def EG(X:Cx)(pI:Ad (Ai × AD))(e:Ai):Prop:=e≠X.env.locals/\(∀ x c,X.env.cells.lookup x=Aa c->c≠e)/\(∀ p∈X.pn++pI,p.1≠e)/\X.s₀.heap.get? e=Af
section
variable{X:Cx}{pI:Ad (Ai × AD)}{Z:L2.St}{H:Hp}{s:Am}{e:Ai}
theorem Hk(I:Inv X pI Z H s)(hx:X.ex=[])(h:s.heap.get? e=Af):EG X pI e:=by
 refine⟨?_,λx c q z => ?_,λp hp z => ?_,Gg I hx h⟩
 .rintro rfl;obtain⟨m,⟨o,_,_,ho,_⟩,_⟩:=I.loc;rw[h]at ho;cases ho
 .obtain⟨v,o,ho,_⟩:=I.cell x c q;rw[z,h]at ho;cases ho
 .obtain⟨q,_⟩:=I.pin p hp;rw[z,h]at q;cases q
theorem LV{ex:Ad Ai}(I:Inv X pI Z H s)(hx:X.ex=[])(sh:Shift ex (frs X.stack) s.heap h')(ha : ∀ b∈ex,EG X pI b)(hH : ∀ b∈ex,H b=Af):Inv X pI Z H {s with heap:=h'}:=by
 have kp : ∀ b o,s.heap.get? b=Aa o->b ∉ ex -> ∃ sl,h'.get? b=Aa {o with slots:=sl}:=λb o q n=>by
  by_cases hb:b∈frs X.stack
  .exact sh.slot b o q hb
  .exact⟨o.slots,sh.keep b o q n hb⟩
 have cellK : ∀ x c,X.env.cells.lookup x=Aa c -> ∀ v,s.heap.IsCell c v->h'.IsCell c v:=λx c q v ⟨o,ho,hd⟩=>by
  obtain⟨sl,z⟩:=kp c o ho λz=>(ha c z).2.1 x c q rfl
  exact⟨_,z,hd⟩
 refine⟨I.ok,I.os,I.bare,?_,?_,λx c q => ?_,I.free,I.freeC,λp hp => ?_,HOk.shift I.hok sh hH I.stkFree,I.len⟩
 .have b0:=I.base;rw[hx]at b0 ⊢;exact Un.shift b0 sh (λb hb=>(ha b hb).2.2.2) (JU I)
 .obtain⟨m,⟨o,es,ep,ho,r⟩,hl⟩:=I.loc;obtain⟨sl,z⟩:=kp _ o ho λz=>(ha _ z).1 rfl
  refine⟨m,⟨_,es,ep,z,r⟩,λi x v e1 e2 e3 => ?_⟩
  obtain⟨u,ru,l⟩:=hl i x v e1 e2 e3;refine⟨u,ru,?_⟩;rcases l with l|⟨k,c,q,z⟩
  .exact .inl l
  .exact .inr ⟨k,c,q,cellK x c q _ z⟩
 .obtain⟨v,z⟩:=I.cell x c q;exact⟨v,cellK x c q v z⟩
 .obtain⟨q,n,ne,nf,d⟩:=I.pin p hp;exact⟨sh.keep p.1 p.2 q (λz=>(ha p.1 z).2.2.1 p hp rfl) (λz=>(AR.mp (I.stkSub p.1 z)).elim ne nf),n,ne,nf,d⟩
theorem Rj(I:Inv X pI Z H s)(hx:X.ex=[])(ha:EG X pI e)(hH:H e=Af)(ho : ∃ o,s.heap.get? e=Aa o)(p:φ s.heap)(hφ : ∀ h1 h2:Ay,φ h1->(∀ o,h1.get? e=Aa o->h2.get? e=Aa o)->φ h2):Inv X pI Z (upd H e (.ext φ)) s:=by
 have ne : ∀ b o,H b=Aa o->b≠e:=λb o q z=>by rw[z,hH]at q;cases q
 refine⟨I.ok,I.os,I.bare,⟨I.base.keep,I.base.slot,λb o q n hb => ?_,I.base.there,λb xs q => ?_,λb o u q => ?_,λb ps q => ?_⟩,I.loc,I.cell,?_,λx c q => ?_,λp hp => ?_,λb o q => ?_,I.len⟩
 .rw[Bb λz=>by rw[z,ha.2.2.2]at q;cases q]
  exact I.base.free b o q n hb
 .have:=I.base.tups b xs q;rw[Bb (ne _ _ this)];exact this
 .have:=I.base.frzs b o u q;rw[Bb (ne _ _ this)];exact this
 .obtain⟨more,this⟩:=I.base.tbls b ps q;exact⟨more,by rw[Bb (ne _ _ this)];exact this⟩
 .rw[Bb λz=>ha.1 z.symm];exact I.free
 .rw[Bb (ha.2.1 x c q)];exact I.freeC x c q
 .obtain⟨q,n,r⟩:=I.pin p hp;exact⟨q,by rw[Bb (ha.2.2.1 p hp)];exact n,r⟩
 .by_cases hb:b=e
  .subst hb;rw[Dt]at q;cases q;exact⟨p,ho,hφ⟩
  .rw[Bb hb]at q;exact(I.hok b o q).stay (λc v hc z=>z) (λc z=>by rw[Bb (ne _ _ z)];exact z) λc zs z=>by rw[Bb (ne _ _ z)];exact z
theorem Ri{i:Ae}{n:Ag}{tk:Ae}(I:Inv X pI Z H s)(hN:X.N.Nodup)(hi:X.N[i]? = Aa n)(hn:s.heap.Ns X.env.locals m)(hn':h'.Ns X.env.locals (λx=>if x=n then v else m x))(hs:EW X.env.locals s.heap h'):Inv X pI (Z.set i Af) H {s with heap:=h',toks:=tk}:=by
 obtain⟨m0,hn0,hl⟩:=I.loc;have em:m0=m:=by
  obtain⟨o,es,ep,h1,h2,_,h3⟩:=hn0;obtain⟨o',es',ep',h1',h2',_,h3'⟩:=hn;rw[h1]at h1';cases h1';rw[h2]at h2';cases h2'
  funext y
  rw[<-h3,<-h3']
 subst em;obtain⟨oL,_,_,hoL,_⟩:=id hn;have lt : ∀ b o,X.s₀.heap.get? b=Aa o->b≠X.env.locals:=λb o q=>Bp (AF (AA q) I.ok.above)
 refine⟨I.ok,I.os,I.bare,⟨λb o q n hb hx => ?_,λb o q n hb hx => ?_,I.base.free,λb o q hx => ?_,I.base.tups,I.base.frzs,I.base.tbls⟩,⟨_,hn',λj y v' e1 e2 e3 => ?_⟩,λy c q => ?_,I.free,I.freeC,λp hp => ?_,λb ob q => ?_,by rw[AX];exact I.len⟩
 .exact(hs.2 b (lt b o q)).trans (I.base.keep b o q n hb hx)
 .obtain⟨sl,e1⟩:=I.base.slot b o q n hb hx;exact⟨sl,(hs.2 b (lt b o q)).trans e1⟩
 .obtain⟨o',e1⟩:=I.base.there b o q hx;exact⟨o',(hs.2 b (lt b o q)).trans e1⟩
 .by_cases hj:i=j
  .subst hj;have:=Ej e2;cases this
  .rw[BF hj]at e2;obtain⟨u',r',q⟩:=hl j y v' e1 e2 e3;refine⟨u',r',?_⟩;rcases q with ⟨k,e⟩|⟨k,c,e,z⟩
   .refine .inl ⟨k,?_⟩;have:y≠n:=λe=>hj (Jy hN hi (e ▸ e1))
    simp[this,e]
   .exact .inr ⟨k,c,e,z.sameBut hs (I.cne y c e)⟩
 .obtain⟨w',z⟩:=I.cell y c q;exact⟨w',z.sameBut hs (I.cne y c q)⟩
 .obtain⟨q,n,ne,nf,d⟩:=I.pin p hp;exact⟨(hs.2 p.1 ne).trans q,n,ne,nf,d⟩
 .refine(I.hok b ob q).stay (λc w' hc z=>(hs.2 c ?_).trans z) (λ_ q=>q) λ_ _ q=>q
  rintro rfl;have hfree:=I.free;rcases hc with z|hc
  .rw[<-z,hfree]at q;cases q
  .rw[hfree]at hc;cases hc
end
noncomputable def Cx.hot(X:Cx)(e:Ai):Cx := {X with A:=X.A.mark (Aa (.ref e)),calm:=Ac,xe:=λ_ _=>AT}
section
variable{X:Cx}{pI:Ad (Ai × AD)}{Z:L2.St}{H:Hp}{s:Am}{e:Ai}
theorem UT(ok:X.Ok):(Cx.hot X e).Ok:=⟨ok.mod,ok.kind,ok.glob,ok.blt,ok.above,ok.inj,ok.has,ok.cab,λz=>(nomatch z),ok.frames,ok.stk,ok.exf,ok.bs,ok.bsz,ok.noex,ok.exfs,ok.funs,ok.frf⟩
theorem MD(I:Inv X pI Z H s)(e:Ai):Inv (Cx.hot X e) pI Z H s:=⟨UT I.ok,I.os,I.bare,I.base,I.loc,I.cell,I.free,I.freeC,I.pin,I.hok,I.len⟩
theorem R9(ok:X.Ok)(I:Inv (Cx.hot X e) pI Z H s):Inv X pI Z H s:=⟨ok,I.os,I.bare,I.base,I.loc,I.cell,I.free,I.freeC,I.pin,I.hok,I.len⟩
theorem Sx.unset(x:Sx K CL Fz B Y Z H)(i:Ae):Sx K CL Fz B (Y.set i Af) (Z.set i Af) H:=by
 have get : ∀(j:Ae)(y:D × Aj),(Y.set i Af)[j]? = Aa (Aa y)->i≠j/\Y[j]? = Aa (Aa y):=λj y h=>by
  by_cases hj:i=j
  .subst hj;have:=Ej h;cases this
  .exact⟨hj,by rw[BF hj]at h;exact h⟩
 have sub : ∀ a,Bk B (Y.set i Af) (Z.set i Af) a->Bk B Y Z a:=λa h=>by
  rcases h with h|⟨j,d,h1,h2⟩
  .exact .inl h
  .obtain⟨hj,h1⟩:=get j _ h1;rw[BF hj]at h2;exact .inr ⟨j,d,h1,h2⟩
 refine⟨⟨λj d h => ?_,λj d h => ?_,by rw[AX,AX];exact x.len⟩,λa h=>x.aok a (sub a h),λj d a h1 h2 => ?_,λj k d f a h1 h2 h3 h4 => ?_,x.same,by rw[AX,AX];exact x.len⟩
 .obtain⟨hj,h1⟩:=get j _ h;obtain⟨v,q,r⟩:=x.good.sh j d h1;exact⟨v,by rw[BF hj];exact q,Rep.sub sub _ r⟩
 .obtain⟨hj,h1⟩:=get j _ h;obtain⟨a,xs,ds,q,z,ha,hh,rr⟩:=x.good.ow j d h1;exact⟨a,xs,ds,by rw[BF hj];exact q,z,.inr ⟨j,d,h,by rw[BF hj];exact q⟩,hh,Reps.sub sub _ rr⟩
 .obtain⟨hj,h1⟩:=get j _ h1;rw[BF hj]at h2;exact x.new j d a h1 h2
 .obtain⟨hj,h1⟩:=get j _ h1;obtain⟨hk,h2⟩:=get k _ h2;rw[BF hj]at h3;rw[BF hk]at h4;exact x.dis j k d f a h1 h2 h3 h4
end
noncomputable def FN(e C:Ai)(dx:An Ai)(h:Ay):Prop := ∃ o,h.get? e=Aa o/\o.cls = .ref C/\o.dict=dx /\ ∃ us,o.data = .fields us
noncomputable def Gq(X:Cx)(CL:ClA)(pI:Ad (Ai × AD))(Z:L2.St)(H:Hp)(y:Ex)(Xw:Ah->Am->Prop):Prop:=
 ∀ s' H' e T cls dx,Inv X pI Z H' s'->Av H H'->Fly e T cls dx s'.heap->H' e=Af->H' T=Af->EG X pI e->EG X pI T->DV X.K CL H' cls dx y->Xw (.ref e) s'
noncomputable def STB(X:Cx)(CL:ClA)(body:Ad AC)(f:Rho->O):Prop := ∀ Fz B pI s Z H D Y (Xw:Ah->Am->Prop),Dr (model X.prog X.w) X.A X.env Xw->Inv X pI Z H s->Sx X.K CL Fz B Y Z H ->
  (match f Y with
   |.exn y Y'=>Y'=Y->Gq X CL pI Z H y Xw
   | o=>By X.K CL Fz B (λ_ _=>AT) o D)->(∀ y Y',f Y = .exn y Y'->Y'=Y)->As (model X.prog X.w) X.A (execs body X.env) (SP X pI D) Xw s
noncomputable def Om(up:Ae->Ad Ae)(c i:Ae)(o:O)(fh:Rho->O):O:=match o with
  | .exn y Y'=>if (up y.c).contains c=Ab then (match fh (Y'.set i (Aa (.exc y.c y.fs,Ac))) with
      |.next Y'' => .next (Y''.set i Af)
      |.ret d f => .ret d f
      | _ => .bad) else .bad
  |o=>o
theorem Tv{i:Ae}{g n:Ag}{b:Aj}{Bg:Ad C7}{s1:Am}{Y':Rho}{D:Ends}{e T1:Ai}{y:Ex}(hx:X.ex=[])(hN:X.N.Nodup)(hi:X.N[i]? = Aa n)(hl:X.env.scope.names.lookup n=Aa .local)(hg:Gl X g)(hm:X.mg g=Aa (.ref C'))(hdb:(g==("__debug__" : Ag))=Ac)(xc:XcOk X.K C')(hsu:Bf X.K (.ref C) (.ref C')=Aa b)(hh : ∀ e,SSs (Cx.hot X e) CL (λ_ _=>AT) (h0::hs) fh)(I1:Inv X pI Z H' s1)(fl1:Fly e T1 (.ref C) dx s1.heap)(ae:EG X pI e)(aT1:EG X pI T1)(he:H' e=Af)(HT1:H' T1=Af)(gx:Sx X.K CL Fz B Y' Z H')(hcl:CL y.c=Aa C)(xr:DV X.K CL H' (.ref C) dx y)(p2:b=Ab->By X.K CL Fz B W (hdO i y Y' fh) D)(p3:b=Ac->As (model X.prog X.w) X.A (Gc (.ref e) X.env Bg) (SP X pI D) X.xe s1):As (model X.prog X.w) X.A (Gc (.ref e) X.env (.ExceptHandler (Aa (.Name g p1)) (Aa n) (h0::hs) hp::Bg)) (SP X pI D) X.xe s1:=by
 obtain⟨Cx0,hcl0,ecl,hfs⟩:=xr (Bk B Y' Z) gx.aok;have xat : ∀{h:Ay}{T:Ai},Fly e T (.ref C) dx h->XAt e C h:=λ{h T} z=>by
  obtain⟨oe,_,_,_,_,z1,z2,_⟩:=z;exact⟨oe,z1,z2⟩
 have xad : ∀{h:Ay}{T:Ai},Fly e T (.ref C) dx h->FN e C dx h:=λ{h T} z=>by
  obtain⟨oe,vs,_,_,_,z1,z2,z3,_,z4,_⟩:=z;exact⟨oe,z1,z2,z3,vs,z4⟩
 have two : ∀{T:Ai}{Z_:Ai->Prop},Z_ e->Z_ T -> ∀ b∈[e,T],Z_ b:=λ{T Z_} h1 h2 b hb=>by
  rcases AR.mp hb with rfl|hb
  .exact h1
  .rw[Bn.mp hb];exact h2
 refine wpAny_handleBy_cons (codeAny_handlers_test (Gk (X:=Cx.hot X e) (MD I1 e) hg hm ?_ hdb)) (by intro q;cases q)
 refine RX (K:=X.K) I1.kIn (xat fl1) xc hsu ?_;cases b with
 |false=>exact p3 rfl
 |true=>
 have p2:=p2 rfl;refine codeAny_handlers_suite_as ?_;refine Q8 (base:=X.base) (l:=X.stack) I1.stack fl1 λh3 T3 fl3 sh3 hT3 => ?_
 have I3:=LV I1 hx sh3 (two ae aT1) (two (Z_:=λb=>H' b=Af) he HT1)
 obtain⟨oe,oeg,oec⟩:=xad fl3;have I3':=Rj (φ:=FN e C dx) I3 hx ae he ⟨oe,oeg⟩ ⟨oe,oeg,oec⟩ λh1 h2 ⟨o,q1,q2⟩ k=>⟨o,k o q1,q2⟩
 have sm3:Av H' (upd H' e (.ext (FN e C dx))):=λb o q=>by rw[Bb λz=>by rw[z,he]at q;cases q];exact q
 refine JC (X:=Cx.hot X e) (i:=i) (v := .ref e) (MD I3' e) hN hi (.inl hl) rfl (λs4 I4 => ?_) (.inr hl)
 have x3:=gx.grow sm3;have nA : ¬ Bk B Y' Z e:=λz=>by
  obtain⟨xs,q⟩:=x3.aok e z;rw[Dt]at q;cases q
 have rp:Rep X.K CL (upd H' e (.ext (FN e C dx))) (Bk B Y' Z) (.ref e) (.exc y.c y.fs):=by
  refine⟨e,C,FN e C dx,rfl,nA,hcl,Dt,λh ⟨o,z1,z2,_⟩=>⟨o,z1,z2⟩,?_⟩
  rcases hfs with z|⟨d,vs,ed,nd,hd,rf⟩
  .exact .inl z
  .exact .inr ⟨d,vs,nd,sm3 _ _ hd,Repf.kp (Kp.of sm3) _ rf,λh ⟨o,z1,_,z3,z4⟩=>⟨o,z1,z3.trans ed,z4⟩⟩
 have x4:=x3.set i rp;have fin : ∀{s5:Am}{Z5:L2.St}{H5:Hp}{Q:Dd->Am->Prop},Inv (Cx.hot X e) pI Z5 H5 s5->(∀ s6,Inv X pI (Z5.set i Af) H5 s6->Q () s6)->As (model X.prog X.w) X.A (do bindName X.env n .none;unbindBehindTheSuite X.env n hp) Q X.xe s5:=λ{s5 Z5 H5 Q} I5 k=>by
  have I5':=R9 I1.ok I5;obtain⟨m,hn,_⟩:=id I5'.loc;refine wpAny_nameGoes_keeps hl hn (by rw[I1.ok.kind];rfl) λh6 v6 hn6 sb6 => ?_
  exact k _ (Ri I5' hN hi hn hn6 sb6)
 refine AZ (hh e Fz B pI s4 _ _ {nx:=λZ5 H5=>D.nx (Z5.set i Af) H5,rt:=D.rt} I4 ⟨_,x4,?_⟩) (λf s5 hf => ?_) λ_ _ z=>A5 z
 .unfold hdO at p2;cases ef:fh (Y'.set i (Aa (.exc y.c y.fs,Ac))) with
  |next Y''=>rw[ef]at p2;exact λZ5 H5 x5=>p2 _ _ (x5.unset i)
  |ret d b=>rw[ef]at p2;exact p2
  |brk _=>rw[ef]at p2;exact p2.elim
  |cont _=>rw[ef]at p2;exact p2.elim
  |exn _ _=>rw[ef]at p2;exact p2.elim
  |bad=>rw[ef]at p2;exact p2.elim
 .cases f with
  |next=>
   obtain⟨Z5,H5,I5,q⟩:=hf;exact fin I5 λs6 I6=>⟨_,H5,I6,q⟩
  |ret u=>
   obtain⟨v,Z5,H5,I5,r,q⟩:=hf;exact fin I5 λs6 I6=>⟨v,_,H5,I6,r,q⟩
  |brk=>obtain⟨_,_,_,q⟩:=hf;exact A5 q
  |cont=>obtain⟨_,_,_,q⟩:=hf;exact A5 q
noncomputable def Ow(X:Cx)(CL:ClA)(up:Ae->Ad Ae)(g:Ag)(c:Ae):Prop := ∃ C',Gl X g/\X.mg g=Aa (.ref C')/\(g==("__debug__" : Ag))=Ac/\XcOk X.K C' /\ ∀ c' C,CL c'=Aa C->Bf X.K (.ref C) (.ref C')=Aa ((up c').contains c)
theorem RZ{y:Ex}{Q:Flow->Am->Prop}{hd:Ad C7}(hx:X.ex=[])(hst:X.stack=X.env::X.outer)(hfm:X.env.frame=Aa X.env.locals)(k : ∀ e T1 cls dx H' s1,Inv X pI Z H' s1->Av H H'->Fly e T1 cls dx s1.heap->EG X pI e->EG X pI T1->H' e=Af->H' T1=Af->DV X.K CL H' cls dx y->As (model X.prog X.w) X.A (Gc (.ref e) X.env hd) Q X.xe s1):Gq X CL pI Z H y (λev s1=>As (model X.prog X.w) X.A (Eu ev X.env) (λ_ s2=>As (model X.prog X.w) X.A (Ff ev Af) (λ_ s3=>As (model X.prog X.w) X.A (Gc ev X.env hd) Q X.xe s3) X.xe s2) X.xe s1):=by
 intro s' H' e T cls dx I' sm fl he hT ae aT xr;have two : ∀{T:Ai}{Z_:Ai->Prop},Z_ e->Z_ T -> ∀ b∈[e,T],Z_ b:=λ{T Z_} h1 h2 b hb=>by
  rcases AR.mp hb with rfl|hb
  .exact h1
  .rw[Bn.mp hb];exact h2
 have hfr:X.A.frames=Aa (X.env::X.outer):=by rw[<-hst];exact I'.ok.frames
 refine Si (base:=X.base) hfr hfm (by rw[<-hst];exact I'.stack) fl λh1 T1 fl1 sh1 hT1 => ?_
 rw[<-hst]at sh1;exact k e T1 cls dx H' _ (LV I' hx sh1 (two ae aT) (two (Z_:=λb=>H' b=Af) he hT)) sm fl1 ae (hT1.elim (λz=>z ▸ aT) λz=>Hk I' hx z) he (hT1.elim (λz=>z ▸ hT) λz=>GN I'.hok z) xr
theorem Vr{c i:Ae}{g n:Ag}{body:Ad AC}{fb:Rho->O}(hx:X.ex=[])(hst:X.stack=X.env::X.outer)(hfm:X.env.frame=Aa X.env.locals)(hN:X.N.Nodup)(hi:X.N[i]? = Aa n)(hl:X.env.scope.names.lookup n=Aa .local)(h1:Ow X CL up g c)(hb:STB X CL body fb)(hρ : ∀ Y y Y',fb Y = .exn y Y'->Y'=Y)(hh : ∀ e,SSs (Cx.hot X e) CL (λ_ _=>AT) (h0::hs) fh):SS X CL W (.Try body [.ExceptHandler (Aa (.Name g p1)) (Aa n) (h0::hs) hp] [] [] pos) (λY=>Om up c i (fb Y) fh):=λFz B pI s Z H D I ⟨Y,x,p⟩=>by
 refine wpAny_Try_except (AZ (hb Fz B pI s Z H D Y _ PassesOwn.looking I x ?_ (hρ Y)) (λf s1 hf => ?_) λ_ _ z=>z)
 .dsimp only at p;cases eb:fb Y with
  |exn y Y'=>
   rw[eb]at p;intro e0;subst e0;have p2:By X.K CL Fz B W (if (up y.c).contains c=Ab then hdO i y Y' fh else .bad) D:=p
   refine RZ hx hst hfm λe T1 cls dx H' s1 I1 sm fl1 ae aT1 he HT1 xr => ?_
   have gx:=x.grow sm;obtain⟨C,hcl,rfl,_⟩:=xr (Bk B Y' Z) gx.aok;obtain⟨C',hg,hm,hdb,xc,hup⟩:=h1;refine Tv (W:=W) hx hN hi hl hg hm hdb xc (hup y.c C hcl) hh I1 fl1 ae aT1 he HT1 gx hcl xr (λhc => ?_) (λhc => ?_)
   .rw[AY hc]at p2;exact p2
   .rw[A8 (by rw[hc];exact Ap)]at p2;exact p2.elim
  |next Y'=>rw[eb]at p;exact p
  |ret d b=>rw[eb]at p;exact p
  |brk Y'=>rw[eb]at p;exact p
  |cont Y'=>rw[eb]at p;exact p
  |bad=>rw[eb]at p;exact p.elim
 .cases f with
  |next=>exact Dl hf
  |ret u=>exact hf
  |brk=>exact hf
  |cont=>exact hf
theorem Mh{f:Ai}{sp:Sp}{E:XK}{e:Ak}{es:Ad Ak}{t:TA}(F:FnOk X.prog X.w X.K X.mg X.base CX k f fd ps sp)(hr:Room k X.A)(hg:Gl X x)(hm:X.mg x=Aa (.ref f))(hk:BB X.K (.ref f)=Ab)(hb:Ed X.K fd ps [])(hx : ∀ pI H s e s',Inv X pI Z0 H s->CX X.stack H s E e s'->X.xe e s')(ha:PA X (e::es) t)(hdb:(x==("__debug__" : Ag))=Ac)(he:Aq (e::es) X.env=(Ac,eval e X.env)::Aq es X.env)(hpl:(Bv pos (Aq es X.env)).any (·.1)=Ac):PE X (.Call (.Name x p) (e::es) [] pos) (λZ H Q=>Z=Z0/\t Z H λvs H1=>sp vs H1 Q E):=by
 intro pI s Z H Q I ⟨e0,h⟩;subst e0;refine Ds (Gk I hg hm ?_ hdb);refine Qn (h₀:=X.base) I.ok.mod.kin hk (thn (ha pos pI s Z H _ I h) λus s1 ⟨vs,H1,I1,r,q⟩=>⟨I1.kIn,?_⟩) he hpl
 have hl:us.length=ps.length:=by rw[<-r.length];exact F.len _ _ _ _ q
 have hb':Ei s1 fd ⟨us,[]⟩ (ps.zip us):=by
  have:=hb s1 us I1.kIn (by rw[B0];exact hl)
  rw[B0]at this;exact this
 refine EK (Ea (F.run X.A X.stack s1 H1 ⟨us,[]⟩ us vs Q E hr I1.env0 hb' r q) λr s' hq => ?_)
 cases r with
 |error e=>exact hx pI H1 s1 e s' I1 hq
 |ok fl=>
  cases fl with
  |ret u=>exact I1.after hq
  |next=>exact A5 hq
  |brk=>exact A5 hq
  |cont=>exact A5 hq
noncomputable def KD(K:Fg)(CL:ClA)(Rp:Hp->V->D->Prop)(E0:XK)(H:Hp)(r:R D)(Q:VK):Prop:=match r with
  |.ok d => ∀ v H',Av H H'->Rp H' v d->Q v H'
  |.exn y => ∀ cls dx H',Av H H'->DV K CL H' cls dx y->E0 cls dx H'
  |.bad=>AT
theorem HY{k n:Ae}{fr:Aj}{f:Ai}{F:Ad D->R D}{e:Ak}{es:Ad Ak}{fs ft:Rho->R (Ad D)}{sh:Rho->Aj}{E0:XK}(G:FnOk X.prog X.w X.K X.mg X.base CX k f fd ps (spD X.K CL n fr F))(hr:Room k X.A)(hg:Gl X x)(hm:X.mg x=Aa (.ref f))(hk:BB X.K (.ref f)=Ab)(hb:Ed X.K fd ps [])(hx : ∀ pI H s e s',Inv X pI Z0 H s->CX X.stack H s E0 e s'->X.xe e s')(ha:SA X CL (λ_ _=>AT) (e::es) fs)(hat:SAT X CL (λ_ _=>AT) (e::es) ft)(hst : ∀ Y,sh Y=Ab->ft Y=fs Y)(hn : ∀ Y ds,ft Y = .ok ds->ds.length=n)(hnx : ∀ Y y,ft Y ≠ .exn y)(hdb:(x==("__debug__" : Ag))=Ac)(he:Aq (e::es) X.env=(Ac,eval e X.env)::Aq es X.env)(hpl : ∀ pos,(Bv pos (Aq es X.env)).any (·.1)=Ac)(A:Ai->Prop):PE X (.Call (.Name x p) (e::es) [] pos) (λZ H Q=>Z=Z0/\AOk H A/\∃ Y,Good X.K CL A Y Z H/\KD X.K CL (CK X.K CL fr H A) E0 H ((ft Y).bind λds=>(F ds).bind λd=>if sh Y=Ab then .ok d else if Em fr d=Ab then .ok d else .bad) Q):=λpI s Z H Q I ⟨e0,hA,Y,gd,q⟩=>by
 by_cases hs:sh Y=Ab
 .rw[hst Y hs]at q;refine Mh G hr hg hm hk hb hx (ha A) hdb he (hpl _) pI s Z H Q I ⟨e0,hA,Y,gd,?_⟩;cases e1:fs Y with
  |bad=>rw[e1]at q;exact q
  |exn y=>exact absurd (by rw[hst Y hs];exact e1) (hnx Y y)
  |ok ds=>
   rw[e1]at q;intro vs H1 s1 r1;refine⟨ds,A,by rw[r1.length];exact hn Y ds (by rw[hst Y hs];exact e1),hA.same s1,r1,?_⟩
   have q':KD X.K CL (CK X.K CL fr H A) E0 H ((F ds).bind λd=>if sh Y=Ab then .ok d else if Em fr d=Ab then .ok d else .bad) Q:=q
   cases e2:F ds with
   |ok d=>
    rw[e2,R.bind_ok,AY hs]at q';exact λv H2 s2 r2=>q' v H2 (s1.trans s2) ⟨r2.1,λz ds' e'=>let ⟨a,xs,z1,z2,z3⟩:=r2.2 z ds' e';⟨a,xs,z1,s1.free z2,z3⟩⟩
   |exn y=>
    rw[e2]at q';exact λcls dx H2 s2 xr=>q' cls dx H2 (s1.trans s2) xr
   |bad=>rw[e2]at q';exact q'.elim
 .refine Mh G hr hg hm hk hb hx (hat A) hdb he (hpl _) pI s Z H Q I ⟨e0,hA,Y,gd,?_⟩;cases e1:ft Y with
  |bad=>rw[e1]at q;exact q
  |exn y=>exact absurd e1 (hnx Y y)
  |ok ds=>
   rw[e1]at q;intro vs H1 s1 r1;refine⟨ds,A0,by rw[r1.plain.length];exact hn Y ds e1,λ_ z=>z.elim,r1.plain,?_⟩
   have q':KD X.K CL (CK X.K CL fr H A) E0 H ((F ds).bind λd=>if sh Y=Ab then .ok d else if Em fr d=Ab then .ok d else .bad) Q:=q
   cases e2:F ds with
   |ok d=>
    rw[e2,R.bind_ok,A8 hs]at q';split at q'
    .rename_i hc;exact λv H2 s2 r2=>q' v H2 (s1.trans s2) (No hA (s1.trans s2) hc ⟨r2.1,λz ds' e'=>let ⟨a,xs,z1,z2,z3⟩:=r2.2 z ds' e';⟨a,xs,z1,s1.free z2,z3⟩⟩)
    .exact q'.elim
   |exn y=>
    rw[e2]at q';exact λcls dx H2 s2 xr=>q' cls dx H2 (s1.trans s2) xr
   |bad=>rw[e2]at q';exact q'.elim
noncomputable def Cx.pw(X:Cx)(pI:Ad (Ai × AD))(Xw:Ah->Am->Prop):Cx := {X with pn:=X.pn++pI,xe:=Xw}
section
variable{X:Cx}{pI pins':Ad (Ai × AD)}{Z:L2.St}{H:Hp}{s:Am}{Xw:Ah->Am->Prop}
theorem XC(ok:X.Ok):(Cx.pw X pI Xw).Ok:=⟨ok.mod,ok.kind,ok.glob,ok.blt,ok.above,ok.inj,ok.has,ok.cab,ok.hd,ok.frames,ok.stk,ok.exf,ok.bs,ok.bsz,ok.noex,ok.exfs,ok.funs,ok.frf⟩
theorem Hw(I:Inv X pI Z H s)(Xw:Ah->Am->Prop):Inv (Cx.pw X pI Xw) [] Z H s:=⟨XC I.ok,I.os,I.bare,I.base,I.loc,I.cell,I.free,I.freeC,λp hp=>I.pin p (by
 rcases Fa.mp hp with z|z
 .exact z
 .exact absurd z (by simp)),I.hok,I.len⟩
theorem GM(ok:X.Ok)(I:Inv (Cx.pw X pI Xw) pins' Z H s):Inv X pI Z H s:=⟨ok,I.os,I.bare,I.base,I.loc,I.cell,I.free,I.freeC,λp hp=>I.pin p (D5 _ hp),I.hok,I.len⟩
theorem Ih(ok:X.Ok){D:Ends}{f:Flow}{s':Am}(h:SP (Cx.pw X pI Xw) pins' D f s'):SP X pI D f s':=by
 cases f with
 |next=>obtain⟨Z',H',I,q⟩:=h;exact⟨Z',H',GM ok I,q⟩
 |brk=>obtain⟨Z',H',I,q⟩:=h;exact⟨Z',H',GM ok I,q⟩
 |cont=>obtain⟨Z',H',I,q⟩:=h;exact⟨Z',H',GM ok I,q⟩
 |ret u=>obtain⟨v,Z',H',I,r,q⟩:=h;exact⟨v,Z',H',GM ok I,r,q⟩
end
section
variable{X:Cx}{CL:ClA}{k n:Ae}{fr:Aj}{f:Ai}{fd:Bl}{ps:Ad Ag}{F:Ad D->R D}{x:Ag}{p pos pos2:Az}{e:Ak}{es:Ad Ak}{fs ft:Rho->R (Ad D)}{sh:Rho->Aj}
theorem L4{y:Ex}(hx:X.ex=[])(ok:X.Ok)(q:Gq X CL pI Z H y Xw):∀ pins' H1 s1 e s',Inv (Cx.pw X pI Xw) pins' Z H1 s1->CXR X.prog X.w (Cx.pw X pI Xw).stack H1 s1 (λcls dx H'=>DV X.K CL H' cls dx y/\Av H H') e s'->(Cx.pw X pI Xw).xe e s':=by
 intro pins' H1 s1 ev s' J h;obtain⟨e,T,cls,dx,H',rfl,os,bare,un,hok,fl,he,hT,ne,nT,xr,sm⟩:=h;have J':=GM ok J;have J2:=J'.call' (s':=s') (ch:=[]) os un hok bare (λb z=>absurd z (by simp))
 exact q s' H' e T cls dx J2 sm fl he hT (Hk J' hx ne) (Hk J' hx nT) xr
theorem L5:∀ pins' H1 s1 e s',Inv (Cx.pw X pI Xw) pins' Z H1 s1->CXR X.prog X.w (Cx.pw X pI Xw).stack H1 s1 (λ_ _ _=>AT) e s'->(Cx.pw X pI Xw).xe e s':=by
 intro pins' H1 s1 ev s' J h;obtain⟨e,T,cls,dx,H',rfl,os,bare,un,hok,fl,he,hT,ne,nT,w⟩:=h;exact w.elim
variable(hx0:X.ex=[])(G:FnOk X.prog X.w X.K X.mg X.base (CXR X.prog X.w) k f fd ps (spD X.K CL n fr F))(hr:Room k X.A)(hg:Gl X x)(hm:X.mg x=Aa (.ref f))
    (hk:BB X.K (.ref f)=Ab) (hb:Ed X.K fd ps []) (hst : ∀ Y,sh Y=Ab->ft Y=fs Y) (hn : ∀ Y ds,ft Y = .ok ds->ds.length=n) (hnx : ∀ Y y,ft Y ≠ .exn y)
    (hdb:(x==("__debug__" : Ag))=Ac) (he:Aq (e::es) X.env=(Ac,eval e X.env)::Aq es X.env) (hpl : ∀ pos,(Bv pos (Aq es X.env)).any (·.1)=Ac)
    (ha : ∀ pI Xw,Dr (model X.prog X.w) X.A X.env Xw->SA (Cx.pw X pI Xw) CL (λ_ _=>AT) (e::es) fs/\SAT (Cx.pw X pI Xw) CL (λ_ _=>AT) (e::es) ft)
include hx0 G hr hg hm hk hb hst hn hnx hdb he hpl ha
theorem Rw(hs:Ch (.Call (.Name x p) (e::es) [] pos) Af pos2.line X.env=pure Ac):STB X CL [.Expr (.Call (.Name x p) (e::es) [] pos) pos2] (λY=>O.of Y ((ft Y).bind λds=>(F ds).bind λd=>if sh Y=Ab then .ok d else if Em fr d=Ab then .ok d else .bad) λ_ => .next Y):=by
 intro Fz B pI s Z H D Y Xw own I sx q _;obtain⟨ha1,ha2⟩:=ha pI Xw own;dsimp only at q;cases er:(ft Y).bind λds=>(F ds).bind λd=>if sh Y=Ab then .ok d else if Em fr d=Ab then .ok d else .bad with
 |bad=>rw[er]at q;exact q.elim
 |exn y=>
  rw[er]at q;have key:=HY (X:=Cx.pw X pI Xw) (p:=p) (pos:=pos) (Z0:=Z) (fr:=fr) (F:=F) (n:=n) (sh:=sh) G hr hg hm hk hb (L4 hx0 I.ok (q rfl)) ha1 ha2 hst hn hnx hdb he hpl (Bk B Y Z);refine AZ (Ho (Hq (pos:=pos2) key hs) [] s Z H D (Hw I Xw) ⟨rfl,sx.aok,Y,sx.good,?_⟩) (λ_ _ z=>Ih I.ok z) λ_ _ z=>z
  rw[er];exact λcls dx H' sm xr=>⟨xr,sm⟩
 |ok d=>
  rw[er]at q;have key:=HY (X:=Cx.pw X pI Xw) (p:=p) (pos:=pos) (Z0:=Z) (fr:=fr) (F:=F) (n:=n) (sh:=sh) (E0:=λ_ _ _=>AT) G hr hg hm hk hb L5 ha1 ha2 hst hn hnx hdb he hpl (Bk B Y Z)
  refine AZ (Ho (Hq (pos:=pos2) key hs) [] s Z H D (Hw I Xw) ⟨rfl,sx.aok,Y,sx.good,?_⟩) (λ_ _ z=>Ih I.ok z) λ_ _ z=>z
  rw[er];exact λv H' sm r=>q Z H' (sx.grow sm)
theorem S1{i:Ae}{m:Ag}(hN:X.N.Nodup)(hi:X.N[i]? = Aa m)(hl:Loc X.env.scope m)(hf:X.fn m=Ab\/X.env.scope.names.lookup m=Aa .local)(hs:Ch (.Call (.Name x p) (e::es) [] pos) (Aa (.Name m pos')) pos2.line X.env=pure Ac):STB X CL [.Assign [.Name m pos'] (.Call (.Name x p) (e::es) [] pos) pos2] (λY=>O.of Y ((ft Y).bind λds=>(F ds).bind λd=>if sh Y=Ab then .ok d else if Em fr d=Ab then .ok d else .bad) λd => .next (Y.set i (Aa (d,Ac)))):=by
 intro Fz B pI s Z H D Y Xw own I sx q _;obtain⟨ha1,ha2⟩:=ha pI Xw own;dsimp only at q;cases er:(ft Y).bind λds=>(F ds).bind λd=>if sh Y=Ab then .ok d else if Em fr d=Ab then .ok d else .bad with
 |bad=>rw[er]at q;exact q.elim
 |exn y=>
  rw[er]at q;have key:=HY (X:=Cx.pw X pI Xw) (p:=p) (pos:=pos) (Z0:=Z) (fr:=fr) (F:=F) (n:=n) (sh:=sh) G hr hg hm hk hb (L4 hx0 I.ok (q rfl)) ha1 ha2 hst hn hnx hdb he hpl (Bk B Y Z);refine AZ (Ho (Ip (X:=Cx.pw X pI Xw) (i:=i) (pos:=pos2) hN hi hl key hs hf) [] s Z H D (Hw I Xw) ⟨rfl,sx.aok,Y,sx.good,?_⟩) (λ_ _ z=>Ih I.ok z) λ_ _ z=>z
  rw[er];exact λcls dx H' sm xr=>⟨xr,sm⟩
 |ok d=>
  rw[er]at q;have key:=HY (X:=Cx.pw X pI Xw) (p:=p) (pos:=pos) (Z0:=Z) (fr:=fr) (F:=F) (n:=n) (sh:=sh) (E0:=λ_ _ _=>AT) G hr hg hm hk hb L5 ha1 ha2 hst hn hnx hdb he hpl (Bk B Y Z)
  refine AZ (Ho (Ip (X:=Cx.pw X pI Xw) (i:=i) (pos:=pos2) hN hi hl key hs hf) [] s Z H D (Hw I Xw) ⟨rfl,sx.aok,Y,sx.good,?_⟩) (λ_ _ z=>Ih I.ok z) λ_ _ z=>z
  rw[er];exact λv H' sm r=>q _ H' ((sx.grow sm).set i r.1)
end
section
variable{X:Cx}{CL:ClA}{W:XW}
theorem Rx{e:Ak}{es:Ad Ak}(hcalm:X.calm=Ab)(rz:HK X CL W)(hg:Gl X g)(hm:X.mg g=Aa (.ref C))(hdb:(g==("__debug__" : Ag))=Ac)(xc:Ci X.K C Af=Ab)(hcl:CL c=Aa C)(ha:SA X CL W (e::es) fs)(hxn : ∀ ds,xn c ds = .bad\/xn c ds = .ok ⟨c,[]⟩)(he:Aq (e::es) X.env=(Ac,eval e X.env)::Aq es X.env)(hpl : ∀ pos,(Bv pos (Aq es X.env)).any (·.1)=Ac)(hz : ∀ Y ds,fs Y = .ok ds->ds.length<=100000):SS X CL W (.Raise (Aa (.Call (.Name g np) (e::es) [] cpos)) Af pos) (λY=>O.of Y (noX (fs Y)) λxs=>O.of Y (xn c xs) λx =>.exn x Y):=λFz B pI s Z H D I ⟨Y,x,p⟩=>by
 dsimp only at p;cases e1:fs Y with
 |bad=>rw[e1]at p;exact p.elim
 |exn y=>rw[e1]at p;exact p.elim
 |ok ds=>
  rw[e1]at p;have p2:By X.K CL Fz B W (O.of Y (xn c ds) λx => .exn x Y) D:=p
  rcases hxn ds with e2|e2
  .rw[e2]at p2;exact p2.elim
  .rw[e2]at p2;have p3 : ∀ H,(∀ b o,Fz b o->H b=Aa o)->W ⟨c,[]⟩ H:=p2;obtain⟨bm,N,nm,qn,bs,hd,sn,sub,ab,col,dd,k0,k1,k2,k3,k5,mN,hob,hni,hbase⟩:=JB I.kIn xc;refine wpAny_Raise_call_subT (bmB:=veB) (nm:=nm) (q:=qn) (C:=C) (N:=N) (bs:=bs) (bm:=bm) (hdct:=hd) (sn:=sn) (sub:=sub) (ab:=ab) (col:=col) (dd:=dd) (k0:=k0) (k1:=k1) (k2:=k2) (k3:=k3) (k5:=k5) (mN:=mN) C8 hbase (I.ok.hd hcalm) (by rw[he];show (Ac||(Bv cpos (Aq es X.env)).any (·.1))=Ac;rw[hpl];rfl) hni ?_
   refine Gk I hg hm ⟨rfl,?_⟩ hdb;have q1:=ha (Bk B Y Z) cpos pI s Z H (λvs H1=>Av H H1/\vs.length=ds.length) I ⟨x.aok,Y,x.good,by rw[e1];exact λvs H1 s1 r1=>⟨s1,r1.length⟩⟩
   rw[he]at q1 ⊢;refine C2 (AZ q1 (λus s2 ⟨vs,H2,I2,r2,s2',hl⟩=>⟨rfl,?_⟩) λ_ _ z=>z)
   obtain⟨o1,o2,o3⟩:=hob _ I2.kIn;refine⟨?_,o1,o2,o3,λh' ev hmade => ?_⟩
   .rw[<-r2.length,hl,Cc];have:=hz Y ds e1;omega
   .obtain⟨t,ge,_⟩:=hmade.there;have I3:Inv X pI Z H2 {s2 with heap:=h'}:=I2.kept (t':=s2.toks) hmade.keeps
    exact rz pI Z H2 _ ev C Af t ⟨c,[]⟩ I3 (λhx=>Gg I2 hx hmade.new) (GN I2.hok hmade.new) ge (λA _=>⟨C,hcl,rfl,.inl rfl⟩) (p3 H2 λb o z=>s2' _ _ (x.same b o z))
noncomputable def Ht(K:Fg)(CL:ClA)(up:Ae->Ad Ae)(c':Ae)(C':Ai):Prop := ∀ c C,CL c=Aa C->BV K (.ref C) (.ref C')=Aa ((up c).contains c')
theorem Mp{s:Am}{a C:Ai}{cv:Ah}{b:Aj}{Q:VK}(I:Inv X pI Z H s)(ha:H a=Aa (.ext φ))(hφ : ∀ h,φ h -> ∃ o,h.get? a=Aa o/\o.cls = .ref C)(xc:XcOk X.K C)(e:BV X.K (.ref C) cv=Aa b)(q:Q (.bl b) H):
  As (model X.prog X.w) X.A (call (.builtin "isinstance") [.ref a,cv]) (EP X pI Z Q) X.xe s:=by
 have p:XAt a C s.heap:=hφ _ (I.hok a _ ha).1;exact PySem.W.kia_one (Mo xc) I.kIn p e (by intro z;cases z) λtk=>⟨.bl b,H,I.tok tk,rfl,q⟩
theorem LK : ∀(Cs:Ad Ai){its:Ad Ah},AS (Cs.map V.ref) its->its=Cs.map BG
 |[],_,rv=>by cases rv;rfl
 |c::cs,_,rv=>by
  cases rv with
  |cons h1 h2=>rw[LK cs h2];cases h1;rfl
theorem Tr{s:Am}{a C tp:Ai}{Cs:Ad Ai}{b:Aj}{Q:VK}(I:Inv X pI Z H s)(ha:H a=Aa (.ext φ))(hφ : ∀ h,φ h -> ∃ o,h.get? a=Aa o/\o.cls = .ref C)(xc:XcOk X.K C)(ht:H tp=Aa (.tup (Cs.map V.ref)))(e:Fu X.K (.ref C) (Cs.map BG)=Aa b)(q:Q (.bl b) H):
  As (model X.prog X.w) X.A (call (.builtin "isinstance") [.ref a,.ref tp]) (EP X pI Z Q) X.xe s:=by
 have p:XAt a C s.heap:=hφ _ (I.hok a _ ha).1;obtain⟨_,its,rv,⟨o,ho,hc,n,hd⟩⟩:=I.hok tp _ ht;have ei:its=Cs.map BG:=LK Cs rv;subst ei;obtain⟨cls,dd,dat,sl⟩:=o;have hc':cls = .type "tuple" := hc;have hd':dat = .seq (Dp (Cs.map BG)) n:=hd;subst hc' hd';exact PySem.W.kia_tup (Mo xc) I.kIn p ho e (by intro z;cases z) λtk=>⟨.bl b,H,I.tok tk,rfl,q⟩
theorem MB{K:Fg}{up:Ae->Ad Ae}{c:Ae}{C:Ai}(h:CL c=Aa C) : ∀(cs:Ad (Ae × Ai)),(∀ p∈cs,Ht K CL up p.1 p.2)->Fu K (.ref C) ((cs.map λq:Ae × Ai=>q.2).map BG)=Aa (cs.any λp=>(up c).contains p.1)
  |[],_=>rfl
  |p::cs,hk=>by
    have h1:=hk p AU c C h;have h2:=MB h cs λq hq=>hk q (AG _ hq)
    show (match BV K (.ref C) (.ref p.2) with
      |some Ab=>Aa Ab
      |some Ac=>Fu K (.ref C) ((cs.map λq:Ae × Ai=>q.2).map BG)
      | none=>Af)=_
    rw[h1,OO];cases (up c).contains p.1 with
    |true=>rfl
    |false=>rw[h2];rfl
theorem Jz{ks:Ad Ki}{Rp:Hp->V->D->Prop}{Q:VK}(hk:ks.all CJ=Ab)(hne:ks≠[])(p:A3 Rp W H (CI up ks d) Q) : ∃ c fs,d = .exc c fs/\A3 Rp W H (.ok (.bl (ks.any λk=>kiD up k d))) Q:=by
 have ha:ks.any CJ=Ab:=by
  cases ks with
  |nil=>exact absurd rfl hne
  |cons k ks=>simp only[DL,Al]at hk;simp[OO,hk.1]
 cases d with
 | exc c fs=>exact⟨c,fs,rfl,by
   have p':A3 Rp W H (if ks.all CJ=Ab then .ok (.bl (ks.any λk=>kiD up k (.exc c fs))) else .bad) Q:=p
   rw[AY hk]at p';exact p'⟩
 |obj c fs=>exact A5 p
 |dic _=>exact A5 p
 |non=>simp only[CI,ha,EQ]at p;exact A5 p
 |bl _=>simp only[CI,ha,EQ]at p;exact A5 p
 |int _=>simp only[CI,ha,EQ]at p;exact A5 p
 |str _=>simp only[CI,ha,EQ]at p;exact A5 p
 |tup _=>simp only[CI,ha,EQ]at p;exact A5 p
 |lst _=>simp only[CI,ha,EQ]at p;exact A5 p
theorem J3{v:V}{fs:Ad (Ag × D)}(r:BZ K CL H A v (.exc c fs)) : ∃ a C φ,v = .ref a/\CL c=Aa C/\H a=Aa (.ext φ) /\ ∀ h,φ h -> ∃ o,h.get? a=Aa o/\o.cls = .ref C:=by
 rcases r with ⟨a,C,φ,e,_,hc,hH,hφ,_⟩|⟨a,xs,ds,_,z,_⟩
 .exact⟨a,C,φ,e,hc,hH,hφ⟩
 .cases z
variable{a:Ak}{fa:Rho->R D}{up:Ae->Ad Ae}{x:Ag}{p p2 pos:Az}
theorem Nb{c':Ae}(hxc : ∀ c C,CL c=Aa C->XcOk X.K C)(hg:Gl X "isinstance")(hm:X.mg "isinstance" = Af)(hg2:Gl X x)(hm2:X.mg x=Aa (.ref C'))(hkit:Ht X.K CL up c' C')(hdb:(x==("__debug__" : Ag))=Ac)(ha:ST X CL W a fa)(he:Aq [a,.Name x p2] X.env=(Ac,eval a X.env)::Aq [.Name x p2] X.env):SE X CL W (.Call (.Name "isinstance" p) [a,.Name x p2] [] pos) (λY=>(fa Y).bind λx=>CI up [.cls c'] x):=λA=>
 PE.weak (Hn (r:=λxs H Q => ∃ a C φ c,xs=[.ref a,.ref C']/\CL c=Aa C/\H a=Aa (.ext φ)/\(∀ h,φ h -> ∃ o,h.get? a=Aa o/\o.cls = .ref C)/\Q (.bl ((up c).contains c')) H) (λpI s Z H xs us Q I r ⟨b,C,φ,c,e,hc,hH,hφ,q⟩=>by
   subst e;obtain⟨u,w',rfl,r1,r2⟩:=HC r;cases r1;cases r2;exact Mp I hH hφ (hxc c C hc) (hkit c C hc) q)
  hg hm D8 (Du (ha A) (Du (Ms (v := .ref C') hg2 hm2 rfl hdb) E2 rfl) he) (by decide) (by decide) he rfl) λZ H Q ⟨hA,Y,g,q⟩=>⟨hA,Y,g,A3.bind q λd v H1 _ s1 r1 p1=>by
   obtain⟨c,fs,rfl,p2⟩:=Jz (by rfl) (by simp) p1
   obtain⟨b,C,φ,rfl,hc,hH,hφ⟩:=J3 r1;refine⟨b,C,φ,c,rfl,hc,hH,hφ,p2 _ H1 (Av.refl H1) ?_⟩;exact congrArg V.bl (C5 _).symm⟩
theorem Na(hxc : ∀ c C,CL c=Aa C->XcOk X.K C)(hg:Gl X "isinstance")(hm:X.mg "isinstance" = Af)(hg2:Gl X "ValueError")(hm2:X.mg "ValueError" = Af)(ha:ST X CL W a fa)(he:Aq [a,.Name "ValueError" p2] X.env=(Ac,eval a X.env)::Aq [.Name "ValueError" p2] X.env):SE X CL W (.Call (.Name "isinstance" p) [a,.Name "ValueError" p2] [] pos) (λY=>(fa Y).bind λx=>CI up [.verr] x):=λA=>
 PE.weak (Hn (r:=λxs H Q => ∃ a C φ c,xs=[.ref a,.ty "ValueError"]/\CL c=Aa C/\H a=Aa (.ext φ)/\(∀ h,φ h -> ∃ o,h.get? a=Aa o/\o.cls = .ref C)/\Q (.bl Ab) H) (λpI s Z H xs us Q I r ⟨b,C,φ,c,e,hc,hH,hφ,q⟩=>by
   subst e;obtain⟨u,w',rfl,r1,r2⟩:=HC r;cases r1;cases r2;exact Mp I hH hφ (hxc c C hc) (hxc c C hc).ve q)
  hg hm D8 (Du (ha A) (Du (Mu (v := .ty "ValueError") hg2 hm2 PyProof.Rows.Boot.«ValueError» rfl (by decide) (by decide)) E2 rfl) he) (by decide) (by decide) he rfl) λZ H Q ⟨hA,Y,g,q⟩=>⟨hA,Y,g,A3.bind q λd v H1 _ s1 r1 p1=>by
   obtain⟨c,fs,rfl,p2⟩:=Jz (by rfl) (by simp) p1
   obtain⟨b,C,φ,rfl,hc,hH,hφ⟩:=J3 r1;refine⟨b,C,φ,c,rfl,hc,hH,hφ,p2 _ H1 (Av.refl H1) ?_⟩;exact congrArg V.bl (C5 _).symm⟩
theorem UQ(up:Ae->Ad Ae)(c:Ae)(fs:Ad (Ag × D))(cs:Ad (Ae × Ai)):((cs.map λq=>Ki.cls q.1).any λk=>kiD up k (.exc c fs))=cs.any λq=>(up c).contains q.1:=List.any_map
noncomputable def Op(Cs:Ad Ai):TA:=λ_ H Q=>Q (Cs.map V.ref) H
theorem Vz{ts:Ad Ak}{cs:Ad (Ae × Ai)}(hxc : ∀ c C,CL c=Aa C->XcOk X.K C)(hg:Gl X "isinstance")(hm:X.mg "isinstance" = Af)(hts:PA X ts (Op (cs.map λq:Ae × Ai=>q.2)))(hne:cs≠[])(hl:cs.length<=1000)(hkit : ∀ q∈cs,Ht X.K CL up q.1 q.2)(ha:ST X CL W a fa)(he:Aq [a,.Tuple ts kk p2] X.env=(Ac,eval a X.env)::Aq [.Tuple ts kk p2] X.env):SE X CL W (.Call (.Name "isinstance" p) [a,.Tuple ts kk p2] [] pos) (λY=>(fa Y).bind λx=>CI up (cs.map λq => .cls q.1) x):=λA=>
 PE.weak (Hn (r:=λxs H Q => ∃ a C φ c tp,xs=[.ref a,.ref tp]/\CL c=Aa C/\H a=Aa (.ext φ)/\(∀ h,φ h -> ∃ o,h.get? a=Aa o/\o.cls = .ref C)/\H tp=Aa (.tup ((cs.map λq:Ae × Ai=>q.2).map V.ref))/\Q (.bl (cs.any λq=>(up c).contains q.1)) H) (λpI s Z H xs us Q I r ⟨b,C,φ,c,tp,e,hc,hH,hφ,ht,q⟩=>by
   subst e;obtain⟨u,w',rfl,r1,r2⟩:=HC r;cases r1;cases r2;exact Tr I hH hφ (hxc c C hc) ht (MB hc cs hkit) q)
  hg hm D8 (Du (ha A) (Du (Nh hts) E2 rfl) he) (by decide) (by decide) he rfl) λZ H Q ⟨hA,Y,g,q⟩=>⟨hA,Y,g,A3.bind q λd v H1 _ s1 r1 p1=>by
   have hk:(cs.map λq=>Ki.cls q.1).all CJ=Ab:=by simp[ON,CJ]
   obtain⟨c,fs,rfl,p2⟩:=Jz hk (by simpa using hne) p1
   obtain⟨b,C,φ,rfl,hc,hH,hφ⟩:=J3 r1;refine⟨by rw[Co,Co,Cc];omega,λt ht => ?_⟩
   have hbt:b≠t:=DF hH ht;refine⟨b,C,φ,c,t,rfl,hc,by rw[Bb hbt];exact hH,hφ,Dt,p2 _ _ (E5 ht _) ?_⟩
   exact congrArg V.bl (UQ up c fs cs).symm⟩
end
theorem Nl(q:Ci K C v=Ab) : ∃ dd cd sl bm,K.lookup C=Aa ⟨.type "type",dd,.cls cd,sl⟩/\cd.mro = .ref C::bm:=by
 unfold Ci at q;split at q
 .rename_i dd cd sl ho;split at q
  .rename_i C' bm k0 k1 k2 k3 n k5 hm hs;simp only[Al,AH,Bj]at q;obtain⟨rfl,_⟩:=q;exact⟨dd,cd,sl,bm,ho,hm⟩
  .cases q
 .cases q
theorem Ig(q:Ci K C v=Ab) : ∃ cd bm,Cg K C=Aa cd/\cd.mro = .ref C::bm:=by
 obtain⟨dd,cd,sl,bm,h1,h2⟩:=Nl q;exact⟨cd,bm,by unfold Cg;rw[h1],h2⟩
theorem VH(q:Ci K C v=Ab):Cm K (.ref C)=Aa (.type "type"):=by
 obtain⟨dd,cd,sl,bm,h1,h2⟩:=Nl q;show (K.lookup C).map _=_;rw[h1];rfl
theorem TR{v:Aj}{i i':An Ah}(q:Ci K C i=Ab)(q':Ci K C' i'=Ab)(su:Bf K (.ref C) (.ref C')=Aa v):BV K (.ref C) (.ref C')=Aa v:=by
 unfold BV;by_cases e:C=C'
 .subst e;obtain⟨cd,bm,h1,h2⟩:=Ig q;have su':BU K C (.ref C)=Aa v:=su;have:v=Ab:=by
   unfold BU at su';rw[h1,Pa,h2,A8 (by simp)]at su'
   rw[<-BD su'];simp
  rw[AY (by simp),this]
 .rw[A8 (λz=>e (FT (AH.mp z)))]
  obtain⟨cd,bm,h1,h2⟩:=Ig q';show (if ((Cg K C').isSome&&Cm K (.ref C')==Aa (.type "type"))=Ab then Bf K (.ref C) (.ref C') else Af)=_
  rw[h1,VH q',AY (by simp),su]
theorem Wk(exc:Ci K C v=Ab)(ga:Au K (.ref C) "__getattribute__" = Aa (Aa (.builtin "BaseException.__getattribute__")))(gt:Au K (.ref C) "__getattr__" = Aa Af)(cl:Au K (.ref C) "__class__" = Aa (Aa (.builtin "object.__class__")))(ob:BU K C (.type "object")=Aa Ab)(be:Bf K (.ref C) (.type "BaseException")=Aa Ab)(sv:Bf K (.ref C) (.type "ValueError")=Aa Ab):XcOk K C:=by
 obtain⟨cd,bm,h1,h2⟩:=Ig exc;refine⟨⟨v,exc⟩,ga,gt,cl,ob,be,by rw[h1];rfl,?_⟩
 unfold BV;rw[A8 (λz=>by cases AH.mp z)]
 have hm:Qs "ValueError" = Ab:=by decide+kernel
 show (if Qs "ValueError" = Ab then Bf K (.ref C) (.type "ValueError") else Af)=_
 rw[AY hm,sv]
noncomputable abbrev Jh:CXT:=λ_ _ _ _ _ _=>AT
structure HotOk (P:AE) (w:Ar) (K:Fg) (mg:Ag->An Ah) (base:Ay) (k:Ae) (f:Ai) (fd:Bl) (ps:Ad Ag) (sp:Sp):Prop where
 len : ∀ vs H Q E,sp vs H Q E->vs.length=ps.length
 run : ∀(A:AN)(ev:Ai)(outer:Ad BE)(s:Am)(H:Hp)(args:Args)(us:Ad Ah)(vs:Ad V)(Q:VK)(E:XK),Room k A->Env0 P w K mg base (A.mark (Aa (.ref ev))) outer s H->Ei s fd args (ps.zip us)->AS vs us->sp vs H Q E ->
  DB (model P w) (A.mark (Aa (.ref ev))) (.call (.ref f) args) (CR Jh outer P w H s Q E) s
theorem R6{v:Aj}{i:An Ah}(q:Ci K C i=Ab)(mr:BU K C' (.type "object")=Aa Ab)(ty:Cm K (.ref C')=Aa (.type "type"))(su:Bf K (.ref C) (.ref C')=Aa v):BV K (.ref C) (.ref C')=Aa v:=by
 unfold BV;by_cases e:C=C'
 .subst e;obtain⟨cd,bm,h1,h2⟩:=Ig q;have su':BU K C (.ref C)=Aa v:=su;have:v=Ab:=by
   unfold BU at su';rw[h1,Pa,h2,A8 (by simp)]at su'
   rw[<-BD su'];simp
  rw[AY (by simp),this]
 .rw[A8 (λz=>e (FT (AH.mp z)))]
  show (if ((Cg K C').isSome&&Cm K (.ref C')==Aa (.type "type"))=Ab then Bf K (.ref C) (.ref C') else Af)=_
  have cs:(Cg K C').isSome=Ab:=by
   unfold BU at mr;cases e1:Cg K C' with
   |none=>rw[e1]at mr;cases mr
   |some cd=>rfl
  rw[cs,ty,AY (by simp),su]
noncomputable def spH(K:Fg)(CL:ClA)(n:Ae)(fr:Aj)(F:Ad D->R D):Sp:=λvs H Q _ => ∃(ds:Ad D)(A:Ai->Prop),vs.length=n/\AOk H A/\Reps K CL H A vs ds/\(match F ds with
  |.ok d => ∀ v H',Av H H'->CK K CL fr H A H' v d->Q v H'
  |.exn _=>AT
  | .bad=>AT)
section
variable{X:Cx}{CL:ClA}{ev:Ai}
theorem S0{t:Ak}{xs ys:Ad AC}{fc:Rho->R Aj}{fx fy:Rho->O}(hc : ∀ pI Xw,Dr (model X.prog X.w) X.A X.env Xw->SB (Cx.pw X pI Xw) CL (λ_ _=>AT) t fc)(hnx : ∀ Y y,fc Y ≠ .exn y)(hx:STB X CL xs fx)(hy:STB X CL ys fy):STB X CL [.If t xs ys pos] (λY=>O.of Y (fc Y) λb=>if b=Ab then fx Y else fy Y):=by
  intro Fz B pI s Z H D Y Xw own I sx q hρ;dsimp only at q hρ;cases ec:fc Y with
  |bad=>rw[ec]at q;exact q.elim
  |exn y=>exact absurd ec (hnx Y y)
  |ok b=>
    rw[ec]at q hρ;have key:=hc pI Xw own (Bk B Y Z) [] s Z H (λb' H'=>b'=b/\Av H H') (Hw I Xw) ⟨sx.aok,Y,sx.good,by rw[ec];exact λH' sm=>⟨rfl,sm⟩⟩
    refine EZ (thn (wpAny_If (Q:=SP X pI D) (thn key λb' s1 ⟨H1,I1,e,sm⟩ => ?_)) (λf s1 z=>by
      cases f with
      |next=>exact Dl z
      |ret v=>exact z
      |brk=>exact z
      | cont=>exact z))
    subst e;have J:=GM I.ok I1;have up : ∀{y:Ex},Gq X CL pI Z H y Xw->Gq X CL pI Z H1 y Xw:=λ{y} w s' H' e T cls dx a1 a2=>w s' H' e T cls dx a1 (sm.trans a2)
    have lift : ∀{o:O},(match o with
       |.exn y Y'=>Y'=Y->Gq X CL pI Z H y Xw
       |o=>By X.K CL Fz B (λ_ _=>AT) o D)->(match o with
       |.exn y Y'=>Y'=Y->Gq X CL pI Z H1 y Xw
       | o=>By X.K CL Fz B (λ_ _=>AT) o D):=λ{o} z=>by
      cases o with
      |exn y Y'=>exact λe=>up (z e)
      |next _=>exact z
      |ret _ _=>exact z
      |brk _=>exact z
      |cont _=>exact z
      |bad=>exact z
    cases b' with
    |true=>exact hx Fz B pI s1 Z H1 D Y Xw own J (sx.grow sm) (lift q) hρ
    |false=>exact hy Fz B pI s1 Z H1 D Y Xw own J (sx.grow sm) (lift q) hρ
end
section
variable{M:Eo}{A:AN}{E:Ah->Am->Prop}{s:Am}{env:BE}{nm q:Ag}{C N:Ai}{bs bm bmB:Ad Ah}{hdct:Aj}{sn:Ad Ag}{sub:Ad Ah}{ab:Aj}{col:An Aj}{dd:An Ai}{k0 k1 k2 k3 k5:An Ah}{B newId initId:B6}
theorem Sv{x:Ez Ah}{Q:Flow->Am->Prop}(hb:bm.contains (.type "BaseException")=Ab)(hh:A.handled=Af)(h:As M A x (λv s' => ∃ e t dx,v = .ref e/\s'.heap.get? C=Aa (BA nm q C N bs bm hdct sn sub ab col dd k0 k1 k2 k3 k5 newId)/\s'.heap.get? e=Aa (DT C dx t)/\E (.ref e) s') E s):As M A (raiseStmt env (Aa x) Af) Q E s:=by
 have hB:(BG C::bm).contains (.type "BaseException")=Ab:=by rw[Ep,hb,ER]
 unfold raiseStmt;refine At (AZ h (λv s' z => ?_) λ_ _ z=>z)
 obtain⟨e,t,dx,rfl,gC,ge,hE⟩:=z;obtain⟨hp,g,d,tk,os⟩:=s';unfold DT at ge
 repeat (first|(with_reducible refine Bu ge ?_)|(with_reducible refine Bu gC ?_)|(with_reducible refine Dc gC ?_;rw[hB])|wp_step)
 exact wpAny_raiseNew_none hh hE
end
section
variable{prog:AE}{w:Ar}{A:AN}{E:Ah->Am->Prop}{h:Ay}{g:Ba CQ}{d:Fc}{t:Ae}{os:EL}
variable{nm q:Ag}{C N fI:Ai}{bs bm bmB:Ad Ah}{hdct:Aj}{sn:Ad Ag}{sub:Ad Ah}{ab:Aj}{col:An Aj}{dd:An Ai}{k0 k1 k2 k3 k5:An Ah}{B newId initId:B6}{mN:Ag->An Ah}{Bg:Ad Ah}{oI:AD}
theorem Tb{Q:Fin->Am->Prop}(F:EV B newId initId bmB)(T:CF h bmB bm)(gC:h.get? C=Aa (BA nm q C N bs bm hdct sn sub ab col dd k0 k1 k2 k3 k5 newId))(hn:h.Ns N mN)(hi:mN "__init__" = Aa (.ref fI))(gI:h.get? fI=Aa oI)(cI:oI.cls = .type "function")(hl:Bg.length<=sizeLine)(hq : ∀ h' e,Fs h h' e (.ref C) Bg->As (model prog w) A (call (.ref fI) (.ref e::Bg)) (λr s'=>r = .none/\Q (.done (.ret (.ref e))) s') E ⟨h',g,d,t,os⟩):As (model prog w) A (Builtin.«type.__call__» ⟨.ref C::Bg,[]⟩) Q E ⟨h,g,d,t,os⟩:=by
 repeat (first|(with_reducible refine Bu gC ?_)|(with_reducible refine wpAny_madeBy_exc gC ?_)|wp_step)
 refine codeAny_call_builtin_code (Et _ F.quiet) (wpAny_check_new_subT F T gC (codeAny_exc_new_subT F T gC ?_ hl));show As _ _ _ _ _ _;have kp : ∀ b o,h.get? b=Aa o->((h.push { cls := .type "tuple",data := .seq Bg.toArray }).push {cls := .ref C,data := .fields #[.ref h.objs.size,.none,.none,.none,.bool Ac,.none]}).get? b=Aa o:=λb o z=>Ax _ (Ax _ z)
 have ge:((h.push { cls := .type "tuple",data := .seq Bg.toArray }).push {cls := .ref C,data := .fields #[.ref h.objs.size,.none,.none,.none,.bool Ac,.none]}).get? (h.objs.size+1)=Aa {cls := .ref C,data := .fields #[.ref h.objs.size,.none,.none,.none,.bool Ac,.none]}:=by heap_get
 have gt:((h.push { cls := .type "tuple",data := .seq Bg.toArray }).push {cls := .ref C,data := .fields #[.ref h.objs.size,.none,.none,.none,.bool Ac,.none]}).get? h.objs.size=Aa { cls := .type "tuple",data := .seq Bg.toArray }:=Ax _ (PY rfl rfl);generalize (h.push { cls := .type "tuple",data := .seq Bg.toArray }).push {cls := .ref C,data := .fields #[.ref h.objs.size,.none,.none,.none,.bool Ac,.none]}=h2 at *;have gC2:=kp _ _ gC;have gI2:=kp _ _ gI;have hn2:h2.Ns N mN:=let ⟨o,es,ep,z,r⟩:=hn;⟨o,es,ep,kp _ _ z,r⟩
 have T2:=T.keeps (h':=h2) kp;have cC:(BG C::bm).contains (.ref C)=Ab:=by simp
 unfold FF
 repeat (first|(with_reducible refine Bu ge ?_)|(with_reducible refine Dc gC2 ?_;rw[cC])|wp_step)
 show As _ _ (typeLookup (.ref C) _) _ _ _;refine wpAny_typeLookup_tail gC2 hn2 T2 F.mroIs F.init.lookup ?_;rw[hi];refine EB (At ?_);unfold bindSpecial;refine At (wpAny_typeOf (T := "function") ⟨_,gI2,cI⟩ ?_);rw[AY (by decide)]
 refine Bm (At (AZ (hq h2 (h.objs.size+1) ⟨kp,Ce (O3 _),h.objs.size,ge,Ce (AW _),gt⟩) (λr s' z => ?_) λ_ _ z=>z))
 obtain⟨rfl,z⟩:=z
 wp_walk
 exact z
theorem Td{Q:Ah->Am->Prop}(F:EV B newId initId bmB)(T:CF h bmB bm)(gC:h.get? C=Aa (BA nm q C N bs bm hdct sn sub ab col dd k0 k1 k2 k3 k5 newId))(hn:h.Ns N mN)(hi:mN "__init__" = Aa (.ref fI))(gI:h.get? fI=Aa oI)(cI:oI.cls = .type "function")(hl:Bg.length<=sizeLine)(hq : ∀ h' e,Fs h h' e (.ref C) Bg->As (model prog w) (A.under (.builtin "type.__call__" ⟨.ref C::Bg,[]⟩)) (call (.ref fI) (.ref e::Bg)) (λr s'=>r = .none/\Q (.ref e) s') E ⟨h',g,d,t,os⟩):As (model prog w) A (call (.ref C) Bg) Q E ⟨h,g,d,t,os⟩:=by
 have l1:=tc_lookup;have l2:=tc_bind (.ref C);have ty:(⟨h,g,d,t,os⟩:Am).TypeIs (.ref C) "type" := ⟨_,gC,rfl⟩;refine EK (codeAny_of_tree ?_);show As _ _ (callAny (.ref C) _) _ _ _
 repeat (any_goals (first|assumption|(with_reducible refine Bu gC ?_)|wp_step))
 refine⟨rfl,codeAny_call_builtin_at (Et _ (by decide+kernel)) entry_typeCall (wpAny_check_type_call_sub gC (Tb F T gC hn hi gI cI hl λh' e m => ?_))⟩
 exact hq h' e m
end
section
variable{prog:AE}{w:Ar}{A:AN}{E:Ah->Am->Prop}{s:Am}{env:BE}
variable{nm q:Ag}{C N fI:Ai}{bs bm bmB:Ad Ah}{hdct:Aj}{sn:Ad Ag}{sub:Ad Ah}{ab:Aj}{col:An Aj}{dd:An Ai}{k0 k1 k2 k3 k5:An Ah}{B newId initId:B6}{mN:Ag->An Ah}
theorem RU{Q:Flow->Am->Prop}{args:Ad Ak}(F:EV B newId initId bmB)(hb:bm.contains (.type "BaseException")=Ab)(hh:A.handled=Af)(hp:(Bv cpos (Aq args env)).any (·.1)=Ac)(hi:mN "__init__" = Aa (.ref fI))(h:As (model prog w) A (eval (.Name x np) env) (λf s1=>f = .ref C/\As (model prog w) A (evalArgs (.ref C) Ab (Bv cpos (Aq args env)) [])
   (λa s2=>a.kw=[]/\a.pos.length<=sizeLine/\s2.heap.get? C=Aa (BA nm q C N bs bm hdct sn sub ab col dd k0 k1 k2 k3 k5 newId)/\s2.heap.Ns N mN/\CF s2.heap bmB bm/\(∃ oI,s2.heap.get? fI=Aa oI/\oI.cls = .type "function") /\
    ∀ h' e,Fs s2.heap h' e (.ref C) a.pos->As (model prog w) (A.under (.builtin "type.__call__" ⟨.ref C::a.pos,[]⟩)) (call (.ref fI) (.ref e::a.pos)) (λr s'=>r = .none /\ ∃ t dx,s'.heap.get? C=Aa (BA nm q C N bs bm hdct sn sub ab col dd k0 k1 k2 k3 k5 newId)/\s'.heap.get? e=Aa (DT C dx t)/\E (.ref e) s') E {s2 with heap:=h'}) E s1) E s):As (model prog w) A (exec (.Raise (Aa (.Call (.Name x np) args [] cpos)) Af pos) env) Q E s:=by
 rw[arm_exec_Raise]
 try simp only[evalOpt,Dy]
 refine At (C9 (Sv (nm:=nm) (q:=q) (C:=C) (N:=N) (bs:=bs) (bm:=bm) (hdct:=hdct) (sn:=sn) (sub:=sub) (ab:=ab) (col:=col) (dd:=dd) (k0:=k0) (k1:=k1) (k2:=k2) (k3:=k3) (k5:=k5) (newId:=newId) hb hh ?_));refine At (AZ (wpAny_Call_ofName (AZ h (λf s1 z => ?_) λ_ _ z=>z)) (λv s3 z=>At (C9 (Bm z))) λ_ _ z=>z)
 obtain⟨rfl,z⟩:=z;unfold callWith;refine At (EB (AZ z (λa s2 y=>At (C9 ?_)) λ_ _ y=>y))
 obtain⟨us,kw⟩:=a;obtain⟨hk,hl,gC,hn,T,⟨oI,gI,cI⟩,k⟩:=y;obtain rfl:kw=[]:=hk;obtain⟨hp2,g,d,tk,os⟩:=s2;simp only[hp];refine At (wpAny_keeperOf_exc gC (At (Td F T gC hn hi gI cI hl λh' e m=>AZ (k h' e m) (λr s' y => ?_) λ_ _ y=>y)))
 obtain⟨rfl,t,dx,c1,c2,c3⟩:=y;exact⟨rfl,At (EB (wpAny_point (Bm ⟨e,t,dx,rfl,c1,c2,c3⟩)))⟩
end
section
variable{prog:AE}{w:Ar}{A:AN}{E:Ah->Am->Prop}{h:Ay}{g:Ba CQ}{d:Fc}{tk0:Ae}{os:EL}
variable{nm q:Ag}{C N e t:Ai}{dx:An Ai}{bs bm bmB:Ad Ah}{hdct:Aj}{sn:Ad Ag}{sub:Ad Ah}{ab:Aj}{col:An Aj}{dd:An Ai}{k0 k1 k2 k3 k5:An Ah}{B newId initId:B6}
theorem UB{Q:Ah->Am->Prop}(F:EV B newId initId bmB)(T:CF h bmB bm)(gC:h.get? C=Aa (BA nm q C N bs bm hdct sn sub ab col dd k0 k1 k2 k3 k5 newId))(ge:h.get? e=Aa (DT C dx t))(hq : ∀ h' t',(∀ b o,b≠e->h.get? b=Aa o->h'.get? b=Aa o)->h'.get? e=Aa (DT C dx t')->Q .none ⟨h',g,d,tk0,os⟩):As (model prog w) A (call (.builtin initId) [.ref e,.str z tk]) Q E ⟨h,g,d,tk0,os⟩:=by
 refine EK (Cz F.init.plain F.initEntry (wpAny_check_init_subT F T gC ge rfl ?_));unfold DT at ge
 wp_walk
 refine hq _ h.objs.size (λb o nb z=>(B4 _ _ (Da nb)).trans (Ax _ z)) ?_
 rw[Cp _ (Ax _ ge) rfl];rfl
end
noncomputable def xbd:Ae->Ae
 |0=>4
 |n+1=>8*xbd n+19
theorem ME : ∀ n:Fin 100,(A4 (toString ((n.val:Ae):Ao))).length<=4:=by decide+kernel
theorem M4{α:Type}(f:α->Ae){m:Ae} : ∀ l:Ad α,(∀ x∈l,f x<=m)->(l.map f).sum<=l.length*m
 |[],_=>by simp
 |x::l,h=>by
  have h1:=h x AU;have h2:=M4 f l λy hy=>h y (AG _ hy)
  rw[Ey,List.sum_cons,A9,O9];omega
section
variable{X:Cx}{CL:ClA}{pI:Ad (Ai × AD)}{Z:L2.St}{H:Hp}{s:Am}
structure Shw (h:Ay) (n:Ae) (u:Ah) (pd:Gw):Prop where
 rd:Reads h u pd []
 sh:pd.showable=Ab
 nd:pd.hasDict=Ac
 dp:pd.depth<=n
 ln:pd.shown.length<=xbd n
inductive ShwA (h:Ay) (n:Ae):Ad Ah->Ad Gw->Prop where
 |nil:ShwA h n [] []
 |cons {u:Ah} {pd:Gw} {us:Ad Ah} {pds:Ad Gw}:Shw h n u pd->ShwA h n us pds->ShwA h n (u::us) (pd::pds)
theorem ML{h:Ay}{n:Ae} : ∀{us:Ad Ah}{pds:Ad Gw},ShwA h n us pds->ReadsAll h us pds []/\P3 pds=Ab/\P2 pds=Ac/\Fd pds<=n/\(∀ t∈Cq pds,t.length<=xbd n)/\(Cq pds).length=us.length
 |[],[],_=>⟨.nil,rfl,rfl,En _,(λ_ h=>nomatch h),rfl⟩
 |u::us,pd::pds,.cons h1 h2=>by
  obtain⟨a,b,c,d,e,f⟩:=ML h2;refine⟨.cons h1.rd a,?_,?_,?_,?_,?_⟩
  .show (pd.showable&&P3 pds)=Ab;rw[h1.sh,b];rfl
  .show (pd.hasDict||P2 pds)=Ac;rw[h1.nd,c];rfl
  .show max pd.depth (Fd pds)<=n;exact Nat.max_le.mpr ⟨h1.dp,d⟩
  .intro t ht;rcases AR.mp ht with rfl|ht
   .exact h1.ln
   .exact e t ht
  .show (Cq pds).length+1=us.length+1;rw[f]
theorem Wl(I:Inv X pI Z H s) : ∀(n:Ae){d:D}{v:V}{u:Ah},xfD n d=Ab->Rep X.K CL H A v d->Be v u -> ∃ pd,Shw s.heap n u pd:=by
 intro n
 induction n with
 |zero=>
  intro d v u hx r rv;cases d with
  |int i=>
   have e:v = .int i:=r;subst e;obtain⟨t,rfl⟩:=rv;simp only[xfD,Al,AQ]at hx;refine⟨.int i,.int i t,?_,rfl,AW _,?_⟩
   .show decide (i.natAbs.log2<1920)=Ab;refine Yu (Er (O4 _) (by omega))
   .have:=ME ⟨i.toNat,by omega⟩
    rw[show ((i.toNat:Ae):Ao)=i by omega]at this
    exact this
  |_=>exact absurd (show Ac=Ab from hx) Ap
 |succ n ih0=>
  intro d v u hx r rv;cases d with
  |tup ds=>
   obtain⟨a,xs,rfl,_,sq,rs⟩:=r;cases rv;obtain⟨its,vs,⟨o,ho,hc,m,hd⟩,hz⟩:=I.tuple sq;simp only[xfD,Al,Cj]at hx;have key : ∀{xs:Ad V}{ds:Ad D}{its:Ad Ah},(∀ d∈ds,xfD n d=Ab)->Reps X.K CL H A xs ds->AS xs its -> ∃ pds,ShwA s.heap n its pds:=λ{xs}=>by
    induction xs with
    |nil=>
     intro ds its _ rs vs;cases vs;exact⟨[],.nil⟩
    |cons x xs ih=>
     intro ds its hd rs vs;cases ds with
     |nil=>exact rs.elim
     |cons d ds=>
      cases vs with
      |cons v1 v2=>
       obtain⟨pd,h1⟩:=ih0 (hd d AU) rs.1 v1;obtain⟨pds,h2⟩:=ih (λe he=>hd e (AG _ he)) rs.2 v2
       exact⟨pd::pds,.cons h1 h2⟩
   obtain⟨pds,hf⟩:=key hx.2 rs vs;obtain⟨p1,p2,p3,p4,p5,p6⟩:=ML hf;have l8:its.length<=8:=by
    have h8:=Nat.ble_eq.mp hx.1;rw[<-vs.length,rs.length];exact h8
   refine⟨.tuple pds,.tuple ho hc hd (by simpa using p1),p2,p3,?_,?_⟩
   .show Fd pds+1<=n+1;omega
   .show (tupleText (Cq pds)).length<=8*xbd n+19;have h1:=tupleText_len_le (Cq pds);have h2:=M4 (λt:Ag=>t.length) (Cq pds) p5
    have h3:(Cq pds).length*xbd n<=8*xbd n:=Nat.mul_le_mul_right _ (by omega)
    omega
  |_=>exact absurd (show Ac=Ab from hx) Ap
end
section
variable{X:Cx}{CL:ClA}
noncomputable def tFs(K:Fg)(CL:ClA)(i:Ae):TE:=λZ H Q => ∃ v d A n,Z[i]? = Aa (Aa v)/\Rep K CL H A v d/\xfD n d=Ab/\n<=2 /\ ∀ t:Ag,Q (.str t) H
noncomputable def tFm(K:Fg)(CL:ClA)(i:Ae):TE:=λZ H Q => ∃ v d A n,Z[i]? = Aa (Aa v)/\Rep K CL H A v d/\xfD n d=Ab/\n<=2 /\ ∀ t:Ag,t.length<=500->Q (.str t) H
theorem Ni{e:Ak}{i:Ae}(hu:X.A.units+64<Bo)(hg:X.A.guards=Aa [])(he:PE X e (DJ i)):PE X (.FormattedValue e (-1) Af p1) (tFm X.K CL i):=by
 intro pI s Z H Q I ⟨v,d,A,n,hv,r,hx,hn,q⟩;refine wpAny_FormattedValue_plain (thn (he pI s Z H (λx H1=>x=v/\H1=H) I ⟨v,hv,rfl,rfl⟩) λu s1 ⟨x,H1,I1,r1,e1,e2⟩ => ?_)
 subst e1 e2;have zl:sizeLine ≥ 2000:=by decide
 obtain⟨pd,sw⟩:=Wl I1 n hx r r1;have hn':n=0\/n=1\/n=2:=by omega
 have xb:xbd n<=500:=by rcases hn' with rfl|rfl|rfl <;> decide
 have ln:=sw.ln;have dp:=sw.dp;cases d with
 |int j=>
  have e:x = .int j:=r;subst e;obtain⟨t,rfl⟩:=r1;cases n with
  |zero=>
   have hx':(decide (0<=j)&&decide (j<100))=Ab:=hx;rw[Al,AQ,AQ]at hx';have il:=ME ⟨j.toNat,by omega⟩
   rw[show ((j.toNat:Ae):Ao)=j by omega]at il
   exact formatField_int_small (Er (O4 _) (by omega)) ⟨.str _,H1,I1.tok _,⟨_,rfl⟩,q _ (BP il (by omega))⟩
  |succ n=>cases hx
 |tup ds=>
  obtain⟨a,xs,rfl,_,sq,rs⟩:=r;cases r1;refine formatField_of_reads sw.rd sw.sh (λz=>by rw[sw.nd]at z;cases z) hg (by omega) (λ_ _ z=>z) (λh' tk1 tk2 kp => ?_) (by omega)
  exact⟨.str pd.shown,H1,I1.kept kp,⟨_,rfl⟩,q _ (by omega)⟩
 |_=>cases n <;> cases hx
theorem Uf{e:Ak}{i:Ae}(hu:X.A.units+64<Bo)(hg:X.A.guards=Aa [])(hz:z.length<=1000)(he:PE X e (DJ i)):PE X (.JoinedStr [.FormattedValue e (-1) Af p1,.Constant (.str z) k p2] p3) (tFs X.K CL i):=by
 intro pI s Z H Q I ⟨v,d,A,n,hv,r,hx,hn,q⟩;have zl:sizeLine ≥ 2000:=by decide
 refine Qz ?_;show As (model X.prog X.w) X.A (eval (.FormattedValue e (-1) Af p1) X.env) (λv s1 => ∃ y t,v = .str y t/\(CD++y).length<=sizeLine/\Joins (model X.prog X.w) X.A X.xe [eval (.Constant (.str z) k p2) X.env] (CD++y) _ s1) X.xe s
 refine thn (Ni (CL:=CL) hu hg he pI s Z H (λx H1 => ∃ y:Ag,x = .str y/\y.length<=500/\H1=H) I ⟨v,d,A,n,hv,r,hx,hn,λt ht=>⟨t,rfl,ht,rfl⟩⟩) λu s1 ⟨x,H1,I1,r1,y,e1,hy,e2⟩ => ?_
 subst e1 e2;obtain⟨t1,rfl⟩:=r1;have l0:(CD++y).length<=500:=by
  rw[DO];have:CD.length=0:=rfl;omega
 refine⟨y,t1,rfl,by omega,?_⟩
 show As (model X.prog X.w) X.A (eval (.Constant (.str z) k p2) X.env) _ X.xe s1;refine thn (Iu (X:=X) pI _ Z H1 (λx H2=>x = .str z/\H2=H1) I1 ⟨rfl,rfl⟩) λu2 s2 ⟨x2,H2,I3,r3,e3,e4⟩ => ?_
 subst e3 e4;obtain⟨t3,rfl⟩:=r3;have l1:(CD++y++z).length<=sizeLine:=by
  rw[DO];omega
 exact⟨z,t3,rfl,l1,l1,⟨.str _,H2,I3.tok _,⟨_,rfl⟩,q _⟩⟩
theorem RI{e:Ak}{i:Ae}{p0:Az}(hu:X.A.units+64<Bo)(hg:X.A.guards=Aa [])(hz':z'.length<=400)(hz:z.length<=1000)(he:PE X e (DJ i)):PE X (.JoinedStr [.Constant (.str z') k' p0,.FormattedValue e (-1) Af p1,.Constant (.str z) k p2] p3) (tFs X.K CL i):=by
 intro pI s Z H Q I ⟨v,d,A,n,hv,r,hx,hn,q⟩;have zl:sizeLine ≥ 2000:=by decide
 refine Qz ?_;show As (model X.prog X.w) X.A (eval (.Constant (.str z') k' p0) X.env) (λv s1 => ∃ y t,v = .str y t/\(CD++y).length<=sizeLine/\Joins (model X.prog X.w) X.A X.xe [eval (.FormattedValue e (-1) Af p1) X.env,eval (.Constant (.str z) k p2) X.env] (CD++y) _ s1) X.xe s
 refine thn (Iu (X:=X) pI _ Z H (λx H2=>x = .str z'/\H2=H) I ⟨rfl,rfl⟩) λu0 s0 ⟨x0,H0,I0,r0,e0,e00⟩ => ?_
 subst e0 e00;obtain⟨t0,rfl⟩:=r0;have le:(CD++z').length<=400:=by
  rw[DO];have:CD.length=0:=rfl;omega
 refine⟨z',t0,rfl,by omega,?_⟩
 show As (model X.prog X.w) X.A (eval (.FormattedValue e (-1) Af p1) X.env) _ X.xe s0;refine thn (Ni (CL:=CL) hu hg he pI s0 Z H0 (λx H1 => ∃ y:Ag,x = .str y/\y.length<=500/\H1=H0) I0 ⟨v,d,A,n,hv,r,hx,hn,λt ht=>⟨t,rfl,ht,rfl⟩⟩) λu s1 ⟨x,H1,I1,r1,y,e1,hy,e2⟩ => ?_
 subst e1 e2;obtain⟨t1,rfl⟩:=r1;have l0:(CD++z'++y).length<=900:=by
  rw[DO];omega
 refine⟨y,t1,rfl,by omega,?_⟩
 show As (model X.prog X.w) X.A (eval (.Constant (.str z) k p2) X.env) _ X.xe s1;refine thn (Iu (X:=X) pI _ Z H1 (λx H2=>x = .str z/\H2=H1) I1 ⟨rfl,rfl⟩) λu2 s2 ⟨x2,H2,I3,r3,e3,e4⟩ => ?_
 subst e3 e4;obtain⟨t3,rfl⟩:=r3;have l1:(CD++z'++y++z).length<=sizeLine:=by
  rw[DO];omega
 exact⟨z,t3,rfl,l1,l1,⟨.str _,H2,I3.tok _,⟨_,rfl⟩,q _⟩⟩
structure FsOk (par:Ag) (j:Ak):Prop where
 st : ∀ env,Aq [j] env=[(Ac,eval j env)]
 pe : ∀(X:Cx)(CL:ClA)(i:Ae),X.A.units+64<Bo->X.A.guards=Aa []->(∀ p,PE X (.Name par p) (DJ i))->PE X j (tFs X.K CL i)
theorem Wa{p4:Az}(hz:z.length<=1000):FsOk par (.JoinedStr [.FormattedValue (.Name par p1) (-1) Af p2,.Constant (.str z) k p3] p4):=⟨λ_=>rfl,λ_ _ _ hu hg he=>Uf hu hg hz (he _)⟩
theorem Sh{p0 p4:Az}(hz':z'.length<=400)(hz:z.length<=1000):FsOk par (.JoinedStr [.Constant (.str z') k' p0,.FormattedValue (.Name par p1) (-1) Af p2,.Constant (.str z) k p3] p4):=⟨λ_=>rfl,λ_ _ _ hu hg he=>RI hu hg hz' hz (he _)⟩
end
noncomputable def XEx(e C:Ai)(dx:An Ai)(t:Ai):Ay->Prop:=λh=>h.get? e=Aa (DT C dx t)
theorem J7{e C:Ai}{t:Ai} : ∀ h1 h2:Ay,XEx e C dx t h1->(∀ o,h1.get? e=Aa o->h2.get? e=Aa o)->XEx e C dx t h2:=λ_ _ p k=>k _ p
section
variable{X:Cx}{CL:ClA}{C:Ai}{nm q:Ag}{N:Ai}{bs bm:Ad Ah}{hdct:Aj}{sn:Ad Ag}{sub:Ad Ah}{ab:Aj}{col:An Aj}{dd:An Ai}{k0 k1 k2 k3 k5:An Ah}
theorem RH{apos:Az}{es ej:Ak}{i j:Ae}(hob : ∀ h:Ay,X.K.In h->h.get? C=Aa (BA nm q C N bs bm hdct sn sub ab col dd k0 k1 k2 k3 k5 "ValueError.__new__")/\CF h veB bm)(hg:Gl X g)(hm:X.mg g=Aa (.ref OV))(hdb:(g==("__debug__" : Ag))=Ac)(s1:CU X.K (.ref OV) "__getattribute__" = Aa (Aa (.builtin "type.__getattribute__")))(s2:Dk X.K OV (.type "type")=Ab)(s3:Dj X.K (.ref OV) (.type "type") "__init__" = Aa (.val (.builtin "ValueError.__init__")))(hline:(apos.endLine==cpos.line)=Ab)(he:PE X es (DJ i))(hj:PE X ej (tFs X.K CL j))(sA:Aq [es,ej] X.env=(Ac,eval es X.env)::Aq [ej] X.env)(sB:Aq [ej] X.env=[(Ac,eval ej X.env)]):
  PE X (.Call (.Attribute (.Name g np) "__init__" apos) [es,ej] [] cpos) (λZ H Q => ∃ e dx t v d A n,Z[i]? = Aa (Aa (.ref e))/\H e=Aa (.ext (XEx e C dx t))/\Z[j]? = Aa (Aa v)/\Rep X.K CL H A v d/\xfD n d=Ab/\n<=2 /\ ∀ t',Q .non (upd H e (.ext (XEx e C dx t')))):=by
 have st1:Aq [es,ej] X.env=[(Ac,eval es X.env),(Ac,eval ej X.env)]:=by rw[sA,sB]
 intro pI s Z H Q I ⟨e,dx,t,v,d,A,n,h1,h2,h3,r,hx,hn,hq⟩;rw[arm_eval_Call];refine At (show As (model X.prog X.w) X.A (eval (.Name g np) X.env) _ X.xe s from Gk I hg hm ?_ hdb)
 refine At (C9 ?_);have form:methodCallForm ([es,ej].length+([]:Ad D1).length) (Bv cpos (Aq [es,ej] X.env)) (Hc cpos (Gb [] X.env))=Ab:=by
  rw[st1];rfl
 have mpos:methodCallPos Ab (.Name g np) X.env apos cpos=pure cpos:=by
  unfold methodCallPos;simp[hline]
 unfold methodCall;rw[form];refine At (EB (PySem.W.method_cls I.kIn s1 (PySem.W.cls_value I.kIn s2 s3 rfl ?_)));refine At (wpAny_of_eq mpos ?_);have I1:=I.tok (s.toks+1);have pa:PA X [es,ej] _:=Du he (Du hj E2 sB) sA;have hA:=pa cpos pI {s with toks:=s.toks+1} Z H (λxs H'=>H'=H /\ ∃ z,xs=[.ref e,.str z]) I1 ⟨_,h1,⟨v,d,A,n,h3,r,hx,hn,λz=>⟨rfl,z,rfl⟩⟩⟩
 rw[st1]at hA ⊢;refine Pj rfl (C2 (thn hA λus s2 ⟨xs,H2,I2,rv,e2,z,ex⟩ => ?_))
 subst e2 ex;obtain⟨u1,u2,rfl,ru1,ru2⟩:=HC rv;cases ru1;obtain⟨tk,rfl⟩:=ru2;obtain⟨gC,T⟩:=hob _ I2.kIn;have ge:XEx e C dx t s2.heap:=(I2.hok e _ h2).1;obtain⟨hp,g2,d2,tk2,os2⟩:=s2;refine UB C8 T gC ge λh' t' kp ge' => ?_
 refine⟨.non,_,I2.write (x:=e) (e:=e) (o := .ext (XEx e C dx t')) (t':=tk2) (by rw[h2];exact trivial) (.inl rfl) kp ⟨_,ge'⟩ ⟨ge',⟨_,ge'⟩,J7⟩,rfl,hq t'⟩
end
theorem QM{bmB bm:Ad Ah}(T:CF h bmB bm){self:Ah}{what:Ag}(hb:refuseLoop self what bmB=pure ()):refuseLoop self what bm=pure ():=by
 induction T with
 |base=>exact hb
 |own _ _ _ _ ih=>rw[Qy];exact ih
section
variable{prog:AE}{w:Ar}{A:AN}{E:Ah->Am->Prop}{h:Ay}{g:Ba CQ}{d:Fc}{tk0:Ae}{os:EL}{K:Fg}
variable{nm q:Ag}{C N e t:Ai}{bs bm bmB:Ad Ah}{sn:Ad Ag}{sub:Ad Ah}{ab:Aj}{col:An Aj}{dd:An Ai}{k0 k1 k2 k3 k5:An Ah}{B newId sa owner:B6}
theorem Tg{Q:Fin->Am->Prop}{v:Ah}(X:K.In h)(SF:Gy B bmB sa owner)(T:CF h bmB bm)(gC:h.get? C=Aa (BA nm q C N bs bm Ab sn sub ab col dd k0 k1 k2 k3 k5 newId))(hf:Au K (.ref C) name=Aa Af)(ge:h.get? e=Aa (DT C Af t))(hq : ∀ h' dx tk',(∀ b o,b≠e->h.get? b=Aa o->h'.get? b=Aa o)->h'.get? e=Aa (DT C (Aa dx) t)->h.get? dx=Af->h'.Ns1 dx (λy=>if y=name then Aa v else Af)->Q (.done (.ret .none)) ⟨h',g,d,tk',os⟩):As (model prog w) A (Builtin.«object.__setattr__» ⟨[.ref e,.str name tk,v],[]⟩) Q E ⟨h,g,d,tk0,os⟩:=by
 have pass:=QM T (SF.passes (.ref e));have L1:=BH (M:=model prog w) X hf;obtain⟨o,ho⟩ : ∃ o,DT C Af t=o:=⟨_,rfl⟩;rw[ho]at ge;have oc:o.cls = .ref C:=by rw[<-ho];rfl
 unfold Builtin.«object.__setattr__»
 repeat (first|rw[refuse_eq]|(rw[Qy,pass])|(with_reducible refine Bu ge ?_;rw[oc])|(with_reducible refine wpAny_mroOf_exc gC ?_)|(with_reducible refine L1.at ?_)|(with_reducible refine At (L1.at ?_))|wp_step)
 have od:o.dict=Af:=by rw[<-ho];rfl
 have odt:o.data = .fields #[.ref t,.none,.none,.none,.bool Ac,.none]:=by rw[<-ho];rfl
 rw[od,odt,A8 (by simp[typeHasDict])]
 let D:AD := { cls := .type "dict",data := .dict #[] }
 have g1:(h.push D).get? e=Aa o:=Ax _ ge;have ne:e≠h.objs.size:=Bp (AA ge);refine At (wpAny_alloc' ?_);refine At (wpAny_update' g1 ?_);refine Bm ?_
 let U_:AD->AD:=λo => {cls:=o.cls,dict:=Aa h.objs.size,data:=o.data,slots:=o.slots}
 have gD:((h.push D).update e U_).get? h.objs.size=Aa D:=(PZ _ _ _ _ ne.symm).trans (PY rfl rfl);have nD:((h.push D).update e U_).Ns h.objs.size (λ_=>Af):=⟨_,#[],_,gD,rfl,λz hz=>absurd hz (by simp),λ_=>rfl⟩
 change As _ _ (Ph h.objs.size (.str name tk) name v) _ _ _;unfold Ph Builtin.ObjectAttr.newKeyGuard;refine At (Bm (At (wpAny_nsSet1 (Heap.Ns1.of_empty nD) λk hk hs => ?_)))
 obtain⟨oD,eD,pD,q1,q2,q3⟩:=hk.count (Within.cons name v Within.nil);have le:oD.data.pastItsLine=Af:=by
  rw[q2];refine pastItsLine_dict (BP q3 ?_);rw[A9,List.length_nil,Cc];omega
 refine At (wpAny_lookBehind q1 le ?_)
 wp_walk
 refine hq k h.objs.size _ (λb ob nb hb => ?_) ?_ (Ce (AW _)) hk
 .rw[hs.2 b (Bp (AA hb)),PZ _ _ _ _ nb];exact Ax _ hb
 .rw[hs.2 e ne];have:Aa (DT C (Aa h.objs.size) t)=Aa (U_ o):=by rw[<-ho];rfl
  rw[this];exact Cp _ g1 (by rw[<-ho];rfl)
end
section
variable{prog:AE}{w:Ar}{A:AN}{E:Ah->Am->Prop}{h:Ay}{g:Ba CQ}{d:Fc}{tk0:Ae}{os:EL}{K:Fg}
variable{nm q:Ag}{C N e t:Ai}{bs bm bmB:Ad Ah}{sn:Ad Ag}{sub:Ad Ah}{ab:Aj}{col:An Aj}{dd:An Ai}{k0 k1 k2 k3 k5:An Ah}{B newId sa owner:B6}
theorem Th{o:AD}{a b:Ah}(SF:Gy B bmB sa owner)(T:CF h bmB bm)(gC:h.get? C=Aa (BA nm q C N bs bm Ab sn sub ab col dd k0 k1 k2 k3 k5 newId))(ge:h.get? e=Aa o)(hc:o.cls = .ref C)(hq:Q () ⟨h,g,d,tk0,os⟩):As M A (DQ sa ⟨[.ref e,a,b],[]⟩) Q E ⟨h,g,d,tk0,os⟩:=by
 have hb:(BG C::bm).contains (.type owner)=Ab:=by rw[Ep,T.hasType SF.hasOwner,ER]
 have ha:=SF.args (.ref e) a b;simp only[DQ,SF.kind,SF.split];refine At ?_;unfold FF
 repeat (first|(with_reducible refine Bu ge ?_;rw[hc])|(with_reducible refine Dc gC ?_;rw[hb])|wp_step)
 unfold argsOk at ha;split
 .rename_i sig hs;rw[hs]at ha;refine wpAny_of_eq ha ?_;exact hq
 .exact Bm hq
theorem Uz{v:Ah}(X:K.In h)(SF:Gy B bmB sa owner)(T:CF h bmB bm)(gC:h.get? C=Aa (BA nm q C N bs bm Ab sn sub ab col dd k0 k1 k2 k3 k5 newId))(hf:Au K (.ref C) name=Aa Af)(hs:Au K (.ref C) "__setattr__" = Aa (Aa (.builtin sa)))(ge:h.get? e=Aa (DT C Af t))(hq : ∀ h' dx tk',(∀ b o,b≠e->h.get? b=Aa o->h'.get? b=Aa o)->h'.get? e=Aa (DT C (Aa dx) t)->h.get? dx=Af->h'.Ns1 dx (λy=>if y=name then Aa v else Af)->Q () ⟨h',g,d,tk',os⟩):As (model prog w) A (setAttr (.ref e) name v) Q E ⟨h,g,d,tk0,os⟩:=by
 have f3:=SF.slot.bind (.ref e);have L1:=BH (M:=model prog w) X hs;obtain⟨o,ho⟩ : ∃ o,DT C Af t=o:=⟨_,rfl⟩;have oc:o.cls = .ref C:=by rw[<-ho];rfl
 have ge':=ge;rw[ho]at ge';unfold setAttr callSpecial? specialOf
 repeat (any_goals (first|assumption|(with_reducible refine Bu ge' ?_;rw[oc])|(with_reducible refine At (L1.at ?_))|(with_reducible refine L1.at ?_)|wp_step))
 refine Cz SF.slot.plain SF.entry (Th SF T gC ge' oc (Tg X SF T gC hf ge λh' dx tk' k1 k2 k3 k4 => ?_))
 repeat (any_goals (first|assumption|wp_step))
 exact hq h' dx tk' k1 k2 k3 k4
end
section
variable{X:Cx}{pI:Ad (Ai × AD)}{Z:L2.St}{H:Hp}{s:Am}{e:Ai}
theorem MC{o:HO}(I:Inv X pI Z H s)(ha:EG X pI e)(hH:H e=Af)(ho:ObjOk X.prog X.w (upd H e o) s.heap e o):Inv X pI Z (upd H e o) s:=by
 have ne : ∀ b o,H b=Aa o->b≠e:=λb o q z=>by rw[z,hH]at q;cases q
 refine⟨I.ok,I.os,I.bare,⟨I.base.keep,I.base.slot,λb o q n hb => ?_,I.base.there,λb xs q => ?_,λb o u q => ?_,λb ps q => ?_⟩,I.loc,I.cell,?_,λx c q => ?_,λp hp => ?_,λb o q => ?_,I.len⟩
 .rw[Bb λz=>by rw[z,ha.2.2.2]at q;cases q]
  exact I.base.free b o q n hb
 .have:=I.base.tups b xs q;rw[Bb (ne _ _ this)];exact this
 .have:=I.base.frzs b o u q;rw[Bb (ne _ _ this)];exact this
 .obtain⟨more,this⟩:=I.base.tbls b ps q;exact⟨more,by rw[Bb (ne _ _ this)];exact this⟩
 .rw[Bb λz=>ha.1 z.symm];exact I.free
 .rw[Bb (ha.2.1 x c q)];exact I.freeC x c q
 .obtain⟨q,n,r⟩:=I.pin p hp;exact⟨q,by rw[Bb (ha.2.2.1 p hp)];exact n,r⟩
 .by_cases hb:b=e
  .subst hb;rw[Dt]at q;cases q;exact ho
  .rw[Bb hb]at q;exact(I.hok b o q).stay (λc v hc z=>z) (λc z=>by rw[Bb (ne _ _ z)];exact z) λc zs z=>by rw[Bb (ne _ _ z)];exact z
theorem R8(I:Inv X pI Z H s)(hH:H e=Aa (.ext φ))(h0:X.s₀.heap.get? e=Af)(h1:X.ex=[]->E1):Inv X pI Z (λb=>if b=e then Af else H b) s:=by
 have get : ∀ b o,(if b=e then Af else H b)=Aa o->b≠e/\H b=Aa o:=λb o q=>by
  by_cases z:b=e
  .rw[AY z]at q;cases q
  .rw[A8 z]at q;exact⟨z,q⟩
 have put : ∀ b o,H b=Aa o->o ≠ .ext φ->(if b=e then Af else H b)=Aa o:=λb o q n=>by
  by_cases z:b=e
  .rw[z,hH]at q;cases q;exact absurd rfl n
  .rw[A8 z];exact q
 have non : ∀ b,H b=Af->(if b=e then Af else H b)=Af:=λb q=>by
  by_cases z:b=e
  .rw[AY z]
  .rw[A8 z];exact q
 refine⟨I.ok,I.os,I.bare,⟨λb o q n hb hx => ?_,I.base.slot,λb o q n hb => ?_,I.base.there,λb xs q => ?_,λb o u q => ?_,λb ps q => ?_⟩,I.loc,I.cell,non _ I.free,λx c q=>non _ (I.freeC x c q),λp hp => ?_,λb o q => ?_,I.len⟩
 .exact I.base.keep b o q n hb hx
 .exact non b (I.base.free b o q n hb)
 .exact put b _ (I.base.tups b xs q) (by intro z;cases z)
 .exact put b _ (I.base.frzs b o u q) (by intro z;cases z)
 .obtain⟨more,this⟩:=I.base.tbls b ps q;exact⟨more,put b _ this (by intro z;cases z)⟩
 .obtain⟨q,n,r⟩:=I.pin p hp;exact⟨q,non _ n,r⟩
 .obtain⟨nb,q⟩:=get b o q;exact(I.hok b o q).stay (λc v hc z=>z) (λc z=>put c _ z (by intro z;cases z)) λc zs z=>put c _ z (by intro z;cases z)
end
section
variable{X:Cx}{C:Ai}{nm q:Ag}{N:Ai}{bs bm:Ad Ah}{sn:Ad Ag}{sub:Ad Ah}{ab:Aj}{col:An Aj}{dd:An Ai}{k0 k1 k2 k3 k5:An Ah}
theorem Ua{i j:Ae}{f:Ag}{eo ev:Ak}{p8 p10:Az}(hob : ∀ h:Ay,X.K.In h->h.get? C=Aa (BA nm q C N bs bm Ab sn sub ab col dd k0 k1 k2 k3 k5 "ValueError.__new__")/\CF h veB bm)(hx:X.ex=[])(hf:Au X.K (.ref C) f=Aa Af)(hs:Au X.K (.ref C) "__setattr__" = Aa (Aa (.builtin "object.__setattr__")))(he:PE X eo (DJ i))(hv:PE X ev (DJ j))(sw:Ch ev (Aa (.Attribute eo f p8)) p10.line X.env=pure Ac):PS X (.Assign [.Attribute eo f p8] ev p10) (λD Z H =>∃ e t v,Z[i]? = Aa (Aa (.ref e))/\H e=Aa (.ext (XEx e C Af t))/\Z[j]? = Aa (Aa v)/\∀ dx,H dx=Af->dx≠e->D.nx Z (upd (upd H e (.ext (XEx e C (Aa dx) t))) dx (.xd [(f,v)]))):=by
 intro pI s Z H D I ⟨e,t,v,h1,h2,h3,hq⟩;refine plainObj_wpAny_Assign_Attribute (thn (hv pI s Z H (λx H1=>x=v/\H1=H) I ⟨v,h3,rfl,rfl⟩) λu s1 ⟨x,H1,I1,r1,e1,e2⟩ => ?_) sw
 subst e1 e2;refine thn (he pI s1 Z H1 (λx H2=>x = .ref e/\H2=H1) I1 ⟨_,h1,rfl,rfl⟩) λu2 s2 ⟨x2,H2,I2,r2,e3,e4⟩ => ?_
 subst e3 e4;cases r2;obtain⟨gC,T⟩:=hob _ I2.kIn;have ge:XEx e C Af t s2.heap:=(I2.hok e _ h2).1;obtain⟨hp,g2,d2,tk2,os2⟩:=s2;refine Uz I2.kIn PySem.F.store_ValueError T gC hf hs ge λh' dx tk' kp ge' nd ns => ?_
 have nH:H2 dx=Af:=GN I2.hok nd;have nde:dx≠e:=λz=>by rw[z,h2]at nH;cases nH
 have ap:EG X pI dx:=Hk I2 hx nd;have I3:=I2.write (x:=e) (e:=e) (o := .ext (XEx e C (Aa dx) t)) (t':=tk') (by rw[h2];exact trivial) (.inl rfl) kp ⟨_,ge'⟩ ⟨ge',⟨_,ge'⟩,J7⟩
 have I4:=MC (o := .xd [(f,x)]) I3 ap (by rw[Bb nde];exact nH) ⟨_,ns,λy=>by
  by_cases z:y=f
  .subst z;rw[AY rfl];simp only[CC,DY];exact r1
  .rw[A8 z];have:(y==f)=Ac:=by simp[z]
   simp only[CC,this]
   trivial⟩
 exact⟨Z,_,I4,hq dx nH nde⟩
end
noncomputable def Ee(K:Fg)(C:Ai):Aj:=match K.lookup C with
  |some ⟨_,_,.cls c,_⟩=>c.hasDict
  |_=>Ac
noncomputable def K4(g par f:Ag)(j:Ak)(np apos p1 cpos p6 p7 p8 p9 p10:Az):Ad AC:=
 [.Expr (.Call (.Attribute (.Name g np) "__init__" apos) [.Name "self" p1,j] [] cpos) p6,.Assign [.Attribute (.Name "self" p7) f p8] (.Name par p9) p10]
inductive XIn (K:Fg) (mg:Ag->An Ah) (C:Ai) (f:Ag):Prop
 |mk {fI OV:Ai} {x qual g par:Ag} {j:Ak} {st:AC} {fd:Bl} {np apos p1 cpos p6 p7 p8 p9 p10:Az} (xc:Ci K C (Aa (.ref fI))=Ab) (dc:Ee K C=Ab) (fn:Fun K x qual st fI fd) (ty:Cm K (.ref fI)=Aa (.type "function"))
  (S:FnScope ["self",par] ["self",par] (BK st)) (l1:(BK st).names.lookup ("self" : Ag)=Aa .local) (l2:(BK st).names.lookup par=Aa .local) (bd:Ed K fd ["self",par] []) (body:Dv st=K4 g par f j np apos p1 cpos p6 p7 p8 p9 p10)
  (gl:(BK st).names.lookup g=Aa .globalImplicit) (mo:mg g=Aa (.ref OV)) (dg:(g==("__debug__" : Ag))=Ac) (dp:(par==("__debug__" : Ag))=Ac) (dq:(par==("__classdict__" : Ag))=Ac)
  (s1:CU K (.ref OV) "__getattribute__" = Aa (Aa (.builtin "type.__getattribute__"))) (s2:Dk K OV (.type "type")=Ab) (s3:Dj K (.ref OV) (.type "type") "__init__" = Aa (.val (.builtin "ValueError.__init__")))
  (hl:(apos.endLine==cpos.line)=Ab) (hz:FsOk par j) (hf:Au K (.ref C) f=Aa Af) (hs:Au K (.ref C) "__setattr__" = Aa (Aa (.builtin "object.__setattr__"))):XIn K mg C f
section
variable{P:AE}{w:Ar}{K:Fg}{mg:Ag->An Ah}{base:Ay}{CL:ClA}{C fI OV:Ai}{x qual g par f:Ag}{j:Ak}{st:AC}{fd:Bl}{np apos p1 cpos p6 p7 p8 p9 p10:Az}
variable{nm q:Ag}{N:Ai}{bs bm:Ad Ah}{sn:Ad Ag}{sub:Ad Ah}{ab:Aj}{col:An Aj}{dd:An Ai}{k0 k1 k2 k3 k5:An Ah}
theorem Ts(hob : ∀ h:Ay,K.In h->h.get? C=Aa (BA nm q C N bs bm Ab sn sub ab col dd k0 k1 k2 k3 k5 "ValueError.__new__")/\CF h veB bm)(fn:Fun K x qual st fI fd)(S:FnScope ["self",par] ["self",par] (BK st))(l1:(BK st).names.lookup ("self" : Ag)=Aa .local)(l2:(BK st).names.lookup par=Aa .local)(bd:Ed K fd ["self",par] [])(body:Dv st=K4 g par f j np apos p1 cpos p6 p7 p8 p9 p10)(gl:(BK st).names.lookup g=Aa .globalImplicit)(mo:mg g=Aa (.ref OV))(dg:(g==("__debug__" : Ag))=Ac)(dp:(par==("__debug__" : Ag))=Ac)(dq:(par==("__classdict__" : Ag))=Ac)(s1:CU K (.ref OV) "__getattribute__" = Aa (Aa (.builtin "type.__getattribute__")))(s2:Dk K OV (.type "type")=Ab)(s3:Dj K (.ref OV) (.type "type") "__init__" = Aa (.val (.builtin "ValueError.__init__")))(hl:(apos.endLine==cpos.line)=Ab)(hz:FsOk par j)(hf:Au K (.ref C) f=Aa Af)(hs:Au K (.ref C) "__setattr__" = Aa (Aa (.builtin "object.__setattr__"))){A:AN}{outer:Ad BE}{s:Am}{E:XK}{e t:Ai}{v:V}{u:Ah}{n:Ae}(hh:A.handled=Af)(hdp:A.depth<FA)(hun:A.units+70<Bo)(hgd:A.guards=Aa [])(e0:Env0 P w K mg base A outer s H)(he:H e=Aa (.ext (XEx e C Af t)))(rp:Rep K CL H B v d)(hx:xfD n d=Ab)(hn:n<=2)(r:Be v u):DB (model P w) A (.call (.ref fI) ⟨[.ref e,u],[]⟩) (CR Jh outer P w H s (λy H'=>y = .non/\∃ t' dx,H dx=Af/\dx≠e/\H'=upd (upd H e (.ext (XEx e C (Aa dx) t'))) dx (.xd [(f,v)])) E) s:=by
 obtain⟨oc,od,kV,doc,pm,an,cdv,ct,osl,rfl,lk,hcd⟩:=fn.ex;have KX:K.In s.heap:=e0.mod.kin.keeps λb o e=>(e0.bs b o e).1
 have lim:s.heap.NoLimit:=e0.mod.nolimit.keeps λb o e=>(e0.bs b o e).1
 have hkind : ∀ y∈(["self",par]:Ad Ag).zip [BG e,u],(BK st).names.lookup y.1=Aa .local\/((BK st).names.lookup y.1=Aa .cell/\((B1 (s.heap.objs.size+1) (BK st).names []).lookup y.1).isSome=Ab):=λy hy=>by
  refine .inl ?_;rcases AR.mp hy with rfl|hy
  .exact l1
  .rw[Bn.mp hy];exact l2
 have rv:AS [.ref e,v] [.ref e,u] := .cons rfl (.cons r .nil);refine Qw hdp (KX _ _ lk) rfl S.co S.gen rfl (Qp KX hcd) (bd s [.ref e,u] KX rfl _ _ _ _ ?_);refine QC S.kind hkind λenv hen s1' x => ?_
 subst hen;refine⟨lim.keeps x.toInCall.keep,codeAny_func ?_⟩;have I:Inv (DW Jh P w K mg base ["self",par] qual (BK st) fI cdv A outer s H E) [] (start ["self",par] [.ref e,v]) H s1':=LU S hh e0 rfl rv x;generalize hX:DW Jh P w K mg base ["self",par] qual (BK st) fI cdv A outer s H E=X at I;have pself : ∀ p,PE X (.Name "self" p) (DJ 0):=λp=>by rw[<-hX];exact Ir rfl (.inl l1)
 have ppar : ∀ p,PE X (.Name par p) (DJ 1):=λp=>by rw[<-hX];exact Ir rfl (.inl l2) dp dq
 have st1:=RH (X:=X) (CL:=CL) (C:=C) (g:=g) (np:=np) (apos:=apos) (cpos:=cpos) (i:=0) (j:=1) (OV:=OV) (by rw[<-hX];exact hob) (by rw[<-hX];exact gl) (by rw[<-hX];exact mo) dg (by rw[<-hX];exact s1) (by rw[<-hX];exact s2) (by rw[<-hX];exact s3) hl (pself p1)
  (hz.pe X CL 1 (by rw[<-hX];show A.units+3+64<Bo;omega) (by rw[<-hX];exact hgd) ppar) rfl (hz.st _)
 have st2:=Ua (X:=X) (p8:=p8) (p10:=p10) (by rw[<-hX];exact hob) (by rw[<-hX];rfl) (by rw[<-hX];exact hf) (by rw[<-hX];exact hs) (pself p7) (ppar p9) rfl
 have all:=Mg (Hq (pos:=p6) st1 rfl) (Ho st2);have hk:=all [] s1' _ H {nx:=λ_ H' => ∃ t' dx,H dx=Af/\dx≠e/\H'=upd (upd H e (.ext (XEx e C (Aa dx) t'))) dx (.xd [(f,v)]),rt:=λ_ _=>AT} I ⟨e,Af,t,v,d,B,n,rfl,he,rfl,by rw[<-hX];exact rp,hx,hn,λt'=>⟨e,t',v,rfl,Dt,rfl,λdx h1 h2=>⟨t',dx,by rw[Bb h2]at h1;exact h1,h2,by rw[MH]⟩⟩⟩
 rw[body];refine AZ (by rw[<-hX]at hk;exact hk) (λfl s' hfl => ?_) λev s' hev=>hev
 cases fl with
 |next=>
  obtain⟨Z',H',J,w'⟩:=hfl;exact⟨.non,H',J.os,J.bare,J.base,J.hok,rfl,rfl,w'⟩
 |ret y=>obtain⟨_,_,_,_,_,w'⟩:=hfl;exact w'.elim
 |brk=>obtain⟨_,_,_,w'⟩:=hfl;exact w'.elim
 |cont=>obtain⟨_,_,_,w'⟩:=hfl;exact w'.elim
end
theorem NC : ∀(n m:Ae)(d:D),xfD n d=Ab->n+1<=m->nlD m d=Ab
 |0,m+1,.int i,_,_=>rfl
 |n+1,m+1,.tup ds,h,hm=>by
  have h':(Ck ds.length 8&&ds.all (xfD n))=Ab:=h;rw[Al]at h';show ds.all (nlD m)=Ab;rw[Cj]at h' ⊢;exact λx hx=>NC n m x (h'.2 x hx) (by omega)
 |0,_,.tup _,h,_=>nomatch h
 |n+1,_,.int _,h,_=>nomatch h
section
variable{X:Cx}{CL:ClA}{W:XW}
noncomputable def G0(xn:Ae->Ad D->R Ex)(c:Ae)(f:Ag)(ds:Ad D):Prop := ∃ d n,ds=[d]/\xfD n d=Ab/\n<=2/\xn c ds = .ok ⟨c,[(f,d)]⟩
theorem Rm{e:Ak}{es:Ad Ak}(hcalm:X.calm=Ab)(hx:X.ex=[])(hr:Room k X.A)(rz:HK X CL W)(hg:Gl X g)(hm:X.mg g=Aa (.ref C))(hdb:(g==("__debug__" : Ag))=Ac)(hcl:CL c=Aa C)(ha:SA X CL W (e::es) fs)(hxn : ∀ ds,xn c ds = .bad\/(xn c ds = .ok ⟨c,[]⟩/\Ci X.K C Af=Ab) \/ ∃ f,XIn X.K X.mg C f/\G0 xn c f ds)(he:Aq (e::es) X.env=(Ac,eval e X.env)::Aq es X.env)(hpl : ∀ pos,(Bv pos (Aq es X.env)).any (·.1)=Ac)(hz : ∀ Y ds,fs Y = .ok ds->ds.length<=100000):SS X CL W (.Raise (Aa (.Call (.Name g np) (e::es) [] cpos)) Af pos) (λY=>O.of Y (noX (fs Y)) λxs=>O.of Y (xn c xs) λx =>.exn x Y):=λFz B pI s Z H D I ⟨Y,x,p⟩=>by
 have hpl':(Bv cpos (Aq (e::es) X.env)).any (·.1)=Ac:=by rw[he];show (Ac||(Bv cpos (Aq es X.env)).any (·.1))=Ac;rw[hpl];rfl
 cases e1:fs Y with
 |bad=>dsimp only at p;rw[e1]at p;exact p.elim
 |exn y=>dsimp only at p;rw[e1]at p;exact p.elim
 |ok ds=>
  rcases hxn ds with e2|⟨e2,xc⟩|⟨f,xi,d,n,rfl,xf,hn,e2⟩
  .dsimp only at p;rw[e1]at p;have p2:By X.K CL Fz B W (O.of Y (xn c ds) λx => .exn x Y) D:=p
   rw[e2]at p2;exact p2.elim
  .refine Rx (fs:=fs) (xn:=λ_ ds'=>match xn c ds' with | .ok ⟨_,[]⟩ => .ok ⟨c,[]⟩|_ => .bad) hcalm rz hg hm hdb xc hcl ha (λds'=>by
    split
    .exact .inr rfl
    .exact .inl rfl) he hpl hz Fz B pI s Z H D I ⟨Y,x,?_⟩
   dsimp only at p ⊢;rw[e1]at p ⊢;have p2:By X.K CL Fz B W (O.of Y (xn c ds) λx => .exn x Y) D:=p
   rw[e2]at p2;show By X.K CL Fz B W (O.of Y (match xn c ds with | .ok ⟨_,[]⟩=>(.ok ⟨c,[]⟩:R Ex)|_ => .bad) λx => .exn x Y) D
   rw[e2];exact p2
  .dsimp only at p;rw[e1]at p;have p2:By X.K CL Fz B W (O.of Y (xn c [d]) λx => .exn x Y) D:=p
   rw[e2]at p2;have p3 : ∀ H,(∀ b o,Fz b o->H b=Aa o)->W ⟨c,[(f,d)]⟩ H:=p2;cases xi with
   |mk xc dc fn ty S l1 l2 bd body gl mo dg dp dq w1 w2 w3 hl hz0 hf hs=>
    rename_i fI OV x0 qual g0 par j0 st fd np0 apos q1 cpos0 q6 q7 q8 q9 q10;obtain⟨bm,N,nm,qn,bs,hd,sn,sub,ab,col,dd,k0,k1,k2,k3,k5,mN,hob,hni,hbase⟩:=JB I.kIn xc;have hdt:hd=Ab:=by
     unfold Ee at dc;split at dc
     .rename_i c0 d0 cd sl lk;have g1:=I.kIn _ _ lk;rw[(hob _ I.kIn).1]at g1;unfold BA at g1;cases g1;exact dc
     .cases dc
    subst hdt;have hob2 : ∀ h:Ay,X.K.In h->h.get? C=Aa (BA nm qn C N bs bm Ab sn sub ab col dd k0 k1 k2 k3 k5 "ValueError.__new__")/\CF h veB bm:=λh z=>⟨(hob h z).1,(hob h z).2.2⟩
    refine RU (bmB:=veB) (nm:=nm) (q:=qn) (C:=C) (N:=N) (fI:=fI) (bs:=bs) (bm:=bm) (hdct:=Ab) (sn:=sn) (sub:=sub) (ab:=ab) (col:=col) (dd:=dd) (k0:=k0) (k1:=k1) (k2:=k2) (k3:=k3) (k5:=k5) (mN:=mN) C8 hbase (I.ok.hd hcalm) hpl' hni ?_;refine Gk I hg hm ⟨rfl,?_⟩ hdb;have q1:=ha (Bk B Y Z) cpos pI s Z H (λvs H1=>Av H H1/\Reps X.K CL H1 (Bk B Y Z) vs [d]) I ⟨x.aok,Y,x.good,by rw[e1];exact λvs H1 s1 r1=>⟨s1,r1⟩⟩
    rw[he]at q1 ⊢;refine C2 (AZ q1 (λus s2 ⟨vs,H2,I2,r2,sm2,rps⟩=>⟨rfl,?_⟩) λ_ _ z=>z)
    cases vs with
    |nil=>exact rps.elim
    |cons v vs=>
     cases vs with
     |cons=>exact rps.2.elim
     |nil=>
      obtain⟨u,rfl,ru⟩:=GV r2;obtain⟨o1,o2,o3⟩:=hob _ I2.kIn;obtain⟨oc,od,kV,doc,pm,an,cdv,ct,osl,efd,lk,hcd⟩:=fn.ex;have coc:oc = .type "function" := by
       have ty':(X.K.lookup fI).map _=_:=ty;rw[lk]at ty';exact BD ty'
      refine⟨by rw[Cc];show 1<=_;omega,o1,o2,o3,⟨_,I2.kIn _ _ lk,coc⟩,λh' e0 made => ?_⟩
      obtain⟨t,ge,_⟩:=made.there;have I3:Inv X pI Z H2 {s2 with heap:=h'}:=I2.kept (t':=s2.toks) made.keeps
      have ap:EG X pI e0:=Hk I2 hx made.new;have n0:H2 e0=Af:=GN I2.hok made.new;have I4:=MC (o := .ext (XEx e0 C Af t)) I3 ap n0 ⟨ge,⟨_,ge⟩,J7⟩;have sm4:Av H2 (upd H2 e0 (.ext (XEx e0 C Af t))):=λb o z=>by rw[Bb λy=>by rw[y,n0]at z;cases z];exact z
      have ru0:=hr.mono (En k);have run:=Ts (P:=X.prog) (w:=X.w) (mg:=X.mg) (base:=X.base) (CL:=CL) (E:=λ_ _ _=>AT) (B:=Bk B Y Z) (H:=upd H2 e0 (.ext (XEx e0 C Af t))) (t:=t) hob2 fn S l1 l2 bd body gl mo dg dp dq w1 w2 w3 hl hz0 hf hs (A:=X.A.under (.builtin "type.__call__" ⟨.ref C::[u],[]⟩)) (outer:=X.stack) hr.hd (by rw[QZ];have:=ru0.dp;omega) (by rw[QY];have:=ru0.un;omega) hr.gd (I4.env0.make C [u] []) Dt (Rep.same sm4 rps.1) xf hn ru
      refine EK (Ea run λr s' hq => ?_)
      cases r with
      |error _=>exact A5 hq
      |ok fl=>
       cases fl with
       |next=>exact A5 hq
       |brk=>exact A5 hq
       |cont=>exact A5 hq
       |ret u'=>
        obtain⟨v',H5,I5,rr,ev,t',dx,ndx,dne,eH⟩:=I4.after hq;subst ev;cases rr;have nd2:H2 dx=Af:=by rw[Bb dne]at ndx;exact ndx
        rw[MH]at eH;have H5e:H5 e0=Aa (.ext (XEx e0 C (Aa dx) t')):=by rw[eH,Bb (Da dne),Dt]
        have ge5:XEx e0 C (Aa dx) t' s'.heap:=(I5.hok e0 _ H5e).1;have I6:=R8 I5 H5e ap.2.2.2 λ_=>trivial
        have H6d:(if dx=e0 then Af else H5 dx)=Aa (.xd [(f,v)]):=by rw[A8 dne,eH,Dt]
        have sm6:Av H2 (λb=>if b=e0 then Af else H5 b):=λb o z=>by
         have nb:b≠e0:=λy=>by rw[y,n0]at z;cases z
         have nb2:b≠dx:=λy=>by rw[y,nd2]at z;cases z
         show (if b=e0 then Af else H5 b)=Aa o
         rw[A8 nb,eH,Bb nb2,Bb nb];exact z
        refine⟨rfl,t',Aa dx,(hob2 _ I6.kIn).1,ge5,rz pI Z _ s' e0 C (Aa dx) t' ⟨c,[(f,d)]⟩ I6 (λhx=>Gg I2 hx made.new) (AY rfl) ge5 (λA hA=>⟨C,hcl,rfl,.inr ⟨dx,[(f,v)],rfl,λz => ?_,H6d,⟨rfl,?_⟩,trivial⟩⟩) (p3 _ λb o z=>sm6 _ _ (sm2 _ _ (x.same b o z)))⟩
        .obtain⟨ys,q⟩:=hA dx z;have q':(if dx=e0 then Af else H5 dx)=Aa (.lst ys):=q
         rw[H6d]at q';cases q'
        .exact Ky hA 5 d (NC n 5 d xf (by omega)) (Rep.sub (λ_ z=>z.elim) _ (Rep.same sm6 rps.1))
end
section
variable{prog:AE}{w:Ar}{A:AN}{E:Ah->Am->Prop}{h:Ay}{g:Ba CQ}{d:Fc}{t:Ae}{os:EL}{K:Fg}{e C dx:Ai}{f:Ag}{mA:Ag->An Ah}{v:Ah}
theorem J8(p:FN e C (Aa dx) h):XAt e C h:=let ⟨o,a,b,_⟩:=p;⟨o,a,b⟩
theorem QP{Q:Fin->Am->Prop}(X:K.In h)(hf:Au K (.ref C) f=Aa Af)(hd:Ee K C=Ab)(p:FN e C (Aa dx) h)(hn:h.Ns1 dx mA)(hv:mA f=Aa v)(hq:Q (.done (.ret v)) ⟨h,g,d,t,os⟩):As (model prog w) A (Builtin.«object.__getattribute__» ⟨[.ref e,.str f tk],[]⟩) Q E ⟨h,g,d,t,os⟩:=by
 have L0:=F2 (M:=model prog w) (J8 p);have L1:=BH (M:=model prog w) X hf;obtain⟨o,ge,oc,od,us,dt⟩:=p;unfold Ee at hd;split at hd
 .rename_i c' d' cd' sl' lk;have gC:=X _ _ lk;unfold Builtin.«object.__getattribute__»
  repeat (any_goals (first|assumption|with_reducible refine L0.at ?_|with_reducible refine L1.at ?_|wp_step))
  rw[dt];unfold instanceDict
  repeat (first|(with_reducible refine Bu ge ?_;rw[oc])|with_reducible refine Bu gC ?_|wp_step)
  rw[od]
  repeat (first|(with_reducible refine wpAny_nsGet hn.ns ?_;rw[hv])|wp_step)
  exact hq
 .cases hd
theorem Uy{Q:Ah->Am->Prop}(X:K.In h)(x:XcOk K C)(hf:Au K (.ref C) f=Aa Af)(hd:Ee K C=Ab)(p:FN e C (Aa dx) h)(hn:h.Ns1 dx mA)(hv:mA f=Aa v)(hh:handedOut v=pure v)(hq:Q v ⟨h,g,d,t,os⟩):As (model prog w) A (getAttrBy (.ref e) (.str f tk) fill expr) Q E ⟨h,g,d,t,os⟩:=by
 have L0:=F2 (M:=model prog w) (J8 p);have L1:=BH (M:=model prog w) X x.ga;have L2:=BH (M:=model prog w) X x.gt;have f3:=DD.ga.bind (.ref e);have hx0:(expr&&FZ (B7 "BaseException.__getattribute__"))=Ac:=by cases expr <;> rfl
 have hx2:(B7 "BaseException.__getattribute__" == B7 "object.__getattribute__")=Ac:=by decide+kernel
 have hx1:(FZ (BG C)&&B7 "BaseException.__getattribute__" == B7 "object.__getattribute__")=Ac:=by rw[hx2];rfl
 repeat (any_goals (first|assumption|with_reducible refine L0.at ?_|with_reducible refine L1.at ?_|with_reducible refine L2.at ?_|wp_step))
 refine Cz DD.ga.plain PR (Lu X x (J8 p) (QP X hf hd p hn hv ?_))
 repeat (any_goals (first|assumption|wp_step))
 all_goals trace_state
theorem RV{b:Aj}{Q:Ah->Am->Prop}(X:K.In h)(x:XcOk K C)(hf:Au K (.ref C) f=Aa Af)(hd:Ee K C=Ab)(p:FN e C (Aa dx) h)(hn:h.Ns1 dx mA)(hv:mA f=Aa v)(hh:handedOut v=pure v)(hq:Q v ⟨h,g,d,t+1,os⟩):As (model prog w) A (getAttr (.ref e) f b) Q E ⟨h,g,d,t,os⟩:=by
 unfold getAttr
 repeat (any_goals (first|assumption|with_reducible apply Uy X x hf hd p hn hv hh|wp_step))
end
section
variable{X:Cx}{CL:ClA}{W:XW}{K:Fg}{H:Hp}{A:Ai->Prop}
theorem Me{f:Ag}{d:D} : ∀{vs:Ad (Ag × V)}{fs:Ad (Ag × D)},Repf K CL H A vs fs->fs.lookup f=Aa d -> ∃ v,vs.lookup f=Aa v/\Rep K CL H A v d
 |[],[],_,q=>nomatch q
 |(n,v)::vs,(m,d')::fs,⟨⟨e,r⟩,rs⟩,q=>by
  have e':n=m:=e;subst e';by_cases z:(f==n)=Ab
  .simp only[CC,z]at q ⊢;cases q;exact⟨v,rfl,r⟩
  .simp only[CC,z]at q ⊢;exact Me rs q
theorem MN{a:Ak}{fa:Rho->R D}{f:Ag}(hxc : ∀ c C,CL c=Aa C->XcOk X.K C)(hnf : ∀ c C,CL c=Aa C->Ee X.K C=Ab/\Au X.K (.ref C) f=Aa Af)(ha:ST X CL W a fa)(hb:DN a f X.env (eval a X.env)=eval a X.env):SE X CL W (.Attribute a f pos) (λY=>(fa Y).bind λx=>HL x f):=λA=>by
 intro pI s Z H Q I ⟨hA,Y,gd,q⟩;refine UN hb (thn (ha A pI s Z H _ I ⟨hA,Y,gd,A3.bind q (Q':=λv H1 => ∃ d,BZ X.K CL H1 A v d/\A3 (λH2=>Rep X.K CL H2 A) W H1 (HL d f) Q) λd v H1 _ s1 r1 p1=>⟨d,r1,p1⟩⟩) λu s1 ⟨v,H1,I1,rv,d,rp,p1⟩ => ?_)
 cases d with
 |exc c fs=>
  have p2:A3 (λH2=>Rep X.K CL H2 A) W H1 (match fs.lookup f with|some d => .ok d|none => .bad) Q:=p1
  cases el:fs.lookup f with
  |none=>rw[el]at p2;exact p2.elim
  |some d=>
   rw[el]at p2;rcases rp with ⟨e,C,φ,rfl,_,hc,hH,hφ,hfs⟩|⟨a,xs,ds,_,z,_⟩
   .rcases hfs with z|⟨dx,vs,nd,hd,rf,hφ2⟩
    .rw[z]at el;cases el
    .obtain⟨y,l,ry⟩:=Me rf el;cases rv;have ph:=(I1.hok e _ hH).1;obtain⟨o,ge,oc⟩:=hφ _ ph;obtain⟨o',ge',od,us,odt⟩:=hφ2 _ ph;rw[ge]at ge';cases ge';obtain⟨mA,hn,rel⟩:=I1.hok dx _ hd;obtain⟨u',hu,ru⟩:=HP.some_of (v:=y) (o:=mA f) (by rw[<-l];exact rel f)
     obtain⟨k1,k2⟩:=hnf c C hc;obtain⟨hp,g2,d2,tk2,os2⟩:=s1;exact RV I1.kIn (hxc c C hc) k2 k1 ⟨o,ge,oc,od,us,odt⟩ hn hu (PySem.W.handedOut_of (Q6 ru)) ⟨y,H1,I1.tok _,ru,p2 y H1 (Av.refl H1) ry⟩
   .cases z
 |_=>exact p1.elim
end
theorem noF{P:Prop}(h:Ac=Ab):P:=nomatch h
structure Tc where
 sc:Bw
 N:Ad Ag
 /-- a def's name, its number, how many parameters it has -/
 fns:Ad (Ag × Ae × Ae)
 /-- built-in names that the text does not hide -/
 bl:Ad Ag
 /-- exceptions' classes by their names: those that are raised, all that are asked for -/
 rzs:Ad (Ag × Ae)
 exs:Ad (Ag × Ae)
 /-- the text's constants -/
 gls:Ad (Ag × Ae)
 /-- in no comprehension -/
 tp:Aj
noncomputable def KZ(T:Tc)(x:Ag):Aj:=match T.sc.names.lookup x with
  |some .local=>Ab
  |some .cell=>Ab
  |some .free=>Ab
  |_=>Ac
noncomputable def FO(T:Tc)(x:Ag):Aj:=match T.sc.names.lookup x with
  |some .local=>Ab
  |some .cell=>Ab
  |_=>Ac
noncomputable def glB(T:Tc)(x:Ag):Aj:=T.sc.names.lookup x==Aa .globalImplicit
noncomputable def Ef(x:Ag):Aj := !(x==("__debug__" : Ag)) && !(x==("__classdict__" : Ag)) && !(x==("__name__" : Ag))
noncomputable def isV(T:Tc)(x:Ag)(i:Ae):Aj:=T.N[i]? == Aa x&&KZ T x&&Ef x
noncomputable def isB(T:Tc)(x:Ag):Aj:=T.bl.contains x&&glB T x&&Ef x
theorem BC{a b:Aj}(h:(a&&b)=Ab):a=Ab/\b=Ab:=(Al a b).mp h
theorem orT{a b:Aj}(h:(a||b)=Ab):a=Ab\/b=Ab:=(BN a b).mp h
noncomputable def DE(e:Ak)(F:Ag->Aj):Aj:=if c:e.ctorIdx=23 then PH (motive_1:=λ_=>Aj) e c λx _=>F x else Ac
theorem DR{e:Ak}{F:Ag->Aj}(h:DE e F=Ab) : ∃ x p,e=PF x p/\F x=Ab:=by
 by_cases c:e.ctorIdx=23
 .exact PH (motive_1:=λe=>DE e F=Ab -> ∃ x p,e=PF x p/\F x=Ab) e c (λx p h=>⟨x,p,rfl,h⟩) h
 .exact noF ((Bt c).symm.trans h)
noncomputable def Fj(e:Ak)(F:Const->Aj):Aj:=if c:e.ctorIdx=19 then Py (motive_1:=λ_=>Aj) e c λc _ _=>F c else Ac
theorem Gf{e:Ak}{F:Const->Aj}(h:Fj e F=Ab) : ∃ c u p,e=Px c u p/\F c=Ab:=by
 by_cases c:e.ctorIdx=19
 .exact Py (motive_1:=λe=>Fj e F=Ab -> ∃ c u p,e=Px c u p/\F c=Ab) e c (λc u p h=>⟨c,u,p,rfl,h⟩) h
 .exact noF ((Bt c).symm.trans h)
noncomputable def IA(e:Ak)(F:Ak->Dq->Ak->Aj):Aj:=if c:e.ctorIdx=2 then Pq (motive_1:=λ_=>Aj) e c λx o y _=>F x o y else Ac
theorem Mm{e:Ak}{F:Ak->Dq->Ak->Aj}(h:IA e F=Ab) : ∃ x o y p,e=Pp x o y p/\F x o y=Ab:=by
 by_cases c:e.ctorIdx=2
 .exact Pq (motive_1:=λe=>IA e F=Ab -> ∃ x o y p,e=Pp x o y p/\F x o y=Ab) e c (λx o y p h=>⟨x,o,y,p,rfl,h⟩) h
 .exact noF ((Bt c).symm.trans h)
noncomputable def G1(e:Ak)(F:GD->Ak->Aj):Aj:=if c:e.ctorIdx=3 then PP (motive_1:=λ_=>Aj) e c λo x _=>F o x else Ac
theorem J5{e:Ak}{F:GD->Ak->Aj}(h:G1 e F=Ab) : ∃ o x p,e=PN o x p/\F o x=Ab:=by
 by_cases c:e.ctorIdx=3
 .exact PP (motive_1:=λe=>G1 e F=Ab -> ∃ o x p,e=PN o x p/\F o x=Ab) e c (λo x p h=>⟨o,x,p,rfl,h⟩) h
 .exact noF ((Bt c).symm.trans h)
noncomputable def F6(e:Ak)(F:BoolOp->Ad Ak->Az->Aj):Aj:=if c:e.ctorIdx=0 then Ps (motive_1:=λ_=>Aj) e c λo xs p=>F o xs p else Ac
theorem Hh{e:Ak}{F:BoolOp->Ad Ak->Az->Aj}(h:F6 e F=Ab) : ∃ o xs p,e=Pr o xs p/\F o xs p=Ab:=by
 by_cases c:e.ctorIdx=0
 .exact Ps (motive_1:=λe=>F6 e F=Ab -> ∃ o xs p,e=Pr o xs p/\F o xs p=Ab) e c (λo xs p h=>⟨o,xs,p,rfl,h⟩) h
 .exact noF ((Bt c).symm.trans h)
noncomputable def HA(e:Ak)(F:Ak->Ad Cd->Ad Ak->Aj):Aj:=if c:e.ctorIdx=15 then Pw (motive_1:=λ_=>Aj) e c λx os ys _=>F x os ys else Ac
theorem Mk{e:Ak}{F:Ak->Ad Cd->Ad Ak->Aj}(h:HA e F=Ab) : ∃ x os ys p,e=Pv x os ys p/\F x os ys=Ab:=by
 by_cases c:e.ctorIdx=15
 .exact Pw (motive_1:=λe=>HA e F=Ab -> ∃ x os ys p,e=Pv x os ys p/\F x os ys=Ab) e c (λx os ys p h=>⟨x,os,ys,p,rfl,h⟩) h
 .exact noF ((Bt c).symm.trans h)
noncomputable def GY(e:Ak)(F:Ak->Ad Ak->Ad D1->Az->Aj):Aj:=if c:e.ctorIdx=16 then Pu (motive_1:=λ_=>Aj) e c λf as ks p=>F f as ks p else Ac
theorem Jw{e:Ak}{F:Ak->Ad Ak->Ad D1->Az->Aj}(h:GY e F=Ab) : ∃ f as ks p,e=Pt f as ks p/\F f as ks p=Ab:=by
 by_cases c:e.ctorIdx=16
 .exact Pu (motive_1:=λe=>GY e F=Ab -> ∃ f as ks p,e=Pt f as ks p/\F f as ks p=Ab) e c (λf as ks p h=>⟨f,as,ks,p,rfl,h⟩) h
 .exact noF ((Bt c).symm.trans h)
noncomputable def Gs(e:Ak)(F:Ak->Ag->Az->Aj):Aj:=if c:e.ctorIdx=20 then Po (motive_1:=λ_=>Aj) e c λo m p=>F o m p else Ac
theorem Ia{e:Ak}{F:Ak->Ag->Az->Aj}(h:Gs e F=Ab) : ∃ o m p,e=Pn o m p/\F o m p=Ab:=by
 by_cases c:e.ctorIdx=20
 .exact Po (motive_1:=λe=>Gs e F=Ab -> ∃ o m p,e=Pn o m p/\F o m p=Ab) e c (λo m p h=>⟨o,m,p,rfl,h⟩) h
 .exact noF ((Bt c).symm.trans h)
noncomputable def Kt(e:Ak)(F:Ak->Ak->Aj):Aj:=if c:e.ctorIdx=21 then PK (motive_1:=λ_=>Aj) e c λx y _=>F x y else Ac
theorem RL{e:Ak}{F:Ak->Ak->Aj}(h:Kt e F=Ab) : ∃ x y p,e=PJ x y p/\F x y=Ab:=by
 by_cases c:e.ctorIdx=21
 .exact PK (motive_1:=λe=>Kt e F=Ab -> ∃ x y p,e=PJ x y p/\F x y=Ab) e c (λx y p h=>⟨x,y,p,rfl,h⟩) h
 .exact noF ((Bt c).symm.trans h)
noncomputable def GW(e:Ak)(F:Ad Ak->Aj):Aj:=if c:e.ctorIdx=25 then PM (motive_1:=λ_=>Aj) e c λxs _ _=>F xs else Ac
theorem H9{e:Ak}{F:Ad Ak->Aj}(h:GW e F=Ab) : ∃ xs c p,e=PL xs c p/\F xs=Ab:=by
 by_cases c:e.ctorIdx=25
 .exact PM (motive_1:=λe=>GW e F=Ab -> ∃ xs c p,e=PL xs c p/\F xs=Ab) e c (λxs c p h=>⟨xs,c,p,rfl,h⟩) h
 .exact noF ((Bt c).symm.trans h)
noncomputable def IF(e:Ak)(F:Ad Ak->Aj):Aj:=if c:e.ctorIdx=24 then PB (motive_1:=λ_=>Aj) e c λxs _=>F xs else Ac
theorem JF{e:Ak}{F:Ad Ak->Aj}(h:IF e F=Ab) : ∃ xs p,e=Pz xs p/\F xs=Ab:=by
 by_cases c:e.ctorIdx=24
 .exact PB (motive_1:=λe=>IF e F=Ab -> ∃ xs p,e=Pz xs p/\F xs=Ab) e c (λxs p h=>⟨xs,p,rfl,h⟩) h
 .exact noF ((Bt c).symm.trans h)
noncomputable def Kw(e:Ak)(F:Ak->Ad FS->Bw->Aj):Aj:=if c:e.ctorIdx=8 then PD (motive_1:=λ_=>Aj) e c λx gs sc _=>F x gs sc else Ac
theorem RP{e:Ak}{F:Ak->Ad FS->Bw->Aj}(h:Kw e F=Ab) : ∃ x gs sc p,e=PC x gs sc p/\F x gs sc=Ab:=by
 by_cases c:e.ctorIdx=8
 .exact PD (motive_1:=λe=>Kw e F=Ab -> ∃ x gs sc p,e=PC x gs sc p/\F x gs sc=Ab) e c (λx gs sc p h=>⟨x,gs,sc,p,rfl,h⟩) h
 .exact noF ((Bt c).symm.trans h)
noncomputable def Kx(e:AC)(F:Ad Ak->Ak->Aj):Aj:=if c:e.ctorIdx=5 then P8 (motive_2:=λ_=>Aj) e c λts v _=>F ts v else Ac
theorem Rt{e:AC}{F:Ad Ak->Ak->Aj}(h:Kx e F=Ab) : ∃ ts v p,e=P7 ts v p/\F ts v=Ab:=by
 by_cases c:e.ctorIdx=5
 .exact P8 (motive_2:=λe=>Kx e F=Ab -> ∃ ts v p,e=P7 ts v p/\F ts v=Ab) e c (λts v p h=>⟨ts,v,p,rfl,h⟩) h
 .exact noF ((Bt c).symm.trans h)
noncomputable def GX(e:AC)(F:Ak->Aj):Aj:=if c:e.ctorIdx=24 then Qa (motive_2:=λ_=>Aj) e c λv _=>F v else Ac
theorem Jv{e:AC}{F:Ak->Aj}(h:GX e F=Ab) : ∃ v p,e=P9 v p/\F v=Ab:=by
 by_cases c:e.ctorIdx=24
 .exact Qa (motive_2:=λe=>GX e F=Ab -> ∃ v p,e=P9 v p/\F v=Ab) e c (λv p h=>⟨v,p,rfl,h⟩) h
 .exact noF ((Bt c).symm.trans h)
noncomputable def Kv(e:AC)(F:An Ak->Aj):Aj:=if c:e.ctorIdx=3 then Qg (motive_2:=λ_=>Aj) e c λo _=>F o else Ac
theorem RM{e:AC}{F:An Ak->Aj}(h:Kv e F=Ab) : ∃ o p,e=Qf o p/\F o=Ab:=by
 by_cases c:e.ctorIdx=3
 .exact Qg (motive_2:=λe=>Kv e F=Ab -> ∃ o p,e=Qf o p/\F o=Ab) e c (λo p h=>⟨o,p,rfl,h⟩) h
 .exact noF ((Bt c).symm.trans h)
noncomputable def IV(e:AC)(F:Ak->Ad AC->Ad AC->Aj):Aj:=if c:e.ctorIdx=12 then Qc (motive_2:=λ_=>Aj) e c λt xs ys _=>F t xs ys else Ac
theorem Mx{e:AC}{F:Ak->Ad AC->Ad AC->Aj}(h:IV e F=Ab) : ∃ t xs ys p,e=Stmt.If t xs ys p/\F t xs ys=Ab:=by
 by_cases c:e.ctorIdx=12
 .exact Qc (motive_2:=λe=>IV e F=Ab -> ∃ t xs ys p,e=Stmt.If t xs ys p/\F t xs ys=Ab) e c (λt xs ys p h=>⟨t,xs,ys,p,rfl,h⟩) h
 .exact noF ((Bt c).symm.trans h)
noncomputable def IG(e:AC)(F:Ak->Ak->Ad AC->Ad AC->Aj):Aj:=if c:e.ctorIdx=9 then Qb (motive_2:=λ_=>Aj) e c λt it xs ys _=>F t it xs ys else Ac
theorem Mj{e:AC}{F:Ak->Ak->Ad AC->Ad AC->Aj}(h:IG e F=Ab) : ∃ t it xs ys p,e=Stmt.For t it xs ys p/\F t it xs ys=Ab:=by
 by_cases c:e.ctorIdx=9
 .exact Qb (motive_2:=λe=>IG e F=Ab -> ∃ t it xs ys p,e=Stmt.For t it xs ys p/\F t it xs ys=Ab) e c (λt it xs ys p h=>⟨t,it,xs,ys,p,rfl,h⟩) h
 .exact noF ((Bt c).symm.trans h)
noncomputable def IE(e:AC)(F:An Ak->An Ak->Aj):Aj:=if c:e.ctorIdx=16 then Qe (motive_2:=λ_=>Aj) e c λa b _=>F a b else Ac
theorem RN{e:AC}{F:An Ak->An Ak->Aj}(h:IE e F=Ab) : ∃ a b p,e=Qd a b p/\F a b=Ab:=by
 by_cases c:e.ctorIdx=16
 .exact Qe (motive_2:=λe=>IE e F=Ab -> ∃ a b p,e=Qd a b p/\F a b=Ab) e c (λa b p h=>⟨a,b,p,rfl,h⟩) h
 .exact noF ((Bt c).symm.trans h)
noncomputable def FI{α:Type}:Ad α->(α->Ad α->Aj)->Aj
 |[],_=>Ac
 |x::xs,F=>F x xs
theorem F1{l:Ad α}{F:α->Ad α->Aj}(h:FI l F=Ab) : ∃ x xs,l=x::xs/\F x xs=Ab:=by
 cases l with
 |nil=>exact noF h
 |cons x xs=>exact⟨x,xs,rfl,h⟩
theorem Fi{l:Ad α}(h:l.isEmpty=Ab):l=[]:=List.isEmpty_iff.mp h
noncomputable def C3{α:Type}(l:Ad α)(F:α->Aj):Aj:=FI l λx r=>r.isEmpty&&F x
theorem DS{l:Ad α}{F:α->Aj}(h:C3 l F=Ab) : ∃ x,l=[x]/\F x=Ab:=by
 obtain⟨x,r,rfl,h⟩:=F1 h;obtain⟨h1,h2⟩:=BC h;exact⟨x,by rw[Fi h1],h2⟩
noncomputable def FK{α:Type}(l:Ad α)(F:α->α->Aj):Aj:=FI l λx r=>C3 r λy=>F x y
theorem GJ{l:Ad α}{F:α->α->Aj}(h:FK l F=Ab) : ∃ x y,l=[x,y]/\F x y=Ab:=by
 obtain⟨x,r,rfl,h⟩:=F1 h;obtain⟨y,rfl,h⟩:=DS h;exact⟨x,y,rfl,h⟩
noncomputable def Gr(e:Ak)(F:Ag->Ad Ak->Aj):Aj:=GY e λf as ks _=>DE f λg=>ks.isEmpty&&F g as
theorem GK{e:Ak}{F:Ag->Ad Ak->Aj}(h:Gr e F=Ab) : ∃ g p as q,e = .Call (.Name g p) as [] q/\F g as=Ab:=by
 obtain⟨f,as,ks,q,rfl,h⟩:=Jw h;obtain⟨g,p,rfl,h⟩:=DR h;obtain⟨h1,h2⟩:=BC h;exact⟨g,p,as,q,by rw[Fi h1],h2⟩
noncomputable def GQ(e:Ak)(F:Ag->Ak->Ad Ak->Aj):Aj:=Gr e λg l=>FI l λx xs=>F g x xs
theorem Hd{e:Ak}{F:Ag->Ak->Ad Ak->Aj}(h:GQ e F=Ab) : ∃ g p x xs q,e = .Call (.Name g p) (x::xs) [] q/\F g x xs=Ab:=by
 obtain⟨g,p,as,q,rfl,h⟩:=GK h;obtain⟨x,xs,rfl,h⟩:=F1 h;exact⟨g,p,x,xs,q,rfl,h⟩
noncomputable def ND(st:AC)(F:Ag->Ag->Ad Ak->Aj):Aj:=GX st λe=>GY e λf as ks cp=>Gs f λo m ap=>DE o λx=>ks.isEmpty&&(ap.endLine==cp.line&&F x m as)
theorem RO{st:AC}{F:Ag->Ag->Ad Ak->Aj}(h:ND st F=Ab) : ∃ x p m ap as cp q,st = .Expr (.Call (.Attribute (.Name x p) m ap) as [] cp) q/\ap.endLine=cp.line/\F x m as=Ab:=by
 obtain⟨e,q,rfl,h⟩:=Jv h;obtain⟨f,as,ks,cp,rfl,h⟩:=Jw h;obtain⟨o,m,ap,rfl,h⟩:=Ia h;obtain⟨x,p,rfl,h⟩:=DR h;obtain⟨h1,h⟩:=BC h;obtain⟨h2,h3⟩:=BC h;exact⟨x,p,m,ap,as,cp,q,by rw[Fi h1],eq_of_beq h2,h3⟩
noncomputable def NE(st:AC)(F:Ak->Ak->Aj):Aj:=Kx st λts v=>C3 ts λt=>F t v
theorem Ru{st:AC}{F:Ak->Ak->Aj}(h:NE st F=Ab) : ∃ t v q,st = .Assign [t] v q/\F t v=Ab:=by
 obtain⟨ts,v,q,rfl,h⟩:=Rt h;obtain⟨t,rfl,h⟩:=DS h;exact⟨t,v,q,rfl,h⟩
noncomputable def HB(st:AC)(F:Ag->Ak->Aj):Aj:=NE st λt v=>DE t λx=>F x v
theorem Jx{st:AC}{F:Ag->Ak->Aj}(h:HB st F=Ab) : ∃ x p v q,st = .Assign [.Name x p] v q/\F x v=Ab:=by
 obtain⟨t,v,q,rfl,h⟩:=Ru h;obtain⟨x,p,rfl,h⟩:=DR h;exact⟨x,p,v,q,rfl,h⟩
noncomputable def N8(e:Ak)(F:Ak->Ak->Ak->Ad Ak->Bw->Aj):Aj:=Kw e λx gs sc=>C3 gs λg=>decide (g.is_async=0)&&F x g.target g.iter g.ifs sc
theorem TF{e:Ak}{F:Ak->Ak->Ak->Ad Ak->Bw->Aj}(h:N8 e F=Ab) : ∃ x t it ifs sc p,e = .ListComp x [⟨t,it,ifs,0⟩] sc p/\F x t it ifs sc=Ab:=by
 obtain⟨x,gs,sc,p,rfl,h⟩:=RP h;obtain⟨g,rfl,h⟩:=DS h;obtain⟨t,it,ifs,a⟩:=g;obtain⟨h1,h2⟩:=BC h;have h1:a=0:=AI h1;subst h1;exact⟨x,t,it,ifs,sc,p,rfl,h2⟩
noncomputable def IU(e:E)(F:E->Aj):Aj:=if c:e.ctorIdx=8 then E.no.elim (motive_1:=λ_=>Aj) e c F else Ac
theorem TD{e:E}{F:E->Aj}(h:IU e F=Ab) : ∃ a,e=E.no a/\F a=Ab:=by
 by_cases c:e.ctorIdx=8
 .exact E.no.elim (motive_1:=λe=>IU e F=Ab -> ∃ a,e=E.no a/\F a=Ab) e c (λa h=>⟨a,rfl,h⟩) h
 .exact noF ((Bt c).symm.trans h)
noncomputable def IB(e:E)(F:Es->Aj):Aj:=if c:e.ctorIdx=9 then E.and.elim (motive_1:=λ_=>Aj) e c F else Ac
theorem Rv{e:E}{F:Es->Aj}(h:IB e F=Ab) : ∃ es,e=E.and es/\F es=Ab:=by
 by_cases c:e.ctorIdx=9
 .exact E.and.elim (motive_1:=λe=>IB e F=Ab -> ∃ es,e=E.and es/\F es=Ab) e c (λes h=>⟨es,rfl,h⟩) h
 .exact noF ((Bt c).symm.trans h)
noncomputable def IT(e:E)(F:Es->Aj):Aj:=if c:e.ctorIdx=10 then E.or.elim (motive_1:=λ_=>Aj) e c F else Ac
theorem TC{e:E}{F:Es->Aj}(h:IT e F=Ab) : ∃ es,e=E.or es/\F es=Ab:=by
 by_cases c:e.ctorIdx=10
 .exact E.or.elim (motive_1:=λe=>IT e F=Ab -> ∃ es,e=E.or es/\F es=Ab) e c (λes h=>⟨es,rfl,h⟩) h
 .exact noF ((Bt c).symm.trans h)
noncomputable def IH(e:E)(F:Cd->E->E->Aj):Aj:=if c:e.ctorIdx=11 then E.cmp.elim (motive_1:=λ_=>Aj) e c F else Ac
theorem RQ{e:E}{F:Cd->E->E->Aj}(h:IH e F=Ab) : ∃ o a b,e=E.cmp o a b/\F o a b=Ab:=by
 by_cases c:e.ctorIdx=11
 .exact E.cmp.elim (motive_1:=λe=>IH e F=Ab -> ∃ o a b,e=E.cmp o a b/\F o a b=Ab) e c (λo a b h=>⟨o,a,b,rfl,h⟩) h
 .exact noF ((Bt c).symm.trans h)
noncomputable def Iy(e:E)(F:Cd->Cd->E->E->E->Aj):Aj:=if c:e.ctorIdx=12 then E.cmp2.elim (motive_1:=λ_=>Aj) e c F else Ac
theorem Rr{e:E}{F:Cd->Cd->E->E->E->Aj}(h:Iy e F=Ab) : ∃ o q a b c,e=E.cmp2 o q a b c/\F o q a b c=Ab:=by
 by_cases c:e.ctorIdx=12
 .exact E.cmp2.elim (motive_1:=λe=>Iy e F=Ab -> ∃ o q a b c,e=E.cmp2 o q a b c/\F o q a b c=Ab) e c (λo q a b c h=>⟨o,q,a,b,c,rfl,h⟩) h
 .exact noF ((Bt c).symm.trans h)
noncomputable def Iz(e:E)(F:BI->Es->Aj):Aj:=if c:e.ctorIdx=15 then E.bi.elim (motive_1:=λ_=>Aj) e c F else Ac
theorem Rs{e:E}{F:BI->Es->Aj}(h:Iz e F=Ab) : ∃ b as,e=E.bi b as/\F b as=Ab:=by
 by_cases c:e.ctorIdx=15
 .exact E.bi.elim (motive_1:=λe=>Iz e F=Ab -> ∃ b as,e=E.bi b as/\F b as=Ab) e c (λb as h=>⟨b,as,rfl,h⟩) h
 .exact noF ((Bt c).symm.trans h)
noncomputable def K8(e:E)(F:Aj->Aj):Aj:=if c:e.ctorIdx=1 then E.bl.elim (motive_1:=λ_=>Aj) e c F else Ac
theorem TJ{e:E}{F:Aj->Aj}(h:K8 e F=Ab) : ∃ b,e=E.bl b/\F b=Ab:=by
 by_cases c:e.ctorIdx=1
 .exact E.bl.elim (motive_1:=λe=>K8 e F=Ab -> ∃ b,e=E.bl b/\F b=Ab) e c (λb h=>⟨b,rfl,h⟩) h
 .exact noF ((Bt c).symm.trans h)
noncomputable def Hz(e:E)(F:Ae->Aj):Aj:=if c:e.ctorIdx=4 then E.var.elim (motive_1:=λ_=>Aj) e c F else Ac
theorem JE{e:E}{F:Ae->Aj}(h:Hz e F=Ab) : ∃ i,e=E.var i/\F i=Ab:=by
 by_cases c:e.ctorIdx=4
 .exact E.var.elim (motive_1:=λe=>Hz e F=Ab -> ∃ i,e=E.var i/\F i=Ab) e c (λi h=>⟨i,rfl,h⟩) h
 .exact noF ((Bt c).symm.trans h)
noncomputable def GZ(e:E)(F:Ae->Es->Aj):Aj:=if c:e.ctorIdx=14 then E.call.elim (motive_1:=λ_=>Aj) e c F else Ac
theorem Ml{e:E}{F:Ae->Es->Aj}(h:GZ e F=Ab) : ∃ f as,e=E.call f as/\F f as=Ab:=by
 by_cases c:e.ctorIdx=14
 .exact E.call.elim (motive_1:=λe=>GZ e F=Ab -> ∃ f as,e=E.call f as/\F f as=Ab) e c (λf as h=>⟨f,as,rfl,h⟩) h
 .exact noF ((Bt c).symm.trans h)
noncomputable def IP(e:E):Aj:=decide (e.ctorIdx=0)
theorem R7{e:E}(h:IP e=Ab):e = .non:=E.non.elim (motive_1:=λe=>e = .non) e (AI h) rfl
noncomputable def CH:Ak->Aj
 |.Starred _ _=>Ac
 |_=>Ab
noncomputable def Mz:Ak->Aj
 |.Slice _ _ _ _=>Ac
 |_=>Ab
noncomputable def IC:Ak->Aj
 |.Set _ _ _=>Ac
 |_=>Ab
noncomputable def Gn:Ak->Aj
 |.ListComp _ _ _ _=>Ac
 |.SetComp _ _ _ _=>Ac
 |.DictComp _ _ _ _ _=>Ac
 |_=>Ab
noncomputable def Oo(tu:Aj):Ak->Aj
 |.Tuple .. => tu
 |.Name .. => !tu
 |_=>Ac
noncomputable def WV:Ak->Aj
 |.Tuple _ _ _=>Ab
 |_=>Ac
noncomputable def Ic:Ak->Aj
 |.UnaryOp _ _ _=>Ac
 |.BoolOp _ _ _=>Ac
 |.IfExp _ _ _ _=>Ac
 |.Compare _ _ _ _=>Ac
 |_=>Ab
noncomputable def KA:Ki->An Ag
 |.int=>Aa "int"
 |.bool=>Aa "bool"
 |.str=>Aa "str"
 |.list=>Aa "list"
 |.tuple=>Aa "tuple"
 |_=>Af
noncomputable def KB:BI->An Ag
 |.len=>Aa "len"
 |.abs=>Af
 |.max=>Af
 |.min=>Af
 |.int=>Af
 |.list=>Aa "list"
 |.tuple=>Aa "tuple"
 |.all=>Aa "all"
 |.any=>Af
 |.sum=>Af
 |.sorted=>Af
 |.tmin=>Af
 |.tmax=>Af
 |_=>Af
noncomputable def Kq(o scope:Bw):Bw := {scope with names:=scope.names.map λ(n,k)=>if (k==.free&&o.kind==.function&&o.names.lookup n==Aa .cell) then (n,.cell) else (n,k)}
noncomputable def HH:Ad Ae->Ad Ag->Ad Ag->Ad Ag
 |t::ts,x::xs,N=>HH ts xs ((N.map λy=>if y==x then N.getD t x else y).set t x)
 |_,_,N=>N
noncomputable def GR:Ad Ag->Aj
 |[]=>Ab
 |x::xs => !xs.contains x&&GR xs
noncomputable def Je(T:Tc)(scope:Bw)(ts:Ad Ae)(N':Ad Ag):Aj:=
  scope.kind==.function&&scope.names.all (λy=>scope.names.lookup y.1==Aa y.2) &&
  scope.names.all (λy=>y.2 != .free||T.sc.names.lookup y.1==Aa .cell||T.sc.names.lookup y.1==Aa .free) &&
  N'.length==T.N.length&&GR N' &&
  (CO N'.length).all λi=>ts.contains i||(match N'[i]? with
    |some x=>(scope.names.lookup x != Aa .local&&scope.names.lookup x != Aa .cell)&&(scope.names.lookup x != Aa .free||T.N[i]? == Aa x)
    | none=>Ab)
noncomputable def E3:Ad Ak->An (Ad Ag)
 |[]=>Aa []
 |.Name x _::r=>(E3 r).map (x :: ·)
 |_=>Af
noncomputable def tgN(ys:Ad Ak):Ad Ag:=(E3 ys).getD []
noncomputable def tgO(T:Tc)(scope:Bw)(t:Ae)(x:Ag):Aj:=T.N[t]? == Aa x&&(T.sc.names.lookup x==Aa .local||(T.sc.names.lookup x==Aa .cell&&scope.names.lookup x==Aa .cell))
noncomputable def tgC(T:Tc):Ad Ae->Ad Ag->Aj
 |[],[]=>Ab
 |t::ts,x::xs=>T.N[t]? == Aa x&&FO T x&&tgC T ts xs
 |_,_=>Ac
noncomputable def Tc.blk(T:Tc)(scope:Bw)(ts:Ad Ae)(xs:Ad Ag):Tc := {T with sc:=Kq T.sc scope,N:=HH ts xs T.N,tp:=Ac}
noncomputable def Yk(f:Ag):Aj:=(f==("triple" : Ag)||(f==("points" : Ag)||f==("row" : Ag)))
noncomputable def NF:Ak->Aj
 |.Call _ [] _ _=>Ac
 |_=>Ab
theorem Uw{o:Ak}{f:Ag}{w:Ez Ah}(h:NF o=Ab):DN o f env w=w:=by
 cases o with
 |Call g as ks p=>
  cases as with
  |nil=>cases h
  |cons=>cases g <;> rfl
 |_=>rfl
noncomputable def inX(l:Ad (Ag × Ae))(g:Ag)(c:Ae):Aj:=l.any λp=>p.1==g&&p.2==c
noncomputable def XS(T:Tc)(t:Ag):Ki->Aj
 |.verr=>t==("ValueError" : Ag)&&isB T t
 |.cls c=>inX T.exs t c&&glB T t&&Ef t
 |_=>Ac
noncomputable def OF:Ak->An (Ak × Ak × Az)
  | .Compare x ops ys p=>(match ops with
    | [.Lt]=>(match ys with
      |[y]=>Aa (x,y,p)
      | _=>Af)
    | _=>Af)
  |_=>Af
noncomputable def KJ(_:Es):An (E × E):=Af
noncomputable def KQ(_:Tc)(_:Tc->Ak->E->Aj)(_:Ak)(_:Ad Cd)(_:Ad Ak)(_:BI)(_:Es):Aj:=Ac
noncomputable def OA(T:Tc)(e:Ak)(b:BI)(as:Es):Aj:=Ac
noncomputable def Nt:Ak->An (Ag × Az)
 |.Name x p=>Aa (x,p)
 |_=>Af
noncomputable def Nu:Ak->An (Ak × Ad Ak × Ad D1 × Az)
 |.Call f as ks p=>Aa (f,as,ks,p)
 |_=>Af
noncomputable def XM:Ak->An (Ad Ak × Ae × Az)
 |.Tuple es k p=>Aa (es,k,p)
 |_=>Af
noncomputable def one{α:Type}:Ad α->An α
 |[a]=>Aa a
 |_=>Af
noncomputable def OB(e:Ak):An (Ag × Ag × Ad Ak):=(Nu e).bind λc=>(Nt c.1).bind λg=>(one c.2.1).bind λa=>(Nu a).bind λd=>(Nt d.1).bind λh=>if (c.2.2.1.isEmpty&&d.2.2.1.isEmpty)=Ab then Aa (g.1,h.1,d.2.1) else Af
noncomputable def Od(e:Ak):An (Ag × Ag × Ak × Ak):=match OB e with
  | some (g,h,bs)=>(match bs with
    |[x,y]=>Aa (g,h,x,y)
    | _=>Af)
  |none=>Af
noncomputable def KP(_:Es):An (E × E):=Af
noncomputable def Oc(e:Ak):An (Ag × Ag × Ak):=match OB e with
  | some (g,h,bs)=>(match bs with
    |[x]=>Aa (g,h,x)
    | _=>Af)
  |none=>Af
noncomputable def Jf:Es->An (Ag × E)
  | .cons a r=>(match a with
    | .str s=>(match r with
      | .cons b r'=>(match r' with
        | .nil=>(match b with
          |.var _=>Af
          | b=>Aa (s,b))
        | _=>Af)
      | _=>Af)
    | _=>Af)
  |.nil=>Af
theorem UP{s:Ag}{a:E}(q:Jf as=Aa (s,a)):as = .cons (.str s) (.cons a .nil) /\ ∀ Y r,top Y a r=r:=by
 cases as with
 |nil=>cases q
 |cons a r=>
  cases a with
  |str s=>
   cases r with
   |nil=>cases q
   |cons b r'=>
    cases r' with
    |nil=>cases b <;> first|(cases q;exact⟨rfl,λ_ _=>rfl⟩)|cases q
    |cons=>cases q
  |_=>cases q
noncomputable def KN(_:Es):An E:=Af
noncomputable def two(e:Ak):An (Ak × Ak):=(XM e).bind λt=>match t.1 with
  |[a,b]=>Aa (a,b)
  |_=>Af
noncomputable def Lg(_:Es):An E:=Af
noncomputable def N3(_:Ak):An Ak:=Af
noncomputable def Oq:Ak->An (Ak × Ao)
  | .Subscript v s _=>(match s with
    | .Slice lo hi st _=>(match lo with
      | some (.Constant (.int k) _ _)=>(match hi with
        | none=>(match st with
          |some (.Constant (.int j) _ _)=>if j=2 then Aa (v,k) else Af
          | _=>Af)
        | some _=>Af)
      | _=>Af)
    | _=>Af)
  |_=>Af
noncomputable def KM(_:Es):An (E × Ao):=Af
mutual
noncomputable def A7:Ae->Tc->Ak->E->Aj
  |0,_,_,_=>Ac
  |n+1,T,e,c=>match c with
    |.non=>Fj e λc=>decide (c = .none)
    |.bl b=>Fj e λc=>decide (c = .bool b)
    |.int i=>Fj e λc=>decide (c = .int i)
    |.str x=>Fj e λc=>decide (c = .str x)
    |.var i=>DE e λx=>isV T x i
    |.glob g=>Ac
    |.bin op a b=>IA e λx op' y=>decide (op'=op)&&A7 n T x a&&A7 n T y b
    |.un op a=>Ac
    |.no a=>G1 e λo x=>decide (o = .Not)&&A7 n T x a
    |.and es=>F6 e λo xs _=>decide (o = .And)&&(chkEs n T xs es && !xs.isEmpty)
    |.or es=>F6 e λo xs _=>decide (o = .Or)&&(chkEs n T xs es && !xs.isEmpty)
    |.cmp op a b=>HA e λx os ys=>C3 os λop'=>C3 ys λy=>decide (op'=op) && !behindInMarks op y&&A7 n T x a&&A7 n T y b
    |.cmp2 op1 op2 a b c=>Ac
    |.ite c a b=>Ac
    |.call f as=>GQ e λg x xs=>(T.fns.any λp=>p.1==g&&p.2.1==f&&p.2.2==xs.length+1)&&decide (xs.length<900)&&glB T g&&Ef g&&chkEs n T (x::xs) as
    |.bi b as=>(GQ e λg x xs=>KB b==Aa g&&isB T g&&chkEs n T (x::xs) as)||OA T e b as||(match KP as with|some (a,c)=>(match Od e with|some (g,h,x,y)=>decide (b = .list)&&g==("list" : Ag)&&h==("range" : Ag)&&isB T g&&isB T h&&CH x&&CH y&&A7 n T x a&&A7 n T y c|none=>Ac)|none=>Ac)||(match KM as with|some (a,k)=>(match Oq e with|some (x,j)=>decide (b = .stp)&&decide (j=k)&&decide (0<=k)&&A7 n T x a|none=>Ac)|none=>Ac)||(match KN as with|some a=>(match Oc e with|some (g,h,x)=>decide (b = .lset)&&g==("len" : Ag)&&h==("set" : Ag)&&isB T g&&isB T h&&CH x&&A7 n T x a|none=>Ac)|none=>Ac)||(match KJ as with|some (a,c)=>(match OF e with|some (x,y,_)=>decide (b = .tlt) && !behindInMarks .Lt y&&A7 n T x a&&A7 n T y c|none=>Ac)|none=>Ac)||(match Jf as with|some (s,a)=>GY e λf l ks cp=>ks.isEmpty&&(Gs f λo m ap=>m==("join" : Ag)&&ap.endLine==cp.line&&(Fj o λc=>decide (c = .str s)&&decide (b = .sjoin)&&(C3 l λy=>CH y&&A7 n T y a)))|none=>Ac)||(match Lg as with|some a=>(match N3 e with|some x=>decide (b = .rvs)&&A7 n T x a|none=>Ac)|none=>Ac)
    |.isi a ks=>(C3 ks λk=>Gr e λg l=>FK l λx t=>DE t λt=>g==("isinstance" : Ag)&&isB T g&&KA k==Aa t&&isB T t&&CH x&&A7 n T x a)||(C3 ks λk=>Gr e λg l=>FK l λx t=>DE t λt=>g==("isinstance" : Ag)&&isB T g&&CH x&&A7 n T x a&&XS T t k)
    |.idx a i=>Kt e λx y=>Mz y&&A7 n T x a&&A7 n T y i
    |.sl a lo hi=>Ac
    |.tup es=>GW e λxs=>chkEs n T xs es&&decide (xs.length<=1000)
    |.lst es=>IF e λxs=>chkEs n T xs es&&decide (xs.length<=1000)
    |.comp elt t it c=>N8 e λx tg iter ifs scope=>DE tg λy=>chkI n T Ac iter it&&IC iter&&Je T scope [t] (HH [t] [y] T.N)&&tgO (T.blk scope [t] [y]) scope t y&&chkT n (T.blk scope [t] [y]) ifs c&&A7 n (T.blk scope [t] [y]) x elt
    |.compT elt ts it c=>Ac
    |.tupI _=>Ac
    |.dnew=>Ac
    |.fld o f=>Gs e λw g _=>g==f&&Yk f&&NF w&&A7 n T w o
    |.mkx c as=>T.tp&&(GQ e λg x xs=>inX T.rzs g c&&glB T g&&Ef g&&decide (xs.length<=1000)&&chkEs n T (x::xs) as)
noncomputable def Fn:Ae->Tc->Ak->E->Aj
 |0,_,_,_=>Ac
 |n+1,T,e,c=>(G1 e λo x=>decide (o = .Not)&&(IU c λa=>Fn n T x a)) ||
  (F6 e λo xs _=>(decide (o = .And)&&(IB c λes=>chkBs n T xs es && !xs.isEmpty))||(decide (o = .Or)&&(IT c λes=>chkBs n T xs es && !xs.isEmpty))) ||
  (HA e λx os ys=>(IH c λop a b=>C3 os λop'=>C3 ys λy=>decide (op'=op) && !behindInMarks op y&&A7 n T x a&&A7 n T y b) ||
   (Iy c λop1 op2 a b c=>FK os λo1 o2=>FK ys λy z=>decide (o1=op1)&&decide (o2=op2) && !lastMarks [op1,op2] [y,z]&&A7 n T x a&&A7 n T y b&&A7 n T z c) ||
   (Iz c λb as=>KQ T (A7 n) x os ys b as)) ||
  Ic e&&A7 n T e c
noncomputable def chkBs:Ae->Tc->Ad Ak->Es->Aj
  |0,_,_,_=>Ac
  |n+1,T,xs,es=>match xs,es with
    |[],.nil=>Ab
    |x::xs,.cons e es=>Fn n T x e&&chkBs n T xs es
    |_,_=>Ac
noncomputable def chkEs:Ae->Tc->Ad Ak->Es->Aj
  |0,_,_,_=>Ac
  |n+1,T,xs,es=>match xs,es with
    |[],.nil=>Ab
    |x::xs,.cons e es=>CH x&&A7 n T x e&&chkEs n T xs es
    |_,_=>Ac
noncomputable def OC:Ae->Tc->An Ak->E->Aj
  |0,_,_,_=>Ac
  |n+1,T,x,e=>match x with
    |none=>IP e
    |some x => !(IP e)&&A7 n T x e
noncomputable def chkT:Ae->Tc->Ad Ak->E->Aj
  |0,_,_,_=>Ac
  |n+1,T,xs,e=>match xs with
    |[]=>K8 e λb=>b
    |x::r=>r.isEmpty&&Fn n T x e
noncomputable def chkI:Ae->Tc->Aj->Ak->I->Aj
  |0,_,_,_,_=>Ac
  |n+1,T,tu,e,i=>match i with
    |.e a=>A7 n T e a
    |.rng a=>Gr e λg l=>C3 l λx=>g==("range" : Ag)&&isB T g&&CH x&&A7 n T x a
    |.enm a=>Ac
    |.zip a b=>Ac
    |.rng2 a b=>Gr e λg l=>FK l λx y=>g==("range" : Ag)&&isB T g&&CH x&&CH y&&A7 n T x a&&A7 n T y b
    |.zip3 a b c=>Ac
end
noncomputable def K3:E->E->Aj
 |.var _,.int _=>Ab
 |_,_=>Ac
noncomputable def Ot:Dq->Aj
 |.Sub=>Ab
 |_=>Ac
noncomputable def IZ:E->Aj
 |.idx a b=>K3 a b
 |.bin op a b=>Ot op&&K3 a b
 |.var _=>Ab
 |.int _=>Ab
 |.bl _=>Ab
 |.str _=>Ab
 |.non=>Ab
 |_=>Ac
noncomputable def F5:Es->Aj
 |.nil=>Ab
 |.cons e es=>IZ e&&F5 es
noncomputable def FL:Ak->An (Ag × Az)
 |.Name x p=>Aa (x,p)
 |_=>Af
theorem Gj{e:Ak}{t:Ag × Az}(h:FL e=Aa t):e = .Name t.1 t.2:=by
 cases e with
 |Name x p=>cases h;rfl
 |_=>exact nomatch (show Af=Aa t from h)
noncomputable def Oi:Ak->An (Ak × Ad Ak × Az)
  | .Call f as ks p=>(match ks with
    |[]=>Aa (f,as,p)
    | _=>Af)
  |_=>Af
theorem Tn{e:Ak}{t:Ak × Ad Ak × Az}(h:Oi e=Aa t):e = .Call t.1 t.2.1 [] t.2.2:=by
 cases e with
 |Call f as ks p=>
  cases ks with
  |nil=>cases h;rfl
  |cons=>exact nomatch (show Af=Aa t from h)
 |_=>exact nomatch (show Af=Aa t from h)
noncomputable def IX{α:Type}:Ad α->An (α × α)
 |[a,b]=>Aa (a,b)
 |_=>Af
theorem JY{l:Ad α}{t:α × α}(h:IX l=Aa t):l=[t.1,t.2]:=by
 cases l with
 |nil=>exact nomatch (show Af=Aa t from h)
 |cons a l=>
  cases l with
  |nil=>exact nomatch (show Af=Aa t from h)
  |cons b l=>
   cases l with
   |nil=>cases h;rfl
   |cons=>exact nomatch (show Af=Aa t from h)
noncomputable def xHd:C7->An (Ag × Ag × AC × Ad AC)
  | .ExceptHandler ty nm b _=>(match nm,b,ty with
    |some m,h0::hs,Aa e=>(FL e).bind λg=>Aa (g.1,m,h0,hs)
    | _,_,_=>Af)
theorem UA{h:C7}{m:Ag}(q:xHd h=Aa (g,m,h0,hs)) : ∃ p r,h = .ExceptHandler (Aa (.Name g p)) (Aa m) (h0::hs) r:=by
 obtain⟨ty,nm,b,r⟩:=h;cases nm with
 |none=>cases ty <;> cases b <;> exact nomatch (show Af=Aa (g,m,h0,hs) from q)
 |some m'=>
  cases b with
  |nil=>cases ty <;> exact nomatch (show Af=Aa (g,m,h0,hs) from q)
  |cons h0' hs'=>
   cases ty with
   |none=>exact nomatch (show Af=Aa (g,m,h0,hs) from q)
   |some e=>
    obtain⟨g',e1,q⟩:=Aw.mp (show ((FL e).bind λg=>Aa (g.1,m',h0',hs'))=Aa (g,m,h0,hs) from q)
    cases q;rw[Gj e1];exact⟨_,_,rfl⟩
noncomputable def KS:AC->An (AC × Ad C7 × Ad AC)
  | .Try b hs es fs _=>(match b,fs with
    |[bt],[]=>Aa (bt,hs,es)
    | _,_=>Af)
  |_=>Af
theorem Ti{st bt:AC}{hs:Ad C7}{es:Ad AC}(q:KS st=Aa (bt,hs,es)) : ∃ p,st = .Try [bt] hs es [] p:=by
 cases st with
 |Try b h e f p=>
  cases b with
  |nil=>cases f <;> exact nomatch (show Af=Aa (bt,hs,es) from q)
  |cons x b=>
   cases b with
   |cons=>cases f <;> exact nomatch (show Af=Aa (bt,hs,es) from q)
   |nil=>
    cases f with
    |nil=>cases q;exact⟨_,rfl⟩
    |cons=>exact nomatch (show Af=Aa (bt,hs,es) from q)
 |_=>exact nomatch (show Af=Aa (bt,hs,es) from q)
noncomputable def N9(e:Ak)(F:Ag->Ag->Ak->Aj):Aj:=Gr e λg l=>FK l λa t=>DE a λv=>F g v t
theorem TH{e:Ak}{F:Ag->Ag->Ak->Aj}(h:N9 e F=Ab) : ∃ g p v q t r,e = .Call (.Name g p) [.Name v q,t] [] r/\F g v t=Ab:=by
 obtain⟨g,p,l,r,rfl,h⟩:=GK h;obtain⟨a,t,rfl,h⟩:=GJ h;obtain⟨v,q,rfl,h⟩:=DR h;exact⟨g,p,v,q,t,r,rfl,h⟩
noncomputable def KH(T:Tc):Ad Ak->Ad Ki->Aj
  |[],ks=>ks.isEmpty
  | e::r,ks=>FI ks λk ks=>DE e λt=>(match k with
    |.cls c=>inX T.exs t c&&glB T t&&Ef t
    | _=>Ac)&&KH T r ks
noncomputable def HE(f:Ak->E->Aj):Ad Ak->Es->Aj
 |[],.nil=>Ab
 |x::xs,.cons e es=>CH x&&f x e&&HE f xs es
 |_,_=>Ac
noncomputable def XH(T:Tc)(t:Ak)(ks:Ad Ki):Aj:=FI ks λk r=>match k with
  |.verr=>r.isEmpty&&(DE t λt=>t==("ValueError" : Ag)&&isB T t)
  | .cls c=>(match r with
    |[]=>DE t λt=>inX T.exs t c&&glB T t&&Ef t
    | k2::r=>GW t λts=>KH T ts (.cls c::k2::r)&&decide (ts.length<=1000))
  |_=>Ac
noncomputable def Fk:Ae->Tc->Ae->Ak->E->Aj
  |0,_,_,_,_=>Ac
  |n+1,T,x,e,c=>match c with
    |.bl b=>Fj e λk=>decide (k = .bool b)
    |.no a=>G1 e λo y=>decide (o = .Not)&&Fk n T x y a
    | .and es=>(match es with
      |.nil=>Ac
      | .cons a r=>(match r with
        |.nil=>F6 e λo l _=>decide (o = .And)&&(C3 l λy=>Fk n T x y a)
        | .cons a' as=>F6 e λo l p=>decide (o = .And)&&(FI l λy l=>FI l λz zs=>Fk n T x y a&&Fk n T x (.BoolOp .And (z::zs) p) (.and (.cons a' as)))))
    |.isi a ks=>Hz a λi=>N9 e λg v t=>i==x&&g==("isinstance" : Ag)&&isB T g&&isV T v x&&XH T t ks
    |.call _ _=>Ac
    |.str s=>Fj e λk=>decide (k = .str s)
    |.lst es=>IF e λxs=>HE (Fk n T x) xs es&&decide (xs.length<=1000)
    |.tup es=>GW e λxs=>HE (Fk n T x) xs es&&decide (xs.length<=1000)
    |.bin op a b=>decide (op = .Add)&&(Hz a λi=>IA e λl o y=>decide (o = .Add)&&(DE l λv=>isV T v i&&Fk n T x y b))
    |.fld o f=>Hz o λi=>Gs e λw g _=>DE w λv=>i==x&&g==f&&(f==("triple" : Ag)||(f==("points" : Ag)||f==("row" : Ag)))&&isV T v x
    |_=>Ac
noncomputable def XU:E->Aj
 |.lst _=>Ab
 |_=>Ac
noncomputable def KI:Ae->Tc->Ae->Ad AC->Ss->Aj
  |0,_,_,_,_=>Ac
  |n+1,T,x,sts,ss=>match ss with
    |.nil=>sts.isEmpty
    | .cons s ss=>FI sts λst r=>(match s with
      |.asg i b e=>HB st λy v=>T.N[i]? == Aa y&&FO T y&&Gn v&&Fk n T x v e&&(!b||XU e)
      |.ife _ _ _=>Ac
      |.ret _=>Ac
      |.app _ _=>Ac
      | _=>Ac)&&KI n T x r ss
noncomputable def K2:E->Aj
 |.var _=>Ab
 |.cmp _ a b=>IZ a&&IZ b
 |_=>Ac
noncomputable def Io(n:Ae)(T:Tc)(st:AC)(s:S):Aj:=match s with
  |.expr e=>GZ e λf as=>GX st λv=>A7 n T v (.call f as)&&F5 as
  |.asg i b e => !b&&(GZ e λf as=>HB st λy v=>T.N[i]? == Aa y&&FO T y&&A7 n T v (.call f as)&&F5 as)
  |_=>Ac
noncomputable def Ku:Ss->(S->Aj)->Aj
  |.nil,_=>Ac
  | .cons a r,F=>(match r with
    |.nil=>F a
    | .cons _ _=>Ac)
theorem Mi{l:Ss}{F:S->Aj}(h:Ku l F=Ab) : ∃ a,l = .cons a .nil/\F a=Ab:=by
 cases l with
 |nil=>exact noF h
 |cons a r=>
  cases r with
  |nil=>exact⟨a,rfl,h⟩
  |cons=>exact noF h
noncomputable def Nq(f:AC->S->Aj)(n:Ae)(T:Tc)(st:AC):S->Aj
 |.ife c a b=>Ku a λa=>Ku b λb=>IV st λt xs ys=>C3 xs λx=>C3 ys λy=>Fn n T t c&&K2 c&&f x a&&f y b
 |_=>Ac
noncomputable def IJ:Ae->Ae->Tc->AC->S->Aj
 |0,n,T,st,s=>Io n T st s
 |m+1,n,T,st,s=>Io n T st s||Nq (IJ m n T) n T st s
noncomputable def Ym:E->Aj
  | .bi b as=>(match b,as with
    |.len,.nil=>Ab
    | _,_=>Ac)
  |_=>Ac
noncomputable def Yl:S->Aj
 |.expr e=>Ym e
 |_=>Ac
noncomputable def Jd:Ss->Aj
 |.cons s _=>Yl s
 |.nil=>Ac
noncomputable def hdB(T:Tc)(g:Ag)(c:Ae):Aj:=inX T.exs g c&&inX T.rzs g c&&glB T g&&Ef g
mutual
noncomputable def HM:Ae->Tc->AC->S->Aj
  |0,_,_,_=>Ac
  |n+1,T,st,s=>match s with
    |.pass=>Ac
    |.brk=>Ac
    |.cont=>Ac
    |.asg i _ e=>HB st λx v=>T.N[i]? == Aa x&&FO T x&&A7 n T v e
    |.asgT ts e=>Ac
    |.expr e=>GX st λv=>Gn v&&A7 n T v e
    |.ret e=>Kv st λo=>match o with|some v=>A7 n T v e|none=>Ac
    |.retN=>Ac
    |.ife c a b=>IV st λt xs ys=>Fn n T t c&&chkSs n T xs a&&chkSs n T ys b
    |.fors t it body=>IG st λtg iter xs ys=>ys.isEmpty&&(DE tg λx=>tgC T [t] [x]&&IC iter&&chkI n T Ac iter it&&chkSs n T xs body)
    |.forT ts it body=>IG st λtg iter xs zs=>zs.isEmpty&&(GW tg λys=>(E3 ys).isSome&&tgC T ts (tgN ys)&&IC iter&&chkI n T Ab iter it&&chkSs n T xs body)
    |.whl c body=>Ac
    |.rais c as => !(T.rzs.any λp=>p.2==c)||(IE st λa b=>b.isNone&&(match a with|some e=>GQ e λg x xs=>inX T.rzs g c&&glB T g&&Ef g&&decide (xs.length<=1000)&&chkEs n T (x::xs) as|none=>Ac))
    |.tryx bs c x h=>(match bs with | .cons b .nil=>(match KS st with|some (bt,[h1],[])=>(match xHd h1 with|some (g,m,h0,hs)=>hdB T g c&&T.N[x]? == Aa m&&T.sc.names.lookup m==Aa .local&&IJ 6 n T bt b&&KI n T x (h0::hs) h|none=>Ac)|_=>Ac)|_=>Ac)
    |.try2 _ _ _ _ _ _ _=>Ac
    |.app i e=>ND st λx m l=>C3 l λv=>m==("append" : Ag)&&isV T x i&&CH v&&A7 n T v e
    |.ext i e=>Ac
    |.rev i=>Ac
    |.clr i=>Ac
    |.put i k e=>Ac
    |.swp _ _ _=>Ac
    |.apop _ _ _=>Ac
    |.ins i k e=>Ac
    |.dput _ _ _=>Ac
    |.dsd _ _ _=>Ac
    |.rel _=>Ac
noncomputable def chkSs:Ae->Tc->Ad AC->Ss->Aj
  |0,_,_,_=>Ac
  | n+1,T,sts,ss=>(match ss with
    |.nil=>sts.isEmpty
    |.cons (.rel i) ss=>chkSs n T sts ss
    | .cons s ss=>(match sts with
      |st::r=>HM n T st s&&chkSs n T r ss
      | []=>Ac))||Jd ss
end
noncomputable def FM(fuel:Ae)(hot:Aj)(fns:Ad (Ag × Ae × Ae))(bl:Ad Ag)(rzs exs gls:Ad (Ag × Ae))(ps N:Ad Ag)(st:AC)(df:Df):Aj:=
  let sc:=BK st
  sc.kind==.function && !sc.isCoroutine && !sc.isGenerator&&GR N&&N.take ps.length==ps&&ps.all (λx=>sc.names.lookup x==Aa .local||sc.names.lookup x==Aa .cell)&&sc.names.all (λy=>y.2 != .free)&&N.length==df.n &&
  (match hot with
  |true=>Ac
  | false=>chkSs fuel ⟨sc,N,fns,bl,rzs,exs,gls,Ab⟩ (Dv st) df.body)
structure XT (up:Ae->Ad Ae) (xn:Ae->Ad D->R Ex) (CL:ClA) (rzs exs:Ad (Ag × Ae)) (K:Fg) (mg:Ag->An Ah):Prop where
 xc : ∀ c C,CL c=Aa C->XcOk K C
 rz : ∀ p∈rzs,∃ C,CL p.2=Aa C/\mg p.1=Aa (.ref C)
 ex : ∀ p∈exs,∃ C,mg p.1=Aa (.ref C)/\Ht K CL up p.2 C /\ ∀ c D,CL c=Aa D->Bf K (.ref D) (.ref C)=Aa ((up c).contains p.2)
 made : ∀ c C ds,CL c=Aa C->xn c ds = .bad\/(xn c ds = .ok ⟨c,[]⟩/\Ci K C Af=Ab) \/ ∃ f,XIn K mg C f/\G0 xn c f ds
 nf : ∀ c C,CL c=Aa C -> ∀ f:Ag,(f==("triple" : Ag)||(f==("points" : Ag)||f==("row" : Ag)))=Ab->Ee K C=Ab/\Au K (.ref C) f=Aa Af
 xb : ∀ c,(∀ p∈rzs,p.2≠c) -> ∀ ds,xn c ds = .bad
noncomputable def Lc(K:Fg)(mg:Ag->An Ah)(CL:ClA)(x:Ag)(d:D):Prop := ∃ u v,mg x=Aa u/\Be v u /\ ∀ H A,Rep K CL H A v d
structure VX (U:Gam) (CL:ClA) (k:Ae) (W:XW) (T:Tc) (X:Cx):Prop where
 sc:X.env.scope=T.sc
 kd:T.sc.kind = .function
 N:X.N=T.N
 nd:T.N.Nodup
 calm:X.calm=Ab
 room:Room k X.A
 bl : ∀ x,x∈T.bl->X.mg x=Af
 fn : ∀ p∈T.fns,∃ f fd ps,X.mg p.1=Aa (.ref f)/\BB X.K (.ref f)=Ab/\Ed X.K fd ps []/\ps.length=p.2.2%1000/\(p.2.2<1000->FnOk X.prog X.w X.K X.mg X.base (CXR X.prog X.w) k f fd ps (spD X.K CL (p.2.2%1000) (U.fr p.2.1) (U.F p.2.1)))/\(1000<=p.2.2->HotOk X.prog X.w X.K X.mg X.base k f fd ps (spH X.K CL (p.2.2%1000) (U.fr p.2.1) (U.F p.2.1)))
 own:Dr (model X.prog X.w) X.A X.env X.xe
 px : ∀ A,GU (CXR X.prog X.w) X (EKW X.K CL A W)
 rz:HK X CL W
 xt:XT U.up U.xn CL T.rzs T.exs X.K X.mg
 gl : ∀ p∈T.gls,Lc X.K X.mg CL p.1 (U.G p.2)
 ex:T.tp=Ab->X.ex=[]
theorem Nj : ∀ A,GU (CXR X.prog X.w) X (EKW X.K CL A W0):=λA pI Z H s ev s' I h=>by
 obtain⟨e,T,cls,dx,H',_,_,_,_,_,_,_,_,_,_,x,_,w⟩:=h;exact w.elim
theorem N2:HK X CL W0:=λ_ _ _ _ _ _ _ _ _ _ _ _ _ _ z=>z.elim
noncomputable def Rf{α:Type}(g f:Rho->R α):Prop := ∀ Y,g Y = .bad\/g Y=f Y
section
variable{X:Cx}{CL:ClA}{W:XW}{a:Ak}{f g:Rho->R D}
theorem SE.ref(h:SE X CL W a f)(r:Rf g f):SE X CL W a g:=λA=>PE.weak (h A) λZ H Q ⟨hA,Y,q,p⟩=>⟨hA,Y,q,by
 rcases r Y with e|e
 .rw[e]at p;exact p.elim
 .rw[e]at p;exact p⟩
theorem SB.ref{f g:Rho->R Aj}(h:SB X CL W a f)(r:Rf g f):SB X CL W a g:=λA=>PT.weak (h A) λZ H Q ⟨hA,Y,q,p⟩=>⟨hA,Y,q,by
 rcases r Y with e|e
 .rw[e]at p;exact p.elim
 .rw[e]at p;exact p⟩
theorem SW.ref{f g:Rho->R Aj}(h:SW X CL W a f)(r:Rf g f):SW X CL W a g:=λA=>PW.weak (h A) λZ H Q ⟨hA,Y,q,p⟩=>⟨hA,Y,q,by
 rcases r Y with e|e
 .rw[e]at p;exact p.elim
 .rw[e]at p;exact p⟩
theorem SC.ref{fr:Aj}(h:SC X CL W fr a f)(r:Rf g f):SC X CL W fr a g:=λA=>PE.weak (h A) λZ H Q ⟨hA,Y,q,p⟩=>⟨hA,Y,q,by
 rcases r Y with e|e
 .rw[e]at p;exact p.elim
 .rw[e]at p;exact p⟩
theorem SS.ref{st:AC}{f g:Rho->O}(h:SS X CL W st f)(r : ∀ Y,g Y = .bad\/g Y=f Y):SS X CL W st g:=λFz B=>PS.weak (h Fz B) λD Z H ⟨Y,x,p⟩=>⟨Y,x,by
 rcases r Y with e|e
 .rw[e]at p;exact p.elim
 .rw[e]at p;exact p⟩
end
theorem He : ∀{l:Ad Ag},GR l=Ab->l.Nodup
 |[],_=>List.nodup_nil
 |x::xs,h=>by
  unfold GR at h;simp only[Al,Bj,OP,decide_eq_false_iff_not]at h;exact List.nodup_cons.mpr ⟨h.1,He h.2⟩
section
variable{T:Tc}{X:Cx}{U:Gam}{CL:ClA}{k:Ae}{W:XW}
theorem L6(h:KZ T x=Ab):Vis T.sc x:=by
 unfold KZ at h;split at h
 .exact .inl (by assumption)
 .exact .inr (.inl (by assumption))
 .exact .inr (.inr (by assumption))
 .cases h
theorem GH(h:FO T x=Ab):Loc T.sc x:=by
 unfold FO at h;split at h
 .exact .inl (by assumption)
 .exact .inr (by assumption)
 .cases h
theorem EE(h:Ef x=Ab):(x==("__debug__" : Ag))=Ac/\(x==("__classdict__" : Ag))=Ac/\x ≠ "__name__" := by
 unfold Ef at h;simp only[Al,Bj]at h;exact⟨h.1.1,h.1.2,λe=>by subst e;exact absurd h.2 (by simp)⟩
theorem Iv{i:Ae}(v:VX U CL k W T X)(h:isV T x i=Ab):PE X (.Name x pos) (DJ i):=by
 unfold isV at h;simp only[Al,AH]at h;obtain⟨h2,h3,_⟩:=EE h.2;exact Ir (by rw[v.N];exact h.1.1) (by rw[v.sc];exact L6 h.1.2) h2 h3
theorem FH(v:VX U CL k W T X)(h:isB T x=Ab):Gl X x/\X.mg x=Af/\x ≠ "__name__" /\ (x==("__debug__" : Ag))=Ac:=by
 unfold isB glB at h;simp only[Al,AH,OP,AQ]at h;obtain⟨h2,h3,h4⟩:=EE h.2;exact⟨by show X.env.scope.names.lookup x=_;rw[v.sc];exact h.1.2,v.bl x h.1.1,h4,h2⟩
theorem CA{x:Ak}(h:CH x=Ab):Aq (x::xs) env=(Ac,eval x env)::Aq xs env:=by
 cases x <;> first|rfl|cases h
theorem Rz{y:Ak}(h:Mz y=Ab):J9 y:=by
 intro o i;cases y <;> first|rfl|cases h
theorem Kk{e:Ak}(h:IC e=Ab) : ∀ x,BX e env x=pure x:=by
 intro x;cases e <;> first|rfl|cases h
theorem GI{e:Ak}{t:An Ak}{l:Ae}(h:Gn e=Ab):Ch e t l env=pure Ac:=by
 cases e <;> first|rfl|cases h
theorem SU{e:Ak}(h:Ic e=Ab) : ∀ whole,Fv e env whole=(do let v <-whole;standAt e.pos;holding [v] (truthy v)):=by
 intro whole;cases e <;> first|rfl|cases h
theorem QW(v:VX U CL k W T X)(scope:Bw):relabel scope X.env=Kq T.sc scope:=by
 unfold relabel Kq;have : ∀ n,X.env.kindOf n=T.sc.names.lookup n:=λn=>by show X.env.scope.names.lookup n=_;rw[v.sc]
 simp only[this,v.sc]
theorem Nr{N':Ad Ag}(v:VX U CL k W T X)(h:Je T scope ts N'=Ab):BlockOk X scope N' ts/\N'.Nodup/\scope.kind = .function:=by
 unfold Je at h;simp only[Al,AH,Cj,BN,FR,ne_eq]at h;obtain⟨⟨⟨⟨⟨h1,h2⟩,h4⟩,h5⟩,h6⟩,h7⟩:=h;have at7 : ∀ i x,N'[i]? = Aa x->i∈ts\/((scope.names.lookup x≠Aa .local/\scope.names.lookup x≠Aa .cell)/\(scope.names.lookup x≠Aa .free\/T.N[i]? = Aa x)):=λi x e=>by
  have hi:=(A2.mp e).1;have:=h7 i (OZ.mpr hi);rcases this with z|z
  .exact .inl (by simpa using z)
  .rw[e]at z;simp only[Al,FR,ne_eq,BN,AH]at z;exact .inr z
 refine⟨⟨h1,h2,λy hy hl=>by rw[h2 y hy,hl],λy hy hf => ?_,by rw[v.N];exact h5,λi x e hf hn => ?_,λi x e hl => ?_⟩,He h6,h1⟩
 .rw[v.sc];rcases h4 y hy with (z|z)|z
  .exact absurd hf z
  .exact .inl z
  .exact .inr z
 .rw[v.N];rcases at7 i x e with z|⟨_,z⟩
  .exact absurd z hn
  .exact z.resolve_left λq=>q hf
 .rcases at7 i x e with z|⟨z,_⟩
  .exact z
  .exact hl.elim (λq=>absurd q z.1) (λq=>absurd q z.2)
theorem VX.blk{xs:Ad Ag}{cl:Ad (Ag × Ai)}{s:Am}{fp:Ad Ai}(v:VX U CL k W T X)(h:Je T scope ts (HH ts xs T.N)=Ab):VX U CL k W0 (T.blk scope ts xs) (cxC X scope cl C (HH ts xs T.N) s H fp):=by
 obtain⟨_,h2,h3⟩:=Nr v h;exact⟨QW v scope,h3,rfl,h2,v.calm,v.room,v.bl,v.fn,PassesOwn.never,Nj,N2,v.xt,v.gl,λz=>nomatch z⟩
theorem SM{t:Ae}(v:VX U CL k W T X)(hfn:scope.names.lookup x=Aa .cell->X.fn x=Ab)(h:tgO T scope t x=Ab):PG X (.Name x pos) (EF t):=by
 unfold tgO at h;simp only[Al,BN,AH]at h;rcases h with ⟨h1,h2|h2⟩
 .exact Ij (by rw[v.N];exact v.nd) (by rw[v.N];exact h1) (by rw[v.sc];exact .inl h2) (.inr (by rw[v.sc];exact h2))
 .exact Ij (by rw[v.N];exact v.nd) (by rw[v.N];exact h1) (by rw[v.sc];exact .inr h2.1) (.inl (hfn h2.2))
theorem Ll{y:Ak}{r:Ad Ak}{zs:Ad Ag}(h:E3 (y::r)=Aa zs) : ∃ x p ws,y = .Name x p/\E3 r=Aa ws/\zs=x::ws:=by
 cases y with
 |Name x p=>
  have h':(E3 r).map (x :: ·)=Aa zs:=h;cases e:E3 r with
  |none=>rw[e]at h';cases h'
  |some ws=>rw[e]at h';cases h';exact⟨x,p,ws,rfl,rfl,rfl⟩
 |_=>cases h
theorem LC(x:Ag)(p:Az)(r:Ad Ak)(env:BE):Cy (.Name x p::r) env=(Ac,assign (.Name x p) env)::Cy r env:=rfl
theorem QO : ∀(ys:Ad Ak)(zs:Ad Ag),E3 ys=Aa zs->(Cy ys env).length=ys.length/\(Cy ys env).findIdx? (·.1)=Af/\(Cy ys env).map (·.2)=ys.map λy=>assign y env:=by
 intro ys
 induction ys with
 |nil=>intro _ _;exact⟨rfl,rfl,rfl⟩
 |cons y r ih=>
  intro zs h;obtain⟨x,p,ws,rfl,e,rfl⟩:=Ll h;obtain⟨h1,h2,h3⟩:=ih ws e;rw[LC];refine⟨?_,?_,?_⟩
  .rw[A9,A9,h1]
  .rw[List.findIdx?_cons,h2];simp
  .rw[Ey,Ey,h3]
end
noncomputable def Es.len:Es->Ae
 |.nil=>0
 |.cons _ es=>es.len+1
theorem F0(U:Gam)(Y:Rho) : ∀(es:Es)(ds:Ad D),evA U Y es = .ok ds->ds.length=es.len
 |.nil,ds,h=>by cases h;rfl
 |.cons e es,ds,h=>by
  obtain⟨x,h1,h2⟩:=Gi (L7 U Y e es ▸ h);obtain⟨xs,h3,h4⟩:=Gi h2;cases h4;exact congrArg (· + 1) (F0 U Y es xs h3)
theorem Im(U:Gam)(Y:Rho) : ∀(es:Es)(ds:Ad D),evB U Y es = .ok ds->ds.length=es.len
 |.nil,ds,h=>by cases h;rfl
 |.cons e es,ds,h=>by
  obtain⟨x,h1,h2⟩:=Gi (J6 U Y e es ▸ h);obtain⟨xs,h3,h4⟩:=Gi h2;cases h4;exact congrArg (· + 1) (Im U Y es xs h3)
theorem M2(U:Gam)(Y:Rho)(e:E)(h:shE Y e=Ab):top Y e (evE U Y e)=evE U Y e:=by
 cases e with
 |var i=>
  show CB Y i=DH Y i;have h':shV Y i=Ab:=h;unfold shV at h';unfold CB DH;cases q:Y[i]? with
  |none=>rfl
  |some x=>
   cases x with
   |none=>rfl
   |some y=>
    obtain⟨d,o⟩:=y;cases o with
    |true=>rw[q]at h';cases h'
    |false=>rfl
 |_=>rfl
theorem Ix(U:Gam)(Y:Rho) : ∀(es:Es),Fl Y es=Ab->evB U Y es=evA U Y es
 |.nil,_=>rfl
 |.cons e es,h=>by
  simp only[Rn,Al]at h;rw[L7,J6,M2 U Y e h.1,Ix U Y es h.2]
theorem Kd(U:Gam)(c:E):Rf (λY=>evE U Y c) (λY=>top Y c (evE U Y c)):=λY=>by
 by_cases h:shE Y c=Ab
 .exact .inr (M2 U Y c h).symm
 .cases c with
  |var i=>
   refine .inl ?_;show DH Y i = .bad;have h' : ¬ shV Y i=Ab:=h;unfold shV at h';unfold DH;cases q:Y[i]? with
   |none=>rfl
   |some x=>
    cases x with
    |none=>rfl
    |some y=>
     obtain⟨d,o⟩:=y;cases o with
     |true=>rfl
     |false=>rw[q]at h';exact absurd rfl h'
  |_=>exact absurd rfl h
noncomputable def Pcs(X:Cx)(CL:ClA)(W:XW)(e:Ak)(f:Rho->R D):Prop := ∃ tg iter elt ifs scope pos N' ts fi fc fe as g,e = .ListComp elt [⟨tg,iter,ifs,0⟩] scope pos/\BlockOk X scope N' ts/\SI X CL W tg iter fi/\GG X.K CL ts as g /\
 (∀ cl C s H fp,PG (cxC X scope cl C N' s H fp) tg g)/\(∀ cl C s H fp,STs (cxC X scope cl C N' s H fp) CL ifs fc)/\(∀ cl C s H fp,SE (cxC X scope cl C N' s H fp) CL W0 elt fe)/\(∀ x,BX iter X.env x=pure x) /\
 ∀ Y,f Y=(fi Y).bind λxs=>(noX (CM (λx=>(as x Y).bind fc) (λx=>(as x Y).bind fe) xs)).bind λys => .ok (.lst ys)
theorem Pcs.sc{e:Ak}{f:Rho->R D}(hc:X.calm=Ab)(h:Pcs X CL W e f):SC X CL W Ab e f:=by
 obtain⟨tg,iter,elt,ifs,scope,pos,N',ts,fi,fc,fe,as,g,rfl,B,hi,hGG,hg,ht,he,hs,ef⟩:=h;exact SC.congr (Ta hc B hi hGG hg ht he hs) ef
structure OkE (U:Gam) (CL:ClA) (W:XW) (X:Cx) (e:Ak) (c:E):Prop where
 se:SE X CL W e (λY=>evE U Y c)
 st:ST X CL W e (λY=>top Y c (evE U Y c))
 nw:Dg U c=Ab->SC X CL W Ab e (λY=>evE U Y c)
 cp:Gn e=Ac->Pcs X CL W e (λY=>evE U Y c)
section
variable{U:Gam}{CL:ClA}{W:XW}{X:Cx}{e:Ak}{c:E}
theorem C4(h:SE X CL W e (λY=>evE U Y c))(ht : ∀ Y r,top Y c r=r)(hn:Dg U c=Ac)(hc:Gn e=Ab):OkE U CL W X e c:=
 ⟨h,by simp only[ht];exact h.st,λz=>absurd z (by rw[hn];decide),λz=>absurd z (by rw[hc];decide)⟩
theorem MW(h:SC X CL W Ab e (λY=>evE U Y c))(ht : ∀ Y r,top Y c r=r)(hc:Gn e=Ab):OkE U CL W X e c:=
 ⟨h.se,by simp only[ht];exact h.se.st,λ_=>h,λz=>absurd z (by rw[hc];decide)⟩
theorem W2(hc:X.calm=Ab)(h:Pcs X CL W e (λY=>evE U Y c))(ht : ∀ Y r,top Y c r=r):OkE U CL W X e c:=
 ⟨(h.sc hc).se,by simp only[ht];exact(h.sc hc).se.st,λ_=>h.sc hc,λ_=>h⟩
end
theorem XI{k:Ki}(h:KA k=Aa x) : ∃ T,tyK k=Aa T/\B5 x=Aa (.type T):=by
 cases k <;> simp only[KA]at h <;> cases h
 .exact⟨_,rfl,PyProof.Rows.boot_int⟩
 .exact⟨_,rfl,PyProof.Rows.boot_bool⟩
 .exact⟨_,rfl,PyProof.Rows.boot_str⟩
 .exact⟨_,rfl,Pc⟩
 .exact⟨_,rfl,Pd⟩
structure Snd (U:Gam) (CL:ClA) (k:Ae) (n:Ae):Prop where
 e : ∀(W:XW)(T:Tc)(X:Cx)(x:Ak)(c:E),VX U CL k W T X->A7 n T x c=Ab->OkE U CL W X x c
 b : ∀(W:XW)(T:Tc)(X:Cx)(x:Ak)(c:E),VX U CL k W T X->Fn n T x c=Ab->SB X CL W x (λY=>(top Y c (evE U Y c)).bind Bq)
 bs : ∀(W:XW)(T:Tc)(X:Cx)(xs:Ad Ak)(es:Es)(pos:Az),VX U CL k W T X->chkBs n T xs es=Ab->xs≠[]->SW X CL W (.BoolOp .And xs pos) (λY=>(evN U Y es).bind Bq)/\SW X CL W (.BoolOp .Or xs pos) (λY=>(evO U Y es).bind Bq)
 es : ∀(W:XW)(T:Tc)(X:Cx)(xs:Ad Ak)(es:Es),VX U CL k W T X->chkEs n T xs es=Ab->SA X CL W xs (λY=>evA U Y es)/\SAT X CL W xs (λY=>evB U Y es)/\xs.length=es.len/\(∀ pos,xs≠[]->SE X CL W (.BoolOp .And xs pos) (λY=>evN U Y es)/\SE X CL W (.BoolOp .Or xs pos) (λY=>evO U Y es))/\(∀ pos,(Bv pos (Aq xs X.env)).any (·.1)=Ac)
 o : ∀(W:XW)(T:Tc)(X:Cx)(x:An Ak)(c:E),VX U CL k W T X->OC n T x c=Ab->SO X CL W x (λY=>(top Y c (evE U Y c)).bind (slE c))
 t : ∀(T:Tc)(X:Cx)(xs:Ad Ak)(c:E),VX U CL k W0 T X->chkT n T xs c=Ab->STs X CL xs (λY=>(top Y c (evE U Y c)).bind Bq)
 i : ∀(W:XW)(T:Tc)(X:Cx)(tu:Aj)(tg x:Ak)(i:I),VX U CL k W T X->Oo tu tg=Ab->chkI n T tu x i=Ab->SI X CL W tg x (λY=>evI U Y i)
section
variable{U:Gam}{CL:ClA}{W:XW}{k n:Ae}{T:Tc}{X:Cx}
theorem Ry:Snd U CL k 0:=⟨λ_ _ _ _ _ _ h=>noF h,λ_ _ _ _ _ _ h=>noF h,λ_ _ _ _ _ _ _ h=>noF h,λ_ _ _ _ _ _ h=>noF h,λ_ _ _ _ _ _ h=>noF h,λ_ _ _ _ _ h=>noF h,λ_ _ _ _ _ _ _ _ _ h=>noF h⟩
theorem Lr{x:Ak}(h:CH x=Ab)(hx:(Bv pos (Aq xs env)).any (·.1)=Ac):(Bv pos (Aq (x::xs) env)).any (·.1)=Ac:=by
 rw[CA h];show (Ac||(Bv pos (Aq xs env)).any (·.1))=Ac;rw[hx];rfl
theorem Vp(S:Snd U CL k n)(W:XW)(T:Tc)(X:Cx)(xs:Ad Ak)(es:Es)(v:VX U CL k W T X)(h:chkEs (n+1) T xs es=Ab):SA X CL W xs (λY=>evA U Y es)/\SAT X CL W xs (λY=>evB U Y es)/\xs.length=es.len/\(∀ pos,xs≠[]->SE X CL W (.BoolOp .And xs pos) (λY=>evN U Y es)/\SE X CL W (.BoolOp .Or xs pos) (λY=>evO U Y es))/\(∀ pos,(Bv pos (Aq xs X.env)).any (·.1)=Ac):=by
 cases xs with
 |nil=>
  cases es with
  |nil=>exact⟨Nf,Su,rfl,λ_ z=>absurd rfl z,λ_=>rfl⟩
  |cons=>exact noF h
 |cons x xs=>
  cases es with
  |nil=>exact noF h
  |cons e es=>
   replace h:(CH x&&A7 n T x e&&chkEs n T xs es)=Ab:=h;simp only[Al]at h;obtain⟨⟨h0,h1⟩,h2⟩:=h;have he:=S.e W T X x e v h1;obtain⟨a1,a2,a3,a4,a5⟩:=S.es W T X xs es v h2;refine⟨MO he.se a1 (CA h0),RB he.st a2 (CA h0),congrArg (· + 1) a3,λpos _ => ?_,λpos=>Lr h0 (a5 pos)⟩
   cases xs with
   |nil=>
    cases es with
    |nil=>exact⟨Kl he.se,Kl he.se⟩
    |cons=>cases a3
   |cons y ys=>
    cases es with
    |nil=>cases a3
    |cons e' es'=>
     obtain⟨b1,b2⟩:=a4 pos (by simp)
     exact⟨Nd he.se b1,Ww he.se b2⟩
theorem WQ(S:Snd U CL k n)(W:XW)(T:Tc)(X:Cx)(x:An Ak)(c:E)(v:VX U CL k W T X)(h:OC (n+1) T x c=Ab):SO X CL W x (λY=>(top Y c (evE U Y c)).bind (slE c)):=by
 cases x with
 |none=>
  obtain rfl:=R7 h;exact S8
 |some x=>
  replace h:(!(IP c)&&A7 n T x c)=Ab:=h;rw[Al]at h;have q:=S7 (S.e W T X x c v h.2).st;have e:slE c=λd=>(Dw d).bind λi => .ok (Aa i):=by
   funext d
   cases c <;> first|rfl|exact absurd (show Ac=Ab from h.1) Ap
  rw[e];exact q
theorem WO(S:Snd U CL k n)(T:Tc)(X:Cx)(xs:Ad Ak)(c:E)(v:VX U CL k W0 T X)(h:chkT (n+1) T xs c=Ab):STs X CL xs (λY=>(top Y c (evE U Y c)).bind Bq):=by
 cases xs with
 |nil=>
  replace h:=TJ h;obtain⟨b,rfl,h⟩:=h;subst h;exact SZ
 |cons x xs=>
  replace h:(xs.isEmpty&&Fn n T x c)=Ab:=h;rw[Al]at h;obtain rfl:=Fi h.1;exact SY (S.b W0 T X x c v h.2)
theorem WR(S:Snd U CL k n)(W:XW)(T:Tc)(X:Cx)(tu:Aj)(tg x:Ak)(i:I)(v:VX U CL k W T X)(ht':Oo tu tg=Ab)(h:chkI (n+1) T tu x i=Ab):SI X CL W tg x (λY=>evI U Y i):=by
 have ht:tu=Ab->WV tg=Ab:=λz=>by
  subst z;cases tg <;> first|rfl|cases ht'
 cases i with
 |e a=>
  exact Ye (S.e W T X x a v h).se
 |rng a=>
  replace h:=GK h;obtain⟨g,pp,l,qq,rfl,h⟩:=h;replace h:=DS h;obtain⟨y,rfl,h⟩:=h;simp only[Al,AH]at h;obtain⟨⟨⟨rfl,h1⟩,h2⟩,h3⟩:=h;obtain⟨g1,g2,_,_⟩:=FH v h1;exact Vw (S.e W T X _ a v h3).st g1 g2 (CA h2)
 |rng2 a b=>
  replace h:=GK h;obtain⟨g,pp,l,qq,rfl,h⟩:=h;replace h:=GJ h;obtain⟨y,z,rfl,h⟩:=h;simp only[Al,AH]at h;obtain⟨⟨⟨⟨⟨rfl,h1⟩,h2⟩,h3⟩,h4⟩,h5⟩:=h;obtain⟨g1,g2,_,_⟩:=FH v h1;exact S9 (S.e W T X _ a v h4).st (S.e W T X _ b v h5).st g1 g2 (by rw[CA h2,CA h3];rfl) (by rw[CA h3];rfl)
 |zip a b=>exact absurd (show Ac=Ab from h) Ap
 |zip3 a b c=>exact absurd (show Ac=Ab from h) Ap
 |enm a=>exact absurd (show Ac=Ab from h) Ap
theorem GL{c:Prop}[D0 c]{b:Aj}:(if c then R.ok (D.bl b) else .bad) = .bad \/ ∃ b',(if c then R.ok (D.bl b) else .bad) = .ok (.bl b'):=by
 by_cases h:c
 .rw[AY h];exact .inr ⟨_,rfl⟩
 .rw[A8 h];exact .inl rfl
theorem L9(op:Cd)(d d':D):Br op d d' = .bad \/ ∃ b,Br op d d' = .ok (.bl b):=by
 cases op with
 |Eq=>exact GL
 |NotEq=>exact GL
 |In=>
  cases d' with
  |lst ys=>exact GL
  |tup ys=>exact GL
  |dic kvs=>
   show (match F8 d with|some k=>R.ok (D.bl (kvs.any λp=>p.1==k))|none => .bad) = .bad \/ ∃ b,(match F8 d with|some k=>R.ok (D.bl (kvs.any λp=>p.1==k))|none => .bad) = .ok (.bl b)
   cases F8 d with
   |some k=>exact .inr ⟨_,rfl⟩
   |none=>exact .inl rfl
  |_=>exact .inl rfl
 |NotIn=>
  cases d' with
  |lst ys=>exact GL
  |tup ys=>exact GL
  |_=>exact .inl rfl
 |Is=>
  cases d' with
  |non=>cases d <;> first|exact .inr ⟨_,rfl⟩|exact .inl rfl
  |_=>cases d <;> first|exact .inl rfl|exact .inr ⟨_,rfl⟩
 |IsNot=>
  cases d' with
  |non=>cases d <;> first|exact .inr ⟨_,rfl⟩|exact .inl rfl
  |_=>cases d <;> first|exact .inl rfl|exact .inr ⟨_,rfl⟩
 |_=>
  cases d with
  |int i=>cases d' <;> first|exact .inr ⟨_,rfl⟩|exact .inl rfl
  |_=>exact .inl rfl
theorem MP(op:Cd)(d d':D):(Br op d d').bind Bq = .bad\/(Br op d d').bind Bq=(Br op d d').bind Cu:=by
 rcases L9 op d d' with h|⟨b,h⟩
 .rw[h];exact .inl rfl
 .rw[h];exact .inr rfl
theorem VW(e e':E)(es:Es):Rf (λY=>(evN U Y (.cons e (.cons e' es))).bind Bq) (λY=>((top Y e (evE U Y e)).bind Bq).bind λc=>if c=Ab then (evN U Y (.cons e' es)).bind Bq else .ok Ac):=λY=>by
 have e0:evN U Y (.cons e (.cons e' es))=(evE U Y e).bind λx=>(Cu x).bind λc=>if c=Ab then evN U Y (.cons e' es) else .ok (.bl Ac):=rfl
 dsimp only;rw[e0];rcases Kd U e Y with z|z <;> dsimp only at z
 .rw[z];exact .inl rfl
 .rw[<-z];cases evE U Y e with
  |bad=>exact .inl rfl
  |exn x=>exact .inr rfl
  |ok d=>
   cases d with
   |bl b=>cases b <;> exact .inr rfl
   |_=>exact .inl rfl
theorem VV(e e':E)(es:Es):Rf (λY=>(evO U Y (.cons e (.cons e' es))).bind Bq) (λY=>((top Y e (evE U Y e)).bind Bq).bind λc=>if c=Ab then .ok Ab else (evO U Y (.cons e' es)).bind Bq):=λY=>by
 have e0:evO U Y (.cons e (.cons e' es))=(evE U Y e).bind λx=>(Cu x).bind λc=>if c=Ab then .ok (.bl Ab) else evO U Y (.cons e' es):=rfl
 dsimp only;rw[e0];rcases Kd U e Y with z|z <;> dsimp only at z
 .rw[z];exact .inl rfl
 .rw[<-z];cases evE U Y e with
  |bad=>exact .inl rfl
  |exn x=>exact .inr rfl
  |ok d=>
   cases d with
   |bl b=>cases b <;> exact .inr rfl
   |_=>exact .inl rfl
theorem Rf.tru(e:E):Rf (λY=>(evE U Y e).bind Bq) (λY=>(top Y e (evE U Y e)).bind Bq):=λY=>by
 rcases Kd U e Y with z|z <;> dsimp only at z ⊢
 .rw[z];exact .inl rfl
 .rw[<-z];exact .inr rfl
theorem Vq(S:Snd U CL k n)(W:XW)(T:Tc)(X:Cx)(xs:Ad Ak)(es:Es)(pos:Az)(v:VX U CL k W T X)(h:chkBs (n+1) T xs es=Ab)(hne:xs≠[]):SW X CL W (.BoolOp .And xs pos) (λY=>(evN U Y es).bind Bq)/\SW X CL W (.BoolOp .Or xs pos) (λY=>(evO U Y es).bind Bq):=by
 cases xs with
 |nil=>exact absurd rfl hne
 |cons x xs=>
  cases es with
  |nil=>exact noF h
  |cons e es=>
   replace h:(Fn n T x e&&chkBs n T xs es)=Ab:=h;simp only[Al]at h;obtain⟨h1,h2⟩:=h;have he:=S.b W T X x e v h1;cases xs with
   |nil=>
    cases es with
    |nil=>exact⟨SW.ref (SX he) (Rf.tru e),SW.ref (Uu he) (Rf.tru e)⟩
    |cons=>
     cases n with
     |zero=>exact absurd (show Ac=Ab from h2) Ap
     |succ n=>exact absurd (show Ac=Ab from h2) Ap
   |cons y ys=>
    cases es with
    |nil=>
     cases n with
     |zero=>exact absurd (show Ac=Ab from h2) Ap
     |succ n=>exact absurd (show Ac=Ab from h2) Ap
    |cons e' es'=>
     obtain⟨b1,b2⟩:=S.bs W T X (y::ys) (.cons e' es') pos v h2 (by simp)
     exact⟨SW.ref (Uv he b1) (VW e e' es'),SW.ref (WN he b2) (VV e e' es')⟩
theorem SL(S:Snd U CL k n){x:Ak}{ops:Ad Cd}{b:BI}(v:VX U CL k W T X)(h:KQ T (A7 n) x ops ys b as=Ab):SB X CL W (.Compare x ops ys pos) (λY=>(top Y (.bi b as) (evE U Y (.bi b as))).bind Bq):=by
 exact absurd (show Ac=Ab from h) Ap
theorem WT(S:Snd U CL k n)(W:XW)(T:Tc)(X:Cx)(x:Ak)(c:E)(v:VX U CL k W T X)(h:Fn (n+1) T x c=Ab):SB X CL W x (λY=>(top Y c (evE U Y c)).bind Bq):=by
 have plain : ∀ e,Ic e=Ab->A7 n T e c=Ab->SB X CL W e (λY=>(top Y c (evE U Y c)).bind Bq):=λe h1 h2=>VF (S.e W T X e c v h2).st (SU h1)
 replace h:((G1 x λo x=>decide (o = .Not)&&(IU c λa=>Fn n T x a))||(F6 x λo xs _=>(decide (o = .And)&&(IB c λes=>chkBs n T xs es && !xs.isEmpty))||(decide (o = .Or)&&(IT c λes=>chkBs n T xs es && !xs.isEmpty)))||(HA x λx os ys=>(IH c λop a b=>C3 os λop'=>C3 ys λy=>decide (op'=op) && !behindInMarks op y&&A7 n T x a&&A7 n T y b)||(Iy c λop1 op2 a b c=>FK os λo1 o2=>FK ys λy z=>decide (o1=op1)&&decide (o2=op2) && !lastMarks [op1,op2] [y,z]&&A7 n T x a&&A7 n T y b&&A7 n T z c)||(Iz c λb as=>KQ T (A7 n) x os ys b as))||Ic x&&A7 n T x c)=Ab:=h
 replace h:=(orT h).imp_left λz=>(orT z).imp_left orT
 rcases h with ((h|h)|h)|h
 .replace h:=J5 h;obtain⟨o,y,p,rfl,h⟩:=h;replace h:=BC h;obtain⟨h0,h⟩:=h;obtain rfl:=AI h0;replace h:=TD h;obtain⟨a,rfl,h⟩:=h
  .skip
   refine SB.ref (VG (S.b W T X _ a v h)) λY => ?_
   show ((top Y a (evE U Y a)).bind λx=>(Cu x).bind λb => .ok (.bl (!b))).bind Bq = .bad\/((top Y a (evE U Y a)).bind λx=>(Cu x).bind λb => .ok (.bl (!b))).bind Bq=_
   cases top Y a (evE U Y a) with
   |bad=>exact .inl rfl
   |exn x=>exact .inr rfl
   |ok d=>cases d <;> first|exact .inr rfl|exact .inl rfl
 .replace h:=Hh h;obtain⟨o,ys,p,rfl,h⟩:=h;replace h:=orT h;rcases h with h|h
  .replace h:=BC h;obtain⟨h0,h⟩:=h;obtain rfl:=AI h0;replace h:=Rv h;obtain⟨es,rfl,h⟩:=h;simp only[Al,Bj,Cv]at h;exact(S.bs W T X _ _ _ v h.1 h.2).1.sb
  .replace h:=BC h;obtain⟨h0,h⟩:=h;obtain rfl:=AI h0;replace h:=TC h;obtain⟨es,rfl,h⟩:=h;simp only[Al,Bj,Cv]at h;exact(S.bs W T X _ _ _ v h.1 h.2).2.sb
 .replace h:=Mk h;obtain⟨w,os,ys,p,rfl,h⟩:=h;replace h:=(orT h).imp_left orT;rcases h with (h|h)|h
  .replace h:=RQ h;obtain⟨op,a,b,rfl,h⟩:=h;replace h:=DS h;obtain⟨op',rfl,h⟩:=h;replace h:=DS h;obtain⟨y,rfl,h⟩:=h
   .simp only[Al,Bj,AQ]at h;obtain⟨⟨⟨rfl,h1⟩,h2⟩,h3⟩:=h;refine SB.ref (UZ (Il v.room.units _) (S.e W T X _ a v h2).st (S.e W T X _ b v h3).st h1) λY => ?_
    show ((top Y a (evE U Y a)).bind λx=>(top Y b (evE U Y b)).bind λy=>Br op' x y).bind Bq = .bad\/((top Y a (evE U Y a)).bind λx=>(top Y b (evE U Y b)).bind λy=>Br op' x y).bind Bq=_
    cases top Y a (evE U Y a) with
    |bad=>exact .inl rfl
    |exn x=>exact .inr rfl
    |ok d=>
     cases top Y b (evE U Y b) with
     |bad=>exact .inl rfl
     |exn x=>exact .inr rfl
     |ok d'=>
      dsimp only[R.bind];exact MP _ d d'
  .replace h:=Rr h;obtain⟨op1,op2,a,b,c,rfl,h⟩:=h;replace h:=GJ h;obtain⟨o1,o2,rfl,h⟩:=h;replace h:=GJ h;obtain⟨y,z,rfl,h⟩:=h
   .simp only[Al,Bj,AQ]at h;obtain⟨⟨⟨⟨⟨rfl,rfl⟩,h1⟩,h2⟩,h3⟩,h4⟩:=h;refine SB.ref (RA v.room.units (S.e W T X _ a v h2).st (S.e W T X _ b v h3).st (S.e W T X _ c v h4).st h1) λY => ?_
    show ((top Y a (evE U Y a)).bind λx=>(top Y b (evE U Y b)).bind λy=>(Br o1 x y).bind λz=>(Cu z).bind λk=>if k=Ab then (top Y c (evE U Y c)).bind λu=>Br o2 y u else .ok (.bl Ac)).bind Bq = .bad\/((top Y a (evE U Y a)).bind λx=>(top Y b (evE U Y b)).bind λy=>(Br o1 x y).bind λz=>(Cu z).bind λk=>if k=Ab then (top Y c (evE U Y c)).bind λu=>Br o2 y u else .ok (.bl Ac)).bind Bq=_
    cases top Y a (evE U Y a) with
    |bad=>exact .inl rfl
    |exn x=>exact .inr rfl
    |ok d=>
     cases top Y b (evE U Y b) with
     |bad=>exact .inl rfl
     |exn x=>exact .inr rfl
     |ok d'=>
      dsimp only[R.bind];cases Br o1 d d' with
      |bad=>exact .inl rfl
      |exn x=>exact .inr rfl
      |ok d3=>
       cases d3 with
       |bl k=>
        cases k with
        |false=>exact .inr rfl
        |true=>
         dsimp only[R.bind,Cu];rw[AY rfl,AY rfl];cases top Y c (evE U Y c) with
         |bad=>exact .inl rfl
         |exn x=>exact .inr rfl
         |ok d4=>exact MP _ d' d4
       |_=>exact .inl rfl
  .replace h:=Rs h;obtain⟨b,as,rfl,h⟩:=h;exact SL S v h
 .exact plain _ (BC h).1 (BC h).2
end
section
variable{U:Gam}{CL:ClA}{W:XW}{k n:Ae}{T:Tc}{X:Cx}
theorem XJ{b:BI}{x:Ak}(v:VX U CL k W T X)(hb:KB b=Aa g)(hg:isB T g=Ab)(hs:SAT X CL W (x::xs) (λY=>evB U Y as))(h0:CH x=Ab)(hpl : ∀ pos,(Bv pos (Aq xs X.env)).any (·.1)=Ac):OkE U CL W X (.Call (.Name g p) (x::xs) [] pos) (.bi b as):=by
 obtain⟨g1,g2,g3,g4⟩:=FH v hg;cases b <;> simp only[KB]at hb <;> cases hb
 .exact C4 (Nc VT g1 g2 PySem.boot_len hs g3 g4 (CA h0) hpl) (λ_ _=>rfl) rfl rfl
 .exact MW (Vu UK g1 g2 Pc hs g3 g4 (CA h0) hpl) (λ_ _=>rfl) rfl
 .exact C4 (VE R3 g1 g2 Pd hs g3 g4 (CA h0) hpl) (λ_ _=>rfl) rfl rfl
 .exact C4 (Nc (VU v.calm) g1 g2 PyProof.Rows.boot_all hs g3 g4 (CA h0) hpl) (λ_ _=>rfl) rfl rfl
theorem Go{l:Ad (Ag × Ae)}(h:inX l g c=Ab):(g,c)∈l:=by
 unfold inX at h;simp only[DP,Al,AH]at h;obtain⟨p,hp,rfl,rfl⟩:=h;exact hp
theorem Gh{x:Ak}{es:Es}(h:chkEs n T (x::xs) es=Ab):CH x=Ab /\ ∃ e es',es = .cons e es' /\ ∃ m,n=m+1/\chkEs m T xs es'=Ab:=by
 cases n with
 |zero=>exact noF h
 |succ m=>
  cases es with
  |nil=>exact noF h
  |cons e es=>
   replace h:(CH x&&A7 m T x e&&chkEs m T xs es)=Ab:=h;simp only[Al]at h;exact⟨h.1.1,e,es,rfl,m,rfl,h.2⟩
theorem GE : ∀(m:Ae)(xs:Ad Ak)(es:Es),chkEs m T xs es=Ab -> ∀ pos,(Bv pos (Aq xs X.env)).any (·.1)=Ac:=by
 intro m
 induction m with
 |zero=>intro xs es h;exact noF h
 |succ m ih=>
  intro xs es h pos;cases xs with
  |nil=>rfl
  |cons x xs=>
   obtain⟨h0,e,es',rfl,m',e1,h1⟩:=Gh h;cases e1;exact Lr h0 (ih xs es' h1 pos)
theorem Tp(S:Snd U CL k n){x:Ak}{b:BI}(v:VX U CL k W T X)(h:(match Jf as with|some (s,a)=>GY x λf l ks cp=>ks.isEmpty&&(Gs f λo m ap=>m==("join" : Ag)&&ap.endLine==cp.line&&(Fj o λc=>decide (c = .str s)&&decide (b = .sjoin)&&(C3 l λy=>CH y&&A7 n T y a)))|none=>Ac)=Ab):OkE U CL W X x (.bi b as):=by
 cases q1:Jf as with
 |none=>rw[q1]at h;cases h
 |some t=>
  obtain⟨s,a⟩:=t;rw[q1]at h;obtain⟨e,te⟩:=UP q1;subst e;replace h:=Jw h;obtain⟨f,l,ks,cp,rfl,h⟩:=h;replace h:=BC h;obtain⟨h0,h⟩:=h;obtain rfl:=Fi h0;replace h:=Ia h;obtain⟨o,m,ap,rfl,h⟩:=h;replace h:=BC h;obtain⟨h1,h⟩:=h;replace h1:=BC h1;obtain⟨h1,h2⟩:=h1;obtain rfl:=eq_of_beq h1;replace h:=Gf h;obtain⟨c,u,p,rfl,h⟩:=h;replace h:=BC h;obtain⟨h3,h⟩:=h;replace h3:=BC h3;obtain⟨h3,h4⟩:=h3;obtain rfl:=AI h3;obtain rfl:=AI h4;replace h:=DS h;obtain⟨y,rfl,h⟩:=h;replace h:=BC h;obtain⟨h5,h6⟩:=h;refine C4 (SE.congr (se_join (S.e W T X _ a v h6).se rfl (by rw[CA h5];rfl) h2 (by rw[CA h5];rfl)) λY => ?_) (λ_ _=>rfl) rfl rfl
  simp only[VI,evB,R.bind_assoc,R.bind_ok,SK,UH,te]
theorem U_0(S:Snd U CL k n){x:Ak}{b:BI}(v:VX U CL k W T X)(h:(match Lg as with|some a=>(match N3 x with|some y=>decide (b = .rvs)&&A7 n T y a|none=>Ac)|none=>Ac)=Ab):OkE U CL W X x (.bi b as):=by
 simp[Lg]at h
theorem Ur(S:Snd U CL k n){x:Ak}{b:BI}(v:VX U CL k W T X)(h:(match KJ as with|some (a,c)=>(match OF x with|some (y,z,_)=>decide (b = .tlt) && !behindInMarks .Lt z&&A7 n T y a&&A7 n T z c|none=>Ac)|none=>Ac)=Ab):OkE U CL W X x (.bi b as):=by
 simp[KJ]at h
theorem VL{x:Ak}{b:BI}(v:VX U CL k W T X)(h:OA T x b as=Ab):OkE U CL W X x (.bi b as):=by
 exact absurd h Ap
theorem Vn(S:Snd U CL k n){x:Ak}{b:BI}(v:VX U CL k W T X)(h:(match KM as with|some (a,k)=>(match Oq x with|some (y,j)=>decide (b = .stp)&&decide (j=k)&&decide (0<=k)&&A7 n T y a|none=>Ac)|none=>Ac)=Ab):OkE U CL W X x (.bi b as):=by
 simp[KM]at h
theorem VY(S:Snd U CL k n){x:Ak}{b:BI}(v:VX U CL k W T X)(h:(match KP as with|some (a,c)=>(match Od x with|some (g,h,y,z)=>decide (b = .list)&&g==("list" : Ag)&&h==("range" : Ag)&&isB T g&&isB T h&&CH y&&CH z&&A7 n T y a&&A7 n T z c|none=>Ac)|none=>Ac)=Ab):OkE U CL W X x (.bi b as):=by
 simp[KP]at h
theorem TQ(S:Snd U CL k n){x:Ak}{b:BI}(v:VX U CL k W T X)(h:(match KN as with|some a=>(match Oc x with|some (g,h,y)=>decide (b = .lset)&&g==("len" : Ag)&&h==("set" : Ag)&&isB T g&&isB T h&&CH y&&A7 n T y a|none=>Ac)|none=>Ac)=Ab):OkE U CL W X x (.bi b as):=by
 simp[KN]at h
theorem WS(S:Snd U CL k n)(W:XW)(T:Tc)(X:Cx)(x:Ak)(c:E)(v:VX U CL k W T X)(h:A7 (n+1) T x c=Ab):OkE U CL W X x c:=by
 cases c with
 |non=>
  replace h:=Gf h;obtain⟨c,u,p,rfl,h⟩:=h;obtain rfl:=AI h;exact C4 Vy (λ_ _=>rfl) rfl rfl
 |bl b=>
  replace h:=Gf h;obtain⟨c,u,p,rfl,h⟩:=h;obtain rfl:=AI h;exact C4 NJ (λ_ _=>rfl) rfl rfl
 |int i=>
  replace h:=Gf h;obtain⟨c,u,p,rfl,h⟩:=h;obtain rfl:=AI h;exact C4 VB (λ_ _=>rfl) rfl rfl
 |str i=>
  replace h:=Gf h;obtain⟨c,u,p,rfl,h⟩:=h;obtain rfl:=AI h;exact C4 M8 (λ_ _=>rfl) rfl rfl
 |var i=>
  replace h:=DR h;obtain⟨y,p,rfl,h⟩:=h;exact⟨Vx (Iv v h),GP (Iv v h),λz=>(nomatch z),λz=>(nomatch z)⟩
 |glob g=>exact absurd (show Ac=Ab from h) Ap
 |bin op a b=>
  replace h:=Mm h;obtain⟨y,op',z,p,rfl,h⟩:=h;simp only[Al,AQ]at h;obtain⟨⟨rfl,h1⟩,h2⟩:=h;have ha:=(S.e W T X _ a v h1).st;have hb:=(S.e W T X _ b v h2).st;refine⟨Km (J4 _) ha hb,(Km (J4 _) ha hb).st,λz => ?_,λz=>nomatch z⟩
  cases op' <;> first|exact Vv ha hb|cases z
 |un op a=>exact absurd (show Ac=Ab from h) Ap
 |no a=>
  replace h:=J5 h;obtain⟨o,y,p,rfl,h⟩:=h;replace h:=BC h;obtain⟨h0,h⟩:=h;obtain rfl:=AI h0;exact C4 (M9 (S.e W T X _ a v h).st) (λ_ _=>rfl) rfl rfl
 |and es=>
  replace h:=Hh h;obtain⟨o,ys,p,rfl,h⟩:=h;replace h:=BC h;obtain⟨h0,h⟩:=h;obtain rfl:=AI h0;simp only[Al,Bj,Cv]at h;exact C4 ((S.es W T X _ es v h.1).2.2.2.1 _ h.2).1 (λ_ _=>rfl) rfl rfl
 |or es=>
  replace h:=Hh h;obtain⟨o,ys,p,rfl,h⟩:=h;replace h:=BC h;obtain⟨h0,h⟩:=h;obtain rfl:=AI h0;simp only[Al,Bj,Cv]at h;exact C4 ((S.es W T X _ es v h.1).2.2.2.1 _ h.2).2 (λ_ _=>rfl) rfl rfl
 |cmp op a b=>
  replace h:=Mk h;obtain⟨y,os,ys,p,rfl,h⟩:=h;replace h:=DS h;obtain⟨op',rfl,h⟩:=h;replace h:=DS h;obtain⟨z,rfl,h⟩:=h;simp only[Al,Bj,AQ]at h;obtain⟨⟨⟨rfl,h1⟩,h2⟩,h3⟩:=h;exact C4 (VD (Il v.room.units _) (S.e W T X _ a v h2).st (S.e W T X _ b v h3).st h1) (λ_ _=>rfl) rfl rfl
 |cmp2 op1 op2 a b c=>exact absurd (show Ac=Ab from h) Ap
 |ite c a b=>exact absurd (show Ac=Ab from h) Ap
 |call f as=>
  replace h:=Hd h;obtain⟨g,pp,y,ys,qq,rfl,h⟩:=h;simp only[Al,DP,AH,AQ]at h;obtain⟨⟨⟨⟨⟨p,hp,⟨rfl,rfl⟩,hl⟩,h900⟩,h1⟩,h2⟩,h3⟩:=h;obtain⟨fa,fd,ps,m1,m2,m3,m4,m5,_⟩:=v.fn p hp;have hlt:p.2.2<1000:=by omega
  rw[EU hlt]at m4 m5;have m5:=m5 hlt;obtain⟨n2,n3,n4⟩:=EE h2;obtain⟨a1,a2,a3,a4,a5⟩:=S.es W T X _ as v h3;obtain⟨s0,e,es',rfl,m,rfl,s1⟩:=Gh h3;have q:SC X CL W (U.fr p.2.1) (.Call (.Name p.1 pp) (y::ys) [] qq) (λY=>evE U Y (.call p.2.1 (.cons e es'))):=Sr (sh:=λY=>Fl Y (.cons e es')) m5 v.room (by unfold glB at h1;show X.env.scope.names.lookup p.1=_;rw[v.sc];exact eq_of_beq h1) m1 m2 m3 v.px a1 a2 (λY z=>Ix U Y _ z) (λY ds z=>by rw[Im U Y _ _ z,<-a3,hl];rfl) n2 (CA s0) (GE m ys es' s1)
  exact⟨q.se,q.se.st,λz=>by
   have z':U.fr p.2.1=Ab:=z;rw[z']at q;exact q,λz=>nomatch z⟩
 |bi b as=>
  unfold A7 at h;dsimp only at h;simp only[BN]at h;rcases h with ((((((h|h)|h)|h)|h)|h)|h)|h
  .replace h:=Hd h;obtain⟨g,pp,y,ys,qq,rfl,h⟩:=h;simp only[Al,AH]at h;obtain⟨⟨h1,h2⟩,h3⟩:=h;obtain⟨s0,e,es',rfl,m,rfl,s1⟩:=Gh h3;exact XJ v h1 h2 (S.es W T X _ _ v h3).2.1 s0 (GE m _ es' s1)
  .exact VL v h
  .exact VY S v h
  .exact Vn S v h
  .exact TQ S v h
  .exact Ur S v h
  .exact Tp S v h
  .exact U_0 S v h
 |isi a ks=>
  replace h:=orT h;rcases h with h|h
  .skip
   replace h:=DS h;obtain⟨k',rfl,h⟩:=h;replace h:=GK h;obtain⟨g,pp,l,qq,rfl,h⟩:=h;replace h:=GJ h;obtain⟨y,t,rfl,h⟩:=h;replace h:=DR h;obtain⟨t,pt,rfl,h⟩:=h;simp only[Al,AH]at h;obtain⟨⟨⟨⟨⟨rfl,h1⟩,h2⟩,h3⟩,h4⟩,h5⟩:=h;obtain⟨g1,g2,_,_⟩:=FH v h1;obtain⟨b1,b2,b3,b4⟩:=FH v h3;obtain⟨ty,t1,t2⟩:=XI h2;exact C4 (VA t1 g1 g2 b1 b2 t2 b3 b4 (S.e W T X _ a v h5).st (CA h4)) (λ_ _=>rfl) rfl rfl
  .replace h:=DS h;obtain⟨k',rfl,h⟩:=h;replace h:=GK h;obtain⟨g,pp,l,qq,rfl,h⟩:=h;replace h:=GJ h;obtain⟨y,t,rfl,h⟩:=h;replace h:=DR h;obtain⟨t,pt,rfl,h⟩:=h;simp only[Al,AH]at h;obtain⟨⟨⟨⟨rfl,h1⟩,h4⟩,h5⟩,h6⟩:=h;obtain⟨g1,g2,_,_⟩:=FH v h1;cases k' with
   |verr=>
    replace h6:=BC (a:=t==("ValueError" : Ag)) h6;obtain⟨h6,h7⟩:=h6;obtain rfl:=eq_of_beq h6;obtain⟨b1,b2,_,_⟩:=FH v h7;exact C4 (Na v.xt.xc g1 g2 b1 b2 (S.e W T X _ a v h5).st (CA h4)) (λ_ _=>rfl) rfl rfl
   |cls c=>
    replace h6:=BC (a:=inX T.exs t c&&glB T t) h6;obtain⟨h6,h8⟩:=h6;replace h6:=BC h6;obtain⟨h6,h7⟩:=h6;obtain⟨C,m1,m3,_⟩:=v.xt.ex _ (Go h6);obtain⟨n2,_,_⟩:=EE h8;exact C4 (Nb v.xt.xc g1 g2 (by unfold glB at h7;show X.env.scope.names.lookup _=_;rw[v.sc];exact eq_of_beq h7) m1 m3 n2 (S.e W T X _ a v h5).st (CA h4)) (λ_ _=>rfl) rfl rfl
   |_=>exact noF h6
 |idx a i=>
  replace h:=RL h;obtain⟨y,z,p,rfl,h⟩:=h;simp only[Al]at h;obtain⟨⟨h1,h2⟩,h3⟩:=h;exact C4 (VC (Rz h1) (S.e W T X _ a v h2).st (S.e W T X _ i v h3).st) (λ_ _=>rfl) rfl rfl
 |sl a lo hi=>exact absurd (show Ac=Ab from h) Ap
 |tup es=>
  replace h:=H9 h;obtain⟨ys,cc,p,rfl,h⟩:=h;simp only[Al,AQ]at h;have q:=S.es W T X _ es v h.1;exact C4 (M7 q.1 λY ds z=>by rw[F0 U Y _ _ z,<-q.2.2.1];omega) (λ_ _=>rfl) rfl rfl
 |lst es=>
  replace h:=JF h;obtain⟨ys,p,rfl,h⟩:=h;simp only[Al,AQ]at h;have q:=S.es W T X _ es v h.1;exact MW (Kh q.1 λY ds z=>by rw[F0 U Y _ _ z,<-q.2.2.1];omega) (λ_ _=>rfl) rfl
 |comp elt t it c=>
  replace h:=TF (e:=x) (F:=_) (by unfold A7 at h;exact h)
  obtain⟨y,tg,it',ifs,scope,p,rfl,h⟩:=h;replace h:=DR h;obtain⟨w,pw,rfl,h⟩:=h;simp only[Al]at h;obtain⟨⟨⟨⟨⟨h1,h2⟩,h3⟩,h4⟩,h5⟩,h6⟩:=h;refine W2 v.calm ⟨_,_,_,_,_,_,_,_,_,_,_,_,_,rfl,(Nr v h3).1,S.i W T X Ac _ _ it v rfl h1,UD t,λcl C s H fp=>SM (v.blk h3) (λz=>AH.mpr z) h4,λcl C s H fp=>S.t _ _ _ c (v.blk h3) h5,λcl C s H fp=>(S.e W0 _ _ _ elt (v.blk h3) h6).se,Kk h2,λY=>rfl⟩ (λ_ _=>rfl)
 |compT elt ts it c=>exact absurd (show Ac=Ab from h) Ap
 |tupI it=>exact absurd (show Ac=Ab from h) Ap
 |dnew=>exact noF h
 |fld o f=>
  replace h:=Ia h;obtain⟨w,g,p,rfl,h⟩:=h;simp only[Al,AH]at h;obtain⟨⟨⟨rfl,h2⟩,h3⟩,h4⟩:=h;exact C4 (MN v.xt.xc (λc C z=>v.xt.nf c C z _ h2) (S.e W T X _ o v h4).st (Uw h3)) (λ_ _=>rfl) rfl rfl
 |mkx c as=>
  replace h:=BC h;obtain⟨h0,h⟩:=h;replace h:=Hd h;obtain⟨g,np,x,xs,cpos,rfl,h⟩:=h;simp only[Al,AQ]at h;obtain⟨⟨⟨⟨h1,h2⟩,h3⟩,h4⟩,h5⟩:=h;obtain⟨C,m1,m2⟩:=v.xt.rz _ (Go h1);obtain⟨n2,_,_⟩:=EE h3;obtain⟨s0,e,es',rfl,m,rfl,s1⟩:=Gh h5;have q:=S.es W T X _ _ v h5;exact C4 (se_mk (v.ex h0) v.room (by unfold glB at h2;show X.env.scope.names.lookup g=_;rw[v.sc];exact eq_of_beq h2) m2 n2 m1 q.1 (λds=>v.xt.made c C ds m1) (CA s0) (GE m xs es' s1 _) (λY ds z=>by rw[F0 U Y _ _ z,<-q.2.2.1,A9];omega)) (λ_ _=>rfl) rfl rfl
theorem snd : ∀ n,Snd U CL k n
 |0=>Ry
 |n+1=>⟨WS (snd n),WT (snd n),Vq (snd n),Vp (snd n),WQ (snd n),WO (snd n),WR (snd n)⟩
end
section
variable{U:Gam}{CL:ClA}{W:XW}{k n:Ae}{T:Tc}{X:Cx}
theorem SQ{t:Ae}(v:VX U CL k W T X)(hf : ∀ x,X.fn x=Ab)(h:tgC T [t] [x]=Ab):PG X (.Name x pos) (EF t):=by
 unfold tgC at h;simp only[Al,AH]at h;exact Ij (by rw[v.N];exact v.nd) (by rw[v.N];exact h.1.1) (by rw[v.sc];exact GH h.1.2) (.inl (hf x))
theorem SR(v:VX U CL k W T X)(hf : ∀ x,X.fn x=Ab) : ∀(ys:Ad Ak)(ts:Ad Ae)(zs:Ad Ag),E3 ys=Aa zs->tgC T ts zs=Ab->PGs X ys (ts.foldr (λt u=>Hy (EF t) u) HN)/\ts.length=ys.length:=by
 intro ys
 induction ys with
 |nil=>
  intro ts zs e h;cases e;cases ts with
  |nil=>exact⟨Ue,rfl⟩
  |cons t ts=>cases h
 |cons y r ih=>
  intro ts zs e h;obtain⟨x,p,ws,rfl,e2,rfl⟩:=Ll e;cases ts with
  |nil=>cases h
  |cons t ts=>
   have h':(T.N[t]? == Aa x&&FO T x&&tgC T ts ws)=Ab:=h;simp only[Al,AH]at h';obtain⟨h1,h2⟩:=ih ts ws e2 h'.2;exact⟨RG (Ij (by rw[v.N];exact v.nd) (by rw[v.N];exact h'.1.1) (by rw[v.sc];exact GH h'.1.2) (.inl (hf x))) h1 (by rw[LC];rfl),congrArg (· + 1) h2⟩
theorem SN(v:VX U CL k W T X)(hf : ∀ x,X.fn x=Ab)(hn:(E3 ys).isSome=Ab)(h:tgC T ts (tgN ys)=Ab):PG X (.Tuple ys kk pos) (Lh X.K ts.length (ts.foldr (λt u=>Hy (EF t) u) HN)):=by
 cases e:E3 ys with
 |none=>rw[e]at hn;cases hn
 |some zs=>
  have e2:tgN ys=zs:=by unfold tgN;rw[e];rfl
  rw[e2]at h;obtain⟨h1,h2⟩:=SR v hf ys ts zs e h;obtain⟨h3,h4,_⟩:=QO (env:=X.env) ys zs e;exact Vc v.calm h1 (by rw[h3,h2]) h4
theorem Q3(ts:Ad Ae) : ∀ d Y x,ED ts d Y ≠ .exn x:=λd Y x h=>by
 unfold ED at h;cases d with
 |tup xs=>
  dsimp only at h;cases e:EC ts xs Y with
  |some r=>rw[e]at h;cases h
  |none=>rw[e]at h;cases h
 |_=>cases h
theorem R1{elt:Ak}{gs:Ad FS}{l:Ae} : ∃ b,Ch (.ListComp elt gs scope pos) (Aa (.Name x pos')) l env=pure b/\(b=Ab->env.scope.names.lookup x=Aa .local):=by
 refine⟨_,rfl,λh => ?_⟩
 simp only[Al,AH]at h;exact h.1.1.2
theorem Kn{v0:Ak}{i:Ae}{e:E}{fr:Aj}(v:VX U CL k W T X)(hf : ∀ x,X.fn x=Ab)(hi:T.N[i]? = Aa x)(hl:FO T x=Ab)(o:OkE U CL W X v0 e)(hfr:fr=Ab->Dg U e=Ab):SAs X CL W fr i (.Assign [.Name x p] v0 pos) (λY=>evE U Y e):=by
 have hN:X.N.Nodup:=by rw[v.N];exact v.nd
 have hi':X.N[i]? = Aa x:=by rw[v.N];exact hi
 have hx:Loc X.env.scope x:=by rw[v.sc];exact GH hl
 have sc:SC X CL W fr v0 (λY=>evE U Y e):=by
  cases fr with
  |false=>exact o.se.sc
  |true=>exact o.nw (hfr rfl)
 cases hc:Gn v0 with
 |true=>exact SC.sas hN hi' hx sc (GI hc) (.inl (hf x))
 |false=>
  obtain⟨tg,iter,elt,ifs,scope,pos2,N',ts,fi,fc,fe,as,g,rfl,B,h2,hGG,hg,ht,he,hs,ef⟩:=o.cp hc;obtain⟨b,hb,hb'⟩:=R1 (elt:=elt) (gs:=[⟨tg,iter,ifs,0⟩]) (scope:=scope) (pos:=pos2) (pos':=p) (x:=x) (l:=pos.line) (env:=X.env);cases b with
  |false=>exact SC.sas hN hi' hx sc hb (.inl (hf x))
  |true=>
   have q:=RC (pos2:=pos) v.calm B h2 hGG hg ht he hs hN hi' (hb' rfl) hb;have q':SAs X CL W Ab i (.Assign [.Name x p] (.ListComp elt [⟨tg,iter,ifs,0⟩] scope pos2) pos) (λY=>evE U Y e):=by
    have:(λY=>evE U Y e)=_:=funext ef
    rw[this];exact q
   cases fr with
   |true=>exact q'
   | false=>exact λA=>PS.weak (q' A) λD Z H ⟨hA,Y,gd,z⟩=>⟨hA,Y,gd,by
     dsimp only at z ⊢;cases e0:evE U Y e with
     |ok d=>
      rw[e0]at z;exact λv' H' s' r'=>z v' H' s' ⟨r'.1,λ_=>r'.2 rfl⟩
     |exn y=>rw[e0]at z;exact z
     | bad=>rw[e0]at z;exact z⟩
theorem LX(Y:Rho)(e:E)(h : ∀ i,e ≠ .var i):evS U Y (.ret e)=O.of Y (evE U Y e) λd => .ret d (Dg U e):=by
 have k : ∀ b:Aj,b=Ac->top Y e (evE U Y e)=evE U Y e->(O.of Y (top Y e (evE U Y e)) λd => .ret d (Dg U e||b))=O.of Y (evE U Y e) λd => .ret d (Dg U e):=λb hb ht=>by
  rw[hb,ht];simp only[C5]
 rw[UG];cases e with
 |var i=>exact absurd rfl (h i)
 |_=>exact k _ rfl rfl
structure DefX (X:Cx):Prop where
 fn : ∀ x,X.fn x=Ab
 ex:X.ex=[]
 st:X.stack=X.env::X.outer
 fm:X.env.frame=Aa X.env.locals
structure SndS (U:Gam) (CL:ClA) (k:Ae) (n:Ae):Prop where
 s : ∀(W:XW)(T:Tc)(X:Cx)(x:AC)(c:S),VX U CL k W T X->DefX X->HM n T x c=Ab->SS X CL W x (λY=>evS U Y c)
 ss : ∀(W:XW)(T:Tc)(X:Cx)(x:Ad AC)(c:Ss),VX U CL k W T X->DefX X->chkSs n T x c=Ab->SSs X CL W x (λY=>evSs U Y c)
theorem Tu(x y:D)(e:Ex):Ga x y ≠ .exn e:=by
 intro z;cases x with
 |lst xs=>cases y <;> first|exact GO z|cases z
 |tup xs=>cases y <;> first|exact GO z|cases z
 |str x=>
  cases y with
  |int i=>
   have z':(if B9 x.length=Ab then CZ (FQ x) i else .bad) = .exn e:=z
   split at z'
   .exact GO z'
   .cases z'
  |_=>cases z
 |dic kvs=>
  have z':(match (F8 y).bind (Ka kvs) with|some d=>R.ok d|none => .bad) = .exn e:=z
  cases h:(F8 y).bind (Ka kvs) with
  |none=>rw[h]at z';cases z'
  |some k=>rw[h]at z';cases z'
 |_=>cases z
theorem MG{i:Ae}{y:Ex}:CB Y i ≠ .exn y:=λz'=>by
 unfold CB at z';split at z' <;> cases z'
theorem HX(U:Gam)(Y:Rho)(e:E)(h:IZ e=Ab)(y:Ex):top Y e (evE U Y e) ≠ .exn y:=by
 cases e with
 |var i=>
  intro z;have z':CB Y i = .exn y:=z;unfold CB at z';split at z' <;> cases z'
 |idx a b=>
  cases a with
  |var i=>
   cases b with
   |int j=>
    intro z;have z':(CB Y i).bind (λx=>Ga x (.int j)) = .exn y:=z
    cases e1:CB Y i with
    |bad=>rw[e1]at z';cases z'
    |exn w=>exact MG e1
    |ok d=>rw[e1]at z';exact Tu _ _ _ z'
   |_=>exact noF h
  |_=>exact noF h
 |bin op a b=>
  have h:(Ot op&&K3 a b)=Ab:=h;rw[Al]at h;obtain⟨h0,h⟩:=h;cases op with
  |Sub=>
   cases a with
   |var i=>
    cases b with
    |int j=>
     intro z;have z':(CB Y i).bind (λx=>Cn .Sub x (.int j)) = .exn y:=z
     cases e1:CB Y i with
     |bad=>rw[e1]at z';cases z'
     |exn w=>exact MG e1
     |ok d=>rw[e1]at z';cases d <;> cases z'
    |_=>exact noF h
   |_=>exact noF h
  |_=>exact absurd (show Ac=Ab from h0) Ap
 |int i=>intro z;cases z
 |bl i=>intro z;cases z
 |str i=>intro z;cases z
 |non=>intro z;cases z
 |_=>cases h
theorem Jn(U:Gam)(Y:Rho) : ∀(es:Es),F5 es=Ab -> ∀ y,evB U Y es ≠ .exn y
 |.nil,_,y=>λz=>by cases z
 |.cons e es,h,y=>λz=>by
  unfold F5 at h;rw[Al]at h;rw[J6]at z;cases e1:top Y e (evE U Y e) with
  |bad=>rw[e1]at z;cases z
  |exn w=>exact HX U Y e h.1 w e1
  |ok d=>
   rw[e1,R.bind_ok]at z;cases e2:evB U Y es with
   |bad=>rw[e2]at z;cases z
   |exn w=>exact Jn U Y es h.2 w e2
   |ok ds=>rw[e2]at z;cases z
theorem VX.pw(v:VX U CL k W T X)(own:Dr (model X.prog X.w) X.A X.env Xw):VX U CL k W0 T (Cx.pw X pI Xw):=⟨v.sc,v.kd,v.N,v.nd,v.calm,v.room,v.bl,v.fn,own,Nj,N2,v.xt,v.gl,v.ex⟩
theorem LN(o:O):(o.seq λY'=>O.next Y')=o:=by cases o <;> rfl
theorem STB.congr{st:Ad AC}{f g:Rho->O}(h:STB X CL st f)(e : ∀ Y,g Y=f Y):STB X CL st g:=by
 have:g=f:=funext e;rw[this];exact h
theorem M3(Sn:Snd U CL k n)(v:VX U CL k W T X)(hf:DefX X){st:AC}{s:S}(h:Io n T st s=Ab):STB X CL [st] (λY=>evSs U Y (.cons s .nil)) /\ ∀ Y y Y',evSs U Y (.cons s .nil) = .exn y Y'->Y'=Y:=by
 have seq : ∀ Y,evSs U Y (.cons s .nil)=evS U Y s:=λY=>LN _
 have ofn : ∀{r:R D}{f:D->Rho}{Y Y':Rho}{y:Ex},(O.of Y r λd=>O.next (f d)) = .exn y Y'->Y'=Y:=λ{r f Y Y' y} z=>by
  cases r with
  |ok d=>cases z
  |exn w=>cases z;rfl
  |bad=>cases z
 have call : ∀{e:Ak}{f:Ae}{as:Es},A7 n T e (.call f as)=Ab->F5 as=Ab -> ∃ g pp y ys qq,e = .Call (.Name g pp) (y::ys) [] qq /\ ∃ p∈T.fns,g=p.1/\f=p.2.1/\p.2.2=ys.length+1/\ys.length<900/\glB T g=Ab/\Ef g=Ab /\ ∃ m,n=m+1/\chkEs m T (y::ys) as=Ab:=λ{e f as} h _=>by
  cases n with
  |zero=>exact noF h
  |succ m=>
   replace h:=Hd h;obtain⟨g,pp,y,ys,qq,rfl,h⟩:=h;simp only[Al,DP,AH,AQ]at h;obtain⟨⟨⟨⟨⟨p,hp,⟨e1,e2⟩,hl⟩,h900⟩,h1⟩,h2⟩,h3⟩:=h;exact⟨g,pp,y,ys,qq,rfl,p,hp,e1.symm,e2.symm,hl,h900,h1,h2,m,rfl,h3⟩
 cases s with
 |expr e0=>
  replace h:(GZ e0 λf as=>GX st λv=>A7 n T v (.call f as)&&F5 as)=Ab:=h
  replace h:=Ml h;obtain⟨f,as,rfl,h⟩:=h;replace h:=Jv h;obtain⟨v0,pos,rfl,h⟩:=h;rw[Al]at h;obtain⟨g,pp,y,ys,qq,rfl,p,hp,rfl,rfl,hl,h900,h1,h2,m,rfl,h3⟩:=call h.1 h.2;obtain⟨fa,fd,ps,m1,m2,m3,m4,m5,_⟩:=v.fn p hp;have hlt:p.2.2<1000:=by omega
  rw[EU hlt]at m4 m5;have m5:=m5 hlt;obtain⟨n2,n3,n4⟩:=EE h2;obtain⟨s0,e,es',rfl,m',rfl,s1⟩:=Gh h3;have hlen:ys.length+1=(Es.cons e es').len:=(snd (U:=U) (CL:=CL) (k:=k) (m'+1)).es W T X _ _ v h3 |>.2.2.1;refine⟨STB.congr (Rw (X:=X) (fs:=λY=>evA U Y (.cons e es')) (sh:=λY=>Fl Y (.cons e es')) hf.ex m5 v.room (by unfold glB at h1;show X.env.scope.names.lookup p.1=_;rw[v.sc];exact eq_of_beq h1) m1 m2 m3 (λY z=>Ix U Y _ z) (λY ds z=>by rw[Im U Y _ _ z,<-hlen,hl]) (λY=>Jn U Y _ h.2) n2 (CA s0) (GE m' ys es' s1) (λpI Xw own=>by
   obtain⟨a1,a2,_⟩:=(snd (U:=U) (CL:=CL) (k:=k) (m'+1)).es W0 T (Cx.pw X pI Xw) _ _ (v.pw own) h3;exact⟨a1,a2⟩) (GI rfl)) λY=>seq Y,λY y Y' z => ?_⟩
  rw[seq]at z;exact ofn (f:=λ_=>Y) z
 |asg i b0 e0=>
  replace h:(!b0&&(GZ e0 λf as=>HB st λy v=>T.N[i]? == Aa y&&FO T y&&A7 n T v (.call f as)&&F5 as))=Ab:=h
  replace h:=BC h;obtain⟨hb,h⟩:=h;cases b0 with
  |true=>exact absurd (show Ac=Ab from hb) Ap
  |false=>
  replace h:=Ml h;obtain⟨f,as,rfl,h⟩:=h;replace h:=Jx h;obtain⟨y0,p0,v0,pos,rfl,h⟩:=h;simp only[Al,AH]at h;obtain⟨⟨⟨i1,i2⟩,hc⟩,hsim⟩:=h;obtain⟨g,pp,y,ys,qq,rfl,p,hp,rfl,rfl,hl,h900,h1,h2,m,rfl,h3⟩:=call hc hsim;obtain⟨fa,fd,ps,m1,m2,m3,m4,m5,_⟩:=v.fn p hp;have hlt:p.2.2<1000:=by omega
  rw[EU hlt]at m4 m5;have m5:=m5 hlt;obtain⟨n2,n3,n4⟩:=EE h2;obtain⟨s0,e,es',rfl,m',rfl,s1⟩:=Gh h3;have hlen:ys.length+1=(Es.cons e es').len:=(snd (U:=U) (CL:=CL) (k:=k) (m'+1)).es W T X _ _ v h3 |>.2.2.1;refine⟨STB.congr (S1 (X:=X) (fs:=λY=>evA U Y (.cons e es')) (sh:=λY=>Fl Y (.cons e es')) (i:=i) hf.ex m5 v.room (by unfold glB at h1;show X.env.scope.names.lookup p.1=_;rw[v.sc];exact eq_of_beq h1) m1 m2 m3 (λY z=>Ix U Y _ z) (λY ds z=>by rw[Im U Y _ _ z,<-hlen,hl]) (λY=>Jn U Y _ hsim) n2 (CA s0) (GE m' ys es' s1) (λpI Xw own=>by
   obtain⟨a1,a2,_⟩:=(snd (U:=U) (CL:=CL) (k:=k) (m'+1)).es W0 T (Cx.pw X pI Xw) _ _ (v.pw own) h3;exact⟨a1,a2⟩) (by rw[v.N];exact v.nd) (by rw[v.N];exact i1) (by rw[v.sc];exact GH i2) (.inl (hf.fn _)) (GI rfl)) λY=>seq Y,λY y Y' z => ?_⟩
  rw[seq]at z;exact ofn (f:=λd=>Y.set i (Aa (d,Ac))) z
 |_=>exact noF h
theorem UL(op:Cd)(x y:D)(e:Ex):Br op x y ≠ .exn e:=λz=>by
 rcases L9 op x y with w|⟨b,w⟩ <;> (rw[w]at z;cases z)
theorem SH(x:D)(e:Ex):Bq x ≠ .exn e:=by
 unfold Bq;split <;> first|(intro z;cases z;done)|(split <;> intro z <;> cases z)
theorem Md(U:Gam)(Y:Rho)(c:E)(h:K2 c=Ab)(y:Ex):(top Y c (evE U Y c)).bind Bq ≠ .exn y:=by
 have key : ∀ e,top Y c (evE U Y c) ≠ .exn e:=by
  cases c with
  |var i=>exact HX U Y (.var i) rfl
  |cmp op a b=>
   unfold K2 at h;rw[Al]at h;intro e z;have z':((top Y a (evE U Y a)).bind λx=>(top Y b (evE U Y b)).bind λy=>Br op x y) = .exn e:=by
    have e0:evE U Y (.cmp op a b)=((top Y a (evE U Y a)).bind λx=>(top Y b (evE U Y b)).bind λy=>Br op x y):=UI U Y op a b
    rw[<-e0];exact z
   cases e1:top Y a (evE U Y a) with
   |bad=>rw[e1]at z';cases z'
   |exn w=>exact HX U Y a h.1 w e1
   |ok d=>
    rw[e1,R.bind_ok]at z';cases e2:top Y b (evE U Y b) with
    |bad=>rw[e2]at z';cases z'
    |exn w=>exact HX U Y b h.2 w e2
    |ok d2=>rw[e2,R.bind_ok]at z';exact UL _ _ _ _ z'
  |_=>cases h
 intro z;cases e1:top Y c (evE U Y c) with
 |bad=>rw[e1]at z;cases z
 |exn w=>exact key w e1
 |ok d=>rw[e1,R.bind_ok]at z;exact SH _ _ z
theorem Wc(Sn:Snd U CL k n)(v:VX U CL k W T X)(hf:DefX X) : ∀(m:Ae){st:AC}{s:S},IJ m n T st s=Ab->STB X CL [st] (λY=>evSs U Y (.cons s .nil)) /\ ∀ Y y Y',evSs U Y (.cons s .nil) = .exn y Y'->Y'=Y:=by
 intro m
 induction m with
 |zero=>intro st s h;exact M3 Sn v hf h
 |succ m ih=>
  intro st s h;replace h:=orT (a:=Io n T st s) (b:=Nq (IJ m n T) n T st s) h;rcases h with h|h
  .exact M3 Sn v hf h
  .cases s with
   |ife c a b=>
    replace h:=Mi h;obtain⟨a,rfl,h⟩:=h;replace h:=Mi h;obtain⟨b,rfl,h⟩:=h;replace h:=Mx h;obtain⟨t,xs,ys,pos,rfl,h⟩:=h;replace h:=DS h;obtain⟨xs,rfl,h⟩:=h;replace h:=DS h;obtain⟨ys,rfl,h⟩:=h;simp only[Al]at h;obtain⟨⟨⟨h1,h2⟩,h3⟩,h4⟩:=h;obtain⟨a1,a2⟩:=ih h3;obtain⟨b1,b2⟩:=ih h4;have ev : ∀ Y,evSs U Y (.cons (.ife c (.cons a .nil) (.cons b .nil)) .nil)=O.of Y ((top Y c (evE U Y c)).bind Bq) λk=>if k=Ab then evSs U Y (.cons a .nil) else evSs U Y (.cons b .nil):=λY=>LN _
    refine⟨STB.congr (S0 (λpI Xw own=>(Sn.b W0 T (Cx.pw X pI Xw) _ _ (v.pw own) h1)) (λY y=>Md U Y c h2 y) a1 b1) λY=>ev Y,λY y Y' z => ?_⟩
    rw[ev]at z;cases e1:(top Y c (evE U Y c)).bind Bq with
    |bad=>rw[e1]at z;cases z
    |exn w=>exact absurd e1 (Md U Y c h2 w)
    |ok k=>
     rw[e1,O.of_ok]at z;cases k with
     |true=>exact a2 Y y Y' z
     |false=>exact b2 Y y Y' z
   |_=>exact noF h
theorem Hr{i:Ae}{e:Ai}(v:VX U CL k W T X)(h:isV T x i=Ab):PE (Cx.hot X e) (.Name x pos) (DJ i):=by
 unfold isV at h;simp only[Al,AH]at h;obtain⟨h2,h3,_⟩:=EE h.2;exact Ir (by show X.N[i]? = _;rw[v.N];exact h.1.1) (by show Vis X.env.scope x;rw[v.sc];exact L6 h.1.2) h2 h3
theorem MY{x:Ae}{t:Ak}{c:E} : ∀{n:Ae},Fk n T x t c=Ab -> ∀ Y r,top Y c r=r:=λ{n} h=>by
 cases n with
 |zero=>exact noF h
 |succ n=>
  cases c with
  |var i=>exact noF h
  |_=>exact λ_ _=>rfl
theorem Sq(v:VX U CL k W T X)(e:Ai) : ∀(ts:Ad Ak)(ks:Ad Ki),KH T ts ks=Ab -> ∃ cs:Ad (Ae × Ai),ks=cs.map (λq=>Ki.cls q.1)/\cs.length=ts.length/\PA (Cx.hot X e) ts (Op (cs.map λq:Ae × Ai=>q.2)) /\ ∀ q∈cs,Ht X.K CL U.up q.1 q.2:=by
 intro ts
 induction ts with
 |nil=>
  intro ks h;obtain rfl:=Fi h;exact⟨[],rfl,rfl,E2,λq hq=>nomatch hq⟩
 |cons t ts ih=>
  intro ks h;replace h:=F1 h;obtain⟨kk,ks,rfl,h⟩:=h;replace h:=DR h;obtain⟨t,p,rfl,h⟩:=h;replace h:=BC h;obtain⟨h,h4⟩:=h;cases kk with
  |cls c=>
   replace h:(inX T.exs t c&&glB T t&&Ef t)=Ab:=h;simp only[Al]at h;obtain⟨⟨h1,h2⟩,h3⟩:=h;obtain⟨cs,e1,e2,e3,e4⟩:=ih ks h4;obtain⟨C,m1,m3,_⟩:=v.xt.ex _ (Go h1);obtain⟨n2,_,_⟩:=EE h3;refine⟨(c,C)::cs,by rw[e1];rfl,by rw[A9,A9,e2],?_,λq hq => ?_⟩
   .exact Du (Ms (X:=Cx.hot X e) (v := .ref C) (by unfold glB at h2;show X.env.scope.names.lookup t=_;rw[v.sc];exact eq_of_beq h2) m1 rfl n2) e3 rfl
   .rcases AR.mp hq with rfl|hq
    .exact m3
    .exact e4 q hq
  |_=>exact noF h
theorem IR{e:Ai}{f:Ak->E->Aj}(ih : ∀ t c,f t c=Ab->SE (Cx.hot X e) CL W0 t (λY=>evE U Y c)) : ∀(xs:Ad Ak)(es:Es),HE f xs es=Ab->SA (Cx.hot X e) CL W0 xs (λY=>evA U Y es)/\xs.length=es.len
 |[],.nil,_=>⟨Nf,rfl⟩
 |[],.cons _ _,h=>nomatch (show Ac=Ab from h)
 |_::_,.nil,h=>nomatch (show Ac=Ab from h)
 |x::xs,.cons c es,h=>by
  have h:(CH x&&f x c&&HE f xs es)=Ab:=h;simp only[Al]at h;obtain⟨⟨h1,h2⟩,h3⟩:=h;obtain⟨q,l⟩:=IR ih xs es h3;exact⟨MO (ih x c h2) q (CA h1),by rw[A9,l];rfl⟩
theorem NR(v:VX U CL k W T X)(e:Ai)(x:Ae) : ∀(n:Ae)(t:Ak)(c:E),Fk n T x t c=Ab->SE (Cx.hot X e) CL W0 t (λY=>evE U Y c):=by
 intro n
 induction n with
 |zero=>intro t c h;exact noF h
 |succ n ih=>
  intro t c h;cases c with
  |bl b=>
   replace h:=Gf h;obtain⟨k,u,p,rfl,h⟩:=h;obtain rfl:=AI h;exact NJ
  |no a=>
   replace h:=J5 h;obtain⟨o,y,p,rfl,h⟩:=h;replace h:=BC h;obtain⟨h0,h⟩:=h;obtain rfl:=AI h0;have q:=(ih _ _ h).st;refine SE.congr (M9 q) λY => ?_
   show ((top Y a (evE U Y a)).bind λx=>(Cu x).bind λb=>R.ok (D.bl (!b)))=_
   rw[MY h]
  |and es=>
   cases es with
   |nil=>exact noF h
   |cons a as=>
    cases as with
    |nil=>
     replace h:=Hh h;obtain⟨o,l,p,rfl,h⟩:=h;replace h:=BC h;obtain⟨h0,h⟩:=h;obtain rfl:=AI h0;replace h:=DS h;obtain⟨y,rfl,h⟩:=h;exact SE.congr (Kl (ih _ _ h)) λY=>rfl
    |cons a' as=>
     replace h:=Hh h;obtain⟨o,l,p,rfl,h⟩:=h;replace h:=BC h;obtain⟨h0,h⟩:=h;obtain rfl:=AI h0;replace h:=F1 h;obtain⟨y,l,rfl,h⟩:=h;replace h:=F1 h;obtain⟨z,zs,rfl,h⟩:=h;exact SE.congr (Nd (ih _ _ (BC h).1) (ih _ _ (BC h).2)) λY=>rfl
  |isi a ks=>
   replace h:=JE h;obtain⟨i,rfl,h⟩:=h;replace h:=TH h;obtain⟨g,pp,w,pq,u,pr,rfl,h⟩:=h;simp only[Al,AH]at h;obtain⟨⟨⟨⟨rfl,rfl⟩,h3⟩,h4⟩,h⟩:=h;obtain⟨g1,g2,_,_⟩:=FH v h3;replace h:=F1 h;obtain⟨kk,ks,rfl,h⟩:=h;cases kk with
   |verr=>
    replace h:=BC h;obtain⟨h0,h⟩:=h;obtain rfl:=Fi h0;replace h:=DR h;obtain⟨t,pt,rfl,h⟩:=h;simp only[Al,AH]at h;obtain⟨h5,h6⟩:=h;obtain⟨b1,b2,_,_⟩:=FH v h6;rw[h5]at b1 b2 ⊢;exact Na (X:=Cx.hot X e) v.xt.xc g1 g2 b1 b2 (GP (Hr v h4)) rfl
   |cls c=>
    cases ks with
    |nil=>
     replace h:=DR h;obtain⟨t,pt,rfl,h⟩:=h;simp only[Al]at h;obtain⟨⟨h5,h6⟩,h7⟩:=h;obtain⟨C,m1,m3,_⟩:=v.xt.ex _ (Go h5);obtain⟨n2,_,_⟩:=EE h7;exact Nb (X:=Cx.hot X e) v.xt.xc g1 g2 (by unfold glB at h6;show X.env.scope.names.lookup _=_;rw[v.sc];exact eq_of_beq h6) m1 m3 n2 (GP (Hr v h4)) rfl
    |cons k2 ks=>
     replace h:=H9 h;obtain⟨ts,z1,z2,rfl,h⟩:=h;replace h:=BC h;obtain⟨h5,h6⟩:=h;obtain⟨cs,e1,e2,e3,e4⟩:=Sq v e _ _ h5;have hne:cs≠[]:=by rintro rfl;cases e1
     rw[e1];exact Vz (X:=Cx.hot X e) (W:=W0) (up:=U.up) v.xt.xc g1 g2 e3 hne (by rw[e2];exact AI h6) e4 (GP (Hr v h4)) rfl
   |_=>exact noF h
  |call f as=>exact absurd (show Ac=Ab from h) Ap
  |str s=>
   replace h:=Gf h;obtain⟨k,u,p,rfl,h⟩:=h;obtain rfl:=AI h;exact M8
  |lst es=>
   replace h:=JF h;obtain⟨xs,p,rfl,h⟩:=h;simp only[Al,AQ]at h;obtain⟨q,ql⟩:=IR (ih) _ _ h.1;exact(Kh q λY ds z=>by rw[F0 U Y _ _ z,<-ql];omega).se
  |tup es=>
   replace h:=H9 h;obtain⟨xs,cc,p,rfl,h⟩:=h;simp only[Al,AQ]at h;obtain⟨q,ql⟩:=IR (ih) _ _ h.1;exact M7 q λY ds z=>by rw[F0 U Y _ _ z,<-ql];omega
  |bin op a b=>
   replace h:=BC h;obtain⟨h0,h⟩:=h;obtain rfl:=AI h0;replace h:=JE h;obtain⟨i,rfl,h⟩:=h;replace h:=Mm h;obtain⟨l,o,y,p,rfl,h⟩:=h;replace h:=BC h;obtain⟨h0,h⟩:=h;obtain rfl:=AI h0;replace h:=DR h;obtain⟨w,pw,rfl,h⟩:=h;replace h:=BC h;obtain⟨h1,h2⟩:=h;refine SE.congr (Km (J4 .Add) (GP (Hr v h1)) (ih _ _ h2).st) λY => ?_
   show ((CB Y i).bind λx=>(top Y b (evE U Y b)).bind λy=>Cn .Add x y)=_
   rw[MY h2]
  |fld o f=>
   replace h:=JE h;obtain⟨i,rfl,h⟩:=h;replace h:=Ia h;obtain⟨w,g,p,rfl,h⟩:=h;replace h:=DR h;obtain⟨w,pw,rfl,h⟩:=h;simp only[Al,AH]at h;obtain⟨⟨⟨rfl,rfl⟩,h3⟩,h4⟩:=h;exact MN (X:=Cx.hot X e) v.xt.xc (λc C z=>v.xt.nf c C z _ h3) (GP (Hr v h4)) rfl
  |_=>exact noF h
theorem W1(v:VX U CL k W T X)(hf:DefX X)(e:Ai)(x:Ae) : ∀(n:Ae)(sts:Ad AC)(ss:Ss),KI n T x sts ss=Ab->SSs (Cx.hot X e) CL W0 sts (λY=>evSs U Y ss):=by
 intro n
 induction n with
 |zero=>intro t c h;exact noF h
 |succ n ih=>
  intro sts ss0 h;cases ss0 with
  |nil=>
   obtain rfl:=Fi h;exact MI
  |cons s ss0=>
   replace h:=F1 h;obtain⟨st,r,rfl,h⟩:=h;replace h:=BC h;obtain⟨h,h5⟩:=h;cases s with
   |asg i b e0=>
    replace h:=Jx h;obtain⟨y,py,v0,pos,rfl,h⟩:=h;simp only[Al,AH]at h;obtain⟨⟨⟨⟨h1,h2⟩,h3⟩,h4⟩,h6⟩:=h;cases b with
    |true=>
     cases e0 with
     |lst es=>
      have sc:SC (Cx.hot X e) CL W0 Ab v0 (λY=>evE U Y (.lst es)):=by
       cases n with
       |zero=>exact absurd (show Ac=Ab from h4) Ap
       |succ n=>
        replace h4:=JF h4;obtain⟨l,pl,rfl,h4⟩:=h4;obtain⟨q,ql⟩:=IR (NR v e x n) _ _ (BC h4).1;have hle:=AI (BC h4).2;exact Kh q λY ds z=>by rw[F0 U Y _ _ z,<-ql];omega
      have q:=JD (MJ (SC.sas (X:=Cx.hot X e) (pos:=pos) (pos':=py) (by show X.N.Nodup;rw[v.N];exact v.nd) (by show X.N[i]? = _;rw[v.N];exact h1) (by show Loc X.env.scope _;rw[v.sc];exact GH h2) sc (GI h3) (.inl (hf.fn _)))) (ih _ _ h5)
      have ef:(λY=>evSs U Y (.cons (.asg i Ab (.lst es)) ss0))=λY=>(O.of Y (evE U Y (.lst es)) λd=>setF Y i d).seq λY=>evSs U Y ss0:=by
       funext Y
       show (evS U Y (.asg i Ab (.lst es))).seq _=_;rw[Q9];rfl
      rw[ef];exact q
     |_=>exact absurd (show Ac=Ab from h6) Ap
    |false=>
    exact JD (Vs (X:=Cx.hot X e) (by show X.N.Nodup;rw[v.N];exact v.nd) (by show X.N[_]? = _;rw[v.N];exact h1) (by show Loc X.env.scope _;rw[v.sc];exact GH h2) (NR v e x n _ _ h4) (GI h3) (.inl (hf.fn _))) (ih _ _ h5)
   |ife c a b=>exact absurd (show Ac=Ab from h) Ap
   |ret e0=>exact absurd (show Ac=Ab from h) Ap
   |app i e0=>exact absurd (show Ac=Ab from h) Ap
   |_=>exact noF h
theorem V5(v:VX U CL k W T X)(h:hdB T g c=Ab):Ow X CL U.up g c:=by
 unfold hdB at h;simp only[Al]at h;obtain⟨⟨⟨i1,i0⟩,i2⟩,i3⟩:=h;obtain⟨C,m1,m3,m4⟩:=v.xt.ex _ (Go i1);obtain⟨C0,r1,r2⟩:=v.xt.rz _ (Go i0);obtain⟨n2,_,_⟩:=EE i3;refine⟨C,by unfold glB at i2;show X.env.scope.names.lookup g=_;rw[v.sc];exact eq_of_beq i2,m1,n2,?_,λc' D hD=>m4 c' D hD⟩
 have e0:=m1.symm.trans r2;cases e0;exact v.xt.xc _ _ r1
theorem WP(Z_:SndS U CL k n)(W:XW)(T:Tc)(X:Cx)(st:AC)(c:S)(v:VX U CL k W T X)(hf:DefX X)(h:HM (n+1) T st c=Ab):SS X CL W st (λY=>evS U Y c):=by
  have E:=snd (U:=U) (CL:=CL) (k:=k) n;cases c with
  |pass=>exact absurd (show Ac=Ab from h) Ap
  |brk=>exact absurd (show Ac=Ab from h) Ap
  |cont=>exact absurd (show Ac=Ab from h) Ap
  |asg i fresh e=>
    replace h:=Jx h;obtain⟨x,px,v0,pos,rfl,h⟩:=h;simp only[Al,AH]at h;obtain⟨⟨h1,h2⟩,h3⟩:=h;have o:=E.e W T X _ e v h3;cases fresh with
    |false=>exact M6 (Kn (fr:=Ac) v hf.fn h1 h2 o (λz=>nomatch z))
    |true=>
      cases hn:Dg U e with
      |true=>
        refine SS.ref (MJ (Kn (fr:=Ab) v hf.fn h1 h2 o (λ_=>hn))) λY => .inr ?_
        show O.of Y (evE U Y e) (λd=>if Ab=Ab then (if Dg U e=Ab then (match d with
          |.lst xs => .next (Y.set i (Aa (.lst xs,Ab)))
          |.dic xs => .next (Y.set i (Aa (.dic xs,Ab)))
          | _ => .bad) else .bad) else .next (Y.set i (Aa (d,Ac))))=_
        rw[hn];rfl
      |false=>
        refine SS.ref (M6 (Kn (fr:=Ac) v hf.fn h1 h2 o (λz=>nomatch z))) λY => ?_
        have e0:evS U Y (.asg i Ab e)=O.of Y (evE U Y e) (λd=>if Ab=Ab then (if Dg U e=Ab then (match d with
          |.lst xs => .next (Y.set i (Aa (.lst xs,Ab)))
          |.dic xs => .next (Y.set i (Aa (.dic xs,Ab)))
          | _ => .bad) else .bad) else .next (Y.set i (Aa (d,Ac)))):=rfl
        rw[e0,hn];cases evE U Y e with
        |ok d=>exact .inl rfl
        |exn y=>exact .inr rfl
        |bad=>exact .inl rfl
  |asgT ts e=>exact absurd (show Ac=Ab from h) Ap
  |expr e=>
    replace h:=Jv h;obtain⟨v0,pos,rfl,h⟩:=h;simp only[Al]at h;exact S6 (E.e W T X _ e v h.2).se (GI h.1)
  |ret e=>
    replace h:=RM h;obtain⟨o,pos,rfl,h⟩:=h;cases o with
    |none=>exact noF h
    |some v0=>
    replace h:A7 n T v0 e=Ab:=h;have o:=E.e W T X _ e v h;cases hv:Dg U e with
    |true=>
      refine SS.ref (S5 (o.nw hv)) λY => .inr ?_
      rw[LX Y e (λi z=>by subst z;cases hv),hv]
    |false=>
      cases e with
      |var i=>
        cases n with
        |zero=>exact noF h
        |succ n=>
          replace h:=DR h;obtain⟨y,py,rfl,h⟩:=h;exact S3 (Iv v h)
      |_=>
        refine SS.ref (S4 o.se) λY => .inr ?_
        rw[LX Y _ (by intro i z;cases z),hv]
  |retN=>exact absurd (show Ac=Ab from h) Ap
  |ife c a b=>
    replace h:=Mx h;obtain⟨t,xs,ys,pos,rfl,h⟩:=h;simp only[Al]at h;exact WU (E.b W T X _ c v h.1.1) (Z_.ss W T X _ a v hf h.1.2) (Z_.ss W T X _ b v hf h.2)
  |fors t it body=>
    replace h:=Mj h;obtain⟨tg,it',xs,ys,pos,rfl,h⟩:=h;replace h:=BC h;obtain⟨hn,h⟩:=h;obtain rfl:=Fi hn;replace h:=DR h;obtain⟨y,py,rfl,h⟩:=h;simp only[Al]at h;obtain⟨⟨⟨h1,h2⟩,h3⟩,h4⟩:=h;exact M5 v.own v.calm (Tw t) (SQ v hf.fn h1) (E.i W T X Ac _ _ it v rfl h3) (Z_.ss W T X _ body v hf h4) (Kk h2) (λ_ _ _ z=>nomatch z)
  |forT ts it body=>
    replace h:=Mj h;obtain⟨tg,it',xs,zs,pos,rfl,h⟩:=h;replace h:=BC h;obtain⟨hn,h⟩:=h;obtain rfl:=Fi hn;replace h:=H9 h;obtain⟨ys,cc,py,rfl,h⟩:=h;simp only[Al]at h;obtain⟨⟨⟨⟨h0,h1⟩,h2⟩,h3⟩,h4⟩:=h;exact M5 v.own v.calm (V6 ts) (SN v hf.fn h0 h1) (E.i W T X Ab _ _ it v rfl h3) (Z_.ss W T X _ body v hf h4) (Kk h2) (Q3 ts)
  |whl c body=>exact absurd (show Ac=Ab from h) Ap
  |rais c as=>
    replace h:(!(T.rzs.any λp=>p.2==c)||(IE st λa b=>b.isNone&&(match a with|some e=>GQ e λg x xs=>inX T.rzs g c&&glB T g&&Ef g&&decide (xs.length<=1000)&&chkEs n T (x::xs) as|none=>Ac)))=Ab:=h
    cases hc:T.rzs.any (λp=>p.2==c) with
    |false=>
      have hb : ∀ ds,U.xn c ds = .bad:=v.xt.xb c λp hp z=>by
        have:T.rzs.any (λp=>p.2==c)=Ab:=List.any_eq_true.mpr ⟨p,hp,AH.mpr z⟩
        rw[hc]at this;cases this
      intro Fz B pI s Z H D I ⟨Y,x,p⟩;have p':By X.K CL Fz B W (O.of Y (noX (evA U Y as)) λxs=>O.of Y (U.xn c xs) λx => .exn x Y) D:=p
      cases e1:evA U Y as with
      |bad=>rw[e1]at p';exact p'.elim
      |exn y=>rw[e1]at p';exact p'.elim
      |ok ds=>
        rw[e1]at p';have p2:By X.K CL Fz B W (O.of Y (U.xn c ds) λx => .exn x Y) D:=p'
        rw[hb ds]at p2;exact p2.elim
    |true=>
      rw[hc,Bool.not_true,Bool.false_or]at h;replace h:=RN h;obtain⟨ea,eb,pos,rfl,h⟩:=h;replace h:=BC h;obtain⟨h0,h⟩:=h;obtain rfl:=Option.isNone_iff_eq_none.mp h0;cases ea with
      |none=>exact noF h
      |some e0=>
        replace h:=Hd h;obtain⟨g,np,x,xs,cpos,rfl,h⟩:=h;simp only[Al,AQ]at h;obtain⟨⟨⟨⟨h1,h2⟩,h3⟩,h4⟩,h5⟩:=h;obtain⟨C,m1,m2⟩:=v.xt.rz _ (Go h1);obtain⟨n2,_,_⟩:=EE h3;obtain⟨s0,e,es',rfl,m,rfl,s1⟩:=Gh h5;have q:=E.es W T X _ _ v h5;exact Rm v.calm hf.ex v.room v.rz (by unfold glB at h2;show X.env.scope.names.lookup g=_;rw[v.sc];exact eq_of_beq h2) m2 n2 m1 q.1 (λds=>v.xt.made c C ds m1) (CA s0) (GE m xs es' s1) (λY ds z=>by rw[F0 U Y _ _ z,<-q.2.2.1,A9];omega)
  |app i e=>
    replace h:=RO h;obtain⟨x,px,m,ap,l,cp,pos,rfl,h2,h⟩:=h;replace h:=DS h;obtain⟨v0,rfl,h⟩:=h;simp only[Al,AH]at h;obtain⟨⟨⟨rfl,h1⟩,h3⟩,h4⟩:=h;exact Vt (Iv v h1) (E.e W T X _ e v h4).se rfl (by rw[CA h3];rfl) (by rw[h2];exact DY _) (CA h3) rfl
  |ext i e=>exact absurd (show Ac=Ab from h) Ap
  |rev i=>exact absurd (show Ac=Ab from h) Ap
  |clr i=>exact absurd (show Ac=Ab from h) Ap
  |put i k e=>exact absurd (show Ac=Ab from h) Ap
  |tryx body c x hd=>
    cases body with
    |nil=>exact noF h
    |cons b bs=>
      cases bs with
      |cons=>exact noF h
      |nil=>
        unfold HM at h;dsimp only at h;cases q:KS st with
        |none=>rw[q]at h;cases h
        |some t=>
          obtain⟨bt,hl,es⟩:=t;rw[q]at h;obtain⟨pos,rfl⟩:=Ti q;cases hl with
          |nil=>exact noF h
          |cons h1 hl=>
            cases hl with
            |cons=>exact noF h
            |nil=>
              cases es with
              |cons=>exact noF h
              |nil=>
                dsimp only at h;cases q1:xHd h1 with
                |none=>rw[q1]at h;cases h
                |some t1=>
                  obtain⟨g,m,h0,hs⟩:=t1;obtain⟨p1,hp,rfl⟩:=UA q1;rw[q1]at h;simp only[Al,AH]at h;obtain⟨⟨⟨⟨i1,i4⟩,i5⟩,i6⟩,i7⟩:=h;obtain⟨t1,t2⟩:=Wc E v hf 6 i6;refine SS.ref (Vr (up:=U.up) (c:=c) (i:=x) hf.ex hf.st hf.fm (by rw[v.N];exact v.nd) (by rw[v.N];exact i4) (by rw[v.sc];exact i5) (V5 v i1) t1 t2 (λe=>W1 v hf e x n _ _ i7)) λY => .inr ?_
                  rw[Sj];unfold Om;cases evSs U Y (.cons b .nil) <;> rfl
  |try2 body c x hd c' hd' els=>exact absurd (show Ac=Ab from h) Ap
  |swp i k l=>exact absurd (show Ac=Ab from h) Ap
  |apop j i e=>exact absurd (show Ac=Ab from h) Ap
  |ins i k e=>exact absurd (show Ac=Ab from h) Ap
  |dput=>exact noF h
  |dsd=>exact noF h
  |rel=>exact noF h
theorem R4{c:Ss}(h:Jd c=Ab)(Y:Rho):evSs U Y c = .bad:=by
 cases c with
 |nil=>cases h
 |cons s ss=>
  cases s with
  |expr e=>
   cases e with
   |bi b as=>
    cases as with
    |nil=>
     cases b with
     |len=>rfl
     |_=>exact noF h
    |cons=>cases b <;> exact noF h
   |_=>exact noF h
  |_=>exact noF h
theorem Vo(Z_:SndS U CL k n)(W:XW)(T:Tc)(X:Cx)(xs:Ad AC)(c:Ss)(v:VX U CL k W T X)(hf:DefX X)(h:chkSs (n+1) T xs c=Ab):SSs X CL W xs (λY=>evSs U Y c):=by
 by_cases hb:Jd c=Ab
 .exact λFz B pI s Z H D I ⟨Y,x,p⟩=>by
   dsimp only at p;rw[R4 hb]at p;exact p.elim
 have hb:Jd c=Ac:=by simpa using hb
 cases c with
 |nil=>
  simp only[chkSs,hb,C5,List.isEmpty_iff]at h;subst h;exact MI
 |cons s ss=>
  by_cases hr : ∃ i,s = .rel i
  .obtain⟨i,rfl⟩:=hr;simp only[chkSs,hb,C5]at h;exact S2 i (Z_.ss W T X xs ss v hf h)
  .cases xs with
   |nil=>cases s <;> first|(simp[chkSs,hb]at h;done)|exact absurd ⟨_,rfl⟩ hr
   |cons st r=>
    have h':HM n T st s=Ab/\chkSs n T r ss=Ab:=by
     cases s <;> first|(simp only[chkSs,hb,C5,Al]at h;exact h)|exact absurd ⟨_,rfl⟩ hr
    exact JD (Z_.s W T X st s v hf h'.1) (Z_.ss W T X r ss v hf h'.2)
theorem K1 : ∀ n,SndS U CL k n
 |0=>⟨λ_ _ _ _ _ _ _ h=>noF h,λ_ _ _ _ _ _ _ h=>noF h⟩
 |n+1=>⟨WP (K1 n),Vo (K1 n)⟩
end
theorem Hg{n:Ae}{i:Ae}{o:Aj}(h:(CW n ds)[i]? = Aa (Aa (d,o))):o=Ac/\ds[i]? = Aa d:=by
 unfold CW at h;by_cases hi:i<ds.length
 .rw[Di (by simpa using hi),CT]at h
  cases e:ds[i]? with
  |none=>rw[e]at h;cases h
  |some x=>rw[e]at h;cases h;exact⟨rfl,rfl⟩
 .rw[OT (by simpa using Nat.le_of_not_lt hi),OU]at h
  split at h <;> cases h
theorem Rl{N:Ad Ag}{vs:Ad V}{i:Ae}{v:V}(h:vs[i]? = Aa v):(L2.start N vs)[i]? = Aa (Aa v):=by
 unfold L2.start;have hi:=(A2.mp h).1;rw[Di (by simpa using hi),CT,h]
 rfl
theorem R0{N:Ad Ag}{n:Ae}{vs:Ad V}(hn:N.length=n)(hA:AOk H A)(r:Reps K CL H A vs ds):Sx K CL (λb o=>H b=Aa o) A (CW n ds) (L2.start N vs) H:=by
 have own : ∀ a,Bk A (CW n ds) (L2.start N vs) a->A a:=λa h=>by
  rcases h with h|⟨j,d,h,_⟩
  .exact h
  .exact absurd (Hg h).1 (by decide)
 have hlen:(CW n ds).length=(L2.start N vs).length:=by
  unfold CW L2.start;simp only[Ca,Co,OW,r.length,hn]
 refine⟨⟨λi d h => ?_,λi d h=>absurd (Hg h).1 (by decide),hlen⟩,λa h=>hA a (own a h),λj d a h _=>absurd (Hg h).1 (by decide),λi j d e a h _ _ _=>absurd (Hg h).1 (by decide),λb o h=>h,hlen⟩
 obtain⟨v,h1,h2⟩:=r.get (Hg h).2;exact⟨v,Rl h1,Rep.sub own _ h2⟩
structure FunX (K:Fg) (x qual:Ag) (st:AC) (f:Ai) (fd:Bl):Prop where
 ex : ∃(oc:Ah)(od:An Ai)(dV kV doc pm:Ah)(an:An Ai)(cdv ct:Ah)(osl:Ba (An Ah)),
  fd=BJ x qual (E4 st) (Dv st) (BK st) dV kV doc pm an cdv ct/\K.lookup f=Aa ⟨oc,od,.func fd,osl⟩/\CV K cdv qual=Ab
 kp:BB K (.ref f)=Ab
theorem NT{st:AC}{f:Ai}(F:Fun K x qual st f fd):FunX K x qual st f fd:=by
 obtain⟨oc,od,kV,doc,pm,an,cdv,ct,osl,e,lk,hcd⟩:=F.ex;exact⟨⟨oc,od,.none,kV,doc,pm,an,cdv,ct,osl,e,lk,hcd⟩,F.kp⟩
noncomputable def Jg(K:Fg)(mg:Ag->An Ah)(fns:Ad (Ag × Ae × Ae))(bl:Ad Ag)(rzs exs gls:Ad (Ag × Ae))(Pg:Prg)(fuel:Ae)(p:Ag × Ae × Ae):Prop := ∃ f fd ps qual st N,mg p.1=Aa (.ref f)/\FunX K p.1 qual st f fd/\Ed K fd ps []/\ps.length=p.2.2%1000/\FM fuel (Ck 1000 p.2.2) fns bl rzs exs gls ps N st (Pg.defs p.2.1)=Ab
structure Tab (K:Fg) (mg:Ag->An Ah) (CL:ClA) (fns:Ad (Ag × Ae × Ae)) (bl:Ad Ag) (rzs exs gls:Ad (Ag × Ae)) (Pg:Prg) (fuel:Ae):Prop where
 xt:XT Pg.up Pg.xn CL rzs exs K mg
 bln : ∀ x,x∈bl->mg x=Af
 gl : ∀ p∈gls,Lc K mg CL p.1 (Pg.G p.2)
 fn : ∀ p∈fns,Jg K mg fns bl rzs exs gls Pg fuel p
theorem V9(Pg:Prg)(n i:Ae):(gam Pg n).fr i=(Pg.defs i).fr:=by cases n <;> rfl
theorem V8(Pg:Prg)(n:Ae):(gam Pg n).up=Pg.up:=by cases n <;> rfl
theorem XN(Pg:Prg)(n:Ae):(gam Pg n).G=Pg.G:=by cases n <;> rfl
theorem V7(Pg:Prg)(n:Ae):(gam Pg n).xn=Pg.xn:=by cases n <;> rfl
section
variable{P:AE}{w:Ar}{K:Fg}{mg:Ag->An Ah}{base:Ay}{CL:ClA}{fns:Ad (Ag × Ae × Ae)}{bl:Ad Ag}{rzs exs gls:Ad (Ag × Ae)}{Pg:Prg}{fuel:Ae}
noncomputable def Lvl(P:AE)(w:Ar)(K:Fg)(mg:Ag->An Ah)(base:Ay)(CL:ClA)(Pg:Prg)(n:Ae)(p:Ag × Ae × Ae):Prop := ∃ f fd ps,mg p.1=Aa (.ref f)/\BB K (.ref f)=Ab/\Ed K fd ps []/\ps.length=p.2.2%1000/\(p.2.2<1000->FnOk P w K mg base (CXR P w) n f fd ps (spD K CL (p.2.2%1000) ((gam Pg n).fr p.2.1) ((gam Pg n).F p.2.1)))/\(1000<=p.2.2->HotOk P w K mg base n f fd ps (spH K CL (p.2.2%1000) ((gam Pg n).fr p.2.1) ((gam Pg n).F p.2.1)))
theorem Nn(t:Tab K mg CL fns bl rzs exs gls Pg fuel){n:Ae}(hlv : ∀ q∈fns,Lvl P w K mg base CL Pg n q){st:AC}{f:Ai}{ps N:Ad Ag}{m:Ae}(h2:FunX K x qual st f fd)(h4:ps.length=m)(h5:FM fuel Ac fns bl rzs exs gls ps N st (Pg.defs id)=Ab):FnOk P w K mg base (CXR P w) (n+1) f fd ps (spD K CL m ((gam Pg (n+1)).fr id) ((gam Pg (n+1)).F id)):=by
  unfold FM at h5;simp only[Al,AH,Bj,Cj,BN,FR,ne_eq]at h5;obtain⟨⟨⟨⟨⟨⟨⟨⟨c1,c2⟩,c3⟩,c4⟩,c5⟩,c6⟩,c7⟩,c8⟩,c9⟩:=h5;obtain⟨oc,od,dV,kV,doc,pm,an,cdv,ct,osl,rfl,lk,hcd⟩:=h2.ex;refine NM (N:=N) lk hcd ⟨c1,c2,c3,He c4,c5,c6,c7⟩ (λvs H Q E ⟨ds,A,z,_⟩=>z.trans h4.symm) λA outer s H vs Q E hr ⟨ds,B,hl,hA,hreps,hpost⟩ => ?_
  have xt:XT (gam Pg n).up (gam Pg n).xn CL rzs exs K mg:=by rw[V8,V7];exact t.xt
  have gl : ∀ p∈gls,Lc K mg CL p.1 ((gam Pg n).G p.2):=by rw[XN];exact t.gl
  have key : ∀ W:XW,(∀ x cls dx H',W x H'->DV K CL H' cls dx x->E cls dx H')->By K CL (λb o=>H b=Aa o) B W (evSs (gam Pg n) (CW (Pg.defs id).n ds) (Pg.defs id).body) {nx:=λ_ H'=>Q .non H',rt:=Q} ->
      ∃ t,PSs (DW (CXR P w) P w K mg base N qual (BK st) f cdv A outer s H E) (Dv st) t/\t {nx:=λ_ H'=>Q .non H',rt:=Q} (start N vs) H:=λW hW hp=>by
    have v:VX (gam Pg n) CL n W ⟨BK st,N,fns,bl,rzs,exs,gls,Ab⟩ (DW (CXR P w) P w K mg base N qual (BK st) f cdv A outer s H E):=⟨rfl,c1,rfl,He c4,rfl,hr,t.bln,hlv,Yh,Xu hW,rzR hW,xt,gl,λ_=>rfl⟩
    exact⟨_,(K1 fuel).ss W _ _ _ (Pg.defs id).body v ⟨λ_=>rfl,rfl,rfl,rfl⟩ c9 (λb o=>H b=Aa o) B,_,R0 c8 hA hreps,hp⟩
  have no : ∀ x cls dx H',W0 x H'->DV K CL H' cls dx x->E cls dx H':=λ_ _ _ _ z=>z.elim
  have e:(gam Pg (n+1)).F id ds=EH Pg.xs ((evSs (gam Pg n) (CW (Pg.defs id).n ds) (Pg.defs id).body).ans (Pg.defs id).fr):=rfl;rw[e,V9]at hpost;have cutO : ∀ r:R D,(∀ x,r ≠ .exn x)->EH Pg.xs r=r:=λr hr=>by
    cases Pg.xs <;> cases r <;> first|rfl|exact absurd rfl (hr _)
  cases eo:evSs (gam Pg n) (CW (Pg.defs id).n ds) (Pg.defs id).body with
  |next Y'=>
    refine key W0 no ?_;rw[eo]at hpost ⊢;cases ef:(Pg.defs id).fr with
    |true=>rw[ef]at hpost;rw[cutO _ (by intro x z;cases z)]at hpost;exact hpost.elim
    |false=>
      rw[ef]at hpost;rw[cutO _ (by intro x z;cases z)]at hpost
      exact λZ' H' x'=>hpost .non H' (λb o z=>x'.same b o z) ⟨rfl,λz=>nomatch z⟩
  |ret d b=>
    refine key W0 no ?_;rw[eo]at hpost ⊢;intro v H' sm rp fr;have hp2:(match EH Pg.xs (if ((Pg.defs id).fr&&(!b&&isL d))=Ab then R.bad else R.ok d) with
      |.ok d => ∀ v H',Av H H'->CK K CL (Pg.defs id).fr H B H' v d->Q v H'
      |.exn x => ∀ cls dx H',Av H H'->DV K CL H' cls dx x->E cls dx H'
      | .bad=>AT):=hpost
    cases ec:((Pg.defs id).fr&&(!b&&isL d)) with
    |true=>rw[ec,AY rfl,cutO _ (by intro x z;cases z)]at hp2;exact hp2.elim
    |false=>
      rw[ec,A8 (by decide),cutO _ (by intro x z;cases z)]at hp2
      refine hp2 v H' sm ⟨rp,λefr es hd => ?_⟩
      subst hd;have eb:b=Ab:=by
        cases b with
        |true=>rfl
        |false=>rw[efr]at ec;cases ec
      obtain⟨a,xs,h1,h2,h3,h4⟩:=fr eb es rfl;refine⟨a,xs,h1,?_,h3,h4⟩;cases ha:H a with
      |none=>rfl
      |some o=>exact absurd ha (h2 o)
  |brk Y'=>rw[eo]at hpost;have hp2:(match EH Pg.xs (R.bad:R D) with | .ok _=>_ | .exn _=>_ | .bad=>AT):=hpost;rw[cutO _ (by intro x z;cases z)]at hp2;exact hp2.elim
  |cont Y'=>rw[eo]at hpost;have hp2:(match EH Pg.xs (R.bad:R D) with | .ok _=>_ | .exn _=>_ | .bad=>AT):=hpost;rw[cutO _ (by intro x z;cases z)]at hp2;exact hp2.elim
  |bad=>rw[eo]at hpost;have hp2:(match EH Pg.xs (R.bad:R D) with | .ok _=>_ | .exn _=>_ | .bad=>AT):=hpost;rw[cutO _ (by intro x z;cases z)]at hp2;exact hp2.elim
  |exn x Y'=>
    rw[eo]at hpost;have hp2:(match EH Pg.xs (R.exn x:R D) with
      |.ok d => ∀ v H',Av H H'->CK K CL (Pg.defs id).fr H B H' v d->Q v H'
      |.exn x => ∀ cls dx H',Av H H'->DV K CL H' cls dx x->E cls dx H'
      | .bad=>AT):=hpost
    cases ex:Pg.xs with
    |false=>rw[ex]at hp2;exact hp2.elim
    |true=>
      rw[ex]at hp2;have hp3 : ∀ cls dx H',Av H H'->DV K CL H' cls dx x->E cls dx H':=hp2;refine key (λy H'=>y=x/\Av H H') (λy cls dx H' ⟨e1,sm⟩ xr => ?_) ?_
      · subst e1;exact hp3 cls dx H' sm xr
      · rw[eo];exact λH' sm=>⟨rfl,sm⟩
theorem V4(t:Tab K mg CL fns bl rzs exs gls Pg fuel){n:Ae}(hlv : ∀ q∈fns,Lvl P w K mg base CL Pg n q){st:AC}{f:Ai}{ps N:Ad Ag}{m:Ae}(h2:FunX K x qual st f fd)(h4:ps.length=m)(h5:FM fuel Ab fns bl rzs exs gls ps N st (Pg.defs id)=Ab):HotOk P w K mg base (n+1) f fd ps (spH K CL m ((gam Pg (n+1)).fr id) ((gam Pg (n+1)).F id)):=by
 exfalso
 unfold FM at h5;simp at h5
theorem Ke(t:Tab K mg CL fns bl rzs exs gls Pg fuel) : ∀ n,∀ p∈fns,Lvl P w K mg base CL Pg n p
 |0,p,hp=>by
  obtain⟨f,fd,ps,qual,st,N,h1,h2,h3,h4,h5⟩:=t.fn p hp;exact⟨f,fd,ps,h1,h2.kp,h3,h4,λ_=>⟨λvs H Q E ⟨ds,A,_,_,_,z⟩=>z.elim,λA outer s H args us vs Q E _ _ _ _ ⟨ds,A,_,_,_,z⟩=>z.elim⟩,λ_=>⟨λvs H Q E ⟨ds,A,_,_,_,z⟩=>z.elim,λA ev outer s H args us vs Q E _ _ _ _ ⟨ds,A,_,_,_,z⟩=>z.elim⟩⟩
 |n+1,p,hp=>by
  obtain⟨f,fd,ps,qual,st,N,h1,h2,h3,h4,h5⟩:=t.fn p hp;refine⟨f,fd,ps,h1,h2.kp,h3,h4,λhlt => ?_,λhge => ?_⟩
  .have eb:Ck 1000 p.2.2=Ac:=by
    cases e:Ck 1000 p.2.2 with
    |false=>rfl
    |true=>exact absurd (Cb e) (by omega)
   rw[eb]at h5;exact Nn t (λq hq=>Ke t n q hq) h2 h4 h5
  .rw[Nat.ble_eq_true_of_le hge]at h5;exact V4 t (λq hq=>Ke t n q hq) h2 h4 h5
theorem VJ{s s':Am}{e:Ah}(h:CXR P w [] H s (λ_ _ _=>AT) e s'):AT:=by
 obtain⟨_,_,_,_,_,_,_,_,_,_,_,_,_,_,_,z⟩:=h;exact z
noncomputable def Oh:AC->An (Ak × Az)
 |.Expr e p=>Aa (e,p)
 |_=>Af
theorem Tl{e:AC}{t:Ak × Az}(h:Oh e=Aa t):e = .Expr t.1 t.2:=by
 cases e with
 |Expr x p=>cases h;rfl
 |_=>exact nomatch (show Af=Aa t from h)
noncomputable def Oj:AC->An (Ak × Ak × Az)
  | .Assign ts v p=>(match ts with
    |[t]=>Aa (t,v,p)
    | _=>Af)
  |_=>Af
theorem To{e:AC}{t:Ak × Ak × Az}(h:Oj e=Aa t):e = .Assign [t.1] t.2.1 t.2.2:=by
 cases e with
 |Assign ts v p=>
  cases ts with
  |nil=>exact nomatch (show Af=Aa t from h)
  |cons a ts=>
   cases ts with
   |nil=>cases h;rfl
   |cons=>exact nomatch (show Af=Aa t from h)
 |_=>exact nomatch (show Af=Aa t from h)
noncomputable def KW:Ak->An (Ak × Ag × Az)
 |.Attribute e x p=>Aa (e,x,p)
 |_=>Af
theorem L3{e:Ak}{t:Ak × Ag × Az}(h:KW e=Aa t):e = .Attribute t.1 t.2.1 t.2.2:=by
 cases e with
 |Attribute e x p=>cases h;rfl
 |_=>exact nomatch (show Af=Aa t from h)
noncomputable def Og:Ak->An (Ad Ak × Az)
 |.JoinedStr l p=>Aa (l,p)
 |_=>Af
theorem Tk{e:Ak}{t:Ad Ak × Az}(h:Og e=Aa t):e = .JoinedStr t.1 t.2:=by
 cases e with
 |JoinedStr l p=>cases h;rfl
 |_=>exact nomatch (show Af=Aa t from h)
noncomputable def KU:Ak->An (Ak × Ao × Az)
  | .FormattedValue e n f p=>(match f with
    |none=>Aa (e,n,p)
    | _=>Af)
  |_=>Af
theorem LZ{e:Ak}{t:Ak × Ao × Az}(h:KU e=Aa t):e = .FormattedValue t.1 t.2.1 Af t.2.2:=by
 cases e with
 |FormattedValue e n f p=>
  cases f with
  |none=>cases h;rfl
  |some=>exact nomatch (show Af=Aa t from h)
 |_=>exact nomatch (show Af=Aa t from h)
noncomputable def IY:Ak->An (Ag × Ae × Az)
  | .Constant c k p=>(match c with
    |.str z=>Aa (z,k,p)
    | _=>Af)
  |_=>Af
theorem JZ{e:Ak}{t:Ag × Ae × Az}(h:IY e=Aa t):e = .Constant (.str t.1) t.2.1 t.2.2:=by
 cases e with
 |Constant c k p=>
  cases c with
  |str z=>cases h;rfl
  |_=>exact nomatch (show Af=Aa t from h)
 |_=>exact nomatch (show Af=Aa t from h)
noncomputable def Of{α:Type}:Ad α->An (α × α × α)
 |[a,b,c]=>Aa (a,b,c)
 |_=>Af
theorem Tj{l:Ad α}{t:α × α × α}(h:Of l=Aa t):l=[t.1,t.2.1,t.2.2]:=by
  match l,h with
  |[a,b,c],h=>cases h;rfl
  |[],h=>cases h
  |[_],h=>cases h
  |[_,_],h=>cases h
  |_::_::_::_::_,h=>cases h
noncomputable def Yj(par:Ag)(j:Ad Ak):An Dd:=(IX j).bind λfk=>(KU fk.1).bind λfm=>(FL fm.1).bind λq1=>(IY fk.2).bind λz=>if (q1.1==par&&(decide (fm.2.1 = -1)&&Ck z.1.length 1000))=Ab then Aa () else Af
noncomputable def Yi(par:Ag)(j:Ad Ak):An Dd:=(Of j).bind λfk=>(IY fk.1).bind λy=>(KU fk.2.1).bind λfm=>(FL fm.1).bind λq1=>(IY fk.2.2).bind λz=>if (q1.1==par&&(decide (fm.2.1 = -1)&&(Ck y.1.length 400&&Ck z.1.length 1000)))=Ab then Aa () else Af
noncomputable def fsX(par:Ag)(e:Ak):An Dd:=(Og e).bind λj=>if ((Yj par j.1).isSome||(Yi par j.1).isSome)=Ab then Aa () else Af
theorem Wb{e:Ak}{u:Dd}(h:fsX par e=Aa u):FsOk par e:=by
 obtain⟨j,e1,h⟩:=Aw.mp h;rw[Tk e1];split at h
 .rename_i hc;rcases orT hc with hc|hc
  .obtain⟨_,h⟩:=BQ.mp hc;obtain⟨fk,e2,h⟩:=Aw.mp h;obtain⟨fm,e3,h⟩:=Aw.mp h;obtain⟨q1,e4,h⟩:=Aw.mp h;obtain⟨z,e5,h⟩:=Aw.mp h;split at h
   .rename_i hc;simp only[Al,AH,AQ]at hc;obtain⟨c1,c2,c3⟩:=hc;rw[JY e2,LZ e3,Gj e4,JZ e5,c1,c2];exact Wa (Cb c3)
   .cases h
  .obtain⟨_,h⟩:=BQ.mp hc;obtain⟨fk,e2,h⟩:=Aw.mp h;obtain⟨y,e6,h⟩:=Aw.mp h;obtain⟨fm,e3,h⟩:=Aw.mp h;obtain⟨q1,e4,h⟩:=Aw.mp h;obtain⟨z,e5,h⟩:=Aw.mp h;split at h
   .rename_i hc;simp only[Al,AH,AQ]at hc;obtain⟨c1,c2,c4,c3⟩:=hc;rw[Tj e2,JZ e6,LZ e3,Gj e4,JZ e5,c1,c2];exact Sh (Cb c4) (Cb c3)
   .cases h
 .cases h
noncomputable def N0(g par f:Ag)(b:Ad AC):An Dd:=(IX b).bind λs=>(Oh s.1).bind λc=>(Oi c.1).bind λcl=>(KW cl.1).bind λat1=>(FL at1.1).bind λg1=>(IX cl.2.1).bind λab=>(FL ab.1).bind λs1=>(fsX par ab.2).bind λ_=>(Oj s.2).bind λt=>(KW t.1).bind λat2=>(FL at2.1).bind λs2=>(FL t.2.1).bind λq2=>
 if (g1.1==g&&(at1.2.1==("__init__" : Ag)&&(s1.1==("self" : Ag)&&(s2.1==("self" : Ag)&&(at2.2.1==f&&(q2.1==par&&at1.2.2.endLine==cl.2.2.line))))))=Ab then Aa () else Af
noncomputable def N1(g par f:Ag)(b:Ad AC):Aj:=(N0 g par f b).isSome
theorem Tt{g par f:Ag}{b:Ad AC}(h:N1 g par f b=Ab) : ∃ j np apos p1 cpos p6 p7 p8 p9 p10,b=K4 g par f j np apos p1 cpos p6 p7 p8 p9 p10/\(apos.endLine==cpos.line)=Ab/\FsOk par j:=by
 obtain⟨_,h⟩:=BQ.mp (show (N0 g par f b).isSome=Ab from h)
 obtain⟨s,e1,h⟩:=Aw.mp h;obtain⟨c,e2,h⟩:=Aw.mp h;obtain⟨cl,e3,h⟩:=Aw.mp h;obtain⟨at1,e4,h⟩:=Aw.mp h;obtain⟨g1,e5,h⟩:=Aw.mp h;obtain⟨ab,e6,h⟩:=Aw.mp h;obtain⟨s1,e7,h⟩:=Aw.mp h;obtain⟨_,e8,h⟩:=Aw.mp h;obtain⟨t,f4,h⟩:=Aw.mp h;obtain⟨at2,f5,h⟩:=Aw.mp h;obtain⟨s2,f6,h⟩:=Aw.mp h;obtain⟨q2,f7,h⟩:=Aw.mp h;split at h
 .rename_i hc;simp only[Al,AH,AQ]at hc;obtain⟨c1,c2,c3,c6,c7,c8,h1⟩:=hc;rw[JY e1,Tl e2,Tn e3,L3 e4,Gj e5,JY e6,Gj e7,To f4,L3 f5,Gj f6,Gj f7,c1,c2,c3,c6,c7,c8];exact⟨_,_,_,_,_,_,_,_,_,_,rfl,by rw[AH];exact h1,Wb e8⟩
 .cases h
noncomputable def F9(g par f:Ag)(st:AC):Aj:=
 (BK st).kind==.function&&((BK st).isCoroutine==Ac&&((BK st).isGenerator==Ac&&(GR ["self",par]&&((BK st).names.lookup ("self" : Ag)==Aa .local&&((BK st).names.lookup par==Aa .local&&(((BK st).names.all λy=>y.2 != .free) &&
  ((BK st).names.lookup g==Aa .globalImplicit&&(g != ("__debug__" : Ag)&&(par != ("__debug__" : Ag)&&(par != ("__classdict__" : Ag)&&N1 g par f (Dv st)))))))))))
noncomputable def F7(s:AC):AC:=match s with
  |.ClassDef _ _ _ (b::_) _ _ _ _ _ _ _=>b
  |s=>s
noncomputable def InI(K:Fg)(f:Ai)(qual:Ag)(st:AC):Prop := ∃ fd,Fun K "__init__" qual st f fd
theorem ini_mk{st:AC}{f:Ai}{kV doc pm cdv ct:Ah}(l:K.lookup f=Aa ⟨oc,od,.func (BJ "__init__" qual (E4 st) (Dv st) (BK st) .none kV doc pm an cdv ct),osl⟩)(c:CV K cdv qual=Ab)(k:BB K (.ref f)=Ab):InI K f qual st:=⟨_,M0 l c k⟩
theorem M1{fI:Ai}{g par f qual:Ag}{st:AC}(a:InI K fI qual st)(hk:F9 g par f st=Ab)(hb : ∀(u0 u1 kV doc pm:Ah)(an:An Ai)(cdv ct:Ah),EY (BJ "__init__" qual (E4 st) (Dv st) (BK st) .none kV doc pm an cdv ct) ⟨[u0,u1],[]⟩=pure ((["self",par]:Ad Ag).zip [u0,u1]))(xc:Ci K C (Aa (.ref fI))=Ab)(dc:Ee K C=Ab)(ty:Cm K (.ref fI)=Aa (.type "function"))(mo:mg g=Aa (.ref OV))(s1:CU K (.ref OV) "__getattribute__" = Aa (Aa (.builtin "type.__getattribute__")))(s2:Dk K OV (.type "type")=Ab)(s3:Dj K (.ref OV) (.type "type") "__init__" = Aa (.val (.builtin "ValueError.__init__")))(hf:Au K (.ref C) f=Aa Af)(hs:Au K (.ref C) "__setattr__" = Aa (Aa (.builtin "object.__setattr__"))):XIn K mg C f:=by
 obtain⟨fd,fn⟩:=a;unfold F9 at hk;simp only[Al,AH,Cj,FR,ne_eq]at hk;obtain⟨c1,c2,c3,c4,c5,c6,c7,c8,c9,c10,c11,c12⟩:=hk;obtain⟨j,np,apos,p1,cpos,p6,p7,p8,p9,p10,eb,hl,hz⟩:=Tt c12;exact .mk xc dc fn ty ⟨c1,c2,c3,He c4,rfl,λx hx=>by
  rcases AR.mp hx with rfl|hx
  .exact .inl c5
  .rw[Bn.mp hx];exact .inl c6,c7⟩ c5 c6 (fn.binds λkV doc pm an cdv ct us hu=>match us,hu with | [u0,u1],_=>hb u0 u1 kV doc pm an cdv ct) eb c8 mo (by simpa using c9) (by simpa using c10) (by simpa using c11) s1 s2 s3 hl hz hf hs
theorem W7(h : ∀ ds,xn c ds = .bad\/xn c ds = .ok ⟨c,[]⟩)(e:Ci K C Af=Ab)(ds:Ad D):xn c ds = .bad\/(xn c ds = .ok ⟨c,[]⟩/\Ci K C Af=Ab) \/ ∃ f,XIn K mg C f/\G0 xn c f ds:=(h ds).imp id λz => .inl ⟨z,e⟩
theorem W6{f:Ag}(h : ∀ ds,xn c ds=mkX c f ds)(x:XIn K mg C f)(ds:Ad D):xn c ds = .bad\/(xn c ds = .ok ⟨c,[]⟩/\Ci K C Af=Ab) \/ ∃ f,XIn K mg C f/\G0 xn c f ds:=by
  have e:=h ds
  match ds,e with
  |[],e=>exact .inl e
  |_::_::_,e=>exact .inl e
  |[d],e=>
    have e':xn c [d]=if (xfD 1 d||xfD 2 d)=Ab then .ok ⟨c,[(f,d)]⟩ else .bad:=e
    by_cases z:(xfD 1 d||xfD 2 d)=Ab
    · rw[AY z]at e';refine .inr (.inr ⟨f,x,d,?_⟩);rw[BN]at z;rcases z with z|z
      · exact⟨1,rfl,z,by decide,e'⟩
      · exact⟨2,rfl,z,by decide,e'⟩
    · rw[A8 z]at e';exact .inl e'
theorem UY{f:Ag}(h : ∀ ds,xn c ds=mkI c f ds)(x:XIn K mg C f)(ds:Ad D):xn c ds = .bad\/(xn c ds = .ok ⟨c,[]⟩/\Ci K C Af=Ab) \/ ∃ f,XIn K mg C f/\G0 xn c f ds:=by
  have e:=h ds
  match ds,e with
  |[],e=>exact .inl e
  |_::_::_,e=>exact .inl e
  |[d],e=>
    have e':xn c [d]=if xfD 0 d=Ab then .ok ⟨c,[(f,d)]⟩ else .bad:=e
    by_cases z:xfD 0 d=Ab
    · rw[AY z]at e';exact .inr (.inr ⟨f,x,d,0,rfl,z,by decide,e'⟩)
    · rw[A8 z]at e';exact .inl e'
theorem Kz(dc:Ee K C=Ab)(h1:Au K (.ref C) "triple" = Aa Af)(h2:Au K (.ref C) "points" = Aa Af)(h3:Au K (.ref C) "row" = Aa Af)(f:Ag)(h:(f==("triple" : Ag)||(f==("points" : Ag)||f==("row" : Ag)))=Ab):Ee K C=Ab/\Au K (.ref C) f=Aa Af:=by
 rw[BN,BN]at h;rcases h with h|h|h
 .rw[eq_of_beq h];exact⟨dc,h1⟩
 .rw[eq_of_beq h];exact⟨dc,h2⟩
 .rw[eq_of_beq h];exact⟨dc,h3⟩
structure XA (K:Fg) (c:Ag) (x:Ai) (i:An Ah):Prop where
 n:Bh K AV c=Aa (Aa (.ref x))
 y:Ci K x i=Ab
 dc:Ee K x=Ab
 ft:Au K (.ref x) "triple" = Aa Af
 fp:Au K (.ref x) "points" = Aa Af
 fr:Au K (.ref x) "row" = Aa Af
 ok:XcOk K x
theorem xcls_l{x:Ai}(e:FU K x [.type "ValueError",.type "Exception",.type "BaseException",.type "object"] "ValueError.__new__" = Ab):Ci K x Af=Ab:=Te e
theorem xa_mk{c:Ag}{x:Ai}{i:An Ah}(n:Bh K AV c=Aa (Aa (.ref x)))(e:Ci K x i=Ab)(dc:Ee K x=Ab)(ft:Au K (.ref x) "triple" = Aa Af)(fp:Au K (.ref x) "points" = Aa Af)(fr:Au K (.ref x) "row" = Aa Af)(ga:Au K (.ref x) "__getattribute__" = Aa (Aa (.builtin "BaseException.__getattribute__")))(gt:Au K (.ref x) "__getattr__" = Aa Af)(cl:Au K (.ref x) "__class__" = Aa (Aa (.builtin "object.__class__")))(ob:BU K x (.type "object")=Aa Ab)(be:Bf K (.ref x) (.type "BaseException")=Aa Ab)(sv:Bf K (.ref x) (.type "ValueError")=Aa Ab):XA K c x i:=⟨n,e,dc,ft,fp,fr,Wk e ga gt cl ob be sv⟩
structure XB (K:Fg) (c:Ag) (x i:Ai) (q:Ag) (st:AC):Prop where
 fi:Au K (.ref x) "__init__" = Aa (Aa (.ref i))
 a:XA K c x (Aa (.ref i))
 ii:InI K i q st
 ti:Cm K (.ref i)=Aa (.type "function")
 sn:Au K (.ref x) "__setattr__" = Aa (Aa (.builtin "object.__setattr__"))
structure XE (K:Fg) (c:Ag) (x:Ai):Prop where
 n:Bh K AV c=Aa (Aa (.ref x))
 cs:BU K x (.type "object")=Aa Ab
 ty:Cm K (.ref x)=Aa (.type "type")
structure XO (K:Fg) (x:Ai):Prop where
 sa:CU K (.ref x) "__getattribute__" = Aa (Aa (.builtin "type.__getattribute__"))
 sb:Dk K x (.type "type")=Ab
 sc:Dj K (.ref x) (.type "type") "__init__" = Aa (.val (.builtin "ValueError.__init__"))
noncomputable def SuC(K:Fg)(C:Ai)(l:Ad (Ai × Aj)):Prop := ∀ q∈l,Bf K (.ref q.1) (.ref C)=Aa q.2
noncomputable def KC(K:Fg)(C:Ai):Prop := ∀ x i v,Ci K x i=Ab->Bf K (.ref x) (.ref C)=Aa v->BV K (.ref x) (.ref C)=Aa v
theorem XA.kc{c:Ag}{x:Ai}{i:An Ah}(a:XA K c x i):KC K x:=λ_ _ _ y s=>TR y a.y s
theorem XE.kc{c:Ag}{x:Ai}(a:XE K c x):KC K x:=λ_ _ _ y s=>R6 y a.cs a.ty s
noncomputable def clL:Ad (Ae × Ai)->Ae->An Ai
 |[],_=>Af
 |p::r,c=>if Nat.beq c p.1=Ab then Aa p.2 else clL r c
theorem Hs : ∀{l:Ad (Ae × Ai)},clL l c=Aa C->(c,C)∈l:=by
 intro l
 induction l with
 |nil=>intro q;cases q
 |cons p r ih=>
  intro q;obtain⟨n,x⟩:=p;by_cases e:Nat.beq c n=Ab
  .cases Nat.eq_of_beq_eq_true e;cases (show Aa x=Aa C from (AY e).symm.trans q)
   exact AU
  .exact AG _ (ih ((A8 e).symm.trans q))
structure XR (K:Fg) (mg:Ag->An Ah) (xn:Ae->Ad D->R Ex) (p:Ae × Ai):Prop where
 ok:XcOk K p.2
 nf : ∀ f:Ag,(f==("triple" : Ag)||(f==("points" : Ag)||f==("row" : Ag)))=Ab->Ee K p.2=Ab/\Au K (.ref p.2) f=Aa Af
 md : ∀ ds,xn p.1 ds = .bad\/(xn p.1 ds = .ok ⟨p.1,[]⟩/\Ci K p.2 Af=Ab) \/ ∃ f,XIn K mg p.2 f/\G0 xn p.1 f ds
theorem XA.row{c:Ag}{x:Ai}(a:XA K c x Af)(h : ∀ ds,xn k ds = .bad\/xn k ds = .ok ⟨k,[]⟩):XR K mg xn (k,x):=⟨a.ok,Kz a.dc a.ft a.fp a.fr,W7 h a.y⟩
theorem XB.row{c:Ag}{x i o:Ai}{st:AC}{g par f:Ag}(X:K.In h)(G:h.Ns AV mg)(b:XB K c x i q st)(w:XO K o)(no:Bh K AV g=Aa (Aa (.ref o)))(hf:f = "triple" \/ f = "points")(hk:F9 g par f st=Ab)(hb : ∀(u0 u1 kV doc pm:Ah)(an:An Ai)(cdv ct:Ah),EY (BJ "__init__" q (E4 st) (Dv st) (BK st) .none kV doc pm an cdv ct) ⟨[u0,u1],[]⟩=pure ((["self",par]:Ad Ag).zip [u0,u1]))(hx : ∀ ds,xn k ds=mkX k f ds):XR K mg xn (k,x):=
 ⟨b.a.ok,Kz b.a.dc b.a.ft b.a.fp b.a.fr,W6 hx (M1 b.ii hk hb b.a.y b.a.dc b.ti (AB X G no) w.sa w.sb w.sc (by rcases hf with rfl|rfl;exact b.a.ft;exact b.a.fp) b.sn)⟩
theorem XB.rowI{c:Ag}{x i o:Ai}{st:AC}(X:K.In h)(G:h.Ns AV mg)(b:XB K c x i q st)(w:XO K o)(no:Bh K AV g=Aa (Aa (.ref o)))(hk:F9 g par "row" st=Ab)(hb : ∀(u0 u1 kV doc pm:Ah)(an:An Ai)(cdv ct:Ah),EY (BJ "__init__" q (E4 st) (Dv st) (BK st) .none kV doc pm an cdv ct) ⟨[u0,u1],[]⟩=pure ((["self",par]:Ad Ag).zip [u0,u1]))(hx : ∀ ds,xn k ds=mkI k "row" ds):XR K mg xn (k,x):=
 ⟨b.a.ok,Kz b.a.dc b.a.ft b.a.fp b.a.fr,UY hx (M1 b.ii hk hb b.a.y b.a.dc b.ti (AB X G no) w.sa w.sb w.sc b.a.fr b.sn)⟩
theorem Wj{l:Ad (Ae × Ai)}{rzs exs:Ad (Ag × Ae)}(r : ∀ p∈l,XR K mg xn p)(rz : ∀ p∈rzs,∃ C,clL l p.2=Aa C/\mg p.1=Aa (.ref C))(ex : ∀ p∈exs,∃ C,mg p.1=Aa (.ref C)/\KC K C/\SuC K C (l.map λq=>(q.2,(up q.1).contains p.2)))(xb : ∀ c,(∀ p∈rzs,p.2≠c) -> ∀ ds,xn c ds = .bad):XT up xn (clL l) rzs exs K mg:=by
 refine⟨λc C q=>(r _ (Hs q)).ok,rz,λp hp => ?_,λc C ds q=>(r _ (Hs q)).md ds,λc C q=>(r _ (Hs q)).nf,xb⟩
 obtain⟨C,e,kc,su⟩:=ex p hp;have s : ∀ c D,clL l c=Aa D->Bf K (.ref D) (.ref C)=Aa ((up c).contains p.2):=λc D q=>su _ (List.mem_map_of_mem (f:=λq:Ae × Ai=>(q.2,(up q.1).contains p.2)) (Hs q))
 exact⟨C,e,λc D q=>let ⟨_,y⟩:=(r _ (Hs q)).ok.exc;kc _ _ _ y (s c D q),s⟩
noncomputable def IN(K:Fg):Sp:=λvs H Q _ => ∃(a:Ai)(ns:Ad Ao),vs=[.ref a]/\ns.length<=63/\SqL K H a (ns.map V.int) /\ ∀ v H',v=V.bl Ab->Q v H'
theorem law_fn{f:Ai}{F:Ad D->R D}(G:FnOk P w K mg base CX k f fd ps (spD K CL 1 Ac F))(h : ∀ ns:Ad Ao,F [.lst (ns.map .int)] = .ok (.bl Ab)):FnOk P w K mg base CX k f fd ps (IN K):=G.imp λvs H Q E ⟨a,ns,e,hl,hS,q⟩=>by
 subst e;have rs : ∀ l:Ad Ao,Reps K CL H A0 (l.map V.int) (l.map D.int):=λl=>by
  induction l with
  |nil=>trivial
  |cons x l ih=>exact⟨rfl,ih⟩
 refine⟨[.lst (ns.map .int)],A0,rfl,λ_ z=>z.elim,⟨⟨a,_,rfl,.inl (λz=>z),hS,rs ns⟩,trivial⟩,?_⟩
 rw[h ns];exact λv H' _ r=>q v H' r.1
theorem all_nil{Q:α->Prop} : ∀ x∈([]:Ad α),Q x:=λ_ h=>nomatch h
theorem all_cons{Q:α->Prop}{a:α}{l:Ad α}(h1:Q a)(h2 : ∀ x∈l,Q x) : ∀ x∈a::l,Q x:=List.forall_mem_cons.2 ⟨h1,h2⟩
noncomputable def FnI(K:Fg)(f:Ai)(n:Ag)(st:AC):Prop := ∃ fd,Fun K n n st f fd/\Bh K AV n=Aa (Aa (.ref f))
theorem fni{n:Ag}{st:AC}{f:Ai}{kV doc pm cdv ct:Ah}(a:Bh K AV n=Aa (Aa (.ref f)))(l:K.lookup f=Aa ⟨oc,od,.func (BJ n n (E4 st) (Dv st) (BK st) .none kV doc pm an cdv ct),osl⟩)(c:CV K cdv n=Ab)(k:BB K (.ref f)=Ab):FnI K f n st:=⟨_,M0 l c k,a⟩
noncomputable def Bd(n:Ag)(st:AC)(ps:Ad Ag)(us:Ad Ah):Prop := ∀(kV doc pm:Ah)(an:An Ai)(cdv ct:Ah),EY (BJ n n (E4 st) (Dv st) (BK st) .none kV doc pm an cdv ct) ⟨us,[]⟩=pure (ps.zip us)
theorem Ng{n:Ag}{f:Ai}{st:AC}{ps N:Ad Ag}(m id:Ae)(X:K.In h)(G:h.Ns AV mg)(A:FnI K f n st)(hl:ps.length=m%1000)(hc:FM fuel (Ck 1000 m) fns bl rzs exs gls ps N st (Pg.defs id)=Ab)(hb : ∀ us:Ad Ah,us.length=ps.length->Bd n st ps us):Jg K mg fns bl rzs exs gls Pg fuel (n,id,m):=by
 obtain⟨fd,F,a⟩:=A;exact⟨_,_,_,_,_,_,AB X G a,NT F,F.binds λkV doc pm an cdv ct us hu=>hb us hu kV doc pm an cdv ct,hl,hc⟩
theorem Oe{l:Ad α}(h:l.length=0):l=[]:=List.eq_nil_of_length_eq_zero h
theorem K5{l:Ad α}{n:Ae}(h:l.length=n+1) : ∃ a r,l=a::r/\r.length=n:=by
 cases l with
 |nil=>cases h
 |cons a r=>exact⟨a,r,rfl,Nat.succ.inj h⟩
theorem K6{n:Ag}{f:Ai}{st:AC}{N:Ad Ag}(m id:Ae)(X:K.In h)(G:h.Ns AV mg)(A:FnI K f n st)(hl:1=m%1000)(hc:FM fuel (Ck 1000 m) fns bl rzs exs gls [x0] N st (Pg.defs id)=Ab)(hb : ∀ u0,Bd n st [x0] [u0]):Jg K mg fns bl rzs exs gls Pg fuel (n,id,m):=
 Ng (ps:=[x0]) m id X G A hl hc λus hu=>by obtain⟨u0,v0,rfl,h0⟩:=K5 hu;obtain rfl:=Oe h0;exact hb u0
theorem HI{n:Ag}{f:Ai}{st:AC}{N:Ad Ag}{x1:Ag}(m id:Ae)(X:K.In h)(G:h.Ns AV mg)(A:FnI K f n st)(hl:2=m%1000)(hc:FM fuel (Ck 1000 m) fns bl rzs exs gls [x0,x1] N st (Pg.defs id)=Ab)(hb : ∀ u0 u1,Bd n st [x0,x1] [u0,u1]):Jg K mg fns bl rzs exs gls Pg fuel (n,id,m):=
 Ng (ps:=[x0,x1]) m id X G A hl hc λus hu=>by obtain⟨u0,v0,rfl,h0⟩:=K5 hu;obtain⟨u1,v1,rfl,h1⟩:=K5 h0;obtain rfl:=Oe h1;exact hb u0 u1
end
end Ov
section
namespace OvC
open PySem Ov PyProof.Rows
variable{U:Gam}{y:D}
noncomputable def Hf:Df:=⟨2,Ac,(.cons (.asg 0 Ac (.bin .Mod (.var 0) (.bin .Add (.bin .Add (.bin .Mult (.var 1) (.var 1)) (.var 1)) (.int 1)))) (.cons (.ife (.cmp .Eq (.var 0) (.int 0)) (.cons (.ret (.tup (.cons (.int 0) (.cons (.int 0) (.cons (.int 1) .nil))))) .nil) .nil) (.cons (.ife (.cmp .LtE (.var 0) (.var 1)) (.cons (.ret (.tup (.cons (.int 0) (.cons (.int 1) (.cons (.bin .Sub (.var 0) (.int 1)) .nil))))) .nil) .nil) (.cons (.ret (.tup (.cons (.int 1) (.cons (.bin .FloorDiv (.bin .Sub (.bin .Sub (.var 0) (.var 1)) (.int 1)) (.var 1)) (.cons (.bin .Mod (.bin .Sub (.bin .Sub (.var 0) (.var 1)) (.int 1)) (.var 1)) .nil))))) .nil))))⟩
noncomputable def Li:E:=(.bl Ab)
noncomputable def Lj:E:=(.and (.cons (.isi (.var 2) [.int]) (.cons (.no (.isi (.var 2) [.bool])) .nil)))
noncomputable def Jl:Df:=⟨3,Ac,(.cons (.ife (.or (.cons (.no (.isi (.var 0) [.tuple])) (.cons (.cmp .NotEq (.var 0) (.var 1)) .nil))) (.cons (.ret (.bl Ac)) .nil) .nil) (.cons (.ret (.bi .all (.cons (.comp Lj 2 (.e (.var 0)) Li) .nil))) .nil))⟩
noncomputable def Jr:Df:=⟨2,Ac,(.cons (.asg 1 Ac (.lst (.cons (.isi (.var 0) [.cls 1]) (.cons (.isi (.var 0) [.cls 2]) (.cons (.isi (.var 0) [.cls 3]) (.cons (.isi (.var 0) [.cls 4]) .nil)))))) (.cons (.asg 1 Ac (.bin .Add (.var 1) (.lst (.cons (.isi (.var 0) [.cls 13]) (.cons (.isi (.var 0) [.cls 5]) (.cons (.isi (.var 0) [.cls 14]) (.cons (.isi (.var 0) [.cls 15]) .nil))))))) (.cons (.asg 1 Ac (.bin .Add (.var 1) (.lst (.cons (.isi (.var 0) [.cls 16]) (.cons (.isi (.var 0) [.cls 12]) (.cons (.isi (.var 0) [.cls 17]) .nil)))))) (.cons (.asg 1 Ac (.bin .Add (.var 1) (.lst (.cons (.isi (.var 0) [.cls 106]) (.cons (.isi (.var 0) [.cls 107]) (.cons (.isi (.var 0) [.cls 108]) (.cons (.isi (.var 0) [.cls 118]) .nil))))))) (.cons (.ret (.bin .Add (.var 1) (.lst (.cons (.and (.cons (.isi (.var 0) [.cls 0]) (.cons (.isi (.var 0) [.verr]) .nil))) .nil)))) .nil)))))⟩
noncomputable def Jt:Df:=⟨2,Ab,(.cons (.asg 1 Ac (.lst (.cons (.call 53 (.cons (.mkx 1 (.cons (.var 0) .nil)) .nil)) (.cons (.call 53 (.cons (.mkx 2 (.cons (.var 0) .nil)) .nil)) (.cons (.call 53 (.cons (.mkx 3 (.cons (.var 0) .nil)) .nil)) .nil))))) (.cons (.asg 1 Ac (.bin .Add (.var 1) (.lst (.cons (.call 53 (.cons (.mkx 4 (.cons (.var 0) .nil)) .nil)) (.cons (.call 53 (.cons (.mkx 13 (.cons (.var 0) .nil)) .nil)) (.cons (.call 53 (.cons (.mkx 5 (.cons (.var 0) .nil)) .nil)) .nil)))))) (.cons (.asg 1 Ac (.bin .Add (.var 1) (.lst (.cons (.call 53 (.cons (.mkx 14 (.cons (.var 0) .nil)) .nil)) (.cons (.call 53 (.cons (.mkx 15 (.cons (.var 0) .nil)) .nil)) (.cons (.call 53 (.cons (.mkx 16 (.cons (.var 0) .nil)) .nil)) .nil)))))) (.cons (.ret (.bin .Add (.var 1) (.lst (.cons (.call 53 (.cons (.mkx 12 (.cons (.var 0) .nil)) .nil)) (.cons (.call 53 (.cons (.mkx 17 (.cons (.var 0) .nil)) .nil)) .nil))))) .nil))))⟩
noncomputable def Lp:E:=(.bl Ab)
noncomputable def Jk:E:=(.call 40 (.cons (.call 3 (.cons (.var 0) (.cons (.bin .Add (.int 3) (.var 6)) .nil))) (.cons (.var 1) .nil)))
noncomputable def Jj:E:=(.bl Ab)
noncomputable def HU:E:=(.idx (.str (A4 "ab ")) (.bin .Mod (.call 3 (.cons (.var 0) (.cons (.bin .Add (.int 9) (.var 7)) .nil))) (.int 3)))
noncomputable def Lo:E:=(.bl Ab)
noncomputable def QK:E:=(.bl Ab)
noncomputable def QL:E:=(.cmp .In (.var 9) (.tup (.cons (.var 8) (.cons (.int 15) .nil))))
noncomputable def Lq:E:=(.cmp .Eq (.idx (.var 5) (.var 8)) (.comp QL 9 (.rng (.int 16)) QK))
noncomputable def JQ:Df:=⟨10,Ac,(.cons (.asg 1 Ac (.call 4 (.cons (.var 0) (.cons (.int 0) .nil)))) (.cons (.asg 2 Ac (.bin .Mod (.call 3 (.cons (.var 0) (.cons (.int 1) .nil))) (.int 31))) (.cons (.asg 3 Ac (.call 40 (.cons (.call 3 (.cons (.var 0) (.cons (.int 2) .nil))) (.cons (.var 1) .nil)))) (.cons (.asg 4 Ac (.bi .tuple (.cons (.comp Jk 6 (.rng (.bin .Add (.int 3) (.bin .Mod (.var 2) (.int 2)))) Lp) .nil))) (.cons (.asg 5 Ab (.call 54 (.cons (.bi .sjoin (.cons (.str (A4 "")) (.cons (.comp HU 7 (.rng (.var 2)) Jj) .nil))) .nil))) (.cons (.asg 5 Ab (.bin .Add (.var 5) (.lst (.cons (.call 53 (.cons (.mkx 106 (.cons (.var 2) .nil)) .nil)) (.cons (.call 53 (.cons (.mkx 107 (.cons (.var 3) .nil)) .nil)) (.cons (.call 53 (.cons (.mkx 108 (.cons (.var 3) .nil)) .nil)) .nil)))))) (.cons (.app 5 (.call 53 (.cons (.mkx 118 (.cons (.var 4) .nil)) .nil))) (.cons (.ife (.no (.bi .all (.cons (.comp Lq 8 (.rng (.int 15)) Lo) .nil))) (.cons (.ret (.bl Ac)) .nil) .nil) (.cons (.ife (.or (.cons (.cmp .NotEq (.fld (.mkx 106 (.cons (.var 2) .nil)) (A4 "row")) (.var 2)) (.cons (.cmp .NotEq (.fld (.mkx 118 (.cons (.var 4) .nil)) (A4 "points")) (.var 4)) .nil))) (.cons (.ret (.bl Ac)) .nil) .nil) (.cons (.ret (.and (.cons (.call 19 (.cons (.fld (.mkx 107 (.cons (.var 3) .nil)) (A4 "triple")) (.cons (.var 3) .nil))) (.cons (.call 19 (.cons (.fld (.mkx 108 (.cons (.var 3) .nil)) (A4 "triple")) (.cons (.var 3) .nil))) .nil)))) .nil))))))))))⟩
noncomputable def cl9:Ad Ae:=[1,2,3,4,13,5,14,15,16,12,17,106,107,108,118]
noncomputable def so9(c:Ae):Ad D:=(cl9.map λk=>D.bl ([c,0].contains k))++[.bl Ab]
noncomputable def JW(U:Gam):Prop := ∀(c:Ae)(fs:Ad (Ag × D)),c∈cl9->U.F 53 [.exc c fs] = .ok (.lst (so9 c))
theorem TU(c:Ae)(fs:Ad (Ag × D))(hu:U.up c=[c,0]):Jr.run U [.exc c fs] = .ok (.lst (so9 c)):=by
 simp[Jr,Df.run,CW,CI,CJ,hu,so9,cl9,B9]
noncomputable def MT(U:Gam):Prop := ∀(m p:Ao),P4 p -> ∃ a b c:Ao,(0<=a/\a<100)/\(0<=b/\b<100)/\(0<=c/\c<100)/\U.F 40 [.int m,.int p] = .ok (.tup [.int a,.int b,.int c])
theorem SD{p:Ao}(U:Gam)(m:Ao)(hp:P4 p) : ∃ a b c:Ao,(0<=a/\a<100)/\(0<=b/\b<100)/\(0<=c/\c<100)/\Hf.run U [.int m,.int p] = .ok (.tup [.int a,.int b,.int c]):=by
 have p0:=hp.pos;have hh:=hp.hi;have m1:FJ p p=Ab:=TL (by omega) (by omega)
 have q0:0<p*p+p+1:=by have:=Int.mul_pos p0 p0;omega
 have n0:0<=m%(p*p+p+1):=D3 _ (by omega)
 have n1:m%(p*p+p+1)<p*p+p+1:=Do _ q0;by_cases z:m%(p*p+p+1)=0
 .exact⟨0,0,1,by omega,by omega,by omega,by simp[Hf,Df.run,CW,m1,q0,z]⟩
 .by_cases y:m%(p*p+p+1)<=p
  .exact⟨0,1,m%(p*p+p+1)-1,by omega,by omega,by omega,by simp[Hf,Df.run,CW,m1,q0,z,y]⟩
  .have r0:0<=m%(p*p+p+1)-p-1:=by omega
   have r1:m%(p*p+p+1)-p-1<p*p:=by omega
   have d0':0<=(m%(p*p+p+1)-p-1)/p:=Int.ediv_nonneg r0 (by omega)
   have d1:(m%(p*p+p+1)-p-1)/p<p:=Int.ediv_lt_of_lt_mul p0 r1;have e0:=D3 (m%(p*p+p+1)-p-1) (show p≠0 by omega)
   have e1:=Do (m%(p*p+p+1)-p-1) p0;exact⟨1,(m%(p*p+p+1)-p-1)/p,(m%(p*p+p+1)-p-1)%p,by omega,by omega,by omega,by simp[Hf,Df.run,CW,m1,q0,z,y,p0,show p<1073741824 by omega]⟩
noncomputable def MU(U:Gam):Prop := ∀ a b c:Ao,U.F 19 [.tup [.int a,.int b,.int c],.tup [.int a,.int b,.int c]] = .ok (.bl Ab)
theorem TV(U:Gam)(a b c:Ao):Jl.run U [.tup [.int a,.int b,.int c],.tup [.int a,.int b,.int c]] = .ok (.bl Ab):=by
 simp[Jl,Df.run,CW,kiD,CJ,CI,Lj,Li,CM,cG,cF,Ek,DI,flD,eqD,eqDs]
noncomputable def pl9:Ad Ae:=[1,2,3,4,13,5,14,15,16,12,17]
structure X9 (U:Gam):Prop where
 pl : ∀ c∈pl9,∀ ds,U.xn c ds = .ok ⟨c,[]⟩
 b : ∀ ds,U.xn 106 ds=mkI 106 "row" ds
 a : ∀ ds,U.xn 107 ds=mkX 107 "triple" ds
 n : ∀ ds,U.xn 108 ds=mkX 108 "triple" ds
 o : ∀ ds,U.xn 118 ds=mkX 118 "points" ds
noncomputable def Ux(U:Gam):Prop := ∀ t:Ag,U.F 54 [.str t] = .ok (.lst (pl9.map λc => .lst (so9 c)))
theorem TX(hs:JW U)(x:X9 U)(t:Ag):Jt.run U [.str t] = .ok (.lst (pl9.map λc => .lst (so9 c))):=by
 have m : ∀ c∈pl9,∀ fs,U.F 53 [.exc c fs] = .ok (.lst (so9 c)):=λc hc fs=>hs c fs (by revert hc;revert c;decide)
 have q : ∀ c∈pl9,evE U [sh (.str t),Af] (.call 53 (.cons (.mkx c (.cons (.var 0) .nil)) .nil)) = .ok (.lst (so9 c)) /\ ∀ y,evE U [sh (.str t),Aa (y,Ac)] (.call 53 (.cons (.mkx c (.cons (.var 0) .nil)) .nil)) = .ok (.lst (so9 c)):=λc hc=>by
  constructor
  .simp[x.pl c hc,m c hc,noX]
  .intro y;simp[x.pl c hc,m c hc,noX]
 have g:=λc hc=>(q c hc).1
 have g':=λc hc=>(q c hc).2
 simp[-Sm,Jt,Df.run,CW,B9,g 1 (by decide),g 2 (by decide),g 3 (by decide),g' 4 (by decide),g' 13 (by decide),g' 5 (by decide),g' 14 (by decide),g' 15 (by decide),g' 16 (by decide),g' 12 (by decide),g' 17 (by decide),pl9,Dg]
theorem JM{g:D->R Aj}{f:D->R D}{P:D->Prop} : ∀ L:Ad D,(∀ x∈L,g x = .ok Ab /\ ∃ y,P y/\f x = .ok y) -> ∃ ys:Ad D,ys.length=L.length/\(∀ y∈ys,P y)/\CM g f L = .ok ys
 |[],_=>⟨[],rfl,λ_ h=>(nomatch h),rfl⟩
 |x::L,h=>by
  obtain⟨h1,y,py,h2⟩:=h x AU;obtain⟨ys,l,ps,e⟩:=JM L λz hz=>h z (AG _ hz)
  refine⟨y::ys,by rw[A9,A9,l],λz hz => ?_,?_⟩
  .rcases AR.mp hz with rfl|hz
   .exact py
   .exact ps z hz
  .show (g x).bind _=_;rw[h1,R.bind_ok,AY rfl,h2,R.bind_ok,e];rfl
noncomputable def T9(y:D):Prop := ∃ a b c:Ao,(0<=a/\a<100)/\(0<=b/\b<100)/\(0<=c/\c<100)/\y = .tup [.int a,.int b,.int c]
noncomputable def U_9(y:D):Prop := ∃ s:Ag,s.length=1/\y = .str s
theorem T9.xf(h:T9 y):xfD 1 y=Ab:=by
 obtain⟨a,b,c,ha,hb,hc,rfl⟩:=h;simp[xfD,ha,hb,hc,Ck]
theorem T9.fl(h:T9 y):flD 4 y=Ab:=by
 obtain⟨a,b,c,ha,hb,hc,rfl⟩:=h;rfl
theorem T9.eq(h:T9 y):eqD y y=Ab:=by
 obtain⟨a,b,c,ha,hb,hc,rfl⟩:=h;simp[eqD,eqDs]
theorem eq9 : ∀ ys:Ad D,(∀ y∈ys,T9 y)->eqDs ys ys=Ab
 |[],_=>rfl
 |y::ys,h=>by
  show (eqD y y&&eqDs ys ys)=Ab;rw[(h y AU).eq,eq9 ys λz hz=>h z (AG _ hz)]
  rfl
theorem U_9.ss : ∀ ys:Ad D,(∀ y∈ys,U_9 y) -> ∃ ss:Ad Ag,ss.length=ys.length/\(∀ s∈ss,s.length=1)/\II ys=Aa ss
 |[],_=>⟨[],rfl,λ_ h=>(nomatch h),rfl⟩
 |y::ys,h=>by
  obtain⟨s,hs,rfl⟩:=h y AU;obtain⟨ss,l,q,e⟩:=U_9.ss ys λz hz=>h z (AG _ hz)
  refine⟨s::ss,by rw[A9,A9,l],λz hz => ?_,?_⟩
  .rcases AR.mp hz with rfl|hz
   .exact hs
   .exact q z hz
  .show (II ys).map (s :: ·)=_;rw[e];rfl
theorem NX(s:Ag) : ∀(ss:Ad Ag)(n:Ae),(∀ x∈ss,x.length=1)->ss.foldl (λa x=>a+x.length+s.length) n=n+ss.length*(1+s.length)
 |[],n,_=>by simp
 |x::ss,n,h=>by
  rw[List.foldl_cons,NX s ss _ λz hz=>h z (AG _ hz),h x AU,A9,O9]
  omega
theorem Xb{ys:Ad D}(h : ∀ y∈ys,U_9 y)(hl:ys.length<=1000) : ∃ t:Ag,Kj (A4 "") ys = .ok (.str t):=by
 obtain⟨ss,l,q,e⟩:=U_9.ss ys h;have j:G9 (A4 "") ss=Ab:=by
  unfold G9;have:ss.toArray.foldl (λa x=>a+x.length+(A4 "").length) 0=ss.length:=by
   rw[List.foldl_toArray,NX _ ss 0 q];have:(A4 "").length=0:=by decide
   rw[this];omega
  rw[this];have zl:sizeLine ≥ 2000:=by decide
  show (!decide (ss.length>sizeLine))=Ab;rw[Cf (by omega)]
  rfl
 refine⟨Hb (A4 "") ss,?_⟩;unfold Kj;rw[e];show (if G9 (A4 "") ss=Ab then R.ok (D.str (Hb (A4 "") ss)) else .bad)=_
 rw[AY j]
theorem Us{P:Ae->Prop}{j:Ao}(h0:P 0)(h1:P 1)(h2:P 2):P (j%3).toNat:=by
 have:(j%3).toNat=0\/(j%3).toNat=1\/(j%3).toNat=2:=by omega
 rcases this with e|e|e <;> rw[e] <;> assumption
theorem ab9(j:Ao) : ∃ y,U_9 y/\Ga (.str (A4 "ab ")) (.int (j%3)) = .ok y:=by
 have e:FQ (A4 "ab ")=[.str ⟨#[97]⟩,.str ⟨#[98]⟩,.str ⟨#[32]⟩]:=by kernel_rfl
 obtain⟨y,u,q⟩ : ∃ y,U_9 y/\(FQ (A4 "ab "))[(j%3).toNat]? = Aa y:=by
  rw[e];exact Us (P:=λk => ∃ y,U_9 y/\[D.str ⟨#[97]⟩,.str ⟨#[98]⟩,.str ⟨#[32]⟩][k]? = Aa y) ⟨_,⟨_,rfl,rfl⟩,rfl⟩ ⟨_,⟨_,rfl,rfl⟩,rfl⟩ ⟨_,⟨_,rfl,rfl⟩,rfl⟩
 refine⟨y,u,?_⟩;show (if B9 (A4 "ab ").length=Ab then CZ (FQ (A4 "ab ")) (j%3) else .bad)=_
 rw[AY (by decide+kernel)]
 exact JA (by omega) q
noncomputable def fd9:Ad D:=cl9.map λc => .lst (so9 c)
theorem c9(U:Gam)(s0 s1 s2 s3 s4 s6 s7 s8 s9:Sl):CM (cG U [s0,s1,s2,s3,s4,Aa (.lst fd9,Ab),s6,s7,s8,s9] 8 Lo) (cF U [s0,s1,s2,s3,s4,Aa (.lst fd9,Ab),s6,s7,s8,s9] 8 Lq) (DX 0 15) = .ok (Dx 15 (.bl Ab)):=by kernel_rfl
theorem U_2(hm:JX U)(hp:MV U)(ht:MT U)(he:MU U)(hs:JW U)(hpl:Ux U)(x:X9 U)(fr:U.fr 54=Ab)(ns:Ad Ao):JQ.run U [scr ns] = .ok (.bl Ab):=by
 have hm' : ∀ k:Ao,U.F 3 [scr ns,.int k] = .ok (.int (E9 ns k)):=hm ns;have p4:=RF ns 0;generalize hP:Iq ns 0=p at p4;have r0:=D3 (E9 ns 1) (show (31:Ao)≠0 by decide)
 have r1:=Do (E9 ns 1) (show (0:Ao)<31 by decide)
 generalize hR:E9 ns 1%31=row at r0 r1;obtain⟨a,b,c,ha,hb,hc,et⟩:=ht (E9 ns 2) p p4;have n0:0<=3+row%2:=by omega
 have n1:3+row%2<5:=by omega
 obtain⟨ys,yl,yt,ye⟩:=JM (g:=cG U [sh (scr ns),si p,si row,sh (.tup [.int a,.int b,.int c]),Af,Af,Af,Af,Af,Af] 6 Lp) (f:=cF U [sh (scr ns),si p,si row,sh (.tup [.int a,.int b,.int c]),Af,Af,Af,Af,Af,Af] 6 Jk) (P:=T9) (DX 0 (3+row%2).toNat) λz hz=>by
  obtain⟨k,_,rfl⟩:=Mn hz;refine⟨rfl,?_⟩;obtain⟨a',b',c',ha',hb',hc',et'⟩:=ht (E9 ns (3+(k:Ao))) p p4;exact⟨_,⟨a',b',c',ha',hb',hc',rfl⟩,by simp[cF,Jk,hm',et']⟩
 obtain⟨zs,zl,zt,ze⟩:=JM (g:=cG U [sh (scr ns),si p,si row,sh (.tup [.int a,.int b,.int c]),sh (.tup ys),Af,Af,Af,Af,Af] 7 Jj) (f:=cF U [sh (scr ns),si p,si row,sh (.tup [.int a,.int b,.int c]),sh (.tup ys),Af,Af,Af,Af,Af] 7 HU) (P:=U_9) (DX 0 row.toNat) λz hz=>by
  obtain⟨k,_,rfl⟩:=Mn hz;refine⟨rfl,?_⟩;obtain⟨y,u,q⟩:=ab9 (E9 ns (9+(k:Ao)));exact⟨y,u,by simp[cF,HU,hm',q]⟩
 rw[HV]at yl zl;obtain⟨t,jt⟩:=Xb zt (by omega)
 have x1:xfD 1 (.tup [.int a,.int b,.int c])=Ab:=T9.xf ⟨a,b,c,ha,hb,hc,rfl⟩;have x2:xfD 2 (.tup ys)=Ab:=by
  show (Ck ys.length 8&&ys.all (xfD 1))=Ab;rw[Al];exact⟨Nat.ble_eq.mpr (by omega),Cj.mpr λy hy=>(yt y hy).xf⟩
 have x0:xfD 0 (.int row)=Ab:=by simp[xfD];omega
 have f1:flD 5 (.tup ys)=Ab:=Cj.mpr λy hy=>(yt y hy).fl
 have f2:=eq9 ys yt;have m1:U.xn 106 [.int row] = .ok ⟨106,[("row",.int row)]⟩:=by rw[x.b];show (if xfD 0 (.int row)=Ab then _ else _)=_;rw[AY x0]
 have m2:U.xn 107 [.tup [.int a,.int b,.int c]] = .ok ⟨107,[("triple",.tup [.int a,.int b,.int c])]⟩:=by rw[x.a];show (if (xfD 1 (.tup [.int a,.int b,.int c])||_)=Ab then _ else _)=_;rw[x1];rfl
 have m3:U.xn 108 [.tup [.int a,.int b,.int c]] = .ok ⟨108,[("triple",.tup [.int a,.int b,.int c])]⟩:=by rw[x.n];show (if (xfD 1 (.tup [.int a,.int b,.int c])||_)=Ab then _ else _)=_;rw[x1];rfl
 have m4:U.xn 118 [.tup ys] = .ok ⟨118,[("points",.tup ys)]⟩:=by rw[x.o];show (if (_||xfD 2 (.tup ys))=Ab then _ else _)=_;rw[x2,ER];rfl
 have s1:=hs 106 [("row",.int row)] (by decide)
 have s2:=hs 107 [("triple",.tup [.int a,.int b,.int c])] (by decide)
 have s3:=hs 108 [("triple",.tup [.int a,.int b,.int c])] (by decide)
 have s4:=hs 118 [("points",.tup ys)] (by decide)
 have lk1:CC (A4 "row") [(("row" : Ag),D.int row)]=Aa (.int row):=rfl;have lk2:CC (A4 "triple") [(("triple" : Ag),D.tup [.int a,.int b,.int c])]=Aa (.tup [.int a,.int b,.int c]):=rfl;have lk3:CC (A4 "points") [(("points" : Ag),D.tup ys)]=Aa (.tup ys):=rfl;have nf:Dg U (.call 54 (.cons (.bi .sjoin (.cons (.str (A4 "")) (.cons (.comp HU 7 (.rng (.var 2)) Jj) .nil))) .nil))=Ab:=fr;have bj:biD .sjoin [.str (A4 ""),.lst zs] = .ok (.str t):=jt;have k1:=c9 U (sh (scr ns)) (si p) (si row) (sh (.tup [.int a,.int b,.int c])) (sh (.tup ys)) Af Af Af Af;rw[show fd9=[D.lst (so9 1),D.lst (so9 2),D.lst (so9 3),D.lst (so9 4),D.lst (so9 13),D.lst (so9 5),D.lst (so9 14),D.lst (so9 15),D.lst (so9 16),D.lst (so9 12),D.lst (so9 17),D.lst (so9 106),D.lst (so9 107),D.lst (so9 108),D.lst (so9 118)] from rfl]at k1
 have pr:U.F 4 [scr ns,.int 0] = .ok (.int p):=by rw[hp ns 0,hP]
 have ra:=JH n0 (show 3+row%2<1000000 by omega)
 have rb:=JH r0 (show row<1000000 by omega)
 have rc:De 0 15 = .ok (DX 0 15):=JH (by decide) (by decide)
 simp[JQ,Df.run,CW,hm',pr,hR,et,ra,rb,rc,ye,ze,bj,hpl t,nf,fr,m1,m2,m3,m4,s1,s2,s3,s4,B9,noX,Dg,pl9,CY,k1,Ek,DI,HL,lk1,lk2,lk3,f1,f2,flD,eqD,he a b c];exact λy hy=>(yt y hy).fl
noncomputable def XZ:Ae->Ad Ae
 |1=>[1,0]
 |2=>[2,0]
 |3=>[3,0]
 |4=>[4,0]
 |13=>[13,0]
 |5=>[5,0]
 |14=>[14,0]
 |15=>[15,0]
 |16=>[16,0]
 |12=>[12,0]
 |17=>[17,0]
 |106=>[106,0]
 |107=>[107,0]
 |108=>[108,0]
 |118=>[118,0]
 |_=>[]
noncomputable def IW:Ae->Ad D->R Ex
 |1,_ => .ok ⟨1,[]⟩
 |2,_ => .ok ⟨2,[]⟩
 |3,_ => .ok ⟨3,[]⟩
 |4,_ => .ok ⟨4,[]⟩
 |13,_ => .ok ⟨13,[]⟩
 |5,_ => .ok ⟨5,[]⟩
 |14,_ => .ok ⟨14,[]⟩
 |15,_ => .ok ⟨15,[]⟩
 |16,_ => .ok ⟨16,[]⟩
 |12,_ => .ok ⟨12,[]⟩
 |17,_ => .ok ⟨17,[]⟩
 |106,ds=>mkI 106 "row" ds
 |107,ds=>mkX 107 "triple" ds
 |108,ds=>mkX 108 "triple" ds
 |118,ds=>mkX 118 "points" ds
 |_,_ => .bad
noncomputable def Q09:Prg:=⟨Ab,fun
 |2=>Jm
 |3=>Ju
 |4=>Js
 |40=>Hf
 |19=>Jl
 |53=>Jr
 |54=>Jt
 |55=>JQ
 | _=>⟨0,Ac,.nil⟩,λ_ => .non,XZ,IW⟩
theorem xx9(n:Ae):X9 (gam Q09 (n+1)):=⟨λc hc ds=>by
 have : ∀ c∈pl9,∀ ds,IW c ds = .ok ⟨c,[]⟩:=by
  intro c hc ds;simp only[pl9,AR,ET,HS]at hc;rcases hc with rfl|rfl|rfl|rfl|rfl|rfl|rfl|rfl|rfl|rfl|rfl <;> rfl
 exact this c hc ds,λ_=>rfl,λ_=>rfl,λ_=>rfl,λ_=>rfl⟩
theorem W9(ns:Ad Ao):(gam Q09 5).F 55 [scr ns] = .ok (.bl Ab):=by
 have ce : ∀ n,Ny (gam Q09 (n+1)):=λn ns k=>U_3 _ ns k
 have mi : ∀ n,JX (gam Q09 (n+2)):=λn ns k=>TY (ce n) ns k
 have pr : ∀ n,MV (gam Q09 (n+3)):=λn ns k=>TW (mi n) ns k
 have so : ∀ n,JW (gam Q09 (n+1)):=λn c fs hc=>TU c fs (by
  simp only[cl9,AR,ET,HS]at hc;rcases hc with rfl|rfl|rfl|rfl|rfl|rfl|rfl|rfl|rfl|rfl|rfl|rfl|rfl|rfl|rfl <;> cases n <;> rfl)
 have tr : ∀ n,MT (gam Q09 (n+1)):=λn m p hp=>SD _ m hp
 have sa : ∀ n,MU (gam Q09 (n+1)):=λn a b c=>TV _ a b c
 exact U_2 (mi 2) (pr 1) (tr 3) (sa 3) (so 3) (λt=>TX (so 2) (xx9 2) t) (xx9 3) rfl ns
end OvC
end
namespace OvC
open PySem PySem.Spec PyProof.Rows Ov L2
variable{l:DK}
noncomputable def NL:Ad (Ag × Ae × Ae):=([("_law_cell_at",2,2),("_law_mixed",3,2),("_law_prime",4,2),("_law_triple",40,2),("_law_same_tuple",19,2),("_law_sorts",53,1),("_law_plain",54,1),("law",55,1)]:Ad (Ag × Ae × Ae))
noncomputable def OD:Ad Ag:=["ValueError", "all", "bool", "int", "isinstance", "len", "range", "tuple"]
noncomputable def Ko:Ad (Ag × Ae):=[("NoPrime",1),("NoOver",2),("NoTriple",3),("NoTable",4),("NoCount",13),("NoCurve",5),("NotWhole",14),("TooMany",15),("NoPicture",16),("NoRow",12),("NothingDone",17),("OnLine",118),("BadRow",106),("Alike",107),("NotOn",108)]
noncomputable def KG:Ad (Ag × Ae):=[("NoPrime",1),("NoOver",2),("NoTriple",3),("NoTable",4),("NoCount",13),("NoCurve",5),("NotWhole",14),("TooMany",15),("NoPicture",16),("NoRow",12),("NothingDone",17),("BadRow",106),("Alike",107),("NotOn",108),("OnLine",118),("OvalError",0)]
noncomputable def NS:Ad (Ag × Ae):=[]
noncomputable abbrev C09(h:Aj)(n:Ae)(N:Ad Ag)(i d:Ae):Aj:=FM 80 h NL OD Ko KG NS (N.take n) N (tp09 i) (Q09.defs d)
theorem VS:C09 Ac 2 ["_law_script", "_law_k"] 18 2=Ab:=by decide+kernel
theorem VR:C09 Ac 2 ["_law_script", "_law_k"] 19 3=Ab:=by decide+kernel
theorem VQ:C09 Ac 2 ["_law_script", "_law_k"] 20 4=Ab:=by decide+kernel
theorem VP:C09 Ac 2 ["_law_n", "_law_p"] 21 40=Ab:=by decide+kernel
theorem VO:C09 Ac 2 ["_law_found", "_law_due", "#2"] 22 19=Ab:=by decide+kernel
theorem VN:C09 Ac 1 ["_law_e", "_law_some"] 23 53=Ab:=by decide+kernel
theorem VM:C09 Ac 1 ["_law_text", "_law_found"] 24 54=Ab:=by decide+kernel
theorem Np:C09 Ac 1 ["_law_script", "_law_p", "_law_row", "_law_triple_here", "_law_points", "_law_found", "#6", "#7", "#8", "#9"] 25 55=Ab:=by decide+kernel
theorem Sd:F9 "OvalError" "points" "points" (F7 (tp09 16))=Ab:=by decide+kernel
theorem Sc:F9 "OvalError" "row" "row" (F7 (tp09 13))=Ab:=by decide+kernel
theorem Sb:F9 "OvalError" "triple" "triple" (F7 (tp09 14))=Ab:=by decide+kernel
theorem Sa:F9 "OvalError" "triple" "triple" (F7 (tp09 15))=Ab:=by decide+kernel
set_option maxHeartbeats 0 in
theorem all09{w:Ar}{K:Fg}{h:Ay}{mg:Ag->An Ah}{fa f0 f1 f2 f3 f4 f5 f6 f7 x0 x1 x2 x3 x4 x5 x6 x7 x8 x9 x10 x11 x12 x13 x14 x15 ix11 ix12 ix13 ix14:Ai}(X:K.In h)(G:h.Ns AV mg)(hfa:mg "law" = Aa (.ref fa))(a0:FnI K f0 "_law_cell_at" (tp09 18))(a1:FnI K f1 "_law_mixed" (tp09 19))(a2:FnI K f2 "_law_prime" (tp09 20))(a3:FnI K f3 "_law_triple" (tp09 21))(a4:FnI K f4 "_law_same_tuple" (tp09 22))(a5:FnI K f5 "_law_sorts" (tp09 23))(a6:FnI K f6 "_law_plain" (tp09 24))(a7:FnI K f7 "law" (tp09 25))(cx0:XA K "NoPrime" x0 Af)(cx1:XA K "NoOver" x1 Af)(cx2:XA K "NoTriple" x2 Af)(cx3:XA K "NoTable" x3 Af)(cx4:XA K "NoCount" x4 Af)(cx5:XA K "NoCurve" x5 Af)(cx6:XA K "NotWhole" x6 Af)(cx7:XA K "TooMany" x7 Af)(cx8:XA K "NoPicture" x8 Af)(cx9:XA K "NoRow" x9 Af)(cx10:XA K "NothingDone" x10 Af)(cx11:XB K "OnLine" x11 ix11 "OnLine.__init__" (F7 (tp09 16)))(cx12:XB K "BadRow" x12 ix12 "BadRow.__init__" (F7 (tp09 13)))(cx13:XB K "Alike" x13 ix13 "Alike.__init__" (F7 (tp09 14)))(cx14:XB K "NotOn" x14 ix14 "NotOn.__init__" (F7 (tp09 15)))(cx15:XE K "OvalError" x15)(ox15:XO K x15)(sx0:SuC K x0 [(x0,Ab),(x1,Ac),(x2,Ac),(x3,Ac),(x4,Ac),(x5,Ac),(x6,Ac),(x7,Ac),(x8,Ac),(x9,Ac),(x10,Ac),(x11,Ac),(x12,Ac),(x13,Ac),(x14,Ac)])(sx1:SuC K x1 [(x0,Ac),(x1,Ab),(x2,Ac),(x3,Ac),(x4,Ac),(x5,Ac),(x6,Ac),(x7,Ac),(x8,Ac),(x9,Ac),(x10,Ac),(x11,Ac),(x12,Ac),(x13,Ac),(x14,Ac)])(sx2:SuC K x2 [(x0,Ac),(x1,Ac),(x2,Ab),(x3,Ac),(x4,Ac),(x5,Ac),(x6,Ac),(x7,Ac),(x8,Ac),(x9,Ac),(x10,Ac),(x11,Ac),(x12,Ac),(x13,Ac),(x14,Ac)])(sx3:SuC K x3 [(x0,Ac),(x1,Ac),(x2,Ac),(x3,Ab),(x4,Ac),(x5,Ac),(x6,Ac),(x7,Ac),(x8,Ac),(x9,Ac),(x10,Ac),(x11,Ac),(x12,Ac),(x13,Ac),(x14,Ac)])(sx4:SuC K x4 [(x0,Ac),(x1,Ac),(x2,Ac),(x3,Ac),(x4,Ab),(x5,Ac),(x6,Ac),(x7,Ac),(x8,Ac),(x9,Ac),(x10,Ac),(x11,Ac),(x12,Ac),(x13,Ac),(x14,Ac)])(sx5:SuC K x5 [(x0,Ac),(x1,Ac),(x2,Ac),(x3,Ac),(x4,Ac),(x5,Ab),(x6,Ac),(x7,Ac),(x8,Ac),(x9,Ac),(x10,Ac),(x11,Ac),(x12,Ac),(x13,Ac),(x14,Ac)])(sx6:SuC K x6 [(x0,Ac),(x1,Ac),(x2,Ac),(x3,Ac),(x4,Ac),(x5,Ac),(x6,Ab),(x7,Ac),(x8,Ac),(x9,Ac),(x10,Ac),(x11,Ac),(x12,Ac),(x13,Ac),(x14,Ac)])(sx7:SuC K x7 [(x0,Ac),(x1,Ac),(x2,Ac),(x3,Ac),(x4,Ac),(x5,Ac),(x6,Ac),(x7,Ab),(x8,Ac),(x9,Ac),(x10,Ac),(x11,Ac),(x12,Ac),(x13,Ac),(x14,Ac)])(sx8:SuC K x8 [(x0,Ac),(x1,Ac),(x2,Ac),(x3,Ac),(x4,Ac),(x5,Ac),(x6,Ac),(x7,Ac),(x8,Ab),(x9,Ac),(x10,Ac),(x11,Ac),(x12,Ac),(x13,Ac),(x14,Ac)])(sx9:SuC K x9 [(x0,Ac),(x1,Ac),(x2,Ac),(x3,Ac),(x4,Ac),(x5,Ac),(x6,Ac),(x7,Ac),(x8,Ac),(x9,Ab),(x10,Ac),(x11,Ac),(x12,Ac),(x13,Ac),(x14,Ac)])(sx10:SuC K x10 [(x0,Ac),(x1,Ac),(x2,Ac),(x3,Ac),(x4,Ac),(x5,Ac),(x6,Ac),(x7,Ac),(x8,Ac),(x9,Ac),(x10,Ab),(x11,Ac),(x12,Ac),(x13,Ac),(x14,Ac)])(sx12:SuC K x12 [(x0,Ac),(x1,Ac),(x2,Ac),(x3,Ac),(x4,Ac),(x5,Ac),(x6,Ac),(x7,Ac),(x8,Ac),(x9,Ac),(x10,Ac),(x11,Ac),(x12,Ab),(x13,Ac),(x14,Ac)])(sx13:SuC K x13 [(x0,Ac),(x1,Ac),(x2,Ac),(x3,Ac),(x4,Ac),(x5,Ac),(x6,Ac),(x7,Ac),(x8,Ac),(x9,Ac),(x10,Ac),(x11,Ac),(x12,Ac),(x13,Ab),(x14,Ac)])(sx14:SuC K x14 [(x0,Ac),(x1,Ac),(x2,Ac),(x3,Ac),(x4,Ac),(x5,Ac),(x6,Ac),(x7,Ac),(x8,Ac),(x9,Ac),(x10,Ac),(x11,Ac),(x12,Ac),(x13,Ac),(x14,Ab)])(sx11:SuC K x11 [(x0,Ac),(x1,Ac),(x2,Ac),(x3,Ac),(x4,Ac),(x5,Ac),(x6,Ac),(x7,Ac),(x8,Ac),(x9,Ac),(x10,Ac),(x11,Ab),(x12,Ac),(x13,Ac),(x14,Ac)])(sx15:SuC K x15 [(x0,Ab),(x1,Ab),(x2,Ab),(x3,Ab),(x4,Ab),(x5,Ab),(x6,Ab),(x7,Ab),(x8,Ab),(x9,Ab),(x10,Ab),(x11,Ab),(x12,Ab),(x13,Ab),(x14,Ab)])(z0:Bh K AV "ValueError" = Aa Af)(z1:Bh K AV "all" = Aa Af)(z2:Bh K AV "bool" = Aa Af)(z3:Bh K AV "int" = Aa Af)(z4:Bh K AV "isinstance" = Aa Af)(z5:Bh K AV "len" = Aa Af)(z6:Bh K AV "range" = Aa Af)(z7:Bh K AV "tuple" = Aa Af):
    ∃ fd:Bl,(∀(s:Am)(v:Ah),Ei s fd ⟨[v],[]⟩ [("_law_script",v)]) /\ ∀ base:Ay,K.In base->base.Ns AV mg->FnOk l.prog w K mg base (CXR l.prog w) 5 fa fd ["_law_script"] (IN K):=by
  obtain⟨_,F,e⟩:=a7;obtain⟨_,_,_,_,_,_,_,_,_,rfl,_,_⟩:=F.ex;cases hfa.symm.trans (AB X G e);have XT09:XT Q09.up Q09.xn (clL [(1,x0),(2,x1),(3,x2),(4,x3),(13,x4),(5,x5),(14,x6),(15,x7),(16,x8),(12,x9),(17,x10),(118,x11),(106,x12),(107,x13),(108,x14)]) Ko KG K mg:=by
    refine Wj (all_cons (cx0.row λ_=>by first|exact .inr rfl|exact .inl rfl) (all_cons (cx1.row λ_=>by first|exact .inr rfl|exact .inl rfl) (all_cons (cx2.row λ_=>by first|exact .inr rfl|exact .inl rfl) (all_cons (cx3.row λ_=>by first|exact .inr rfl|exact .inl rfl) (all_cons (cx4.row λ_=>by first|exact .inr rfl|exact .inl rfl) (all_cons (cx5.row λ_=>by first|exact .inr rfl|exact .inl rfl) (all_cons (cx6.row λ_=>by first|exact .inr rfl|exact .inl rfl) (all_cons (cx7.row λ_=>by first|exact .inr rfl|exact .inl rfl) (all_cons (cx8.row λ_=>by first|exact .inr rfl|exact .inl rfl) (all_cons (cx9.row λ_=>by first|exact .inr rfl|exact .inl rfl) (all_cons (cx10.row λ_=>by first|exact .inr rfl|exact .inl rfl) (all_cons (XB.row X G cx11 ox15 cx15.n (.inr rfl) Sd (λ_ _ _ _ _ _ _ _=>rfl) λ_=>rfl) (all_cons (XB.rowI X G cx12 ox15 cx15.n Sc (λ_ _ _ _ _ _ _ _=>rfl) λ_=>rfl) (all_cons (XB.row X G cx13 ox15 cx15.n (.inl rfl) Sb (λ_ _ _ _ _ _ _ _=>rfl) λ_=>rfl) (all_cons (XB.row X G cx14 ox15 cx15.n (.inl rfl) Sa (λ_ _ _ _ _ _ _ _=>rfl) λ_=>rfl) (all_nil)))))))))))))))) (all_cons ⟨_,rfl,AB X G cx0.n⟩ (all_cons ⟨_,rfl,AB X G cx1.n⟩ (all_cons ⟨_,rfl,AB X G cx2.n⟩ (all_cons ⟨_,rfl,AB X G cx3.n⟩ (all_cons ⟨_,rfl,AB X G cx4.n⟩ (all_cons ⟨_,rfl,AB X G cx5.n⟩ (all_cons ⟨_,rfl,AB X G cx6.n⟩ (all_cons ⟨_,rfl,AB X G cx7.n⟩ (all_cons ⟨_,rfl,AB X G cx8.n⟩ (all_cons ⟨_,rfl,AB X G cx9.n⟩ (all_cons ⟨_,rfl,AB X G cx10.n⟩ (all_cons ⟨_,rfl,AB X G cx11.a.n⟩ (all_cons ⟨_,rfl,AB X G cx12.a.n⟩ (all_cons ⟨_,rfl,AB X G cx13.a.n⟩ (all_cons ⟨_,rfl,AB X G cx14.a.n⟩ (all_nil)))))))))))))))) (all_cons ⟨_,AB X G cx0.n,cx0.kc,sx0⟩ (all_cons ⟨_,AB X G cx1.n,cx1.kc,sx1⟩ (all_cons ⟨_,AB X G cx2.n,cx2.kc,sx2⟩ (all_cons ⟨_,AB X G cx3.n,cx3.kc,sx3⟩ (all_cons ⟨_,AB X G cx4.n,cx4.kc,sx4⟩ (all_cons ⟨_,AB X G cx5.n,cx5.kc,sx5⟩ (all_cons ⟨_,AB X G cx6.n,cx6.kc,sx6⟩ (all_cons ⟨_,AB X G cx7.n,cx7.kc,sx7⟩ (all_cons ⟨_,AB X G cx8.n,cx8.kc,sx8⟩ (all_cons ⟨_,AB X G cx9.n,cx9.kc,sx9⟩ (all_cons ⟨_,AB X G cx10.n,cx10.kc,sx10⟩ (all_cons ⟨_,AB X G cx12.a.n,cx12.a.kc,sx12⟩ (all_cons ⟨_,AB X G cx13.a.n,cx13.a.kc,sx13⟩ (all_cons ⟨_,AB X G cx14.a.n,cx14.a.kc,sx14⟩ (all_cons ⟨_,AB X G cx11.a.n,cx11.a.kc,sx11⟩ (all_cons ⟨_,AB X G cx15.n,cx15.kc,sx15⟩ (all_nil))))))))))))))))) ?_
    intro c q ds;show IW c ds = .bad;unfold IW;split <;> first|rfl|exact absurd rfl (q ("NoPrime",1) (by decide))|exact absurd rfl (q ("NoOver",2) (by decide))|exact absurd rfl (q ("NoTriple",3) (by decide))|exact absurd rfl (q ("NoTable",4) (by decide))|exact absurd rfl (q ("NoCount",13) (by decide))|exact absurd rfl (q ("NoCurve",5) (by decide))|exact absurd rfl (q ("NotWhole",14) (by decide))|exact absurd rfl (q ("TooMany",15) (by decide))|exact absurd rfl (q ("NoPicture",16) (by decide))|exact absurd rfl (q ("NoRow",12) (by decide))|exact absurd rfl (q ("NothingDone",17) (by decide))|exact absurd rfl (q ("OnLine",118) (by decide))|exact absurd rfl (q ("BadRow",106) (by decide))|exact absurd rfl (q ("Alike",107) (by decide))|exact absurd rfl (q ("NotOn",108) (by decide))
  have T:Tab K mg (clL [(1,x0),(2,x1),(3,x2),(4,x3),(13,x4),(5,x5),(14,x6),(15,x7),(16,x8),(12,x9),(17,x10),(118,x11),(106,x12),(107,x13),(108,x14)]) NL OD Ko KG NS Q09 80:=⟨XT09,all_cons (BR X G z0) (all_cons (BR X G z1) (all_cons (BR X G z2) (all_cons (BR X G z3) (all_cons (BR X G z4) (all_cons (BR X G z5) (all_cons (BR X G z6) (all_cons (BR X G z7) (all_nil)))))))),all_nil,all_cons (HI 2 2 X G a0 rfl VS λ_ _ _ _ _ _ _ _=>rfl) (all_cons (HI 2 3 X G a1 rfl VR λ_ _ _ _ _ _ _ _=>rfl) (all_cons (HI 2 4 X G a2 rfl VQ λ_ _ _ _ _ _ _ _=>rfl) (all_cons (HI 2 40 X G a3 rfl VP λ_ _ _ _ _ _ _ _=>rfl) (all_cons (HI 2 19 X G a4 rfl VO λ_ _ _ _ _ _ _ _=>rfl) (all_cons (K6 1 53 X G a5 rfl VN λ_ _ _ _ _ _ _=>rfl) (all_cons (K6 1 54 X G a6 rfl VM λ_ _ _ _ _ _ _=>rfl) (all_cons (K6 1 55 X G ⟨_,F,e⟩ rfl Np λ_ _ _ _ _ _ _=>rfl) (all_nil))))))))⟩
  exact⟨_,λs v => .of_eq rfl,λbase _ _=>law_fn (Nn T (Ke T 4) (NT F) rfl Np) W9⟩
theorem walk09{q:AE}{loose:Ad Ag}{XP:(Ag->An Ah)->Ay->Prop}{YP:Ar->Ay->Prop}{d:DefRec}{K:Ha->Fg}(hn:l.most=Aa 63)(hdf:d.params.defaults=[])(hY : ∀(w:Ar)(h:Ay),YP w h->(K w.params).In h)(F : ∀(w:Ar)(mg:Ag->An Ah)(fa:Ai)(h:Ay),(K w.params).In h->h.Ns AV mg->mg d.name=Aa (.ref fa) ->
   ∃ fd:Bl,(∀(s:Am)(u:Ah),Ei s fd ⟨[u],[]⟩ [("_law_script",u)]) /\ ∀ base:Ay,(K w.params).In base->base.Ns AV mg->FnOk l.prog w (K w.params) mg base (CXR l.prog w) 5 fa fd ["_law_script"] (IN (K w.params))):Qm q loose XP YP l.row.toRowW d [] (λf vs=>GA f vs):=
 L2.walk_of (n:=63) (k:=5) (x := "_law_script") (CX:=λw=>CXR l.prog w) (sp:=λw=>IN (K w.params)) hn (by decide) hdf ⟨rfl,by decide,by decide,rfl⟩ hY F (λ_ H a ns hl _ hS=>⟨a,ns,rfl,hl,hS,λ_ _ z=>z⟩) λ_ _ _ _ _ z=>VJ z
end OvC
open PySem PySem.W PyProof.Rows
set_option hygiene false
set_option maxRecDepth 100000 in
set_option maxHeartbeats 0 in
theorem PySem.Challenge.cw_ovalfield_k09_refusals_made_holds : PySem.Challenge.rw_ovalfield_k09_refusals_made.Holds := by
 refine OvC.hold09.go OvC.reck09_1 OvC.reck09_2 OvC.reck09_3 OvC.reck09_4 OvC.reck09_5 OvC.reck09_6 OvC.reck09_7 OvC.reck09_8 OvC.reck09_9 OvC.reck09_10 OvC.reck09_11 ?_;intro said;refine OvC.walk09 (l:=PySem.Challenge.rw_ovalfield_k09_refusals_made) rfl rfl (λw h Y_=>Qr Y_) ?F
 case F=>
  intro w mg fa h KX G hmg
  refine' OvC.all09 KX G hmg ?a0 ?a1 ?a2 ?a3 ?a4 ?a5 ?a6 ?a7 ?cx0 ?cx1 ?cx2 ?cx3 ?cx4 ?cx5 ?cx6 ?cx7 ?cx8 ?cx9 ?cx10 ?cx11 ?cx12 ?cx13 ?cx14 ?cx15 ?ox15 ?sx0 ?sx1 ?sx2 ?sx3 ?sx4 ?sx5 ?sx6 ?sx7 ?sx8 ?sx9 ?sx10 ?sx12 ?sx13 ?sx14 ?sx11 ?sx15 ?z0 ?z1 ?z2 ?z3 ?z4 ?z5 ?z6 ?z7
  case a0|a1|a2|a3|a4|a5|a6|a7=>(refine' Ov.fni ?a ?l ?c ?k;(case a=>k_is);(case l=>k_is);(case c=>k_is);(case k=>k_is))
  case cx0|cx1|cx2|cx3|cx4|cx5|cx6|cx7|cx8|cx9|cx10=>(refine' Ov.xa_mk ?n (Ov.xcls_l ?e) ?d ?f ?g ?r ?a ?b ?c ?o ?h ?v;(case n=>k_is);(case e=>k_exc);(case d=>kernel_rfl);(case f|g|r|a|b|c|o|h|v=>k_is))
  case cx11|cx12|cx13|cx14=>(refine' Ov.XB.mk ?i (Ov.xa_mk ?n ?e ?d ?f ?g ?r ?a ?b ?c ?o ?h ?v) (Ov.ini_mk ?l ?m ?k) ?t ?s;(case n=>k_is);(case i=>k_is);(case l=>k_is);(case e|d=>kernel_rfl);(case m|k|t|s|f|g|r|a|b|c|o|h|v=>k_is))
  case cx15=>(refine' Ov.XE.mk ?a ?b ?c;(case a=>k_is);(case b|c=>k_is))
  case ox15=>(refine' Ov.XO.mk ?a ?b ?c;(case a|b|c=>k_is))
  case sx0|sx1|sx2|sx3|sx4|sx5|sx6|sx7|sx8|sx9|sx10|sx12|sx13|sx14|sx11|sx15=>(refine' Ov.all_cons ?q0 (Ov.all_cons ?q1 (Ov.all_cons ?q2 (Ov.all_cons ?q3 (Ov.all_cons ?q4 (Ov.all_cons ?q5 (Ov.all_cons ?q6 (Ov.all_cons ?q7 (Ov.all_cons ?q8 (Ov.all_cons ?q9 (Ov.all_cons ?q10 (Ov.all_cons ?q11 (Ov.all_cons ?q12 (Ov.all_cons ?q13 (Ov.all_cons ?q14 (Ov.all_nil)))))))))))))));(case q0|q1|q2|q3|q4|q5|q6|q7|q8|q9|q10|q11|q12|q13|q14=>dsimp only;k_is))
  case z0|z1|z2|z3|z4|z5|z6|z7=>k_is
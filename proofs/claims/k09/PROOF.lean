import PyProof.Rows.All
import Wide.All
import OpenK.AllK
import Wide.FinOn
import PyProof.EqAt
import KE.KSortTup
import PyProof.EqKinds
import PyProof.TupleCall
import Lean
import PySem.Challenge.RW_ovalfield_k09_refusals_made
set_option Elab.async false
set_option linter.all false
set_option maxRecDepth 100000
set_option maxHeartbeats 4000000
open Option renaming some→Aa,none→Af,bind_eq_some_iff→Aw,isSome_iff_exists→BS,map→DD,bind_some→Pn
open Bool renaming true→Ab,false→Ac,and_eq_true→Al,false_ne_true→Aq,not_eq_true'→Bg,or_eq_true→BB,or_false→CQ,or_true→EU,and_false→Fs,and_true→OW,eq_iff_iff→OX
open _root_ renaming List→Ad,Nat→Ae,Bool→Aj,Option→An,Int→Ao,beq_iff_eq→AH,of_decide_eq_true→AI,decide_eq_true_eq→AQ,False→AT,if_pos→AX,if_neg→A8,Array→Bb,dif_neg→Bw,decide_eq_false→BP,String→Ca,beq_self_eq_true→Da,Unit→Dj,beq_eq_false_iff_ne→Do,Decidable→D7,if_true→ET,True→E4,bne_iff_ne→FU,not_or→HX,or_false→HY,decide_eq_true→YL
open PySem renaming Str→Ag,Value→Ah,Addr→Ai,Expr→Ak,Shared→Am,starEach→Ap,World→Ar,wpAny→As,wpAny_bind→Au,Heap→Ay,Pos→Az,Stmt→AC,Obj→AD,Program→AE,Around→AN,mainGlobals→AV,wpAny_mono→A2,backTo→Bk,FuncData→Bn,wpAny_pure→Bo,excClassObj→Bq,cLine→Br,wpAny_loadPart_at→Bx,Scope→By,binaryOp→Bz,Env→BF,mem_of_lookup→BN,sizeLine_eq→BX,Tok→BY,foldedSetIterable→B1,wpAny_truthy_bool→B2,cellsFrom→B5,compareOp→B6,bootBuiltins→B9,CmpOp→Ch,swapsWith→Ck,wpAny_Call_Name_kw→Cq,OwnTail→Cu,assignEach→CC,codeAny_call_builtin→CD,NameKind→CJ,GenState→CV,ExceptHandler→Dc,attributeBase→Dd,wpAny_standAt→De,Keyword→Dg,wpAny_isSubtype_exc→Di,wpAny_execs_nil→Ds,wpAny_passesOwn→Dt,Operator→Dw,PassesOwn→Dx,codeAny_mono→Dz,codeAny→DG,strLen_append→DU,checkBuiltinCall→DW,letOwnedTupleGo→Eg,wpAny_call→Eh,BindsTo→En,Model→Ev,noteFrame→EA,pushCells→EB,rawInt→EC,Sem→ED,behindInMarks→EE,wpAny_holding→EF,OsState→EO,callerA→EQ,ExcBaseFacts→EY,Paired→E1,bindArgs→E2,wpAny_execs_cons→E3,Drawn→Fd,pushCells_keeps→Ff,setFlight→Fh,keywordEach→Fi,wpAny_field→Fj,Result→Fv,isTrue→Fx,newFunctionEnv→FA,notedBy→FB,recursionLimit→FC,wpAny_setField→FD,bindC→FE,bindL→FF,builtinsNs→FG,isInstance→FH,Comprehension→FV,JoinOk→F0,concat_meets→F2,onTheHeap→F3,backToKw→Gi,handleBy→Gj,PyData→GF,StoreFacts→GI,call→GK,sysModules→GL,typeIs_str→GM,wpAny_Name→GN,UnaryOp→GO,IntMulOk→Hg,Params→Hh,codeAny_call_function→QH,noFill_tuple_add→QI,refuseLoop_ref→QJ,wpAny_JoinedStr→QK,wpAny_assign_Name→QL,wpAny_comprehension_free→QM,wpAny_newFunctionEnv_cells→QN,wpAny_newObj_type→QO,wpAny_pyIter_list→QP
open PySem.W renaming findIn→Av,mg_of→AB,keepIn→Be,subIn→Bh,nsIn→Bj,looks_findIn→BJ,fnOf→BL,mg_none_of→BU,fencedOpening→BV,mroIn→BW,kitOne→BZ,specialIn→B0,clsIn→Cj,typeIn→Co,openEnds→CW,codeIn→C2,topFrom→Dh,findCls→Dq,readsIn→Dr,callWith_K→Dy,OpenLaw→DQ,methodObj→EN,kitAny→Fw,excIn→FX,WalkO→Qy,cellsFrom_some→Qz,codeRec_of→QA,isNs_of_in→QB,kIn_of→QC,kitMeta→QD,looks_subIn→QE,nsOkIn→QF,tail_of_in→QG
open PySem.Heap renaming get?_push_of_some→Ax,lt_size→AA,get?_push_size→Bv,get?_update_other→B8,get?_none_of_le→Ci,get?_update_self→Ct,size_push→DF,SameBut→EZ,MadeExcOf→Fu,get?_push_at→Qb,get?_update_ne→Qc
open Nat renaming lt_of_lt_of_le→AF,le_refl→AW,lt_irrefl→Bc,ne_of_lt→Bs,le_trans→BR,le_of_ble_eq_true→Cg,ble→Cn,zero_le→DP,le_of_lt→Ed,lt_of_le_of_lt→Ey,lt_succ_of_lt→EM,mod_eq_of_lt→EX,le_succ→Pe,log2_le_self→Pf,lt_succ_self→Ph,min_self→Pi,ne_of_gt→Pj,not_lt→Pk,succ_mul→Pl
open List renaming mem_cons_of_mem→AG,mem_cons→AS,mem_cons_self→AU,length_set→A1,size_toArray→A3,getElem?_eq_some_iff→A4,mem_append_right→A6,length_cons→A9,mem_singleton→Bp,lookup_cons→BD,getElem?_eq_getElem→BQ,append_nil→B4,getElem?_set_self→B7,length_append→Cf,all_eq_true→Cm,length_map→Cr,getD_eq_getElem?_getD→Cw,isEmpty_eq_false_iff→CA,lookup→CH,range→CT,getElem?_map→CZ,getElem?_append_left→Dp,toArray→Dv,replicate→DC,getElem?_set_self'→DH,all_cons→DR,map_cons→DS,any_eq_true→DV,getElem?_set_ne→Ea,mem_append_left→Eb,nodup_cons→Ec,filterMap_cons→El,getElem_of_mem→Em,contains_cons→Ew,getElem_mem→EV,not_mem_nil→EW,mem_append→Fb,of_mem_zip→Fc,all_map→OZ,any_cons→O0,contains_eq_mem→O1,drop_eq_getElem_cons→O2,drop_eq_nil_of_le→O3,forIn_nil→O4,getElem?_append_right→O5,getElem?_replicate→O6,length_replicate→O7,length_singleton→O8,mem_of_getElem?→O9,mem_range→Pa,reverse_cons→Pb,set_set→Pc,take_append_drop→Pd
open PySem.W.Fast renaming te10274390034422433532→AJ,te14082659384304107361→AK,te14289696077712309145→AL,te14364793385576792824→AM,te1435165496053646825→AO
open False renaming elim→AY
open PySem.Str renaming ofString→A5,empty→CI
open PySem.NameKind renaming cell→Bl,free→Cy
open Option.some renaming inj→BC
open PySem.Value renaming ref→BH,builtin→BK,none→CB,bool→GJ,int→Hc,str→Hd,bytes→Qt,float→Qu,type→Qv
open PySem.F renaming excBase_ValueError→Cb,attr_ValueError→DI,args_tuple_add_2→P5,entry_bexc_ga→P6,entry_tuple_add→P7,slot_str_join→P8,slot_tuple_add→P9,typeOf_object_class→Qa
open PySem.PyData renaming shownAll→Cv,depthAll→Fe,hasDictAll→Qf,showableAll→Qg
open ForInStep renaming yield→CS
open PySem.Obj renaming data_mapFields→CU,mapFields→DT,isFreed_of_fields→D8,mapSeq→Qd
open Ne renaming symm→C1
open PyProof.Rows renaming callWith_type1→C6,envOfC→Db,AllBare→DE,boot_isinstance→Ee,IntsAre→Ft,IsTup→He,boot_list→Pp,boot_tuple→Pq,subscriptTail_builtinR→Pr
open PySem.Calls renaming evalArgs_plain→C7,Name_function_global→Pu,callWith_builtin→Pv
open Int renaming emod_lt_of_pos→Du,emod_nonneg→D9,sub_zero→OY
open Classical renaming choose_spec→D6
open PySem.SeqAt renaming EqAt→Ef,RcNeAt→F1,RcAt→GH
open PySem.Code renaming quiet_builtin→Ez,isFrame→FZ,frames→Pw
open Sum renaming inl→ER,inr→ES
open PySem.Value.ref renaming inj→FW
open PySem.Around renaming under→FY
open PySem.Txt renaming join→Gh
open NeZero renaming ne→Ha
open PySem.Data renaming cell→Hb,seq→Hf
open Array renaming length_toList→OT,toList→OU
open PyProof.Rows.IsTup renaming new→Po
open PySem.Builtin.Int renaming intBits→Ps
open PySem.Builtin.ObjectAttr renaming storeInDict→Pt
open PySem.EntryCells renaming newEntry→Px
open PySem.Expr renaming Attribute→Py,BinOp→PB,BoolOp→PD,Call→PH,Compare→PK,Constant→PM,List→PP,ListComp→PR,Name→PV,Subscript→PY,Tuple→P0,UnaryOp→P2
open PySem.Expr.Attribute renaming elim→Pz
open PySem.Expr.BinOp renaming elim→PC
open PySem.Expr.BoolOp renaming elim→PF
open PySem.Expr.Call renaming elim→PJ
open PySem.Expr.Compare renaming elim→PL
open PySem.Expr.Constant renaming elim→PN
open PySem.Expr.List renaming elim→PQ
open PySem.Expr.ListComp renaming elim→PU
open PySem.Expr.Name renaming elim→PX
open PySem.Expr.Subscript renaming elim→PZ
open PySem.Expr.Tuple renaming elim→P1
open PySem.Expr.UnaryOp renaming elim→P3
open PySem.Paired renaming length→Qe
open PySem.SeqAt.EqAt renaming of_refs→Qh,same→Qi
open PySem.Stmt renaming Assign→Qj,Expr→Ql,Raise→Qp,Return→Qr
open PySem.Stmt.Assign renaming elim→Qk
open PySem.Stmt.Expr renaming elim→Qm
open PySem.Stmt.For renaming elim→Qn
open PySem.Stmt.If renaming elim→Qo
open PySem.Stmt.Raise renaming elim→Qq
open PySem.Stmt.Return renaming elim→Qs
open PySem.W.WData renaming int→Qw
open PySem.W.WShape renaming has→Qx
abbrev Fg:=PySem.W.Frag
set_option genSizeOfSpec false
section
open PySem PySem.W PyProof.Rows
namespace OvC
set_option genInjectivity false in
structure Eleven (P:Prop) where
 (α1 α2 α3 α4 α5 α6 α7 α8 α9 α10 α11:Type)
 (l1 r1:Ar->α1)
 (l2 r2:Ar->α2)
 (l3 r3:Ar->α3)
 (l4 r4:Ar->α4)
 (l5 r5:Ar->α5)
 (l6 r6:Ar->α6)
 (l7 r7:Ar->α7)
 (l8 r8:Ar->α8)
 (l9 r9:Ar->α9)
 (l10 r10:Ar->α10)
 (l11 r11:Ar->α11)
 X:Prop
 go:(∀ w,l1 w=r1 w)->(∀ w,l2 w=r2 w)->(∀ w,l3 w=r3 w)->(∀ w,l4 w=r4 w)->(∀ w,l5 w=r5 w)->(∀ w,l6 w=r6 w)->(∀ w,l7 w=r7 w)->(∀ w,l8 w=r8 w)->(∀ w,l9 w=r9 w)->(∀ w,l10 w=r10 w)->(∀ w,l11 w=r11 w)->X->P
theorem map_pair{Z α β:Type}{A:Z->α}{B:Z->β}{r:An Z}{a:α}{b:β}(h1:DD A r=Aa a)(h2:DD B r=Aa b):DD (λs=>(A s,B s)) r=Aa (a,b):=by
 cases r with
 |none=>cases h1
 |some s=>cases h1;cases h2;rfl
theorem map_take{Z α:Type}{B:Z->Ad α}{r:An Z}{v:Ad α}(n:Ae)(h1:DD (λs=>(B s).take n) r=Aa (v.take n))(h2:DD (λs=>(B s).drop n) r=Aa (v.drop n)):DD B r=Aa v:=by
 cases r with
 |none=>cases h1
 |some s=>
  have e1:(B s).take n=v.take n:=by injection h1
  have e2:(B s).drop n=v.drop n:=by injection h2
  show Aa (B s)=Aa v;rw[<-Pd n (B s),<-Pd n v,e1,e2]
end OvC
namespace OvC
noncomputable def tp09(i:Ae):AC:=PySem.Challenge.pw_ovalfield_k09_refusals_made.main.body.getD i (.Pass ⟨0,0,0,0⟩)
end OvC
noncomputable def OvC.view09:PySem.Program := { PySem.Challenge.pw_ovalfield_k09_refusals_made with main := {PySem.Challenge.pw_ovalfield_k09_refusals_made.main with body:=[OvC.tp09 1,OvC.tp09 2,OvC.tp09 3,OvC.tp09 4,OvC.tp09 5,OvC.tp09 6,OvC.tp09 7,OvC.tp09 8,OvC.tp09 9,OvC.tp09 10,OvC.tp09 11,OvC.tp09 12,OvC.tp09 13,OvC.tp09 14,OvC.tp09 15,OvC.tp09 16,OvC.tp09 18,OvC.tp09 19,OvC.tp09 20,OvC.tp09 21,OvC.tp09 22,OvC.tp09 23,OvC.tp09 24,OvC.tp09 25]} }
set_option hygiene false
local macro_rules | `(tactic| o_head $H) => `(tactic| refine holds_open (q := OvC.view09) (loose := []) (Xt := fun s => xlAt OvC.view09 [] s&&recOk (RowW.records (OpenRow.toRowW (PySem.Challenge.rw_ovalfield_k09_refusals_made.row))) s) (XP := XL OvC.view09 []) (Yf := Hook.obs $H) (Ya := Hook.val $H) (YP := Hook.says $H) (N := 7644) ?hl (Hook.of $H) (Hook.keeps $H) (fun s e => xl_of s (Bool.and_eq_true_iff.mp e).1) XL.keeps (by rfl) (by rfl) (by rfl) (fun s e => recFacts_of (Bool.and_eq_true_iff.mp e).2) (by rfl) (by first|assumption|decide +kernel) (by decide +kernel) ⟨rfl, rfl, rfl, rfl, rfl, by decide +kernel⟩ ?hw ?hc)
set_option maxRecDepth 100000 in
set_option maxHeartbeats 0 in
noncomputable def OvC.hold09:OvC.Eleven PySem.Challenge.rw_ovalfield_k09_refusals_made.Holds:=by
 refine' ⟨_,_,_,_,_,_,_,_,_,_,_,_,_,_,_,_,_,_,_,_,_,_,_,_,_,_,_,_,_,_,_,_,_,_,λg1 g2 g3 g4 g5 g6 g7 g8 g9 g10 g11 x=>_⟩
 rotate_right
 w_on;refine holds_law (by decide+kernel) λsaid => ?_;k_head
 (case hl=>intro w;refine OvC.map_pair ?p1 (OvC.map_take 100 ?p2 ?p3);(case p1=>rw[PySem.W.Fast.te4187177175401517315];unfold PySem.W.Fast.tw4187177175401517315 openGood;refine OvC.map_pair ?q1 (OvC.map_pair ?q2 (OvC.map_pair ?q3 (OvC.map_pair ?q4 (OvC.map_pair ?q5 (OvC.map_pair ?q6 (OvC.map_pair ?q7 (OvC.map_pair ?q8 ?q9)))))));(case q1=>unfold CW BV Dh;rw[AJ,AM,AO,AL,AK];exact g1 w);(case q2=>unfold CW BV Dh;rw[AJ,AM,AO,AL,AK];exact g2 w);(case q3=>unfold CW BV Dh;rw[AJ,AM,AO,AL,AK];exact g3 w);(case q4=>unfold CW BV Dh;rw[AJ,AM,AO,AL,AK];exact g4 w);(case q5=>unfold CW BV Dh;rw[AJ,AM,AO,AL,AK];exact g5 w);(case q6=>unfold CW BV Dh;rw[AJ,AM,AO,AL,AK];exact g6 w);(case q7=>unfold CW BV Dh;rw[AJ,AM,AO,AL,AK];exact g7 w);(case q8=>unfold CW BV Dh;rw[AJ,AM,AO,AL,AK];exact g8 w);(case q9=>unfold CW BV Dh;rw[AJ,AM,AO,AL,AK];exact g9 w);skip);(case p2=>unfold CW BV Dh;rw[AJ,AM,AO,AL,AK];exact g10 w);(case p3=>unfold CW BV Dh;rw[AJ,AM,AO,AL,AK];exact g11 w))
 (case hw=>w_witness2)
 k_fill
 revert said
 exact x
theorem OvC.reck09_1(w:Ar):OvC.hold09.l1 w=OvC.hold09.r1 w:=by kernel_rfl
theorem OvC.reck09_2(w:Ar):OvC.hold09.l2 w=OvC.hold09.r2 w:=by kernel_rfl
theorem OvC.reck09_3(w:Ar):OvC.hold09.l3 w=OvC.hold09.r3 w:=by kernel_rfl
theorem OvC.reck09_4(w:Ar):OvC.hold09.l4 w=OvC.hold09.r4 w:=by kernel_rfl
theorem OvC.reck09_5(w:Ar):OvC.hold09.l5 w=OvC.hold09.r5 w:=by kernel_rfl
theorem OvC.reck09_6(w:Ar):OvC.hold09.l6 w=OvC.hold09.r6 w:=by kernel_rfl
theorem OvC.reck09_7(w:Ar):OvC.hold09.l7 w=OvC.hold09.r7 w:=by kernel_rfl
theorem OvC.reck09_8(w:Ar):OvC.hold09.l8 w=OvC.hold09.r8 w:=by kernel_rfl
theorem OvC.reck09_9(w:Ar):OvC.hold09.l9 w=OvC.hold09.r9 w:=by kernel_rfl
theorem OvC.reck09_10(w:Ar):OvC.hold09.l10 w=OvC.hold09.r10 w:=by kernel_rfl
theorem OvC.reck09_11(w:Ar):OvC.hold09.l11 w=OvC.hold09.r11 w:=by kernel_rfl
end
-- CHANGE: your row's module here, as the last of these rows
namespace L2
open PySem PySem.Spec PyProof.Rows
noncomputable abbrev Key:=Sum Ao Ag
noncomputable def N5:Key->Ah->Aj
 |.inl k,v=>Value.isInt k v
 |.inr x,v=>Value.isStrOf x v
noncomputable def Yy(w:Ar):Key->Ao
 |.inl k=>hashInt k
 |.inr x=>hashStr w x
theorem FJ : ∀{k:Key}{v:Ah},N5 k v=Ab->(∃ i t,k=ER i/\v=Hc i t)\/(∃ x t,k=ES x/\v=Hd x t)
 |.inl i,v,h=>by
  obtain⟨t,e⟩:=Value.isInt_shape (k:=i) (v:=v) h;exact .inl ⟨i,t,rfl,e⟩
 |.inr x,v,h=>by
  obtain⟨t,e⟩:=Value.isStrOf_shape (x:=x) (v:=v) h;exact .inr ⟨x,t,rfl,e⟩
theorem Wj(a b:Ao):decide ((ER a:Key)=ER b)=(a==b):=by
 by_cases e:a=b
 .subst e;simp
 .have h : ¬ (ER a:Key)=ER b:=λq=>e (Sum.inl.inj q)
  rw[BP h];exact(Do.mpr e).symm
theorem Wg(a b:Ag):decide ((ES a:Key)=ES b)=decide (a=b):=by
 by_cases e:a=b
 .subst e;simp
 .have h : ¬ (ES a:Key)=ES b:=λq=>e (Sum.inr.inj q)
  rw[BP h,BP e]
theorem Wi(a:Ao)(b:Ag):decide ((ER a:Key)=ES b)=Ac:=BP (λq=>nomatch q)
theorem Wh(a:Ag)(b:Ao):decide ((ES a:Key)=ER b)=Ac:=BP (λq=>nomatch q)
noncomputable def J3(prog:AE)(w:Ar):PySem.KeyKind prog w Key where
 is:=N5
 hash:=Yy w
 inj:=λv a b ha hb=>by
  rcases FJ ha with ⟨i,t,rfl,rfl⟩|⟨x,t,rfl,rfl⟩
  .rcases FJ hb with ⟨j,u,rfl,e⟩|⟨y,u,rfl,e⟩
   .injection e with e1 _;rw[e1]
   .exact nomatch e
  .rcases FJ hb with ⟨j,u,rfl,e⟩|⟨y,u,rfl,e⟩
   .exact nomatch e
   .injection e with e1 _;rw[e1]
 byValue:=λk v h=>by
  rcases FJ h with ⟨i,t,rfl,rfl⟩|⟨x,t,rfl,rfl⟩ <;> rfl
 pyHash:=λhv h=>by
  rcases FJ hv with ⟨i,t,rfl,rfl⟩|⟨x,t,rfl,rfl⟩
  .exact wpAny_pyHash_int h
  .exact wpAny_pyHash_str h
 eqBool:=λhu hv h=>by
  rcases FJ hu with ⟨i,t,rfl,rfl⟩|⟨x,t,rfl,rfl⟩
  .rcases FJ hv with ⟨j,u,rfl,rfl⟩|⟨y,u,rfl,rfl⟩
   .rw[Wj]at h;exact wpAny_eqBool_int h
   .rw[Wi]at h;exact SeqAt.EqAt.int_str i t y u _ _ _ _ h
  .rcases FJ hv with ⟨j,u,rfl,rfl⟩|⟨y,u,rfl,rfl⟩
   .rw[Wh]at h;exact SeqAt.EqAt.str_int x t j u _ _ _ _ h
   .rw[Wg]at h;exact wpAny_eqBool_str h
 «strs» := λk x t v h=>by
  rcases FJ h with ⟨i,u,rfl,e⟩|⟨y,u,rfl,e⟩
  .exact nomatch e
  .injection e with e1 _
   subst e1;cases v <;> rfl
end L2
namespace L2
open PySem PySem.Spec PyProof.Rows
variable{us:Ad Ah}{a b it:Ai}{P:AE}{h:Ay}{o:AD}{g':Bb CV}{t' i j k n:Ae}{d':Fd}{ch fp:Ad Ai}{x qual:Ag}{M:Ev}{u:Ah}{e tg:Ak}{s:Am}{pos:Az}{pI:Ad (Ai × AD)}{Q:Ah->Am->Prop}{es:Ad Ak}{body:Ad AC}{f:Ah->Ah->ED Ah}{g:Ao->Ao->Ao}{op:Ch}{kw:Ad (Ag × Ah)}{fd:Bn}{ps:Ad Ag}{scope:By}
inductive V where
 |non|bl (b:Aj)|int (i:Ao)|str (x:Ag)|byt (b:Bb UInt8)|flt (b:UInt64)|ref (a:Ai)|ty (n:Ca)
 deriving DecidableEq
variable{xs vs:Ad V}{v y:V}
def Bf:V->Ah->Prop
 |.non,u=>u=CB
 |.bl b,u=>u=GJ b
 |.int i,u => ∃ t,u=Hc i t
 |.str x,u => ∃ t,u=Hd x t
 |.byt b,u => ∃ t,u=Qt b t
 |.flt b,u => ∃ t,u=Qu b t
 |.ref a,u=>u=BH a
 |.ty n,u=>u=Qv n
noncomputable abbrev AR:Ad V->Ad Ah->Prop:=E1 Bf
theorem AR.length(r:AR xs us):xs.length=us.length:=Qe r
theorem AR.get : ∀{xs:Ad V}{us:Ad Ah}{i:Ae}{x:V},AR xs us->xs[i]? = Aa x -> ∃ u,us[i]? = Aa u/\Bf x u
 |_,_,_,_,.nil,e=>by simp at e
 |_,_,0,_,.cons r _,e=>by simp at e;subst e;exact⟨_,rfl,r⟩
 |_,_,i+1,x,.cons _ t,e=>by
  obtain⟨u,h1,h2⟩:=AR.get (i:=i) (x:=x) t (by simpa using e)
  exact⟨u,by simpa using h1,h2⟩
theorem AR.set{x:V}{u:Ah}(r:Bf x u) : ∀{xs:Ad V}{us:Ad Ah}(i:Ae),AR xs us->AR (xs.set i x) (us.set i u)
 |_,_,_,.nil => .nil
 |_,_,0,.cons _ t => .cons r t
 |_,_,i+1,.cons q t => .cons q (AR.set r i t)
theorem AR.append : ∀{xs ys:Ad V}{us ws:Ad Ah},AR xs us->AR ys ws->AR (xs++ys) (us++ws)
 |_,_,_,_,.nil,s=>s
 |_,_,_,_,.cons r t,s => .cons r (AR.append t s)
theorem AR.take : ∀{xs:Ad V}{us:Ad Ah}(n:Ae),AR xs us->AR (xs.take n) (us.take n)
 |_,_,0,_ => .nil
 |_,_,_+1,.nil => .nil
 |_,_,n+1,.cons r t => .cons r (AR.take n t)
theorem AR.drop : ∀{xs:Ad V}{us:Ad Ah}(n:Ae),AR xs us->AR (xs.drop n) (us.drop n)
 |_,_,0,r=>r
 |_,_,_+1,.nil => .nil
 |_,_,n+1,.cons _ t=>AR.drop n t
def HV:An V->An Ah->Prop
 |some v,Aa u=>Bf v u
 |none,Af=>E4
 |_,_=>AT
noncomputable def KV{κ:Type}:Ad (κ × V)->Ad (κ × Ah)->Prop:=E1 fun(p:κ × V)(q:κ × Ah)=>p.1=q.1/\Bf p.2 q.2
noncomputable def kV:Key->V
 |.inl i => .int i
 |.inr x => .str x
inductive HO where
 /-- a list -/
 |lst (xs:Ad V)
 /-- a tuple (never changes) -/
 |tup (xs:Ad V)
 /-- a dict whose keys are ints and texts;one whose keys are tuples of ints and texts (the empty one is both) -/
 |dK (kvs:Ad (Key × V))|dT (kvs:Ad (Ad Key × V))
 /-- a set of ints: its members, its size -/
 |set (S:Ao->Aj) (n:Ae)
 /-- an instance of the class at C, its dict at dx, its attributes -/
 |ins (C dx:Ai) (fs:Ad (Ag × V))
 /-- the dict of the instance at x -/
 |own (x:Ai)
 /-- the dict of an exception -/
 |xd (fs:Ad (Ag × V))
 /-- a bound method, f of x -/
 |met (f x:Ai)
 /-- a range object lo, lo+1, .. below hi -/
 |rng (lo hi:Ao)
 /-- a thing that is known to the object (the script;a dict while a loop walks it): read, never written while it is so -/
 |frz (o:AD) (u:HO)
 /-- a code object's table -/
 |tbl (ps:Bb Ah)
 /-- any other thing, by what is Ab of its one object (a def of one's own: SetO a S n := HO.ext fun h => ..) -/
 |ext (φ:Ay->Prop)
noncomputable abbrev Hp:=Ai->An HO
variable{H:Hp}
noncomputable def upd(H:Hp)(a:Ai)(o:HO):Hp:=λb=>if b=a then Aa o else H b
theorem CY{o:HO}:upd H a o a=Aa o:=by unfold upd;rw[AX rfl]
theorem Ba{o:HO}(h:b≠a):upd H a o b=H b:=by unfold upd;rw[A8 h]
theorem JV{o u:HO}:upd (upd H a o) a u=upd H a u:=by
 funext b;unfold upd;split <;> rfl
theorem DK{o:HO}(h:H a=Aa o)(h':H b=Af):a≠b:=by
 intro e;subst e;rw[h]at h';cases h'
section
variable(P:AE)(w:Ar)
def ObjOk(H:Hp)(h:Ay)(a:Ai):HO->Prop
  |.lst xs=>xs.length<=sizeLine /\ ∃(its:Ad Ah)(n:Ae),AR xs its/\h.get? a=Aa { cls := .type "list",data := .seq its.toArray n }
  |.tup xs=>xs.length<=sizeLine /\ ∃ its:Ad Ah,AR xs its/\He h a its.toArray
  |.dK kvs=>kvs.length<=sizeLine/\(a==GL)=Ac /\ ∃ vs,KV kvs vs/\h.DictOf (J3 P w) a vs
  |.dT kvs=>kvs.length<=sizeLine/\(a==GL)=Ac /\ ∃ xs:Ad (Ad Key × Ai × Ah),
      E1 (fun(p:Ad Key × V)(q:Ad Key × Ai × Ah)=>p.1=q.1/\H q.2.1=Aa (.tup (p.1.map kV))/\Bf p.2 q.2.2) kvs xs /\
      ∃ o es ep,h.get? a=Aa o/\o.ExactDict/\o.data = .dict es ep/\es.toList=xs.map (entryOfKey (tupleKind (J3 P w)))/\(xs.map (·.1)).Nodup
  |.set S n=>h.SetOf (intKind P w) a S n
  |.ins C dx fs=>H dx=Aa (.own a)/\fs.length<=1000/\dx≠a/\h.get? a=Aa (PySem.W.instObj C dx) /\
      ∃ mA,h.Ns1 dx mA/\(∀ f,HV (fs.lookup f) (mA f))/\PySem.Within mA (fs.map (·.1))
  |.own _ => ∃ o,h.get? a=Aa o
  |.xd fs => ∃ mA,h.Ns1 a mA /\ ∀ f,HV (fs.lookup f) (mA f)
  |.rng lo hi => ∃ t u v,h.get? a=Aa { cls := .type "range",data := .fields #[.int lo t,.int hi u,.int 1 v] }
  |.frz o u=>h.get? a=Aa o/\ObjOk H h a u
  |.tbl ps=>h.get? a=Aa {cls := .none,data := .fields ps}
  |.met f x=>h.get? a=Aa (EN (.ref f) (.ref x))
  |.ext φ=>φ h/\(∃ o,h.get? a=Aa o) /\ ∀ h1 h2:Ay,φ h1->(∀ o,h1.get? a=Aa o->h2.get? a=Aa o)->φ h2
noncomputable def HOk(H:Hp)(h:Ay):Prop := ∀ a o,H a=Aa o->ObjOk P w H h a o
end
section
variable{P:AE}{w:Ar}{H H':Hp}{h h':Ay}{a:Ai}{o:HO}
theorem ObjOk.lt(x:ObjOk P w H h a o):a<h.objs.size:=by
 cases o with
 |lst xs=>obtain⟨_,_,_,_,e⟩:=x;exact AA e
 |tup xs=>obtain⟨_,_,_,p⟩:=x;exact p.lt
 |dK kvs=>obtain⟨_,_,_,_,o,_,_,e,_⟩:=x;exact AA e
 |dT kvs=>obtain⟨_,_,_,_,o,_,_,e,_⟩:=x;exact AA e
 |set S n=>obtain⟨o,_,_,_,e,_⟩:=x;exact AA e
 |ins C dx fs=>obtain⟨_,_,_,e,_⟩:=x;exact AA e
 |own y=>obtain⟨_,e⟩:=x;exact AA e
 |xd fs=>obtain⟨_,⟨_,_,_,e,_⟩,_⟩:=x;exact AA e
 |rng lo hi=>obtain⟨_,_,_,e⟩:=x;exact AA e
 |frz ob u=>obtain⟨e,_⟩:=x;exact AA e
 |tbl ps=>exact AA (show h.get? a=Aa _ from x)
 |met f y=>exact AA (show h.get? a=Aa _ from x)
 |ext φ=>obtain⟨_,⟨_,e⟩,_⟩:=x;exact AA e
theorem E1.mapP{α β:Type}{F G:α->β->Prop} : ∀{l₁:Ad α}{l₂:Ad β},E1 F l₁ l₂->(∀ a b,F a b->G a b)->E1 G l₁ l₂
 |_,_,.nil,_ => .nil
 |_,_,.cons r t,f => .cons (f _ _ r) (E1.mapP t f)
theorem ObjOk.stay(x:ObjOk P w H h a o)(k : ∀ b u,(b=a\/H b=Aa (.own a))->h.get? b=Aa u->h'.get? b=Aa u)(ho : ∀ b,H b=Aa (.own a)->H' b=Aa (.own a))(ht : ∀ b xs,H b=Aa (.tup xs)->H' b=Aa (.tup xs)):ObjOk P w H' h' a o:=by
 induction o with
 |lst xs=>obtain⟨z,its,n,r,e⟩:=x;exact⟨z,its,n,r,k _ _ (.inl rfl) e⟩
 |tup xs=>obtain⟨z,its,r,ob,e,c⟩:=x;exact⟨z,its,r,ob,k _ _ (.inl rfl) e,c⟩
 |dK kvs=>obtain⟨z,y,vs,r,ob,es,ep,e,c⟩:=x;exact⟨z,y,vs,r,ob,es,ep,k _ _ (.inl rfl) e,c⟩
 |dT kvs=>
  obtain⟨z,y,xs,r,ob,es,ep,e,c⟩:=x;exact⟨z,y,xs,E1.mapP r λp q z=>⟨z.1,ht _ _ z.2.1,z.2.2⟩,ob,es,ep,k _ _ (.inl rfl) e,c⟩
 |set S n=>obtain⟨ob,es,ep,t,e,c⟩:=x;exact⟨ob,es,ep,t,k _ _ (.inl rfl) e,c⟩
 |ins C dx fs=>
  obtain⟨d,z,ne,e,mA,⟨od,es,ep,e2,c⟩,r⟩:=x;exact⟨ho _ d,z,ne,k _ _ (.inl rfl) e,mA,⟨od,es,ep,k _ _ (.inr d) e2,c⟩,r⟩
 |own y=>obtain⟨ob,e⟩:=x;exact⟨ob,k _ _ (.inl rfl) e⟩
 |xd fs=>obtain⟨mA,⟨od,es,ep,e,c⟩,r⟩:=x;exact⟨mA,⟨od,es,ep,k _ _ (.inl rfl) e,c⟩,r⟩
 |rng lo hi=>obtain⟨t,u,v,e⟩:=x;exact⟨t,u,v,k _ _ (.inl rfl) e⟩
 |frz ob u ih=>obtain⟨e,q⟩:=x;exact⟨k _ _ (.inl rfl) e,ih q⟩
 |tbl ps=>
  have e:h.get? a=Aa {cls := .none,data := .fields ps}:=x;show h'.get? a=Aa {cls := .none,data := .fields ps};exact k a _ (.inl rfl) e
 |met f y=>
  have e:h.get? a=Aa (EN (.ref f) (.ref y)):=x;show h'.get? a=Aa (EN (.ref f) (.ref y));exact k a _ (.inl rfl) e
 |ext φ=>obtain⟨p,⟨o,e⟩,st⟩:=x;exact⟨st _ _ p λo q=>k _ _ (.inl rfl) q,⟨o,k _ _ (.inl rfl) e⟩,st⟩
theorem HOk.lt(x:HOk P w H h)(e:H a=Aa o):a<h.objs.size:=(x a o e).lt
theorem HOk.fresh(x:HOk P w H h)(e:h.objs.size<=a):H a=Af:=by
 cases q:H a with
 |none=>rfl
 |some u=>exact absurd (AF (x.lt q) e) (Bc _)
theorem HOk.kept(x:HOk P w H h)(k : ∀ b u,h.get? b=Aa u->h'.get? b=Aa u):HOk P w H h':=λa o e=>
 (x a o e).stay (λb u _ q=>k b u q) (λ_ q=>q) λ_ _ q=>q
theorem HOk.laid(x:HOk P w H h)(k : ∀ b u,h.get? b=Aa u->h'.get? b=Aa u)(hp:h.objs.size<=a)(new:ObjOk P w (upd H a o) h' a o):HOk P w (upd H a o) h':=λb u e=>by
 have hn:=x.fresh hp;by_cases hb:b=a
 .subst hb;rw[CY]at e;cases e;exact new
 .rw[Ba hb]at e;exact(x b u e).stay (λc v _ q=>k c v q) (λc q=>by rw[Ba (DK q hn)];exact q) λc xs q=>by rw[Ba (DK q hn)];exact q
end
noncomputable def Rd(H:Hp)(a:Ai)(u:HO):Prop:=H a=Aa u \/ ∃ o,H a=Aa (.frz o u)
theorem Rd.ok{w:Ar}{u:HO}(r:Rd H a u)(x:HOk P w H h):ObjOk P w H h a u:=by
 rcases r with r|⟨o,r⟩
 .exact x a u r
 .obtain⟨_,q⟩:=x a _ r;exact q
def Mut:An HO->Prop
 |some (.lst _)=>E4
 |some (.dK _)=>E4
 |some (.dT _)=>E4
 |some (.set _ _)=>E4
 |some (.ins _ _ _)=>E4
 |some (.ext _)=>E4
 |_=>AT
section
variable{P:AE}{w:Ar}{H:Hp}{h h':Ay}{x e:Ai}{o':HO}
theorem HOk.write(ok:HOk P w H h)(mu:Mut (H x))(he:e=x\/H e=Aa (.own x))(k : ∀ b u,b≠e->h.get? b=Aa u->h'.get? b=Aa u)(heo : ∃ u,h'.get? e=Aa u)(new:ObjOk P w (upd H x o') h' x o'):HOk P w (upd H x o') h':=λb u q=>by
 have nown : ∀ c y,H c=Aa (.own y)->c≠x:=λc y r z=>by subst z;rw[r]at mu;exact mu
 have ntup : ∀ c xs,H c=Aa (.tup xs)->c≠x:=λc xs r z=>by subst z;rw[r]at mu;exact mu
 by_cases hb:b=x
 .subst hb;rw[CY]at q;cases q;exact new
 .rw[Ba hb]at q;by_cases hbe:b=e
  .have q':H b=Aa (.own x):=by
    rcases he with z|z
    .exact absurd (hbe.trans z) hb
    .rw[hbe];exact z
   rw[q]at q';cases q';obtain⟨v,hv⟩:=heo;exact⟨v,by rw[hbe];exact hv⟩
  .refine(ok b u q).stay (λc v hc r=>k c v ?_ r) (λc r=>by rw[Ba (nown c b r)];exact r) λc xs r=>by rw[Ba (ntup c xs r)];exact r
   rcases hc with rfl|hc
   .exact hbe
   .rintro rfl;rcases he with z|z
    .exact nown c b hc z
    .rw[hc]at z;cases z;exact hb rfl
end
structure Un (fs ex:Ad Ai) (H H':Hp) (h h':Ay):Prop where
 keep : ∀ b o,h.get? b=Aa o->H b=Af->b ∉ fs->b ∉ ex->h'.get? b=Aa o
 slot : ∀ b o,h.get? b=Aa o->H b=Af->b∈fs->b ∉ ex -> ∃ sl,h'.get? b=Aa {o with slots:=sl}
 free : ∀ b o,h.get? b=Aa o->H b=Af->b ∉ ex->H' b=Af
 there : ∀ b o,h.get? b=Aa o->b ∉ ex -> ∃ o',h'.get? b=Aa o'
 tups : ∀ b xs,H b=Aa (.tup xs)->H' b=Aa (.tup xs)
 frzs : ∀ b o u,H b=Aa (.frz o u)->H' b=Aa (.frz o u)
 tbls : ∀ b ps,H b=Aa (.tbl ps) -> ∃ more,H' b=Aa (.tbl (ps++more))
section
variable{fs fs' ex ex':Ad Ai}{H H1 H2:Hp}{h h1 h2 h':Ay}{a x e:Ai}{o:HO}
theorem Un.any(u:Un fs ex H H1 h h1){ob:AD}(q:h.get? b=Aa ob)(n:H b=Af)(hx:b ∉ ex) : ∃ sl,h1.get? b=Aa {ob with slots:=sl}:=by
 by_cases hb:b∈fs
 .exact u.slot b ob q n hb hx
 .exact⟨ob.slots,u.keep b ob q n hb hx⟩
theorem Un.kept(k : ∀ b u,h.get? b=Aa u->h'.get? b=Aa u):Un fs ex H H h h':=
 ⟨λb ob q _ _ _=>k b ob q,λb ob q _ _ _=>⟨ob.slots,k b ob q⟩,λ_ _ _ n _=>n,λb ob q _=>⟨ob,k b ob q⟩,λ_ _ q=>q,λ_ _ _ q=>q,λ_ ps q=>⟨#[],by rw[q];simp⟩⟩
theorem Un.refl:Un fs ex H H h h:=Un.kept λ_ _ q=>q
theorem Un.laid(k : ∀ b u,h.get? b=Aa u->h'.get? b=Aa u)(hp:h.objs.size<=a)(hn:H a=Af):Un fs ex H (upd H a o) h h' where
 keep:=λb u q _ _ _=>k b u q
 slot:=λb u q _ _ _=>⟨u.slots,k b u q⟩
 free:=λb u q n _=>by rw[Ba (Bs (AF (AA q) hp))];exact n
 there:=λb u q _=>⟨u,k b u q⟩
 tups:=λb xs q=>by rw[Ba (DK q hn)];exact q
 frzs:=λb u xs q=>by rw[Ba (DK q hn)];exact q
 tbls:=λb ps q=>⟨#[],by rw[Ba (DK q hn),q];simp⟩
theorem Un.write(mu:Mut (H x))(he:e=x\/H e=Aa (.own x))(k : ∀ b u,b≠e->h.get? b=Aa u->h'.get? b=Aa u)(heo : ∃ u,h'.get? e=Aa u):Un fs ex H (upd H x o) h h':=by
 have hx : ∀ b,H b=Af->b≠x:=λb n z=>by subst z;rw[n]at mu;exact mu
 have hb : ∀ b,H b=Af->b≠e:=λb n z=>by
  subst z;rcases he with r|r
  .exact hx b n r
  .rw[n]at r;cases r
 have hm : ∀ b u,H b=Aa u -> ¬ Mut (Aa u)->b≠x:=λb u q nm z=>by subst z;rw[q]at mu;exact nm mu
 refine⟨λb u q n _ _=>k b u (hb b n) q,λb u q n _ _=>⟨u.slots,k b u (hb b n) q⟩,λb u q n _=>by rw[Ba (hx b n)];exact n,λb u q _ => ?_,
  λb xs q=>by rw[Ba (hm b _ q λz=>z)];exact q,λb u xs q=>by rw[Ba (hm b _ q λz=>z)];exact q,λb ps q=>⟨#[],by rw[Ba (hm b _ q λz=>z),q];simp⟩⟩
 by_cases hbe:b=e
 .subst hbe;exact heo
 .exact⟨u,k b u hbe q⟩
end
noncomputable def trk(h:Ay)(H:Hp):Ad Ai:=(CT h.objs.size).filter λa=>(H a).isSome
noncomputable def FT(h:Ay)(H:Hp):Ay:=PySem.W.hideAll h (trk h H)
theorem Rg(h:Ay)(H:Hp):(FT h H).objs.size=h.objs.size:=PySem.W.hideAll_size _ _
theorem SD(e:h.get? b=Aa o)(n:H b=Af):(FT h H).get? b=Aa o:=
 PySem.W.hideAll_get _ e λhm=>by
  have q:(H b).isSome=Ab:=(List.mem_filter.mp hm).2;rw[n]at q;simp at q
theorem TX(e:(FT h H).get? b=Aa o):h.get? b=Aa o/\H b=Af:=by
 have e':h.get? b=Aa o:=PySem.W.of_hideAll (trk h H) e;refine⟨e',?_⟩;cases q:H b with
 |none=>rfl
 |some x=>
  have hm:b∈trk h H:=List.mem_filter.mpr ⟨Pa.mpr (AA e'),by simp[q]⟩
  have z:(FT h H).get? b=Af:=PySem.W.hideAll_none (trk h H) hm;rw[z]at e;cases e
noncomputable def UC(g h:Ay)(L:Ai):Ad (Ai × AD):=(CT h.objs.size).filterMap λa=>if a=L\/(g.get? a).isSome=Ab then Af else (h.get? a).map λo=>(a,o)
noncomputable def Bi(g h:Ay)(L d:Ai):Ad (Ai × AD):=(UC g h L).filter λp=>decide (p.1≠d)
structure Mod (K:Fg) (mg:Ag->An Ah) (base:Ay):Prop where
 kin:K.In base
 glob:base.Ns AV mg
 blt : ∃ mb,base.Ns FG mb /\ ∀ x:Ag,x ≠ "__name__" -> mb x=B9 x
 nolimit:base.NoLimit
structure Cx where
 prog:AE
 w:Ar
 K:Fg
 mg:Ag->An Ah
 base:Ay
 A:AN
 N:Ad Ag
 s₀:Am
 H₀:Hp
 env:BF
 outer:Ad BF
 stack:Ad BF
 ex:Ad Ai
 fn:Ag->Aj
 calm:Aj
 pn:Ad (Ai × AD)
 xe:Ah->Am->Prop
variable{X:Cx}
noncomputable def frs(l:Ad BF):Ad Ai:=l.filterMap (·.frame)
noncomputable abbrev Cx.fs(X:Cx):Ad Ai:=frs X.outer
noncomputable def Vis(sc:By)(x:Ag):Prop:=sc.names.lookup x=Aa .local\/sc.names.lookup x=Aa .cell\/sc.names.lookup x=Aa .free
noncomputable def Loc(sc:By)(x:Ag):Prop:=sc.names.lookup x=Aa .local\/sc.names.lookup x=Aa .cell
noncomputable def Yv(env:BF)(h:Ay)(m:Ag->An Ah)(x:Ag)(u:Ah):Prop:=
 (env.kindOf x=Aa .local/\m x=Aa u)\/((env.kindOf x=Aa .cell\/env.kindOf x=Aa .free) /\ ∃ c,env.cells.lookup x=Aa c/\h.IsCell c (Aa u))
structure Cx.Ok (X:Cx):Prop where
 mod:Mod X.K X.mg X.base
 kind:X.env.scope.kind = .function
 glob:X.env.globals=AV
 blt:X.env.builtins=FG
 above:X.s₀.heap.objs.size<=X.env.locals
 inj : ∀ x y c,X.env.cells.lookup x=Aa c->X.env.cells.lookup y=Aa c->x=y
 has : ∀ x,(X.env.kindOf x=Aa .cell\/X.env.kindOf x=Aa .free) -> ∃ c,X.env.cells.lookup x=Aa c
 cab : ∀ x c,X.fn x=Ab->X.env.cells.lookup x=Aa c->X.s₀.heap.objs.size<=c
 hd:X.calm=Ab->X.A.handled=Af
 frames:X.A.frames=Aa X.stack
 stk:X.stack=X.outer\/(X.stack=X.env::X.outer/\X.env.frame=Aa X.env.locals)
 exf : ∀ b∈X.ex,b≠X.env.locals /\ ∀ x c,X.env.cells.lookup x=Aa c->c≠b
 bs : ∀ b o,X.base.get? b=Aa o->X.s₀.heap.get? b=Aa o/\X.H₀ b=Af
 bsz:X.base.objs.size<=X.s₀.heap.objs.size
 noex : ∀ b o,X.base.get? b=Aa o->b ∉ X.ex
 exfs : ∀ b∈X.ex,b ∉ X.fs
 funs:X.s₀.heap.FunFrames X.base X.outer
 frf : ∀ b∈X.fs,X.H₀ b=Af
structure Inv (X:Cx) (pI:Ad (Ai × AD)) (Z:Ad (An V)) (H:Hp) (s:Am):Prop where
 ok:X.Ok
 os:s.os=X.s₀.os
 bare:DE s.gens
 base:Un X.fs X.ex X.H₀ H X.s₀.heap s.heap
 loc : ∃ m,s.heap.Ns X.env.locals m /\ ∀(i:Ae)(x:Ag)(v:V),X.N[i]? = Aa x->Z[i]? = Aa (Aa v)->Vis X.env.scope x -> ∃ u,Bf v u/\Yv X.env s.heap m x u
 cell : ∀ x c,X.env.cells.lookup x=Aa c -> ∃ v,s.heap.IsCell c v
 free:H X.env.locals=Af
 freeC : ∀ x c,X.env.cells.lookup x=Aa c->H c=Af
 pin : ∀ p∈X.pn++pI,s.heap.get? p.1=Aa p.2/\H p.1=Af/\p.1≠X.env.locals/\p.1 ∉ X.fs /\ ∀ v,p.2.data ≠ .cell v
 hok:HOk X.prog X.w H s.heap
 len:Z.length=X.N.length
section
variable{X:Cx}{pI:Ad (Ai × AD)}{Z:Ad (An V)}{H H':Hp}{s:Am}{h':Ay}
theorem Cx.Ok.nofr(ok:X.Ok)(e:X.base.get? b=Aa o):b ∉ X.fs:=λhb=>by
 have:=(ok.funs.mem hb).1;rw[e]at this;cases this
theorem Inv.bs(I:Inv X pI Z H s) : ∀ b o,X.base.get? b=Aa o->s.heap.get? b=Aa o/\H b=Af:=λb o e=>
 ⟨I.base.keep b o (I.ok.bs b o e).1 (I.ok.bs b o e).2 (I.ok.nofr e) (I.ok.noex b o e),I.base.free b o (I.ok.bs b o e).1 (I.ok.bs b o e).2 (I.ok.noex b o e)⟩
theorem Inv.bk(I:Inv X pI Z H s) : ∀ b o,X.base.get? b=Aa o->s.heap.get? b=Aa o:=λb o e=>(I.bs b o e).1
theorem Inv.mod(I:Inv X pI Z H s):Mod X.K X.mg X.base:=I.ok.mod
theorem Inv.kIn(I:Inv X pI Z H s):X.K.In s.heap:=I.ok.mod.kin.keeps I.bk
theorem Inv.lt(I:Inv X pI Z H s):X.env.locals<s.heap.objs.size:=let ⟨_,hn,_⟩:=I.loc;hn.lt
theorem Inv.sz(I:Inv X pI Z H s):X.s₀.heap.objs.size<=s.heap.objs.size:=BR I.ok.above (Ed I.lt)
theorem Inv.nofs(I:Inv X pI Z H s)(h:s.heap.objs.size<=a):a ∉ X.fs:=λhb=>by
 obtain⟨_,o,ho,_⟩:=I.ok.funs.mem hb;exact absurd (AF (AA ho) (BR I.sz h)) (Bc _)
theorem Inv.cne(I:Inv X pI Z H s) : ∀ x c,X.env.cells.lookup x=Aa c->c≠X.env.locals:=λx c e z=>by
 obtain⟨v,o,ho,hd⟩:=I.cell x c e;obtain⟨m,⟨o',es,ep,ho',hd',_⟩,_⟩:=I.loc;rw[z,ho']at ho;cases ho;rw[hd']at hd;cases hd
theorem Inv.funs(I:Inv X pI Z H s):s.heap.FunFrames X.base X.outer:=by
 have all : ∀(l:Ad BF),(∀ b∈frs l,b∈X.fs)->X.s₀.heap.FunFrames X.base l->s.heap.FunFrames X.base l:=by
  intro l
  induction l with
  |nil=>intro _ _;trivial
  |cons env r ih=>
   intro hs hl;obtain⟨hk,⟨L,o,hf,hn,ho,hd⟩,hr⟩:=hl;have hL:L∈X.fs:=hs L (by unfold frs;rw[El,hf];exact AU)
   obtain⟨sl,e⟩:=I.base.slot L o ho (I.ok.frf L hL) hL λz=>I.ok.exfs L z hL
   exact⟨hk,⟨L,_,hf,hn,e,hd⟩,ih (λb hb=>hs b (by unfold frs;rw[El,hf];exact AG _ hb)) hr⟩
 exact all X.outer (λ_ hb=>hb) I.ok.funs
theorem Inv.stack(I:Inv X pI Z H s):s.heap.FunFrames X.base X.stack:=by
 rcases I.ok.stk with e|⟨e,hf⟩
 .rw[e];exact I.funs
 .rw[e];obtain⟨m,hn,_⟩:=I.loc;refine .cons (by rw[I.ok.kind];decide) hf hn ?_ I.funs
  exact Ci (BR I.ok.bsz I.ok.above)
theorem Inv.stkSub(I:Inv X pI Z H s) : ∀ b∈frs X.stack,b∈X.env.locals::X.fs:=λb hb=>by
 rcases I.ok.stk with e|⟨e,hf⟩
 .rw[e]at hb;exact AG _ hb
 .rw[e]at hb;unfold frs at hb;rw[El,hf]at hb;exact hb
theorem Inv.stkFree(I:Inv X pI Z H s) : ∀ b∈frs X.stack,H b=Af:=λb hb=>by
 rcases AS.mp (I.stkSub b hb) with e|hb
 .rw[e];exact I.free
 .obtain⟨_,o,ho,_⟩:=I.ok.funs.mem hb;exact I.base.free b o ho (I.ok.frf b hb) λz=>I.ok.exfs b z hb
theorem Inv.step(I:Inv X pI Z H s)(hch : ∀ b∈ch,(b∈X.ex\/X.s₀.heap.objs.size<=b)/\b≠X.env.locals/\(∀ x c,X.env.cells.lookup x=Aa c->c≠b) /\ ∀ p∈X.pn++pI,p.1≠b)(keep : ∀ b o,b≠X.env.locals->b ∉ X.fs->b ∉ ch->s.heap.get? b=Aa o->H b=Af->h'.get? b=Aa o)(slot : ∀ b o,b≠X.env.locals->b∈X.fs->b ∉ ch->s.heap.get? b=Aa o->H b=Af -> ∃ sl,h'.get? b=Aa {o with slots:=sl})(free : ∀ b o,b ∉ ch->s.heap.get? b=Aa o->H b=Af->H' b=Af)(there : ∀ b o,b ∉ ch->s.heap.get? b=Aa o -> ∃ o',h'.get? b=Aa o')(tups : ∀ b xs,H b=Aa (.tup xs)->H' b=Aa (.tup xs))(frzs : ∀ b o u,H b=Aa (.frz o u)->H' b=Aa (.frz o u))(tbls : ∀ b ps,H b=Aa (.tbl ps) -> ∃ more,H' b=Aa (.tbl (ps++more)))(ns : ∀ m,s.heap.Ns X.env.locals m->h'.Ns X.env.locals m)(hok:HOk X.prog X.w H' h')(hg:DE g'):Inv X pI Z H' {s with heap:=h',gens:=g',drawn:=d',toks:=t'}:=by
 have neL : ∀ b o,X.s₀.heap.get? b=Aa o->b≠X.env.locals:=λb o e=>Bs (AF (AA e) I.ok.above)
 have neC : ∀ b o,X.s₀.heap.get? b=Aa o->b ∉ X.ex->b ∉ ch:=λb o e hx hb=>by
  rcases (hch b hb).1 with z|z
  .exact hx z
  .exact absurd (AF (AA e) z) (Bc _)
 have cellK : ∀ x c,X.env.cells.lookup x=Aa c -> ∀ v,s.heap.IsCell c v->h'.IsCell c v:=λx c e v ⟨o,ho,hd⟩=>by
  have nch:c ∉ ch:=λz=>(hch c z).2.2.1 x c e rfl
  by_cases hc:c∈X.fs
  .obtain⟨sl,q⟩:=slot c o (I.cne x c e) hc nch ho (I.freeC x c e);exact⟨_,q,hd⟩
  .exact⟨o,keep c o (I.cne x c e) hc nch ho (I.freeC x c e),hd⟩
 refine⟨I.ok,I.os,hg,⟨λb o e n hb hx => ?_,λb o e n hb hx => ?_,λb o e n hx => ?_,λb o e hx => ?_,λb xs e=>tups b xs (I.base.tups b xs e),λb o xs e=>frzs b o xs (I.base.frzs b o xs e),λb ps e => ?_⟩,?_,λx c e => ?_,?_,λx c e => ?_,λp hp => ?_,hok,I.len⟩
 .exact keep b o (neL b o e) hb (neC b o e hx) (I.base.keep b o e n hb hx) (I.base.free b o e n hx)
 .obtain⟨sl,e1⟩:=I.base.slot b o e n hb hx;obtain⟨sl',e2⟩:=slot b _ (neL b o e) hb (neC b o e hx) e1 (I.base.free b o e n hx);exact⟨sl',e2⟩
 .obtain⟨o',e1⟩:=I.base.there b o e hx;exact free b o' (neC b o e hx) e1 (I.base.free b o e n hx)
 .obtain⟨o',e1⟩:=I.base.there b o e hx;exact there b o' (neC b o e hx) e1
 .obtain⟨m1,e1⟩:=I.base.tbls b ps e;obtain⟨m2,e2⟩:=tbls b _ e1;exact⟨m1++m2,by rw[e2,Array.append_assoc]⟩
 .obtain⟨m,hn,hl⟩:=I.loc;refine⟨m,ns m hn,λi x v e1 e2 e3 => ?_⟩
  obtain⟨u,r,l⟩:=hl i x v e1 e2 e3;refine⟨u,r,?_⟩;rcases l with l|⟨k,c,e,z⟩
  .exact .inl l
  .exact .inr ⟨k,c,e,cellK x c e _ z⟩
 .obtain⟨v,z⟩:=I.cell x c e;exact⟨v,cellK x c e v z⟩
 .obtain⟨m,⟨o,_,_,ho,_⟩,_⟩:=I.loc;exact free _ o (λz=>(hch _ z).2.1 rfl) ho I.free
 .obtain⟨v,o,ho,hd⟩:=I.cell x c e;exact free c o (λz=>(hch c z).2.2.1 x c e rfl) ho (I.freeC x c e)
 .obtain⟨e,n,ne,nf,d⟩:=I.pin p hp;have nch:p.1 ∉ ch:=λz=>(hch p.1 z).2.2.2 p hp rfl
  exact⟨keep p.1 p.2 ne nf nch e n,free p.1 p.2 nch e n,ne,nf,d⟩
theorem Inv.un(I:Inv X pI Z H s)(u:Un X.fs [] H H' s.heap h')(hok:HOk X.prog X.w H' h'):Inv X pI Z H' {s with heap:=h',toks:=t'}:=by
 obtain⟨m,⟨o,es,ep,ho,r⟩,_⟩:=id I.loc;obtain⟨sl,hL⟩:=u.any ho I.free (by simp)
 exact I.step (g':=s.gens) (d':=s.drawn) (ch:=[]) (λ_ z=>nomatch z) (λb o _ hb _ e n=>u.keep b o e n hb (by simp)) (λb o _ hb _ e n=>u.slot b o e n hb (by simp)) (λb o _ e n=>u.free b o e n (by simp)) (λb o _ e=>u.there b o e (by simp)) u.tups u.frzs u.tbls (λm' hm=>by
  obtain⟨o',es',ep',ho',r'⟩:=hm;rw[ho]at ho';cases ho';exact⟨_,es',ep',hL,r'⟩) hok I.bare
theorem Inv.call(I:Inv X pI Z H s)(u:Un (frs X.stack) ch H H' s.heap h')(hok:HOk X.prog X.w H' h')(hg:DE g')(hch : ∀ b∈ch,(b∈X.ex\/X.s₀.heap.objs.size<=b)/\b≠X.env.locals/\(∀ x c,X.env.cells.lookup x=Aa c->c≠b) /\ ∀ p∈X.pn++pI,p.1≠b):Inv X pI Z H' {s with heap:=h',gens:=g',drawn:=d',toks:=t'}:=by
 obtain⟨m,⟨o,es,ep,ho,r⟩,_⟩:=id I.loc;obtain⟨sl,hL⟩:=u.any ho I.free λz=>(hch _ z).2.1 rfl
 exact I.step (ch:=ch) hch (λb o hL hb hc e n=>u.keep b o e n (λz=>(AS.mp (I.stkSub b z)).elim hL hb) hc) (λb o _ _ hc e n=>u.any e n hc) (λb o hc e n=>u.free b o e n hc) (λb o hc e=>u.there b o e hc) u.tups u.frzs u.tbls (λm' hm=>by
  obtain⟨o',es',ep',ho',r'⟩:=hm;rw[ho]at ho';cases ho';exact⟨_,es',ep',hL,r'⟩) hok hg
theorem Inv.turned(I:Inv X pI Z H s)(k : ∀ b o,b≠it->s.heap.get? b=Aa o->h'.get? b=Aa o)(hn:H it=Af)(hL:it≠X.env.locals)(h1:it∈X.ex\/X.s₀.heap.objs.size<=it)(h2 : ∀ x c,X.env.cells.lookup x=Aa c->c≠it)(h3 : ∀ p∈X.pn++pI,p.1≠it):Inv X pI Z H {s with heap:=h',toks:=t'}:=by
 have nit : ∀ b u,H b=Aa u->b≠it:=λb u e z=>by rw[z,hn]at e;cases e
 refine I.step (g':=s.gens) (d':=s.drawn) (ch:=[it]) (λb hb => ?_) (λb o _ _ hc e _=>k b o (λz=>hc (by simp[z])) e) (λb o _ _ hc e _=>⟨o.slots,k b o (λz=>hc (by simp[z])) e⟩) (λ_ _ _ _ n=>n)
  (λb o hc e=>⟨o,k b o (λz=>hc (by simp[z])) e⟩) (λ_ _ e=>e) (λ_ _ _ e=>e) (λb ps e=>⟨#[],by rw[e];simp⟩) (λm hm => ?_) (λb u e => ?_) I.bare
 .have e:b=it:=by simpa using hb
  subst e;exact⟨h1,hL,h2,h3⟩
 .obtain⟨o,es,ep,ho,r⟩:=hm;exact⟨o,es,ep,k _ o (C1 hL) ho,r⟩
 .refine(I.hok b u e).stay (λc v hc q=>k c v ?_ q) (λ_ q=>q) λ_ _ q=>q
  rcases hc with z|z
  .rw[z];exact nit b u e
  .exact nit c _ z
theorem Inv.tok(I:Inv X pI Z H s)(t:Ae):Inv X pI Z H {s with toks:=t}:=I.un (h':=s.heap) (t':=t) Un.refl I.hok
theorem Inv.kept{t':Ae}(I:Inv X pI Z H s)(k : ∀ b u,s.heap.get? b=Aa u->h'.get? b=Aa u):Inv X pI Z H {s with heap:=h',toks:=t'}:=I.un (Un.kept k) (I.hok.kept k)
theorem Inv.laid{a:Ai}{o:HO}{t':Ae}(I:Inv X pI Z H s)(k : ∀ b u,s.heap.get? b=Aa u->h'.get? b=Aa u)(hp:s.heap.objs.size<=a)(new:ObjOk X.prog X.w (upd H a o) h' a o):Inv X pI Z (upd H a o) {s with heap:=h',toks:=t'}:=I.un (Un.laid k hp (I.hok.fresh hp)) (I.hok.laid k hp new)
theorem Inv.write{x e:Ai}{o:HO}{t':Ae}(I:Inv X pI Z H s)(mu:Mut (H x))(he:e=x\/H e=Aa (.own x))(k : ∀ b u,b≠e->s.heap.get? b=Aa u->h'.get? b=Aa u)(heo : ∃ u,h'.get? e=Aa u)(new:ObjOk X.prog X.w (upd H x o) h' x o):Inv X pI Z (upd H x o) {s with heap:=h',toks:=t'}:=I.un (Un.write mu he k heo) (I.hok.write mu he k heo new)
theorem Inv.pins_of{pins':Ad (Ai × AD)}(I:Inv X pI Z H s)(h : ∀ p∈pins',s.heap.get? p.1=Aa p.2/\H p.1=Af/\p.1≠X.env.locals/\p.1 ∉ X.fs /\ ∀ v,p.2.data ≠ .cell v):Inv X pins' Z H s:=
 ⟨I.ok,I.os,I.bare,I.base,I.loc,I.cell,I.free,I.freeC,λp hp=>(Fb.mp hp).elim (λz=>I.pin p (Eb _ z)) (h p),I.hok,I.len⟩
theorem JE{N:Ad Ag}(hN:N.Nodup)(a:N[i]? = Aa x)(b:N[j]? = Aa x):i=j:=by
 obtain⟨h1,e1⟩:=A4.mp a;obtain⟨h2,e2⟩:=A4.mp b;exact(List.getElem_inj hN).mp (e1.trans e2.symm)
theorem LZ{A:AN}{E:Ah->Am->Prop}{Q:Dj->Am->Prop}(I:Inv X pI Z H s)(hN:X.N.Nodup)(hi:X.N[i]? = Aa x)(hx:Loc X.env.scope x)(r:Bf v u)(h : ∀ s',Inv X pI (Z.set i (Aa v)) H s'->(∃ a,EZ a s.heap s'.heap/\(a=X.env.locals\/X.env.cells.lookup x=Aa a))->Q () s')(hf:X.fn x=Ab\/X.env.scope.names.lookup x=Aa .local:=by first|exact .inl rfl|exact .inr rfl|assumption):As M A (storeName X.env x u) Q E s:=by
 obtain⟨m,hn,hl⟩:=id I.loc;have hcls:(X.env.scope.kind==.class||(X.env.scope.kind==.module&&X.env.locals != X.env.globals))=Ac:=by rw[I.ok.kind];rfl
 have hiσ:i<Z.length:=by rw[I.len];exact(A4.mp hi).1
 have cne:=I.cne;have tracked : ∀{a:Ai}{h':Ay},(∃ o,s.heap.get? a=Aa o/\H a=Af)->EZ a s.heap h'->HOk X.prog X.w H h':=λ{a h'} ha hs b ob e=>by
  obtain⟨_,_,hfree⟩:=ha;refine(I.hok b ob e).stay (λc w' hc q=>(hs.2 c ?_).trans q) (λ_ q=>q) λ_ _ q=>q
  rintro rfl;rcases hc with rfl|hc
  .rw[hfree]at e;cases e
  .rw[hfree]at hc;cases hc
 rcases hx with hk|hk
 .refine wpAny_storeName_local hk hn (λh' hn' hs => ?_) hcls
  obtain⟨oL,_,_,hoL,_⟩:=id hn;refine h _ ⟨I.ok,I.os,I.bare,⟨λb o e n hb hx => ?_,λb o e n hb hx => ?_,I.base.free,λb o e hx => ?_,I.base.tups,I.base.frzs,I.base.tbls⟩,⟨_,hn',λj y v' e1 e2 e3 => ?_⟩,λy c e => ?_,I.free,I.freeC,λp hp => ?_,tracked ⟨oL,hoL,I.free⟩ hs,by simpa using I.len⟩ ⟨_,hs,.inl rfl⟩
  .exact(hs.2 b (Bs (AF (AA e) I.ok.above))).trans (I.base.keep b o e n hb hx)
  .obtain⟨sl,e1⟩:=I.base.slot b o e n hb hx;exact⟨sl,(hs.2 b (Bs (AF (AA e) I.ok.above))).trans e1⟩
  .obtain⟨o',e1⟩:=I.base.there b o e hx;exact⟨o',(hs.2 b (Bs (AF (AA e) I.ok.above))).trans e1⟩
  .by_cases hj:j=i
   .subst hj;rw[hi]at e1;cases e1;rw[B7 hiσ]at e2;cases e2;exact⟨u,r,.inl ⟨hk,by simp⟩⟩
   .rw[Ea (C1 hj)]at e2;obtain⟨u',r',q⟩:=hl j y v' e1 e2 e3;refine⟨u',r',?_⟩;rcases q with ⟨k,e⟩|⟨k,c,e,z⟩
    .refine .inl ⟨k,?_⟩;have:y≠x:=λe=>hj (JE hN e1 (e ▸ hi))
     simp[this,e]
    .exact .inr ⟨k,c,e,z.sameBut hs (cne y c e)⟩
  .obtain⟨w',z⟩:=I.cell y c e;exact⟨w',z.sameBut hs (cne y c e)⟩
  .obtain⟨e,n,ne,nf,d⟩:=I.pin p hp;exact⟨(hs.2 p.1 ne).trans e,n,ne,nf,d⟩
 .have hfn:X.fn x=Ab:=by
   rcases hf with z|z
   .exact z
   .rw[z]at hk;cases hk
  obtain⟨c,hc⟩:=I.ok.has x (.inl hk);obtain⟨w',z⟩:=I.cell x c hc;refine wpAny_storeName_cell I.ok.kind hk hc z (λh' hc' hs => ?_)
  obtain⟨oc,hoc,hocd⟩:=id z;refine h {s with heap:=h'} ⟨I.ok,I.os,I.bare,⟨λb o e n hb hx => ?_,λb o e n hb hx => ?_,I.base.free,λb o e hx => ?_,I.base.tups,I.base.frzs,I.base.tbls⟩,⟨m,hn.sameBut hs (C1 (cne x c hc)),λj y v' e1 e2 e3 => ?_⟩,λy c' e => ?_,I.free,I.freeC,λp hp => ?_,tracked ⟨oc,hoc,I.freeC x c hc⟩ hs,by simpa using I.len⟩ ⟨c,hs,.inr hc⟩
  .exact(hs.2 b (Bs (AF (AA e) (I.ok.cab x c hfn hc)))).trans (I.base.keep b o e n hb hx)
  .obtain⟨sl,e1⟩:=I.base.slot b o e n hb hx;exact⟨sl,(hs.2 b (Bs (AF (AA e) (I.ok.cab x c hfn hc)))).trans e1⟩
  .obtain⟨o',e1⟩:=I.base.there b o e hx;exact⟨o',(hs.2 b (Bs (AF (AA e) (I.ok.cab x c hfn hc)))).trans e1⟩
  .by_cases hj:j=i
   .subst hj;rw[hi]at e1;cases e1;rw[B7 hiσ]at e2;cases e2;exact⟨u,r,.inr ⟨.inl hk,c,hc,hc'⟩⟩
   .rw[Ea (C1 hj)]at e2;obtain⟨u',r',q⟩:=hl j y v' e1 e2 e3;refine⟨u',r',?_⟩;rcases q with q|⟨k,c',e,z'⟩
    .exact .inl q
    .refine .inr ⟨k,c',e,z'.sameBut hs ?_⟩;rintro rfl;exact hj (JE hN e1 (I.ok.inj _ _ _ e hc ▸ hi))
  .by_cases hcc:c'=c
   .subst hcc;exact⟨_,hc'⟩
   .obtain⟨w2,z2⟩:=I.cell y c' e;exact⟨w2,z2.sameBut hs hcc⟩
  .obtain⟨e,n,ne,nf,d⟩:=I.pin p hp;refine⟨(hs.2 p.1 ?_).trans e,n,ne,nf,d⟩;intro q;rw[q,hoc]at e;have q':oc=p.2:=BC e;exact d w' (by rw[<-q'];exact hocd)
theorem JG{A:AN}{E:Ah->Am->Prop}{Q:Dj->Am->Prop}(I:Inv X pI Z H s)(hN:X.N.Nodup)(hi:X.N[i]? = Aa x)(hx:Loc X.env.scope x)(r:Bf v u)(h : ∀ s',Inv X pI (Z.set i (Aa v)) H s'->Q () s')(hf:X.fn x=Ab\/X.env.scope.names.lookup x=Aa .local:=by first|exact .inl rfl|exact .inr rfl|assumption):As M A (storeName X.env x u) Q E s:=
 LZ I hN hi hx r (λs' I' _=>h s' I') hf
theorem Inv.call'{s':Am}(I:Inv X pI Z H s)(ho:s'.os=s.os)(u:Un (frs X.stack) ch H H' s.heap s'.heap)(hok:HOk X.prog X.w H' s'.heap)(hg:DE s'.gens)(hch : ∀ b∈ch,(b∈X.ex\/X.s₀.heap.objs.size<=b)/\b≠X.env.locals/\(∀ x c,X.env.cells.lookup x=Aa c->c≠b) /\ ∀ p∈X.pn++pI,p.1≠b):Inv X pI Z H' s':=by
 obtain⟨h',g',d',t',o'⟩:=s';have e:o'=s.os:=ho;subst e;exact I.call (g':=g') (t':=t') (d':=d') u hok hg hch
end
noncomputable abbrev XK:=Ah->An Ai->Hp->Prop
noncomputable abbrev St:=Ad (An V)
variable{Z:St}
noncomputable abbrev VK:=V->Hp->Prop
noncomputable abbrev TE:=St->Hp->VK->Prop
noncomputable abbrev TT:=St->Hp->(Aj->Hp->Prop)->Prop
noncomputable abbrev TA:=St->Hp->(Ad V->Hp->Prop)->Prop
variable{ta:TA}
structure Ends where
 nx:St->Hp->Prop
 rt:VK
 bk:St->Hp->Prop:=λ_ _=>AT
 ct:St->Hp->Prop:=λ_ _=>AT
noncomputable abbrev TS:=Ends->St->Hp->Prop
noncomputable def EP(X:Cx)(pI:Ad (Ai × AD))(Z:St)(Q:VK)(u:Ah)(s':Am):Prop := ∃ v H',Inv X pI Z H' s'/\Bf v u/\Q v H'
noncomputable def TP(X:Cx)(pI:Ad (Ai × AD))(Z:St)(Q:Aj->Hp->Prop)(b:Aj)(s':Am):Prop := ∃ H',Inv X pI Z H' s'/\Q b H'
noncomputable def AP(X:Cx)(pI:Ad (Ai × AD))(Z:St)(Q:Ad V->Hp->Prop)(us:Ad Ah)(s':Am):Prop := ∃ vs H',Inv X pI Z H' s'/\AR vs us/\Q vs H'
noncomputable def SP(X:Cx)(pI:Ad (Ai × AD))(D:Ends)(f:Flow)(s':Am):Prop:=
  match f with
  |.next => ∃ Z' H',Inv X pI Z' H' s'/\D.nx Z' H'
  |.brk => ∃ Z' H',Inv X pI Z' H' s'/\D.bk Z' H'
  |.cont => ∃ Z' H',Inv X pI Z' H' s'/\D.ct Z' H'
  |.ret u => ∃ v Z' H',Inv X pI Z' H' s'/\Bf v u/\D.rt v H'
noncomputable def PE(X:Cx)(e:Ak)(t:TE):Prop:=
 ∀(pI:Ad (Ai × AD))(s:Am)(Z:St)(H:Hp)(Q:VK),Inv X pI Z H s->t Z H Q->As (model X.prog X.w) X.A (eval e X.env) (EP X pI Z Q) X.xe s
noncomputable def PT(X:Cx)(e:Ak)(t:TT):Prop:=
 ∀(pI:Ad (Ai × AD))(s:Am)(Z:St)(H:Hp)(Q:Aj->Hp->Prop),Inv X pI Z H s->t Z H Q->As (model X.prog X.w) X.A (Fx e X.env (eval e X.env)) (TP X pI Z Q) X.xe s
noncomputable def PW(X:Cx)(e:Ak)(t:TT):Prop:=
 ∀(whole:ED Ah)(pI:Ad (Ai × AD))(s:Am)(Z:St)(H:Hp)(Q:Aj->Hp->Prop),Inv X pI Z H s->t Z H Q->As (model X.prog X.w) X.A (Fx e X.env whole) (TP X pI Z Q) X.xe s
theorem PW.pt{t:TT}(h:PW X e t):PT X e t:=h _
noncomputable def PA(X:Cx)(es:Ad Ak)(t:TA):Prop:=
 ∀(pos:Az)(pI:Ad (Ai × AD))(s:Am)(Z:St)(H:Hp)(Q:Ad V->Hp->Prop),Inv X pI Z H s->t Z H Q->As (model X.prog X.w) X.A (spliced (Bk pos (Ap es X.env))) (AP X pI Z Q) X.xe s
noncomputable def PS(X:Cx)(st:AC)(t:TS):Prop:=
 ∀(pI:Ad (Ai × AD))(s:Am)(Z:St)(H:Hp)(D:Ends),Inv X pI Z H s->t D Z H->As (model X.prog X.w) X.A (exec st X.env) (SP X pI D) X.xe s
noncomputable def PSs(X:Cx)(st:Ad AC)(t:TS):Prop:=
 ∀(pI:Ad (Ai × AD))(s:Am)(Z:St)(H:Hp)(D:Ends),Inv X pI Z H s->t D Z H->As (model X.prog X.w) X.A (execs st X.env) (SP X pI D) X.xe s
theorem thn{α:Type}{t:ED α}{Q Q':α->Am->Prop}{A:AN}{E:Ah->Am->Prop}(h:As M A t Q E s)(hQ : ∀ a s,Q a s->Q' a s):As M A t Q' E s:=A2 h hQ λ_ _ x=>x
section
variable{X:Cx}
noncomputable def DO(i:Ae):TE:=λZ H Q => ∃ v,Z[i]? = Aa (Aa v)/\Q v H
noncomputable def tC(v:V):TE:=λ_ H Q=>Q v H
theorem IC(hN:X.N[i]? = Aa x)(hv:Vis X.env.scope x)(hd:(x==("__debug__" : Ag))=Ac:=by decide)(hcd:(x==("__classdict__" : Ag))=Ac:=by decide):PE X (.Name x pos) (DO i):=by
 intro pI s Z H Q I h;obtain⟨v,e,h⟩:=h;obtain⟨m,hn,hl⟩:=I.loc;obtain⟨u,r,l⟩:=hl i x v hN e hv;have fin:EP X pI Z Q u s:=⟨v,H,I,r,h⟩;rcases l with ⟨hk,hm⟩|⟨hk,c,hc,hcell⟩
 .exact GN (wpAny_loadName_local I.ok.kind hk hn hm fin) hd
 .rcases hk with hk|hk
  .exact GN (wpAny_loadName_cell I.ok.kind hk hc hcell fin) hd
  .exact GN (wpAny_loadName_free I.ok.kind hk hc hcell fin hcd) hd
theorem U_2{i j pos}:PE X (.Constant (.int i) j pos) (tC (.int i)):=λ_ _ _ H _ I h=>wpAny_Constant_int ⟨.int i,H,I.tok _,⟨_,rfl⟩,h⟩
theorem W8{b j pos}:PE X (.Constant (.bool b) j pos) (tC (.bl b)):=λ_ _ _ H _ I h=>Constant_bool ⟨.bl b,H,I,rfl,h⟩
theorem U_0{j pos}:PE X (.Constant .none j pos) (tC .non):=λ_ _ _ H _ I h=>Constant_none ⟨.non,H,I,rfl,h⟩
theorem ID{x j pos}:PE X (.Constant (.str x) j pos) (tC (.str x)):=λ_ _ _ H _ I h=>Calls.Constant_str ⟨.str x,H,I.tok _,⟨_,rfl⟩,h⟩
noncomputable def Gl(X:Cx)(x:Ag):Prop:=X.env.kindOf x=Aa .globalImplicit
theorem FI{E:Ah->Am->Prop}(I:Inv X pI Z H s)(hg:Gl X x)(hm:X.mg x=Aa u)(h:Q u s)(hd:(x==("__debug__" : Ag))=Ac:=by decide):As (model X.prog X.w) X.A (eval (.Name x pos) X.env) Q E s:=
 Pu I.ok.kind hg (Calls.loadGlobal_global (by rw[I.ok.glob];exact I.mod.glob.keeps I.bk) hm h) hd
theorem HB{E:Ah->Am->Prop}(I:Inv X pI Z H s)(hg:Gl X x)(hm:X.mg x=Af)(hv:B9 x=Aa u)(h:Q u s)(hn:x ≠ "__name__" := by decide)(hd:(x==("__debug__" : Ag))=Ac:=by decide):As (model X.prog X.w) X.A (eval (.Name x pos) X.env) Q E s:=by
 obtain⟨mb,h1,h2⟩:=I.mod.blt;exact Pu I.ok.kind hg (Calls.loadGlobal_builtin (by rw[I.ok.glob];exact I.mod.glob.keeps I.bk) hm (by rw[I.ok.blt];exact h1.keeps I.bk) ((h2 x hn).trans hv) h) hd
theorem MG(hg:Gl X x)(hm:X.mg x=Aa u)(r:Bf v u)(hd:(x==("__debug__" : Ag))=Ac:=by decide):PE X (.Name x pos) (tC v):=
 λ_ _ _ H _ I h=>FI I hg hm ⟨v,H,I,r,h⟩ hd
theorem MI(hg:Gl X x)(hm:X.mg x=Af)(hv:B9 x=Aa u)(r:Bf v u)(hn:x ≠ "__name__" := by decide)(hd:(x==("__debug__" : Ag))=Ac:=by decide):PE X (.Name x pos) (tC v):=
 λ_ _ _ H _ I h=>HB I hg hm hv ⟨v,H,I,r,h⟩ hn hd
variable{a b:Ak}{ta tb:TE}{pos:Az}
variable{tA tB':TT}{Bi:Ad Ak}
noncomputable def Yg(t u:TT):TT:=λZ H Q=>t Z H λc H1=>if c=Ab then u Z H1 Q else Q Ac H1
noncomputable def tOr(t u:TT):TT:=λZ H Q=>t Z H λc H1=>if c=Ab then Q Ab H1 else u Z H1 Q
noncomputable def Yp(t:TT):TT:=λZ H Q=>t Z H λc H1=>Q (!c) H1
theorem Ug(ha:PT X a tA):PW X (.BoolOp .And [a] pos) tA:=by
 intro wh pI s Z H Q I h;refine isTrue_and (thn (ha pI s Z H Q I h) λc s1 e => ?_)
 cases c with
 |true=>exact isTrue_and_nil e
 |false=>exact e
theorem Vm(ha:PT X a tA):PW X (.BoolOp .Or [a] pos) tA:=by
 intro wh pI s Z H Q I h;refine isTrue_or (thn (ha pI s Z H Q I h) λc s1 e => ?_)
 cases c with
 |false=>exact isTrue_or_nil e
 |true=>exact e
theorem Vn(ha:PT X a tA)(hb:PW X (.BoolOp .And (b::Bi) pos) tB'):PW X (.BoolOp .And (a::b::Bi) pos) (Yg tA tB'):=by
 intro wh pI s Z H Q I h;refine isTrue_and (thn (ha pI s Z H _ I h) λc s1 ⟨H1,I1,q1⟩ => ?_)
 cases c with
 |true=>exact hb wh pI s1 Z H1 Q I1 q1
 |false=>exact⟨H1,I1,q1⟩
theorem W4(ha:PT X a tA)(hb:PW X (.BoolOp .Or (b::Bi) pos) tB'):PW X (.BoolOp .Or (a::b::Bi) pos) (tOr tA tB'):=by
 intro wh pI s Z H Q I h;refine isTrue_or (thn (ha pI s Z H _ I h) λc s1 ⟨H1,I1,q1⟩ => ?_)
 cases c with
 |true=>exact⟨H1,I1,q1⟩
 |false=>exact hb wh pI s1 Z H1 Q I1 q1
theorem Vo(ha:PT X a tA):PT X (.UnaryOp .Not a pos) (Yp tA):=by
 intro pI s Z H Q I h;exact isTrue_not (ha pI s Z H (λc H1=>Q (!c) H1) I h)
noncomputable def WP(ta tb:TE):TE:=λZ H Q=>ta Z H λx H1 => ∃ c,x = .bl c/\if c=Ab then tb Z H1 Q else Q (.bl Ac) H1
noncomputable def Yo(ta tb:TE):TE:=λZ H Q=>ta Z H λx H1 => ∃ c,x = .bl c/\if c=Ab then Q (.bl Ab) H1 else tb Z H1 Q
noncomputable def WK(ta:TE):TE:=λZ H Q=>ta Z H λx H1 => ∃ c,x = .bl c/\Q (.bl (!c)) H1
theorem UY{op}{t:TE}(h:PE X a t):PE X (.BoolOp op [a] pos) t:=λpI s Z H Q I hw=>BoolOp_one (h pI s Z H Q I hw)
theorem U_3(ha:PE X a ta)(hb:PE X (.BoolOp .And (b::Bi) pos) tb):PE X (.BoolOp .And (a::b::Bi) pos) (WP ta tb):=by
 intro pI s Z H Q I h;refine BoolOp_and (thn (ha pI s Z H _ I h) λv s1 ⟨x,H1,I1,r1,q1⟩ => ?_)
 obtain⟨c,rfl,q1⟩:=q1;cases r1;refine B2 ?_;cases c with
 |true=>exact hb pI s1 Z H1 Q I1 q1
 |false=>exact⟨.bl Ac,H1,I1,rfl,q1⟩
theorem W6(ha:PE X a ta)(hb:PE X (.BoolOp .Or (b::Bi) pos) tb):PE X (.BoolOp .Or (a::b::Bi) pos) (Yo ta tb):=by
 intro pI s Z H Q I h;refine BoolOp_or (thn (ha pI s Z H _ I h) λv s1 ⟨x,H1,I1,r1,q1⟩ => ?_)
 obtain⟨c,rfl,q1⟩:=q1;cases r1;refine B2 ?_;cases c with
 |false=>exact hb pI s1 Z H1 Q I1 q1
 |true=>exact⟨.bl Ab,H1,I1,rfl,q1⟩
theorem UZ(ha:PE X a ta):PE X (.UnaryOp .Not a pos) (WK ta):=by
 intro pI s Z H Q I h;refine UnaryOp_ (thn (ha pI s Z H _ I h) λv s1 ⟨x,H1,I1,r1,q1⟩ => ?_)
 obtain⟨c,rfl,q1⟩:=q1;cases r1;exact not_of (B2 ⟨.bl (!c),H1,I1,rfl,q1⟩)
end
noncomputable def SqL(K:Fg)(H:Hp)(a:Ai)(xs:Ad V):Prop:=
 Rd H a (.lst xs) \/
  ∃(o:AD)(its:Bb Ah)(n:Ae),K.lookup a=Aa o/\o.cls = .type "list" /\ o.dict=Af/\o.data = .seq its n/\its.size<=sizeLine/\AR xs its.toList
noncomputable def SqT(K:Fg)(H:Hp)(a:Ai)(xs:Ad V):Prop:=
 Rd H a (.tup xs) \/
  ∃(o:AD)(its:Bb Ah)(n:Ae),K.lookup a=Aa o/\o.cls = .type "tuple" /\ o.data = .seq its n/\its.size<=sizeLine/\AR xs its.toList
noncomputable def YJ:Ah->An V
 |.none=>Aa .non
 |.bool b=>Aa (.bl b)
 |.int i _=>Aa (.int i)
 |.str x _=>Aa (.str x)
 |.bytes b _=>Aa (.byt b)
 |.float b _=>Aa (.flt b)
 |.ref a=>Aa (.ref a)
 |.type n=>Aa (.ty n)
 |_=>Af
theorem Bf.abs{x:V}(r:Bf x u):YJ u=Aa x:=by
 cases x with
 |non=>cases r;rfl
 |bl _=>cases r;rfl
 |int _=>obtain⟨t,rfl⟩:=r;rfl
 |str _=>obtain⟨t,rfl⟩:=r;rfl
 |byt _=>obtain⟨t,rfl⟩:=r;rfl
 |flt _=>obtain⟨t,rfl⟩:=r;rfl
 |ref _=>cases r;rfl
 |ty _=>cases r;rfl
theorem Bf.inj{x:V}(r:Bf x u)(q:Bf y u):x=y:=BC (r.abs.symm.trans q.abs)
theorem AR.inj : ∀{xs ys:Ad V}{us:Ad Ah},AR xs us->AR ys us->xs=ys
 |_,_,_,.nil,.nil=>rfl
 |_,_,_,.cons r t,.cons r' t'=>by rw[r.inj r',AR.inj t t']
section
variable{X:Cx}{pI:Ad (Ai × AD)}{Z:St}{H:Hp}{s:Am}{a:Ai}{xs ys:Ad V}
theorem SqL.of{K:Fg}(h:H a=Aa (.lst xs)):SqL K H a xs := .inl (.inl h)
theorem SqT.of{K:Fg}(h:H a=Aa (.tup xs)):SqT K H a xs := .inl (.inl h)
theorem Inv.list(I:Inv X pI Z H s)(h:SqL X.K H a xs) : ∃ its:Ad Ah,AR xs its/\PlainL s.heap a its.toArray/\xs.length<=sizeLine:=by
 rcases h with h|⟨o,its,n,hk,hc,hd,hs,hz,r⟩
 .obtain⟨z,its,n,r,e⟩:=h.ok I.hok;exact⟨its,r,⟨_,n,e,rfl,rfl,rfl⟩,z⟩
 .refine⟨its.toList,r,⟨o,n,I.kIn a o hk,hc,hd,by simpa using hs⟩,?_⟩
  have e:=r.length;simp only[OT]at e;omega
theorem Inv.tuple(I:Inv X pI Z H s)(h:SqT X.K H a xs) : ∃ its:Ad Ah,AR xs its/\He s.heap a its.toArray/\xs.length<=sizeLine:=by
 rcases h with h|⟨o,its,n,hk,hc,hs,hz,r⟩
 .obtain⟨z,its,r,p⟩:=h.ok I.hok;exact⟨its,r,p,z⟩
 .refine⟨its.toList,r,⟨o,I.kIn a o hk,hc,n,by simpa using hs⟩,?_⟩
  have e:=r.length;simp only[OT]at e;omega
theorem Inv.list_inj(I:Inv X pI Z H s)(h:SqL X.K H a xs)(h':SqL X.K H a ys):xs=ys:=by
 obtain⟨its,r,⟨o,n,e,_,_,d⟩,_⟩:=I.list h;obtain⟨its',r',⟨o',n',e',_,_,d'⟩,_⟩:=I.list h';rw[e]at e';cases e';rw[d]at d'
 injection d' with d1 _
 have:its=its':=by simpa using congrArg OU d1
 subst this;exact r.inj r'
theorem Inv.tuple_inj(I:Inv X pI Z H s)(h:SqT X.K H a xs)(h':SqT X.K H a ys):xs=ys:=by
 obtain⟨its,r,⟨o,e,_,n,d⟩,_⟩:=I.tuple h;obtain⟨its',r',⟨o',e',_,n',d'⟩,_⟩:=I.tuple h';rw[e]at e';cases e';rw[d]at d'
 injection d' with d1 _
 have:its=its':=by simpa using congrArg OU d1
 subst this;exact r.inj r'
end
noncomputable abbrev Cx.wish(X:Cx)(E:Ah->Am->Prop):Cx := {X with xe:=E}
noncomputable abbrev Cx.nox(X:Cx):Cx:=X.wish λ_ _=>AT
theorem Cx.Ok.wish(ok:X.Ok)(E:Ah->Am->Prop):(X.wish E).Ok:=
 ⟨ok.mod,ok.kind,ok.glob,ok.blt,ok.above,ok.inj,ok.has,ok.cab,ok.hd,ok.frames,ok.stk,ok.exf,ok.bs,ok.bsz,ok.noex,ok.exfs,ok.funs,ok.frf⟩
theorem Cx.Ok.unwish{E:Ah->Am->Prop}(ok:(X.wish E).Ok):X.Ok:=
 ⟨ok.mod,ok.kind,ok.glob,ok.blt,ok.above,ok.inj,ok.has,ok.cab,ok.hd,ok.frames,ok.stk,ok.exf,ok.bs,ok.bsz,ok.noex,ok.exfs,ok.funs,ok.frf⟩
section
variable{X:Cx}{pI:Ad (Ai × AD)}{Z:St}{H:Hp}{s:Am}{E:Ah->Am->Prop}
theorem Inv.wish(I:Inv X pI Z H s)(E:Ah->Am->Prop):Inv (X.wish E) pI Z H s:=⟨I.ok.wish E,I.os,I.bare,I.base,I.loc,I.cell,I.free,I.freeC,I.pin,I.hok,I.len⟩
theorem Inv.unwish(I:Inv (X.wish E) pI Z H s):Inv X pI Z H s:=⟨I.ok.unwish,I.os,I.bare,I.base,I.loc,I.cell,I.free,I.freeC,I.pin,I.hok,I.len⟩
theorem SP.unwish{D:Ends}{f:Flow}{s':Am}(h:SP (X.wish E) pI D f s'):SP X pI D f s':=by
 cases f with
 |next=>obtain⟨Z',H',I,q⟩:=h;exact⟨Z',H',I.unwish,q⟩
 |brk=>obtain⟨Z',H',I,q⟩:=h;exact⟨Z',H',I.unwish,q⟩
 |cont=>obtain⟨Z',H',I,q⟩:=h;exact⟨Z',H',I.unwish,q⟩
 |ret u=>obtain⟨v,Z',H',I,r,q⟩:=h;exact⟨v,Z',H',I.unwish,r,q⟩
theorem PSs.nox{st:Ad AC}{t:TS}(h:PSs X.nox st t):PSs X st t:=λpI s Z H D I hw=>
 A2 (h pI s Z H D (I.wish _) hw) (λ_ _ q=>q.unwish) λ_ _ z=>AY z
end
section
variable{X:Cx}{st:AC}{Bi:Ad AC}{t u:TS}{e:Ak}{te:TE}{pos:Az}
noncomputable def WL:TS:=λD Z H=>D.nx Z H
noncomputable def Ym(t u:TS):TS:=λD Z H=>t {D with nx:=u D} Z H
theorem Uk:PSs X [] WL:=λ_ _ Z H _ I h=>Ds ⟨Z,H,I,h⟩
theorem Mu(h1:PS X st t)(h2:PSs X Bi u):PSs X (st::Bi) (Ym t u):=by
 intro pI s Z H D I h;refine E3 (thn (h1 pI s Z H {D with nx:=u D} I h) λf s1 q => ?_)
 cases f with
 |next=>
  obtain⟨Z',H',I',q⟩:=q;exact h2 pI s1 Z' H' D I' q
 |ret v=>exact q
 |brk=>exact q
 |cont=>exact q
theorem Hu(h1:PS X st t):PSs X [st] t:=by
 intro pI s Z H D I h;refine E3 (thn (h1 pI s Z H D I h) λf s1 q => ?_)
 cases f with
 |next=>exact Ds q
 |ret v=>exact q
 |brk=>exact q
 |cont=>exact q
theorem Inv.quiet(I:Inv X pI Z H s):interactive X.env=Ac:=by simp[interactive,I.ok.kind]
noncomputable def WM(te:TE):TS:=λD Z H=>te Z H λ_ H1=>D.nx Z H1
theorem Hv(he:PE X e te)(hs:Ck e Af pos.line X.env=pure Ac:=by rfl):PS X (.Expr e pos) (WM te):=by
 intro pI s Z H D I h;exact wpAny_Expr_any (thn (he pI s Z H _ I h) λv s1 ⟨x,H1,I1,r1,q1⟩=>⟨Z,H1,I1,q1⟩) I.quiet hs
noncomputable def Yn(te:TE):TS:=λD Z H=>te Z H D.rt
theorem Kk(he:PE X e te):PS X (.Return (Aa e) pos) (Yn te):=by
 intro pI s Z H D I h;exact wpAny_Return_some (thn (he pI s Z H _ I h) λv s1 ⟨x,H1,I1,r1,q1⟩=>⟨x,Z,H1,I1,r1,q1⟩)
noncomputable def Ys(c:TT)(t u:TS):TS:=λD Z H=>c Z H λb H1=>if b=Ab then t D Z H1 else u D Z H1
theorem W5{c:Ak}{a b:Ad AC}{tc:TT}(hc:PT X c tc)(ha:PSs X a t)(hb:PSs X b u):PS X (.If c a b pos) (Ys tc t u):=by
 intro pI s Z H D I h;refine wpAny_If (thn (hc pI s Z H _ I h) λd s1 ⟨H1,I1,q1⟩ => ?_)
 cases d with
 |true=>exact ha pI s1 Z H1 D I1 q1
 |false=>exact hb pI s1 Z H1 D I1 q1
end
noncomputable abbrev TG:=V->St->Hp->(St->Hp->Prop)->Prop
noncomputable abbrev TGs:=Ad V->St->Hp->(St->Hp->Prop)->Prop
noncomputable def PG(X:Cx)(target:Ak)(t:TG):Prop:=
 ∀(pI:Ad (Ai × AD))(s:Am)(Z:St)(H:Hp)(v:V)(u:Ah)(Q:St->Hp->Prop),Inv X pI Z H s->Bf v u->t v Z H Q ->
  As (model X.prog X.w) X.A (assign target X.env u) (λ_ s' => ∃ Z' H',Inv X pI Z' H' s'/\Q Z' H') X.xe s
noncomputable def PGs(X:Cx)(ts:Ad Ak)(t:TGs):Prop:=
 ∀(pI:Ad (Ai × AD))(s:Am)(Z:St)(H:Hp)(vs:Ad V)(us:Ad Ah)(Q:St->Hp->Prop),Inv X pI Z H s->AR vs us->t vs Z H Q ->
  As (model X.prog X.w) X.A (assignInOrder ((CC ts X.env).map (·.2)) us) (λ_ s' => ∃ Z' H',Inv X pI Z' H' s'/\Q Z' H') X.xe s
section
variable{X:Cx}{pos:Az}
noncomputable def EK(i:Ae):TG:=λv Z H Q=>Q (Z.set i (Aa v)) H
theorem Io(hN:X.N.Nodup)(hi:X.N[i]? = Aa x)(hx:Loc X.env.scope x)(hf:X.fn x=Ab\/X.env.scope.names.lookup x=Aa .local:=by first|exact .inl rfl|exact .inr rfl|assumption):PG X (.Name x pos) (EK i):=by
 intro pI s Z H v u Q I r h;exact QL (JG I hN hi hx r (λs' I'=>⟨_,H,I',h⟩) hf)
noncomputable def HR:TGs:=λvs Z H Q=>vs=[]/\Q Z H
noncomputable def HI(t:TG)(u:TGs):TGs:=λvs Z H Q => ∃ v r,vs=v::r/\t v Z H λZ' H'=>u r Z' H' Q
theorem Uq:PGs X [] HR:=by
 intro pI s Z H vs us Q I r h;obtain⟨e,h⟩:=h;subst e;cases r;exact assignInOrder_nil ⟨Z,H,I,h⟩
theorem RT{t:TG}{u:TGs}(h1:PG X e t)(h2:PGs X es u)(hs:(CC (e::es) X.env).map (·.2)=assign e X.env::(CC es X.env).map (·.2):=by rfl):PGs X (e::es) (HI t u):=by
 intro pI s Z H vs us Q I r h;obtain⟨v,vr,e1,h⟩:=h;subst e1;cases r with
 |cons r rr=>
  rw[hs];refine assignInOrder_cons (thn (h1 pI s Z H _ _ _ I r h) λ_ s1 ⟨Z1,H1,I1,q1⟩ => ?_)
  exact h2 pI s1 Z1 H1 _ _ Q I1 rr q1
noncomputable def Li(K:Fg)(n:Ae)(t:TGs):TG:=λv Z H Q => ∃ a xs,v = .ref a/\SqT K H a xs/\xs.length=n/\t xs Z H Q
theorem Vt{t:TGs}(hc:X.calm=Ab)(h:PGs X es t)(hn:(CC es X.env).length=n:=by rfl)(hst:(CC es X.env).findIdx? (·.1)=Af:=by rfl):PG X (.Tuple es k pos) (Li X.K n t):=by
 intro pI s Z H v u Q I r hw;obtain⟨a,xs,e1,hq,hl,hw⟩:=hw;subst e1;cases r;obtain⟨its,rv,ht,hz⟩:=I.tuple hq;refine assign_Tuple_tuple (I.ok.hd hc) ht (by simp[hn,<-hl,rv.length]) hst λh' hx => ?_
 have I1:Inv X pI Z H {s with heap:=h'}:=I.kept (t':=s.toks) λb o e=>hx b o (Bs (AA e)) e
 exact h pI _ Z H xs _ Q I1 (by simpa using rv) hw
noncomputable def K9(te:TE)(g:TG):TS:=λD Z H=>te Z H λx H1=>g x Z H1 D.nx
theorem IA{te:TE}{pos':Az}(hN:X.N.Nodup)(hi:X.N[i]? = Aa x)(hx:Loc X.env.scope x)(he:PE X e te)(hs:Ck e (Aa (.Name x pos')) pos.line X.env=pure Ac:=by rfl)(hf:X.fn x=Ab\/X.env.scope.names.lookup x=Aa .local:=by first|exact .inl rfl|exact .inr rfl|assumption):PS X (.Assign [.Name x pos'] e pos) (K9 te (EK i)):=by
 intro pI s Z H D I h;refine wpAny_Assign_Name (thn (he pI s Z H _ I h) λv s1 ⟨y,H1,I1,r1,q1⟩ => ?_) hs
 exact JG I1 hN hi hx r1 (λs2 I2=>⟨_,H1,I2,q1⟩) hf
end
section
variable{X:Cx}{pos:Az}
end
structure It where
 go:Ae->Hp->Prop
 yld:Ae->Hp->V->Hp->Prop
 stop:Ae->Hp->Prop
noncomputable def Fq(X:Cx)(pI:Ad (Ai × AD))(H:Hp)(b:Ai):Prop:=
 H b=Af/\b≠X.env.locals/\b ∉ X.fs/\(b∈X.ex\/X.s₀.heap.objs.size<=b)/\(∀ x c,X.env.cells.lookup x=Aa c->c≠b) /\ ∀ p∈X.pn++pI,p.1≠b
theorem Inv.fpOk{H':Hp}(I:Inv X pI Z H s)(hb:s.heap.objs.size<=b)(hn:H' b=Af):Fq X pI H' b:=by
 refine⟨hn,Pj (AF I.lt hb),I.nofs hb,.inr (BR I.sz hb),λx c e z => ?_,λp hp z => ?_⟩
 .obtain⟨v,q⟩:=I.cell x c e;exact absurd (AF q.lt (by rw[z];exact hb)) (Bc _)
 .exact absurd (AF (AA (I.pin p hp).1) (by rw[z];exact hb)) (Bc _)
structure Turn (P:AE) (w:Ar) (K:Fg) (tg:Ak) (J:It) (fp:Ad Ai) (it:Ai) (tn:Ae->Ay->Prop):Prop where
 mem:it∈fp
 obj : ∀ i h,tn i h -> ∀ b∈fp,∃ o,h.get? b=Aa o /\ ∀ v,o.data ≠ .cell v
 keep : ∀ i h h',tn i h->(∀ b∈fp,∀ o,h.get? b=Aa o->h'.get? b=Aa o)->tn i h'
 item : ∀(X:Cx),X.prog=P->X.w=w->X.K=K->X.calm=Ab -> ∀(i:Ae)(pI:Ad (Ai × AD))(s:Am)(Z:St)(H:Hp)(E:Ah->Am->Prop),Inv X pI Z H s->(∀ b∈fp,Fq X pI H b)->tn i s.heap->J.go i H ->
  As (model P w) X.A (pyNext (.ref it)) (λr s1 => ∃ u,r=Aa u /\
   As (model P w) X.A (Eg tg (.ref it) u) (λ_ s2 => ∃ x H',Inv X pI Z H' s2/\Bf x u/\J.yld i H x H'/\tn (i+1) s2.heap /\ ∀ b∈fp,H' b=Af) E s1) E s
 done : ∀(X:Cx),X.prog=P->X.w=w->X.K=K->X.calm=Ab -> ∀(i:Ae)(pI:Ad (Ai × AD))(s:Am)(Z:St)(H:Hp)(E:Ah->Am->Prop),Inv X pI Z H s->(∀ b∈fp,Fq X pI H b)->tn i s.heap->J.stop i H ->
  As (model P w) X.A (pyNext (.ref it)) (λr s1=>r=Af/\Inv X pI Z H s1) E s
 self : ∀(A:AN)(i:Ae)(s:Am)(Q:Ah->Am->Prop)(E:Ah->Am->Prop),tn i s.heap->Q (.ref it) s->As (model P w) A (pyIter (.ref it)) Q E s
noncomputable abbrev TI:=St->Hp->(It->Hp->Prop)->Prop
noncomputable def PIE(X:Cx)(pI:Ad (Ai × AD))(Z:St)(tg:Ak)(R:It->Hp->Prop)(itv:Ah)(s2:Am):Prop:=
 ∃(it:Ai)(fp:Ad Ai)(tn:Ae->Ay->Prop)(J:It)(H':Hp),itv = .ref it/\Inv X pI Z H' s2/\Turn X.prog X.w X.K tg J fp it tn/\tn 0 s2.heap/\(∀ b∈fp,Fq X pI H' b)/\R J H'
noncomputable def PI(X:Cx)(tg iter:Ak)(wi:TI):Prop:=
 ∀(pI:Ad (Ai × AD))(s:Am)(Z:St)(H:Hp)(R:It->Hp->Prop),Inv X pI Z H s->wi Z H R ->
  As (model X.prog X.w) X.A (eval iter X.env) (λv s1=>As (model X.prog X.w) X.A (pyIter v) (PIE X pI Z tg R) X.xe s1) X.xe s
theorem KR{A:AN}{E:Ah->Am->Prop}{n:Ca}{vs:Bb Ah}{Q:Dj->Am->Prop}(ho:s.heap.get? it=Aa o)(hc:o.cls = .type n)(hd:o.data = .fields vs)(hn:["enumerate", "zip", "dict_itemiterator", "dict_reverseitemiterator", "odict_iterator", "itertools.zip_longest", "itertools.pairwise"].contains n=Ac)(hQ:Q () s):As M A (Eg tg (.ref it) u) Q E s:=by
  unfold Eg;cases tg <;> first
    |exact Bo hQ
    | (cases u <;> first
        |exact Bo hQ
        | (refine Au (wpAny_load ho ?_)
           rw[hc,hd];show As M A (if (["enumerate", "zip", "dict_itemiterator", "dict_reverseitemiterator", "odict_iterator", "itertools.zip_longest", "itertools.pairwise"].contains n&&vs[0]? == Aa (EC _))=Ab then _ else _) Q E s
           rw[A8 (by intro h;rw[hn,Bool.false_and]at h;cases h)]
           exact Bo hQ))
noncomputable def Itl(K:Fg)(a:Ai):It:=
 ⟨λi H => ∃ xs x,SqL K H a xs/\xs[i]? = Aa x,λi H x H'=>H'=H /\ ∀ xs,SqL K H a xs->xs[i]? = Aa x,λi H => ∃ xs,SqL K H a xs/\xs.length<=i⟩
noncomputable def Itt(K:Fg)(a:Ai):It:=
 ⟨λi H => ∃ xs x,SqT K H a xs/\xs[i]? = Aa x,λi H x H'=>H'=H /\ ∀ xs,SqT K H a xs->xs[i]? = Aa x,λi H => ∃ xs,SqT K H a xs/\xs.length<=i⟩
noncomputable def Itr(lo:Ao)(n:Ae):It:=⟨λi _=>i<n,λi H x H'=>H'=H/\x = .int (lo+i),λi _=>n<=i⟩
theorem Rs{w:Ar}{K:Fg}(a it:Ai):Turn P w K tg (Itl K a) [it] it (λi h=>h.IsListIter it a i) where
 mem:=by simp
 obj:=λi h st b hb=>by
  have e:b=it:=by simpa using hb
  subst e;obtain⟨o,e,c,d⟩:=st;exact⟨o,e,λv z=>by rw[d]at z;cases z⟩
 keep:=λi h h' st k=>st.at λo e=>k it (by simp) o e
 item:=by
  intro X hP hw hK hc i pI s Z H E I hf st hg;subst hP hw hK;obtain⟨xs,x,hq,hx⟩:=hg;obtain⟨its,rv,p,hz⟩:=I.list hq;obtain⟨u,hu,ru⟩:=rv.get hx;obtain⟨f0,f1,f2,f3,f4,f5⟩:=hf it (by simp)
  refine wpAny_pyNext_list_item st p.isList (x:=u) (by simpa using hu) λh' st' sb => ?_
  have I1:Inv X pI Z H {s with heap:=h'}:=I.turned (t':=s.toks) (λb o hb e=>(sb.2 b hb).trans e) f0 f1 f3 f4 f5
  obtain⟨o,e,c,d⟩:=id st';exact⟨u,rfl,KR (s := {s with heap:=h'}) e c d (by decide) ⟨x,H,I1,ru,⟨rfl,λys hy=>by rw[I.list_inj hy hq];exact hx⟩,st',λb hb=>(hf b hb).1⟩⟩
 done:=by
  intro X hP hw hK hc i pI s Z H E I hf st hg;subst hP hw hK;obtain⟨xs,hq,hx⟩:=hg;obtain⟨its,rv,p,hz⟩:=I.list hq;obtain⟨f0,f1,f2,f3,f4,f5⟩:=hf it (by simp)
  have hl:=rv.length;exact wpAny_pyNext_list_end (I.ok.hd hc) st p.isList (by simp;omega) λh' eb=>⟨rfl,I.turned (t':=s.toks) (λb o hb e=>eb b o hb e) f0 f1 f3 f4 f5⟩
 self:=λ_ _ _ _ _ st h=>wpAny_pyIter_listiter st h
theorem Q5{w:Ar}{K:Fg}(a it:Ai):Turn P w K tg (Itt K a) [it] it (λi h=>h.IsTupleIter it a i) where
 mem:=by simp
 obj:=λi h st b hb=>by
  have e:b=it:=by simpa using hb
  subst e;obtain⟨o,e,c,d⟩:=st;exact⟨o,e,λv z=>by rw[d]at z;cases z⟩
 keep:=λi h h' st k=>st.at λo e=>k it (by simp) o e
 item:=by
  intro X hP hw hK hc i pI s Z H E I hf st hg;subst hP hw hK;obtain⟨xs,x,hq,hx⟩:=hg;obtain⟨its,rv,p,hz⟩:=I.tuple hq;obtain⟨u,hu,ru⟩:=rv.get hx;obtain⟨f0,f1,f2,f3,f4,f5⟩:=hf it (by simp)
  refine wpAny_pyNext_tuple_item st (show s.heap.IsTuple a its.toArray from p) (x:=u) (by simpa using hu) λh' st' sb => ?_
  have I1:Inv X pI Z H {s with heap:=h'}:=I.turned (t':=s.toks) (λb o hb e=>(sb.2 b hb).trans e) f0 f1 f3 f4 f5
  obtain⟨o,e,c,d⟩:=id st';exact⟨u,rfl,KR (s := {s with heap:=h'}) e c d (by decide) ⟨x,H,I1,ru,⟨rfl,λys hy=>by rw[I.tuple_inj hy hq];exact hx⟩,st',λb hb=>(hf b hb).1⟩⟩
 done:=by
  intro X hP hw hK hc i pI s Z H E I hf st hg;subst hP hw hK;obtain⟨xs,hq,hx⟩:=hg;obtain⟨its,rv,p,hz⟩:=I.tuple hq;obtain⟨f0,f1,f2,f3,f4,f5⟩:=hf it (by simp)
  have hl:=rv.length;exact wpAny_pyNext_tuple_end (I.ok.hd hc) st (show s.heap.IsTuple a its.toArray from p) (by simp;omega) λh' eb=>⟨rfl,I.turned (t':=s.toks) (λb o hb e=>eb b o hb e) f0 f1 f3 f4 f5⟩
 self:=λ_ _ _ _ _ st h=>wpAny_pyIter_tupleiter st h
theorem Q6{w:Ar}{K:Fg}(it:Ai)(lo:Ao)(n:Ae):Turn P w K tg (Itr lo n) [it] it (λi h=>IsRangeIter h it (lo+(i:Ae)*1) ((n:Ao)-(i:Ae)) 1) where
 mem:=by simp
 obj:=λi h st b hb=>by
  have e:b=it:=by simpa using hb
  subst e;exact⟨_,st,λv z=>by
   have z':Data.fields _=Hb v:=z;cases z'⟩
 keep:=λi h h' st k=>k it (by simp) _ st
 item:=by
  intro X hP hw hK hc i pI s Z H E I hf st hg;subst hP hw hK;obtain⟨f0,f1,f2,f3,f4,f5⟩:=hf it (by simp)
  have W:=Walks.range (prog:=X.prog) (w:=X.w) (I.ok.hd hc) it lo 1 n;refine W.item i s _ _ hg st λv h' tk hv st' kk => ?_
  obtain⟨t,rfl⟩:=hv;have I1:Inv X pI Z H {s with heap:=h',toks:=tk}:=I.turned (λb o hb e=>kk b o (by simpa using hb) e) f0 f1 f3 f4 f5
  refine⟨_,rfl,KR (s := {s with heap:=h',toks:=tk}) (n := "range_iterator") st' rfl rfl (by decide) ⟨.int (lo+i),H,I1,⟨t,?_⟩,⟨rfl,rfl⟩,st',λb hb=>(hf b hb).1⟩⟩
  rw[Int.mul_one]
 done:=by
  intro X hP hw hK hc i pI s Z H E I hf st hg;subst hP hw hK;obtain⟨f0,f1,f2,f3,f4,f5⟩:=hf it (by simp)
  exact wpAny_pyNext_range_end (I.ok.hd hc) st (by have:n<=i:=hg;omega) λh' eb=>⟨rfl,I.turned (t':=s.toks) (λb o hb e=>eb b o hb e) f0 f1 f3 f4 f5⟩
 self:=λ_ _ _ _ _ st h=>wpAny_pyIter_rangeiter st h
section
variable{X:Cx}{tg:Ak}
theorem Mt{R:It->Hp->Prop}{E:Ah->Am->Prop}{lo hi:Ao}{t u v:BY}{tk:Ae}(I:Inv X pI Z H s)(h1 : -(2 ^ 62)<=lo)(h2:lo<2 ^ 62)(h3 : -(2 ^ 62)<=hi)(h4:hi<2 ^ 62)(q:R (Itr lo (hi-lo).toNat) H):As (model X.prog X.w) X.A (pyIter (.ref s.heap.objs.size)) (PIE X pI Z tg R) E { s with heap:=s.heap.push { cls := .type "range",data := .fields #[.int lo t,.int hi u,.int 1 v] },toks:=tk }:=by
 refine wpAny_pyIter_range (IsRange.new ..) (small_one h1 h2 h3 h4) ?_;have I1:Inv X pI Z H { s with heap:=s.heap.push { cls := .type "range",data := .fields #[.int lo t,.int hi u,.int 1 v] },toks:=tk }:=I.kept λb o e=>Ax _ e
 refine⟨(s.heap.push { cls := .type "range",data := .fields #[.int lo t,.int hi u,.int 1 v] }).objs.size,[(s.heap.push { cls := .type "range",data := .fields #[.int lo t,.int hi u,.int 1 v] }).objs.size],_,_,H,rfl,
  I1.kept (t':=tk) λb o e=>Ax _ e,Q6 _ lo (hi-lo).toNat,?_,λb hb => ?_,q⟩
 .have e1:lo+((0:Ae):Ao)*1=lo:=by simp
  have e2:(((hi-lo).toNat:Ae):Ao)-((0:Ae):Ao)=Builtin.Range.rangeSize lo hi 1:=by rw[rangeSize_one];split <;> omega
  show IsRangeIter _ _ (lo+((0:Ae):Ao)*1) ((((hi-lo).toNat:Ae):Ao)-((0:Ae):Ao)) 1;rw[e1,e2];exact Bv _ rfl
 .have e:b=(s.heap.push { cls := .type "range",data := .fields #[.int lo t,.int hi u,.int 1 v] }).objs.size:=by simpa using hb
  subst e;exact I1.fpOk (AW _) (I1.hok.fresh (AW _))
noncomputable def X6(ta:TA):TI:=λZ H R=>ta Z H λvs H1 => ∃ j:Ao,vs=[.int j] /\ -(2 ^ 62)<=j/\j<2 ^ 62/\R (Itr 0 j.toNat) H1
noncomputable def X5(ta:TA):TI:=λZ H R=>ta Z H λvs H1 => ∃ i j:Ao,vs=[.int i,.int j]/\(-(2 ^ 62)<=i/\i<2 ^ 62 /\ -(2 ^ 62)<=j/\j<2 ^ 62)/\R (Itr i (j-i).toNat) H1
theorem Rm{a:Ak}{p:Az}(hg:Gl X "range")(hm:X.mg "range" = Af)(ha:PA X [a] ta)(hs:Ap [a] X.env=[(Ac,eval a X.env)]:=by rfl):PI X tg (.Call (.Name "range" p) [a] [] pos) (X6 ta):=by
 intro pI s Z H R I h;refine Call_ (HB I hg hm boot_range (C6 (thn (ha pos pI s Z H _ I h) λus s1 ⟨vs,H1,I1,r1,q1⟩ => ?_) hs rfl))
 obtain⟨j,e,q1,q2,q⟩:=q1;subst e;cases r1 with
 |cons r rr=>
  cases rr;obtain⟨t,rfl⟩:=r;exact call_range_1 (Mt I1 (by omega) (by omega) q1 q2 (by simpa using q))
theorem Rl{a b:Ak}{p:Az}(hg:Gl X "range")(hm:X.mg "range" = Af)(ha:PA X [a,b] ta)(hs:Ap [a,b] X.env=[(Ac,eval a X.env),(Ac,eval b X.env)]:=by rfl)(hs2:Ap [b] X.env=[(Ac,eval b X.env)]:=by rfl):
  PI X tg (.Call (.Name "range" p) [a,b] [] pos) (X5 ta):=by
 intro pI s Z H R I h;refine Call_ (HB I hg hm boot_range (C6 (thn (ha pos pI s Z H _ I h) λus s1 ⟨vs,H1,I1,r1,q1⟩ => ?_) (by rw[hs,hs2]) (by rw[hs2];rfl)))
 obtain⟨i,j,e,⟨q1,q2,q3,q4⟩,q⟩:=q1;subst e;cases r1 with
 |cons r rr=>
  cases rr with
  |cons r' rr=>
   cases rr;obtain⟨t,rfl⟩:=r;obtain⟨t',rfl⟩:=r';exact call_range_2 (Mt I1 q1 q2 q3 q4 q)
noncomputable def Ye(wi:TI)(g:TG)(tb:TS):TS:=λD Z H=>wi Z H λJ H1 => ∃ W:Ae->Ae->St->Hp->Prop,(∃ m,W 0 m Z H1) /\ ∀ i m Z H,W i m Z H ->
 (J.stop i H/\D.nx Z H)\/(J.go i H /\ ∃ N:St->Hp->Prop,(∀ Z' H',N Z' H' -> ∃ m',m'<m/\W (i+1) m' Z' H') /\ ∀ x H',J.yld i H x H'->g x Z H' λZ2 H2=>tb {D with nx:=N,ct:=N,bk:=D.nx} Z2 H2)
noncomputable def Gu(fp:Ad Ai)(h:Ay):Ad (Ai × AD):=fp.filterMap λb=>(h.get? b).map λo=>(b,o)
theorem Ij(hb:b∈fp)(e:h.get? b=Aa o):(b,o)∈Gu fp h:=List.mem_filterMap.mpr ⟨b,hb,by rw[e];rfl⟩
theorem L8{p:Ai × AD}(hp:p∈Gu fp h):p.1∈fp/\h.get? p.1=Aa p.2:=by
 obtain⟨b,hb,e⟩:=List.mem_filterMap.mp hp;cases q:h.get? b with
 |none=>rw[q]at e;cases e
 |some o=>
  rw[q]at e;have e':(b,o)=p:=BC e;subst e';exact⟨hb,q⟩
theorem Inv.pinned(I:Inv X pI Z H s)(hf : ∀ b∈fp,Fq X pI H b)(ho : ∀ b∈fp,∃ o,s.heap.get? b=Aa o /\ ∀ v,o.data ≠ .cell v):Inv X (pI++Gu fp s.heap) Z H s:=
 I.pins_of λp hp=>(Fb.mp hp).elim (λz=>I.pin p (A6 _ z)) λz=>by
  obtain⟨hb,e⟩:=L8 z;obtain⟨f0,f1,f2,_⟩:=hf p.1 hb;obtain⟨o,e',d⟩:=ho p.1 hb;rw[e]at e';cases e';exact⟨e,f0,f1,f2,d⟩
theorem Inv.unpinned{pl:Ad (Ai × AD)}(I:Inv X (pI++pl) Z H s):Inv X pI Z H s:=I.pins_of λp hp=>I.pin p (A6 _ (Eb _ hp))
theorem Vp{iter:Ak}{wi:TI}{g:TG}{tb:TS}(hp:Dx (model X.prog X.w) X.A X.env X.xe)(hc:X.calm=Ab)(hi:PI X tg iter wi)(hg:PG X tg g)(hb:PSs X body tb)(hs : ∀ x,B1 iter X.env x=pure x:=by intro _;rfl):PS X (.For tg iter body [] pos) (Ye wi g tb):=by
 intro pI s Z H D I h;refine wpAny_For (thn (hi pI s Z H _ I h) λv s1 h1=>thn h1 λitv s2 h2 => ?_) hs
 obtain⟨it,fp,tn,J,H2,e,I2,T,st2,f2,W,⟨m0,w0⟩,turn⟩:=h2;subst e
 -- what stays Ab of the iterator's objects through the loop
 have stat : ∀{H':Hp},(∀ b∈fp,H' b=Af) -> ∀ b∈fp,Fq X pI H' b:=λhn b hb=>⟨hn b hb,(f2 b hb).2⟩
 refine codeAny_forLoop_any (λn s' => ∃ i Z' H',Inv X pI Z' H' s'/\tn i s'.heap/\(∀ b∈fp,H' b=Af)/\W i n Z' H') ?_ m0 ⟨0,Z,H2,I2,st2,λb hb=>(f2 b hb).1,w0⟩
 rintro n s3 ⟨i,Z3,H3,I3,st3,fr3,w3⟩;rcases turn i n Z3 H3 w3 with ⟨stop,qn⟩|⟨go,N,hN,step⟩
 .refine Dt hp (thn (T.done X rfl rfl rfl hc i pI s3 Z3 H3 X.xe I3 (stat fr3) st3 stop) λr s4 ⟨hr,I4⟩ => ?_)
  subst hr;exact Ds ⟨Z3,H3,I4,qn⟩
 .refine Dt hp (thn (T.item X rfl rfl rfl hc i pI s3 Z3 H3 X.xe I3 (stat fr3) st3 go) λr s4 ⟨u,hr,h4⟩ => ?_)
  subst hr;refine Dt hp (thn h4 λ_ s5 ⟨x,H5,I5,r5,y5,st5,fr5⟩ => ?_)
  have I5':=I5.pinned (stat fr5) (T.obj _ _ st5);refine Dt hp (thn (hg _ s5 Z3 H5 x u _ I5' r5 (step x H5 y5)) λ_ s6 ⟨Z6,H6,I6,q6⟩ => ?_)
  refine Dt hp (thn (hb _ s6 Z6 H6 _ I6 q6) λf s7 q7 => ?_)
  have again : ∀{Z7:St}{H7:Hp},Inv X (pI++Gu fp s5.heap) Z7 H7 s7->N Z7 H7 -> ∃ m,m<n /\ ∃ i Z' H',Inv X pI Z' H' s7/\tn i s7.heap/\(∀ b∈fp,H' b=Af)/\W i m Z' H':=λ{Z7 H7} I7 n7=>by
   obtain⟨m',hm,w7⟩:=hN Z7 H7 n7;refine⟨m',hm,i+1,Z7,H7,I7.unpinned,T.keep _ _ _ st5 λb hb o e=>(I7.pin (b,o) (A6 _ (A6 _ (Ij hb e)))).1,λb hb => ?_,w7⟩
   obtain⟨o,e,d⟩:=T.obj _ _ st5 b hb;exact(I7.pin (b,o) (A6 _ (A6 _ (Ij hb e)))).2.1
  cases f with
  |next=>obtain⟨Z7,H7,I7,n7⟩:=q7;exact again I7 n7
  |cont=>obtain⟨Z7,H7,I7,n7⟩:=q7;exact again I7 n7
  |brk=>obtain⟨Z7,H7,I7,q7⟩:=q7;exact⟨Z7,H7,I7.unpinned,q7⟩
  |ret v=>obtain⟨x7,Z7,H7,I7,r7,q7⟩:=q7;exact⟨x7,Z7,H7,I7.unpinned,r7,q7⟩
end
noncomputable abbrev R2:=V->V->Hp->VK->Prop
variable{r:R2}
noncomputable def OpR(X:Cx)(f:Ah->Ah->ED Ah)(r:R2):Prop:=
 ∀(pI:Ad (Ai × AD))(s:Am)(Z:St)(H:Hp)(x y:V)(v u:Ah)(Q:VK),Inv X pI Z H s->Bf x v->Bf y u->r x y H Q ->
  As (model X.prog X.w) X.A (f v u) (EP X pI Z Q) X.xe s
noncomputable def Ga(X:Cx)(f:Ah)(r:Ad V->Hp->VK->Prop):Prop:=
 ∀(pI:Ad (Ai × AD))(s:Am)(Z:St)(H:Hp)(xs:Ad V)(us:Ad Ah)(Q:VK),Inv X pI Z H s->AR xs us->r xs H Q ->
  As (model X.prog X.w) X.A (call f us) (EP X pI Z Q) X.xe s
noncomputable def Yt(X:Cx)(r:V->Hp->(Aj->Hp->Prop)->Prop):Prop:=
 ∀(pI:Ad (Ai × AD))(s:Am)(Z:St)(H:Hp)(x:V)(v:Ah)(Q:Aj->Hp->Prop),Inv X pI Z H s->Bf x v->r x H Q ->
  As (model X.prog X.w) X.A (truthy v) (TP X pI Z Q) X.xe s
noncomputable def tOp(r:R2)(ta tb:TE):TE:=λZ H Q=>ta Z H λx H1=>tb Z H1 λy H2=>r x y H2 Q
noncomputable def rI(C:Ao->Ao->Prop)(g:Ao->Ao->V):R2:=λx y H Q => ∃ i j,x = .int i/\y = .int j/\C i j/\Q (g i j) H
noncomputable def rI0(g:Ao->Ao->V):R2:=λx y H Q => ∃ i j,x = .int i/\y = .int j/\Q (g i j) H
section
variable{X:Cx}{a b c:Ak}{ta tb tc:TE}{pos:Az}
theorem Lg(ha:PE X a ta)(hb:PE X b tb){R:V->V->Hp->Prop}(I:Inv X pI Z H s)(h:ta Z H λx H1=>tb Z H1 λy H2=>R x y H2)(hf : ∀ v u s2 x y H2,Inv X pI Z H2 s2->Bf x v->Bf y u->R x y H2->As (model X.prog X.w) X.A (f v u) Q X.xe s2):As (model X.prog X.w) X.A (eval a X.env) (λv s₁=>As (model X.prog X.w) X.A (eval b X.env) (λu s₂=>As (model X.prog X.w) X.A (f v u) Q X.xe s₂) X.xe s₁) X.xe s:=by
 refine thn (ha pI s Z H _ I h) λv s1 ⟨x,H1,I1,r1,q1⟩ => ?_
 refine thn (hb pI s1 Z H1 _ I1 q1) λu s2 ⟨y,H2,I2,r2,q2⟩ => ?_
 exact hf v u s2 x y H2 I2 r1 r2 q2
theorem NO{op:Dw}(ho:OpR X (Bz op) r)(ha:PE X a ta)(hb:PE X b tb):PE X (.BinOp a op b pos) (tOp r ta tb):=by
 intro pI s Z H Q I h;exact wpAny_BinOp (Lg ha hb I h λv u s2 x y H2 I2 rx ry q=>ho pI s2 Z H2 x y v u Q I2 rx ry q)
theorem opI{C:Ao->Ao->Prop}(rule : ∀(i j:Ao)(t u:BY)(s:Am)(Q:Ah->Am->Prop)(E:Ah->Am->Prop),C i j->Q (.int (g i j) s.toks) {s with toks:=s.toks+1}->As (model X.prog X.w) X.A (f (.int i t) (.int j u)) Q E s):OpR X f (rI C λi j =>.int (g i j)):=by
 intro pI s Z H x y v u Q I rx ry h;obtain⟨i,j,rfl,rfl,hc,q⟩:=h;obtain⟨t,rfl⟩:=rx;obtain⟨t',rfl⟩:=ry;exact rule i j t t' s _ _ hc ⟨.int (g i j),H,I.tok _,⟨_,rfl⟩,q⟩
theorem N9(rule : ∀(i j:Ao)(t u:BY)(s:Am)(Q:Ah->Am->Prop)(E:Ah->Am->Prop),Q (.int (g i j) s.toks) {s with toks:=s.toks+1}->As (model X.prog X.w) X.A (f (.int i t) (.int j u)) Q E s):OpR X f (rI0 λi j =>.int (g i j)):=by
 intro pI s Z H x y v u Q I rx ry h;obtain⟨i,j,rfl,rfl,q⟩:=h;obtain⟨t,rfl⟩:=rx;obtain⟨t',rfl⟩:=ry;exact rule i j t t' s _ _ ⟨.int (g i j),H,I.tok _,⟨_,rfl⟩,q⟩
theorem IZ{g:Ao->Ao->Aj}(rule : ∀(i j:Ao)(t u:BY)(s:Am)(Q:Ah->Am->Prop)(E:Ah->Am->Prop),Q (.bool (g i j)) s->As (model X.prog X.w) X.A (f (.int i t) (.int j u)) Q E s):OpR X f (rI0 λi j =>.bl (g i j)):=by
 intro pI s Z H x y v u Q I rx ry h;obtain⟨i,j,rfl,rfl,q⟩:=h;obtain⟨t,rfl⟩:=rx;obtain⟨t',rfl⟩:=ry;exact rule i j t t' s _ _ ⟨.bl (g i j),H,I,rfl,q⟩
noncomputable def Yx(i j:Ao):Prop:=0<j/\j<1073741824
noncomputable def Yw(i j:Ao):Prop:=0<=j/\j<=1000000/\i.natAbs<2 ^ 64
noncomputable def Jn(i j:Ao):Prop:=(-(2 ^ 64)<i/\i<2 ^ 64)\/(-(2 ^ 64)<j/\j<2 ^ 64)
theorem Jn.ok{i j:Ao}(h:Jn i j):Hg i j:=by
 rcases h with ⟨h1,h2⟩|⟨h1,h2⟩
 .exact .of_left (intBits_le_64 h1 h2)
 .exact .of_right (intBits_le_64 h1 h2)
theorem V7:OpR X (Bz .Add) (rI0 λi j => .int (i+j)):=N9 λ_ _ _ _ _ _ _ q=>add_int q
theorem U_4:OpR X (Bz .Sub) (rI0 λi j => .int (i-j)):=N9 λ_ _ _ _ _ _ _ q=>sub_int q
theorem TM:OpR X (Bz .FloorDiv) (rI Yx λi j => .int (i/j)):=opI λi j _ _ _ _ _ hc q=>by
 have h1:(0:Ao)<j:=hc.1;have h2:j<1073741824:=hc.2;exact floordiv_int (by omega) (by rw[Int.fdiv_eq_ediv_of_nonneg i (by omega)];exact q) (.inl (PyProof.noPylong_small (by omega)))
theorem U_6:OpR X (Bz .Mod) (rI (λ_ j=>0<j) λi j => .int (i%j)):=opI λi j _ _ _ _ _ hc q=>by
 have h1:(0:Ao)<j:=hc;exact mod_int' (by omega) (by rw[Int.fmod_eq_emod_of_nonneg i (by omega)];exact q)
theorem U_5:OpR X (Bz .Pow) (rI Yw λi j => .int (i ^ j.toNat)):=opI λ_ _ _ _ _ _ _ hc q=>pow_int_small hc.1 hc.2.1 hc.2.2 q
end
section
variable{X:Cx}{a b c:Ak}{ta tb tc:TE}{pos:Az}
theorem Nu{Q:VK}{k k':Aj}(I:Inv X pI Z H s)(q:Q (.bl k) H)(e:k=k'):EP X pI Z Q (.bool k') s:=by
 subst e;exact⟨.bl k,H,I,rfl,q⟩
theorem Xa:OpR X (B6 .Lt) (rI0 λi j => .bl (decide (i<j))):=IZ λ_ _ _ _ _ _ _ q=>lt_int q
theorem Xb:OpR X (B6 .LtE) (rI0 λi j => .bl (decide (i<=j))):=IZ λ_ _ _ _ _ _ _ q=>le_int q
theorem Xc:OpR X (B6 .Gt) (rI0 λi j => .bl (decide (j<i))):=IZ λ_ _ _ _ _ _ _ q=>gt_int q
theorem Xd:OpR X (B6 .GtE) (rI0 λi j => .bl (decide (j<=i))):=IZ λ_ _ _ _ _ _ _ q=>ge_int q
theorem V6:OpR X (B6 .Is) (λx y H Q=>y = .non/\Q (.bl (decide (x = .non))) H):=by
 intro pI s Z H x y v u Q I rx ry h;obtain⟨rfl,q⟩:=h;cases ry;refine is_none_gen (Nu I q ?_);cases x <;> first
  |(cases rx;rfl)
  |(obtain⟨t,rfl⟩:=rx;rfl)
theorem TK:OpR X (B6 .IsNot) (λx y H Q=>y = .non/\Q (.bl (!decide (x = .non))) H):=by
 intro pI s Z H x y v u Q I rx ry h;obtain⟨rfl,q⟩:=h;cases ry;refine isnot_none_gen (Nu I q ?_);cases x <;> first
  |(cases rx;rfl)
  |(obtain⟨t,rfl⟩:=rx;rfl)
theorem Ut(ho:OpR X (B6 op) r)(ha:PE X a ta)(hb:PE X b tb)(hm:EE op b=Ac):PE X (.Compare a [op] [b] pos) (tOp r ta tb):=by
 intro pI s Z H Q I h;exact wpAny_Compare1 (Lg ha hb I h λv u s2 x y H2 I2 rx ry q=>ho pI s2 Z H2 x y v u Q I2 rx ry q) hm
noncomputable def NP(t:TE):TT:=λZ H Q=>t Z H λx H' => ∃ k,x = .bl k/\Q k H'
theorem Uj(ho:OpR X (B6 op) r)(ha:PE X a ta)(hb:PE X b tb)(hm:EE op b=Ac):PT X (.Compare a [op] [b] pos) (NP (tOp r ta tb)):=by
 intro pI s Z H Q I h;refine wpAny_isTrue_Compare1 (thn (ha pI s Z H _ I h) λv s1 ⟨x,H1,I1,r1,q1⟩=>thn (hb pI s1 Z H1 _ I1 q1) λu s2 ⟨y,H2,I2,r2,q2⟩=>
  thn (ho pI s2 Z H2 x y v u _ I2 r1 r2 q2) λc s3 ⟨z,H3,I3,r3,k,e,q3⟩ => ?_) hm
 subst e;cases r3;exact B2 ⟨H3,I3,q3⟩
noncomputable def Vw(r r':R2)(ta tb tc:TE):TE:=λZ H Q=>ta Z H λx H1=>tb Z H1 λy H2=>r x y H2 λz H3 => ∃ k,z = .bl k /\
 (if k=Ab then tc Z H3 λw' H4=>r' y w' H4 Q else Q (.bl Ac) H3)
theorem RQ{op':Ch}{r':R2}(ho:OpR X (B6 op) r)(ho':OpR X (B6 op') r')(ha:PE X a ta)(hb:PE X b tb)(hc:PE X c tc)(hm:lastMarks [op,op'] [b,c]=Ac:=by with_unfolding_all rfl):PT X (.Compare a [op,op'] [b,c] pos) (NP (Vw r r' ta tb tc)):=by
 intro pI s Z H Q I h;refine isTrue_chain (thn (ha pI s Z H _ I h) λv s1 ⟨x,H1,I1,r1,q1⟩=>test_link (thn (hb pI s1 Z H1 _ I1 q1) λu s2 ⟨y,H2,I2,r2,q2⟩=>
  thn (ho pI s2 Z H2 x y v u _ I2 r1 r2 q2) λd s3 ⟨z,H3,I3,r3,k,e,q3⟩ => ?_)) hm
 subst e;cases r3;refine B2 ?_;cases k with
 |false=>
  obtain⟨k',e',q'⟩:=q3;cases e';exact ite_ff ⟨H3,I3,q'⟩
 |true=>
  refine ite_tt (test_last (thn (hc pI s3 Z H3 _ I3 q3) λw' s4 ⟨z',H4,I4,r4,q4⟩=>thn (ho' pI s4 Z H4 y z' u w' _ I4 r2 r4 q4) λd' s5 ⟨z2,H5,I5,r5,k2,e2,q5⟩ => ?_))
  subst e2;cases r5;exact B2 ⟨H5,I5,q5⟩
noncomputable def OH(K:Fg)(x:V)(H:Hp)(k:Aj):Prop:=
  match x with
  |.non=>k=Ac
  |.bl b=>k=b
  |.int i=>k=(i != 0)
  |.str y=>y.length<=sizeLine/\k=((y.length:Ao) != 0)
  |.byt y=>y.size<=sizeLine/\k=((y.size:Ao) != 0)
  |.ref p=>(∃ xs,SqL K H p xs/\k = !xs.isEmpty)\/(∃ xs,SqT K H p xs/\k = !xs.isEmpty) \/ ∃ kvs,H p=Aa (.dK kvs)/\k = !kvs.isEmpty
  |_=>AT
theorem QZ{κ:Type}{kvs:Ad (κ × V)}{vs:Ad (κ × Ah)}(r:KV kvs vs):(!vs.isEmpty) = !kvs.isEmpty:=by
 cases r <;> rfl
theorem LH{its:Ad Ah}(r:AR xs its):(!its.toArray.isEmpty) = !xs.isEmpty:=by
 cases r <;> simp
theorem G2:(sizeLine:Ae)<2 ^ 63:=by rw[BX];decide
theorem Uz:Yt X (λx H Q => ∃ k,OH X.K x H k/\Q k H):=by
 intro pI s Z H x v Q I rx h;obtain⟨k,e,q⟩:=h;have hl:=G2;have hs:sizeLine=16777216:=BX;cases x with
 |non=>
  cases rx;have e':k=Ac:=e;subst e';exact truthy_none ⟨H,I,q⟩
 |bl b=>
  cases rx;have e':k=b:=e;subst e';exact B2 ⟨H,I,q⟩
 |int i=>
  obtain⟨t,rfl⟩:=rx;have e':k=(i != 0):=e;subst e';exact PySem.P.truthy_int ⟨H,I,q⟩
 |str y=>
  obtain⟨t,rfl⟩:=rx;obtain⟨hy,e'⟩:y.length<=sizeLine/\k=((y.length:Ao) != 0):=e;subst e';exact PySem.P.truthy_str (by omega) ⟨H,I.tok _,q⟩
 |byt y=>
  obtain⟨t,rfl⟩:=rx;obtain⟨hy,e'⟩:y.size<=sizeLine/\k=((y.size:Ao) != 0):=e;subst e';exact PySem.W.truthy_bytes (by omega) ⟨H,I.tok _,q⟩
 |ref p=>
  cases rx;have e':(∃ xs,SqL X.K H p xs/\k = !xs.isEmpty)\/(∃ xs,SqT X.K H p xs/\k = !xs.isEmpty) \/ ∃ kvs,H p=Aa (.dK kvs)/\k = !kvs.isEmpty:=e;rcases e' with ⟨xs,hx,e'⟩|⟨xs,hx,e'⟩|⟨kvs,hx,e'⟩
  .subst e';obtain⟨its,r,pl,hz⟩:=I.list hx;have hlen:=r.length;exact wpAny_truthy_list pl.isList (by simp only[A3];omega) ⟨H,I.tok _,by rw[LH r];exact q⟩
  .subst e';obtain⟨its,r,pl,hz⟩:=I.tuple hx;have hlen:=r.length;exact truthy_tuple pl (by simp only[A3];omega) ⟨H,I.tok _,by rw[LH r];exact q⟩
  .subst e';obtain⟨hz,hS,vs,r,m⟩:kvs.length<=sizeLine/\(p==GL)=Ac /\ ∃ vs,KV kvs vs/\s.heap.DictOf (J3 X.prog X.w) p vs:=I.hok p _ hx;have hlen:kvs.length=vs.length:=Qe r;exact wpAny_truthy_dict hS m (by omega) ⟨H,I.tok _,by rw[QZ r];exact q⟩
 |_=>exact(show AT from e).elim
theorem RP(ha:PE X a ta)(he : ∀ whole,Fx a X.env whole=(do let v <-whole;standAt a.pos;holding [v] (truthy v))):PT X a (λZ H Q=>ta Z H λx H' =>∃ k,OH X.K x H' k/\Q k H'):=by
 intro pI s Z H Q I h;exact isTrue_plain (thn (ha pI s Z H _ I h) λv s1 ⟨x,H1,I1,r1,q1⟩=>Uz pI s1 Z H1 x v Q I1 r1 q1) (he _)
theorem Q9:OpR X (Bz .Add) (λx y H Q => ∃ i j,x = .str i/\y = .str j/\i.length+j.length<=sizeLine/\Q (.str (i++j)) H):=by
 intro pI s Z H x y v u Q I rx ry h;obtain⟨i,j,rfl,rfl,hz,q⟩:=h;obtain⟨t,rfl⟩:=rx;obtain⟨t',rfl⟩:=ry;exact add_str (λt' tk=>⟨.str (i++j),H,I.tok _,⟨_,rfl⟩,q⟩) hz
theorem GA{x:V}(r:AR [x] us) : ∃ u,us=[u]/\Bf x u:=by
 cases r with
 |cons r1 r2=>cases r2;exact⟨_,rfl,r1⟩
theorem HH{x:V}(r:AR [x,y] us) : ∃ u w',us=[u,w']/\Bf x u/\Bf y w':=by
 cases r with
 |cons r1 r2=>
  cases r2 with
  |cons r3 r4=>cases r4;exact⟨_,_,rfl,r1,r3⟩
end
section
variable{prog:AE}{w:Ar}{A:AN}{E:Ah->Am->Prop}{s:Am}{K:Fg}{x dx C f:Ai}{mA:Ag->An Ah}{name:Ag}{v:Ah}
end
theorem HV.some_of{o:An Ah}(r:HV (Aa v) o) : ∃ u,o=Aa u/\Bf v u:=by
 cases o with
 |none=>exact(show AT from r).elim
 |some u=>exact⟨u,rfl,r⟩
theorem Rh(r:Bf v u):PySem.W.handedIn u=Ab:=by
 cases v with
 |non=>cases (show u=CB from r);rfl
 |bl b=>cases (show u=GJ b from r);rfl
 |int i=>obtain⟨t,e⟩:=(show ∃ t,u=Hc i t from r);cases e;rfl
 |str x=>obtain⟨t,e⟩:=(show ∃ t,u=Hd x t from r);cases e;rfl
 |byt b=>obtain⟨t,e⟩:=(show ∃ t,u=Qt b t from r);cases e;rfl
 |flt b=>obtain⟨t,e⟩:=(show ∃ t,u=Qu b t from r);cases e;rfl
 |ref a=>cases (show u=BH a from r);rfl
 |ty n=>cases (show u=Qv n from r);rfl
section
variable{P:AE}{w:Ar}{H H':Hp}{h h':Ay}{a C dx:Ai}{fs fs':Ad (Ag × V)}
end
section
variable{X:Cx}{pI:Ad (Ai × AD)}{Z:St}{H:Hp}{s:Am}{a C dx:Ai}{fs:Ad (Ag × V)}{f:Ag}{v:V}{A:AN}{E:Ah->Am->Prop}
theorem UW{prog:AE}{w:Ar}{env:BF}{f:Ag}(hb:Dd e f env (eval e env)=eval e env)(h:As (model prog w) A (eval e env) (λo s₁=>As (model prog w) A (getAttr o f Ab) Q E s₁) E s):As (model prog w) A (eval (.Attribute e f pos) env) Q E s:=
 Attribute_any_ h (by rw[arm_eval_Attribute,hb])
end
section
variable{X:Cx}{o e value:Ak}{f:Ag}{pos pos' tpos:Az}{ta tv:TE}
end
section
variable{X:Cx}{pI:Ad (Ai × AD)}{Z:St}{H:Hp}{s:Am}{A:AN}{E:Ah->Am->Prop}{Q:Ah->Am->Prop}{c:Ah}{b:Aj}
end
structure Room (k:Ae) (A:AN):Prop where
 hd:A.handled=Af
 dp:A.depth+3*k+5<FC
 un:A.units+16*k+200<Br
 gd:A.guards=Aa []
theorem Room.mono{A:AN}(r:Room k A)(h:j<=k):Room j A:=⟨r.hd,by have:=r.dp;omega,by have:=r.un;omega,r.gd⟩
theorem Room.deeper{A:AN}(r:Room (k+1) A)(env:BF):Room k (A.deeper env):=
 ⟨r.hd,by have:=r.dp;show A.depth+1+3*k+5<_;omega,by have:=r.un;show A.units+3+16*k+200<_;omega,r.gd⟩
theorem LG{A:AN}{C:Ai}:(A.under (.builtin "type.__call__" ⟨.ref C::us,kw⟩)).depth=A.depth+1:=by
 first|rfl|simp[FY,Code.weight,Code.isCreation,Code.isGuard,Code.isCaller,Pw,FZ,guardIds]
theorem LF{A:AN}{C:Ai}:(A.under (.builtin "type.__call__" ⟨.ref C::us,kw⟩)).units=A.units+1:=by
 first|rfl|simp[FY,Code.cUnits,Pw,FZ]
theorem Room.depth{A:AN}(r:Room k A):A.depth<FC:=by have:=r.dp;omega
theorem Room.units{A:AN}(r:Room k A):A.units+64<Br:=by have:=r.un;omega
noncomputable def Yq:TA:=λ_ H Q=>Q [] H
noncomputable def WN(ta:TE)(tr:TA):TA:=λZ H Q=>ta Z H λx H1=>tr Z H1 λxs H2=>Q (x::xs) H2
section
variable{X:Cx}{e:Ak}{es:Ad Ak}{te:TE}{t:TA}{pos:Az}
theorem EH:PA X [] Yq:=λ_ _ _ _ H Q I h=>Calls.spliced_nil ⟨[],H,I,.nil,h⟩
theorem Dk(ha:PE X e te)(hr:PA X es t)(hs:Ap (e::es) X.env=(Ac,eval e X.env)::Ap es X.env:=by rfl):PA X (e::es) (WN te t):=by
 intro pos pI s Z H Q I h;rw[hs];show As _ _ (spliced ((Ac,eval e X.env)::Bk pos (Ap es X.env))) _ _ s;refine Calls.spliced_cons (thn (ha pI s Z H _ I h) λu s1 ⟨x,H1,I1,r1,q1⟩ => ?_)
 exact thn (hr pos pI s1 Z H1 _ I1 q1) λus s2 ⟨xs,H2,I2,r2,q2⟩=>⟨x::xs,H2,I2,.cons r1 r2,q2⟩
noncomputable def Yl(t:TA):TE:=λZ H Q=>t Z H λxs H1=>xs.length<=sizeLine /\ ∀ p,H1 p=Af->Q (.ref p) (upd H1 p (.tup xs))
noncomputable def Yr(t:TA):TE:=λZ H Q=>t Z H λxs H1=>xs.length<=sizeLine /\ ∀ p,H1 p=Af->Q (.ref p) (upd H1 p (.lst xs))
theorem M9{x1}(h:PA X es t):PE X (.Tuple es x1 pos) (Yl t):=by
 intro pI s Z H Q I hq;refine wpAny_Tuple_spliced (thn (h pos pI s Z H _ I hq) λus s1 ⟨xs,H1,I1,r,z,q⟩=>⟨by rw[<-r.length];exact z,?_⟩)
 have hf:H1 s1.heap.objs.size=Af:=I1.hok.fresh (AW _);refine⟨.ref s1.heap.objs.size,upd H1 s1.heap.objs.size (.tup xs),I1.laid (t':=s1.toks) (λb u e=>Ax _ e) (AW _) ?_,rfl,q _ hf⟩
 exact⟨z,us,r,⟨_,Bv _ rfl,rfl,_,rfl⟩⟩
theorem U_1(h:PA X es t):PE X (.List es pos) (Yr t):=by
 intro pI s Z H Q I hq;refine wpAny_List_spliced (thn (h pos pI s Z H _ I hq) λus s1 ⟨xs,H1,I1,r,z,q⟩=>⟨by rw[<-r.length];exact z,?_⟩)
 have hf:H1 s1.heap.objs.size=Af:=I1.hok.fresh (AW _);refine⟨.ref s1.heap.objs.size,upd H1 s1.heap.objs.size (.lst xs),I1.laid (t':=s1.toks) (λb u e=>Ax _ e) (AW _) ?_,rfl,q _ hf⟩
 exact⟨z,us,0,r,Bv _ rfl⟩
end
noncomputable abbrev Sp:=Ad V->Hp->VK->XK->Prop
variable{sp:Sp}
noncomputable abbrev CXT:=Ad BF->Hp->Am->XK->Ah->Am->Prop
variable{CX:CXT}
structure Env0 (P:AE) (w:Ar) (K:Fg) (mg:Ag->An Ah) (base:Ay) (A:AN) (outer:Ad BF) (s:Am) (H:Hp):Prop where
 frames:A.frames=Aa outer
 mod:Mod K mg base
 bs : ∀ b o,base.get? b=Aa o->s.heap.get? b=Aa o/\H b=Af
 bsz:base.objs.size<=s.heap.objs.size
 funs:s.heap.FunFrames base outer
 frf : ∀ b∈frs outer,H b=Af
 hok:HOk P w H s.heap
 bare:DE s.gens
noncomputable def CE(outer:Ad BF)(P:AE)(w:Ar)(H:Hp)(s:Am)(Q:VK)(u:Ah)(s':Am):Prop:=
 ∃ v H',s'.os=s.os/\DE s'.gens/\Un (frs outer) [] H H' s.heap s'.heap/\HOk P w H' s'.heap/\Bf v u/\Q v H'
noncomputable def CR(CX:CXT)(outer:Ad BF)(P:AE)(w:Ar)(H:Hp)(s:Am)(Q:VK)(E:XK)(r:Fv)(s':Am):Prop:=
  match r with
  |.ok (.ret u)=>CE outer P w H s Q u s'
  |.ok _=>AT
  |.error e=>CX outer H s E e s'
structure FnOk (P:AE) (w:Ar) (K:Fg) (mg:Ag->An Ah) (base:Ay) (CX:CXT) (k:Ae) (f:Ai) (fd:Bn) (ps:Ad Ag) (sp:Sp):Prop where
 len : ∀ vs H Q E,sp vs H Q E->vs.length=ps.length
 run : ∀(A:AN)(outer:Ad BF)(s:Am)(H:Hp)(args:Args)(us:Ad Ah)(vs:Ad V)(Q:VK)(E:XK),Room k A->Env0 P w K mg base A outer s H->En s fd args (ps.zip us)->AR vs us->sp vs H Q E ->
  DG (model P w) A (.call (.ref f) args) (CR CX outer P w H s Q E) s
theorem FnOk.imp{w:Ar}{K:Fg}{mg:Ag->An Ah}{base:Ay}{f:Ai}{sp':Sp}(F:FnOk P w K mg base CX k f fd ps sp)(h : ∀ vs H Q E,sp' vs H Q E->sp vs H Q E):FnOk P w K mg base CX k f fd ps sp':=
 ⟨λvs H Q E q=>F.len vs H Q E (h _ _ _ _ q),λA outer s H args us vs Q E hr he hb hv hs=>F.run A outer s H args us vs Q E hr he hb hv (h _ _ _ _ hs)⟩
theorem Env0.make{w:Ar}{K:Fg}{mg:Ag->An Ah}{base:Ay}{A:AN}{outer:Ad BF}(e:Env0 P w K mg base A outer s H)(C:Ai)(us:Ad Ah)(kw:Ad (Ag × Ah)):
    Env0 P w K mg base (A.under (.builtin "type.__call__" ⟨.ref C::us,kw⟩)) outer s H:=⟨by first|exact e.frames|(simpa [FY,Code.envs,FZ,pushEnvs] using e.frames),e.mod,e.bs,e.bsz,e.funs,e.frf,e.hok,e.bare⟩
section
variable{X:Cx}{pI:Ad (Ai × AD)}{Z:St}{H:Hp}{s s':Am}
theorem Inv.env0(I:Inv X pI Z H s):Env0 X.prog X.w X.K X.mg X.base X.A X.stack s H:=
 ⟨I.ok.frames,I.ok.mod,I.bs,BR I.ok.bsz I.sz,I.stack,I.stkFree,I.hok,I.bare⟩
theorem Inv.after{Q:VK}(I:Inv X pI Z H s)(h:CE X.stack X.prog X.w H s Q u s'):EP X pI Z Q u s':=by
 obtain⟨v,H',os,bare,un,hok,r,q⟩:=h;obtain⟨hh,g,d,t,os'⟩:=s';obtain rfl:os'=s.os:=os;exact⟨v,H',I.call (h':=hh) (g':=g) (d':=d) (t':=t) (ch:=[]) un hok bare (λb z=>absurd z (by simp)),r,q⟩
end
noncomputable def WO(sp:Sp)(dvs:Ad V)(E:XK)(t:TA):TE:=λZ H Q=>t Z H λvs H1=>sp (vs++dvs) H1 Q E
noncomputable def Ej(K:Fg)(fd:Bn)(ps:Ad Ag)(ds:Ad Ah):Prop:=
 ∀(s:Am)(us:Ad Ah),K.In s.heap->(us++ds).length=ps.length->En s fd ⟨us,[]⟩ (ps.zip (us++ds))
theorem Ej.all{K:Fg}(h : ∀ us:Ad Ah,us.length=ps.length->E2 fd ⟨us,[]⟩=pure (ps.zip us)):Ej K fd ps []:=λs us _ hl=>by
 rw[B4]at hl ⊢;exact .of_eq (h us hl)
noncomputable def G4(CX:CXT)(X:Cx)(E:XK):Prop := ∀(pI:Ad (Ai × AD))(Z:St)(H:Hp)(s:Am)(e:Ah)(s':Am),Inv X pI Z H s->CX X.stack H s E e s'->X.xe e s'
section
variable{X:Cx}{CX:CXT}{k:Ae}{f C:Ai}{fd:Bn}{ps:Ad Ag}{sp:Sp}{dvs:Ad V}{ds:Ad Ah}{E:XK}{x m:Ag}{p pos apos:Az}{e o:Ak}{es:Ad Ak}{ta:TE}{t:TA}
theorem Vj{Q:VK}(F:FnOk X.prog X.w X.K X.mg X.base CX k f fd ps sp)(hr:Room k X.A)(hb:Ej X.K fd ps ds)(hd:AR dvs ds)(hx:G4 CX X E)(I:Inv X pI Z H s)(r:AR vs us)(h:sp (vs++dvs) H Q E):As (model X.prog X.w) X.A (call (.ref f) us) (EP X pI Z Q) X.xe s:=by
 have r2:AR (vs++dvs) (us++ds):=r.append hd;have hl:(us++ds).length=ps.length:=by rw[<-r2.length];exact F.len _ _ _ _ h
 refine Eh (Dz (F.run X.A X.stack s H ⟨us,[]⟩ (us++ds) (vs++dvs) Q E hr I.env0 (hb s us I.kIn hl) r2 h) λr s' hq => ?_)
 cases r with
 |error e=>exact hx pI Z H s e s' I hq
 |ok fl=>
  cases fl with
  |ret u=>exact I.after hq
  |next=>exact AY hq
  |brk=>exact AY hq
  |cont=>exact AY hq
theorem MH(F:FnOk X.prog X.w X.K X.mg X.base CX k f fd ps sp)(hr:Room k X.A)(hg:Gl X x)(hm:X.mg x=Aa (.ref f))(hk:Be X.K (.ref f)=Ab)(hb:Ej X.K fd ps ds)(hd:AR dvs ds)(hx:G4 CX X E)(ha:PA X (e::es) t)(hdb:(x==("__debug__" : Ag))=Ac:=by decide)(he:Ap (e::es) X.env=(Ac,eval e X.env)::Ap es X.env:=by rfl)(hpl:(Bk pos (Ap es X.env)).any (·.1)=Ac:=by rfl):PE X (.Call (.Name x p) (e::es) [] pos) (WO sp dvs E t):=by
 intro pI s Z H Q I h;refine Cq (FI I hg hm ?_ hdb);refine Dy (h₀:=X.base) I.ok.mod.kin hk (thn (ha pos pI s Z H _ I h) λus s1 ⟨vs,H1,I1,r,q⟩=>⟨I1.kIn,?_⟩) he hpl
 exact Vj F hr hb hd hx I1 r q
end
section
variable{X:Cx}{CX:CXT}{k:Ae}{f C:Ai}{fd:Bn}{ps ks:Ad Ag}{sp:Sp}{E:XK}{x m:Ag}{p pos apos kpos:Az}{e o:Ak}{es:Ad Ak}{kws:Ad Dg}{te ta:TE}{t tk:TA}{nm:An Ag}
variable{g:Ad Ah->Ad Ah->Ad Ah}{gV:Ad V->Ad V->Ad V}
end
structure FnScope (N P:Ad Ag) (sc:By):Prop where
 kind:sc.kind = .function
 co:sc.isCoroutine=Ac
 gen:sc.isGenerator=Ac
 nd:N.Nodup
 pre:N.take P.length=P
 par : ∀ x∈P,sc.names.lookup x=Aa .local\/sc.names.lookup x=Aa .cell
 nofree : ∀ y∈sc.names,y.2 ≠ .free
theorem LS{kindOf:Ag->An CJ}{x:Ag} : ∀{binds:Ad (Ag × Ah)}{m:Ag->An Ah},(∀ v,(x,v) ∉ binds)->FF kindOf binds m x=m x
 |[],_,_=>rfl
 |(n,v)::r,m,h=>by
  unfold FF;rw[LS λw hw=>h w (AG _ hw)]
  split
  .have:x≠n:=by rintro rfl;exact h v AU
   simp[this]
  .rfl
theorem LV{kindOf:Ag->An CJ}{x:Ag} : ∀{binds:Ad (Ag × Ah)}{m:Ag->An Ah},(∀ v,(x,v) ∉ binds)->FE kindOf binds m x=m x
 |[],_,_=>rfl
 |(n,v)::r,m,h=>by
  unfold FE;rw[LV λw hw=>h w (AG _ hw)]
  split
  .rfl
  .have:x≠n:=by rintro rfl;exact h v AU
   simp[this]
theorem LU{kindOf:Ag->An CJ}{x:Ag}{v:Ah} :∀{P:Ad Ag}{vs:Ad Ah}{i:Ae}{m:Ag->An Ah},P.Nodup->P[i]? = Aa x->vs[i]? = Aa v->kindOf x=Aa .local->FF kindOf (P.zip vs) m x=Aa v
 |[],_,_,_,_,h,_,_=>by simp at h
 |_::_,[],_,_,_,_,h,_=>by simp at h
 |p::P,w::vs,0,m,nd,h1,h2,hk=>by
  simp at h1 h2;subst h1;subst h2;show FF kindOf ((p,w)::P.zip vs) m p=_;unfold FF;rw[LS λv hv=>(Ec.mp nd).1 (Fc hv).1,AX hk]
  simp
 |p::P,w::vs,i+1,m,nd,h1,h2,hk=>by
  show FF kindOf ((p,w)::P.zip vs) m x=_;unfold FF;exact LU (i:=i) (Ec.mp nd).2 (by simpa using h1) (by simpa using h2) hk
theorem LW{kindOf:Ag->An CJ}{x:Ag}{v:Ah} :∀{P:Ad Ag}{vs:Ad Ah}{i:Ae}{m:Ag->An Ah},P.Nodup->P[i]? = Aa x->vs[i]? = Aa v->kindOf x≠Aa .local->FE kindOf (P.zip vs) m x=Aa v
 |[],_,_,_,_,h,_,_=>by simp at h
 |_::_,[],_,_,_,_,h,_=>by simp at h
 |p::P,w::vs,0,m,nd,h1,h2,hk=>by
  simp at h1 h2;subst h1;subst h2;show FE kindOf ((p,w)::P.zip vs) m p=_;unfold FE;rw[LV λv hv=>(Ec.mp nd).1 (Fc hv).1,A8 hk]
  simp
 |p::P,w::vs,i+1,m,nd,h1,h2,hk=>by
  show FE kindOf ((p,w)::P.zip vs) m x=_;unfold FE;exact LW (i:=i) (Ec.mp nd).2 (by simpa using h1) (by simpa using h2) hk
noncomputable def start(N:Ad Ag)(vs:Ad V):St:=vs.map Aa++DC (N.length-vs.length) Af
noncomputable def D5(CX:CXT)(P:AE)(w:Ar)(K:Fg)(mg:Ag->An Ah)(base:Ay)(N:Ad Ag)(qual:Ag)(scope:By)(f:Ai)(cd:Ah)(A:AN)(outer:Ad BF)(s:Am)(H:Hp)(E:XK):Cx where
 prog:=P
 w:=w
 K:=K
 mg:=mg
 base:=base
 A:=A.deeper (Db qual scope s.heap.objs.size f cd)
 N:=N
 s₀:=s
 H₀:=H
 env:=Db qual scope s.heap.objs.size f cd
 outer:=outer
 stack:=Db qual scope s.heap.objs.size f cd::outer
 ex:=[]
 calm:=Ab
 fn:=λ_=>Ab
 pn:=[]
 xe:=λe s'=>As (model P w) (A.deeper (Db qual scope s.heap.objs.size f cd)) (leaving (Db qual scope s.heap.objs.size f cd) e) (λ_ s''=>CX outer H s E e s'') (λe' s''=>CX outer H s E e' s'') s'
theorem Mo{sc:By}(h:sc.names.lookup x=Aa .cell) : ∃ c,(B5 n sc.names []).lookup x=Aa c:=by
 have q:=Qz sc.names n [] (.inl h);exact BS.mp q
theorem Ma{w:Ar}{K:Fg}{mg:Ag->An Ah}{base:Ay}{N ps:Ad Ag}{f:Ai}{cd:Ah}{A:AN}{outer:Ad BF}{s1:Am}{E:XK}(S:FnScope N ps scope)(hd:A.handled=Af)(e0:Env0 P w K mg base A outer s H)(hl:vs.length=ps.length)(r:AR vs us)(x:InCallC s s.heap.objs.size (FF (Db qual scope s.heap.objs.size f cd).kindOf (ps.zip us) λ_=>Af) (B5 (s.heap.objs.size+1) scope.names []) (FE (Db qual scope s.heap.objs.size f cd).kindOf (ps.zip us) λ_=>Af) s1):Inv (D5 CX P w K mg base N qual scope f cd A outer s H E) [] (start N vs) H s1:=by
 have hpl:ps.length<=N.length:=by have:=congrArg List.length S.pre;rw[List.length_take]at this;omega
 obtain⟨h1,tk,rfl,hk⟩:=x.done;have noA : ∀ b:Ai,b ∉ (D5 CX P w K mg base N qual scope f cd A outer s H E).ex:=λb z=>absurd (show b∈([]:Ad Ai) from z) (by simp)
 refine⟨⟨e0.mod,S.kind,rfl,rfl,AW _,λy z c h1 h2 => ?_,λy hy => ?_,λy c _ h => ?_,λ_=>hd,Around.frames_deeper e0.frames,.inr ⟨rfl,rfl⟩,λb z=>absurd z (noA b),e0.bs,e0.bsz,λb _ _=>noA b,λb z=>absurd z (noA b),e0.funs,e0.frf⟩,
  rfl,e0.bare,Un.kept hk,⟨_,x.toInCall.ns,λi y v h1 h2 h3 => ?_⟩,λy c h=>⟨_,x.cell y c h⟩,e0.hok.fresh (AW _),λy c h => ?_,λp hp=>absurd (show p∈([]:Ad (Ai × AD)) from hp) (by simp),e0.hok.kept hk,?_⟩
 .exact name_of_addr x.apart (BN h1) (BN h2)
 .have hy:scope.names.lookup y=Aa .cell\/scope.names.lookup y=Aa .free:=hy;rcases hy with hy|hy
  .exact Mo hy
  .exact absurd rfl (S.nofree _ (BN hy))
 .exact Ed (x.above y c (BN h))
 .have hi:i<vs.length:=by
   unfold start at h2;by_cases hi:i<vs.length
   .exact hi
   .rw[O5 (by simpa using hi)]at h2
    rw[O6]at h2;split at h2 <;> cases h2
  have ha:vs[i]? = Aa v:=by
   unfold start at h2;rw[Dp (by simpa using hi),CZ]at h2
   cases e:vs[i]? with
   |none=>rw[e]at h2;cases h2
   |some a=>rw[e]at h2;cases h2;rfl
  obtain⟨u,hu,rv⟩:=r.get ha;have hp:ps[i]? = Aa y:=by
   rw[<-S.pre,List.getElem?_take_of_lt (by omega)];exact h1
  have ndP:ps.Nodup:=by rw[<-S.pre];exact S.nd.sublist (List.take_sublist _ _)
  refine⟨u,rv,?_⟩;rcases S.par y (O9 hp) with k|k
  .exact .inl ⟨k,LU ndP hp hu k⟩
  .obtain⟨c,e⟩:=Mo (n:=s.heap.objs.size+1) k;refine .inr ⟨.inl k,c,e,?_⟩;have q:=x.cell y c e;rw[LW ndP hp hu (by show scope.names.lookup y≠_;rw[k];decide)]at q
   exact q
 .exact e0.hok.fresh (Ed (x.above y c (BN h)))
 .unfold start;show _=N.length;rw[Cf,Cr,O7];omega
theorem NZ{w:Ar}{K:Fg}{mg:Ag->An Ah}{base:Ay}{f:Ai}{name:Ag}{params:Arguments}{dV kV doc pm cdv ct oc:Ah}{an od:An Ai}{osl:Bb (An Ah)}{N ps:Ad Ag}(lk:K.lookup f=Aa ⟨oc,od,.func (BL name qual params body scope dV kV doc pm an cdv ct),osl⟩)(hcd:C2 K cdv qual=Ab)(S:FnScope N ps scope)(len : ∀ vs H Q E,sp vs H Q E->vs.length=ps.length)(hbody : ∀(A:AN)(outer:Ad BF)(s:Am)(H:Hp)(vs:Ad V)(Q:VK)(E:XK),Room k (A.deeper (Db qual scope s.heap.objs.size f cdv))->sp vs H Q E ->
   ∃ t,PSs (D5 CX P w K mg base N qual scope f cdv A outer s H E) body t/\t {nx:=λ_ H'=>Q .non H',rt:=Q} (start N vs) H):FnOk P w K mg base CX (k+1) f (BL name qual params body scope dV kV doc pm an cdv ct) ps sp:=by
 refine⟨len,λA outer s H args us vs Q E hr e0 hb r hsp => ?_⟩
 have hl:=len _ _ _ _ hsp;have KX:K.In s.heap:=e0.mod.kin.keeps λb o e=>(e0.bs b o e).1
 have lim:s.heap.NoLimit:=e0.mod.nolimit.keeps λb o e=>(e0.bs b o e).1
 have hkind : ∀ y∈ps.zip us,scope.names.lookup y.1=Aa .local\/(scope.names.lookup y.1=Aa .cell/\((B5 (s.heap.objs.size+1) scope.names []).lookup y.1).isSome=Ab):=λ⟨n,v⟩ hy=>by
  rcases S.par n (Fc hy).1 with q|q
  .exact .inl q
  .exact .inr ⟨q,Qz _ _ _ (.inl q)⟩
 refine QH hr.depth (KX _ _ lk) rfl S.co S.gen rfl (QA KX hcd) (hb _ _ _ _ ?_);refine QN S.kind hkind λenv he s1 x => ?_
 subst he;refine⟨lim.keeps x.toInCall.keep,codeAny_func ?_⟩;obtain⟨t,ht,hq⟩:=hbody A outer s H vs Q E (hr.deeper _) hsp;have I:Inv (D5 CX P w K mg base N qual scope f cdv A outer s H E) [] (start N vs) H s1:=Ma S hr.hd e0 hl r x;refine A2 (ht [] s1 (start N vs) H _ I hq) (λfl s' hs => ?_) λe s' hs=>hs
 have fin : ∀{Z':St}{H':Hp}{v:V}{u:Ah},Inv (D5 CX P w K mg base N qual scope f cdv A outer s H E) [] Z' H' s'->Bf v u->Q v H'->CE outer P w H s Q u s':=
  λ{Z' H' v u} J rv q=>⟨v,H',J.os,J.bare,J.base,J.hok,rv,q⟩
 cases fl with
 |ret u=>
  obtain⟨v,Z',H',J,rv,q⟩:=hs;exact fin J rv q
 |next=>
  obtain⟨Z',H',J,q⟩:=hs;exact fin (v:=V.non) (u:=CB) J rfl q
 |brk=>
  obtain⟨_,_,_,q⟩:=hs;exact AY q
 |cont=>
  obtain⟨_,_,_,q⟩:=hs;exact AY q
section
variable{X:Cx}{x:Ag}{p pos:Az}{e:Ak}{es:Ad Ak}{t:TA}{id T:Ca}{r:Ad V->Hp->VK->Prop}
noncomputable def tCB(r:Ad V->Hp->VK->Prop)(t:TA):TE:=λZ H Q=>t Z H λvs H1=>r vs H1 Q
theorem Hm(hc:Ga X (.builtin id) r)(hg:Gl X x)(hm:X.mg x=Af)(hv:B9 x=Aa (.builtin id))(ha:PA X (e::es) t)(hn:x ≠ "__name__" := by decide)(hdb:(x==("__debug__" : Ag))=Ac:=by decide)(he:Ap (e::es) X.env=(Ac,eval e X.env)::Ap es X.env:=by rfl)(hpl:(Bk pos (Ap es X.env)).any (·.1)=Ac:=by rfl):PE X (.Call (.Name x p) (e::es) [] pos) (tCB r t):=by
 intro pI s Z H Q I h;refine Cq (HB I hg hm hv ?_ hn hdb);exact PyProof.Rows.callWith_builtin1 (thn (ha pos pI s Z H _ I h) λus s1 ⟨vs,H1,I1,r1,q1⟩=>hc pI s1 Z H1 vs us Q I1 r1 q1) he hpl
theorem L7(hc:Ga X (.type T) r)(hg:Gl X x)(hm:X.mg x=Af)(hv:B9 x=Aa (.type T))(ha:PA X (e::es) t)(hn:x ≠ "__name__" := by decide)(hdb:(x==("__debug__" : Ag))=Ac:=by decide)(he:Ap (e::es) X.env=(Ac,eval e X.env)::Ap es X.env:=by rfl)(hpl:(Bk pos (Ap es X.env)).any (·.1)=Ac:=by rfl):PE X (.Call (.Name x p) (e::es) [] pos) (tCB r t):=by
 intro pI s Z H Q I h;refine Cq (HB I hg hm hv ?_ hn hdb);exact C6 (thn (ha pos pI s Z H _ I h) λus s1 ⟨vs,H1,I1,r1,q1⟩=>hc pI s1 Z H1 vs us Q I1 r1 q1) he hpl
end
end L2
namespace HT
open PySem PyProof.Rows
section
open PySem.SeqAt
open PySem.AutoSeq1 (wpAny_loadPart')
open PySem.MeetsSeq PySem.MeetsSeq2 PySem.MeetsSeq3
end
section
variable{prog:AE}{w:Ar}{A:AN}{E:Ah->Am->Prop}{s:Am}
theorem cat_tup{t b:Ai}{vs ws:Ad Ah}{Q:Ah->Am->Prop}(ht:He s.heap t vs.toArray)(hb:He s.heap b ws.toArray)(hv:vs≠[])(h1:ws=[]->Q (.ref t) s)(h2:ws≠[]->Q (.ref s.heap.objs.size) { s with heap:=s.heap.push { cls := .type "tuple",data := .seq (vs++ws).toArray } })(hsz:vs.length+ws.length<=sizeLine):As (model prog w) A (Bz .Add (.ref t) (.ref b)) Q E s:=by
 obtain⟨⟨cls,dd,data,sl⟩,ho,hc,n,hd⟩:=id ht;obtain⟨⟨cls2,dd2,data2,sl2⟩,ho2,hc2,n2,hd2⟩:=id hb;simp only at hc hd hc2 hd2;subst hc hd hc2 hd2;have e:vs.toArray++ws.toArray=(vs++ws).toArray:=by simp
 by_cases hw:ws=[]
 .exact F2 ⟨_,ho,rfl⟩ ⟨_,ho2,rfl⟩ QI seq_tuple_add P9 P7 (P5 _ _)
   (tuple_addW1 t b vs.toArray ws.toArray n n2 dd dd2 sl sl2 (by simpa using hv) (by simp[hw])) ⟨ho,ho2,h1 hw⟩
 .refine F2 ⟨_,ho,rfl⟩ ⟨_,ho2,rfl⟩ QI seq_tuple_add P9 P7 (P5 _ _)
   (tuple_addW2 t b vs.toArray ws.toArray n n2 dd dd2 sl sl2 (by simpa using hv) (by simpa using hw) (by rw[A3,A3];exact hsz)) ⟨ho,ho2,?_⟩
  rw[e];exact h2 hw
end
end HT
namespace L2
open PySem PySem.Spec PyProof.Rows
variable{xs:Ad V}{us its:Ad Ah}{n t':Ae}{i:Ao}{r:R2}{pI:Ad (Ai × AD)}{Z:St}{H:Hp}{s:Am}
noncomputable abbrev TO:=St->Hp->(An Ao->Hp->Prop)->Prop
noncomputable def PO(X:Cx)(e:An Ak)(t:TO):Prop:=
 ∀(pI:Ad (Ai × AD))(s:Am)(Z:St)(H:Hp)(Q:An Ao->Hp->Prop),Inv X pI Z H s->t Z H Q ->
  As (model X.prog X.w) X.A (evalPart e X.env) (λu s' => ∃ o H',Inv X pI Z H' s'/\IsPart u o/\Q o H') X.xe s
noncomputable def Tb:TO:=λ_ H Q=>Q Af H
noncomputable def WJ(t:TE):TO:=λZ H Q=>t Z H λx H1 => ∃ i,x = .int i/\Q (Aa i) H1
section
variable{X:Cx}{e:Ak}{te:TE}{lo hi:An Ak}{tl th:TO}{pos p2:Az}
theorem Up:PO X Af Tb:=by
 intro pI s Z H Q I h;rw[evalPart_none];exact Bo ⟨Af,H,I,.none,h⟩
theorem Uo(h:PE X e te):PO X (Aa e) (WJ te):=by
 intro pI s Z H Q I hw;rw[evalPart_some];refine thn (h pI s Z H _ I hw) λu s1 ⟨x,H1,I1,r1,q1⟩ => ?_
 obtain⟨i,rfl,q⟩:=q1;obtain⟨t,rfl⟩:=r1;exact⟨Aa i,H1,I1,.int i t,q⟩
noncomputable def W2(K:Fg):R2:=λx y H Q => ∃ a b xs ys,x = .ref a/\y = .ref b/\SqT K H a xs/\SqT K H b ys/\xs≠[]/\xs.length+ys.length<=sizeLine /\
 (ys=[]->Q (.ref a) H)/\(ys≠[] -> ∀ p,H p=Af->Q (.ref p) (upd H p (.tup (xs++ys))))
theorem AR.nil_iff(r:AR xs us):us=[]↔xs=[]:=by
 cases r with
 |nil=>simp
 |cons _ _=>simp
theorem TN:OpR X (Bz .Add) (W2 X.K):=by
 intro pI s Z H x y v u Q I rx ry h;obtain⟨a,b,xs,ys,rfl,rfl,ha,hb,hx,hz,q1,q2⟩:=h;cases rx;cases ry;obtain⟨its,r1,p1,_⟩:=I.tuple ha;obtain⟨its2,r2,p2,_⟩:=I.tuple hb;refine HT.cat_tup p1 p2 (λz=>hx (r1.nil_iff.mp z)) (λz=>⟨.ref a,H,I,rfl,q1 (r2.nil_iff.mp z)⟩) (λz => ?_) (by rw[<-r1.length,<-r2.length];exact hz)
 refine⟨.ref s.heap.objs.size,_,I.laid (t':=s.toks) (o := .tup (xs++ys)) (λb ob q=>Ax _ q) (AW _) ?_,rfl,q2 (λw=>z (r2.nil_iff.mpr w)) _ (I.hok.fresh (AW _))⟩
 exact⟨by rw[Cf];exact hz,_,r1.append r2,Po _ _⟩
end
noncomputable def ixN(n:Ae)(i:Ao):An Ae:=if 0<=i then (if i<n then Aa i.toNat else Af) else if -(n:Ao)<=i then Aa (i+n).toNat else Af
noncomputable def atI{α:Type}(xs:Ad α)(i:Ao):An α:=(ixN xs.length i).bind λj=>xs[j]?
theorem UG{j:Ae}(h:ixN n i=Aa j):seqIndex? i n=Aa j/\j<n /\ -(n:Ao)<=i/\i<n:=by
 unfold ixN at h;by_cases h0:0<=i
 .rw[AX h0]at h;by_cases h1:i<n
  .rw[AX h1]at h;have e:i.toNat=j:=BC h;exact⟨by rw[seqIndex_of h0 h1,e],by omega,by omega,h1⟩
  .rw[A8 h1]at h;cases h
 .rw[A8 h0]at h;by_cases h1 : -(n:Ao)<=i
  .rw[AX h1]at h;have e:(i+n).toNat=j:=BC h;exact⟨by rw[seqIndex_neg (by omega) h1,e],by omega,h1,by omega⟩
  .rw[A8 h1]at h;cases h
theorem Ka{α:Type}{xs:Ad α}{v:α}(h:atI xs i=Aa v) : ∃ j,seqIndex? i xs.length=Aa j/\xs[j]? = Aa v/\j<xs.length /\ -(xs.length:Ao)<=i/\i<xs.length:=by
 unfold atI at h;cases e:ixN xs.length i with
 |none=>rw[e]at h;cases h
 |some j=>
  rw[e]at h;obtain⟨h1,h2,h3,h4⟩:=UG e;exact⟨j,h1,h,h2,h3,h4⟩
noncomputable def Ke(b:Ak):Prop := ∀ o i,subscripted b Ac o i=operate [o,i] (getItem o i)
noncomputable def IxR(X:Cx)(r:R2):Prop:=
 ∀(value slice:Ak)(pI:Ad (Ai × AD))(s:Am)(Z:St)(H:Hp)(x y:V)(v u:Ah)(Q:VK),Inv X pI Z H s->Bf x v->Bf y u->r x y H Q ->
  subscripted slice Ac v u=operate [v,u] (getItem v u)->As (model X.prog X.w) X.A (subscriptTail value slice v u) (EP X pI Z Q) X.xe s
noncomputable def MtR(X:Cx)(id:Ca)(r:V->Ad V->Hp->VK->Prop):Prop:=
 ∀(pI:Ad (Ai × AD))(s:Am)(Z:St)(H:Hp)(x:V)(xs:Ad V)(v:Ah)(us:Ad Ah)(Q:VK),Inv X pI Z H s->Bf x v->AR xs us->r x xs H Q ->
  As (model X.prog X.w) X.A (call (.builtin id) (v::us)) (EP X pI Z Q) X.xe s
section
variable{X:Cx}{a b:Ak}{ta tb:TE}{pos:Az}
theorem IxR.or{r':R2}(h:IxR X r)(h':IxR X r'):IxR X (λx y H Q=>r x y H Q\/r' x y H Q):=by
 intro value slice pI s Z H x y v u Q I rx ry q hs;rcases q with q|q
 .exact h value slice pI s Z H x y v u Q I rx ry q hs
 .exact h' value slice pI s Z H x y v u Q I rx ry q hs
theorem W7(hr:IxR X r)(ha:PE X a ta)(hb:PE X b tb)(hs:Ke b):PE X (.Subscript a b pos) (tOp r ta tb):=by
 intro pI s Z H Q I h;exact Subscript_ (Lg ha hb I h λv u s2 x y H2 I2 rx ry q=>hr a b pI s2 Z H2 x y v u Q I2 rx ry q (hs _ _))
noncomputable def Oq(K:Fg):R2:=λx y H Q => ∃ p xs i v,x = .ref p/\y = .int i/\SqL K H p xs/\atI xs i=Aa v/\Q v H
noncomputable def Oo(K:Fg):R2:=λx y H Q => ∃ p xs i v,x = .ref p/\y = .int i/\SqT K H p xs/\atI xs i=Aa v/\Q v H
noncomputable def Op:R2:=λx y H Q => ∃ z i c,x = .str z/\y = .int i/\z.length<=sizeLine/\atI z.cps.toList i=Aa c/\Q (.str ⟨#[c]⟩) H
theorem TB:IxR X (Oq X.K):=by
 intro value slice pI s Z H x y v u Q I rx ry h hs;obtain⟨p,xs,i,z,rfl,rfl,hq,he,q⟩:=h;cases rx;obtain⟨t,rfl⟩:=ry;obtain⟨its,r,pl,hz⟩:=I.list hq;obtain⟨j,h1,h2,h3,h4,h5⟩:=Ka he;obtain⟨w,ew,rw'⟩:=r.get h2;have hl:=r.length;have hn:=G2;have fin:EP X pI Z Q w s:=⟨z,H,I,rw',q⟩;by_cases h0:0<=i
 .have hj:i.toNat=j:=by
   rw[seqIndex_of h0 h5]at h1;exact BC h1
  exact item_listR pl.isList h0 (by omega) (by rw[hj];simpa using ew) fin hs
 .have hj:(i+(its.toArray.size:Ao)).toNat=j:=by
   rw[seqIndex_neg (by omega) h4]at h1
   rw[A3,<-hl];exact BC h1
  exact Pr (x:=w) pl.isList.typeIs slot_list_getitem.lookup
   (wpAny_getItem_list_neg (Q:=λr s'=>r=w/\EP X pI Z Q r s') pl.isList (by omega) (by rw[A3] <;> omega) (by omega) (by rw[hj];simpa using ew) ⟨rfl,fin⟩) hs
theorem Wk:IxR X (Oo X.K):=by
 intro value slice pI s Z H x y v u Q I rx ry h hs;obtain⟨p,xs,i,z,rfl,rfl,hq,he,q⟩:=h;cases rx;obtain⟨t,rfl⟩:=ry;obtain⟨its,r,pl,hz⟩:=I.tuple hq;obtain⟨j,h1,h2,h3,h4,h5⟩:=Ka he;obtain⟨w,ew,rw'⟩:=r.get h2;have hl:=r.length;have hn:=G2;have fin:EP X pI Z Q w s:=⟨z,H,I,rw',q⟩;exact Pr (x:=w) pl.typeIs slot_tuple_getitem.lookup
  (getItem_tuple (j:=j) (Q:=λr s'=>r=w/\EP X pI Z Q r s') pl (by omega) (by omega) (by rw[A3,<-hl];exact h1) (by simpa using ew) ⟨rfl,fin⟩) hs
theorem Wl:IxR X Op:=by
 intro value slice pI s Z H x y v u Q I rx ry h hs;obtain⟨z,i,c,rfl,rfl,hz,he,q⟩:=h;obtain⟨t,rfl⟩:=rx;obtain⟨t',rfl⟩:=ry;obtain⟨j,h1,h2,h3,h4,h5⟩:=Ka he;have hl:z.cps.toList.length=z.length:=by simp[Str.length]
 rw[hl]at h1 h4 h5;have hn:=G2;exact tail_any (GM s z t) slot_str_getitem.lookup (getItem_str (c:=c) (by
  have e1:decide (i < -(2 ^ 63:Ao))=Ac:=BP (by omega)
  have e2:decide (i ≥ 2 ^ 63)=Ac:=BP (by omega)
  rw[e1,e2,CQ]) (by rw[h1];simpa using h2) ⟨.str ⟨#[c]⟩,H,I.tok _,⟨_,rfl⟩,q⟩) hs
noncomputable def rIx(K:Fg):R2:=λx y H Q=>Oq K x y H Q\/Oo K x y H Q\/Op x y H Q
theorem Wm:IxR X (rIx X.K):=TB.or (Wk.or Wl)
theorem Inv.lst{p:Ai}(I:Inv X pI Z H s)(h:H p=Aa (.lst xs)):
  ∃(its:Ad Ah)(n:Ae),AR xs its/\s.heap.get? p=Aa { cls := .type "list",data := .seq its.toArray n }/\xs.length<=sizeLine:=by
 obtain⟨z,its,n,r,e⟩:=I.hok p _ h;exact⟨its,n,r,e,z⟩
theorem Lx:Ga X (.builtin "len") (λxs H Q => ∃ p ys,xs=[.ref p]/\(SqL X.K H p ys\/SqT X.K H p ys)/\Q (.int ys.length) H):=by
 intro pI s Z H xs us Q I r h;obtain⟨p,ys,rfl,hq,q⟩:=h;obtain⟨u,rfl,rx⟩:=GA r;cases rx;have hn:=G2;rcases hq with hq|hq
 .obtain⟨its,r',pl,hz⟩:=I.list hq;have hlen:=r'.length;exact Calls.call_len_list pl.isList (by simp only[A3] <;> omega) ⟨.int ys.length,H,I.tok _,⟨s.toks+1,by rw[A3,hlen]⟩,q⟩
 .obtain⟨its,r',pl,hz⟩:=I.tuple hq;have hlen:=r'.length;exact len_tuple pl (by simp only[A3] <;> omega) ⟨.int ys.length,H,I.tok _,⟨s.toks+1,by rw[A3,hlen]⟩,q⟩
theorem QT:Ga X (.builtin "len") (λxs H Q => ∃ z,xs=[.str z]/\z.length<=sizeLine/\Q (.int z.length) H):=by
 intro pI s Z H xs us Q I r h;obtain⟨z,rfl,hz,q⟩:=h;obtain⟨u,rfl,t,rfl⟩:=GA r;have hn:=G2;exact len_str (by omega) ⟨.int z.length,H,I.tok _,⟨_,rfl⟩,q⟩
theorem Lw:Ga X (.type "list") (λxs H Q => ∃ p ys,xs=[.ref p]/\(SqL X.K H p ys\/SqT X.K H p ys) /\ ∀ l,H l=Af->Q (.ref l) (upd H l (.lst ys))):=by
 intro pI s Z H xs us Q I r h;obtain⟨p,ys,rfl,hq,q⟩:=h;obtain⟨u,rfl,rx⟩:=GA r;cases rx;have fin : ∀(its:Ad Ah),AR ys its->ys.length<=sizeLine -> ∀(h':Ay)(c':Ae),(∀ b o',s.heap.get? b=Aa o'->h'.get? b=Aa o') ->
   h'.get? s.heap.objs.size=Aa { cls := .type "list",dict:=Af,data := .seq its.toArray c',slots := #[] }->EP X pI Z Q (.ref s.heap.objs.size) {s with heap:=h'}:=λits r' hz h' c' kp e=>
  ⟨.ref s.heap.objs.size,_,I.laid (t':=s.toks) kp (AW _) (show ObjOk X.prog X.w _ h' _ (.lst ys) from ⟨hz,its,c',r',e⟩),rfl,q _ (I.hok.fresh (AW _))⟩
 rcases hq with hq|hq
 .obtain⟨its,r',pl,hz⟩:=I.list hq;have hlen:=r'.length;obtain⟨o,ho,hc,n,hd⟩:=pl.isList;exact call_list_seq p (.inl rfl) ho hc hd (λh' c' kp e=>fin its r' hz h' c' kp e) (by simp only[A3] <;> omega)
 .obtain⟨its,r',pl,hz⟩:=I.tuple hq;have hlen:=r'.length;obtain⟨o,ho,hc,n,hd⟩:=pl;exact call_list_seq p (.inr rfl) ho hc hd (λh' c' kp e=>fin its r' hz h' c' kp e) (by simp only[A3] <;> omega)
theorem Lu:Ga X (.type "tuple") (λxs H Q => ∃ p ys,xs=[.ref p]/\((SqL X.K H p ys /\ ∀ l,H l=Af->Q (.ref l) (upd H l (.tup ys)))\/(SqT X.K H p ys/\Q (.ref p) H))):=by
 intro pI s Z H xs us Q I r h;obtain⟨p,ys,rfl,h⟩:=h;obtain⟨u,rfl,rx⟩:=GA r;cases rx;rcases h with ⟨hq,q⟩|⟨hq,q⟩
 .obtain⟨its,r',pl,hz⟩:=I.list hq;have hlen:=r'.length;refine call_tuple_list pl.isList (λh' kp => ?_) (by simp only[A3] <;> omega)
  have I1:Inv X pI Z H {s with heap:=h'}:=I.kept (t':=s.toks) kp
  have I2:Inv X pI Z (upd H h'.objs.size (.tup ys)) { s with heap:=h'.push { cls := .type "tuple",data := .seq its.toArray } }:=
   I1.laid (t':=s.toks) (λb o e=>Ax _ e) (AW _) (show ObjOk X.prog X.w _ _ _ (.tup ys) from ⟨hz,its,r',Po _ _⟩)
  exact⟨.ref h'.objs.size,_,I2,rfl,q _ (I1.hok.fresh (AW _))⟩
 .obtain⟨its,r',pl,hz⟩:=I.tuple hq;exact call_tuple_same pl ⟨.ref p,H,I,rfl,q⟩
noncomputable def tyV(K:Fg)(T:Ca)(x:V)(H:Hp):Prop:=match x with
  |.str _=>T = "str"
  |.int _=>T = "int"
  |.ref p=>(T = "list" /\ ∃ xs,SqL K H p xs)\/(T = "tuple" /\ ∃ o,K.lookup p=Aa o/\o.cls = .type "tuple" /\ o.dict=Af) \/
      (T = "dict" /\ ((∃ kvs,H p=Aa (.dK kvs)) \/ ∃ kvs,H p=Aa (.dT kvs)))\/(T = "set" /\ ∃ S n,H p=Aa (.set S n))
  |_=>AT
theorem Uy{T:Ca}{x:V}{v:Ah}(I:Inv X pI Z H s)(r:Bf x v)(ty:tyV X.K T x H):s.TypeIs v T/\∀ a,v = .ref a->∃ ob,s.heap.get? a=Aa ob/\ob.dict=Af:=by
 cases x with
 |str z=>
  obtain⟨t,rfl⟩:=r;cases (show T = "str" from ty)
  exact⟨GM s z t,λ_ e=>nomatch e⟩
 |int i=>
  obtain⟨t,rfl⟩:=r;cases (show T = "int" from ty)
  exact⟨typeIs_int s i t,λ_ e=>nomatch e⟩
 |ref p=>
  cases r;rcases ty with ⟨rfl,xs,hq⟩|⟨rfl,o,hk,hc,hd⟩|⟨rfl,hk⟩|⟨rfl,S,n,hk⟩
  .obtain⟨its,_,pl,_⟩:=I.list hq;refine⟨pl.isList.typeIs,λa e => ?_⟩
   cases e;obtain⟨o,n,e,c,hd,_⟩:=pl;exact⟨o,e,hd⟩
  .refine⟨⟨o,I.kIn p o hk,hc⟩,λa e => ?_⟩
   cases e;exact⟨o,I.kIn _ o hk,hd⟩
  .have z : ∃ o,s.heap.get? p=Aa o/\o.ExactDict:=by
    rcases hk with ⟨kvs,hk⟩|⟨kvs,hk⟩
    .obtain⟨_,_,_,_,o,_,_,e,ex,_⟩:=I.hok p _ hk;exact⟨o,e,ex⟩
    .obtain⟨_,_,_,_,o,_,_,e,ex,_⟩:=I.hok p _ hk;exact⟨o,e,ex⟩
   obtain⟨o,e,ex⟩:=z;refine⟨⟨o,e,ex.1⟩,λa e2 => ?_⟩
   cases e2;exact⟨o,e,ex.2.1⟩
  .obtain⟨o,_,_,_,e,ex,_⟩:=I.hok p _ hk;refine⟨⟨o,e,ex.1⟩,λa e2 => ?_⟩
   cases e2;exact⟨o,e,ex.2.1⟩
 |_=>exact AY ty
noncomputable def tBM(K:Fg)(T:Ca)(r:V->Ad V->Hp->VK->Prop)(to:TE)(t:TA):TE:=λZ H Q=>to Z H λx H1=>tyV K T x H1/\t Z H1 λxs H2=>r x xs H2 Q
variable{o e:Ak}{es:Ad Ak}{to:TE}{t:TA}{name:Ag}{apos cpos:Az}{T id:Ca}{r:V->Ad V->Hp->VK->Prop}
theorem NL(pa:PlainAttrs T)(slot:Slot T name id)(hty:typeOf (.builtin id)=pure (.type "method_descriptor"))(hm:MtR X id r)(ho:PE X o to)(ha:PA X (e::es) t)(hbase:Dd o name X.env (eval o X.env)=eval o X.env:=by rfl)(hfew:((Bk cpos (Ap (e::es) X.env)).all (λx => !x.1)&&(Gi cpos (Fi [] X.env)).all (λx=>x.1.isSome)
   && decide ((e::es).length+([]:Ad Dg).length+(if ([]:Ad Dg).isEmpty then 0 else 1)<30))=Ab:=by rfl)(hline:(apos.endLine==cpos.line)=Ab:=by rfl)(hs:Ap (e::es) X.env=(Ac,eval e X.env)::Ap es X.env:=by rfl)(hplain:(Bk cpos (Ap es X.env)).any (·.1)=Ac:=by rfl):PE X (.Call (.Attribute o name apos) (e::es) [] cpos) (tBM X.K T r to t):=by
 intro pI s Z H Q I h;refine wpAny_Call_method_late hbase hfew hline rfl (thn (ho pI s Z H _ I h) λv s1 ⟨x,H1,I1,r1,ty,q1⟩ => ?_)
 obtain⟨h1,h2⟩:=Uy I1 r1 ty;refine⟨T,id,pa,slot,hty,h1,h2,?_⟩;have hA:=ha cpos pI s1 Z H1 _ I1 q1;rw[hs]at hA ⊢;refine Pv (by show (Ac||(Bk cpos (Ap es X.env)).any (·.1))=Ac;rw[hplain] <;> rfl) (C7 ?_)
 exact thn hA λus s2 ⟨vs,H2,I2,r2,q2⟩=>hm pI s2 Z H2 x vs v us Q I2 r1 r2 q2
/- xs.append(e), list.index on a module's tuple .. are MtR facts of 06m -/
end
noncomputable def MtM(X:Cx)(id:Ca)(r:V->Ad V->Hp->VK->Prop):Prop:=
 ∀(pI:Ad (Ai × AD))(s:Am)(Z:St)(H:Hp)(x:V)(xs:Ad V)(v:Ah)(us:Ad Ah)(Q:VK),Inv X pI Z H s->Bf x v->AR xs us->r x xs H Q ->
  As (model X.prog X.w) X.A (call (.builtin id) (v::us)) (EP X pI Z Q) X.xe s
theorem AR.one : ∀{x:V}{us:Ad Ah},AR [x] us -> ∃ u,us=[u]/\Bf x u
 |_,_,.cons r .nil=>⟨_,rfl,r⟩
theorem AR.zero : ∀{us:Ad Ah},AR [] us->us=[]
 |_,.nil=>rfl
theorem AR.eraseIdx : ∀{xs:Ad V}{us:Ad Ah}(i:Ae),AR xs us->AR (xs.eraseIdx i) (us.eraseIdx i)
 |_,_,_,.nil => .nil
 |_,_,0,.cons _ t=>t
 |_,_,i+1,.cons r t => .cons r (AR.eraseIdx i t)
theorem AR.reverse(h:AR xs us):AR xs.reverse us.reverse:=by
 induction h with
 |nil=>exact .nil
 |cons r t ih=>rw[Pb,Pb];exact AR.append ih (.cons r .nil)
section
variable{X:Cx}{pI:Ad (Ai × AD)}{Z:St}{H:Hp}{s:Am}{l b:Ai}{xs ys zs:Ad V}
theorem Inv.lset{its':Ad Ah}{f:Bb Ah->Bb Ah}(I:Inv X pI Z H s)(hH:H l=Aa (.lst xs))(e:s.heap.get? l=Aa { cls := .type "list",data := .seq its.toArray n })(hf:f its.toArray=its'.toArray)(hv:AR ys its')(hz:ys.length<=sizeLine):Inv X pI Z (upd H l (.lst ys)) {s with heap:=s.heap.update l (Qd f),toks:=t'}:=by
 have q:=PySem.IsL.update e f;rw[hf]at q;refine I.write (x:=l) (e:=l) (by rw[hH];exact trivial) (.inl rfl) (λb' u hb hu=>(B8 s.heap (Qd f) (C1 hb)).trans hu) ⟨_,q⟩ ?_
 exact⟨hz,its',_,hv,q⟩
theorem Inv.lnew(I:Inv X pI Z H s)(hv:AR ys its)(hz:ys.length<=sizeLine):
  Inv X pI Z (upd H s.heap.objs.size (.lst ys)) { s with heap:=s.heap.push { cls := .type "list",data := .seq its.toArray },toks:=t' }:=
 I.laid (λ_ _ q=>Ax _ q) (AW _) ⟨hz,its,0,hv,Bv _ rfl⟩
theorem Inv.fresh(I:Inv X pI Z H s):H s.heap.objs.size=Af:=I.hok.fresh (AW _)
theorem Inv.lstM(I:Inv X pI Z H s)(hH:H l=Aa (.lst xs)):xs.length<=sizeLine /\ ∃(its:Ad Ah)(n:Ae),AR xs its/\xs.length=its.length/\s.heap.get? l=Aa { cls := .type "list",data := .seq its.toArray n }:=by
 obtain⟨z,its,n,r,e⟩:=I.hok l _ hH;exact⟨z,its,n,r,r.length,e⟩
end
section
variable{X:Cx}
noncomputable def Uf:V->Ad V->Hp->VK->Prop:=λx vs H Q => ∃ l xs y,x = .ref l/\vs=[y]/\H l=Aa (.lst xs)/\xs.length<sizeLine/\Q .non (upd H l (.lst (xs++[y])))
theorem Rn:MtM X "list.append" Uf:=by
 intro pI s Z H x vs v us Q I rx rv h;obtain⟨l,xs,y,rfl,rfl,hH,hz,q⟩:=h;cases rx;obtain⟨u,rfl,ru⟩:=rv.one;obtain⟨z,its,n,r,hl,e⟩:=I.lstM hH;refine call_meets F.slot_list_append ⟨_,e,rfl⟩ F.entry_list_append (F.args_list_append_2 _ _) (PySem.list_append l its.toArray n u (by rw[A3];omega)) ⟨e,?_⟩
 refine⟨.non,_,I.lset (its':=its++[u]) hH e (by simp) (r.append (.cons ru .nil)) ?_,rfl,q⟩
 rw[Cf,O8];omega
end
section
variable{prog:AE}{w:Ar}{A:AN}{E:Ah->Am->Prop}{s:Am}
set_option maxRecDepth 100000 in
end
section
variable{X:Cx}
end
end L2
namespace Att
open PySem PySem.W PySem.Calls PyProof.Rows
variable{P:Hh}{h:Ay}{l:DQ}{n:Ae}
theorem QR : ∀(ns:Ad Ao)(vs:Ad Ah),WellAll P h vs (ns.map Qw)->Ft vs ns:=by
 intro ns
 induction ns with
 |nil=>
  intro vs w;rw[List.map_nil]at w;cases w;exact .nil
 |cons n ns ih=>
  intro vs w;rw[DS]at w;cases w with
  |cons a b=>
   cases a;exact .cons _ _ (ih _ b)
theorem Ri(hn:l.most=Aa n){args:Ad WData}{vals:Ad Ah}(hpre:l.row.toRowW.claim.pre args=Ab)(hwl:WellAll P h vals args):
  ∃ a vs ns,vals=[BH a]/\args=[WData.list (ns.map Qw)]/\h.get? a=Aa { cls := .type "list",data := .seq vs.toArray }/\Ft vs ns/\ns.length<=n:=by
 have hsh:WShape.hasAll [] args [.list .int]=Ab:=(pre_splitW hpre).1;have hc:l.pre.holds [] {args:=args}=Ab:=(pre_splitW hpre).2;obtain⟨d,r,rfl,h1,h2⟩:=hasAllW_cons hsh;obtain rfl:=hasAllW_nil h2;obtain⟨xs,rfl,h3⟩:=hasW_list h1;obtain⟨ns,rfl⟩:=items_int h3;have hlen:ns.length<=n:=by
  unfold OpenLaw.pre at hc;have h4:(WTm.not (.lt (.lit (.int (n:Ao))) (.len (.arg 0)))).holds [] {args:=[.list (ns.map .int)]}=Ab:=by
   have h4:=(holds_andW hc).1;rw[hn]at h4;exact h4
  have h5:=condW_of h4 (w_not (w_lt w_lit (w_len_list (w_arg rfl))));rw[Cr]at h5;refine Nat.le_of_not_lt λq => ?_
  have q':(n:Ao)<((ns.length:Ae):Ao):=by omega
  first
   |(rw[YL q']at h5;exact absurd h5 (by decide))
   |(simp at h5;omega)
 cases hwl with
 |cons w1 w2=>
  cases w2;cases w1 with
  |list ho hall=>exact⟨_,_,ns,rfl,rfl,ho,QR ns _ hall,hlen⟩
theorem Rk(l:DQ)(args:Ad WData):l.row.toRowW.claim.post args (.bool Ab) args=Ab:=
 postW_of (r:=l.row.toRowW) (X:=(Ab==Ab))
  (show Qx [] (.bool Ab) .bool=Ab by first|rfl|decide|simp[Qx,WShape.arms,WShape.armsAll])
  (show (WTm.eq .res (.lit (.bool Ab))).value [] {args:=args,res:=Aa (.bool Ab),after:=args}=Aa (.bool (Ab==Ab)) from w_eq_bool (w_res rfl) w_lit) rfl
theorem attach_call{q:AE}{loose:Ad Ag}{XP:(Ag->An Ah)->Ay->Prop}{YP:Ar->Ay->Prop}{d:DefRec}(hn:l.most=Aa n)(hdf:d.params.defaults=[])(call : ∀(w:Ar)(s₀ s₁:Am)(mg mb:Ag->An Ah)(fa:Ai)(o:AD)(pm cd doc:Ah)(a:Ai)(vs:Ad Ah)(ns:Ad Ao),
   Ground q loose [] XP w s₀ mg mb s₁.heap->YP w s₁.heap ->
   s₁.heap.get? fa=Aa o->o.data = .func (docDef d.name d.params d.body d.scope pm cd doc)->s₁.heap.CodeRec cd d.name->mg d.name=Aa (.ref fa) ->
   s₁.heap.get? a=Aa { cls := .type "list",data := .seq vs.toArray }->Ft vs ns->ns.length<=n->s₁.gens = #[] ->
   DG (model l.prog w) EQ (.call (.ref fa) ⟨[.ref a],[]⟩) (λr s'=>r = .ok (.ret (.bool Ab))/\OldK s₁.heap s'.heap/\s'.os=s₁.os/\DE s'.gens) s₁):WalkO q loose XP YP l.row.toRowW d [] (λf vs=>GK f vs):=by
 intro w s₀ s₁ mg mb G Y_ fa o pm cd doc dV kV ho hd hcd hD hmg hg args vals as hpre hlay hrd hwl hlo;obtain rfl:dV = .none:=Dflts.none hD hdf;obtain rfl:kV = .none:=Dflts.noKw hD;obtain⟨a,vs,ns,rfl,rfl,hobj,hints,hlen⟩:=Ri hn hpre hwl;refine enter_call (Dz (call w s₀ s₁ mg mb fa o pm cd doc a vs ns G Y_ ho (fd_plain hd) hcd hmg hobj hints hlen hg) λr s' hq => ?_)
 obtain⟨rfl,h2,h3,h4⟩:=hq;exact⟨.inl ⟨.bool Ab,.bool Ab,[],rfl,λ_=>rfl,.bool Ab,Rk l _,λ_=>⟨List.Pairwise.nil,λ_ hm=>(nomatch hm)⟩⟩,h2,h3,h4⟩
section
variable{prog:AE}{w:Ar}{A:AN}{E:Ah->Am->Prop}{s:Am}{K:Frag}
end
end Att
namespace L2
open PySem PySem.Spec PyProof.Rows
variable{k:Ae}{x:Ag}
theorem LY : ∀{vs:Ad Ah}{ns:Ad Ao},Ft vs ns->AR (ns.map V.int) vs
 |_,_,.nil => .nil
 |_,_,.cons n t h => .cons ⟨t,rfl⟩ (LY h)
noncomputable def Ll(H:Hp):Prop := ∀ b,H b=Af \/ ∃ o xs,H b=Aa (.frz o (.lst xs))
theorem Sm{P:AE}{w:Ar}{K:Fg}{mg mb:Ag->An Ah}{CX:CXT}{fa a:Ai}{fd:Bn}{sp:Sp}{s₁:Am}{vs:Ad Ah}{ns:Ad Ao}(KX:K.In s₁.heap)(hns:s₁.heap.Ns AV mg)(hb:s₁.heap.Ns FG mb)(hbb : ∀ x:Ag,x ≠ "__name__" -> mb x=B9 x)(hlim:s₁.heap.NoLimit)(hg:s₁.gens = #[])(ha:s₁.heap.get? a=Aa { cls := .type "list",data := .seq vs.toArray })(hi:Ft vs ns)(hl:ns.length<=sizeLine)(hr:Room k EQ)(F : ∀ base:Ay,K.In base->base.Ns AV mg->FnOk P w K mg base CX k fa fd [x] sp)(hbind : ∀(s:Am)(u:Ah),En s fd ⟨[u],[]⟩ [(x,u)])(hsp : ∀ H:Hp,Ll H->SqL K H a (ns.map V.int)->sp [.ref a] H (λv _=>v = .bl Ab) λ_ _ _=>AT)(hCX : ∀ H e s',CX [] H s₁ (λ_ _ _=>AT) e s'->AT):DG (model P w) EQ (.call (.ref fa) ⟨[.ref a],[]⟩) (λr s'=>r = .ok (.ret (.bool Ab))/\OldK s₁.heap s'.heap/\s'.os=s₁.os/\DE s'.gens) s₁:=by
 have rv:=LY hi;have lenV:=hi.length
 -- from an abstract heap in which nothing but the script may be tracked
 have core : ∀ H:Hp,Ll H->SqL K H a (ns.map V.int)->HOk P w H s₁.heap->(∀ b,H b≠Af->b=a)->(H a≠Af->K.lookup a=Af) ->
   DG (model P w) EQ (.call (.ref fa) ⟨[.ref a],[]⟩) (λr s'=>r = .ok (.ret (.bool Ab))/\OldK s₁.heap s'.heap/\s'.os=s₁.os/\DE s'.gens) s₁:=by
  intro H hO hS hok hA hK;have base_of : ∀{b:Ai}{o:AD},s₁.heap.get? b=Aa o->H b=Af->(FT s₁.heap H).get? b=Aa o:=λe n=>SD e n
  have noA : ∀{b:Ai}{o:AD}{es:Bb DictEntry}{ep:Ae},s₁.heap.get? b=Aa o->o.data = .dict es ep->H b=Af:=λ{b o es ep} e d=>by
   cases q:H b with
   |none=>rfl
   |some u=>
    have e':b=a:=hA b (by rw[q];simp)
    subst e';rw[ha]at e;cases e;have d':Hf vs.toArray _=Data.dict es ep:=d;cases d'
  have nsK : ∀{b:Ai}{m:Ag->An Ah},s₁.heap.Ns b m->(FT s₁.heap H).Ns b m:=λ{b m} ⟨o,es,ep,e,d,r⟩=>⟨o,es,ep,base_of e (noA e d),d,r⟩
  have hKb:K.In (FT s₁.heap H):=λb o e=>base_of (KX b o e) (by
   cases q:H b with
   |none=>rfl
   |some u=>
    have e':b=a:=hA b (by rw[q];simp)
    subst e';rw[hK (by rw[q];simp)]at e;cases e)
  have hM:Mod K mg (FT s₁.heap H):=⟨hKb,nsK hns,⟨mb,nsK hb,hbb⟩,let ⟨mc,h1,h2⟩:=hlim;⟨mc,nsK h1,h2⟩⟩
  have e0:Env0 P w K mg (FT s₁.heap H) EQ [] s₁ H:=⟨rfl,hM,λb o e=>TX e,Nat.le_of_eq (Rg _ _),trivial,λb hb=>absurd (show b∈([]:Ad Ai) from hb) (by simp),hok,.of_eq hg⟩
  refine Dz ((F _ hKb (nsK hns)).run EQ [] s₁ H ⟨[.ref a],[]⟩ [.ref a] [.ref a] _ _ hr e0 (hbind s₁ (.ref a)) (.cons rfl .nil) (hsp H hO hS)) λr s' h => ?_
  cases r with
  |error e=>exact(hCX H e s' h).elim
  |ok fl=>
   cases fl with
   |next=>exact AY h
   |brk=>exact AY h
   |cont=>exact AY h
   |ret u=>
    obtain⟨v,H',os,bare,un,hok',r',q⟩:=h;have q':v = .bl Ab:=q;subst q';obtain rfl:u=GJ Ab:=r';refine⟨rfl,OldK.of_keep λb o e => ?_,os,bare⟩
    cases q:H b with
    |none=>exact un.keep b o e q (by intro z;exact absurd (show b∈([]:Ad Ai) from z) (by simp)) (by simp)
    |some u=>
     rcases hO b with z|⟨ob,xs,z⟩
     .rw[q]at z;cases z
     .have z2:=un.frzs b ob _ z;obtain⟨e1,_⟩:=hok b _ z;obtain⟨e2,_⟩:=hok' b _ z2;rw[e]at e1;cases e1;exact e2
 cases hk:K.lookup a with
 |some o=>
  -- the script is one of the module's own objects
  have e:=KX a o hk;rw[ha]at e;cases e;refine core (λ_=>Af) (λ_ => .inl rfl) (.inr ⟨_,vs.toArray,_,hk,rfl,rfl,rfl,by rw[A3,lenV];exact hl,by simpa using rv⟩) (λb u z=>by have z':(Af:An HO)=Aa u:=z;cases z') (λb z=>absurd rfl z) λz=>absurd rfl z
 |none=>
  refine core (λb=>if b=a then Aa (.frz { cls := .type "list",data := .seq vs.toArray } (.lst (ns.map V.int))) else Af) (λb => ?_) (.inl (.inr ⟨{ cls := .type "list",data := .seq vs.toArray },AX rfl⟩)) (λb u z => ?_) (λb z => ?_) λ_=>hk
  .by_cases hb:b=a
   .exact .inr ⟨_,_,AX hb⟩
   .exact .inl (A8 hb)
  .by_cases hb:b=a
   .have z':=(AX hb).symm.trans z;cases z';subst hb;exact⟨ha,by rw[Cr];exact hl,vs,_,rv,ha⟩
   .have z':=(A8 hb).symm.trans z;cases z'
  .by_cases hb:b=a
   .exact hb
   .exact absurd (A8 hb) z
noncomputable abbrev KOf{K:Fg}{h:Ay}(_:K.In h):Fg:=K
theorem walk_of{l:DQ}{n:Ae}{q:AE}{loose:Ad Ag}{XP:(Ag->An Ah)->Ay->Prop}{YP:Ar->Ay->Prop}{d:DefRec}{K:Hh->Fg}{CX:Ar->CXT}{sp:Ar->Sp}(hn:l.most=Aa n)(hn2:n<=sizeLine)(hdf:d.params.defaults=[])(hr:Room k EQ)(hY : ∀(w:Ar)(h:Ay),YP w h->(K w.params).In h)(F : ∀(w:Ar)(mg:Ag->An Ah)(fa:Ai)(h:Ay),(K w.params).In h->h.Ns AV mg->mg d.name=Aa (.ref fa) ->
   ∃ fd:Bn,(∀(s:Am)(u:Ah),En s fd ⟨[u],[]⟩ [(x,u)]) /\
    ∀ base:Ay,(K w.params).In base->base.Ns AV mg->FnOk l.prog w (K w.params) mg base (CX w) k fa fd [x] (sp w))(hsp : ∀(w:Ar)(H:Hp)(a:Ai)(ns:Ad Ao),ns.length<=n->Ll H->SqL (K w.params) H a (ns.map V.int)->sp w [.ref a] H (λv _=>v = .bl Ab) λ_ _ _=>AT)(hCX : ∀(w:Ar)(H:Hp)(s:Am)(e:Ah)(s':Am),CX w [] H s (λ_ _ _=>AT) e s'->AT):Qy q loose XP YP l.row.toRowW d [] (λf vs=>GK f vs):=by
 refine Att.attach_call hn hdf λw s₀ s₁ mg mb fa o pm cd doc a vs ns G Y_ ho hd hcd hmg hobj hints hlen hg => ?_
 have KX:=hY w _ Y_;obtain⟨fd,hb,hF⟩:=F w mg fa _ KX G.T.g hmg;exact Sm KX G.T.g G.T.b G.T.builtins G.T.nolimit hg hobj hints (BR hlen hn2) hr hF hb (λH hO hS=>hsp w H a ns hlen hO hS) λH e s'=>hCX w H s₁ e s'
end L2
/- THE LAST THEOREM (shape;LID, My.* are yours):
   My.Adr:a structure of the addresses that your layer names (classes,functions);My.Txt K t:a structure (Prop) of the equations over K;
   My.txt_mk : {K} {implicit addresses ..} (e1:nsIn K AV "law" = Aa (Aa (.ref f))) (e2:K.lookup f=Aa ⟨oc,od,.func (fnOf "law" "law" params body scope dV kV doc pm an cdv ct),sl⟩) (e3:codeIn K cdv "law" = Ab) .. : ∃ t,My.Txt K t
set_option maxRecDepth 100000 in
set_option maxHeartbeats 0 in
theorem PySem.Challenge.cw_LID_holds : PySem.Challenge.rw_LID.Holds := by
 w_on;o_law;k_head;(case hw=>w_witness2)
 k_fill
 refine L2.walk_of (l:=PySem.Challenge.rw_LID) (n:=63) (k:=40) (x := "script") (CX:=λw => ..) (sp:=λ_=>My.sp_law) rfl (by decide) rfl ⟨rfl,by decide,by decide⟩ (λw h Y_=>QC Y_) ?F ?S ?C
 case F=>
  intro w mg fa h KX G hmg;have T : ∃ t,My.Txt (L2.KOf KX) t:=by
   dsimp only[L2.KOf]                          -- K must stand as «<heap const> w.params» for k_is
   refine' My.txt_mk ?e1 ?e2 ?e3 ..
   (case e1 => PySem.W.k_is)                    -- in the order: a name -> its address -> its object -> its parts
   (case e2=>PySem.W.k_is)
   ..
  obtain⟨t, T⟩ := T;have e0 := hmg.symm.trans (AB KX G T.law);cases e0                                       -- fa is the law's own address
  exact⟨_, fun s u => .of_eq rfl, fun base kb nb => My.law_fn T kb nb⟩     -- if «.of_eq rfl» comes too early: refine' ⟨_, ?b, fun base kb nb => My.law_fn T kb nb⟩;exact fun s u => .of_eq rfl
 case S=>exact λw H a ns hl hO hS => ..
 case C=>exact ..
(the tactic k_is has no namespace:write k_is) -/
namespace L2
open PySem PySem.Spec PyProof.Rows
noncomputable def E6(s:AC):Arguments:=match s with
  |.FunctionDef _ a _ _ _ _ _ _ _ _=>a
  |_ => {posonlyargs:=[],args:=[],vararg:=Af,kwonlyargs:=[],kw_defaults:=[],kwarg:=Af,defaults:=[]}
noncomputable def DA(s:AC):Ad AC:=match s with
  |.FunctionDef _ _ b _ _ _ _ _ _ _=>b
  |_=>[]
noncomputable def BM(s:AC):By:=match s with
  |.FunctionDef _ _ _ _ _ _ sc _ _ _=>sc
  |_ => {kind := .function,names:=[],isGenerator:=Ac,isCoroutine:=Ac}
noncomputable abbrev CX0:CXT:=λ_ _ _ _ _ _=>AT
noncomputable abbrev E0:XK:=λ_ _ _=>AT
structure Fun (K:Fg) (x qual:Ag) (st:AC) (f:Ai) (fd:Bn):Prop where
 ex : ∃(oc:Ah)(od:An Ai)(kV doc pm:Ah)(an:An Ai)(cdv ct:Ah)(osl:Bb (An Ah)),
  fd=BL x qual (E6 st) (DA st) (BM st) .none kV doc pm an cdv ct/\K.lookup f=Aa ⟨oc,od,.func fd,osl⟩/\C2 K cdv qual=Ab
 kp:Be K (.ref f)=Ab
section
variable{P:AE}{w:Ar}{K:Fg}{mg:Ag->An Ah}{base:Ay}
theorem Fun.ok{x qual:Ag}{st:AC}{f:Ai}{fd:Bn}{N ps:Ad Ag}{k:Ae}{sp:Sp}(F:Fun K x qual st f fd)(S:FnScope N ps (BM st))(len : ∀ vs H Q E,sp vs H Q E->vs.length=ps.length)(hbody : ∀(cdv:Ah)(A:AN)(outer:Ad BF)(s:Am)(H:Hp)(vs:Ad V)(Q:VK)(E:XK),Room k (A.deeper (Db qual (BM st) s.heap.objs.size f cdv))->sp vs H Q E ->
   ∃ t,PSs (D5 CX0 P w K mg base N qual (BM st) f cdv A outer s H E).nox (DA st) t/\t {nx:=λ_ H'=>Q .non H',rt:=Q} (start N vs) H):FnOk P w K mg base CX0 (k+1) f fd ps sp:=by
 obtain⟨oc,od,kV,doc,pm,an,cdv,ct,osl,rfl,lk,hcd⟩:=F.ex;refine NZ lk hcd S len λA outer s H vs Q E hr hsp => ?_
 obtain⟨t,h,q⟩:=hbody cdv A outer s H vs Q E hr hsp;exact⟨t,h.nox,q⟩
theorem Fun.binds{x qual:Ag}{st:AC}{f:Ai}{fd:Bn}{ps:Ad Ag}(F:Fun K x qual st f fd)(h : ∀(kV doc pm:Ah)(an:An Ai)(cdv ct:Ah)(us:Ad Ah),us.length=ps.length->E2 (BL x qual (E6 st) (DA st) (BM st) .none kV doc pm an cdv ct) ⟨us,[]⟩=pure (ps.zip us)):Ej K fd ps []:=by
 obtain⟨oc,od,kV,doc,pm,an,cdv,ct,osl,rfl,lk,hcd⟩:=F.ex;exact .all (h kV doc pm an cdv ct)
theorem Nt{x qual:Ag}{st:AC}{f:Ai}{oc:Ah}{od an:An Ai}{osl:Bb (An Ah)}{kV doc pm cdv ct:Ah}(l:K.lookup f=Aa ⟨oc,od,.func (BL x qual (E6 st) (DA st) (BM st) .none kV doc pm an cdv ct),osl⟩)(c:C2 K cdv qual=Ab)(k:Be K (.ref f)=Ab):Fun K x qual st f (BL x qual (E6 st) (DA st) (BM st) .none kV doc pm an cdv ct):=⟨⟨oc,od,kV,doc,pm,an,cdv,ct,osl,rfl,l,c⟩,k⟩
end
section
variable{X:Cx}
end
noncomputable def At(H H':Hp):Prop := ∀ b o,H b=Aa o->H' b=Aa o
theorem At.refl(H:Hp):At H H:=λ_ _ h=>h
theorem At.trans{H H1 H2:Hp}(a:At H H1)(b:At H1 H2):At H H2:=λc o h=>b c o (a c o h)
theorem At.free{H H':Hp}(e:At H H'){l:Ai}(h:H' l=Af):H l=Af:=by
 cases q:H l with
 |none=>rfl
 |some o=>
  rw[e l o q]at h;cases h
end L2
section
namespace Ov
open PySem
variable{α β:Type}
inductive D where
 |non|bl (b:Aj)|int (i:Ao)|str (x:Ag)|tup (ds:Ad D)|lst (ds:Ad D)
 |obj (c:Ae) (fs:Ad (Ag × D))|exc (c:Ae) (fs:Ad (Ag × D))|dic (kvs:Ad (Ad Ao × D))
 deriving Inhabited
structure Ex where
 c:Ae
 fs:Ad (Ag × D)
 deriving Inhabited
inductive R (α:Type) where
 |ok (a:α)|exn (x:Ex)|bad
 deriving Inhabited
noncomputable def R.bind{α β:Type}(r:R α)(f:α->R β):R β:=match r with
  |.ok a=>f a
  |.exn x => .exn x
  |.bad => .bad
@[simp]theorem R.bind_ok(a:α)(f:α->R β):(R.ok a).bind f=f a:=rfl
@[simp]theorem R.bind_exn(x:Ex)(f:α->R β):(R.exn x:R α).bind f = .exn x:=rfl
@[simp]theorem R.bind_bad(f:α->R β):(R.bad:R α).bind f = .bad:=rfl
theorem R.bind_assoc{γ:Type}(r:R α)(f:α->R β)(g:β->R γ):(r.bind f).bind g=r.bind λa=>(f a).bind g:=by cases r <;> rfl
noncomputable def Ce(n:Ae):Aj:=Cn n 1000000
noncomputable def FN(i j:Ao):Aj:=(decide (-(18446744073709551616:Ao)<i)&&decide (i<18446744073709551616))||(decide (-(18446744073709551616:Ao)<j)&&decide (j<18446744073709551616))
noncomputable def IM(i j:Ao):Aj:=decide (i.natAbs<2 ^ 2000)&&decide (j.natAbs<2 ^ 2000)
noncomputable def Cp:Dw->D->D->R D
 |.Add,.int i,.int j => .ok (.int (i+j))
 |.Sub,.int i,.int j => .ok (.int (i-j))
 |.Mult,.int i,.int j=>if (FN i j||IM i j)=Ab then .ok (.int (i*j)) else .bad
 |.FloorDiv,.int i,.int j=>if 0<j/\j<1073741824 then .ok (.int (i/j)) else .bad
 |.Mod,.int i,.int j=>if 0<j then .ok (.int (i%j)) else .bad
 |.Pow,.int i,.int j=>if (0<=j/\j<=1000000)/\(-(18446744073709551616:Ao)<i/\i<18446744073709551616) then .ok (.int (i ^ j.toNat)) else .bad
 |.Add,.str x,.str y=>if Ce (x.length+y.length)=Ab then .ok (.str (x++y)) else .bad
 |.Add,.lst x,.lst y=>if Ce (x.length+y.length)=Ab then .ok (.lst (x++y)) else .bad
 |.Add,.tup x,.tup y=>if (!x.isEmpty&&Ce (x.length+y.length))=Ab then .ok (.tup (x++y)) else .bad
 |_,_,_ => .bad
noncomputable def unD:GO->D->R D
 |.USub,.int i => .ok (.int (-i))
 |_,_ => .bad
noncomputable def b2i(b:Aj):Ao:=if b=Ab then 1 else 0
mutual
noncomputable def eqD:D->D->Aj
 |.non,.non=>Ab
 |.bl a,.bl b=>a==b
 |.bl a,.int j=>b2i a==j
 |.int i,.bl b=>i==b2i b
 |.int i,.int j=>i==j
 |.str x,.str y=>x==y
 |.tup xs,.tup ys=>eqDs xs ys
 |.lst xs,.lst ys=>eqDs xs ys
 |_,_=>Ac
noncomputable def eqDs:Ad D->Ad D->Aj
 |[],[]=>Ab
 |x::xs,y::ys=>eqD x y&&eqDs xs ys
 |_,_=>Ac
end
noncomputable def flD:Ae->D->Aj
 |_,.non=>Ab
 |_,.bl _=>Ab
 |_,.int _=>Ab
 |_,.str _=>Ab
 |n+1,.tup xs=>xs.all (flD n)
 |n+1,.lst xs=>xs.all (flD n)
 |_,_=>Ac
noncomputable def Ge:D->An (Ad Ao)
 |.tup ds=>keyDs ds
 |_=>Af
where keyDs:Ad D->An (Ad Ao)
 |[]=>Aa []
 |.int i::r=>(keyDs r).map (i :: ·)
 |_=>Af
noncomputable def ltD:Ae->D->D->Aj
 |0,.int i,.int j=>decide (i<j)
 |n+1,.tup xs,.tup ys=>ltDs (ltD n) xs ys
 |_,_,_=>Ac
where ltDs (lt:D->D->Aj):Ad D->Ad D->Aj
 |[],[]=>Ac
 |[],_::_=>Ab
 |_::_,[]=>Ac
 |x::xs,y::ys=>if eqD x y=Ab then ltDs lt xs ys else lt x y
noncomputable def rkD:Ae->D->Aj
 |0,.int _=>Ab
 |n+1,.tup xs=>xs.all (rkD n)
 |_,_=>Ac
noncomputable def ON(lt:D->D->Aj)(x:D):Ad D->Ad D
 |[]=>[x]
 |y::ys=>if lt y x=Ab then y::ON lt x ys else x::y::ys
noncomputable def NQ(lt:D->D->Aj):Ad D->Ad D
 |[]=>[]
 |x::xs=>ON lt x (NQ lt xs)
noncomputable def Oc:Ad D->Aj
 |[]=>Ab
 |x::xs=>xs.all (λy => !eqD x y)&&Oc xs
noncomputable def OF:Ad D->Aj
 |[]=>Ab
 |[_]=>Ab
 |x::y::r=>ltD 1 x y&&OF (y::r)
noncomputable def MX(xs:Ad D):R (Ad D):=if (xs.all (λd=>rkD 1 d && !eqD d (.tup []))&&Oc xs&&(decide (xs.length<64)||(OF xs&&decide (xs.length<=1000))))=Ab then .ok (NQ (ltD 1) xs) else .bad
noncomputable def Bu:Ch->D->D->R D
  |.Eq,x,y=>if (flD 5 x&&flD 5 y)=Ab then .ok (.bl (eqD x y)) else .bad
  |.NotEq,x,y=>if (flD 5 x&&flD 5 y)=Ab then .ok (.bl (!eqD x y)) else .bad
  |.Lt,.int i,.int j => .ok (.bl (decide (i<j)))
  |.LtE,.int i,.int j => .ok (.bl (decide (i<=j)))
  |.Gt,.int i,.int j => .ok (.bl (decide (j<i)))
  |.GtE,.int i,.int j => .ok (.bl (decide (j<=i)))
  |.In,x,.lst ys=>if (flD 5 x&&ys.all (flD 5))=Ab then .ok (.bl (ys.any λy=>eqD y x)) else .bad
  |.In,x,.dic kvs=>match Ge x with
    |some k => .ok (.bl (kvs.any λp=>p.1==k))
    |none => .bad
  |.In,x,.tup ys=>if (flD 5 x&&ys.all (flD 5))=Ab then .ok (.bl (ys.any λy=>eqD y x)) else .bad
  |.NotIn,x,.lst ys=>if (flD 5 x&&ys.all (flD 5))=Ab then .ok (.bl (!ys.any λy=>eqD y x)) else .bad
  |.NotIn,x,.tup ys=>if (flD 5 x&&ys.all (flD 5))=Ab then .ok (.bl (!ys.any λy=>eqD y x)) else .bad
  |.Is,.non,.non => .ok (.bl Ab)
  |.Is,.bl _,.non => .ok (.bl Ac)
  |.Is,.int _,.non => .ok (.bl Ac)
  |.Is,.str _,.non => .ok (.bl Ac)
  |.Is,.tup _,.non => .ok (.bl Ac)
  |.Is,.lst _,.non => .ok (.bl Ac)
  |.Is,.obj _ _,.non => .ok (.bl Ac)
  |.Is,.bl a,.bl b => .ok (.bl (a==b))
  |.IsNot,.bl a,.bl b => .ok (.bl (!(a==b)))
  |.IsNot,.non,.non => .ok (.bl Ac)
  |.IsNot,.bl _,.non => .ok (.bl Ab)
  |.IsNot,.int _,.non => .ok (.bl Ab)
  |.IsNot,.str _,.non => .ok (.bl Ab)
  |.IsNot,.tup _,.non => .ok (.bl Ab)
  |.IsNot,.lst _,.non => .ok (.bl Ab)
  |.IsNot,.obj _ _,.non => .ok (.bl Ab)
  |_,_,_ => .bad
noncomputable def Bt:D->R Aj
 |.non => .ok Ac
 |.bl b => .ok b
 |.int i => .ok (i != 0)
 |.str x=>if Ce x.length=Ab then .ok (x.length != 0) else .bad
 |.tup xs => .ok (!xs.isEmpty)
 |.lst xs => .ok (!xs.isEmpty)
 |_ => .bad
noncomputable def plD(n:Ae)(i:Ao):An Ae:=if 0<=i then (if i<n then Aa i.toNat else Af) else if -(n:Ao)<=i then Aa (i+n).toNat else Af
noncomputable def C5(xs:Ad D)(i:Ao):R D:=match plD xs.length i with
  |some k=>match xs[k]? with
    |some d => .ok d
    |none => .bad
  |none => .bad
noncomputable def Kw(kvs:Ad (Ad Ao × D))(k:Ad Ao):An D:=(kvs.find? λp=>p.1==k).map (·.2)
noncomputable def Nw(kvs:Ad (Ad Ao × D))(k:Ad Ao)(v:D):Ad (Ad Ao × D):=if (kvs.any λp=>p.1==k)=Ab then kvs.map (λp=>if (p.1==k)=Ab then (k,v) else p) else kvs++[(k,v)]
noncomputable def FP(x:Ag):Ad D:=x.cps.toList.map λc => .str ⟨#[c]⟩
noncomputable def Gg:D->D->R D
  |.str x,.int i=>if Ce x.length=Ab then C5 (FP x) i else .bad
  |.lst xs,.int i=>C5 xs i
  |.tup xs,.int i=>C5 xs i
  |.dic kvs,k=>match (Ge k).bind (Kw kvs) with
    |some d => .ok d
    |none => .bad
  |_,_ => .bad
noncomputable def DB:D->R Ao
 |.int i => .ok i
 |_ => .bad
noncomputable def Cz:D->R Aj
 |.bl b => .ok b
 |_ => .bad
noncomputable def D0:D->R (Ad D)
 |.lst xs => .ok xs
 |.tup xs => .ok xs
 |_ => .bad
noncomputable def KO:D->R (Ad D)
 |.lst xs => .ok xs
 |_ => .bad
inductive BI where
 |len|abs|max|min|int|list|tuple|all|any|sum|sorted|str|count|stp|lset|tmin|tmax|tlt|rvs|sjoin
 deriving DecidableEq,Inhabited
inductive Ki where
 |int|bool|str|list|tuple|verr|cls (c:Ae)
 deriving DecidableEq,Inhabited
mutual
inductive E where
 |non|bl (b:Aj)|int (i:Ao)|str (x:Ag)
 |var (i:Ae)|glob (g:Ae)
 |bin (op:Dw) (a b:E)|un (op:GO) (a:E)|no (a:E)
 |and (es:Es)|or (es:Es)
 |cmp (op:Ch) (a b:E)|cmp2 (op op':Ch) (a b c:E)
 |ite (c a b:E)
 |call (f:Ae) (as:Es)|bi (b:BI) (as:Es)
 |isi (a:E) (ks:Ad Ki)
 |idx (a i:E)|sl (a lo hi:E)
 |tup (es:Es)|lst (es:Es)
 |comp (elt:E) (t:Ae) (it:I) (c:E)|compT (elt:E) (ts:Ad Ae) (it:I) (c:E)|tupI (it:I)|dnew
 |fld (o:E) (f:Ag)|mkx (c:Ae) (as:Es)
inductive Es where
 |nil|cons (e:E) (es:Es)
inductive I where
 |e (a:E)|rng (a:E)|rng2 (a b:E)|zip (a b:E)|zip3 (a b c:E)|enm (a:E)
end
noncomputable abbrev Sl:=An (D × Aj)
noncomputable abbrev Rho:=Ad Sl
structure Gam where
 F:Ae->Ad D->R D
 G:Ae->D
 up:Ae->Ad Ae
 /-- the defs whose answer is a new list -/
 fr:Ae->Aj
 /-- what is raised: the class, what it is made of -/
 xn:Ae->Ad D->R Ex
noncomputable def D3(lo:Ao)(n:Ae):Ad D:=(CT n).map fun(k:Ae)=>D.int (lo+(k:Ao))
noncomputable def Dl(lo hi:Ao):R (Ad D):=if (-(4611686018427387904:Ao)<=lo/\lo<4611686018427387904)/\(-(4611686018427387904:Ao)<=hi/\hi<4611686018427387904)/\hi-lo<1000000 then .ok (D3 lo (hi-lo).toNat) else .bad
noncomputable def kiD(up:Ae->Ad Ae):Ki->D->Aj
 |.int,.int _=>Ab
 |.int,.bl _=>Ab
 |.bool,.bl _=>Ab
 |.str,.str _=>Ab
 |.list,.lst _=>Ab
 |.tuple,.tup _=>Ab
 |.cls c,.obj k _=>(up k).contains c
 |.cls c,.exc k _=>(up k).contains c
 |.verr,.exc _ _=>Ab
 |_,_=>Ac
noncomputable def CN:Ki->Aj
 |.cls _=>Ab
 |.verr=>Ab
 |_=>Ac
noncomputable def CM(up:Ae->Ad Ae)(ks:Ad Ki)(x:D):R D:=match x with
  |.obj _ _ => .bad
  |.exc _ _=>if ks.all CN=Ab then .ok (.bl (ks.any λk=>kiD up k x)) else .bad
  |.dic _ => .bad
  |_=>if ks.any CN=Ab then .bad else .ok (.bl (ks.any λk=>kiD up k x))
noncomputable def DN:D->R Aj
 |.non => .ok Ac
 |.bl b => .ok b
 |.int i => .ok (i != 0)
 |_ => .bad
noncomputable def Er:Ad D->R Aj
 |[] => .ok Ab
 |x::r=>(DN x).bind λb=>(Er r).bind λc => .ok (b&&c)
noncomputable def F9:Ad D->R Aj
 |[] => .ok Ac
 |x::r=>(DN x).bind λb=>(F9 r).bind λc => .ok (b||c)
noncomputable def HP:Ao->Ad D->R Ao
 |a,[] => .ok a
 |a,.int i::r=>HP (a+i) r
 |_,_ => .bad
noncomputable def K0:Ad D->Ad D->Ad D
 |x::xs,y::ys => .tup [x,y]::K0 xs ys
 |_,_=>[]
noncomputable def NJ:Ad D->Ad D->Ad D->Ad D
 |x::xs,y::ys,z::zs => .tup [x,y,z]::NJ xs ys zs
 |_,_,_=>[]
noncomputable def NI(x y z:D):R (Ad D):=(D0 x).bind λxs=>(D0 y).bind λys=>(D0 z).bind λzs=>if 0<xs.length/\xs.length<=1000/\ys.length=xs.length/\zs.length=xs.length then .ok (NJ xs ys zs) else .bad
noncomputable def Lf:Ao->Ad D->Ad D
 |_,[]=>[]
 |i,x::xs => .tup [.int i,x]::Lf (i+1) xs
noncomputable def nlD:Ae->D->Aj
 |_,.non=>Ab
 |_,.bl _=>Ab
 |_,.int _=>Ab
 |_,.str _=>Ab
 |n+1,.tup xs=>xs.all (nlD n)
 |_,_=>Ac
noncomputable def Eu(fr:Aj):D->Aj
 |.lst ds=>fr&&ds.all (nlD 5)
 |d=>nlD 5 d
noncomputable def IV:Ad D->An (Ad Ao)
 |[]=>Aa []
 |.int i::r=>(IV r).map (i :: ·)
 |_=>Af
noncomputable def Od(i:Ao):Ad Ao->Ao
 |[]=>i
 |j::r=>Od (if j<i then j else i) r
noncomputable def pk2(k n:Ae):Ad Ae:=(CT ((n-min k n+1)/2)).map λj=>min k n+2*j
noncomputable def Oj(k:Ae)(xs:Ad D):Ad D:=(pk2 k xs.length).filterMap λi=>xs[i]?
noncomputable def ddS(acc:Ad Ao)(x:Ao):Ad Ao:=if acc.any (· == x)=Ab then acc else acc++[x]
noncomputable def ddN(is:Ad Ao):Ae:=(is.foldl ddS []).length
noncomputable def N3(xs:Ad D):R D:=match IV xs with
  |some is=>if Cn is.length 4000=Ab then .ok (.int (ddN is)) else .bad
  |none => .bad
noncomputable def mmD(mx:Aj)(x y:D):R D:=if [x,y].all (λd=>rkD 1 d && !eqD d (.tup []))=Ab then .ok (if (if mx=Ab then ltD 1 x y else ltD 1 y x)=Ab then y else x) else .bad
noncomputable def Of(x y:D):R D:=if [x,y].all (λd=>rkD 1 d && !eqD d (.tup []))=Ab then .ok (.bl (ltD 1 x y)) else .bad
noncomputable def YD(k:Ad Ao):Ao:=reduceHash (Builtin.Tuple.tupleHashOf (k.map hashInt))
noncomputable def N4:Ad D->An (Ad (Ad Ao))
 |[]=>Aa []
 |.tup xs::r=>(IV xs).bind λk=>(N4 r).map (k :: ·)
 |_=>Af
noncomputable def Oz:Ad Ao->Aj
 |[]=>Ab
 |h::r => !r.contains h&&Oz r
noncomputable def Xl(xs:Ad D):R D:=match N4 xs with
  |some ks=>if (Cn ks.length 3&&Oz (ks.map YD))=Ab then .ok (.int ks.length) else .bad
  |none => .bad
noncomputable def Gb:Ad D->An (Ad Ag)
 |[]=>Aa []
 |.str x::r=>(Gb r).map (x :: ·)
 |_=>Af
noncomputable def HA(s:Ag)(xs:Ad D):R D:=match Gb xs with
  |some ss=>if F0 s ss=Ab then .ok (.str (Gh s ss)) else .bad
  |none => .bad
noncomputable def biD:BI->Ad D->R D
  |.len,[.lst xs] => .ok (.int xs.length)
  |.len,[.tup xs] => .ok (.int xs.length)
  |.len,[.str x]=>if Ce x.length=Ab then .ok (.int x.length) else .bad
  |.abs,[.int i] => .ok (.int (if i<0 then -i else i))
  |.max,[.int i,.int j] => .ok (.int (if i<j then j else i))
  |.min,[.int i,.int j] => .ok (.int (if j<i then j else i))
  |.min,[.lst xs]=>match IV xs with
    |some (i::is) => .ok (.int (Od i is))
    |_ => .bad
  |.int,[.int i] => .ok (.int i)
  |.int,[.bl b] => .ok (.int (b2i b))
  |.list,[.lst xs] => .ok (.lst xs)
  |.list,[.tup xs] => .ok (.lst xs)
  |.tuple,[.lst xs] => .ok (.tup xs)
  |.tuple,[.tup xs] => .ok (.tup xs)
  |.all,[.lst xs]=>(Er xs).bind λb => .ok (.bl b)
  |.any,[.lst xs]=>(F9 xs).bind λb => .ok (.bl b)
  |.any,[.tup xs]=>(F9 xs).bind λb => .ok (.bl b)
  |.sum,[.lst xs]=>(HP 0 xs).bind λi => .ok (.int i)
  |.sum,[.tup xs]=>(HP 0 xs).bind λi => .ok (.int i)
  |.sorted,[.lst xs]=>(MX xs).bind λys => .ok (.lst ys)
  |.count,[.lst xs,x]=>if (flD 5 x&&xs.all (flD 5))=Ab then .ok (.int ((xs.filter λy=>eqD y x).length:Ae)) else .bad
  |.len,[.dic kvs] => .ok (.int kvs.length)
  |.stp,[.lst xs,.int k] => .ok (.lst (Oj k.toNat xs))
  |.lset,[.lst xs]=>N3 xs
  |.lset,[.tup xs]=>Xl xs
  |.sjoin,[.str s,.lst xs]=>HA s xs
  |.tmin,[x,y]=>mmD Ac x y
  |.tmax,[x,y]=>mmD Ab x y
  |.tlt,[x,y]=>Of x y
  |.rvs,[.lst xs] => .ok (.lst xs.reverse)
  |_,_ => .bad
noncomputable def slE(c:E)(d:D):R (An Ao):=match c with
  |.non => .ok Af
  |_=>(DB d).bind λi => .ok (Aa i)
noncomputable def GD(n d:Ae):An Ao->Ae
 |none=>d
 |some i=>if i<0 then (i+n).toNat else min i.toNat n
noncomputable def Jf(xs:Ad D)(lo hi:An Ao):Ad D:=(xs.drop (GD xs.length 0 lo)).take (GD xs.length xs.length hi-GD xs.length 0 lo)
noncomputable def slD:D->An Ao->An Ao->R D
 |.lst xs,l,h => .ok (.lst (Jf xs l h))
 |.tup xs,l,h=>if (GD xs.length 0 l==0&&GD xs.length xs.length h==xs.length)=Ab then .bad else .ok (.tup (Jf xs l h))
 |_,_,_ => .bad
noncomputable def HS:D->Ag->R D
  |.exc _ fs,f=>match fs.lookup f with
    |some d => .ok d
    |none => .bad
  |_,_ => .bad
noncomputable def DM(Y:Rho)(i:Ae):R D:=match Y[i]? with
  |some (Aa (d,Ac)) => .ok d
  |_ => .bad
noncomputable def CG(Y:Rho)(i:Ae):R D:=match Y[i]? with
  |some (Aa (d,_)) => .ok d
  |_ => .bad
noncomputable def shE(Y:Rho):E->Aj
  | .var i=>(match Y[i]? with
    |some (Aa (_,Ab))=>Ac
    | _=>Ab)
  |_=>Ab
noncomputable def Fn(Y:Rho):Es->Aj
 |.nil=>Ab
 |.cons e es=>shE Y e&&Fn Y es
noncomputable def EG:Ad Ae->Ad D->Rho->An Rho
 |[],[],Y=>Aa Y
 |t::ts,d::ds,Y=>EG ts ds (Y.set t (Aa (d,Ac)))
 |_,_,_=>Af
noncomputable def EI(ts:Ad Ae)(d:D)(Y:Rho):R Rho:=match d with
  | .tup xs=>(match EG ts xs Y with
    |some Y' => .ok Y'
    | none => .bad)
  |_ => .bad
noncomputable def IN(ts:Ad Ae)(d:D)(Y:Rho):R Rho:=match d with
  | .lst xs=>(match EG ts xs Y with
    |some Y' => .ok Y'
    | none => .bad)
  |d=>EI ts d Y
noncomputable def CP(g:D->R Aj)(f:D->R D):Ad D->R (Ad D)
 |[] => .ok []
 |x::xs=>(g x).bind λb=>if b=Ab then (f x).bind λy=>(CP g f xs).bind λys => .ok (y::ys) else CP g f xs
noncomputable def noX{α:Type}:R α->R α
 |.ok a => .ok a
 |_ => .bad
noncomputable def top(Y:Rho)(e:E)(r:R D):R D:=match e with
  |.var i=>CG Y i
  |_=>r
mutual
noncomputable def evE(U:Gam)(Y:Rho):E->R D
 |.non => .ok .non
 |.bl b => .ok (.bl b)
 |.int i => .ok (.int i)
 |.str x => .ok (.str x)
 |.var i=>DM Y i
 |.glob g => .ok (U.G g)
 |.bin op a b=>(top Y a (evE U Y a)).bind λx=>(top Y b (evE U Y b)).bind λy=>Cp op x y
 |.un op a=>(top Y a (evE U Y a)).bind λx=>unD op x
 |.no a=>(top Y a (evE U Y a)).bind λx=>(Cz x).bind λb => .ok (.bl (!b))
 |.and es=>evN U Y es
 |.or es=>evO U Y es
 |.cmp op a b=>(top Y a (evE U Y a)).bind λx=>(top Y b (evE U Y b)).bind λy=>Bu op x y
 |.cmp2 op op' a b c=>(top Y a (evE U Y a)).bind λx=>(top Y b (evE U Y b)).bind λy=>(Bu op x y).bind λz=>(Cz z).bind λk=>if k=Ab then (top Y c (evE U Y c)).bind λu=>Bu op' y u else .ok (.bl Ac)
 |.ite c a b=>(top Y c (evE U Y c)).bind λx=>(Bt x).bind λk=>if k=Ab then evE U Y a else evE U Y b
 |.call f as=>(evB U Y as).bind λxs=>(U.F f xs).bind λd=>if Fn Y as=Ab then .ok d else if Eu (U.fr f) d=Ab then .ok d else .bad
 |.bi b as=>(evB U Y as).bind λxs=>biD b xs
 |.isi a ks=>(top Y a (evE U Y a)).bind λx=>CM U.up ks x
 |.idx a i=>(top Y a (evE U Y a)).bind λx=>(top Y i (evE U Y i)).bind λy=>Gg x y
 |.sl a lo hi=>(top Y a (evE U Y a)).bind λx=>(top Y lo (evE U Y lo)).bind λl=>(slE lo l).bind λl'=>(top Y hi (evE U Y hi)).bind λh=>(slE hi h).bind λh'=>slD x l' h'
 |.tup es=>(evA U Y es).bind λxs => .ok (.tup xs)
 |.lst es=>(evA U Y es).bind λxs => .ok (.lst xs)
 |.comp elt t it c=>(evI U Y it).bind λxs=>(noX (CP (λx=>(top (Y.set t (Aa (x,Ac))) c (evE U (Y.set t (Aa (x,Ac))) c)).bind Bt) (λx=>evE U (Y.set t (Aa (x,Ac))) elt) xs)).bind λys => .ok (.lst ys)
 |.compT elt ts it c=>(evI U Y it).bind λxs=>(noX (CP (λx=>(EI ts x Y).bind λY'=>(top Y' c (evE U Y' c)).bind Bt) (λx=>(EI ts x Y).bind λY'=>evE U Y' elt) xs)).bind λys => .ok (.lst ys)
 |.tupI it=>(evI U Y it).bind λxs => .ok (.tup xs)
 |.dnew => .ok (.dic [])
 |.fld o f=>(top Y o (evE U Y o)).bind λx=>HS x f
 |.mkx c as=>(noX (evA U Y as)).bind λxs=>(U.xn c xs).bind λx => .ok (.exc x.c x.fs)
noncomputable def evN(U:Gam)(Y:Rho):Es->R D
 |.nil => .bad
 |.cons e .nil=>evE U Y e
 |.cons e (.cons e' es)=>(evE U Y e).bind λx=>(Cz x).bind λc=>if c=Ab then evN U Y (.cons e' es) else .ok (.bl Ac)
noncomputable def evO(U:Gam)(Y:Rho):Es->R D
 |.nil => .bad
 |.cons e .nil=>evE U Y e
 |.cons e (.cons e' es)=>(evE U Y e).bind λx=>(Cz x).bind λc=>if c=Ab then .ok (.bl Ab) else evO U Y (.cons e' es)
noncomputable def evA(U:Gam)(Y:Rho):Es->R (Ad D)
 |.nil => .ok []
 |.cons e es=>(evE U Y e).bind λx=>(evA U Y es).bind λxs => .ok (x::xs)
noncomputable def evB(U:Gam)(Y:Rho):Es->R (Ad D)
 |.nil => .ok []
 |.cons e es=>(top Y e (evE U Y e)).bind λx=>(evB U Y es).bind λxs => .ok (x::xs)
noncomputable def evI(U:Gam)(Y:Rho):I->R (Ad D)
 |.e a=>(evE U Y a).bind D0
 |.rng a=>(top Y a (evE U Y a)).bind λx=>(DB x).bind λj=>Dl 0 j
 |.rng2 a b=>(top Y a (evE U Y a)).bind λx=>(top Y b (evE U Y b)).bind λy=>(DB x).bind λi=>(DB y).bind λj=>Dl i j
 |.zip a b=>(evE U Y a).bind λx=>(evE U Y b).bind λy=>(D0 x).bind λxs=>(D0 y).bind λys => .ok (K0 xs ys)
 |.zip3 a b c=>(evE U Y a).bind λx=>(evE U Y b).bind λy=>(evE U Y c).bind λz=>NI x y z
 |.enm a=>(evE U Y a).bind λx=>(D0 x).bind λxs => .ok (Lf 0 xs)
end
noncomputable def Dm(U:Gam):E->Aj
 |.lst _=>Ab
 |.comp _ _ _ _=>Ab
 |.compT _ _ _ _=>Ab
 |.dnew=>Ab
 |.bin .Add _ _=>Ab
 |.bi .list _=>Ab
 |.bi .sorted _=>Ab
 |.sl _ _ _=>Ab
 |.call f _=>U.fr f
 |_=>Ac
mutual
inductive S where
 |pass
 /-- x = e;fresh: x alone holds the new list -/
 |asg (i:Ae) (fresh:Aj) (e:E)
 /-- a, b, .. = e -/
 |asgT (ts:Ad Ae) (e:E)
 |expr (e:E)
 |ret (e:E)|retN
 |ife (c:E) (a b:Ss)
 |fors (t:Ae) (it:I) (body:Ss)
 |forT (ts:Ad Ae) (it:I) (body:Ss)
 |whl (c:E) (body:Ss)
 /-- raise C(e, ..) -/
 |rais (c:Ae) (as:Es)
 /-- try: body except C as x: h -/
 |tryx (body:Ss) (c:Ae) (x:Ae) (h:Ss)
 /-- .. except C as x: h, except C' as x: h', else: els -/
 |try2 (body:Ss) (c:Ae) (x:Ae) (h:Ss) (c':Ae) (h' els:Ss)
 /-- x.append(e), x.extend(e), x.insert(k, e), x.reverse(), x.clear() -/
 |app (i:Ae) (e:E)|ext (i:Ae) (e:E)|ins (i:Ae) (k e:E)|rev (i:Ae)|clr (i:Ae)
 /-- d[k] = e, d.setdefault(k, e) -/
 |dput (i:Ae) (k e:E)|dsd (i:Ae) (k e:E)
 /-- x[k] = e -/
 |put (i:Ae) (k e:E)
 /-- x[k], x[l] = x[l], x[k] -/
 |swp (i k l:Ae)
 /-- x.append(y.pop(e)) -/
 |apop (j i:Ae) (e:E)
 |brk|cont
 /-- nothing: from here on x is no longer changed -/
 |rel (i:Ae)
inductive Ss where
 |nil|cons (s:S) (ss:Ss)
end
inductive O where
 |next (Y:Rho)|ret (d:D) (fr:Aj)|brk (Y:Rho)|cont (Y:Rho)|exn (x:Ex) (Y:Rho)|bad
 deriving Inhabited
noncomputable def O.of{α:Type}(Y:Rho)(r:R α)(f:α->O):O:=match r with
  |.ok a=>f a
  |.exn x => .exn x Y
  |.bad => .bad
@[simp]theorem O.of_ok(Y:Rho)(a:α)(f:α->O):O.of Y (.ok a) f=f a:=rfl
@[simp]theorem O.of_exn(Y:Rho)(x:Ex)(f:α->O):O.of Y (.exn x:R α) f = .exn x Y:=rfl
@[simp]theorem O.of_bad(Y:Rho)(f:α->O):O.of Y (.bad:R α) f = .bad:=rfl
noncomputable def Fo(U:Gam)(Y:Rho)(i:I):R (Ad D):=evI U Y i
noncomputable def C4(Y:Rho)(i:Ae):R (Ad D):=match Y[i]? with
  |some (Aa (.lst xs,Ab)) => .ok xs
  |_ => .bad
noncomputable def Os(Y:Rho)(i:Ae):R (Ad (Ad Ao × D)):=match Y[i]? with
  |some (Aa (.dic xs,Ab)) => .ok xs
  |_ => .bad
noncomputable def N7(d:D):R (Ad Ao):=match Ge d with
  |some k => .ok k
  |none => .bad
noncomputable def NU:Ae:=4096
noncomputable def O.seq(o:O)(f:Rho->O):O:=match o with
  |.next Y=>f Y
  |.ret d b => .ret d b
  |.brk Y => .brk Y
  |.cont Y => .cont Y
  |.exn x Y => .exn x Y
  |.bad => .bad
noncomputable def O.turn(o:O)(f:Rho->O):O:=match o with
  |.next Y=>f Y
  |.cont Y=>f Y
  |.brk Y => .next Y
  |.ret d b => .ret d b
  |.exn x Y => .exn x Y
  |.bad => .bad
noncomputable def Fa(body:D->Rho->O):Ad D->Rho->O
 |[],Y => .next Y
 |x::xs,Y=>(body x Y).turn (Fa body xs)
noncomputable def K4(c:Rho->R Aj)(body:Rho->O):Ae->Rho->O
 |0,_ => .bad
 |n+1,Y=>O.of Y (c Y) λb=>if b=Ab then (body Y).turn (K4 c body n) else .next Y
noncomputable def N6(Y:Rho)(k:Ae):R Ao:=(DM Y k).bind DB
noncomputable def Yh(Y:Rho)(d:D)(i k l:Ae):O:=match d with
  |.tup [x,y]=>O.of Y (C4 Y i) λxs=>O.of Y (N6 Y k) λa=>O.of Y (N6 Y l) λb=>match plD xs.length a,plD xs.length b with
    |some m,Aa n => .next (Y.set i (Aa (.lst ((xs.set m x).set n y),Ab)))
    |_,_ => .bad
  |_ => .bad
noncomputable def apD(Y:Rho)(j i:Ae)(ys xs:Ad D)(n:Ao):O:=match plD xs.length n with
  | some m=>(match xs[m]? with
    |some d=>if (j != i&&(Ce xs.length&&Ce (ys.length+1)))=Ab then .next ((Y.set i (Aa (.lst (xs.eraseIdx m),Ab))).set j (Aa (.lst (ys++[d]),Ab))) else .bad
    | none => .bad)
  |none => .bad
noncomputable def hdO(i:Ae)(y:Ex)(Y':Rho)(fh:Rho->O):O:=match fh (Y'.set i (Aa (.exc y.c y.fs,Ac))) with
  |.next Y'' => .next (Y''.set i Af)
  |.ret d f => .ret d f
  |_ => .bad
mutual
noncomputable def evS(U:Gam)(Y:Rho):S->O
  |.pass => .next Y
  | .asg i fresh e=>O.of Y (evE U Y e) λd=>if fresh=Ab then (if Dm U e=Ab then (match d with
      |.lst xs => .next (Y.set i (Aa (.lst xs,Ab)))
      |.dic xs => .next (Y.set i (Aa (.dic xs,Ab)))
      | _ => .bad) else .bad) else .next (Y.set i (Aa (d,Ac)))
  |.asgT ts e=>O.of Y (evE U Y e) λd=>O.of Y (IN ts d Y) λY' => .next Y'
  |.expr e=>O.of Y (evE U Y e) λ_ => .next Y
  |.ret e=>O.of Y (top Y e (evE U Y e)) λd => .ret d (Dm U e||(match e with | .var i=>(match Y[i]? with|some (Aa (_,o))=>o|_=>Ac)|_=>Ac))
  |.retN => .ret .non Ac
  |.ife c a b=>O.of Y ((top Y c (evE U Y c)).bind Bt) λk=>if k=Ab then evSs U Y a else evSs U Y b
  |.fors t it body=>O.of Y (Fo U Y it) λxs=>Fa (λx Y'=>evSs U (Y'.set t (Aa (x,Ac))) body) xs Y
  |.forT ts it body=>O.of Y (Fo U Y it) λxs=>Fa (λx Y'=>O.of Y' (EI ts x Y') λY''=>evSs U Y'' body) xs Y
  |.whl c body=>K4 (λY'=>(top Y' c (evE U Y' c)).bind Bt) (λY'=>evSs U Y' body) NU Y
  |.rais c as=>O.of Y (noX (evA U Y as)) λxs=>O.of Y (U.xn c xs) λx => .exn x Y
  |.tryx body c x h=>match evSs U Y body with
      | .exn y Y'=>if (U.up y.c).contains c=Ab then (match evSs U (Y'.set x (Aa (.exc y.c y.fs,Ac))) h with
          |.next Y'' => .next (Y''.set x Af)
          |.ret d f => .ret d f
          | _ => .bad) else .bad
      |o=>o
  |.try2 body c x h c' h' els=>match evSs U Y body with
      |.exn y Y'=>if (U.up y.c).contains c=Ab then hdO x y Y' (λr=>evSs U r h) else if (U.up y.c).contains c'=Ab then hdO x y Y' (λr=>evSs U r h') else .bad
      |.next Y'=>evSs U Y' els
      |o=>o
  |.app i e=>O.of Y (C4 Y i) λxs=>O.of Y (evE U Y e) λd=>if Ce (xs.length+1)=Ab then .next (Y.set i (Aa (.lst (xs++[d]),Ab))) else .bad
  |.ext i e=>O.of Y (C4 Y i) λxs=>O.of Y (evE U Y e) λd=>O.of Y (KO d) λys=>if Ce (xs.length+ys.length)=Ab then .next (Y.set i (Aa (.lst (xs++ys),Ab))) else .bad
  |.ins i k e=>O.of Y (C4 Y i) λxs=>O.of Y ((top Y k (evE U Y k)).bind DB) λj=>O.of Y (evE U Y e) λd=>if (Ce (xs.length+1)&&decide (0<=j)&&decide (j<=xs.length))=Ab then .next (Y.set i (Aa (.lst (xs.take j.toNat++d::xs.drop j.toNat),Ab))) else .bad
  |.rev i=>O.of Y (C4 Y i) λxs => .next (Y.set i (Aa (.lst xs.reverse,Ab)))
  |.clr i=>O.of Y (C4 Y i) λ_ => .next (Y.set i (Aa (.lst [],Ab)))
  |.dput i k e=>O.of Y (evE U Y e) λd=>O.of Y (Os Y i) λxs=>O.of Y ((evE U Y k).bind N7) λj=>if Ce (xs.length+1)=Ab then .next (Y.set i (Aa (.dic (Nw xs j d),Ab))) else .bad
  |.dsd i k e=>O.of Y (Os Y i) λxs=>O.of Y ((evE U Y k).bind N7) λj=>O.of Y (evE U Y e) λd=>if Ce (xs.length+1)=Ab then .next (Y.set i (Aa (.dic (if (xs.any λp=>p.1==j)=Ab then xs else Nw xs j d),Ab))) else .bad
  |.put i k e=>O.of Y (evE U Y e) λd=>O.of Y (C4 Y i) λxs=>O.of Y ((top Y k (evE U Y k)).bind DB) λj=>match plD xs.length j with
      |some n => .next (Y.set i (Aa (.lst (xs.set n d),Ab)))
      |none => .bad
  |.swp i k l=>O.of Y (evE U Y (.tup (.cons (.idx (.var i) (.var l)) (.cons (.idx (.var i) (.var k)) .nil)))) λd=>Yh Y d i k l
  |.apop j i e=>O.of Y (C4 Y j) λys=>O.of Y (C4 Y i) λxs=>O.of Y (evE U Y e) λd=>O.of Y (DB d) λn=>apD Y j i ys xs n
  |.brk => .brk Y
  |.cont => .cont Y
  |.rel i=>match Y[i]? with
      |some (Aa (d,Ab)) => .next (Y.set i (Aa (d,Ac)))
      |_ => .next Y
noncomputable def evSs(U:Gam)(Y:Rho):Ss->O
 |.nil => .next Y
 |.cons s ss=>(evS U Y s).seq λY'=>evSs U Y' ss
end
structure Df where
 n:Ae
 fr:Aj
 body:Ss
noncomputable def C3(n:Ae)(ds:Ad D):Rho:=ds.map (λd=>Aa (d,Ac))++DC (n-ds.length) Af
noncomputable def isL:D->Aj
 |.lst _=>Ab
 |.dic _=>Ab
 |_=>Ac
noncomputable def O.ans(fr:Aj)(o:O):R D:=match o with
  |.ret d b=>if (fr&&(!b&&isL d))=Ab then .bad else .ok d
  |.next _=>if fr=Ab then .bad else .ok .non
  |.exn x _ => .exn x
  |_ => .bad
noncomputable def Df.run(U:Gam)(f:Df)(ds:Ad D):R D:=(evSs U (C3 f.n ds) f.body).ans f.fr
structure Prg where
 xs:Aj
 defs:Ae->Df
 G:Ae->D
 up:Ae->Ad Ae
 xn:Ae->Ad D->R Ex
noncomputable def EL(xs:Aj)(r:R D):R D:=match xs with
  |true=>r
  |false=>noX r
noncomputable def gam(P:Prg):Ae->Gam
 |0=>⟨λ_ _ => .bad,P.G,P.up,λi=>(P.defs i).fr,P.xn⟩
 |n+1=>⟨λi ds=>EL P.xs ((P.defs i).run (gam P n) ds),P.G,P.up,λi=>(P.defs i).fr,P.xn⟩
end Ov
end
section
namespace Ov
open PySem
variable{α β:Type}{lo hi:Ao}{n:Ae}{x:D}
section
variable(U:Gam)(Y:Rho)
@[simp]theorem ZrL:evE U Y .non = .ok .non:=rfl
@[simp]theorem ZtD(b):evE U Y (.bl b) = .ok (.bl b):=rfl
@[simp]theorem ZrQ(b):evE U Y (.int b) = .ok (.int b):=rfl
@[simp]theorem UQ(b):evE U Y (.str b) = .ok (.str b):=rfl
@[simp]theorem ZrJ(i):evE U Y (.var i)=DM Y i:=rfl
@[simp]theorem Zou(i):evE U Y (.glob i) = .ok (U.G i):=rfl
@[simp]theorem ZrT(op a b):evE U Y (.bin op a b)=(top Y a (evE U Y a)).bind λx=>(top Y b (evE U Y b)).bind λy=>Cp op x y:=rfl
@[simp]theorem Ztz(op a):evE U Y (.un op a)=(top Y a (evE U Y a)).bind λx=>unD op x:=rfl
@[simp]theorem ZtC(a):evE U Y (.no a)=(top Y a (evE U Y a)).bind λx=>(Cz x).bind λb => .ok (.bl (!b)):=rfl
@[simp]theorem ZrU(es):evE U Y (.and es)=evN U Y es:=rfl
@[simp]theorem ZtB(es):evE U Y (.or es)=evO U Y es:=rfl
@[simp]theorem ZrF(e):evN U Y (.cons e .nil)=evE U Y e:=rfl
@[simp]theorem Zon(e e' es):evN U Y (.cons e (.cons e' es))=(evE U Y e).bind λx=>(Cz x).bind λc=>if c=Ab then evN U Y (.cons e' es) else .ok (.bl Ac):=rfl
@[simp]theorem ZrE(e):evO U Y (.cons e .nil)=evE U Y e:=rfl
@[simp]theorem Zom(e e' es):evO U Y (.cons e (.cons e' es))=(evE U Y e).bind λx=>(Cz x).bind λc=>if c=Ab then .ok (.bl Ab) else evO U Y (.cons e' es):=rfl
@[simp]theorem UR(op a b):evE U Y (.cmp op a b)=(top Y a (evE U Y a)).bind λx=>(top Y b (evE U Y b)).bind λy=>Bu op x y:=rfl
@[simp]theorem Zox(op op' a b c):evE U Y (.cmp2 op op' a b c)=(top Y a (evE U Y a)).bind λx=>(top Y b (evE U Y b)).bind λy=>(Bu op x y).bind λz=>(Cz z).bind λk=>if k=Ab then (top Y c (evE U Y c)).bind λu=>Bu op' y u else .ok (.bl Ac):=rfl
@[simp]theorem ZrO(c a b):evE U Y (.ite c a b)=(top Y c (evE U Y c)).bind λx=>(Bt x).bind λk=>if k=Ab then evE U Y a else evE U Y b:=rfl
@[simp]theorem Sd(f as):evE U Y (.call f as)=(evB U Y as).bind λxs=>(U.F f xs).bind λd=>if Fn Y as=Ab then .ok d else if Eu (U.fr f) d=Ab then .ok d else .bad:=rfl
@[simp]theorem V3(f as):evE U Y (.bi f as)=(evB U Y as).bind λxs=>biD f xs:=rfl
@[simp]theorem ZrP(a ks):evE U Y (.isi a ks)=(top Y a (evE U Y a)).bind λx=>CM U.up ks x:=rfl
@[simp]theorem ZrR(a i):evE U Y (.idx a i)=(top Y a (evE U Y a)).bind λx=>(top Y i (evE U Y i)).bind λy=>Gg x y:=rfl
@[simp]theorem ZtA(a lo hi):evE U Y (.sl a lo hi)=(top Y a (evE U Y a)).bind λx=>(top Y lo (evE U Y lo)).bind λl=>(slE lo l).bind λl'=>(top Y hi (evE U Y hi)).bind λh=>(slE hi h).bind λh'=>slD x l' h':=rfl
@[simp]theorem ZrK(es):evE U Y (.tup es)=(evA U Y es).bind λxs => .ok (.tup xs):=rfl
@[simp]theorem ZrN(es):evE U Y (.lst es)=(evA U Y es).bind λxs => .ok (.lst xs):=rfl
noncomputable def cG(U:Gam)(Y:Rho)(t:Ae)(c:E):D->R Aj:=λx=>(top (Y.set t (Aa (x,Ac))) c (evE U (Y.set t (Aa (x,Ac))) c)).bind Bt
noncomputable def cF(U:Gam)(Y:Rho)(t:Ae)(elt:E):D->R D:=λx=>evE U (Y.set t (Aa (x,Ac))) elt
noncomputable def mkL(r:R (Ad D)):R D:=(noX r).bind λys => .ok (.lst ys)
@[simp]theorem Zs5(ys):mkL (.ok ys) = .ok (.lst ys):=rfl
@[simp]theorem Zow(elt t it c):evE U Y (.comp elt t it c)=(evI U Y it).bind λxs=>mkL (CP (cG U Y t c) (cF U Y t elt) xs):=rfl
noncomputable def cGT(U:Gam)(Y:Rho)(ts:Ad Ae)(c:E):D->R Aj:=λx=>(EI ts x Y).bind λY'=>(top Y' c (evE U Y' c)).bind Bt
noncomputable def cFT(U:Gam)(Y:Rho)(ts:Ad Ae)(elt:E):D->R D:=λx=>(EI ts x Y).bind λY'=>evE U Y' elt
@[simp]theorem ZmV(elt ts it c):evE U Y (.compT elt ts it c)=(evI U Y it).bind λxs=>mkL (CP (cGT U Y ts c) (cFT U Y ts elt) xs):=rfl
@[simp]theorem Zot(it):evE U Y (.tupI it)=(evI U Y it).bind λxs => .ok (.tup xs):=rfl
@[simp]theorem Zov:evE U Y .dnew = .ok (.dic []):=rfl
@[simp]theorem ZrM(c as):evE U Y (.mkx c as)=(noX (evA U Y as)).bind λxs=>(U.xn c xs).bind λx => .ok (.exc x.c x.fs):=rfl
@[simp]theorem ZrS(o f):evE U Y (.fld o f)=(top Y o (evE U Y o)).bind λx=>HS x f:=rfl
@[simp]theorem ZrW:evA U Y .nil = .ok []:=rfl
@[simp]theorem Ml(e es):evA U Y (.cons e es)=(evE U Y e).bind λx=>(evA U Y es).bind λxs => .ok (x::xs):=rfl
@[simp]theorem ZrV:evB U Y .nil = .ok []:=rfl
@[simp]theorem J7(e es):evB U Y (.cons e es)=(top Y e (evE U Y e)).bind λx=>(evB U Y es).bind λxs => .ok (x::xs):=rfl
@[simp]theorem Zus(a):evI U Y (.e a)=(evE U Y a).bind D0:=rfl
@[simp]theorem ZrH(a):evI U Y (.rng a)=(top Y a (evE U Y a)).bind λx=>(DB x).bind λj=>Dl 0 j:=rfl
@[simp]theorem Zos(a b):evI U Y (.rng2 a b)=(top Y a (evE U Y a)).bind λx=>(top Y b (evE U Y b)).bind λy=>(DB x).bind λi=>(DB y).bind λj=>Dl i j:=rfl
@[simp]theorem ZrG(a b):evI U Y (.zip a b)=(evE U Y a).bind λx=>(evE U Y b).bind λy=>(D0 x).bind λxs=>(D0 y).bind λys => .ok (K0 xs ys):=rfl
@[simp]theorem Zor(a b c):evI U Y (.zip3 a b c)=(evE U Y a).bind λx=>(evE U Y b).bind λy=>(evE U Y c).bind λz=>NI x y z:=rfl
@[simp]theorem ZrI(a):evI U Y (.enm a)=(evE U Y a).bind λx=>(D0 x).bind λxs => .ok (Lf 0 xs):=rfl
@[simp]theorem Zoo(a b):Fo U Y (.zip a b)=evI U Y (.zip a b):=rfl
@[simp]theorem ZmT(a b c):Fo U Y (.zip3 a b c)=evI U Y (.zip3 a b c):=rfl
@[simp]theorem Zoq(a):Fo U Y (.enm a)=evI U Y (.enm a):=rfl
@[simp]theorem Zty(a):Fo U Y (.e a)=(evE U Y a).bind D0:=rfl
@[simp]theorem Zop(a):Fo U Y (.rng a)=evI U Y (.rng a):=rfl
@[simp]theorem ZmU(a b):Fo U Y (.rng2 a b)=evI U Y (.rng2 a b):=rfl
variable(r:R D)
@[simp]theorem Zo3(i):top Y (.var i) r=CG Y i:=rfl
@[simp]theorem Zo5:top Y .non r=r:=rfl
@[simp]theorem Zsz(b):top Y (.bl b) r=r:=rfl
@[simp]theorem Zpa(b):top Y (.int b) r=r:=rfl
@[simp]theorem S4(b):top Y (.str b) r=r:=rfl
@[simp]theorem ZnG(b):top Y (.glob b) r=r:=rfl
@[simp]theorem Zpe(op a b):top Y (.bin op a b) r=r:=rfl
@[simp]theorem Zsv(op a):top Y (.un op a) r=r:=rfl
@[simp]theorem Zsy(a):top Y (.no a) r=r:=rfl
@[simp]theorem Zpf(a):top Y (.and a) r=r:=rfl
@[simp]theorem Zsx(a):top Y (.or a) r=r:=rfl
@[simp]theorem Zpd(op a b):top Y (.cmp op a b) r=r:=rfl
@[simp]theorem ZnJ(op op' a b c):top Y (.cmp2 op op' a b c) r=r:=rfl
@[simp]theorem Zo8(a b c):top Y (.ite a b c) r=r:=rfl
@[simp]theorem ZnK(a b):top Y (.call a b) r=r:=rfl
@[simp]theorem ZsA(a b):top Y (.bi a b) r=r:=rfl
@[simp]theorem Zo9(a b):top Y (.isi a b) r=r:=rfl
@[simp]theorem Zpb(a b):top Y (.idx a b) r=r:=rfl
@[simp]theorem Zsw(a b c):top Y (.sl a b c) r=r:=rfl
@[simp]theorem Zo4(a):top Y (.tup a) r=r:=rfl
@[simp]theorem Zo7(a):top Y (.lst a) r=r:=rfl
@[simp]theorem ZnI(a b c d):top Y (.comp a b c d) r=r:=rfl
@[simp]theorem Zo6(a b):top Y (.mkx a b) r=r:=rfl
@[simp]theorem Zpc(a b):top Y (.fld a b) r=r:=rfl
@[simp]theorem Zk9(a b c d):top Y (.compT a b c d) r=r:=rfl
@[simp]theorem ZnF(a):top Y (.tupI a) r=r:=rfl
@[simp]theorem ZnH:top Y .dnew r=r:=rfl
end
@[simp]theorem Zk2(x:D × Aj)(Y:Rho):CG (Aa x::Y) 0 = .ok x.1:=rfl
@[simp]theorem Zk3(x:D)(Y:Rho):DM (Aa (x,Ac)::Y) 0 = .ok x:=rfl
@[simp]theorem ZkJ(x:Sl)(Y:Rho)(i:Ae)[NeZero i]:CG (x::Y) i=CG Y (i-1):=by
 obtain⟨j,rfl⟩ : ∃ j,i=j+1:=⟨i-1,by have:=Ha i;omega⟩
 rfl
@[simp]theorem ZkK(x:Sl)(Y:Rho)(i:Ae)[NeZero i]:DM (x::Y) i=DM Y (i-1):=by
 obtain⟨j,rfl⟩ : ∃ j,i=j+1:=⟨i-1,by have:=Ha i;omega⟩
 rfl
noncomputable def shV(Y:Rho)(i:Ae):Aj:=match Y[i]? with
    |some (Aa (_,Ab))=>Ac
    |_=>Ab
@[simp]theorem ZnN(x:D)(b:Aj)(Y:Rho):shV (Aa (x,b)::Y) 0 = !b:=by cases b <;> rfl
@[simp]theorem Zlu(Y:Rho):shV (Af::Y) 0=Ab:=rfl
@[simp]theorem Zlv(x:Sl)(Y:Rho)(i:Ae)[NeZero i]:shV (x::Y) i=shV Y (i-1):=by
 obtain⟨j,rfl⟩ : ∃ j,i=j+1:=⟨i-1,by have:=Ha i;omega⟩
 rfl
section
variable(Y:Rho)
@[simp]theorem ZpF(i):shE Y (.var i)=shV Y i:=rfl
@[simp]theorem ZpI:shE Y .non=Ab:=rfl
@[simp]theorem ZsQ(b):shE Y (.bl b)=Ab:=rfl
@[simp]theorem ZpN(b):shE Y (.int b)=Ab:=rfl
@[simp]theorem ZpH(b):shE Y (.str b)=Ab:=rfl
@[simp]theorem ZnQ(b):shE Y (.glob b)=Ab:=rfl
@[simp]theorem ZpR(op a b):shE Y (.bin op a b)=Ab:=rfl
@[simp]theorem ZsM(op a):shE Y (.un op a)=Ab:=rfl
@[simp]theorem ZsP(a):shE Y (.no a)=Ab:=rfl
@[simp]theorem ZpS(a):shE Y (.and a)=Ab:=rfl
@[simp]theorem ZsO(a):shE Y (.or a)=Ab:=rfl
@[simp]theorem ZpQ(op a b):shE Y (.cmp op a b)=Ab:=rfl
@[simp]theorem ZnT(op op' a b c):shE Y (.cmp2 op op' a b c)=Ab:=rfl
@[simp]theorem ZpL(a b c):shE Y (.ite a b c)=Ab:=rfl
@[simp]theorem ZnU(a b):shE Y (.call a b)=Ab:=rfl
@[simp]theorem ZsR(a b):shE Y (.bi a b)=Ab:=rfl
@[simp]theorem ZpM(a b):shE Y (.isi a b)=Ab:=rfl
@[simp]theorem ZpO(a b):shE Y (.idx a b)=Ab:=rfl
@[simp]theorem ZsN(a b c):shE Y (.sl a b c)=Ab:=rfl
@[simp]theorem ZpG(a):shE Y (.tup a)=Ab:=rfl
@[simp]theorem ZpK(a):shE Y (.lst a)=Ab:=rfl
@[simp]theorem ZnS(a b c d):shE Y (.comp a b c d)=Ab:=rfl
@[simp]theorem Zlw(a b c d):shE Y (.compT a b c d)=Ab:=rfl
@[simp]theorem ZnP(a):shE Y (.tupI a)=Ab:=rfl
@[simp]theorem ZnR:shE Y .dnew=Ab:=rfl
@[simp]theorem ZpJ(a b):shE Y (.mkx a b)=Ab:=rfl
@[simp]theorem ZpP(a b):shE Y (.fld a b)=Ab:=rfl
@[simp]theorem ZnO:Fn Y .nil=Ab:=rfl
@[simp]theorem Rw(e es):Fn Y (.cons e es)=(shE Y e&&Fn Y es):=rfl
end
@[simp]theorem ZkL(Y:Rho):EG [] [] Y=Aa Y:=rfl
@[simp]theorem Zi3(t ts d ds)(Y:Rho):EG (t::ts) (d::ds) Y=EG ts ds (Y.set t (Aa (d,Ac))):=rfl
@[simp]theorem Znf(ts ds)(Y:Rho):IN ts (.lst ds) Y=match EG ts ds Y with
  |some Y' => .ok Y'
  |none => .bad:=rfl
@[simp]theorem Zne(ts ds)(Y:Rho):IN ts (.tup ds) Y=EI ts (.tup ds) Y:=rfl
@[simp]theorem Q0(ts ds)(Y:Rho):EI ts (.tup ds) Y=match EG ts ds Y with
  |some Y' => .ok Y'
  |none => .bad:=rfl
@[simp]theorem ZoH(c:Prop)[D7 c](a b:R α)(f:α->R β):(if c then a else b).bind f=if c then a.bind f else b.bind f:=by split <;> rfl
@[simp]theorem Zs3(Y:Rho)(c:Prop)[D7 c](a b:R α)(f:α->O):O.of Y (if c then a else b) f=if c then O.of Y a f else O.of Y b f:=by split <;> rfl
@[simp]theorem ZqQ(Y:Rho)(a:R α)(g:α->R β)(f:β->O):O.of Y (a.bind g) f=O.of Y a λx=>O.of Y (g x) f:=by cases a <;> rfl
@[simp]theorem ZpU(c:Prop)[D7 c](a b:O)(f:Rho->O):O.seq (if c then a else b) f=if c then a.seq f else b.seq f:=by split <;> rfl
@[simp]theorem Znv(c:Prop)[D7 c](a b:O)(f:Rho->O):O.turn (if c then a else b) f=if c then a.turn f else b.turn f:=by split <;> rfl
@[simp]theorem Zse(fr:Aj)(c:Prop)[D7 c](a b:O):O.ans fr (if c then a else b)=if c then a.ans fr else b.ans fr:=by split <;> rfl
@[simp]theorem ZnV(Y f):O.seq (.next Y) f=f Y:=rfl
@[simp]theorem ZpT(d b f):O.seq (.ret d b) f = .ret d b:=rfl
@[simp]theorem ZpW(Y f):O.seq (.brk Y) f = .brk Y:=rfl
@[simp]theorem ZnW(Y f):O.seq (.cont Y) f = .cont Y:=rfl
@[simp]theorem ZpV(x Y f):O.seq (.exn x Y) f = .exn x Y:=rfl
@[simp]theorem ZpX(f):O.seq .bad f = .bad:=rfl
@[simp]theorem Zk6(Y f):O.turn (.next Y) f=f Y:=rfl
@[simp]theorem Znu(d b f):O.turn (.ret d b) f = .ret d b:=rfl
@[simp]theorem Znx(Y f):O.turn (.brk Y) f = .next Y:=rfl
@[simp]theorem Zk7(Y f):O.turn (.cont Y) f=f Y:=rfl
@[simp]theorem Znw(x Y f):O.turn (.exn x Y) f = .exn x Y:=rfl
@[simp]theorem Zny(f):O.turn .bad f = .bad:=rfl
@[simp]theorem ZoK(Y):O.ans Ac (.next Y) = .ok .non:=rfl
@[simp]theorem Zsd(d b):O.ans Ac (.ret d b) = .ok d:=rfl
@[simp]theorem ZoJ(d b):O.ans Ab (.ret d b)=if (!b&&isL d)=Ab then .bad else .ok d:=rfl
@[simp]theorem Zrg(d):isL (.lst d)=Ab:=rfl
@[simp]theorem Zrf(d):isL (.tup d)=Ac:=rfl
@[simp]theorem Zrh(d):isL (.int d)=Ac:=rfl
@[simp]theorem Zsf(fr x Y):O.ans fr (.exn x Y) = .exn x:=rfl
@[simp]theorem Zsg(fr):O.ans fr .bad = .bad:=rfl
@[simp]theorem ZtL(i j:Ao):Cp .Add (.int i) (.int j) = .ok (.int (i+j)):=rfl
@[simp]theorem ZsG(i j:Ao):Cp .Sub (.int i) (.int j) = .ok (.int (i-j)):=rfl
@[simp]theorem Wb(i j:Ao):Cp .Mult (.int i) (.int j)=if (FN i j||IM i j)=Ab then .ok (.int (i*j)) else .bad:=rfl
@[simp]theorem UN(i j:Ao):Cp .FloorDiv (.int i) (.int j)=if 0<j/\j<1073741824 then .ok (.int (i/j)) else .bad:=rfl
@[simp]theorem Wc(i j:Ao):Cp .Mod (.int i) (.int j)=if 0<j then .ok (.int (i%j)) else .bad:=rfl
@[simp]theorem Vr(i j:Ao):Cp .Pow (.int i) (.int j)=if (0<=j/\j<=1000000)/\(-(18446744073709551616:Ao)<i/\i<18446744073709551616) then .ok (.int (i ^ j.toNat)) else .bad:=rfl
@[simp]theorem NF(x y:Ag):Cp .Add (.str x) (.str y)=if Ce (x.length+y.length)=Ab then .ok (.str (x++y)) else .bad:=rfl
@[simp]theorem NG(x y:Ad D):Cp .Add (.lst x) (.lst y)=if Ce (x.length+y.length)=Ab then .ok (.lst (x++y)) else .bad:=rfl
@[simp]theorem NE(x y:Ad D):Cp .Add (.tup x) (.tup y)=if (!x.isEmpty&&Ce (x.length+y.length))=Ab then .ok (.tup (x++y)) else .bad:=rfl
@[simp]theorem Zt9(i:Ao):unD .USub (.int i) = .ok (.int (-i)):=rfl
@[simp]theorem X1(x y:D):Bu .Eq x y=if (flD 5 x&&flD 5 y)=Ab then .ok (.bl (eqD x y)) else .bad:=rfl
@[simp]theorem Xi(x y:D):Bu .NotEq x y=if (flD 5 x&&flD 5 y)=Ab then .ok (.bl (!eqD x y)) else .bad:=rfl
@[simp]theorem Zua(i j:Ao):Bu .Lt (.int i) (.int j) = .ok (.bl (decide (i<j))):=rfl
@[simp]theorem Zud(i j:Ao):Bu .LtE (.int i) (.int j) = .ok (.bl (decide (i<=j))):=rfl
@[simp]theorem Zun(i j:Ao):Bu .Gt (.int i) (.int j) = .ok (.bl (decide (j<i))):=rfl
@[simp]theorem Zuo(i j:Ao):Bu .GtE (.int i) (.int j) = .ok (.bl (decide (j<=i))):=rfl
@[simp]theorem YC(x:D)(ys:Ad D):Bu .In x (.lst ys)=if (flD 5 x&&ys.all (flD 5))=Ab then .ok (.bl (ys.any λy=>eqD y x)) else .bad:=rfl
@[simp]theorem YB(x:D)(ys:Ad D):Bu .In x (.tup ys)=if (flD 5 x&&ys.all (flD 5))=Ab then .ok (.bl (ys.any λy=>eqD y x)) else .bad:=rfl
@[simp]theorem Xh(x:D)(ys:Ad D):Bu .NotIn x (.lst ys)=if (flD 5 x&&ys.all (flD 5))=Ab then .ok (.bl (!ys.any λy=>eqD y x)) else .bad:=rfl
@[simp]theorem Xg(x:D)(ys:Ad D):Bu .NotIn x (.tup ys)=if (flD 5 x&&ys.all (flD 5))=Ab then .ok (.bl (!ys.any λy=>eqD y x)) else .bad:=rfl
@[simp]theorem Zti:Bu .Is .non .non = .ok (.bl Ab):=rfl
@[simp]theorem Ztk(i):Bu .Is (.int i) .non = .ok (.bl Ac):=rfl
@[simp]theorem Zth(i):Bu .Is (.tup i) .non = .ok (.bl Ac):=rfl
@[simp]theorem Ztj(i):Bu .Is (.lst i) .non = .ok (.bl Ac):=rfl
@[simp]theorem Zug(a b):Bu .Is (.bl a) (.bl b) = .ok (.bl (a==b)):=rfl
@[simp]theorem Ztf(a b):Bu .IsNot (.bl a) (.bl b) = .ok (.bl (!(a==b))):=rfl
@[simp]theorem Zq5:Bu .IsNot .non .non = .ok (.bl Ac):=rfl
@[simp]theorem Zq7(i):Bu .IsNot (.int i) .non = .ok (.bl Ab):=rfl
@[simp]theorem Zq4(i):Bu .IsNot (.tup i) .non = .ok (.bl Ab):=rfl
@[simp]theorem Zq6(i):Bu .IsNot (.lst i) .non = .ok (.bl Ab):=rfl
@[simp]theorem Zr2(i j:Ao):eqD (.int i) (.int j)=(i==j):=rfl
@[simp]theorem ZtE(i j:Aj):eqD (.bl i) (.bl j)=(i==j):=rfl
@[simp]theorem ZrZ(i j:Ag):eqD (.str i) (.str j)=(i==j):=rfl
@[simp]theorem ZrY(i j:Ad D):eqD (.tup i) (.tup j)=eqDs i j:=rfl
@[simp]theorem Zr1(i j:Ad D):eqD (.lst i) (.lst j)=eqDs i j:=rfl
@[simp]theorem Zr0:eqD .non .non=Ab:=rfl
@[simp]theorem Zko(i):eqD .non (.int i)=Ac:=rfl
@[simp]theorem Zkp(i):eqD (.int i) .non=Ac:=rfl
@[simp]theorem Zoy:eqDs [] []=Ab:=rfl
@[simp]theorem JO(x y:D)(xs ys:Ad D):eqDs (x::xs) (y::ys)=(eqD x y&&eqDs xs ys):=rfl
@[simp]theorem Zrv(n)(i:Ao):flD n (.int i)=Ab:=by cases n <;> rfl
@[simp]theorem Ztx(n)(i:Aj):flD n (.bl i)=Ab:=by cases n <;> rfl
@[simp]theorem Zrt(n)(i:Ag):flD n (.str i)=Ab:=by cases n <;> rfl
@[simp]theorem Zru(n):flD n .non=Ab:=by cases n <;> rfl
@[simp]theorem Zn2(i):flD 5 (.tup i)=i.all (flD 4):=rfl
@[simp]theorem Zn7(i):flD 5 (.lst i)=i.all (flD 4):=rfl
@[simp]theorem Zn3(i):flD 4 (.tup i)=i.all (flD 3):=rfl
@[simp]theorem Zn8(i):flD 4 (.lst i)=i.all (flD 3):=rfl
@[simp]theorem Zn4(i):flD 3 (.tup i)=i.all (flD 2):=rfl
@[simp]theorem Zn9(i):flD 3 (.lst i)=i.all (flD 2):=rfl
@[simp]theorem Zn5(i):flD 2 (.tup i)=i.all (flD 1):=rfl
@[simp]theorem Zoa(i):flD 2 (.lst i)=i.all (flD 1):=rfl
@[simp]theorem Zn6(i):flD 1 (.tup i)=i.all (flD 0):=rfl
@[simp]theorem Zob(i):flD 1 (.lst i)=i.all (flD 0):=rfl
@[simp]theorem Zo1(b):Bt (.bl b) = .ok b:=rfl
@[simp]theorem ZnC(i):Bt (.int i) = .ok (i != 0):=rfl
@[simp]theorem ZnB(i):Bt (.lst i) = .ok (!i.isEmpty):=rfl
@[simp]theorem Znz(i):Bt (.tup i) = .ok (!i.isEmpty):=rfl
@[simp]theorem ZnA:Bt .non = .ok Ac:=rfl
@[simp]theorem Zo2(b):DN (.bl b) = .ok b:=rfl
@[simp]theorem ZnE(i):DN (.int i) = .ok (i != 0):=rfl
@[simp]theorem ZnD:DN .non = .ok Ac:=rfl
@[simp]theorem Znm:Er [] = .ok Ab:=rfl
@[simp]theorem LJ(x r):Er (x::r)=(DN x).bind λb=>(Er r).bind λc => .ok (b&&c):=rfl
@[simp]theorem Znl:F9 [] = .ok Ac:=rfl
@[simp]theorem ZkU(x r):F9 (x::r)=(DN x).bind λb=>(F9 r).bind λc => .ok (b||c):=rfl
@[simp]theorem Zr4(b)(d):EL b (.ok d) = .ok d:=by cases b <;> rfl
@[simp]theorem ZoA(b):EL b .bad = .bad:=by cases b <;> rfl
@[simp]theorem Zoz(x):EL Ab (.exn x) = .exn x:=rfl
@[simp]theorem ZkS(r):EL Ac r=noX r:=rfl
@[simp]theorem ZqR(a:α):noX (.ok a) = .ok a:=rfl
@[simp]theorem ZqT:noX (.bad:R α) = .bad:=rfl
@[simp]theorem ZqS(x):noX (.exn x:R α) = .bad:=rfl
@[simp]theorem Zsc(b):Cz (.bl b) = .ok b:=rfl
@[simp]theorem Znk(b):DB (.int b) = .ok b:=rfl
@[simp]theorem Zni(b):KO (.lst b) = .ok b:=rfl
@[simp]theorem Znh(b):D0 (.lst b) = .ok b:=rfl
@[simp]theorem Zng(b):D0 (.tup b) = .ok b:=rfl
@[simp]theorem X4(xs i):Gg (.lst xs) (.int i)=C5 xs i:=rfl
@[simp]theorem X3(xs i):Gg (.tup xs) (.int i)=C5 xs i:=rfl
@[simp]theorem Zuc(xs):biD .len [.lst xs] = .ok (.int xs.length):=rfl
@[simp]theorem Zub(xs):biD .len [.tup xs] = .ok (.int xs.length):=rfl
@[simp]theorem Zux(i):biD .abs [.int i] = .ok (.int (if i<0 then -i else i)):=rfl
@[simp]theorem Zs8(i j):biD .max [.int i,.int j] = .ok (.int (if i<j then j else i)):=rfl
@[simp]theorem Zs6(i j):biD .min [.int i,.int j] = .ok (.int (if j<i then j else i)):=rfl
@[simp]theorem Zui(i):biD .int [.int i] = .ok (.int i):=rfl
@[simp]theorem Zuj(i):biD .int [.bl i] = .ok (.int (b2i i)):=rfl
@[simp]theorem Ztd(i):biD .list [.lst i] = .ok (.lst i):=rfl
@[simp]theorem Ztc(i):biD .list [.tup i] = .ok (.lst i):=rfl
@[simp]theorem Zo0(i):biD .tuple [.lst i] = .ok (.tup i):=rfl
@[simp]theorem ZoZ(i):biD .tuple [.tup i] = .ok (.tup i):=rfl
@[simp]theorem Yc(i):biD .all [.lst i]=(Er i).bind λb => .ok (.bl b):=rfl
@[simp]theorem Zuw(i):biD .any [.lst i]=(F9 i).bind λb => .ok (.bl b):=rfl
@[simp]theorem Zuv(i):biD .any [.tup i]=(F9 i).bind λb => .ok (.bl b):=rfl
@[simp]theorem Zt4(i):biD .sum [.lst i]=(HP 0 i).bind λb => .ok (.int b):=rfl
@[simp]theorem Zt3(i):biD .sum [.tup i]=(HP 0 i).bind λb => .ok (.int b):=rfl
@[simp]theorem ZnL(i):biD .sorted [.lst i]=(MX i).bind λb => .ok (.lst b):=rfl
@[simp]theorem Zt5(xs k):biD .stp [.lst xs,.int k] = .ok (.lst (Oj k.toNat xs)):=rfl
@[simp]theorem Zt7(xs):biD .rvs [.lst xs] = .ok (.lst xs.reverse):=rfl
@[simp]theorem Zta(xs):biD .lset [.lst xs]=N3 xs:=rfl
@[simp]theorem ZsB(x y):biD .tmin [x,y]=mmD Ac x y:=rfl
@[simp]theorem ZtR(x y):biD .tlt [x,y]=Of x y:=rfl
@[simp]theorem ZsC(x y):biD .tmax [x,y]=mmD Ab x y:=rfl
@[simp]theorem Zr5(xs x):biD .count [.lst xs,x]=if (flD 5 x&&xs.all (flD 5))=Ab then .ok (.int ((xs.filter λy=>eqD y x).length:Ae)) else .bad:=rfl
@[simp]theorem ZuF(xs lo hi):slD (.tup xs) lo hi=if (GD xs.length 0 lo==0&&GD xs.length xs.length hi==xs.length)=Ab then .bad else .ok (.tup (Jf xs lo hi)):=rfl
@[simp]theorem ZuG(xs lo hi):slD (.lst xs) lo hi = .ok (.lst (Jf xs lo hi)):=rfl
@[simp]theorem ZpA(d):slE .non d = .ok Af:=rfl
@[simp]theorem ZpB(k i):slE (.int k) (.int i) = .ok (Aa i):=rfl
@[simp]theorem Zpz(k i):slE (.var k) (.int i) = .ok (Aa i):=rfl
@[simp]theorem ZpC(op a b i):slE (.bin op a b) (.int i) = .ok (Aa i):=rfl
@[simp]theorem ZsJ(op a i):slE (.un op a) (.int i) = .ok (Aa i):=rfl
@[simp]theorem ZsK(b as i):slE (.bi b as) (.int i) = .ok (Aa i):=rfl
@[simp]theorem Zra(up ks):CM up ks .non=if ks.any CN=Ab then .bad else .ok (.bl (ks.any λk=>kiD up k .non)):=rfl
@[simp]theorem Ztg(up ks b):CM up ks (.bl b)=if ks.any CN=Ab then .bad else .ok (.bl (ks.any λk=>kiD up k (.bl b))):=rfl
@[simp]theorem Zrc(up ks b):CM up ks (.int b)=if ks.any CN=Ab then .bad else .ok (.bl (ks.any λk=>kiD up k (.int b))):=rfl
@[simp]theorem Zq9(up ks b):CM up ks (.str b)=if ks.any CN=Ab then .bad else .ok (.bl (ks.any λk=>kiD up k (.str b))):=rfl
@[simp]theorem Zq8(up ks b):CM up ks (.tup b)=if ks.any CN=Ab then .bad else .ok (.bl (ks.any λk=>kiD up k (.tup b))):=rfl
@[simp]theorem Zrb(up ks b):CM up ks (.lst b)=if ks.any CN=Ab then .bad else .ok (.bl (ks.any λk=>kiD up k (.lst b))):=rfl
@[simp]theorem Zrd(up ks c f):CM up ks (.exc c f)=if ks.all CN=Ab then .ok (.bl (ks.any λk=>kiD up k (.exc c f))) else .bad:=rfl
@[simp]theorem ZoE(c):CN (.cls c)=Ab:=rfl
@[simp]theorem ZmZ:CN .verr=Ab:=rfl
@[simp]theorem ZoD:CN .int=Ac:=rfl
@[simp]theorem Zm1:CN .bool=Ac:=rfl
@[simp]theorem ZoC:CN .str=Ac:=rfl
@[simp]theorem Zm0:CN .list=Ac:=rfl
@[simp]theorem ZkT:CN .tuple=Ac:=rfl
@[simp]theorem ZkP(up i):kiD up .int (.int i)=Ab:=rfl
@[simp]theorem ZkO(up):kiD up .int .non=Ac:=rfl
@[simp]theorem Zj7(up i):kiD up .bool (.int i)=Ac:=rfl
@[simp]theorem ZkN(up i):kiD up .int (.tup i)=Ac:=rfl
@[simp]theorem ZkR(up i):kiD up .bool (.bl i)=Ab:=rfl
@[simp]theorem Zj6(up):kiD up .bool .non=Ac:=rfl
@[simp]theorem Zj5(up i):kiD up .list (.lst i)=Ab:=rfl
@[simp]theorem Zh7(up i):kiD up .tuple (.tup i)=Ab:=rfl
@[simp]theorem Zh8(up):kiD up .tuple .non=Ac:=rfl
@[simp]theorem ZkQ(up c k f):kiD up (.cls c) (.exc k f)=(up k).contains c:=rfl
@[simp]theorem Zj4(up k f):kiD up .verr (.exc k f)=Ab:=rfl
theorem J6{xs:Ad D}{i:Ao}{d:D}(h0:0<=i)(h:xs[i.toNat]? = Aa d):C5 xs i = .ok d:=by
 unfold C5 plD;obtain⟨h1,_⟩:=A4.mp h;rw[AX h0,AX (by omega)]
 dsimp only;rw[h]
section
variable(U:Gam)(Y:Rho)
@[simp]theorem Zoc:evSs U Y .nil = .next Y:=rfl
noncomputable def E9(U:Gam)(ss:Ss)(o:O):O:=o.seq λY'=>evSs U Y' ss
@[simp]theorem ZmS(s ss):evSs U Y (.cons s ss)=E9 U ss (evS U Y s):=rfl
@[simp]theorem Zro(ss):E9 U ss (.next Y)=evSs U Y ss:=rfl
@[simp]theorem Zto(ss d b):E9 U ss (.ret d b) = .ret d b:=rfl
@[simp]theorem Zts(ss):E9 U ss (.brk Y) = .brk Y:=rfl
@[simp]theorem Zrp(ss):E9 U ss (.cont Y) = .cont Y:=rfl
@[simp]theorem Ztr(ss x):E9 U ss (.exn x Y) = .exn x Y:=rfl
@[simp]theorem Ztt(ss):E9 U ss .bad = .bad:=rfl
@[simp]theorem Ztq(ss)(c:Prop)[D7 c](a b:O):E9 U ss (if c then a else b)=if c then E9 U ss a else E9 U ss b:=by split <;> rfl
@[simp]theorem Ztp(o:O):E9 U .nil o=o:=by cases o <;> rfl
noncomputable def OS(U:Gam)(t:Ae)(body:Ss):D->Rho->O:=λx Y'=>evSs U (Y'.set t (Aa (x,Ac))) body
noncomputable def whC(U:Gam)(c:E):Rho->R Aj:=λY'=>(top Y' c (evE U Y' c)).bind Bt
noncomputable def whB(U:Gam)(body:Ss):Rho->O:=λY'=>evSs U Y' body
noncomputable def OR(U:Gam)(t:Ae)(body:Ss)(Y:Rho)(r:R (Ad D)):O:=O.of Y r λxs=>Fa (OS U t body) xs Y
@[simp]theorem Zrs(t body xs):OR U t body Y (.ok xs)=Fa (OS U t body) xs Y:=rfl
@[simp]theorem Zog:evS U Y .pass = .next Y:=rfl
@[simp]theorem ZrC(i e):evS U Y (.asg i Ac e)=O.of Y (evE U Y e) λd => .next (Y.set i (Aa (d,Ac))):=rfl
@[simp]theorem Zoj(e):evS U Y (.expr e)=O.of Y (evE U Y e) λ_ => .next Y:=rfl
@[simp]theorem UP(e):evS U Y (.ret e)=O.of Y (top Y e (evE U Y e)) λd => .ret d (Dm U e||(match e with | .var i=>(match Y[i]? with|some (Aa (_,o))=>o|_=>Ac)|_=>Ac)):=rfl
@[simp]theorem Zoe:evS U Y .retN = .ret .non Ac:=rfl
@[simp]theorem Zry(c a b):evS U Y (.ife c a b)=O.of Y ((top Y c (evE U Y c)).bind Bt) λk=>if k=Ab then evSs U Y a else evSs U Y b:=rfl
@[simp]theorem Zoh(t it body):evS U Y (.fors t it body)=OR U t body Y (Fo U Y it):=rfl
noncomputable def NW(U:Gam)(ts:Ad Ae)(body:Ss):D->Rho->O:=λx Y'=>O.of Y' (EI ts x Y') λY''=>evSs U Y'' body
noncomputable def NV(U:Gam)(ts:Ad Ae)(body:Ss)(Y:Rho)(r:R (Ad D)):O:=O.of Y r λxs=>Fa (NW U ts body) xs Y
@[simp]theorem Zn1(t body xs):NV U t body Y (.ok xs)=Fa (NW U t body) xs Y:=rfl
@[simp]theorem Zoi(t it body):evS U Y (.forT t it body)=NV U t body Y (Fo U Y it):=rfl
@[simp]theorem Zol(ts e):evS U Y (.asgT ts e)=O.of Y (evE U Y e) λd=>O.of Y (IN ts d Y) λY' => .next Y':=rfl
theorem Sc(i e):evS U Y (.asg i Ab e)=O.of Y (evE U Y e) λd=>if Dm U e=Ab then (match d with
      |.lst xs => .next (Y.set i (Aa (.lst xs,Ab)))
      |.dic xs => .next (Y.set i (Aa (.dic xs,Ab)))
      | _ => .bad) else .bad:=rfl
noncomputable def setF(Y:Rho)(i:Ae):D->O
 |.lst xs => .next (Y.set i (Aa (.lst xs,Ab)))
 |.dic xs => .next (Y.set i (Aa (.dic xs,Ab)))
 |_ => .bad
@[simp]theorem ZsS(i xs):setF Y i (.lst xs) = .next (Y.set i (Aa (.lst xs,Ab))):=rfl
@[simp]theorem ZsT(i xs):setF Y i (.dic xs) = .next (Y.set i (Aa (.dic xs,Ab))):=rfl
@[simp]theorem R4(i e):evS U Y (.asg i Ab e)=O.of Y (evE U Y e) λd=>if Dm U e=Ab then setF Y i d else .bad:=by
 rw[Sc]
 congr 1
@[simp]theorem ZrD(i e):evS U Y (.app i e)=O.of Y (C4 Y i) λxs=>O.of Y (evE U Y e) λd=>if Ce (xs.length+1)=Ab then .next (Y.set i (Aa (.lst (xs++[d]),Ab))) else .bad:=rfl
@[simp]theorem Zrz(i e):evS U Y (.ext i e)=O.of Y (C4 Y i) λxs=>O.of Y (evE U Y e) λd=>O.of Y (KO d) λys=>if Ce (xs.length+ys.length)=Ab then .next (Y.set i (Aa (.lst (xs++ys),Ab))) else .bad:=rfl
@[simp]theorem Zrx(i):evS U Y (.rev i)=O.of Y (C4 Y i) λxs => .next (Y.set i (Aa (.lst xs.reverse,Ab))):=rfl
@[simp]theorem ZrA(i):evS U Y (.clr i)=O.of Y (C4 Y i) λ_ => .next (Y.set i (Aa (.lst [],Ab))):=rfl
@[simp]theorem Sb(body c x h):evS U Y (.tryx body c x h)=match evSs U Y body with
      | .exn y Y'=>if (U.up y.c).contains c=Ab then (match evSs U (Y'.set x (Aa (.exc y.c y.fs,Ac))) h with
          |.next Y'' => .next (Y''.set x Af)
          |.ret d f => .ret d f
          | _ => .bad) else .bad
      |o=>o:=rfl
@[simp]theorem Zod(body c x h c' h' els):evS U Y (.try2 body c x h c' h' els)=match evSs U Y body with
      |.exn y Y'=>if (U.up y.c).contains c=Ab then hdO x y Y' (λr=>evSs U r h) else if (U.up y.c).contains c'=Ab then hdO x y Y' (λr=>evSs U r h') else .bad
      |.next Y'=>evSs U Y' els
      |o=>o:=rfl
@[simp]theorem Zrw(c body):evS U Y (.whl c body)=K4 (whC U c) (whB U body) NU Y:=rfl
@[simp]theorem Zof(c as):evS U Y (.rais c as)=O.of Y (noX (evA U Y as)) λxs=>O.of Y (U.xn c xs) λx => .exn x Y:=rfl
@[simp]theorem ZrB:evS U Y .brk = .brk Y:=rfl
@[simp]theorem Zok:evS U Y .cont = .cont Y:=rfl
end
end Ov
namespace Ov
open PySem
theorem Rj(h1:0<=lo)(h2:lo<1000000)(h3:0<=hi)(h4:hi<1000000):Dl lo hi = .ok (D3 lo (hi-lo).toNat):=by
 unfold Dl;rw[AX (by omega)]
theorem JK(h3:0<=hi)(h4:hi<1000000):Dl 0 hi = .ok (D3 0 hi.toNat):=by
 rw[Rj (by omega) (by omega) h3 h4,OY]
theorem Mg(h:x∈D3 lo n) : ∃ k:Ae,k<n/\x = .int (lo+(k:Ao)):=by
 obtain⟨k,hk,e⟩:=List.mem_map.mp h;exact⟨k,List.mem_range.mp hk,e.symm⟩
theorem H9(lo:Ao)(n:Ae):(D3 lo n).length=n:=by simp[D3]
theorem SG{i:Ae}(h:(D3 lo n)[i]? = Aa x):i<n/\x = .int (lo+(i:Ao)):=by
 have hl:=(A4.mp h).1;rw[H9]at hl;unfold D3 at h;rw[CZ,List.getElem?_range hl]at h;cases h;exact⟨hl,rfl⟩
noncomputable def Ss.take:Ae->Ss->Ss
 |0,_ => .nil
 |_,.nil => .nil
 |n+1,.cons s ss => .cons s (ss.take n)
noncomputable def Ss.drop:Ae->Ss->Ss
 |0,ss=>ss
 |_,.nil => .nil
 |n+1,.cons _ ss=>ss.drop n
end Ov
end
section
namespace Ov
noncomputable def xfD:Ae->D->Aj
 |0,.int i=>decide (0<=i)&&decide (i<100)
 |n+1,.tup ds=>Cn ds.length 8&&ds.all (xfD n)
 |_,_=>Ac
noncomputable def mkX(c:Ae)(f:Ag):Ad D->R Ex
 |[d]=>if (xfD 1 d||xfD 2 d)=Ab then .ok ⟨c,[(f,d)]⟩ else .bad
 |_ => .bad
noncomputable def mkI(c:Ae)(f:Ag):Ad D->R Ex
 |[d]=>if xfD 0 d=Ab then .ok ⟨c,[(f,d)]⟩ else .bad
 |_ => .bad
noncomputable def mkA(c:Ae)(f:Ag):Ad D->R Ex
 |[d]=>if (xfD 0 d||(xfD 1 d||xfD 2 d))=Ab then .ok ⟨c,[(f,d)]⟩ else .bad
 |_ => .bad
end Ov
end
section
namespace OvC
open PySem Ov PyProof.Rows
variable{j:Ao}{U:Gam}
noncomputable abbrev scr(ns:Ad Ao):D := .lst (ns.map .int)
noncomputable abbrev sh(d:D):Sl:=Aa (d,Ac)
noncomputable abbrev si(i:Ao):Sl:=Aa (.int i,Ac)
noncomputable def IL(ns:Ad Ao)(k:Ao):Ao:=if ns=[] then 0 else ns.getD (k%ns.length).toNat 0
noncomputable def E8(ns:Ad Ao)(k:Ao):Ao:=(IL ns k%1000003+7919*k+11)*48271%1000033
noncomputable def IB(ns:Ad Ao)(k:Ao):Ao:=[3,5,7,11].getD (E8 ns k/16%4).toNat 0
theorem OQ{P:Ae->Prop}(h0:P 0)(h1:P 1)(h2:P 2)(h3:P 3):P (j%4).toNat:=by
 have:(j%4).toNat=0\/(j%4).toNat=1\/(j%4).toNat=2\/(j%4).toNat=3:=by omega
 rcases this with e|e|e|e <;> rw[e] <;> assumption
noncomputable def P4(p:Ao):Prop:=p=3\/p=5\/p=7\/p=11
noncomputable def pr4(j:Ao):Ao:=[3,5,7,11].getD (j%4).toNat 0
theorem Vq(j):P4 (pr4 j):=by
 unfold pr4;exact OQ (P:=λj=>P4 ([3,5,7,11].getD j 0)) (.inl rfl) (.inr (.inl rfl)) (.inr (.inr (.inl rfl))) (.inr (.inr (.inr rfl)))
theorem RS(ns k):P4 (IB ns k):=Vq _
theorem P4.pos{p}(h:P4 p):0<p:=by rcases h with rfl|rfl|rfl|rfl <;> decide
theorem P4.lo{p}(h:P4 p):3<=p:=by rcases h with rfl|rfl|rfl|rfl <;> decide
theorem P4.hi{p}(h:P4 p):p<=11:=by rcases h with rfl|rfl|rfl|rfl <;> decide
theorem SH(j:Ao):C5 [.int 3,.int 5,.int 7,.int 11] (j%4) = .ok (.int (pr4 j)):=by
 have h:=OQ (P:=λj=>[D.int 3,D.int 5,D.int 7,D.int 11][j]? = Aa (D.int ([3,5,7,11].getD j 0))) (j:=j) rfl rfl rfl rfl
 exact J6 (by omega) h
theorem TY{i:Ao}(h0 : -18446744073709551616<i)(h1:i<18446744073709551616):FN i j=Ab:=by simp[FN];left;exact⟨h0,h1⟩
noncomputable def Jo:Df:=⟨2,Ac,(.cons (.ife (.cmp .Eq (.bi .len (.cons (.var 0) .nil)) (.int 0)) (.cons (.ret (.int 0)) .nil) .nil) (.cons (.ret (.idx (.var 0) (.bin .Mod (.var 1) (.bi .len (.cons (.var 0) .nil))))) .nil))⟩
noncomputable def NH(U:Gam):Prop := ∀(ns:Ad Ao)(k:Ao),U.F 2 [scr ns,.int k] = .ok (.int (IL ns k))
theorem Vl(U:Gam)(ns:Ad Ao)(k:Ao):Jo.run U [scr ns,.int k] = .ok (.int (IL ns k)):=by
 simp[Jo,Df.run,C3,IL];by_cases h:ns=[]
 .simp[h]
 .have hn:=List.length_pos_iff.mpr h;have hl:0<(ns.length:Ao):=by omega
  have h1:=D9 k (Int.ne_of_gt hl);have h2:=Du k hl;have h3:(k%ns.length).toNat<ns.length:=by omega
  simp[h,hn,J6 (xs:=ns.map .int) (d := .int (ns.getD (k%ns.length).toNat 0)) h1 (by simp[h3])]
noncomputable def Jy:Df:=⟨2,Ac,(.cons (.ret (.bin .Mod (.bin .Mult (.bin .Add (.bin .Add (.bin .Mod (.call 2 (.cons (.var 0) (.cons (.var 1) .nil))) (.int 1000003)) (.bin .Mult (.int 7919) (.var 1))) (.int 11)) (.int 48271)) (.int 1000033))) .nil)⟩
noncomputable def Kd(U:Gam):Prop := ∀(ns:Ad Ao)(k:Ao),U.F 3 [scr ns,.int k] = .ok (.int (E8 ns k))
theorem Ue(h2:NH U)(ns:Ad Ao)(k:Ao):Jy.run U [scr ns,.int k] = .ok (.int (E8 ns k)):=by
 simp[Jy,Df.run,C3,h2 ns k,FN,E8]
noncomputable def Jw:Df:=⟨2,Ac,(.cons (.ret (.idx (.lst (.cons (.int 3) (.cons (.int 5) (.cons (.int 7) (.cons (.int 11) .nil))))) (.bin .Mod (.bin .FloorDiv (.call 3 (.cons (.var 0) (.cons (.var 1) .nil))) (.int 16)) (.int 4)))) .nil)⟩
noncomputable def M5(U:Gam):Prop := ∀(ns:Ad Ao)(k:Ao),U.F 4 [scr ns,.int k] = .ok (.int (IB ns k))
theorem Uc(h:Kd U)(ns:Ad Ao)(k:Ao):Jw.run U [scr ns,.int k] = .ok (.int (IB ns k)):=by
 simp[Jw,Df.run,C3,h ns k,SH];rfl
end OvC
end
namespace Ov
open PySem PySem.Spec PyProof.Rows L2
variable{A B:Ai->Prop}{H H' H1 H0:Hp}{p a b l q:Ai}{xs:Ad V}{v:V}{d:D}{Rp Rq:Hp->V->D->Prop}{r:R D}{Q:VK}{X:Cx}{e c tg iter elt:Ak}{t t' tt:TT}{Y:Rho}{i n j:Ae}{x:Ex}{Z:L2.St}{g:D->D->R D}{op:Ch}{K:Fg}{ds:Ad D}{pI:Ad (Ai × AD)}{s:Am}{its its2 ys:Ad Ah}{items2:Bb Ah}{h h':Ay}{u:Ah}{Bi es ifs:Ad Ak}{fs fi:Rho->R (Ad D)}{Q':An Ao->Hp->Prop}{T:Ca}{f fc:Rho->R Aj}{α:Type}{Fz:Ai->HO->Prop}{D':Ends}{pos' pos pos2:Az}{lo hi:Ao}{as:D->Rho->R Rho}{k:Ki}{up:Ae->Ad Ae}{scope:By}{env:BF}{cl:Ad (Ag × Ai)}{N':Ad Ag}{ts:Ad Ae}{fp:Ad Ai}{te:TE}{J:It}{wi:TI}
noncomputable abbrev ClA:=Ae->An Ai
variable{CL:ClA}
noncomputable def KL(K:Fg)(a:Ai)(xs:Ad V):Prop := ∃(o:AD)(its:Bb Ah)(n:Ae),K.lookup a=Aa o/\o.cls = .type "list" /\ o.dict=Af/\o.data = .seq its n/\its.size<=sizeLine/\AR xs its.toList
noncomputable def KT(K:Fg)(a:Ai)(xs:Ad V):Prop := ∃(o:AD)(its:Bb Ah)(n:Ae),K.lookup a=Aa o/\o.cls = .type "tuple" /\ o.data = .seq its n/\its.size<=sizeLine/\AR xs its.toList
section
variable(K:Fg)(CL:ClA)(H:Hp)(A:Ai->Prop)
mutual
def Rep:V->D->Prop
 |v,.non=>v = .non
 |v,.bl b=>v = .bl b
 |v,.int i=>v = .int i
 |v,.str x=>v = .str x
 |v,.tup ds => ∃ a xs,v = .ref a/\(¬ A a\/KT K a xs)/\SqT K H a xs/\Reps xs ds
 |v,.lst ds => ∃ a xs,v = .ref a/\(¬ A a\/KL K a xs)/\SqL K H a xs/\Reps xs ds
 |v,.obj c fs => ∃ a C dx vs,v = .ref a /\ ¬ A a/\CL c=Aa C/\H a=Aa (.ins C dx vs)/\Repf vs fs
 |_,.dic _=>AT
 |v,.exc c fs => ∃ a C φ,v = .ref a /\ ¬ A a/\CL c=Aa C/\H a=Aa (.ext φ)/\(∀ h,φ h -> ∃ o,h.get? a=Aa o/\o.cls = .ref C)/\(fs=[] \/ ∃ dx vs,¬ A dx/\H dx=Aa (.xd vs)/\Repf vs fs /\ ∀ h,φ h -> ∃ o,h.get? a=Aa o/\o.dict=Aa dx /\ ∃ us,o.data = .fields us)
def Reps:Ad V->Ad D->Prop
 |[],[]=>E4
 |v::vs,d::ds=>Rep v d/\Reps vs ds
 |_,_=>AT
def Repf:Ad (Ag × V)->Ad (Ag × D)->Prop
 |[],[]=>E4
 |v::vs,d::ds=>Repp v d/\Repf vs ds
 |_,_=>AT
def Repp:Ag × V->Ag × D->Prop
 |v,(n,d)=>v.1=n/\Rep v.2 d
end
noncomputable def B3(v:V)(d:D):Prop:=Rep K CL H A v d \/ ∃ a xs ds,v = .ref a/\d = .lst ds/\H a=Aa (.lst xs)/\Reps K CL H A xs ds
end
noncomputable def Kp(A:Ai->Prop)(H H':Hp):Prop := ∀ b o,H b=Aa o -> ¬ A b->H' b=Aa o
noncomputable def AOk(H:Hp)(A:Ai->Prop):Prop := ∀ a,A a -> ∃ xs,H a=Aa (.lst xs)
theorem Kp.of(h:At H H'):Kp A H H':=λb o e _=>h b o e
theorem AOk.same(h:AOk H A)(s:At H H'):AOk H' A:=λa ha=>let ⟨xs,e⟩:=h a ha;⟨xs,s _ _ e⟩
theorem AOk.new(h:AOk H A)(e:H p=Af) : ¬ A p:=λha=>by
 obtain⟨xs,q⟩:=h p ha;rw[e]at q;cases q
section
variable{K:Fg}{CL:ClA}{H H':Hp}{A B:Ai->Prop}
theorem NN{u:HO}(k:Kp A H H')(na : ¬ A a)(h:Rd H a u):Rd H' a u:=by
 rcases h with h|⟨o,h⟩
 .exact .inl (k _ _ h na)
 .exact .inr ⟨o,k _ _ h na⟩
theorem Ks(k:Kp A H H')(na : ¬ A a\/KL K a xs)(h:SqL K H a xs):SqL K H' a xs:=na.elim (λna=>h.imp (NN k na) id) .inr
theorem Kq(k:Kp A H H')(na : ¬ A a\/KT K a xs)(h:SqT K H a xs):SqT K H' a xs:=na.elim (λna=>h.imp (NN k na) id) .inr
mutual
theorem Rep.kp(k:Kp A H H') : ∀{v:V}(d:D),Rep K CL H A v d->Rep K CL H' A v d
 |_,.non,h=>h
 |_,.bl _,h=>h
 |_,.int _,h=>h
 |_,.str _,h=>h
 |_,.dic _,h=>h.elim
 |_,.tup ds,h=>by
  obtain⟨a,xs,e,na,s,r⟩:=h;exact⟨a,xs,e,na,by first|exact Kq k na s|exact Ks k na s,Reps.kp k ds r⟩
 |_,.lst ds,h=>by
  obtain⟨a,xs,e,na,s,r⟩:=h;exact⟨a,xs,e,na,by first|exact Kq k na s|exact Ks k na s,Reps.kp k ds r⟩
 |_,.obj c fs,h=>by
  obtain⟨a,C,dx,vs,e,na,c,s,r⟩:=h;exact⟨a,C,dx,vs,e,na,c,k _ _ s na,Repf.kp k fs r⟩
 |_,.exc c fs,h=>by
  obtain⟨a,C,φ,e,na,c,s,p,q⟩:=h;refine⟨a,C,φ,e,na,c,k _ _ s na,p,q.imp id ?_⟩;rintro⟨dx,vs,nx,s2,r,z⟩;exact⟨dx,vs,nx,k _ _ s2 nx,Repf.kp k fs r,z⟩
theorem Reps.kp(k:Kp A H H') : ∀{vs:Ad V}(ds:Ad D),Reps K CL H A vs ds->Reps K CL H' A vs ds
 |[],[],h=>h
 |_::_,d::ds,h=>⟨Rep.kp k d h.1,Reps.kp k ds h.2⟩
 |[],_::_,h=>h.elim
 |_::_,[],h=>h.elim
theorem Repf.kp(k:Kp A H H') : ∀{vs:Ad (Ag × V)}(ds:Ad (Ag × D)),Repf K CL H A vs ds->Repf K CL H' A vs ds
 |[],[],h=>h
 |_::_,d::ds,h=>⟨Repp.kp k d h.1,Repf.kp k ds h.2⟩
 |[],_::_,h=>h.elim
 |_::_,[],h=>h.elim
theorem Repp.kp(k:Kp A H H') : ∀{v:Ag × V}(d:Ag × D),Repp K CL H A v d->Repp K CL H' A v d
 |_,(_,d),h=>⟨h.1,Rep.kp k d h.2⟩
end
mutual
theorem Rep.sub(k : ∀ a,B a->A a) : ∀{v:V}(d:D),Rep K CL H A v d->Rep K CL H B v d
 |_,.non,h=>h
 |_,.bl _,h=>h
 |_,.int _,h=>h
 |_,.str _,h=>h
 |_,.dic _,h=>h.elim
 |_,.tup ds,h=>by
  obtain⟨a,xs,e,na,s,r⟩:=h;exact⟨a,xs,e,na.imp (λna z=>na (k _ z)) id,s,Reps.sub k ds r⟩
 |_,.lst ds,h=>by
  obtain⟨a,xs,e,na,s,r⟩:=h;exact⟨a,xs,e,na.imp (λna z=>na (k _ z)) id,s,Reps.sub k ds r⟩
 |_,.obj c fs,h=>by
  obtain⟨a,C,dx,vs,e,na,c,s,r⟩:=h;exact⟨a,C,dx,vs,e,λz=>na (k _ z),c,s,Repf.sub k fs r⟩
 |_,.exc c fs,h=>by
  obtain⟨a,C,φ,e,na,c,s,p,q⟩:=h;refine⟨a,C,φ,e,λz=>na (k _ z),c,s,p,q.imp id ?_⟩
  rintro⟨dx,vs,nx,s2,r,z⟩;exact⟨dx,vs,λz=>nx (k _ z),s2,Repf.sub k fs r,z⟩
theorem Reps.sub(k : ∀ a,B a->A a) : ∀{vs:Ad V}(ds:Ad D),Reps K CL H A vs ds->Reps K CL H B vs ds
 |[],[],h=>h
 |_::_,d::ds,h=>⟨Rep.sub k d h.1,Reps.sub k ds h.2⟩
 |[],_::_,h=>h.elim
 |_::_,[],h=>h.elim
theorem Repf.sub(k : ∀ a,B a->A a) : ∀{vs:Ad (Ag × V)}(ds:Ad (Ag × D)),Repf K CL H A vs ds->Repf K CL H B vs ds
 |[],[],h=>h
 |_::_,d::ds,h=>⟨Repp.sub k d h.1,Repf.sub k ds h.2⟩
 |[],_::_,h=>h.elim
 |_::_,[],h=>h.elim
theorem Repp.sub(k : ∀ a,B a->A a) : ∀{v:Ag × V}(d:Ag × D),Repp K CL H A v d->Repp K CL H B v d
 |_,(_,d),h=>⟨h.1,Rep.sub k d h.2⟩
end
mutual
theorem Rep.wide(hp : ∀ a,B a->A a\/H a=Af) : ∀{v:V}(d:D),Rep K CL H A v d->Rep K CL H B v d
 |_,.non,h=>h
 |_,.bl _,h=>h
 |_,.int _,h=>h
 |_,.str _,h=>h
 |_,.dic _,h=>h.elim
 |_,.tup ds,h=>by
  obtain⟨a,xs,e,na,s,r⟩:=h;refine⟨a,xs,e,?_,s,Reps.wide hp ds r⟩;rcases s with s|s
  .refine na.imp (λna z=>(hp _ z).elim na λe => ?_) id
   rcases s with s|⟨o,s⟩ <;> rw[e]at s <;> cases s
  .exact .inr s
 |_,.lst ds,h=>by
  obtain⟨a,xs,e,na,s,r⟩:=h;refine⟨a,xs,e,?_,s,Reps.wide hp ds r⟩;rcases s with s|s
  .refine na.imp (λna z=>(hp _ z).elim na λe => ?_) id
   rcases s with s|⟨o,s⟩ <;> rw[e]at s <;> cases s
  .exact .inr s
 |_,.obj c fs,h=>by
  obtain⟨a,C,dx,vs,e,na,c,s,r⟩:=h;exact⟨a,C,dx,vs,e,(λz=>(hp _ z).elim na λe=>by rw[e]at s;cases s),c,s,Repf.wide hp fs r⟩
 |_,.exc c fs,h=>by
  obtain⟨a,C,φ,e,na,c,s,p,q⟩:=h;refine⟨a,C,φ,e,(λz=>(hp _ z).elim na λe=>by rw[e]at s;cases s),c,s,p,q.imp id ?_⟩
  rintro⟨dx,vs,nx,s2,r,z⟩;exact⟨dx,vs,(λz=>(hp _ z).elim nx λe=>by rw[e]at s2;cases s2),s2,Repf.wide hp fs r,z⟩
theorem Reps.wide(hp : ∀ a,B a->A a\/H a=Af) : ∀{vs:Ad V}(ds:Ad D),Reps K CL H A vs ds->Reps K CL H B vs ds
 |[],[],h=>h
 |_::_,d::ds,h=>⟨Rep.wide hp d h.1,Reps.wide hp ds h.2⟩
 |[],_::_,h=>h.elim
 |_::_,[],h=>h.elim
theorem Repf.wide(hp : ∀ a,B a->A a\/H a=Af) : ∀{vs:Ad (Ag × V)}(ds:Ad (Ag × D)),Repf K CL H A vs ds->Repf K CL H B vs ds
 |[],[],h=>h
 |_::_,d::ds,h=>⟨Repp.wide hp d h.1,Repf.wide hp ds h.2⟩
 |[],_::_,h=>h.elim
 |_::_,[],h=>h.elim
theorem Repp.wide(hp : ∀ a,B a->A a\/H a=Af) : ∀{v:Ag × V}(d:Ag × D),Repp K CL H A v d->Repp K CL H B v d
 |_,(_,d),h=>⟨h.1,Rep.wide hp d h.2⟩
end
theorem Rep.same(s:At H H')(h:Rep K CL H A v d):Rep K CL H' A v d:=Rep.kp (Kp.of s) d h
theorem Reps.same{v:Ad V}{d:Ad D}(s:At H H')(h:Reps K CL H A v d):Reps K CL H' A v d:=Reps.kp (Kp.of s) d h
theorem B3.same{v:V}{d:D}(s:At H H')(h:B3 K CL H A v d):B3 K CL H' A v d:=by
 rcases h with h|⟨a,xs,ds,e,e2,q,r⟩
 .exact .inl (h.same s)
 .exact .inr ⟨a,xs,ds,e,e2,s _ _ q,r.same s⟩
theorem Reps.length : ∀{vs:Ad V}{ds:Ad D},Reps K CL H A vs ds->vs.length=ds.length
 |[],[],_=>rfl
 |_::_,_::_,h=>congrArg (· + 1) (Reps.length h.2)
 |[],_::_,h=>h.elim
 |_::_,[],h=>h.elim
theorem Reps.append : ∀{vs ws:Ad V}{ds es:Ad D},Reps K CL H A vs ds->Reps K CL H A ws es->Reps K CL H A (vs++ws) (ds++es)
 |[],_,[],_,_,h=>h
 |_::_,_,_::_,_,h,g=>⟨h.1,Reps.append h.2 g⟩
 |[],_,_::_,_,h,_=>h.elim
 |_::_,_,[],_,h,_=>h.elim
theorem Reps.get : ∀{vs:Ad V}{ds:Ad D}{i:Ae}{d:D},Reps K CL H A vs ds->ds[i]? = Aa d -> ∃ v,vs[i]? = Aa v/\Rep K CL H A v d
 |[],[],_,_,_,e=>by simp at e
 |v::_,_::_,0,_,h,e=>by simp at e;subst e;exact⟨v,rfl,h.1⟩
 |_::_,_::_,i+1,_,h,e=>by
  obtain⟨v,q,r⟩:=Reps.get (i:=i) h.2 (by simpa using e)
  exact⟨v,by simpa using q,r⟩
 |[],_::_,_,_,h,_=>h.elim
 |_::_,[],_,_,h,_=>h.elim
theorem Reps.take : ∀{vs:Ad V}{ds:Ad D}(n:Ae),Reps K CL H A vs ds->Reps K CL H A (vs.take n) (ds.take n)
 |_,_,0,_=>trivial
 |[],[],_+1,_=>trivial
 |_::_,_::_,n+1,h=>⟨h.1,Reps.take n h.2⟩
 |[],_::_,_+1,h=>h.elim
 |_::_,[],_+1,h=>h.elim
theorem Reps.drop : ∀{vs:Ad V}{ds:Ad D}(n:Ae),Reps K CL H A vs ds->Reps K CL H A (vs.drop n) (ds.drop n)
 |_,_,0,h=>h
 |[],[],_+1,_=>trivial
 |_::_,_::_,n+1,h=>Reps.drop n h.2
 |[],_::_,_+1,h=>h.elim
 |_::_,[],_+1,h=>h.elim
theorem Reps.set{x:V}{e:D}(r:Rep K CL H A x e) : ∀{vs:Ad V}{ds:Ad D}(n:Ae),Reps K CL H A vs ds->Reps K CL H A (vs.set n x) (ds.set n e)
 |[],[],_,_=>trivial
 |_::_,_::_,0,h=>⟨r,h.2⟩
 |_::_,_::_,n+1,h=>⟨h.1,Reps.set r n h.2⟩
 |[],_::_,_,h=>h.elim
 |_::_,[],_,h=>h.elim
end
structure Good (K:Fg) (CL:ClA) (A:Ai->Prop) (Y:Rho) (Z:L2.St) (H:Hp):Prop where
 sh : ∀(i:Ae)(d:D),Y[i]? = Aa (Aa (d,Ac)) -> ∃ v,Z[i]? = Aa (Aa v)/\Rep K CL H A v d
 ow : ∀(i:Ae)(d:D),Y[i]? = Aa (Aa (d,Ab)) -> ∃ a xs ds,Z[i]? = Aa (Aa (.ref a))/\d = .lst ds/\A a/\H a=Aa (.lst xs)/\Reps K CL H A xs ds
 len:Y.length=Z.length
theorem Good.same{K:Fg}{CL:ClA}{A:Ai->Prop}{Y:Rho}{Z:L2.St}{H H':Hp}(g:Good K CL A Y Z H)(s:At H H'):Good K CL A Y Z H':=
 ⟨λi d e=>let ⟨v,q,r⟩:=g.sh i d e;⟨v,q,r.same s⟩,λi d e=>let ⟨a,xs,ds,q,z,na,h,r⟩:=g.ow i d e;⟨a,xs,ds,q,z,na,s _ _ h,r.same s⟩,g.len⟩
noncomputable abbrev XW:=Ex->Hp->Prop
variable{W:XW}
noncomputable def AZ(Rp:Hp->V->D->Prop)(W:XW)(H:Hp)(r:R D)(Q:VK):Prop:=match r with
  |.ok d => ∀ v H',At H H'->Rp H' v d->Q v H'
  |.exn x => ∀ H',At H H'->W x H'
  |.bad=>AT
noncomputable def E7(Rp:Hp->Ad V->Ad D->Prop)(W:XW)(H:Hp)(r:R (Ad D))(Q:Ad V->Hp->Prop):Prop:=match r with
  |.ok d => ∀ v H',At H H'->Rp H' v d->Q v H'
  |.exn x => ∀ H',At H H'->W x H'
  |.bad=>AT
noncomputable def Cc(W:XW)(H:Hp)(r:R Aj)(Q:Aj->Hp->Prop):Prop:=match r with
  |.ok b => ∀ H',At H H'->Q b H'
  |.exn x => ∀ H',At H H'->W x H'
  |.bad=>AT
theorem AZ.same(s:At H H')(h:AZ Rp W H r Q):AZ Rp W H' r Q:=by
 cases r with
 |ok d=>exact λv H2 s2 q=>h v H2 (s.trans s2) q
 |exn x=>exact λH2 s2=>h H2 (s.trans s2)
 |bad=>exact h
theorem Cc.same{r:R Aj}{Q:Aj->Hp->Prop}(s:At H H')(h:Cc W H r Q):Cc W H' r Q:=by
 cases r with
 |ok d=>exact λH2 s2=>h H2 (s.trans s2)
 |exn x=>exact λH2 s2=>h H2 (s.trans s2)
 |bad=>exact h
theorem AZ.bind{f:D->R D}{Q':VK}(h:AZ Rq W H (r.bind f) Q)(k : ∀ d v H',r = .ok d->At H H'->Rp H' v d->AZ Rq W H' (f d) Q->Q' v H'):AZ Rp W H r Q':=by
 cases r with
 |ok d=>exact λv H2 s2 q=>k d v H2 rfl s2 q (AZ.same s2 h)
 |exn x=>exact h
 |bad=>exact h
section
variable(X:Cx)(CL:ClA)(W:XW)
noncomputable def SE(e:Ak)(f:Rho->R D):Prop := ∀ A,PE X e (λZ H Q=>AOk H A /\ ∃ Y,Good X.K CL A Y Z H/\AZ (λH=>Rep X.K CL H A) W H (f Y) Q)
noncomputable def ST(e:Ak)(f:Rho->R D):Prop := ∀ A,PE X e (λZ H Q=>AOk H A /\ ∃ Y,Good X.K CL A Y Z H/\AZ (λH=>B3 X.K CL H A) W H (f Y) Q)
noncomputable def SB(e:Ak)(f:Rho->R Aj):Prop := ∀ A,PT X e (λZ H Q=>AOk H A /\ ∃ Y,Good X.K CL A Y Z H/\Cc W H (f Y) Q)
noncomputable def SA(es:Ad Ak)(f:Rho->R (Ad D)):Prop := ∀ A,PA X es (λZ H Q=>AOk H A /\ ∃ Y,Good X.K CL A Y Z H/\E7 (λH=>Reps X.K CL H A) W H (f Y) Q)
end
theorem PE.weak{t t':TE}(h:PE X e t)(k : ∀ Z H Q,t' Z H Q->t Z H Q):PE X e t':=λpI s Z H Q I q=>h pI s Z H Q I (k _ _ _ q)
theorem PT.weak(h:PT X e t)(k : ∀ Z H Q,t' Z H Q->t Z H Q):PT X e t':=λpI s Z H Q I q=>h pI s Z H Q I (k _ _ _ q)
theorem PA.weak{e:Ad Ak}{t t':TA}(h:PA X e t)(k : ∀ Z H Q,t' Z H Q->t Z H Q):PA X e t':=λpos pI s Z H Q I q=>h pos pI s Z H Q I (k _ _ _ q)
noncomputable def OpD(X:Cx)(CL:ClA)(W:XW)(f:Ah->Ah->ED Ah)(g:D->D->R D):Prop:=
 ∀ A,OpR X f (λx y H Q=>AOk H A /\ ∃ dx dy,B3 X.K CL H A x dx/\B3 X.K CL H A y dy/\AZ (λH=>Rep X.K CL H A) W H (g dx dy) Q)
section
variable{X:Cx}{CL:ClA}{W:XW}{a b c:Ak}{fa fb fc:Rho->R D}{pos:Az}
theorem SE.st(h:SE X CL W a fa):ST X CL W a fa:=λA=>PE.weak (h A) λZ H Q ⟨hA,Y,g,p⟩=>⟨hA,Y,g,by
 cases e:fa Y with
 |ok d=>rw[e]at p;exact λv H' s r=>p v H' s (.inl r)
 |exn x=>rw[e]at p;exact p
 | bad=>rw[e]at p;exact p⟩
theorem SE.congr{f g:Rho->R D}(h:SE X CL W a f)(e : ∀ Y,g Y=f Y):SE X CL W a g:=λA=>PE.weak (h A) λZ H Q ⟨hA,Y,q,p⟩=>⟨hA,Y,q,by rw[<-e];exact p⟩
theorem IJ(h:PE X a (tC v))(r : ∀ H A,AOk H A->Rep X.K CL H A v d):SE X CL W a (λ_ => .ok d):=λA=>PE.weak h λZ H Q ⟨hA,Y,g,p⟩=>p v H (At.refl H) (r H A hA)
theorem Vb{i j}:SE X CL W (.Constant (.int i) j pos) (λ_ => .ok (.int i)):=IJ U_2 λ_ _ _=>rfl
theorem NM{b j}:SE X CL W (.Constant (.bool b) j pos) (λ_ => .ok (.bl b)):=IJ W8 λ_ _ _=>rfl
theorem VM{j}:SE X CL W (.Constant .none j pos) (λ_ => .ok .non):=IJ U_0 λ_ _ _=>rfl
theorem Kf{x j}:SE X CL W (.Constant (.str x) j pos) (λ_ => .ok (.str x)):=IJ ID λ_ _ _=>rfl
theorem S1(h:DM Y i = .ok d):Y[i]? = Aa (Aa (d,Ac)):=by
 unfold DM at h;split at h
 .rename_i e;cases h;exact e
 .cases h
theorem MT(h:CG Y i = .ok d) : ∃ o,Y[i]? = Aa (Aa (d,o)):=by
 unfold CG at h;split at h
 .rename_i e;cases h;exact⟨_,e⟩
 .cases h
theorem RD(h:DM Y i = .exn x):AT:=by
 unfold DM at h;split at h <;> cases h
theorem Mq(h:CG Y i = .exn x):AT:=by
 unfold CG at h;split at h <;> cases h
theorem VL(h:PE X a (DO i)):SE X CL W a (λY=>DM Y i):=λA=>PE.weak h λZ H Q ⟨hA,Y,g,p⟩=>by
 dsimp only at p;cases e:DM Y i with
 |ok d=>
  rw[e]at p;obtain⟨v,q,r⟩:=g.sh i d (S1 e);exact⟨v,q,p v H (At.refl H) r⟩
 |exn x=>exact(RD e).elim
 |bad=>rw[e]at p;exact p.elim
theorem GZ(h:PE X a (DO i)):ST X CL W a (λY=>CG Y i):=λA=>PE.weak h λZ H Q ⟨hA,Y,g,p⟩=>by
 dsimp only at p;cases e:CG Y i with
 |ok d=>
  rw[e]at p;obtain⟨o,e⟩:=MT e;cases o with
  |false=>
   obtain⟨v,q,r⟩:=g.sh i d e;exact⟨v,q,p v H (At.refl H) (.inl r)⟩
  |true=>
   obtain⟨x,xs,ds,q,rfl,ha,hh,r⟩:=g.ow i d e;exact⟨_,q,p _ H (At.refl H) (.inr ⟨x,xs,ds,rfl,rfl,hh,r⟩)⟩
 |exn x=>exact(Mq e).elim
 |bad=>rw[e]at p;exact p.elim
theorem op2(h:AOk H A /\ ∃ Y,Good X.K CL A Y Z H/\AZ Rq W H ((fa Y).bind λx=>(fb Y).bind λy=>g x y) Q):AOk H A/\∃ Y,Good X.K CL A Y Z H/\AZ (λH=>B3 X.K CL H A) W H (fa Y) (λx H1=>AOk H1 A/\∃ Y,Good X.K CL A Y Z H1/\AZ (λH=>B3 X.K CL H A) W H1 (fb Y) (λy H2=>AOk H2 A/\∃ dx dy,B3 X.K CL H2 A x dx/\B3 X.K CL H2 A y dy/\AZ Rq W H2 (g dx dy) Q)):=by
 obtain⟨hA,Y,gd,p⟩:=h;refine⟨hA,Y,gd,AZ.bind p λdx x H1 _ s1 r1 p1=>⟨hA.same s1,Y,gd.same s1,AZ.bind p1 λdy y H2 _ s2 r2 p2=>⟨(hA.same s1).same s2,dx,dy,r1.same s2,r2,p2⟩⟩⟩
theorem Kh{op:Dw}(ho:OpD X CL W (Bz op) g)(ha:ST X CL W a fa)(hb:ST X CL W b fb):SE X CL W (.BinOp a op b pos) (λY=>(fa Y).bind λx=>(fb Y).bind λy=>g x y):=
 λA=>PE.weak (NO (ho A) (ha A) (hb A)) λZ H Q h=>op2 h
theorem Vd(ho:OpD X CL W (B6 op) g)(ha:ST X CL W a fa)(hb:ST X CL W b fb)(hm:EE op b=Ac):SE X CL W (.Compare a [op] [b] pos) (λY=>(fa Y).bind λx=>(fb Y).bind λy=>g x y):=
 λA=>PE.weak (Ut (ho A) (ha A) (hb A) hm) λZ H Q h=>op2 h
theorem B3.int_of{i:Ao}(h:B3 K CL H A v (.int i)):v = .int i:=by
 rcases h with h|⟨_,_,_,_,e,_⟩
 .exact h
 .cases e
theorem B3.str_of{i:Ag}(h:B3 K CL H A v (.str i)):v = .str i:=by
 rcases h with h|⟨_,_,_,_,e,_⟩
 .exact h
 .cases e
theorem B3.bl_of{i:Aj}(h:B3 K CL H A v (.bl i)):v = .bl i:=by
 rcases h with h|⟨_,_,_,_,e,_⟩
 .exact h
 .cases e
theorem B3.non_of(h:B3 K CL H A v .non):v = .non:=by
 rcases h with h|⟨_,_,_,_,e,_⟩
 .exact h
 .cases e
theorem B3.lst_of(h:B3 K CL H A v (.lst ds)) : ∃ a xs,v = .ref a/\SqL K H a xs/\Reps K CL H A xs ds:=by
 rcases h with ⟨a,xs,e,_,s,r⟩|⟨a,xs,es,rfl,e,s,r⟩
 .exact⟨a,xs,e,s,r⟩
 .cases e;exact⟨a,xs,rfl,SqL.of s,r⟩
theorem B3.tup_of(h:B3 K CL H A v (.tup ds)) : ∃ a xs,v = .ref a/\(¬ A a\/KT K a xs)/\SqT K H a xs/\Reps K CL H A xs ds:=by
 rcases h with ⟨a,xs,e,n,s,r⟩|⟨_,_,_,_,e,_⟩
 .exact⟨a,xs,e,n,s,r⟩
 .cases e
theorem Tu{i j:Ao}(h:FN i j=Ab):Jn i j:=by
 unfold FN at h;simp only[BB,Al,AQ]at h;unfold Jn;omega
theorem M1{a:Ao}(h:a.natAbs<2 ^ 2000):Ps a<=2 ^ 20:=by
 unfold Ps;split
 .omega
 .rename_i hz;have h0:a.natAbs≠0:=by intro z;exact hz (by rw[Int.natAbs_eq_zero.mp z];rfl)
  have:=(Nat.log2_lt h0).mpr h;omega
theorem TZ{i j:Ao}(h:(FN i j||IM i j)=Ab):Hg i j:=by
 rcases Bool.or_eq_true_iff.mp h with h|h
 .exact(Tu h).ok
 .unfold IM at h;rw[Al,AQ,AQ]at h;exact .of_bits (M1 h.1) (M1 h.2)
theorem TL:OpR X (Bz .Mult) (rI Hg λi j => .int (i*j)):=opI λ_ _ _ _ _ _ _ hc q=>mul_int q hc
theorem Gn(h:Ce n=Ab):n<=sizeLine:=by
 unfold Ce at h;rw[BX];have:=Cg h;omega
theorem MN(hA:AOk H A)(hp:H p=Af)(r:Reps K CL H A xs ds):Rep K CL (upd H p (.lst xs)) A (.ref p) (.lst ds):=
 ⟨p,xs,rfl,.inl (hA.new hp),SqL.of CY,r.same λb o e=>by rw[Ba (DK e hp)];exact e⟩
theorem JZ(hA:AOk H A)(hp:H p=Af)(r:Reps K CL H A xs ds):Rep K CL (upd H p (.tup xs)) A (.ref p) (.tup ds):=
 ⟨p,xs,rfl,.inl (hA.new hp),SqT.of CY,r.same λb o e=>by rw[Ba (DK e hp)];exact e⟩
theorem Ep(h:H p=Af)(o:HO):At H (upd H p o):=λb u q=>by rw[Ba (DK q h)];exact q
noncomputable def W3(K:Fg):R2:=λx y H Q => ∃ l b xs zs,x = .ref l/\y = .ref b/\SqL K H l xs/\SqL K H b zs/\xs.length+zs.length<=sizeLine /\ ∀ p,H p=Af->Q (.ref p) (upd H p (.lst (xs++zs)))
end
section
variable{X:Cx}{CL:ClA}{W:XW}
theorem MK:OpR X (Bz .Add) (W3 X.K):=by
 intro pI s Z H x y v u Q I rx ry h;obtain⟨l,b,xs,zs,rfl,rfl,hH,hB,hz,q⟩:=h;cases rx;cases ry;obtain⟨its,r,⟨o,n,e,c,dd,dt⟩,z⟩:=I.list hH;obtain⟨its2,r2,⟨o2,n2,e2,c2,dd2,dt2⟩,z2⟩:=I.list hB;have hl:=r.length;have hl2:=r2.length;obtain⟨cls,dd0,data,sl⟩:=o;obtain⟨cls2,dd02,data2,sl2⟩:=o2;simp only at c dd dt c2 dd2 dt2;subst c dd dt c2 dd2 dt2;have ea:its.toArray++its2.toArray=(its++its2).toArray:=by simp
 refine F2 ⟨_,e,rfl⟩ ⟨_,e2,rfl⟩ noFill_list_add seq_list_add PySem.F.slot_list_add PySem.F.entry_list_add (PySem.F.args_list_add_2 _ _) (list_addW l b its.toArray its2.toArray n n2 Af Af sl sl2 (by simp;omega)) ⟨e,e2,?_⟩
 rw[ea];exact⟨.ref _,_,I.lnew (t':=s.toks) (r.append r2) (by rw[Cf];omega),rfl,q _ I.fresh⟩
theorem MJ:OpD X CL W (Bz .Add) (Cp .Add):=by
 intro A pI s Z H x y v u Q I rx ry ⟨hA,dx,dy,hx,hy,p⟩;cases dx with
 |int i=>
  cases dy with
  |int j=>
   have ex:=hx.int_of;have ey:=hy.int_of
   subst ex ey;exact V7 pI s Z H _ _ v u Q I rx ry ⟨i,j,rfl,rfl,p _ H (At.refl H) rfl⟩
  |_=>exact p.elim
 |str i=>
  cases dy with
  |str j=>
   have ex:=hx.str_of;have ey:=hy.str_of
   subst ex ey;simp only[NF]at p;split at p
   .rename_i h;exact Q9 pI s Z H _ _ v u Q I rx ry ⟨i,j,rfl,rfl,Gn h,p _ H (At.refl H) rfl⟩
   .exact p.elim
  |_=>exact p.elim
 |lst ds=>
  cases dy with
  |lst es=>
   obtain⟨a,xs,rfl,s1,r1⟩:=hx.lst_of;obtain⟨b,ys,rfl,s2,r2⟩:=hy.lst_of;simp only[NG]at p;split at p
   .rename_i h;refine MK pI s Z H _ _ v u Q I rx ry ⟨a,b,xs,ys,rfl,rfl,s1,s2,by rw[r1.length,r2.length];exact Gn h,λq hq => ?_⟩
    exact p _ _ (Ep hq _) (MN hA hq (r1.append r2))
   .exact p.elim
  |_=>exact p.elim
 |tup ds=>
  cases dy with
  |tup es=>
   obtain⟨a,xs,rfl,na1,s1,r1⟩:=hx.tup_of;obtain⟨b,ys,rfl,_,s2,r2⟩:=hy.tup_of;simp only[NE]at p;split at p
   .rename_i h;simp only[Al]at h;refine TN pI s Z H _ _ v u Q I rx ry ⟨a,b,xs,ys,rfl,rfl,s1,s2,?_,by rw[r1.length,r2.length];exact Gn h.2,λhy0 => ?_,λ_ q hq => ?_⟩
    .rintro rfl;cases ds with
     |nil=>cases h.1
     |cons _ _=>exact r1.elim
    .subst hy0;cases es with
     |nil=>rw[B4]at p;exact p _ H (At.refl H) ⟨a,xs,rfl,na1,s1,r1⟩
     |cons _ _=>exact r2.elim
    .exact p _ _ (Ep hq _) (JZ hA hq (r1.append r2))
   .exact p.elim
  |_=>exact p.elim
 |_=>exact p.elim
theorem Ip{op:Dw}{C:Ao->Ao->Prop}{g:Ao->Ao->Ao}(ho:OpR X (Bz op) (rI C λi j => .int (g i j)))(hg : ∀ dx dy,(∃ i j,dx = .int i/\dy = .int j/\((C i j/\Cp op dx dy = .ok (.int (g i j)))\/Cp op dx dy = .bad))\/Cp op dx dy = .bad):OpD X CL W (Bz op) (Cp op):=by
 intro A pI s Z H x y v u Q I rx ry ⟨hA,dx,dy,hx,hy,p⟩;rcases hg dx dy with ⟨i,j,rfl,rfl,⟨c,e⟩|e⟩|e
 .have ex:=hx.int_of;have ey:=hy.int_of
  subst ex ey;rw[e]at p;exact ho pI s Z H _ _ v u Q I rx ry ⟨i,j,rfl,rfl,c,p _ H (At.refl H) rfl⟩
 .rw[e]at p;exact p.elim
 .rw[e]at p;exact p.elim
theorem TD:OpD X CL W (Bz .Sub) (Cp .Sub):=by
 intro A pI s Z H x y v u Q I rx ry ⟨hA,dx,dy,hx,hy,p⟩;cases dx with
 |int i=>
  cases dy with
  |int j=>
   have ex:=hx.int_of;have ey:=hy.int_of
   subst ex ey;exact U_4 pI s Z H _ _ v u Q I rx ry ⟨i,j,rfl,rfl,p _ H (At.refl H) rfl⟩
  |_=>exact p.elim
 |_=>exact p.elim
theorem TH:OpD X CL W (Bz .Mult) (Cp .Mult):=Ip TL λdx dy=>by
 cases dx with
 |int i=>
  cases dy with
  |int j=>
   refine .inl ⟨i,j,rfl,rfl,?_⟩;rw[Wb];split
   .rename_i h;exact .inl ⟨TZ h,rfl⟩
   .exact .inr rfl
  |_=>exact .inr rfl
 |_=>exact .inr rfl
theorem RX:OpD X CL W (Bz .FloorDiv) (Cp .FloorDiv):=Ip TM λdx dy=>by
 cases dx with
 |int i=>
  cases dy with
  |int j=>
   refine .inl ⟨i,j,rfl,rfl,?_⟩;rw[UN];split
   .rename_i h;exact .inl ⟨h,rfl⟩
   .exact .inr rfl
  |_=>exact .inr rfl
 |_=>exact .inr rfl
theorem TJ:OpD X CL W (Bz .Mod) (Cp .Mod):=Ip U_6 λdx dy=>by
 cases dx with
 |int i=>
  cases dy with
  |int j=>
   refine .inl ⟨i,j,rfl,rfl,?_⟩;rw[Wc];split
   .rename_i h;exact .inl ⟨h,rfl⟩
   .exact .inr rfl
  |_=>exact .inr rfl
 |_=>exact .inr rfl
theorem TF:OpD X CL W (Bz .Pow) (Cp .Pow):=Ip U_5 λdx dy=>by
 cases dx with
 |int i=>
  cases dy with
  |int j=>
   refine .inl ⟨i,j,rfl,rfl,?_⟩;rw[Vr];split
   .rename_i h;exact .inl ⟨⟨h.1.1,h.1.2,by omega⟩,rfl⟩
   .exact .inr rfl
  |_=>exact .inr rfl
 |_=>exact .inr rfl
theorem JX(op:Dw):OpD X CL W (Bz op) (Cp op):=by
 cases op with
 |Add=>exact MJ
 |Sub=>exact TD
 |Mult=>exact TH
 |FloorDiv=>exact RX
 |Mod=>exact TJ
 |Pow=>exact TF
 |_=>
  intro A pI s Z H x y v u Q I rx ry ⟨hA,dx,dy,hx,hy,p⟩;exact p.elim
noncomputable abbrev A0:Ai->Prop:=λ_=>AT
theorem B3.plain(h:B3 K CL H A v d):Rep K CL H A0 v d:=by
 rcases h with h|⟨a,xs,ds,rfl,rfl,e,r⟩
 .exact Rep.sub (λ_ z=>z.elim) d h
 .exact⟨a,xs,rfl,.inl λz=>z.elim,SqL.of e,Reps.sub (λ_ z=>z.elim) ds r⟩
mutual
theorem Se : ∀(n:Ae)(d:D),flD n d=Ab->eqD d d=Ab
 |_,.non,_=>rfl
 |_,.bl b,_=>by simp
 |_,.int i,_=>by simp
 |_,.str x,_=>by simp
 |n+1,.tup ds,h=>by
  show eqDs ds ds=Ab;exact eqDs_refl n ds h
 |n+1,.lst ds,h=>by
  show eqDs ds ds=Ab;exact eqDs_refl n ds h
 |0,.tup ds,h=>by cases h
 |0,.lst ds,h=>by cases h
 |n,.obj _ _,h=>by cases n <;> cases h
 |n,.exc _ _,h=>by cases n <;> cases h
 |n,.dic _,h=>by cases n <;> cases h
theorem eqDs_refl : ∀(n:Ae)(ds:Ad D),ds.all (flD n)=Ab->eqDs ds ds=Ab
 |_,[],_=>rfl
 |n,d::ds,h=>by
  simp only[DR,Al]at h;simp only[JO,Al];exact⟨Se n d h.1,eqDs_refl n ds h.2⟩
end
theorem LK{ys:Ad V}(I:Inv X pI Z H s)(h:SqL X.K H a xs)(h':SqT X.K H a ys):AT:=by
 obtain⟨its,r,⟨o,n,e,c,_,_⟩,_⟩:=I.list h;obtain⟨its',r',⟨o',e',c',_⟩,_⟩:=I.tuple h';rw[e]at e';cases e';rw[c]at c'
 injection c' with z
 exact absurd z (by decide)
mutual
theorem Im{pI:Ad (Ai × AD)}{Z:L2.St}{H:Hp}{s:Am}(I:Inv X pI Z H s) : ∀(n:Ae)(d e:D){v:V},flD n d=Ab->flD n e=Ab->Rep X.K CL H A0 v d->Rep X.K CL H A0 v e->d=e
 |n,.tup ds,e,v,hd,he,r,q=>by
  obtain⟨a,xs,rfl,_,s1,r1⟩:=r;cases e with
  |tup es=>
   obtain⟨b,ys,e,_,s2,r2⟩:=q;cases e;have z:=I.tuple_inj s1 s2;subst z;cases n with
   |zero=>cases hd
   |succ n=>rw[reps_inj I n ds es hd he r1 r2]
  |lst es=>
   obtain⟨b,ys,e,_,s2,r2⟩:=q;cases e;exact(LK I s2 s1).elim
  |obj=>cases n <;> cases he
  |exc=>cases n <;> cases he
  |dic=>cases n <;> cases he
  |_=>cases q
 |n,.lst ds,e,v,hd,he,r,q=>by
  obtain⟨a,xs,rfl,_,s1,r1⟩:=r;cases e with
  |lst es=>
   obtain⟨b,ys,e,_,s2,r2⟩:=q;cases e;have z:=I.list_inj s1 s2;subst z;cases n with
   |zero=>cases hd
   |succ n=>rw[reps_inj I n ds es hd he r1 r2]
  |tup es=>
   obtain⟨b,ys,e,_,s2,r2⟩:=q;cases e;exact(LK I s1 s2).elim
  |obj=>cases n <;> cases he
  |exc=>cases n <;> cases he
  |dic=>cases n <;> cases he
  |_=>cases q
 |n,.obj _ _,e,v,hd,he,r,q=>by cases n <;> cases hd
 |n,.exc _ _,e,v,hd,he,r,q=>by cases n <;> cases hd
 |n,.dic _,e,v,hd,he,r,q=>by cases n <;> cases hd
 |n,.non,e,v,hd,he,r,q=>by
  cases r;cases e with
  |tup=>obtain⟨_,_,z,_⟩:=q;cases z
  |lst=>obtain⟨_,_,z,_⟩:=q;cases z
  |obj=>cases n <;> cases he
  |exc=>cases n <;> cases he
  |dic=>cases n <;> cases he
  |_=>cases q <;> rfl
 |n,.bl b,e,v,hd,he,r,q=>by
  cases r;cases e with
  |tup=>obtain⟨_,_,z,_⟩:=q;cases z
  |lst=>obtain⟨_,_,z,_⟩:=q;cases z
  |obj=>cases n <;> cases he
  |exc=>cases n <;> cases he
  |dic=>cases n <;> cases he
  |_=>cases q <;> rfl
 |n,.int b,e,v,hd,he,r,q=>by
  cases r;cases e with
  |tup=>obtain⟨_,_,z,_⟩:=q;cases z
  |lst=>obtain⟨_,_,z,_⟩:=q;cases z
  |obj=>cases n <;> cases he
  |exc=>cases n <;> cases he
  |dic=>cases n <;> cases he
  |_=>cases q <;> rfl
 |n,.str b,e,v,hd,he,r,q=>by
  cases r;cases e with
  |tup=>obtain⟨_,_,z,_⟩:=q;cases z
  |lst=>obtain⟨_,_,z,_⟩:=q;cases z
  |obj=>cases n <;> cases he
  |exc=>cases n <;> cases he
  |dic=>cases n <;> cases he
  |_=>cases q <;> rfl
theorem reps_inj{pI:Ad (Ai × AD)}{Z:L2.St}{H:Hp}{s:Am}(I:Inv X pI Z H s) : ∀(n:Ae)(ds es:Ad D){xs:Ad V},ds.all (flD n)=Ab->es.all (flD n)=Ab->Reps X.K CL H A0 xs ds->Reps X.K CL H A0 xs es->ds=es
 |_,[],[],_,_,_,_,_=>rfl
 |n,d::ds,e::es,x::xs,hd,he,r,q=>by
  simp only[DR,Al]at hd he;rw[Im I n d e hd.1 he.1 r.1 q.1,reps_inj I n ds es hd.2 he.2 r.2 q.2]
 |_,[],_::_,[],_,_,_,q=>q.elim
 |_,[],_::_,_::_,_,_,r,_=>r.elim
 |_,_::_,[],[],_,_,r,_=>r.elim
 |_,_::_,[],_::_,_,_,_,q=>q.elim
 |_,_::_,_::_,[],_,_,r,_=>r.elim
end
theorem Hq : ∀{ds es:Ad D},ds.length≠es.length->eqDs ds es=Ac
 |[],[],h=>absurd rfl h
 |[],_::_,_=>rfl
 |_::_,[],_=>rfl
 |d::ds,e::es,h=>by
  simp only[JO,Hq (ds:=ds) (es:=es) (by simpa using h),Fs]
theorem LA(n:Ae)(f:Ae->Aj):(CT (n+1)).all f=(f 0&&(CT n).all λj=>f (j+1)):=by
 rw[List.range_succ_eq_map,DR,OZ];rfl
theorem Hr : ∀{ds es:Ad D},ds.length=es.length->eqDs ds es=(CT ds.length).all λj=>eqD (ds.getD j .non) (es.getD j .non)
 |[],[],_=>rfl
 |d::ds,e::es,h=>by
  rw[JO,Hr (ds:=ds) (es:=es) (by simpa using h),A9,LA]
  rfl
 |[],_::_,h=>by cases h
 |_::_,[],h=>by cases h
theorem Gx(r:Reps K CL H A0 xs ds)(rv:AR xs its)(h:j<its.length):∃ x,Rep K CL H A0 x (ds.getD j .non)/\Bf x its[j]:=by
 have e1:=rv.length;have e2:=r.length;have hd:ds[j]? = Aa (ds.getD j .non):=by
  rw[Cw,BQ (by omega)];rfl
 obtain⟨x,hx,q⟩:=r.get hd;obtain⟨u,hu,ru⟩:=rv.get hx;refine⟨x,q,?_⟩;rw[BQ h]at hu;cases hu;exact ru
theorem Gm(h:ds.all (flD n)=Ab)(j:Ae):flD n (ds.getD j .non)=Ab:=by
 rw[Cw];cases e:ds[j]? with
 |none=>cases n <;> rfl
 |some d=>exact List.all_eq_true.mp h d (O9 e)
noncomputable def BO(B:AN)(s:Am)(u t:Ah)(k:Aj):Prop:=GH B s u t k/\Ef B s u t k/\F1 B s u t (!k)
section
variable{B:AN}{s:Am}
open SeqAt
theorem Xp:BO B s .none .none Ab:=⟨RcAt.none_none,EqAt.same _,RcNeAt.none_none⟩
theorem XU(a b:Aj):BO B s (.bool a) (.bool b) (a==b):=⟨RcAt.bool_bool _ _,EqAt.bool_bool _ _,RcNeAt.bool_bool _ _⟩
theorem Xs(b:Aj):BO B s .none (.bool b) Ac:=⟨RcAt.none_bool _,EqAt.none_bool _,RcNeAt.none_bool _⟩
theorem XN(b:Aj):BO B s (.bool b) .none Ac:=⟨RcAt.bool_none _,EqAt.bool_none _,RcNeAt.bool_none _⟩
theorem XH(a:Ao)(t:BY)(b:Ao)(u:BY):BO B s (.int a t) (.int b u) (a==b):=⟨RcAt.int_int _ _ _ _,EqAt.int_int _ _ _ _,RcNeAt.int_int _ _ _ _⟩
theorem WC(a:Ag)(t:BY)(b:Ag)(u:BY):BO B s (.str a t) (.str b u) (a==b):=⟨RcAt.str_str _ _ _ _,EqAt.str_str _ _ _ _,RcNeAt.str_str _ _ _ _⟩
theorem XD(a:Ao)(t:BY)(b:Ag)(u:BY):BO B s (.int a t) (.str b u) Ac:=⟨RcAt.int_str _ _ _ _,EqAt.int_str _ _ _ _,RcNeAt.int_str _ _ _ _⟩
theorem WF(a:Ag)(t:BY)(b:Ao)(u:BY):BO B s (.str a t) (.int b u) Ac:=⟨RcAt.str_int _ _ _ _,EqAt.str_int _ _ _ _,RcNeAt.str_int _ _ _ _⟩
theorem Xr(b:Ao)(u:BY):BO B s .none (.int b u) Ac:=⟨RcAt.none_int _ _,EqAt.none_int _ _,RcNeAt.none_int _ _⟩
theorem XF(b:Ao)(u:BY):BO B s (.int b u) .none Ac:=⟨RcAt.int_none _ _,EqAt.int_none _ _,RcNeAt.int_none _ _⟩
theorem Xo(b:Ag)(u:BY):BO B s .none (.str b u) Ac:=⟨RcAt.none_str _ _,EqAt.none_str _ _,RcNeAt.none_str _ _⟩
theorem WD(b:Ag)(u:BY):BO B s (.str b u) .none Ac:=⟨RcAt.str_none _ _,EqAt.str_none _ _,RcNeAt.str_none _ _⟩
theorem XS(a:Aj)(b:Ao)(u:BY):BO B s (.bool a) (.int b u) (b2i a==b):=⟨RcAt.bool_int _ _ _,EqAt.bool_int _ _ _,RcNeAt.bool_int _ _ _⟩
theorem XI(a:Aj)(b:Ao)(u:BY):BO B s (.int b u) (.bool a) (b==b2i a):=⟨RcAt.int_bool _ _ _,EqAt.int_bool _ _ _,RcNeAt.int_bool _ _ _⟩
theorem XM(a:Aj)(b:Ag)(u:BY):BO B s (.bool a) (.str b u) Ac:=⟨RcAt.bool_str _ _ _,EqAt.bool_str _ _ _,RcNeAt.bool_str _ _ _⟩
theorem Xm(a:Aj)(b:Ag)(u:BY):BO B s (.str b u) (.bool a) Ac:=⟨RcAt.str_bool _ _ _,EqAt.str_bool _ _ _,RcNeAt.str_bool _ _ _⟩
variable{l:Ai}{items:Bb Ah}
theorem Xx(h:s.heap.IsList l items)(hu:B.units<Br):BO B s (.ref l) .none Ac:=⟨RcAt.list_none h hu,EqAt.list_none h hu,RcNeAt.list_none h hu⟩
theorem Xq(h:s.heap.IsList l items)(hu:B.units<Br):BO B s .none (.ref l) Ac:=⟨RcAt.none_list h hu,EqAt.none_list h hu,RcNeAt.none_list h hu⟩
theorem Xz(b:Aj)(h:s.heap.IsList l items)(hu:B.units<Br):BO B s (.ref l) (.bool b) Ac:=⟨RcAt.list_bool b h hu,EqAt.list_bool b h hu,RcNeAt.list_bool b h hu⟩
theorem XQ(b:Aj)(h:s.heap.IsList l items)(hu:B.units<Br):BO B s (.bool b) (.ref l) Ac:=⟨RcAt.bool_list b h hu,EqAt.bool_list b h hu,RcNeAt.bool_list b h hu⟩
theorem Xy(b:Ao)(u:BY)(h:s.heap.IsList l items)(hu:B.units<Br):BO B s (.ref l) (.int b u) Ac:=⟨RcAt.list_int b u h hu,EqAt.list_int b u h hu,RcNeAt.list_int b u h hu⟩
theorem XG(b:Ao)(u:BY)(h:s.heap.IsList l items)(hu:B.units<Br):BO B s (.int b u) (.ref l) Ac:=⟨RcAt.int_list b u h hu,EqAt.int_list b u h hu,RcNeAt.int_list b u h hu⟩
theorem Xv(b:Ag)(u:BY)(h:s.heap.IsList l items)(hu:B.units<Br):BO B s (.ref l) (.str b u) Ac:=⟨RcAt.list_str b u h hu,EqAt.list_str b u h hu,RcNeAt.list_str b u h hu⟩
theorem WE(b:Ag)(u:BY)(h:s.heap.IsList l items)(hu:B.units<Br):BO B s (.str b u) (.ref l) Ac:=⟨RcAt.str_list b u h hu,EqAt.str_list b u h hu,RcNeAt.str_list b u h hu⟩
theorem Wx(h:s.heap.IsTuple l items)(hu:B.units<Br):BO B s (.ref l) .none Ac:=⟨RcAt.tuple_none h hu,EqAt.tuple_none h hu,RcNeAt.tuple_none h hu⟩
theorem Xn(h:s.heap.IsTuple l items)(hu:B.units<Br):BO B s .none (.ref l) Ac:=⟨RcAt.none_tuple h hu,EqAt.none_tuple h hu,RcNeAt.none_tuple h hu⟩
theorem WA(b:Aj)(h:s.heap.IsTuple l items)(hu:B.units<Br):BO B s (.ref l) (.bool b) Ac:=⟨RcAt.tuple_bool b h hu,EqAt.tuple_bool b h hu,RcNeAt.tuple_bool b h hu⟩
theorem XJ(b:Aj)(h:s.heap.IsTuple l items)(hu:B.units<Br):BO B s (.bool b) (.ref l) Ac:=⟨RcAt.bool_tuple b h hu,EqAt.bool_tuple b h hu,RcNeAt.bool_tuple b h hu⟩
theorem Wz(b:Ao)(u:BY)(h:s.heap.IsTuple l items)(hu:B.units<Br):BO B s (.ref l) (.int b u) Ac:=⟨RcAt.tuple_int b u h hu,EqAt.tuple_int b u h hu,RcNeAt.tuple_int b u h hu⟩
theorem XC(b:Ao)(u:BY)(h:s.heap.IsTuple l items)(hu:B.units<Br):BO B s (.int b u) (.ref l) Ac:=⟨RcAt.int_tuple b u h hu,EqAt.int_tuple b u h hu,RcNeAt.int_tuple b u h hu⟩
theorem Ww(b:Ag)(u:BY)(h:s.heap.IsTuple l items)(hu:B.units<Br):BO B s (.ref l) (.str b u) Ac:=⟨RcAt.tuple_str b u h hu,EqAt.tuple_str b u h hu,RcNeAt.tuple_str b u h hu⟩
theorem WB(b:Ag)(u:BY)(h:s.heap.IsTuple l items)(hu:B.units<Br):BO B s (.str b u) (.ref l) Ac:=⟨RcAt.str_tuple b u h hu,EqAt.str_tuple b u h hu,RcNeAt.str_tuple b u h hu⟩
theorem Xu(h:s.heap.IsList l items)(h2:s.heap.IsTuple b items2)(hu:B.units<Br):BO B s (.ref l) (.ref b) Ac:=⟨RcAt.list_tuple h h2 hu,EqAt.list_tuple h h2 hu,RcNeAt.list_tuple h h2 hu⟩
theorem Wy(h:s.heap.IsTuple l items)(h2:s.heap.IsList b items2)(hu:B.units<Br):BO B s (.ref l) (.ref b) Ac:=⟨RcAt.tuple_list h h2 hu,EqAt.tuple_list h h2 hu,RcNeAt.tuple_list h h2 hu⟩
end
end
section
variable{X:Cx}{CL:ClA}{W:XW}
theorem G3{its:Bb Ah}(x:PlainL h a its):h.IsList a its:=let ⟨o,n,e,c,_,d⟩:=x;⟨o,e,c,n,d⟩
noncomputable def Yu(X:Cx)(CL:ClA)(H:Hp)(s:Am)(d:D)(u:Ah):Prop:=match d with
  |.non=>u = .none
  |.bl b=>u = .bool b
  |.int i => ∃ t,u = .int i t
  |.str x => ∃ t,u = .str x t
  |.tup ds => ∃ a xs its,u = .ref a/\Reps X.K CL H A0 xs ds/\AR xs its/\s.heap.IsTuple a its.toArray
  |.lst ds => ∃ a xs its,u = .ref a/\Reps X.K CL H A0 xs ds/\AR xs its/\s.heap.IsList a its.toArray
  |_=>AT
theorem MD(I:Inv X pI Z H s)(hd:flD n d=Ab)(r:Rep X.K CL H A0 v d)(q:Bf v u):Yu X CL H s d u:=by
 cases d with
 |non=>cases r;exact q
 |bl b=>cases r;exact q
 |int b=>cases r;exact q
 |str b=>cases r;exact q
 |tup ds=>
  obtain⟨a,xs,rfl,_,sq,r⟩:=r;obtain⟨its,rv,p,_⟩:=I.tuple sq;cases q;exact⟨a,xs,its,rfl,r,rv,p⟩
 |lst ds=>
  obtain⟨a,xs,rfl,_,sq,r⟩:=r;obtain⟨its,rv,p,_⟩:=I.list sq;cases q;exact⟨a,xs,its,rfl,r,rv,G3 p⟩
 |obj=>cases n <;> cases hd
 |exc=>cases n <;> cases hd
 |dic=>cases n <;> cases hd
theorem T6{B:AN}{es:Ad D}(hl:s.heap.IsList l its.toArray)(hb:s.heap.IsList b its2.toArray)(e1:its.length=ds.length)(e2:its2.length=es.length)(hu:B.units<Br)(hs:l=b->eqDs ds es=Ab)(he : ∀ j (h1:j<its.length) (h2:j<its2.length),Ef B.in1 s its[j] its2[j] (eqD (ds.getD j .non) (es.getD j .non))):BO B s (.ref l) (.ref b) (eqDs ds es):=by
 have rc:GH B s (.ref l) (.ref b) (eqDs ds es):=by
  by_cases hz:its.length=its2.length
  .have q:=SeqAt.RcAt.lists (e:=λj=>eqD (ds.getD j .non) (es.getD j .non)) hl hb (by simpa using hz) hu (λj h1 h2=>by simpa using he j (by simpa using h1) (by simpa using h2))
   rw[Hr (by omega)]
   have e:its.toArray.size=ds.length:=by simpa using e1
   rw[e]at q;exact q
  .rw[Hq (by omega)]
   exact SeqAt.RcAt.lists_lengths hl hb (by simpa using hz) hu
 have ne:F1 B s (.ref l) (.ref b) (!eqDs ds es):=by
  by_cases hz:its.length=its2.length
  .have q:=SeqAt.RcNeAt.lists (e:=λj=>eqD (ds.getD j .non) (es.getD j .non)) hl hb (by simpa using hz) hu (λj h1 h2=>by simpa using he j (by simpa using h1) (by simpa using h2))
   rw[Hr (by omega)]
   have e:its.toArray.size=ds.length:=by simpa using e1
   rw[e]at q;exact q
  .rw[Hq (by omega)]
   exact SeqAt.RcNeAt.lists_lengths hl hb (by simpa using hz) hu
 refine⟨rc,?_,ne⟩;by_cases hlb:l=b
 .rw[hs hlb,hlb];exact Qi _
 .exact Qh hlb rc
theorem T5{B:AN}{es:Ad D}(hl:s.heap.IsTuple l its.toArray)(hb:s.heap.IsTuple b its2.toArray)(e1:its.length=ds.length)(e2:its2.length=es.length)(hu:B.units<Br)(hs:l=b->eqDs ds es=Ab)(he : ∀ j (h1:j<its.length) (h2:j<its2.length),Ef B.in1 s its[j] its2[j] (eqD (ds.getD j .non) (es.getD j .non))):BO B s (.ref l) (.ref b) (eqDs ds es):=by
 have rc:GH B s (.ref l) (.ref b) (eqDs ds es):=by
  have q:=SeqAt.RcAt.tuples (e:=λj=>eqD (ds.getD j .non) (es.getD j .non)) hl hb hu (λj h1 h2=>by simpa using he j (by simpa using h1) (by simpa using h2))
  have e:its.toArray.size=ds.length:=by simpa using e1
  have e':its2.toArray.size=es.length:=by simpa using e2
  rw[e,e']at q;by_cases hz:ds.length=es.length
  .rw[Hr hz];rw[hz,Pi,Da,OW]at q;rw[hz];exact q
  .rw[Hq hz];rw[Do.mpr hz,Fs]at q;exact q
 have ne:F1 B s (.ref l) (.ref b) (!eqDs ds es):=by
  have q:=SeqAt.RcNeAt.tuples (e:=λj=>eqD (ds.getD j .non) (es.getD j .non)) hl hb hu (λj h1 h2=>by simpa using he j (by simpa using h1) (by simpa using h2))
  have e:its.toArray.size=ds.length:=by simpa using e1
  have e':its2.toArray.size=es.length:=by simpa using e2
  rw[e,e']at q;by_cases hz:ds.length=es.length
  .rw[Hr hz];rw[hz,Pi,Da,OW]at q;rw[hz];exact q
  .rw[Hq hz];rw[Do.mpr hz,Fs]at q;exact q
 refine⟨rc,?_,ne⟩;by_cases hlb:l=b
 .rw[hs hlb,hlb];exact Qi _
 .exact Qh hlb rc
theorem Hx{pI:Ad (Ai × AD)}{Z:L2.St}{H:Hp}{s:Am}(I:Inv X pI Z H s) :∀(n:Ae)(d e:D)(v w':V)(u t:Ah)(B:AN),flD n d=Ab->flD n e=Ab->Rep X.K CL H A0 v d->Rep X.K CL H A0 w' e->Bf v u->Bf w' t->B.units+n<Br->BO B s u t (eqD d e)
  |n,d,e,v,w',u,t,B,hd,he,r,q,rv,rw',hu=>by
    have hu0:B.units<Br:=by omega
    have sd:=MD I hd r rv;have se:=MD I he q rw'
    match d,e,sd,se with
    |.non,.non,s1,s2=>cases s1;cases s2;exact Xp
    |.non,.bl b,s1,s2=>cases s1;cases s2;exact Xs b
    |.non,.int b,s1,s2=>cases s1;obtain⟨_,rfl⟩:=s2;exact Xr b _
    |.non,.str b,s1,s2=>cases s1;obtain⟨_,rfl⟩:=s2;exact Xo b _
    |.non,.tup es,s1,s2=>cases s1;obtain⟨_,_,_,rfl,_,_,p⟩:=s2;exact Xn p hu0
    |.non,.lst es,s1,s2=>cases s1;obtain⟨_,_,_,rfl,_,_,p⟩:=s2;exact Xq p hu0
    |.bl a,.non,s1,s2=>cases s1;cases s2;exact XN a
    |.bl a,.bl b,s1,s2=>cases s1;cases s2;exact XU a b
    |.bl a,.int b,s1,s2=>cases s1;obtain⟨_,rfl⟩:=s2;exact XS a b _
    |.bl a,.str b,s1,s2=>cases s1;obtain⟨_,rfl⟩:=s2;exact XM a b _
    |.bl a,.tup es,s1,s2=>cases s1;obtain⟨_,_,_,rfl,_,_,p⟩:=s2;exact XJ a p hu0
    |.bl a,.lst es,s1,s2=>cases s1;obtain⟨_,_,_,rfl,_,_,p⟩:=s2;exact XQ a p hu0
    |.int a,.non,s1,s2=>obtain⟨_,rfl⟩:=s1;cases s2;exact XF a _
    |.int a,.bl b,s1,s2=>obtain⟨_,rfl⟩:=s1;cases s2;exact XI b a _
    |.int a,.int b,s1,s2=>obtain⟨_,rfl⟩:=s1;obtain⟨_,rfl⟩:=s2;exact XH a _ b _
    |.int a,.str b,s1,s2=>obtain⟨_,rfl⟩:=s1;obtain⟨_,rfl⟩:=s2;exact XD a _ b _
    |.int a,.tup es,s1,s2=>obtain⟨_,rfl⟩:=s1;obtain⟨_,_,_,rfl,_,_,p⟩:=s2;exact XC a _ p hu0
    |.int a,.lst es,s1,s2=>obtain⟨_,rfl⟩:=s1;obtain⟨_,_,_,rfl,_,_,p⟩:=s2;exact XG a _ p hu0
    |.str a,.non,s1,s2=>obtain⟨_,rfl⟩:=s1;cases s2;exact WD a _
    |.str a,.bl b,s1,s2=>obtain⟨_,rfl⟩:=s1;cases s2;exact Xm b a _
    |.str a,.int b,s1,s2=>obtain⟨_,rfl⟩:=s1;obtain⟨_,rfl⟩:=s2;exact WF a _ b _
    |.str a,.str b,s1,s2=>obtain⟨_,rfl⟩:=s1;obtain⟨_,rfl⟩:=s2;exact WC a _ b _
    |.str a,.tup es,s1,s2=>obtain⟨_,rfl⟩:=s1;obtain⟨_,_,_,rfl,_,_,p⟩:=s2;exact WB a _ p hu0
    |.str a,.lst es,s1,s2=>obtain⟨_,rfl⟩:=s1;obtain⟨_,_,_,rfl,_,_,p⟩:=s2;exact WE a _ p hu0
    |.tup ds,.non,s1,s2=>cases s2;obtain⟨_,_,_,rfl,_,_,p⟩:=s1;exact Wx p hu0
    |.tup ds,.bl b,s1,s2=>cases s2;obtain⟨_,_,_,rfl,_,_,p⟩:=s1;exact WA b p hu0
    |.tup ds,.int b,s1,s2=>obtain⟨_,rfl⟩:=s2;obtain⟨_,_,_,rfl,_,_,p⟩:=s1;exact Wz b _ p hu0
    |.tup ds,.str b,s1,s2=>obtain⟨_,rfl⟩:=s2;obtain⟨_,_,_,rfl,_,_,p⟩:=s1;exact Ww b _ p hu0
    |.tup ds,.lst es,s1,s2=>obtain⟨_,_,_,rfl,_,_,p⟩:=s1;obtain⟨_,_,_,rfl,_,_,p2⟩:=s2;exact Wy p p2 hu0
    |.lst ds,.non,s1,s2=>cases s2;obtain⟨_,_,_,rfl,_,_,p⟩:=s1;exact Xx p hu0
    |.lst ds,.bl b,s1,s2=>cases s2;obtain⟨_,_,_,rfl,_,_,p⟩:=s1;exact Xz b p hu0
    |.lst ds,.int b,s1,s2=>obtain⟨_,rfl⟩:=s2;obtain⟨_,_,_,rfl,_,_,p⟩:=s1;exact Xy b _ p hu0
    |.lst ds,.str b,s1,s2=>obtain⟨_,rfl⟩:=s2;obtain⟨_,_,_,rfl,_,_,p⟩:=s1;exact Xv b _ p hu0
    |.lst ds,.tup es,s1,s2=>obtain⟨_,_,_,rfl,_,_,p⟩:=s1;obtain⟨_,_,_,rfl,_,_,p2⟩:=s2;exact Xu p p2 hu0
    |.tup ds,.tup es,s1,s2=>
      match n,hd,he,hu with
      |n+1,hd,he,hu=>
        obtain⟨a,xs,its,rfl,r1,v1,p1⟩:=s1;obtain⟨b,ys,its2,rfl,r2,v2,p2⟩:=s2;have l1:=v1.length;have l2:=r1.length;have l3:=v2.length;have l4:=r2.length
        refine T5 p1 p2 (by omega) (by omega) hu0 (λhab => ?_) λj h1 h2 => ?_
        · have e1:v = .ref a:=Bf.inj rv rfl;have e2:w' = .ref b:=Bf.inj rw' rfl;subst e1 e2 hab;have z:=Im I (n+1) _ _ hd he r q
          injection z with z
          rw[z];exact eqDs_refl n es he
        · obtain⟨x,rx,qx⟩:=Gx r1 v1 h1;obtain⟨y,ry,qy⟩:=Gx r2 v2 h2;exact(Hx I n _ _ x y _ _ B.in1 (Gm hd j) (Gm he j) rx ry qx qy (by show B.units+1+n<Br;omega)).2.1
    |.lst ds,.lst es,s1,s2=>
      match n,hd,he,hu with
      |n+1,hd,he,hu=>
        obtain⟨a,xs,its,rfl,r1,v1,p1⟩:=s1;obtain⟨b,ys,its2,rfl,r2,v2,p2⟩:=s2;have l1:=v1.length;have l2:=r1.length;have l3:=v2.length;have l4:=r2.length
        refine T6 p1 p2 (by omega) (by omega) hu0 (λhab => ?_) λj h1 h2 => ?_
        · have e1:v = .ref a:=Bf.inj rv rfl;have e2:w' = .ref b:=Bf.inj rw' rfl;subst e1 e2 hab;have z:=Im I (n+1) _ _ hd he r q
          injection z with z
          rw[z];exact eqDs_refl n es he
        · obtain⟨x,rx,qx⟩:=Gx r1 v1 h1;obtain⟨y,ry,qy⟩:=Gx r2 v2 h2;exact(Hx I n _ _ x y _ _ B.in1 (Gm hd j) (Gm he j) rx ry qx qy (by show B.units+1+n<Br;omega)).2.1
    |.obj _ _,_,s1,_=>exact s1.elim
    |.exc _ _,_,s1,_=>exact s1.elim
    |.dic _,_,s1,_=>exact s1.elim
    |_,.obj _ _,_,s2=>exact s2.elim
    |_,.exc _ _,_,s2=>exact s2.elim
    |_,.dic _,_,s2=>exact s2.elim
end
section
variable{X:Cx}{CL:ClA}{W:XW}
theorem Iw(I:Inv X pI Z H s)(B:AN)(hd:flD n d=Ab)(hs:ds.all (flD n)=Ab)(r:Reps X.K CL H A0 xs ds)(rv:AR xs its)(q:Rep X.K CL H A0 v d)(qv:Bf v u)(hu:B.units+n<Br):∃ e:Ah->Aj,(∀ y,y∈its.toArray->Ef B s y u (e y))/\its.toArray.any e=ds.any λy=>eqD y d:=by
 have l1:=rv.length;have l2:=r.length
 have key : ∀ y,y∈its -> ∃ k:Aj,Ef B s y u k /\ ∀ j (h:j<its.length),its[j]=y->eqD (ds.getD j .non) d=k:=λy hy=>by
  obtain⟨j,hj,rfl⟩:=Em hy;obtain⟨x,rx,qx⟩:=Gx r rv hj;refine⟨eqD (ds.getD j .non) d,(Hx I n _ _ x v _ _ B (Gm hs j) hd rx q qx qv hu).2.1,λj' hj' e => ?_⟩
  obtain⟨x',rx',qx'⟩:=Gx r rv hj';rw[e]at qx';have z:=Bf.inj qx qx';subst z;rw[Im I n _ _ (Gm hs j') (Gm hs j) rx' rx]
 have key2 : ∀ y,∃ k:Aj,y∈its->Ef B s y u k /\ ∀ j (h:j<its.length),its[j]=y->eqD (ds.getD j .non) d=k:=λy=>by
  by_cases hy:y∈its
  .obtain⟨k,hk⟩:=key y hy;exact⟨k,λ_=>hk⟩
  .exact⟨Ab,λh=>absurd h hy⟩
 refine⟨λy=>Classical.choose (key2 y),λy hy=>(D6 (key2 y) (by simpa using hy)).1,?_⟩
 rw[OX];simp only[List.any_toArray,DV];constructor
 .rintro⟨y,hy,hk⟩;obtain⟨j,hj,rfl⟩:=Em hy;have z:=(D6 (key2 its[j]) hy).2 j hj rfl;rw[hk]at z;refine⟨ds.getD j .non,?_,z⟩;rw[Cw,BQ (by omega)]
  exact EV _
 .rintro⟨y,hy,hk⟩;obtain⟨j,hj,rfl⟩:=Em hy;have hj':j<its.length:=by omega
  refine⟨its[j],EV _,?_⟩;have z:=(D6 (key2 its[j]) (EV _)).2 j hj' rfl;rw[<-z,Cw,BQ hj];exact hk
theorem Ie{g:Ao->Ao->Aj}(ho:OpR X (B6 op) (rI0 λi j => .bl (g i j)))(hg : ∀ dx dy,(∃ i j,dx = .int i/\dy = .int j/\Bu op dx dy = .ok (.bl (g i j)))\/Bu op dx dy = .bad):OpD X CL W (B6 op) (Bu op):=by
 intro A pI s Z H x y v u Q I rx ry ⟨hA,dx,dy,hx,hy,p⟩;rcases hg dx dy with ⟨i,j,rfl,rfl,e⟩|e
 .have ex:=hx.int_of;have ey:=hy.int_of
  subst ex ey;rw[e]at p;exact ho pI s Z H _ _ v u Q I rx ry ⟨i,j,rfl,rfl,p _ H (At.refl H) rfl⟩
 .rw[e]at p;exact p.elim
theorem Np{x:V}(h:B3 X.K CL H A x d)(hd:d ≠ .non):x ≠ .non:=by
 rintro rfl;have h:=h.plain;cases d with
 |non=>exact hd rfl
 |tup=>obtain⟨_,_,e,_⟩:=h;cases e
 |lst=>obtain⟨_,_,e,_⟩:=h;cases e
 |obj=>obtain⟨_,_,_,_,e,_⟩:=h;cases e
 |exc=>obtain⟨_,_,_,e,_⟩:=h;cases e
 |dic=>exact h.elim
 |_=>cases h
theorem Ik(hu:X.A.units+64<Br)(op:Ch):OpD X CL W (B6 op) (Bu op):=by
 cases op with
 |Eq=>
  intro A pI s Z H x y v u Q I rx ry ⟨hA,dx,dy,hx,hy,p⟩;rw[X1]at p;split at p
  .rename_i h;simp only[Al]at h;exact(Hx I 5 dx dy x y v u X.A h.1 h.2 hx.plain hy.plain rx ry (by omega)).1 X.prog X.w X.xe _ ⟨.bl _,H,I,rfl,p _ H (At.refl H) rfl⟩
  .exact p.elim
 |NotEq=>
  intro A pI s Z H x y v u Q I rx ry ⟨hA,dx,dy,hx,hy,p⟩;rw[Xi]at p;split at p
  .rename_i h;simp only[Al]at h;exact(Hx I 5 dx dy x y v u X.A h.1 h.2 hx.plain hy.plain rx ry (by omega)).2.2 X.prog X.w X.xe _ ⟨.bl _,H,I,rfl,p _ H (At.refl H) rfl⟩
  .exact p.elim
 |Lt=>
  refine Ie Xa λdx dy => ?_
  cases dx with
  |int i=>
   cases dy with
   |int j=>exact .inl ⟨i,j,rfl,rfl,rfl⟩
   |_=>exact .inr rfl
  |_=>exact .inr rfl
 |LtE=>
  refine Ie Xb λdx dy => ?_
  cases dx with
  |int i=>
   cases dy with
   |int j=>exact .inl ⟨i,j,rfl,rfl,rfl⟩
   |_=>exact .inr rfl
  |_=>exact .inr rfl
 |Gt=>
  refine Ie Xc λdx dy => ?_
  cases dx with
  |int i=>
   cases dy with
   |int j=>exact .inl ⟨i,j,rfl,rfl,rfl⟩
   |_=>exact .inr rfl
  |_=>exact .inr rfl
 |GtE=>
  refine Ie Xd λdx dy => ?_
  cases dx with
  |int i=>
   cases dy with
   |int j=>exact .inl ⟨i,j,rfl,rfl,rfl⟩
   |_=>exact .inr rfl
  |_=>exact .inr rfl
 |In=>
  intro A pI s Z H x y v u Q I rx ry ⟨hA,dx,dy,hx,hy,p⟩;cases dy with
  |lst es=>
   rw[YC]at p;split at p
   .rename_i h;simp only[Al]at h;obtain⟨a,xs,e,_,sq,r⟩:=hy.plain;subst e;cases ry;obtain⟨its,rv,pl,_⟩:=I.list sq;obtain⟨e,he,ha⟩:=Iw I (n:=5) X.A.in1 h.1 h.2 r rv hx.plain rx (by show X.A.units+1+5<Br;omega)
    refine SeqAt.in_listAt e (G3 pl) he ?_;rw[ha];exact⟨.bl _,H,I,rfl,p _ H (At.refl H) rfl⟩
   .exact p.elim
  |tup es=>
   rw[YB]at p;split at p
   .rename_i h;simp only[Al]at h;obtain⟨a,xs,e,_,sq,r⟩:=hy.plain;subst e;cases ry;obtain⟨its,rv,pl,_⟩:=I.tuple sq;obtain⟨e,he,ha⟩:=Iw I (n:=5) X.A.in1 h.1 h.2 r rv hx.plain rx (by show X.A.units+1+5<Br;omega)
    refine SeqAt.in_tupleAt e pl he ?_;rw[ha];exact⟨.bl _,H,I,rfl,p _ H (At.refl H) rfl⟩
   .exact p.elim
  |dic kvs=>exact hy.plain.elim
  |_=>exact p.elim
 |NotIn=>
  intro A pI s Z H x y v u Q I rx ry ⟨hA,dx,dy,hx,hy,p⟩;cases dy with
  |lst es=>
   rw[Xh]at p;split at p
   .rename_i h;simp only[Al]at h;obtain⟨a,xs,e,_,sq,r⟩:=hy.plain;subst e;cases ry;obtain⟨its,rv,pl,_⟩:=I.list sq;obtain⟨e,he,ha⟩:=Iw I (n:=5) X.A.in1 h.1 h.2 r rv hx.plain rx (by show X.A.units+1+5<Br;omega)
    refine SeqAt.notIn_listAt e (G3 pl) he ?_;rw[ha];exact⟨.bl _,H,I,rfl,p _ H (At.refl H) rfl⟩
   .exact p.elim
  |tup es=>
   rw[Xg]at p;split at p
   .rename_i h;simp only[Al]at h;obtain⟨a,xs,e,_,sq,r⟩:=hy.plain;subst e;cases ry;obtain⟨its,rv,pl,_⟩:=I.tuple sq;obtain⟨e,he,ha⟩:=Iw I (n:=5) X.A.in1 h.1 h.2 r rv hx.plain rx (by show X.A.units+1+5<Br;omega)
    refine SeqAt.notIn_tupleAt e pl he ?_;rw[ha];exact⟨.bl _,H,I,rfl,p _ H (At.refl H) rfl⟩
   .exact p.elim
  |_=>exact p.elim
 |Is=>
  intro A pI s Z H x y v u Q I rx ry ⟨hA,dx,dy,hx,hy,p⟩;cases dy with
  |non=>
   have ey:=hy.non_of;subst ey;refine V6 pI s Z H _ _ v u Q I rx ry ⟨rfl,?_⟩;cases dx with
   |non=>
    have ex:=hx.non_of;subst ex;exact p _ H (At.refl H) rfl
   |exc=>exact p.elim
   |dic=>exact p.elim
   |_=>rw[BP (Np hx (by simp))];exact p _ H (At.refl H) rfl
  |bl b=>
   cases dx with
   |bl a=>
    have ey:=hy.bl_of;have ex:=hx.bl_of;subst ex ey;cases rx;cases ry;refine wpAny_is_plain rfl ⟨.bl (a==b),H,I,?_,p _ H (At.refl H) rfl⟩;cases a <;> cases b <;> rfl
   |_=>exact p.elim
  |_=>cases dx <;> exact p.elim
 |IsNot=>
  intro A pI s Z H x y v u Q I rx ry ⟨hA,dx,dy,hx,hy,p⟩;cases dy with
  |non=>
   have ey:=hy.non_of;subst ey;refine TK pI s Z H _ _ v u Q I rx ry ⟨rfl,?_⟩;cases dx with
   |non=>
    have ex:=hx.non_of;subst ex;exact p _ H (At.refl H) rfl
   |exc=>exact p.elim
   |dic=>exact p.elim
   |_=>rw[BP (Np hx (by simp))];exact p _ H (At.refl H) rfl
  |bl b=>
   cases dx with
   |bl a=>
    have ey:=hy.bl_of;have ex:=hx.bl_of;subst ex ey;cases rx;cases ry;refine wpAny_isNot_plain rfl ⟨.bl (!(a==b)),H,I,?_,p _ H (At.refl H) rfl⟩;cases a <;> cases b <;> rfl
   |_=>exact p.elim
  |_=>cases dx <;> exact p.elim
end
section
variable{X:Cx}{CL:ClA}{W:XW}{a b c:Ak}{fa fb fc:Rho->R D}{pos:Az}
theorem Cc.bind{f:D->R Aj}{Q:Aj->Hp->Prop}{Q':VK}(h:Cc W H (r.bind f) Q)(k : ∀ d v H',r = .ok d->At H H'->Rp H' v d->Cc W H' (f d) Q->Q' v H'):AZ Rp W H r Q':=by
 cases r with
 |ok d=>exact λv H2 s2 q=>k d v H2 rfl s2 q (Cc.same s2 h)
 |exn x=>exact h
 |bad=>exact h
theorem Cc.bindB{r:R Aj}{f:Aj->R Aj}{Q:Aj->Hp->Prop}{Q':Aj->Hp->Prop}(h:Cc W H (r.bind f) Q)(k : ∀ b H',r = .ok b->At H H'->Cc W H' (f b) Q->Q' b H'):Cc W H r Q':=by
 cases r with
 |ok d=>exact λH2 s2=>k d H2 rfl s2 (Cc.same s2 h)
 |exn x=>exact h
 |bad=>exact h
theorem E7.bind{Rp:Hp->Ad V->Ad D->Prop}{r:R (Ad D)}{f:Ad D->R D}{Q':Ad V->Hp->Prop}(h:AZ Rq W H (r.bind f) Q)(k : ∀ d v H',r = .ok d->At H H'->Rp H' v d->AZ Rq W H' (f d) Q->Q' v H'):E7 Rp W H r Q':=by
 cases r with
 |ok d=>exact λv H2 s2 q=>k d v H2 rfl s2 q (AZ.same s2 h)
 |exn x=>exact h
 |bad=>exact h
theorem JU{f:Aj->R D}(h:AZ Rq W H ((Cz d).bind f) Q) : ∃ c,d = .bl c/\AZ Rq W H (f c) Q:=by
 cases d with
 |bl c=>exact⟨c,rfl,h⟩
 |_=>exact h.elim
theorem Nl(ha:ST X CL W a fa):SE X CL W (.UnaryOp .Not a pos) (λY=>(fa Y).bind λx=>(Cz x).bind λb => .ok (.bl (!b))):=λA=>PE.weak (UZ (ha A)) λZ H Q ⟨hA,Y,g,p⟩=>⟨hA,Y,g,AZ.bind p λd v H1 _ s1 r1 p1=>by
 obtain⟨c,rfl,p2⟩:=JU p1;exact⟨c,r1.bl_of,p2 _ H1 (At.refl H1) rfl⟩⟩
theorem Kg{op}(ha:SE X CL W a fa):SE X CL W (.BoolOp op [a] pos) fa:=λA=>UY (ha A)
theorem M6(ha:SE X CL W a fa)(hb:SE X CL W (.BoolOp .And (b::Bi) pos) fb):SE X CL W (.BoolOp .And (a::b::Bi) pos) (λY=>(fa Y).bind λx=>(Cz x).bind λc=>if c=Ab then fb Y else .ok (.bl Ac)):=
 λA=>PE.weak (U_3 (ha A) (hb A)) λZ H Q ⟨hA,Y,g,p⟩=>⟨hA,Y,g,AZ.bind p λd v H1 _ s1 r1 p1=>by
  obtain⟨c,rfl,p2⟩:=JU p1;refine⟨c,r1,?_⟩;cases c with
  |true=>exact⟨hA.same s1,Y,g.same s1,p2⟩
  | false=>exact p2 _ H1 (At.refl H1) rfl⟩
theorem WG(ha:SE X CL W a fa)(hb:SE X CL W (.BoolOp .Or (b::Bi) pos) fb):SE X CL W (.BoolOp .Or (a::b::Bi) pos) (λY=>(fa Y).bind λx=>(Cz x).bind λc=>if c=Ab then .ok (.bl Ab) else fb Y):=
 λA=>PE.weak (W6 (ha A) (hb A)) λZ H Q ⟨hA,Y,g,p⟩=>⟨hA,Y,g,AZ.bind p λd v H1 _ s1 r1 p1=>by
  obtain⟨c,rfl,p2⟩:=JU p1;refine⟨c,r1,?_⟩;cases c with
  |false=>exact⟨hA.same s1,Y,g.same s1,p2⟩
  | true=>exact p2 _ H1 (At.refl H1) rfl⟩
theorem MZ{xs:Ad D}{i:Ao}(h:C5 xs i = .ok d) : ∃ k,plD xs.length i=Aa k/\xs[k]? = Aa d:=by
 unfold C5 at h;split at h
 .rename_i k e;split at h
  .rename_i d' e';cases h;exact⟨k,e,e'⟩
  .cases h
 .cases h
theorem GY{xs:Ad D}{i:Ao}(h:C5 xs i = .exn x):AT:=by
 unfold C5 at h;split at h
 .split at h <;> cases h
 .cases h
theorem M2{i:Ao}(r:Reps K CL H A xs ds)(h:C5 ds i = .ok d) : ∃ v,atI xs i=Aa v/\Rep K CL H A v d:=by
 obtain⟨k,e,q⟩:=MZ h;obtain⟨v,hv,rv⟩:=r.get q;refine⟨v,?_,rv⟩;unfold atI;have:ixN xs.length i=Aa k:=by rw[r.length];exact e
 rw[this];exact hv
theorem UV{z:Ag}{i:Ao}(h:C5 (FP z) i = .ok d) : ∃ c,atI z.cps.toList i=Aa c/\d = .str ⟨#[c]⟩:=by
 obtain⟨k,e,q⟩:=MZ h;unfold FP at e q;rw[Cr]at e;rw[CZ]at q;cases hc:z.cps.toList[k]? with
 |none=>rw[hc]at q;cases q
 |some c=>
  rw[hc]at q;refine⟨c,?_,(BC q).symm⟩;unfold atI;have:ixN z.cps.toList.length i=Aa k:=e;rw[this];exact hc
theorem Q7(h:Ce n=Ab):n<=sizeLine:=by
 unfold Ce at h;have:=Cg h;rw[BX];omega
theorem Vc(hs:Ke b)(ha:ST X CL W a fa)(hb:ST X CL W b fb):SE X CL W (.Subscript a b pos) (λY=>(fa Y).bind λx=>(fb Y).bind λy=>Gg x y):=
 λA=>PE.weak (W7 (r:=rIx X.K) Wm (ha A) (hb A) hs) λZ H Q h=>by
  obtain⟨hA,Y,g,h⟩:=op2 h;refine⟨hA,Y,g,?_⟩;cases e:fa Y with
  |bad=>rw[e]at h;exact h
  |exn x=>rw[e]at h;exact h
  |ok dx0=>
   rw[e]at h;intro x H1 s1 r1;obtain⟨hA1,Y1,g1,h1⟩:=h x H1 s1 r1;refine⟨hA1,Y1,g1,?_⟩;cases e1:fb Y1 with
   |bad=>rw[e1]at h1;exact h1
   |exn x=>rw[e1]at h1;exact h1
   |ok dy0=>
    rw[e1]at h1;intro y H2 s2 r2;obtain⟨hA2,dx,dy,rx,ry,p⟩:=h1 y H2 s2 r2;cases dy with
    |int i=>
     have ey:=ry.int_of;subst ey;cases dx with
     |lst ds=>
      obtain⟨q,xs,rfl,sq,r⟩:=rx.lst_of;rw[X4]at p;cases e2:C5 ds i with
      |ok d=>
       rw[e2]at p;obtain⟨v,hv,rv⟩:=M2 r e2;exact .inl ⟨q,xs,i,v,rfl,rfl,sq,hv,p v H2 (At.refl H2) rv⟩
      |exn x=>exact(GY e2).elim
      |bad=>rw[e2]at p;exact p.elim
     |tup ds=>
      obtain⟨q,xs,rfl,_,sq,r⟩:=rx.tup_of;rw[X3]at p;cases e2:C5 ds i with
      |ok d=>
       rw[e2]at p;obtain⟨v,hv,rv⟩:=M2 r e2;exact .inr (.inl ⟨q,xs,i,v,rfl,rfl,sq,hv,p v H2 (At.refl H2) rv⟩)
      |exn x=>exact(GY e2).elim
      |bad=>rw[e2]at p;exact p.elim
     |str z=>
      have ex:=rx.str_of;subst ex;have p':AZ (λH=>Rep X.K CL H A) W H2 (if Ce z.length=Ab then C5 (FP z) i else .bad) Q:=p
      split at p'
      .rename_i hz;cases e2:C5 (FP z) i with
       |ok d=>
        rw[e2]at p';obtain⟨c,hc,rfl⟩:=UV e2;exact .inr (.inr ⟨z,i,c,rfl,rfl,Q7 hz,hc,p' _ H2 (At.refl H2) rfl⟩)
       |exn x=>exact(GY e2).elim
       |bad=>rw[e2]at p';exact p'.elim
      .exact p'.elim
     |dic=>exact rx.plain.elim
     |_=>exact p.elim
    |_=>cases dx <;> first|exact p.elim|exact rx.plain.elim
theorem M7:SA X CL W [] (λ_ => .ok []):=λA=>PA.weak EH λZ H Q ⟨hA,Y,g,p⟩=>p [] H (At.refl H) trivial
theorem MF(ha:SE X CL W a fa)(hs:SA X CL W es fs)(hst:Ap (a::es) X.env=(Ac,eval a X.env)::Ap es X.env):SA X CL W (a::es) (λY=>(fa Y).bind λx=>(fs Y).bind λxs => .ok (x::xs)):=
 λA=>PA.weak (Dk (ha A) (hs A) hst) λZ H Q ⟨hA,Y,g,p⟩=>by
  dsimp only at p;refine⟨hA,Y,g,?_⟩;cases e:fa Y with
  |bad=>rw[e]at p;exact p
  |exn x=>rw[e]at p;exact p
  |ok d=>
   rw[e]at p;intro v H1 s1 r1;refine⟨hA.same s1,Y,g.same s1,?_⟩;cases e1:fs Y with
   |bad=>rw[R.bind_ok,e1]at p;exact p
   |exn x=>rw[R.bind_ok,e1]at p;exact λH2 s2=>p H2 (s1.trans s2)
   |ok ds=>
    rw[R.bind_ok,e1]at p;exact λvs H2 s2 r2=>p (v::vs) H2 (s1.trans s2) ⟨r1.same s2,r2⟩
theorem Nk{k:Ae}(hs:SA X CL W es fs)(hz : ∀ Y ds,fs Y = .ok ds->ds.length<=100000):SE X CL W (.Tuple es k pos) (λY=>(fs Y).bind λxs => .ok (.tup xs)):=
 λA=>PE.weak (M9 (hs A)) λZ H Q ⟨hA,Y,g,p⟩=>⟨hA,Y,g,E7.bind p λds vs H1 e s1 r1 p1=>⟨by
  rw[r1.length,BX];have:=hz Y ds e;omega,λq hq=>p1 _ _ (Ep hq _) (JZ (hA.same s1) hq r1)⟩⟩
noncomputable def HK(W:XW)(H:Hp)(r:R (An Ao))(Q:An Ao->Hp->Prop):Prop:=match r with
  |.ok o => ∀ H',At H H'->Q o H'
  |.exn x => ∀ H',At H H'->W x H'
  |.bad=>AT
theorem HK.bind{r:R (An Ao)}{f:An Ao->R D}(h:AZ Rq W H (r.bind f) Q)(k : ∀ o H',r = .ok o->At H H'->AZ Rq W H' (f o) Q->Q' o H'):HK W H r Q':=by
 cases r with
 |ok d=>exact λH2 s2=>k d H2 rfl s2 (AZ.same s2 h)
 |exn x=>exact h
 |bad=>exact h
noncomputable def SO(X:Cx)(CL:ClA)(W:XW)(e:An Ak)(f:Rho->R (An Ao)):Prop := ∀ A,PO X e (λZ H Q=>AOk H A /\ ∃ Y,Good X.K CL A Y Z H/\HK W H (f Y) Q)
theorem PO.weak{e:An Ak}{t t':TO}(h:PO X e t)(k : ∀ Z H Q,t' Z H Q->t Z H Q):PO X e t':=λpI s Z H Q I q=>h pI s Z H Q I (k _ _ _ q)
theorem SL:SO X CL W Af (λ_ => .ok Af):=λA=>PO.weak Up λZ H Q ⟨hA,Y,g,p⟩=>p H (At.refl H)
theorem SK(ha:ST X CL W a fa):SO X CL W (Aa a) (λY=>(fa Y).bind λd=>(DB d).bind λi => .ok (Aa i)):=λA=>PO.weak (Uo (ha A)) λZ H Q ⟨hA,Y,g,p⟩=>by
 dsimp only at p;refine⟨hA,Y,g,?_⟩;cases e:fa Y with
 |bad=>rw[e]at p;exact p
 |exn x=>rw[e]at p;exact p
 |ok d=>
  rw[e]at p;intro v H1 s1 r1;cases d with
  |int i=>exact⟨i,r1.int_of,p H1 s1⟩
  |_=>exact p.elim
end
section
variable{X:Cx}{CL:ClA}{W:XW}{a b c:Ak}{fa fb fc:Rho->R D}{pos:Az}
def Et(K:Fg)(CL:ClA)(H:Hp)(A:Ai->Prop):Ad V->Ad D->Prop
 |[],[]=>E4
 |v::vs,d::ds=>B3 K CL H A v d/\Et K CL H A vs ds
 |_,_=>AT
theorem Et.same{K:Fg}{H H':Hp}{A:Ai->Prop}(s:At H H') : ∀{vs:Ad V}{ds:Ad D},Et K CL H A vs ds->Et K CL H' A vs ds
 |[],[],h=>h
 |_::_,_::_,h=>⟨h.1.same s,Et.same s h.2⟩
 |[],_::_,h=>h.elim
 |_::_,[],h=>h.elim
theorem Et.one{vs:Ad V}(h:Et K CL H A vs [d]) : ∃ v,vs=[v]/\B3 K CL H A v d:=by
 cases vs with
 |nil=>exact h.elim
 |cons v vs=>
  cases vs with
  |nil=>exact⟨v,rfl,h.1⟩
  |cons=>exact h.2.elim
noncomputable def SAT(X:Cx)(CL:ClA)(W:XW)(es:Ad Ak)(f:Rho->R (Ad D)):Prop := ∀ A,PA X es (λZ H Q=>AOk H A /\ ∃ Y,Good X.K CL A Y Z H/\E7 (λH=>Et X.K CL H A) W H (f Y) Q)
theorem SU:SAT X CL W [] (λ_ => .ok []):=λA=>PA.weak EH λZ H Q ⟨hA,Y,g,p⟩=>p [] H (At.refl H) trivial
theorem RN(ha:ST X CL W a fa)(hs:SAT X CL W es fs)(hst:Ap (a::es) X.env=(Ac,eval a X.env)::Ap es X.env):SAT X CL W (a::es) (λY=>(fa Y).bind λx=>(fs Y).bind λxs => .ok (x::xs)):=
 λA=>PA.weak (Dk (ha A) (hs A) hst) λZ H Q ⟨hA,Y,g,p⟩=>by
  dsimp only at p;refine⟨hA,Y,g,?_⟩;cases e:fa Y with
  |bad=>rw[e]at p;exact p
  |exn x=>rw[e]at p;exact p
  |ok d=>
   rw[e]at p;intro v H1 s1 r1;refine⟨hA.same s1,Y,g.same s1,?_⟩;cases e1:fs Y with
   |bad=>rw[R.bind_ok,e1]at p;exact p
   |exn x=>rw[R.bind_ok,e1]at p;exact λH2 s2=>p H2 (s1.trans s2)
   |ok ds=>
    rw[R.bind_ok,e1]at p;exact λvs H2 s2 r2=>p (v::vs) H2 (s1.trans s2) ⟨r1.same s2,r2⟩
noncomputable def HL(X:Cx)(CL:ClA)(W:XW)(f:Ah)(g:Ad D->R D):Prop := ∀ A,Ga X f (λxs H Q=>AOk H A /\ ∃ ds,Et X.K CL H A xs ds/\AZ (λH=>Rep X.K CL H A) W H (g ds) Q)
theorem No{x:Ag}{id:Ca}{p:Az}{g:Ad D->R D}(hc:HL X CL W (.builtin id) g)(hg:Gl X x)(hm:X.mg x=Af)(hv:B9 x=Aa (.builtin id))(ha:SAT X CL W (e::es) fs)(hn:x ≠ "__name__")(hdb:(x==("__debug__" : Ag))=Ac)(he:Ap (e::es) X.env=(Ac,eval e X.env)::Ap es X.env)(hpl : ∀ pos,(Bk pos (Ap es X.env)).any (·.1)=Ac):SE X CL W (.Call (.Name x p) (e::es) [] pos) (λY=>(fs Y).bind g):=λA=>PE.weak (Hm (hc A) hg hm hv (ha A) hn hdb he (hpl _)) λZ H Q ⟨hA,Y,gd,q⟩=>⟨hA,Y,gd,E7.bind q λds vs H1 _ s1 r1 p1=>⟨hA.same s1,ds,r1,p1⟩⟩
theorem Ve{x:Ag}{p:Az}{g:Ad D->R D}(hc:HL X CL W (.type T) g)(hg:Gl X x)(hm:X.mg x=Af)(hv:B9 x=Aa (.type T))(ha:SAT X CL W (e::es) fs)(hn:x ≠ "__name__")(hdb:(x==("__debug__" : Ag))=Ac)(he:Ap (e::es) X.env=(Ac,eval e X.env)::Ap es X.env)(hpl : ∀ pos,(Bk pos (Ap es X.env)).any (·.1)=Ac):SE X CL W (.Call (.Name x p) (e::es) [] pos) (λY=>(fs Y).bind g):=λA=>PE.weak (L7 (hc A) hg hm hv (ha A) hn hdb he (hpl _)) λZ H Q ⟨hA,Y,gd,q⟩=>⟨hA,Y,gd,E7.bind q λds vs H1 _ s1 r1 p1=>⟨hA.same s1,ds,r1,p1⟩⟩
theorem Wp:HL X CL W (.builtin "len") (biD .len):=by
  intro A pI s Z H xs us Q I r ⟨hA,ds,rs,p⟩
  match ds,rs,p with
  |[.lst es],rs,p=>
    obtain⟨v,rfl,rv⟩:=rs.one;obtain⟨q,ys,rfl,sq,ry⟩:=rv.lst_of;exact Lx pI s Z H _ us Q I r ⟨q,ys,rfl,.inl sq,p _ H (At.refl H) (by rw[ry.length];rfl)⟩
  |[.tup es],rs,p=>
    obtain⟨v,rfl,rv⟩:=rs.one;obtain⟨q,ys,rfl,_,sq,ry⟩:=rv.tup_of;exact Lx pI s Z H _ us Q I r ⟨q,ys,rfl,.inr sq,p _ H (At.refl H) (by rw[ry.length];rfl)⟩
  |[.str x],rs,p=>
    obtain⟨v,rfl,rv⟩:=rs.one;have e:=rv.str_of;subst e;have p':AZ (λH=>Rep X.K CL H A) W H (if Ce x.length=Ab then .ok (.int x.length) else .bad) Q:=p
    split at p'
    · rename_i h;exact QT pI s Z H _ us Q I r ⟨x,rfl,Gn h,p' _ H (At.refl H) rfl⟩
    · exact p'.elim
  |[],_,p=>exact p.elim
  |[.non],_,p=>exact p.elim
  |[.bl _],_,p=>exact p.elim
  |[.int _],_,p=>exact p.elim
  |[.obj _ _],_,p=>exact p.elim
  |[.exc _ _],_,p=>exact p.elim
  |[.dic _],rs,p=>first|exact p.elim|(obtain⟨v,rfl,rv⟩:=rs.one;exact rv.plain.elim)
  |x::_::_,_,p=>cases x <;> exact p.elim
theorem Sg:HL X CL W (.type "tuple") (biD .tuple):=by
  intro A pI s Z H xs us Q I r ⟨hA,ds,rs,p⟩
  match ds,rs,p with
  |[.lst es],rs,p=>
    obtain⟨v,rfl,rv⟩:=rs.one;obtain⟨q,ys,rfl,sq,ry⟩:=rv.lst_of;exact Lu pI s Z H _ us Q I r ⟨q,ys,rfl,.inl ⟨sq,λl hl=>p _ _ (Ep hl _) (JZ hA hl ry)⟩⟩
  |[.tup es],rs,p=>
    obtain⟨v,rfl,rv⟩:=rs.one;obtain⟨q,ys,rfl,na,sq,ry⟩:=rv.tup_of;exact Lu pI s Z H _ us Q I r ⟨q,ys,rfl,.inr ⟨sq,p _ H (At.refl H) ⟨q,ys,rfl,na,sq,ry⟩⟩⟩
  |[],_,p=>exact p.elim
  |[.non],_,p=>exact p.elim
  |[.bl _],_,p=>exact p.elim
  |[.int _],_,p=>exact p.elim
  |[.str _],_,p=>exact p.elim
  |[.obj _ _],_,p=>exact p.elim
  |[.exc _ _],_,p=>exact p.elim
  |[.dic _],rs,p=>first|exact p.elim|(obtain⟨v,rfl,rv⟩:=rs.one;exact rv.plain.elim)
  |x::_::_,_,p=>cases x <;> exact p.elim
end
section
variable{X:Cx}{CL:ClA}{W:XW}{a b c:Ak}{fa fb fc:Rho->R D}{pos:Az}
theorem SB.congr{g:Rho->R Aj}(h:SB X CL W a f)(e : ∀ Y,g Y=f Y):SB X CL W a g:=λA=>PT.weak (h A) λZ H Q ⟨hA,Y,q,p⟩=>⟨hA,Y,q,by rw[<-e];exact p⟩
theorem Vg(ha:SB X CL W a f):SB X CL W (.UnaryOp .Not a pos) (λY=>(f Y).bind λb => .ok (!b)):=λA=>PT.weak (Vo (ha A)) λZ H Q ⟨hA,Y,g,p⟩=>⟨hA,Y,g,Cc.bindB p λb H1 _ s1 p1=>p1 H1 (At.refl H1)⟩
noncomputable def SW(X:Cx)(CL:ClA)(W:XW)(e:Ak)(f:Rho->R Aj):Prop := ∀ A,PW X e (λZ H Q=>AOk H A /\ ∃ Y,Good X.K CL A Y Z H/\Cc W H (f Y) Q)
theorem PW.weak(h:PW X e t)(k : ∀ Z H Q,t' Z H Q->t Z H Q):PW X e t':=λwh pI s Z H Q I q=>h wh pI s Z H Q I (k _ _ _ q)
theorem SW.sb(h:SW X CL W a f):SB X CL W a f:=λA=>PW.pt (h A)
theorem SW.congr{g:Rho->R Aj}(h:SW X CL W a f)(e : ∀ Y,g Y=f Y):SW X CL W a g:=λA=>PW.weak (h A) λZ H Q ⟨hA,Y,q,p⟩=>⟨hA,Y,q,by rw[<-e];exact p⟩
theorem Td(ha:SB X CL W a f):SW X CL W (.BoolOp .And [a] pos) f:=λA=>Ug (ha A)
theorem Vx(ha:SB X CL W a f):SW X CL W (.BoolOp .Or [a] pos) f:=λA=>Vm (ha A)
theorem Vy{g:Rho->R Aj}(ha:SB X CL W a f)(hb:SW X CL W (.BoolOp .And (b::Bi) pos) g):SW X CL W (.BoolOp .And (a::b::Bi) pos) (λY=>(f Y).bind λc=>if c=Ab then g Y else .ok Ac):=
 λA=>PW.weak (Vn (ha A) (hb A)) λZ H Q ⟨hA,Y,gd,p⟩=>⟨hA,Y,gd,Cc.bindB p λc H1 _ s1 p1=>by
  cases c with
  |true=>exact⟨hA.same s1,Y,gd.same s1,p1⟩
  | false=>exact p1 H1 (At.refl H1)⟩
theorem WQ{g:Rho->R Aj}(ha:SB X CL W a f)(hb:SW X CL W (.BoolOp .Or (b::Bi) pos) g):SW X CL W (.BoolOp .Or (a::b::Bi) pos) (λY=>(f Y).bind λc=>if c=Ab then .ok Ab else g Y):=
 λA=>PW.weak (W4 (ha A) (hb A)) λZ H Q ⟨hA,Y,gd,p⟩=>⟨hA,Y,gd,Cc.bindB p λc H1 _ s1 p1=>by
  cases c with
  |false=>exact⟨hA.same s1,Y,gd.same s1,p1⟩
  | true=>exact p1 H1 (At.refl H1)⟩
theorem Vh(ho:OpD X CL W (B6 op) g)(ha:ST X CL W a fa)(hb:ST X CL W b fb)(hm:EE op b=Ac):SB X CL W (.Compare a [op] [b] pos) (λY=>(fa Y).bind λx=>(fb Y).bind λy=>(g x y).bind Cz):=
 λA=>PT.weak (Uj (ho A) (ha A) (hb A) hm) λZ H Q ⟨hA,Y,gd,p⟩=>⟨hA,Y,gd,Cc.bind p λdx x H1 _ s1 r1 p1=>⟨hA.same s1,Y,gd.same s1,Cc.bind p1 λdy y H2 _ s2 r2 p2=>
  ⟨(hA.same s1).same s2,dx,dy,r1.same s2,r2,Cc.bind p2 λdz z H3 _ s3 r3 p3=>by
   cases dz with
   |bl k=>exact⟨k,r3,p3 H3 (At.refl H3)⟩
   | _=>exact p3.elim⟩⟩⟩
theorem RM{op':Ch}(hu:X.A.units+64<Br)(ha:ST X CL W a fa)(hb:ST X CL W b fb)(hc:ST X CL W c fc)(hm:lastMarks [op,op'] [b,c]=Ac):SB X CL W (.Compare a [op,op'] [b,c] pos) (λY=>(fa Y).bind λx=>(fb Y).bind λy=>(Bu op x y).bind λz=>(Cz z).bind λk=>if k=Ab then (fc Y).bind λu=>(Bu op' y u).bind Cz else .ok Ac):=
  λA=>PT.weak (RQ (Ik hu op A) (Ik hu op' A) (ha A) (hb A) (hc A) hm) λZ H Q ⟨hA,Y,g,p⟩=>⟨hA,Y,g,Cc.bind p λdx x H1 _ s1 r1 p1=>⟨hA.same s1,Y,g.same s1,Cc.bind p1 λdy y H2 _ s2 r2 p2=>
    ⟨(hA.same s1).same s2,dx,dy,r1.same s2,r2,Cc.bind p2 λdz z H3 _ s3 r3 p3=>by
      cases dz with
      |bl k=>
        refine⟨k,r3,?_⟩;cases k with
        |false=>exact⟨Ac,rfl,p3 H3 (At.refl H3)⟩
        | true=>exact⟨((hA.same s1).same s2).same s3,Y,((g.same s1).same s2).same s3,Cc.bind p3 λdu u H4 _ s4 r4 p5=>⟨(((hA.same s1).same s2).same s3).same s4,dy,du,(r2.same s3).same s4,r4,Cc.bind p5 λdv v H5 _ s5 r5 p6=>by
            cases dv with
            |bl k'=>exact⟨k',r5,p6 H5 (At.refl H5)⟩
            | _=>exact p6.elim⟩⟩
      | _=>exact p3.elim⟩⟩⟩
theorem Vf(ha:ST X CL W a fa)(he : ∀ whole,Fx a X.env whole=(do let v <-whole;standAt a.pos;holding [v] (truthy v))):SB X CL W a (λY=>(fa Y).bind Bt):=
 λA=>PT.weak (RP (ha A) he) λZ H Q ⟨hA,Y,g,p⟩=>⟨hA,Y,g,Cc.bind p λd v H1 _ s1 r1 p1=>by
  cases d with
  |non=>
   have e:=r1.non_of;subst e;exact⟨Ac,rfl,p1 H1 (At.refl H1)⟩
  |bl b=>
   have e:=r1.bl_of;subst e;exact⟨b,rfl,p1 H1 (At.refl H1)⟩
  |int i=>
   have e:=r1.int_of;subst e;exact⟨_,rfl,p1 H1 (At.refl H1)⟩
  |str x=>
   have e:=r1.str_of;subst e;have p2:Cc W H1 (if Ce x.length=Ab then .ok (x.length != 0) else .bad) Q:=p1
   split at p2
   .rename_i h;refine⟨_,⟨Gn h,rfl⟩,?_⟩;have e:((x.length:Ao) != 0)=(x.length != 0):=by
     rw[OX];simp
    rw[e];exact p2 H1 (At.refl H1)
   .exact p2.elim
  |tup ds=>
   obtain⟨q,xs,rfl,_,sq,r⟩:=r1.tup_of;refine⟨_,.inr (.inl ⟨xs,sq,rfl⟩),?_⟩;have e:xs.isEmpty=ds.isEmpty:=by
    have:=r.length;cases xs <;> cases ds <;> first|rfl|cases this
   rw[e];exact p1 H1 (At.refl H1)
  |lst ds=>
   obtain⟨q,xs,rfl,sq,r⟩:=r1.lst_of;refine⟨_,.inl ⟨xs,sq,rfl⟩,?_⟩;have e:xs.isEmpty=ds.isEmpty:=by
    have:=r.length;cases xs <;> cases ds <;> first|rfl|cases this
   rw[e];exact p1 H1 (At.refl H1)
  | _=>exact p1.elim⟩
noncomputable def YK(K:Fg)(CL:ClA)(H:Hp)(A:Ai->Prop)(cls:Ah)(dx:An Ai)(x:Ex):Prop:=
 ∃ C,CL x.c=Aa C/\cls = .ref C/\(x.fs=[] \/ ∃ d vs,dx=Aa d /\ ¬ A d/\H d=Aa (.xd vs)/\Repf K CL H A vs x.fs)
noncomputable def D1(K:Fg)(CL:ClA)(H:Hp)(cls:Ah)(dx:An Ai)(x:Ex):Prop := ∀ A,AOk H A->YK K CL H A cls dx x
end
noncomputable def Bm(B:Ai->Prop)(Y:Rho)(Z:L2.St):Ai->Prop:=λa=>B a \/ ∃(j:Ae)(d:D),Y[j]? = Aa (Aa (d,Ab))/\Z[j]? = Aa (Aa (.ref a))
structure Sx (K:Fg) (CL:ClA) (Fz:Ai->HO->Prop) (B:Ai->Prop) (Y:Rho) (Z:L2.St) (H:Hp):Prop where
 good:Good K CL (Bm B Y Z) Y Z H
 aok:AOk H (Bm B Y Z)
 new : ∀(j:Ae)(d:D)(a:Ai),Y[j]? = Aa (Aa (d,Ab))->Z[j]? = Aa (Aa (.ref a))->(∀ o,¬ Fz a o) /\ ¬ B a
 dis : ∀(i j:Ae)(d e:D)(a:Ai),Y[i]? = Aa (Aa (d,Ab))->Y[j]? = Aa (Aa (e,Ab))->Z[i]? = Aa (Aa (.ref a))->Z[j]? = Aa (Aa (.ref a))->i=j
 same : ∀ b o,Fz b o->H b=Aa o
 len:Y.length=Z.length
noncomputable def BA(K:Fg)(CL:ClA)(Fz:Ai->HO->Prop)(B:Ai->Prop)(W:XW)(o:O)(D:Ends):Prop:=match o with
  |.next Y => ∀ Z H,Sx K CL Fz B Y Z H->D.nx Z H
  |.brk Y => ∀ Z H,Sx K CL Fz B Y Z H->D.bk Z H
  |.cont Y => ∀ Z H,Sx K CL Fz B Y Z H->D.ct Z H
  |.ret d fr => ∀ v H,(∀ b o,Fz b o->H b=Aa o)->Rep K CL H B v d->(fr=Ab -> ∀ ds,d = .lst ds -> ∃ a xs,v = .ref a/\(∀ o,¬ Fz a o)/\H a=Aa (.lst xs)/\Reps K CL H (λb=>B b\/b=a) xs ds)->D.rt v H
  |.exn x _ => ∀ H,(∀ b o,Fz b o->H b=Aa o)->W x H
  |.bad=>AT
section
variable{K:Fg}{CL:ClA}{Fz Fy:Ai->HO->Prop}{B:Ai->Prop}{Y:Rho}{Z:L2.St}{H H':Hp}
theorem Sx.mono(k : ∀ b o,Fz b o->Fy b o)(x:Sx K CL Fy B Y Z H):Sx K CL Fz B Y Z H:=⟨x.good,x.aok,λj d a h1 h2=>⟨λo z=>(x.new j d a h1 h2).1 o (k _ _ z),(x.new j d a h1 h2).2⟩,x.dis,λb o z=>x.same b o (k _ _ z),x.len⟩
theorem Sx.grow(x:Sx K CL Fz B Y Z H)(s:At H H'):Sx K CL Fz B Y Z H':=⟨x.good.same s,x.aok.same s,x.new,x.dis,λb o z=>s _ _ (x.same b o z),x.len⟩
theorem BG{l:Ad α}{v:α}(h:i≠j):(l.set i v)[j]? = l[j]? := by rw[Ea h]
theorem Eo{l:Ad α}{v w':α}(h:(l.set i v)[i]? = Aa w'):w'=v:=by
 rw[DH]at h;cases e:l[i]? with
 |none=>rw[e]at h;cases h
 |some x=>rw[e]at h;cases h;rfl
theorem Sx.set(x:Sx K CL Fz B Y Z H){v:V}{d:D}(i:Ae)(r:Rep K CL H (Bm B Y Z) v d):Sx K CL Fz B (Y.set i (Aa (d,Ac))) (Z.set i (Aa v)) H:=by
 have own : ∀(j:Ae)(e:D),(Y.set i (Aa (d,Ac)))[j]? = Aa (Aa (e,Ab))->i≠j/\Y[j]? = Aa (Aa (e,Ab)):=λj e h=>by
  by_cases hj:i=j
  .subst hj;have:=Eo h;cases this
  .exact⟨hj,by rw[BG hj]at h;exact h⟩
 have sub : ∀ a,Bm B (Y.set i (Aa (d,Ac))) (Z.set i (Aa v)) a->Bm B Y Z a:=λa h=>by
  rcases h with h|⟨j,e,h1,h2⟩
  .exact .inl h
  .obtain⟨hj,h1⟩:=own j e h1;rw[BG hj]at h2;exact .inr ⟨j,e,h1,h2⟩
 refine⟨⟨λj e h => ?_,λj e h => ?_,by rw[A1,A1];exact x.len⟩,λa h=>x.aok a (sub a h),λj e a h1 h2 => ?_,λj k e f a h1 h2 h3 h4 => ?_,x.same,by rw[A1,A1];exact x.len⟩
 .by_cases hj:i=j
  .subst hj;have e1:=Eo h;cases e1;refine⟨v,?_,Rep.sub sub _ r⟩;have hl:i<Z.length:=by
    rw[<-x.len];have:=(A4.mp h).1;simpa using this
   rw[B7 hl]
  .rw[BG hj]at h;obtain⟨w',q,rw'⟩:=x.good.sh j e h;exact⟨w',by rw[BG hj];exact q,Rep.sub sub _ rw'⟩
 .obtain⟨hj,h1⟩:=own j e h;obtain⟨a,xs,ds,q,z,ha,hh,rr⟩:=x.good.ow j e h1;exact⟨a,xs,ds,by rw[BG hj];exact q,z,.inr ⟨j,e,h,by rw[BG hj];exact q⟩,hh,Reps.sub sub _ rr⟩
 .obtain⟨hj,h1⟩:=own j e h1;rw[BG hj]at h2;exact x.new j e a h1 h2
 .obtain⟨hj,h1⟩:=own j e h1;obtain⟨hk,h2⟩:=own k f h2;rw[BG hj]at h3;rw[BG hk]at h4;exact x.dis j k e f a h1 h2 h3 h4
end
section
variable{X:Cx}{CL:ClA}{W:XW}{pos:Az}{e:Ak}{fe:Rho->R D}
noncomputable def SS(X:Cx)(CL:ClA)(W:XW)(st:AC)(f:Rho->O):Prop := ∀ Fz B,PS X st (λD Z H => ∃ Y,Sx X.K CL Fz B Y Z H/\BA X.K CL Fz B W (f Y) D)
noncomputable def SSs(X:Cx)(CL:ClA)(W:XW)(st:Ad AC)(f:Rho->O):Prop := ∀ Fz B,PSs X st (λD Z H => ∃ Y,Sx X.K CL Fz B Y Z H/\BA X.K CL Fz B W (f Y) D)
theorem PS.weak{e:AC}{t t':TS}(h:PS X e t)(k : ∀ D Z H,t' D Z H->t D Z H):PS X e t':=λpI s Z H D I q=>h pI s Z H D I (k _ _ _ q)
theorem PSs.weak{e:Ad AC}{t t':TS}(h:PSs X e t)(k : ∀ D Z H,t' D Z H->t D Z H):PSs X e t':=λpI s Z H D I q=>h pI s Z H D I (k _ _ _ q)
theorem BA.ex{f:D->O}(x:Sx X.K CL Fz B Y Z H)(h:BA X.K CL Fz B W (O.of Y r f) D')(k : ∀ d v H',r = .ok d->At H H'->Rp H' v d->Sx X.K CL Fz B Y Z H'->BA X.K CL Fz B W (f d) D'->Q v H'):AZ Rp W H r Q:=by
 cases r with
 |ok d=>exact λv H' s r=>k d v H' rfl s r (x.grow s) h
 |exn y=>exact λH' s=>h H' λb o z=>s _ _ (x.same b o z)
 |bad=>exact h
theorem BA.exB{r:R Aj}{f:Aj->O}{Q:Aj->Hp->Prop}(x:Sx X.K CL Fz B Y Z H)(h:BA X.K CL Fz B W (O.of Y r f) D')(k : ∀ b H',r = .ok b->At H H'->Sx X.K CL Fz B Y Z H'->BA X.K CL Fz B W (f b) D'->Q b H'):Cc W H r Q:=by
 cases r with
 |ok d=>exact λH' s=>k d H' rfl s (x.grow s) h
 |exn y=>exact λH' s=>h H' λb o z=>s _ _ (x.same b o z)
 |bad=>exact h
theorem Tn(he:SE X CL W e fe)(hs:Ck e Af pos.line X.env=pure Ac):SS X CL W (.Expr e pos) (λY=>O.of Y (fe Y) λ_ => .next Y):=λFz B pI s Z H D I ⟨Y,x,p⟩=>
 Hv (he (Bm B Y Z)) hs pI s Z H D I ⟨x.aok,Y,x.good,BA.ex x p λd v H' _ s r x' q=>q Z H' x'⟩
theorem VF{n:Ag}(hN:X.N.Nodup)(hi:X.N[i]? = Aa n)(hx:Loc X.env.scope n)(he:SE X CL W e fe)(hs:Ck e (Aa (.Name n pos')) pos.line X.env=pure Ac)(hf:X.fn n=Ab\/X.env.scope.names.lookup n=Aa .local):SS X CL W (.Assign [.Name n pos'] e pos) (λY=>O.of Y (fe Y) λd =>.next (Y.set i (Aa (d,Ac)))):=λFz B pI s Z H D I ⟨Y,x,p⟩=>
 IA hN hi hx (he (Bm B Y Z)) hs hf pI s Z H D I ⟨x.aok,Y,x.good,BA.ex x p λd v H' _ s r x' q=>q _ H' (x'.set i r)⟩
theorem Tk(he:SE X CL W e fe):SS X CL W (.Return (Aa e) pos) (λY=>O.of Y (fe Y) λd => .ret d Ac):=λFz B pI s Z H D I ⟨Y,x,p⟩=>
 Kk (he (Bm B Y Z)) pI s Z H D I ⟨x.aok,Y,x.good,BA.ex x p λd v H' _ s r x' q=>q v H' x'.same (Rep.sub (λa h => .inl h) _ r) λz=>nomatch z⟩
theorem WX{a b:Ad AC}{fa fb:Rho->O}(hc:SB X CL W c fc)(ha:SSs X CL W a fa)(hb:SSs X CL W b fb):SS X CL W (.If c a b pos) (λY=>O.of Y (fc Y) λk=>if k=Ab then fa Y else fb Y):=λFz B pI s Z H D I ⟨Y,x,p⟩=>
 W5 (hc (Bm B Y Z)) (ha Fz B) (hb Fz B) pI s Z H D I ⟨x.aok,Y,x.good,BA.exB x p λk H' _ s x' q=>by
  cases k with
  |true=>exact⟨Y,x',q⟩
  | false=>exact⟨Y,x',q⟩⟩
theorem MV:SSs X CL W [] (λY => .next Y):=λFz B=>PSs.weak Uk λD Z H ⟨Y,x,p⟩=>p Z H x
theorem JH{st:AC}{Bi:Ad AC}{f g:Rho->O}(h1:SS X CL W st f)(h2:SSs X CL W Bi g):SSs X CL W (st::Bi) (λY=>(f Y).seq g):=λFz B=>PSs.weak (Mu (h1 Fz B) (h2 Fz B)) λD Z H ⟨Y,x,p⟩=>⟨Y,x,by
 dsimp only at p;cases e:f Y with
 |next Y'=>rw[e]at p;exact λZ' H' x'=>⟨Y',x',p⟩
 |ret d b=>rw[e]at p;exact p
 |brk Y'=>rw[e]at p;exact p
 |cont Y'=>rw[e]at p;exact p
 |exn y Y'=>rw[e]at p;exact p
 | bad=>rw[e]at p;exact p⟩
end
noncomputable def GE(K:Fg)(CL:ClA)(A:Ai->Prop)(ds:Ad D)(J:It)(H1:Hp):Prop := ∀ H,Kp A H1 H -> ∀ i:Ae,(ds.length<=i->J.stop i H) /\ ∀ d,ds[i]? = Aa d->J.go i H /\ ∀ x H',J.yld i H x H'->At H H' /\ ∀ B,(∀ a,B a->A a\/H1 a=Af)->AOk H B->Rep K CL H' B x d
noncomputable def DL(K:Fg)(CL:ClA)(A:Ai->Prop)(W:XW)(H:Hp)(r:R (Ad D))(Q:It->Hp->Prop):Prop:=match r with
  |.ok ds => ∀ J H',At H H'->GE K CL A ds J H'->ds.length<=sizeLine->Q J H'
  |.exn x => ∀ H',At H H'->W x H'
  |.bad=>AT
noncomputable def SI(X:Cx)(CL:ClA)(W:XW)(tg iter:Ak)(f:Rho->R (Ad D)):Prop := ∀ A,PI X tg iter (λZ H R=>AOk H A /\ ∃ Y,Good X.K CL A Y Z H/\DL X.K CL A W H (f Y) R)
theorem PI.weak{t t':TI}(h:PI X tg e t)(k : ∀ Z H Q,t' Z H Q->t Z H Q):PI X tg e t':=λpI s Z H Q I q=>h pI s Z H Q I (k _ _ _ q)
section
variable{X:Cx}{CL:ClA}{W:XW}{pos p:Az}{tg e a b:Ak}{fe fa fb:Rho->R D}
theorem DL.ex{f:D->R (Ad D)}{Q:It->Hp->Prop}{Q':VK}(h:DL X.K CL A W H (r.bind f) Q)(k : ∀ d v H',r = .ok d->At H H'->Rp H' v d->DL X.K CL A W H' (f d) Q->Q' v H'):AZ Rp W H r Q':=by
  cases r with
  | ok d=>exact λv H' s q=>k d v H' rfl s q (by
      have h':DL X.K CL A W H (f d) Q:=h;cases e:f d with
      |ok ds=>rw[e]at h';exact λJ H2 s2 y z=>h' J H2 (s.trans s2) y z
      |exn y=>rw[e]at h';exact λH2 s2=>h' H2 (s.trans s2)
      | bad=>rw[e]at h';exact h')
  |exn y=>exact h
  |bad=>exact h
theorem L4{x:V}(r:Rep K CL H1 A x d)(k:Kp A H1 H)(hB : ∀ a,B a->A a\/H1 a=Af):Rep K CL H B x d:=by
 have r1:Rep K CL H1 (λa=>A a\/B a) x d:=Rep.wide (λa ha=>ha.elim .inl (hB a)) _ r
 have r2:Rep K CL H (λa=>A a\/B a) x d:=Rep.kp (λb o e na=>k b o e λz=>na (.inl z)) _ r1
 exact Rep.sub (λa ha => .inr ha) _ r2
theorem Q3(na : ¬ A q\/KL K q xs)(s:SqL K H q xs)(r:Reps K CL H A xs ds):GE K CL A ds (Itl K q) H:=λH' k i=>by
 have s':=Ks k na s;refine⟨λh=>⟨xs,s',by rw[r.length];exact h⟩,λd hd => ?_⟩
 obtain⟨v,hv,rv⟩:=r.get hd;exact⟨⟨xs,v,s',hv⟩,λx H2 ⟨e,y⟩=>by
  subst e;have:=y xs s';rw[hv]at this;cases this;exact⟨At.refl _,λB hB _=>L4 rv k hB⟩⟩
theorem R6(na : ¬ A q\/KT K q xs)(s:SqT K H q xs)(r:Reps K CL H A xs ds):GE K CL A ds (Itt K q) H:=λH' k i=>by
 have s':=Kq k na s;refine⟨λh=>⟨xs,s',by rw[r.length];exact h⟩,λd hd => ?_⟩
 obtain⟨v,hv,rv⟩:=r.get hd;exact⟨⟨xs,v,s',hv⟩,λx H2 ⟨e,y⟩=>by
  subst e;have:=y xs s';rw[hv]at this;cases this;exact⟨At.refl _,λB hB _=>L4 rv k hB⟩⟩
theorem Mp(lo:Ao)(n:Ae):GE K CL A (D3 lo n) (Itr lo n) H:=λH' k i=>by
 refine⟨λh=>by rw[H9]at h;exact h,λd hd => ?_⟩
 obtain⟨h1,rfl⟩:=SG hd;exact⟨h1,λx H2 ⟨e,y⟩=>by
  subst e y;exact⟨At.refl _,λ_ _ _=>rfl⟩⟩
theorem Vs{l:Ak}{tl:TE}(hl:PE X l tl):PI X tg l (λZ H R=>tl Z H λx H1=>(∃ a,x = .ref a/\(∃ xs,SqL X.K H1 a xs/\(xs.length<=sizeLine->R (Itl X.K a) H1))) \/ ∃ a,x = .ref a/\(∃ xs,SqT X.K H1 a xs/\(xs.length<=sizeLine->R (Itt X.K a) H1))):=by
 intro pI s Z H R I h;refine thn (hl pI s Z H _ I h) λv s1 ⟨x,H1,I1,r1,q1⟩ => ?_
 rcases q1 with ⟨a,e,xs,hq,q⟩|⟨a,e,xs,hq,q⟩
 .subst e;cases r1;obtain⟨its,rv,p,hz⟩:=I1.list hq;refine QP p.isList ?_;refine⟨s1.heap.objs.size,[s1.heap.objs.size],_,_,H1,rfl,I1.kept (t':=s1.toks) λb o e=>Ax _ e,Rs a _,⟨_,Bv _ rfl,rfl,rfl⟩,λb hb => ?_,q hz⟩
  have e:b=s1.heap.objs.size:=by simpa using hb
  subst e;exact I1.fpOk (AW _) (I1.hok.fresh (AW _))
 .subst e;cases r1;obtain⟨its,rv,p,hz⟩:=I1.tuple hq;refine wpAny_pyIter_tuple (show s1.heap.IsTuple a its.toArray from p) ?_
  refine⟨s1.heap.objs.size,[s1.heap.objs.size],_,_,H1,rfl,I1.kept (t':=s1.toks) λb o e=>Ax _ e,Q5 a _,⟨_,Bv _ rfl,rfl,rfl⟩,λb hb => ?_,q hz⟩
  have e:b=s1.heap.objs.size:=by simpa using hb
  subst e;exact I1.fpOk (AW _) (I1.hok.fresh (AW _))
theorem Yi(he:SE X CL W e fe):SI X CL W tg e (λY=>(fe Y).bind D0):=λA=>PI.weak (Vs (he A)) λZ H R ⟨hA,Y,g,p⟩=>⟨hA,Y,g,DL.ex p λd v H1 _ s1 r1 p1=>by
 cases d with
 |lst ds=>
  obtain⟨q,xs,rfl,na,sq,r⟩:=r1;exact .inl ⟨q,rfl,xs,sq,λhz=>p1 _ H1 (At.refl H1) (Q3 na sq r) (by rw[<-r.length];exact hz)⟩
 |tup ds=>
  obtain⟨q,xs,rfl,na,sq,r⟩:=r1;exact .inr ⟨q,rfl,xs,sq,λhz=>p1 _ H1 (At.refl H1) (R6 na sq r) (by rw[<-r.length];exact hz)⟩
 | _=>exact p1.elim⟩
theorem L5(h:Dl lo hi = .ok ds):(-(2 ^ 62)<=lo/\lo<2 ^ 62)/\(-(2 ^ 62)<=hi/\hi<2 ^ 62)/\ds=D3 lo (hi-lo).toNat/\(D3 lo (hi-lo).toNat).length<=sizeLine:=by
 unfold Dl at h;split at h
 .rename_i q;cases h;exact⟨by omega,by omega,rfl,by rw[H9,BX];omega⟩
 .cases h
theorem LD(h:Dl lo hi = .exn x):AT:=by
 unfold Dl at h;split at h <;> cases h
theorem VJ(ha:ST X CL W a fa)(hg:Gl X "range")(hm:X.mg "range" = Af)(hs:Ap [a] X.env=[(Ac,eval a X.env)]):SI X CL W tg (.Call (.Name "range" p) [a] [] pos) (λY=>(fa Y).bind λx=>(DB x).bind λj=>Dl 0 j):=
 λA=>PI.weak (Rm hg hm (Dk (ha A) EH hs) hs) λZ H R ⟨hA,Y,g,q⟩=>⟨hA,Y,g,DL.ex q λd v H1 _ s1 r1 p1=>by
  cases d with
  |int j=>
   have e:=r1.int_of;subst e;have p2:DL X.K CL A W H1 (Dl 0 j) R:=p1;cases e2:Dl 0 j with
   |ok ds=>
    rw[e2]at p2;obtain⟨_,h2,rfl,hz⟩:=L5 e2;exact⟨j,rfl,h2.1,h2.2,p2 _ H1 (At.refl H1) (by rw[OY];exact Mp 0 j.toNat) hz⟩
   |exn y=>exact(LD e2).elim
   |bad=>rw[e2]at p2;exact p2.elim
  | _=>exact p1.elim⟩
theorem SM(ha:ST X CL W a fa)(hb:ST X CL W b fb)(hg:Gl X "range")(hm:X.mg "range" = Af)(hs:Ap [a,b] X.env=[(Ac,eval a X.env),(Ac,eval b X.env)])(hs2:Ap [b] X.env=[(Ac,eval b X.env)]):
  SI X CL W tg (.Call (.Name "range" p) [a,b] [] pos) (λY=>(fa Y).bind λx=>(fb Y).bind λy=>(DB x).bind λi=>(DB y).bind λj=>Dl i j):=
 λA=>PI.weak (Rl hg hm (Dk (ha A) (Dk (hb A) EH hs2) (by rw[hs,hs2])) hs hs2) λZ H R ⟨hA,Y,g,q⟩=>⟨hA,Y,g,DL.ex q λd v H1 _ s1 r1 p1=>⟨hA.same s1,Y,g.same s1,DL.ex p1 λd2 v2 H2 _ s2 r2 p2=>by
  cases d with
  |int i=>
   cases d2 with
   |int j=>
    have e:=r1.int_of;have e':=r2.int_of
    subst e e';have p3:DL X.K CL A W H2 (Dl i j) R:=p2;cases e2:Dl i j with
    |ok ds=>
     rw[e2]at p3;obtain⟨h1,h2,rfl,hz⟩:=L5 e2;exact⟨i,j,rfl,⟨h1.1,h1.2,h2.1,h2.2⟩,p3 _ H2 (At.refl H2) (Mp _ _) hz⟩
    |exn y=>exact(LD e2).elim
    |bad=>rw[e2]at p3;exact p3.elim
   |_=>exact p2.elim
  | _=>exact p2.elim⟩⟩
theorem BA.exI{r:R (Ad D)}{f:Ad D->O}{Q:It->Hp->Prop}(x:Sx X.K CL Fz B Y Z H)(h:BA X.K CL Fz B W (O.of Y r f) D')(k : ∀ ds J H',r = .ok ds->At H H'->GE X.K CL A ds J H'->ds.length<=sizeLine->Sx X.K CL Fz B Y Z H'->BA X.K CL Fz B W (f ds) D'->Q J H'):DL X.K CL A W H r Q:=by
 cases r with
 |ok d=>exact λJ H' s y z=>k d J H' rfl s y z (x.grow s) h
 |exn y=>exact λH' s=>h H' λb o z=>s _ _ (x.same b o z)
 |bad=>exact h
theorem BA.turn{Fy:Ai->HO->Prop}{o:O}{g:Rho->O}{N:L2.St->Hp->Prop}(hf : ∀ b q,Fz b q->Fy b q)(h:BA K CL Fz B W (o.turn g) D')(k : ∀ Y' Z' H',Sx K CL Fy B Y' Z' H'->BA K CL Fz B W (g Y') D'->N Z' H'):BA K CL Fy B W o {D' with nx:=N,ct:=N,bk:=D'.nx}:=by
 cases o with
 |next Y'=>exact λZ' H' x=>k Y' Z' H' x h
 |cont Y'=>exact λZ' H' x=>k Y' Z' H' x h
 |brk Y'=>exact λZ' H' x=>h Z' H' (x.mono hf)
 |ret d b=>exact λv H' s r n=>h v H' (λb o z=>s b o (hf b o z)) r λz ds e=>let ⟨a,xs,h1,h2,h3⟩:=n z ds e;⟨a,xs,h1,λo q=>h2 o (hf a o q),h3⟩
 |exn y Y'=>exact λH' s=>h H' (λb o z=>s b o (hf b o z))
 |bad=>exact h
noncomputable def Ei(ts:Ad Ae)(Y:Rho):Rho:=ts.foldl (λY t=>Y.set t Af) Y
noncomputable def GT(K:Fg)(CL:ClA)(as:D->Rho->R Rho)(g:TG):Prop := ∀ Fz B Y Z H v d Y' Q,Sx K CL Fz B Y Z H->Rep K CL H (Bm B Y Z) v d->as d Y = .ok Y'->(∀ Z',Sx K CL Fz B Y' Z' H->Q Z' H)->g v Z H Q
theorem UL(i:Ae):GT K CL (λd Y => .ok (Y.set i (Aa (d,Ac)))) (EK i):=λFz B Y Z H v d Y' Q x r e k=>by
 cases e;exact k _ (x.set i r)
theorem Nr{K:Fg}{Fz:Ai->HO->Prop}{B:Ai->Prop}{H:Hp} : ∀(ts:Ad Ae)(ds:Ad D)(vs:Ad V)(Y Y':Rho)(Z:L2.St)(Q:L2.St->Hp->Prop),Sx K CL Fz B Y Z H->Reps K CL H (Bm B Y Z) vs ds->EG ts ds Y=Aa Y'->(∀ Z',Sx K CL Fz B Y' Z' H->Q Z' H)->(ts.foldr (λt u=>HI (EK t) u) HR) vs Z H Q
 |[],[],[],Y,Y',Z,Q,x,_,e,k=>by
  cases e;exact⟨rfl,k Z x⟩
 |t::ts,d::ds,v::vs,Y,Y',Z,Q,x,r,e,k=>by
  refine⟨v,vs,rfl,Nr ts ds vs _ Y' _ Q (x.set t r.1) (Reps.sub (λa ha => ?_) ds r.2) e k⟩
  rcases ha with ha|⟨j,c,h1,h2⟩
  .exact .inl ha
  .by_cases hj:t=j
   .subst hj;have:=Eo h1;cases this
   .rw[BG hj]at h1 h2;exact .inr ⟨j,c,h1,h2⟩
 |[],_::_,_,_,_,_,_,_,_,e,_=>by cases e
 |_::_,[],_,_,_,_,_,_,_,e,_=>by cases e
 |[],[],_::_,_,_,_,_,_,r,_,_=>r.elim
 |_::_,_::_,[],_,_,_,_,_,r,_,_=>r.elim
theorem LC : ∀(ts:Ad Ae)(ds:Ad D)(Y Y':Rho),EG ts ds Y=Aa Y'->ds.length=ts.length
 |[],[],_,_,_=>rfl
 |_::ts,_::ds,_,_,e=>congrArg (· + 1) (LC ts ds _ _ e)
 |[],_::_,_,_,e=>by cases e
 |_::_,[],_,_,e=>by cases e
theorem VW(ts:Ad Ae):GT K CL (EI ts) (Li K ts.length (ts.foldr (λt u=>HI (EK t) u) HR)):=λFz B Y Z H v d Y' Q x r e k=>by
 cases d with
 |tup ds=>
  obtain⟨a,xs,rfl,na,sq,rs⟩:=r;rw[Q0]at e;cases e2:EG ts ds Y with
  |none=>rw[e2]at e;cases e
  |some Y2=>
   rw[e2]at e;cases e;exact⟨a,xs,rfl,sq,by rw[rs.length];exact LC _ _ _ _ e2,Nr ts ds xs Y _ Z Q x rs e2 k⟩
 |_=>cases e
theorem Ni{body:Ad AC}{fbd:Rho->O}{g:TG}(hp:Dx (model X.prog X.w) X.A X.env X.xe)(hc:X.calm=Ab)(hGT:GT X.K CL as g)(hg:PG X tg g)(hit:SI X CL W tg iter fi)(hb:SSs X CL W body fbd)(hs : ∀ x,B1 iter X.env x=pure x)(hax : ∀ d Y x,as d Y ≠ .exn x):SS X CL W (.For tg iter body [] pos) (λY=>O.of Y (fi Y) λxs=>Fa (λx Y'=>O.of Y' (as x Y') fbd) xs Y):=λFz B pI s Z H D I ⟨Y,x,p⟩=>by
 refine Vp hp hc (hit (Bm B Y Z)) hg (tb:=λD Z H => ∃ Fy,(λD Z H => ∃ Y,Sx X.K CL Fy B Y Z H/\BA X.K CL Fy B W (fbd Y) D) D Z H) (λpI s Z H D I ⟨Fy,q⟩=>hb Fy B pI s Z H D I q) hs pI s Z H D I ⟨x.aok,Y,x.good,BA.exI x p λds J H1 _ s1 y _ x1 q => ?_⟩
 let Fy:Ai->HO->Prop:=λb o=>H1 b=Aa o /\ ¬ ∃(j:Ae)(d:Ov.D),Y[j]? = Aa (Aa (d,Ab))/\Z[j]? = Aa (Aa (.ref b))
 have hfy : ∀ b o,Fz b o->Fy b o:=λb o z=>⟨x1.same b o z,λ⟨j,d,h1,h2⟩=>(x1.new j d b h1 h2).1 o z⟩
 have xy:Sx X.K CL Fy B Y Z H1:=⟨x1.good,x1.aok,λj d a h1 h2=>⟨λo z=>z.2 ⟨j,d,h1,h2⟩,(x1.new j d a h1 h2).2⟩,x1.dis,λb o z=>z.1,x1.len⟩
 refine⟨λk m Z' H'=>m=ds.length-k/\k<=ds.length /\ ∃ Y',Sx X.K CL Fy B Y' Z' H'/\BA X.K CL Fz B W (Fa (λx Y'=>O.of Y' (as x Y') fbd) (ds.drop k) Y') D,⟨ds.length,by simp,DP _,Y,xy,q⟩,?_⟩
 rintro k m Z' H' ⟨rfl,hk,Y',x',q'⟩;have kp:Kp (Bm B Y Z) H1 H':=λb o e na=>x'.same b o ⟨e,λz=>na (.inr z)⟩
 obtain⟨yst,ygo⟩:=y H' kp k;by_cases hlt:k<ds.length
 .have hd:ds[k]? = Aa ds[k]:=BQ hlt;obtain⟨hgo,hyl⟩:=ygo _ hd;refine .inr ⟨hgo,λZ'' H'' => ∃ Y'',Sx X.K CL Fy B Y'' Z'' H''/\BA X.K CL Fz B W (Fa (λx Y'=>O.of Y' (as x Y') fbd) (ds.drop (k+1)) Y'') D,λZ'' H'' z=>⟨ds.length-(k+1),by omega,rfl,hlt,z⟩,λv H2 hv => ?_⟩
  obtain⟨e2,rv⟩:=hyl v H2 hv;rw[O2 hlt]at q';have q2:BA X.K CL Fz B W ((O.of Y' (as ds[k] Y') fbd).turn (Fa (λx Y'=>O.of Y' (as x Y') fbd) (ds.drop (k+1)))) D:=q'
  have rv':Rep X.K CL H2 (Bm B Y' Z') v ds[k]:=rv _ (λa ha=>by
    rcases ha with ha|⟨j,d,h1,h2⟩
    .exact .inl (.inl ha)
    .cases e:H1 a with
     |none=>exact .inr rfl
     |some o=>
      by_cases ho : ∃(j:Ae)(d:Ov.D),Y[j]? = Aa (Aa (d,Ab))/\Z[j]? = Aa (Aa (.ref a))
      .exact .inl (.inr ho)
      .exact absurd ⟨e,ho⟩ ((x'.new j d a h1 h2).1 o)) x'.aok
  cases ea:as ds[k] Y' with
  |bad=>rw[ea]at q2;exact q2.elim
  |exn z=>exact absurd ea (hax _ _ z)
  |ok Y2=>
   rw[ea,O.of_ok]at q2;exact hGT Fy B Y' Z' H2 v ds[k] Y2 _ (x'.grow e2) rv' ea λZ3 x3=>⟨Fy,Y2,x3,BA.turn hfy q2 λY3 Z3 H3 x3 q3=>⟨Y3,x3,q3⟩⟩
 .have hk':ds.length<=k:=by omega
  rw[O3 hk']at q';exact .inl ⟨yst hk',q' Z' H' (x'.mono hfy)⟩
end
section
variable{X:Cx}{CL:ClA}{W:XW}{a b c:Ak}{fa fb fc:Rho->R D}{pos:Az}
noncomputable def tyK:Ki->An Ca
 |.int=>Aa "int"
 |.bool=>Aa "bool"
 |.str=>Aa "str"
 |.list=>Aa "list"
 |.tuple=>Aa "tuple"
 |_=>Af
noncomputable def Kl:D->Aj
 |.obj _ _=>Ac
 |.exc _ _=>Ac
 |.dic _=>Ac
 |_=>Ab
theorem Wn{Q:Ah->Am->Prop}{E:Ah->Am->Prop}(I:Inv X pI Z H s)(r:B3 X.K CL H A v d)(q:Bf v u)(hT:tyK k=Aa T)(hd:Kl d=Ab)(h : ∀ s',Inv X pI Z H s'->Q (.bool (kiD up k d)) s'):
  As (model X.prog X.w) X.A (call (.builtin "isinstance") [u,.type T]) Q E s:=by
 have r':=r.plain;have it:=λt=>h _ (I.tok t)
 cases d with
 |obj=>cases hd
 |exc=>cases hd
 |dic=>cases hd
 |non=>
  cases r';cases q;cases k <;> simp only[tyK]at hT <;> cases hT
  .exact IsiPair.NoneType_int (it _)
  .exact IsiPair.NoneType_bool (it _)
  .exact IsiPair.NoneType_str (it _)
  .exact IsiPair.NoneType_list (it _)
  .exact IsiPair.NoneType_tuple (it _)
 |bl b=>
  cases r';cases q;cases k <;> simp only[tyK]at hT <;> cases hT
  .exact IsiPair.bool_int (h _ I)
  .exact IsiPair.bool_bool (h _ I)
  .exact IsiPair.bool_str (it _)
  .exact IsiPair.bool_list (it _)
  .exact IsiPair.bool_tuple (it _)
 |int i=>
  cases r';obtain⟨t,rfl⟩:=q;cases k <;> simp only[tyK]at hT <;> cases hT
  .exact IsiPair.int_int (h _ I)
  .exact IsiPair.int_bool (it _)
  .exact IsiPair.int_str (it _)
  .exact IsiPair.int_list (it _)
  .exact IsiPair.int_tuple (it _)
 |str x=>
  cases r';obtain⟨t,rfl⟩:=q;cases k <;> simp only[tyK]at hT <;> cases hT
  .exact IsiPair.str_int (it _)
  .exact IsiPair.str_bool (it _)
  .exact IsiPair.str_str (h _ I)
  .exact IsiPair.str_list (it _)
  .exact IsiPair.str_tuple (it _)
 |tup ds=>
  obtain⟨p,xs,rfl,_,sq,rr⟩:=r';obtain⟨its,rv,pt,_⟩:=I.tuple sq;cases q;have pt':s.heap.IsTuple p its.toArray:=pt;cases k <;> simp only[tyK]at hT <;> cases hT
  .exact IsiPair.isTuple_int pt' (λ_ _ e=>e) (it _)
  .exact IsiPair.isTuple_bool pt' (λ_ _ e=>e) (it _)
  .exact IsiPair.isTuple_str pt' (λ_ _ e=>e) (it _)
  .exact IsiPair.isTuple_list pt' (λ_ _ e=>e) (it _)
  .exact IsiPair.isTuple_tuple pt' (λ_ _ e=>e) (h _ I)
 |lst ds=>
  obtain⟨p,xs,rfl,_,sq,rr⟩:=r';obtain⟨its,rv,pl,_⟩:=I.list sq;cases q;have pt':s.heap.IsList p its.toArray:=G3 pl;cases k <;> simp only[tyK]at hT <;> cases hT
  .exact IsiPair.isList_int pt' (λ_ _ e=>e) (it _)
  .exact IsiPair.isList_bool pt' (λ_ _ e=>e) (it _)
  .exact IsiPair.isList_str pt' (λ_ _ e=>e) (it _)
  .exact IsiPair.isList_list pt' (λ_ _ e=>e) (h _ I)
  .exact IsiPair.isList_tuple pt' (λ_ _ e=>e) (it _)
theorem Rc(hT:tyK k=Aa T)(p:AZ Rp W H (CM up [k] d) Q):Kl d=Ab/\AZ Rp W H (.ok (.bl (kiD up k d))) Q:=by
 cases k <;> simp only[tyK]at hT <;> cases hT <;> cases d <;> first|exact p.elim|exact⟨rfl,by simpa using p⟩
theorem Va{x:Ag}{p p2:Az}(hT:tyK k=Aa T)(hg:Gl X "isinstance")(hm:X.mg "isinstance" = Af)(hg2:Gl X x)(hm2:X.mg x=Af)(hv:B9 x=Aa (.type T))(hn:x ≠ "__name__")(hdb:(x==("__debug__" : Ag))=Ac)(ha:ST X CL W a fa)(he:Ap [a,.Name x p2] X.env=(Ac,eval a X.env)::Ap [.Name x p2] X.env):SE X CL W (.Call (.Name "isinstance" p) [a,.Name x p2] [] pos) (λY=>(fa Y).bind λx=>CM up [k] x):=λA=>
 PE.weak (Hm (r:=λxs H Q => ∃ y d,xs=[y,.ty T]/\B3 X.K CL H A y d/\Kl d=Ab/\Q (.bl (kiD up k d)) H) (λpI s Z H xs us Q I r ⟨y,d,e,ry,hd,q⟩=>by
   subst e;obtain⟨u,w',rfl,r1,r2⟩:=HH r;cases r2;exact Wn I ry r1 hT hd λs' I'=>⟨.bl _,H,I',rfl,q⟩)
  hg hm Ee (Dk (ha A) (Dk (MI (v := .ty T) hg2 hm2 hv rfl hn hdb) EH rfl) he) (by decide) (by decide) he rfl) λZ H Q ⟨hA,Y,g,q⟩=>⟨hA,Y,g,AZ.bind q λd v H1 _ s1 r1 p1=>by
   obtain⟨hd,p2⟩:=Rc hT p1;exact⟨v,d,rfl,r1,hd,p2 _ H1 (At.refl H1) rfl⟩⟩
theorem S3{b:Aj}{A':AN}{E:Ah->Am->Prop}{Q:Aj->Am->Prop}{prog:AE}{w:Ar}(r:Rep X.K CL H A v d)(q:Bf v u)(h:DN d = .ok b)(hq:Q b s):As (model prog w) A' (truthy u) Q E s:=by
 cases d with
 |non=>
  cases r;cases q;cases h;exact truthy_none hq
 |bl k=>
  cases r;cases q;cases h;exact B2 hq
 |int i=>
  cases r;obtain⟨t,rfl⟩:=q;cases h;exact truthy_int hq
 |_=>cases h
theorem LL : ∀{ds:Ad D}{b:Aj},Er ds = .ok b->(∀ j,j<ds.length -> ∃ c,DN (ds.getD j .non) = .ok c)/\b=(CT ds.length).all λj=>match DN (ds.getD j .non) with
  |.ok c=>c
  |_=>Ac
 |[],b,h=>by cases h;exact⟨λj hj=>absurd hj (Nat.not_lt_zero _),rfl⟩
 |d::ds,b,h=>by
  rw[LJ]at h;cases e:DN d with
  |bad=>rw[e]at h;cases h
  |exn x=>rw[e]at h;cases h
  |ok c=>
   rw[e,R.bind_ok]at h;cases e2:Er ds with
   |bad=>rw[e2]at h;cases h
   |exn x=>rw[e2]at h;cases h
   |ok c2=>
    rw[e2,R.bind_ok]at h;cases h;obtain⟨h1,h2⟩:=LL e2;refine⟨λj hj => ?_,?_⟩
    .cases j with
     |zero=>exact⟨c,e⟩
     |succ j=>exact h1 j (by simpa using hj)
    .rw[A9,LA,h2];show (c&&_)=((match DN d with | .ok c=>c|_=>Ac)&&_)
     rw[e];rfl
theorem UX(r:Reps X.K CL H A0 xs ds)(rv:AR xs its){v:Ah}(h:its.toArray[j]? = Aa v):j<ds.length /\ ∃ x,Rep X.K CL H A0 x (ds.getD j .non)/\Bf x v:=by
 have h':its[j]? = Aa v:=by simpa using h
 obtain⟨hj,e⟩:=A4.mp h';obtain⟨x,rx,q⟩:=Gx r rv hj;have l1:=rv.length;have l2:=r.length
 exact⟨by omega,x,rx,by rw[<-e];exact q⟩
theorem WZ{o:AD}(k : ∀ b q,b ∉ [h.objs.size]->(h.push o).get? b=Aa q->h'.get? b=Aa q) : ∀ b q,h.get? b=Aa q->h'.get? b=Aa q:=λb q e=>k b q (by
 intro z;have:=Bp.mp z;rw[this]at e;exact absurd (AA e) (Bc _)) (Ax _ e)
theorem Wq(hc:X.calm=Ab):HL X CL W (.builtin "all") (biD .all):=by
  intro A pI s Z H xs us Q I r ⟨hA,ds,rs,p⟩
  match ds,rs,p with
  |[.lst es],rs,p=>
    obtain⟨v,rfl,rv⟩:=rs.one;obtain⟨q,ys,e,_,sq,ry⟩:=rv.plain;subst e;obtain⟨u,rfl,ru⟩:=GA r;cases ru;rw[Yc]at p;cases e1:Er es with
    |bad=>rw[e1]at p;exact p.elim
    |exn x=>
      exfalso
      have : ∀(es:Ad D) x,Er es ≠ .exn x:=by
        intro es
        induction es with
        |nil=>intro x h;cases h
        |cons d ds ih=>
          intro x h;rw[LJ]at h;cases e:DN d with
          |bad=>rw[e]at h;cases h
          |exn y=>cases d <;> cases e
          |ok c=>
            rw[e,R.bind_ok]at h;cases e2:Er ds with
            |bad=>rw[e2]at h;cases h
            |exn y=>exact ih y e2
            |ok c2=>rw[e2]at h;cases h
      exact this es x e1
    |ok b=>
      rw[e1,R.bind_ok]at p;obtain⟨h1,h2⟩:=LL e1;obtain⟨its,rvv,pl,_⟩:=I.list sq;have hlt:q<s.heap.objs.size:=by obtain⟨o,n,e,_⟩:=pl;exact AA e
      have hl:its.toArray.size=es.length:=by rw[A3,<-rvv.length,ry.length]
      refine call_all_walk (QP (G3 pl) ⟨s.heap.objs.size,_,_,_,_,_,(λj=>match DN (es.getD j .non) with | .ok c=>c|_=>Ac),rfl,Walks.list (A:=X.A.in1) (I.ok.hd hc) s.heap.objs.size q (Bs hlt) its.toArray,⟨⟨_,Bv _ rfl,rfl,rfl⟩,(G3 pl).push _⟩,λj v s' Q' E' hv hQ => ?_,λh' tk k => ?_⟩)
      · obtain⟨hj,x,rx,qx⟩:=UX ry rvv hv;obtain⟨c,ec⟩:=h1 j hj;exact S3 rx qx ec (by dsimp only at hQ;rw[ec]at hQ;exact hQ)
      · rw[hl,<-h2];exact⟨.bl b,H,I.kept (WZ k),rfl,p _ H (At.refl H) rfl⟩
  |[],_,p=>exact p.elim
  |[.non],_,p=>exact p.elim
  |[.bl _],_,p=>exact p.elim
  |[.int _],_,p=>exact p.elim
  |[.str _],_,p=>exact p.elim
  |[.tup _],_,p=>exact p.elim
  |[.obj _ _],_,p=>exact p.elim
  |[.exc _ _],_,p=>exact p.elim
  |[.dic _],_,p=>exact p.elim
  |x::_::_,_,p=>cases x <;> exact p.elim
end
section
variable(K:Fg)(CL:ClA)
noncomputable def Yd(H0:Hp)(A:Ai->Prop)(H:Hp)(v:V)(d:D):Prop := ∀ ds,d = .lst ds -> ∃ a xs,v = .ref a/\H0 a=Af/\H a=Aa (.lst xs)/\Reps K CL H (λb=>A b\/b=a) xs ds
noncomputable def CO(fr:Aj)(H0:Hp)(A:Ai->Prop)(H:Hp)(v:V)(d:D):Prop:=Rep K CL H A v d/\(fr=Ab->Yd K CL H0 A H v d)
end
section
variable{X:Cx}{CL:ClA}{W:XW}{a b c:Ak}{fa fb fc:Rho->R D}{pos:Az}
noncomputable def SC(X:Cx)(CL:ClA)(W:XW)(fr:Aj)(e:Ak)(f:Rho->R D):Prop := ∀ A,PE X e (λZ H Q=>AOk H A /\ ∃ Y,Good X.K CL A Y Z H/\AZ (CO X.K CL fr H A) W H (f Y) Q)
theorem SC.se{fr:Aj}(h:SC X CL W fr a fa):SE X CL W a fa:=λA=>PE.weak (h A) λZ H Q ⟨hA,Y,g,p⟩=>⟨hA,Y,g,by
 cases e:fa Y with
 |ok d=>rw[e]at p;exact λv H' s r=>p v H' s r.1
 |exn x=>rw[e]at p;exact p
 | bad=>rw[e]at p;exact p⟩
theorem SE.sc(h:SE X CL W a fa):SC X CL W Ac a fa:=λA=>PE.weak (h A) λZ H Q ⟨hA,Y,g,p⟩=>⟨hA,Y,g,by
 cases e:fa Y with
 |ok d=>rw[e]at p;exact λv H' s r=>p v H' s ⟨r,λz=>nomatch z⟩
 |exn x=>rw[e]at p;exact p
 | bad=>rw[e]at p;exact p⟩
theorem SC.congr{fr:Aj}{f g:Rho->R D}(h:SC X CL W fr a f)(e : ∀ Y,g Y=f Y):SC X CL W fr a g:=λA=>PE.weak (h A) λZ H Q ⟨hA,Y,q,p⟩=>⟨hA,Y,q,by rw[<-e];exact p⟩
theorem Ht(s:At H0 H)(hA:AOk H A)(hp:H p=Af)(r:Reps K CL H A xs ds):CO K CL Ab H0 A (upd H p (.lst xs)) (.ref p) (.lst ds):=
 ⟨MN hA hp r,λ_ ds' e=>by
  cases e;exact⟨p,xs,rfl,s.free hp,CY,(Reps.wide (λa ha=>ha.imp id λe=>by rw[e];exact hp) _ r).same (Ep hp _)⟩⟩
theorem T7{fr:Aj}(r:Rep K CL H A v d)(h : ∀ ds,d ≠ .lst ds):CO K CL fr H0 A H v d:=⟨r,λ_ ds e=>absurd e (h ds)⟩
theorem Kt(hs:SA X CL W es fs)(hz : ∀ Y ds,fs Y = .ok ds->ds.length<=100000):SC X CL W Ab (.List es pos) (λY=>(fs Y).bind λxs => .ok (.lst xs)):=
 λA=>PE.weak (U_1 (hs A)) λZ H Q ⟨hA,Y,g,p⟩=>⟨hA,Y,g,E7.bind p λds vs H1 e s1 r1 p1=>⟨by
  rw[r1.length,BX];have:=hz Y ds e;omega,λq hq=>p1 _ _ (Ep hq _) (Ht s1 (hA.same s1) hq r1)⟩⟩
theorem AZ.bindF{fr:Aj}{f:D->R D}{Q':VK}(h:AZ (CO K CL fr H A) W H (r.bind f) Q)(k : ∀ d v H',r = .ok d->At H H'->Rp H' v d->AZ (CO K CL fr H A) W H' (f d) Q->Q' v H'):AZ Rp W H r Q':=by
 cases r with
 |ok d=>exact λv H2 s2 q=>k d v H2 rfl s2 q (AZ.same s2 h)
 |exn x=>exact h
 |bad=>exact h
theorem E7.bindF{Rp:Hp->Ad V->Ad D->Prop}{r:R (Ad D)}{f:Ad D->R D}{Q':Ad V->Hp->Prop}(h:AZ Rq W H (r.bind f) Q)(k : ∀ d v H',r = .ok d->At H H'->Rp H' v d->AZ Rq W H' (f d) Q->Q' v H'):E7 Rp W H r Q':=by
 cases r with
 |ok d=>exact λv H2 s2 q=>k d v H2 rfl s2 q (AZ.same s2 h)
 |exn x=>exact h
 |bad=>exact h
theorem HK.bindF{r:R (An Ao)}{f:An Ao->R D}(h:AZ Rq W H (r.bind f) Q)(k : ∀ o H',r = .ok o->At H H'->AZ Rq W H' (f o) Q->Q' o H'):HK W H r Q':=by
 cases r with
 |ok d=>exact λH2 s2=>k d H2 rfl s2 (AZ.same s2 h)
 |exn x=>exact h
 |bad=>exact h
noncomputable def OpN(X:Cx)(CL:ClA)(W:XW)(f:Ah->Ah->ED Ah)(g:D->D->R D):Prop:=
 ∀ A H0,OpR X f (λx y H Q=>At H0 H/\AOk H A /\ ∃ dx dy,B3 X.K CL H A x dx/\B3 X.K CL H A y dy/\AZ (CO X.K CL Ab H0 A) W H (g dx dy) Q)
theorem TC:OpN X CL W (Bz .Add) (Cp .Add):=by
 intro A H0 pI s Z H x y v u Q I rx ry ⟨s0,hA,dx,dy,hx,hy,p⟩;have key:(∀ ds,dx ≠ .lst ds)->EP X pI Z Q=EP X pI Z Q->As (model X.prog X.w) X.A (Bz .Add v u) (EP X pI Z Q) X.xe s:=λhd _=>by
  refine MJ (W:=W) A pI s Z H x y v u Q I rx ry ⟨hA,dx,dy,hx,hy,?_⟩;cases e:Cp .Add dx dy with
  |bad=>rw[e]at p;exact p
  |exn x=>rw[e]at p;exact p
  |ok d=>
   rw[e]at p;refine λv' H' s' r'=>p v' H' s' (T7 r' λds z => ?_)
   subst z;cases dx with
   |lst ds=>exact hd _ rfl
   |tup xs=>
    cases dy with
    |tup ys=>rw[NE]at e;split at e <;> cases e
    |_=>cases e
   |str xs=>
    cases dy with
    |str ys=>rw[NF]at e;split at e <;> cases e
    |_=>cases e
   |int i=>cases dy <;> cases e
   |_=>cases e
 cases dx with
 |lst ds=>
  cases dy with
  |lst es=>
   obtain⟨a,xs,rfl,s1,r1⟩:=hx.lst_of;obtain⟨b,ys,rfl,s2,r2⟩:=hy.lst_of;simp only[NG]at p;split at p
   .rename_i h;refine MK pI s Z H _ _ v u Q I rx ry ⟨a,b,xs,ys,rfl,rfl,s1,s2,by rw[r1.length,r2.length];exact Gn h,λq hq => ?_⟩
    exact p _ _ (Ep hq _) (Ht s0 hA hq (r1.append r2))
   .exact p.elim
  |_=>exact p.elim
 |_=>exact key (by intro _ z;cases z) rfl
theorem VI(ha:ST X CL W a fa)(hb:ST X CL W b fb):SC X CL W Ab (.BinOp a .Add b pos) (λY=>(fa Y).bind λx=>(fb Y).bind λy=>Cp .Add x y):=
 λA pI s Z H Q I h=>by
  obtain⟨hA,Y,g,p⟩:=h;exact NO (TC (W:=W) A H) (ha A) (hb A) pI s Z H Q I ⟨hA,Y,g,AZ.bindF p λdx x H1 _ s1 r1 p1=>⟨hA.same s1,Y,g.same s1,AZ.bind (Rq:=CO X.K CL Ab H A) p1 λdy y H2 _ s2 r2 p2=>⟨s1.trans s2,(hA.same s1).same s2,dx,dy,r1.same s2,r2,p2⟩⟩⟩
noncomputable def N8(X:Cx)(CL:ClA)(W:XW)(f:Ah)(g:Ad D->R D):Prop := ∀ A H0,Ga X f (λxs H Q=>At H0 H/\AOk H A /\ ∃ ds,Et X.K CL H A xs ds/\AZ (CO X.K CL Ab H0 A) W H (g ds) Q)
theorem UT:N8 X CL W (.type "list") (biD .list):=by
  intro A H0 pI s Z H xs us Q I r ⟨s0,hA,ds,rs,p⟩
  match ds,rs,p with
  |[.lst es],rs,p=>
    obtain⟨v,rfl,rv⟩:=rs.one;obtain⟨q,ys,rfl,sq,ry⟩:=rv.lst_of;exact Lw pI s Z H _ us Q I r ⟨q,ys,rfl,.inl sq,λl hl=>p _ _ (Ep hl _) (Ht s0 hA hl ry)⟩
  |[.tup es],rs,p=>
    obtain⟨v,rfl,rv⟩:=rs.one;obtain⟨q,ys,rfl,_,sq,ry⟩:=rv.tup_of;exact Lw pI s Z H _ us Q I r ⟨q,ys,rfl,.inr sq,λl hl=>p _ _ (Ep hl _) (Ht s0 hA hl ry)⟩
  |[],_,p=>exact p.elim
  |[.non],_,p=>exact p.elim
  |[.bl _],_,p=>exact p.elim
  |[.int _],_,p=>exact p.elim
  |[.str _],_,p=>exact p.elim
  |[.obj _ _],_,p=>exact p.elim
  |[.exc _ _],_,p=>exact p.elim
  |[.dic _],_,p=>exact p.elim
  |x::_::_,_,p=>cases x <;> exact p.elim
theorem VH{x:Ag}{p:Az}{g:Ad D->R D}(hc:N8 X CL W (.type T) g)(hg:Gl X x)(hm:X.mg x=Af)(hv:B9 x=Aa (.type T))(ha:SAT X CL W (e::es) fs)(hn:x ≠ "__name__")(hdb:(x==("__debug__" : Ag))=Ac)(he:Ap (e::es) X.env=(Ac,eval e X.env)::Ap es X.env)(hpl : ∀ pos,(Bk pos (Ap es X.env)).any (·.1)=Ac):SC X CL W Ab (.Call (.Name x p) (e::es) [] pos) (λY=>(fs Y).bind g):=λA pI s Z H Q I ⟨hA,Y,gd,q⟩=>
 L7 (hc A H) hg hm hv (ha A) hn hdb he (hpl _) pI s Z H Q I ⟨hA,Y,gd,E7.bindF q λds vs H1 _ s1 r1 p1=>⟨s1,hA.same s1,ds,r1,p1⟩⟩
mutual
theorem KG{K:Fg}{H:Hp}{A:Ai->Prop}(hA:AOk H A) : ∀(n:Ae)(d:D){v:V},nlD n d=Ab->Rep K CL H A0 v d->Rep K CL H A v d
 |_,.non,_,_,h=>h
 |_,.bl _,_,_,h=>h
 |_,.int _,_,_,h=>h
 |_,.str _,_,_,h=>h
 |0,.tup _,_,hn,_=>by cases hn
 |n+1,.tup ds,_,hn,h=>by
  obtain⟨a,xs,e,_,s,r⟩:=h;refine⟨a,xs,e,?_,s,nls_up hA n ds hn r⟩;rcases s with s|s
  .refine .inl λz => ?_
   obtain⟨ys,q⟩:=hA a z;rcases s with s|⟨o,s⟩ <;> rw[q]at s <;> cases s
  .exact .inr s
 |n,.lst _,_,hn,_=>by cases n <;> cases hn
 |n,.obj _ _,_,hn,_=>by cases n <;> cases hn
 |n,.exc _ _,_,hn,_=>by cases n <;> cases hn
 |n,.dic _,_,hn,_=>by cases n <;> cases hn
theorem nls_up{K:Fg}{H:Hp}{A:Ai->Prop}(hA:AOk H A) : ∀(n:Ae)(ds:Ad D){vs:Ad V},ds.all (nlD n)=Ab->Reps K CL H A0 vs ds->Reps K CL H A vs ds
 |_,[],[],_,h=>h
 |n,d::ds,_::_,hn,h=>by
  simp only[DR,Al]at hn;exact⟨KG hA n d hn.1 h.1,nls_up hA n ds hn.2 h.2⟩
 |_,[],_::_,_,h=>h.elim
 |_,_::_,[],_,h=>h.elim
end
theorem Ny{fr:Aj}(hA0:AOk H0 A)(s:At H0 H)(hc:Eu fr d=Ab)(r:CO K CL fr H0 A0 H v d):CO K CL fr H0 A H v d:=by
 have hA:=hA0.same s;cases d with
 |lst ds=>
  have hc':(fr&&ds.all (nlD 5))=Ab:=hc;rw[Al]at hc';obtain⟨a,xs,e,h0,h1,rs⟩:=r.2 hc'.1 ds rfl;have hA2:AOk H (λb=>A b\/b=a):=λb hb=>hb.elim (hA b) λe=>by rw[e];exact⟨xs,h1⟩
  have rs':=nls_up hA2 5 ds hc'.2 (Reps.sub (λ_ z=>z.elim) _ rs)
  refine⟨⟨a,xs,e,.inl (hA0.new h0),SqL.of h1,Reps.sub (λ_ z => .inl z) _ rs'⟩,λ_ ds' e' => ?_⟩
  cases e';exact⟨a,xs,e,h0,h1,rs'⟩
 |_=>exact⟨KG hA 5 _ hc r.1,λ_ _ z=>nomatch z⟩
noncomputable def spD(K:Fg)(CL:ClA)(n:Ae)(fr:Aj)(F:Ad D->R D):Sp:=λvs H Q E => ∃(ds:Ad D)(A:Ai->Prop),vs.length=n/\AOk H A/\Reps K CL H A vs ds/\(match F ds with
  |.ok d => ∀ v H',At H H'->CO K CL fr H A H' v d->Q v H'
  |.exn x => ∀ cls dx H',At H H'->D1 K CL H' cls dx x->E cls dx H'
  | .bad=>AT)
noncomputable def EKW(K:Fg)(CL:ClA)(A:Ai->Prop)(W:XW):XK:=λcls dx H' => ∃ x,D1 K CL H' cls dx x/\W x H'
theorem Et.plain{K:Fg}{H:Hp}{A:Ai->Prop} : ∀{vs:Ad V}{ds:Ad D},Et K CL H A vs ds->Reps K CL H A0 vs ds
 |[],[],h=>trivial
 |_::_,_::_,h=>⟨h.1.plain,Et.plain h.2⟩
 |[],_::_,h=>h.elim
 |_::_,[],h=>h.elim
theorem SR{CX:CXT}{k:Ae}{fr:Aj}{f:Ai}{fd:Bn}{ps:Ad Ag}{F:Ad D->R D}{x:Ag}{p:Az}{ft:Rho->R (Ad D)}{sh:Rho->Aj}(G:FnOk X.prog X.w X.K X.mg X.base CX k f fd ps (spD X.K CL n fr F))(hr:Room k X.A)(hg:Gl X x)(hm:X.mg x=Aa (.ref f))(hk:Be X.K (.ref f)=Ab)(hb:Ej X.K fd ps [])(hx : ∀ A,G4 CX X (EKW X.K CL A W))(ha:SA X CL W (e::es) fs)(hat:SAT X CL W (e::es) ft)(hst : ∀ Y,sh Y=Ab->ft Y=fs Y)(hn : ∀ Y ds,ft Y = .ok ds->ds.length=n)(hdb:(x==("__debug__" : Ag))=Ac)(he:Ap (e::es) X.env=(Ac,eval e X.env)::Ap es X.env)(hpl : ∀ pos,(Bk pos (Ap es X.env)).any (·.1)=Ac):SC X CL W fr (.Call (.Name x p) (e::es) [] pos) (λY=>(ft Y).bind λds=>(F ds).bind λd=>if sh Y=Ab then .ok d else if Eu fr d=Ab then .ok d else .bad):=λA pI s Z H Q I ⟨hA,Y,gd,q⟩=>by
 dsimp only at q;by_cases hs:sh Y=Ab
 .rw[hst Y hs]at q;refine MH G hr hg hm hk hb .nil (hx A) (ha A) hdb he (hpl _) pI s Z H Q I ⟨hA,Y,gd,?_⟩;cases e1:fs Y with
  |bad=>rw[e1]at q;exact q
  |exn y=>rw[e1]at q;exact q
  |ok ds=>
   rw[e1]at q;intro vs H1 s1 r1;refine⟨ds,A,by rw[B4,r1.length];exact hn Y ds (by rw[hst Y hs];exact e1),hA.same s1,by rw[B4];exact r1,?_⟩
   have q':AZ (CO X.K CL fr H A) W H ((F ds).bind λd=>if sh Y=Ab then .ok d else if Eu fr d=Ab then .ok d else .bad) Q:=q
   cases e2:F ds with
   |ok d=>
    rw[e2,R.bind_ok,AX hs]at q';exact λv H2 s2 r2=>q' v H2 (s1.trans s2) ⟨r2.1,λz ds' e'=>let ⟨a,xs,z1,z2,z3⟩:=r2.2 z ds' e';⟨a,xs,z1,s1.free z2,z3⟩⟩
   |exn y=>rw[e2]at q';exact λcls dx H2 s2 xr=>⟨y,xr,q' H2 (s1.trans s2)⟩
   |bad=>rw[e2]at q';exact q'.elim
 .refine MH G hr hg hm hk hb .nil (hx A0) (hat A) hdb he (hpl _) pI s Z H Q I ⟨hA,Y,gd,?_⟩;cases e1:ft Y with
  |bad=>rw[e1]at q;exact q
  |exn y=>rw[e1]at q;exact q
  |ok ds=>
   rw[e1]at q;intro vs H1 s1 r1;refine⟨ds,A0,by rw[B4,r1.plain.length];exact hn Y ds e1,λ_ z=>z.elim,by rw[B4];exact r1.plain,?_⟩
   have q':AZ (CO X.K CL fr H A) W H ((F ds).bind λd=>if sh Y=Ab then .ok d else if Eu fr d=Ab then .ok d else .bad) Q:=q
   cases e2:F ds with
   |ok d=>
    rw[e2,R.bind_ok,A8 hs]at q';split at q'
    .rename_i hc;exact λv H2 s2 r2=>q' v H2 (s1.trans s2) (Ny hA (s1.trans s2) hc ⟨r2.1,λz ds' e'=>let ⟨a,xs,z1,z2,z3⟩:=r2.2 z ds' e';⟨a,xs,z1,s1.free z2,z3⟩⟩)
    .exact q'.elim
   |exn y=>rw[e2]at q';exact λcls dx H2 s2 xr=>⟨y,xr,q' H2 (s1.trans s2)⟩
   |bad=>rw[e2]at q';exact q'.elim
end
theorem Jr(env:BF) : ∀(ns:Ad (Ag × CJ))(acc:Ad (Ag × Ai)),(∀ x∈ns,x.2 = .free -> ∃ c,env.cells.lookup x.1=Aa c)->(∀ x c,acc.lookup x=Aa c->env.cells.lookup x=Aa c) ->
  ∃ cl,(forIn ns acc fun(x:Ag × CJ)(cs:Ad (Ag × Ai))=>(if (x.2==.free)=Ab then do let c <-cellOf env x.1;pure (CS ((x.1,c)::cs)) else pure (CS cs):ED (ForInStep (Ad (Ag × Ai)))))=pure cl /\
   (∀ x c,cl.lookup x=Aa c->env.cells.lookup x=Aa c)/\(∀ x,((x,Cy)∈ns \/ ∃ c,acc.lookup x=Aa c) -> ∃ c,cl.lookup x=Aa c)
 |[],acc,_,h2=>⟨acc,by rw[O4],h2,λx hx=>hx.elim (λz=>nomatch z) id⟩
 |(n,k)::r,acc,h1,h2=>by
  rw[List.forIn_cons];by_cases hk:k = .free
  .subst hk;obtain⟨c,hc⟩:=h1 (n,.free) AU rfl;obtain⟨cl,e,p,q⟩:=Jr env r ((n,c)::acc) (λx hx=>h1 x (AG _ hx)) (λx d hd=>by
    rw[BD]at hd;split at hd
    .rename_i hx;cases hd;rw[eq_of_beq hx];exact hc
    .exact h2 x d hd)
   refine⟨cl,?_,p,λx hx=>q x ?_⟩
   .have e1:cellOf env n=pure c:=by unfold cellOf;dsimp only at hc;rw[hc]
    rw[AX (by rfl),e1]
    exact e
   .rcases hx with hx|⟨d,hd⟩
    .rcases AS.mp hx with z|z
     .cases z;exact .inr ⟨c,by simp[BD]⟩
     .exact .inl z
    .by_cases hxn:x=n
     .exact .inr ⟨c,by subst hxn;simp[BD]⟩
     .exact .inr ⟨d,by rw[BD];rw[Do.mpr hxn];exact hd⟩
  .obtain⟨cl,e,p,q⟩:=Jr env r acc (λx hx=>h1 x (AG _ hx)) h2
   refine⟨cl,?_,p,λx hx=>q x ?_⟩
   .rw[A8 (by simpa using hk)]
    exact e
   .rcases hx with hx|hx
    .rcases AS.mp hx with z|z
     .cases z;exact absurd rfl hk
     .exact .inl z
    .exact .inr hx
theorem LI(h : ∀ x∈scope.names,x.2 = .free -> ∃ c,env.cells.lookup x.1=Aa c):∃ cl,closureFor scope env=pure cl/\(∀ x c,cl.lookup x=Aa c->env.cells.lookup x=Aa c)/\∀ x,(x,Cy)∈scope.names->∃ c,cl.lookup x=Aa c:=by
 obtain⟨cl,e,p,q⟩:=Jr env scope.names [] h (λx c z=>by simp at z)
 refine⟨cl,?_,p,λx hx=>q x (.inl hx)⟩
 unfold closureFor
 first
  |exact e
  |(simp only[bind_pure];exact e)
  |(rw[show (forIn scope.names ([]:Ad (Ag × Ai)) _:ED _)=pure cl from e];rfl)
theorem JQ :∀(names:Ad (Ag × CJ))(h:Ay)(acc:Ad (Ag × Ai))(x:Ag)(c:Ai),(B5 h.objs.size names acc).lookup x=Aa c->acc.lookup x=Aa c\/((x,Bl)∈names/\h.objs.size<=c/\(EB h names).IsCell c Af)
 |[],_,_,_,_,e => .inl e
 |(n,k)::r,h,acc,x,c,e=>by
  unfold B5 at e;unfold EB;by_cases hk:(k==Bl)=Ab
  .rw[AX hk]at e ⊢;have hs:h.objs.size+1=(h.push { cls := .type "cell",data := .cell Af }).objs.size:=(DF ..).symm;rw[hs]at e;rcases JQ r _ _ x c e with q|⟨q1,q2,q3⟩
   .rw[BD]at q;cases hx:x==n with
    |true=>
     rw[hx]at q;cases q;refine .inr ⟨?_,AW _,?_⟩
     .rw[eq_of_beq hx,eq_of_beq hk];exact AU
     .exact⟨_,Ff r _ _ _ (Bv _ rfl),rfl⟩
    |false=>rw[hx]at q;exact .inl q
   .exact .inr ⟨AG _ q1,by omega,q3⟩
  .rw[A8 hk]at e ⊢;rcases JQ r h acc x c e with q|⟨q1,q2,q3⟩
   .exact .inl q
   .exact .inr ⟨AG _ q1,q2,q3⟩
theorem JR :∀(names:Ad (Ag × CJ))(h:Ay)(acc:Ad (Ag × Ai)),(∀ x y c,acc.lookup x=Aa c->acc.lookup y=Aa c->x=y)->(∀ x c,acc.lookup x=Aa c->c<h.objs.size)->∀ x y c,(B5 h.objs.size names acc).lookup x=Aa c->(B5 h.objs.size names acc).lookup y=Aa c->x=y
 |[],_,_,i,_,x,y,c,e1,e2=>i x y c e1 e2
 |(n,k)::r,h,acc,i,b,x,y,c,e1,e2=>by
  unfold B5 at e1 e2;by_cases hk:(k==Bl)=Ab
  .rw[AX hk]at e1 e2;have hs:h.objs.size+1=(h.push { cls := .type "cell",data := .cell Af }).objs.size:=(DF ..).symm;rw[hs]at e1 e2;have look : ∀ z d,CH z ((n,h.objs.size)::acc)=Aa d->(z=n/\d=h.objs.size)\/(z≠n/\acc.lookup z=Aa d):=λz d q=>by
    rw[BD]at q;cases hx:z==n with
    |true=>rw[hx]at q;cases q;exact .inl ⟨eq_of_beq hx,rfl⟩
    |false=>rw[hx]at q;exact .inr ⟨λe=>by rw[e]at hx;simp at hx,q⟩
   refine JR r _ _ (λz z' d q q' => ?_) (λz d q => ?_) x y c e1 e2
   .rcases look z d q with ⟨rfl,q1⟩|⟨_,q1⟩ <;> rcases look z' d q' with ⟨rfl,q2⟩|⟨_,q2⟩
    .rfl
    .exact absurd (b _ _ q2) (by rw[q1];exact Bc _)
    .exact absurd (b _ _ q1) (by rw[q2];exact Bc _)
    .exact i _ _ _ q1 q2
   .rw[<-hs];rcases look z d q with ⟨_,q1⟩|⟨_,q1⟩
    .rw[q1];exact Ph _
    .exact EM (b _ _ q1)
  .rw[A8 hk]at e1 e2;exact JR r h acc i b x y c e1 e2
theorem Js : ∀(names:Ad (Ag × CJ))(n:Ae)(acc:Ad (Ag × Ai))(x:Ag),(x,Bl) ∉ names->(B5 n names acc).lookup x=acc.lookup x
 |[],_,_,_,_=>rfl
 |(m,k)::r,n,acc,x,hx=>by
  unfold B5;have hr:(x,Bl) ∉ r:=λz=>hx (AG _ z)
  by_cases hk:(k==Bl)=Ab
  .rw[AX hk,Js r _ _ x hr,BD];cases q:x==m with
   |true=>exact absurd (by rw[eq_of_beq q,eq_of_beq hk];exact AU) hx
   |false=>rfl
  .rw[A8 hk];exact Js r n acc x hr
theorem JS(n0:Ae) : ∀(names:Ad (Ag × CJ))(n:Ae)(acc:Ad (Ag × Ai))(x:Ag),n0<=n->((x,Bl)∈names \/ ∃ c,acc.lookup x=Aa c/\n0<=c) -> ∃ c,(B5 n names acc).lookup x=Aa c/\n0<=c
 |[],_,_,_,_,h=>h.elim (λz=>nomatch z) id
 |(m,k)::r,n,acc,x,hn,h=>by
  unfold B5;by_cases hk:(k==Bl)=Ab
  .rw[AX hk];refine JS n0 r _ _ x (by omega) ?_
   by_cases hx:(x==m)=Ab
   .exact .inr ⟨n,by rw[BD,hx],hn⟩
   .rcases h with h|⟨c,h,hc⟩
    .rcases AS.mp h with z|z
     .cases z;simp at hx
     .exact .inl z
    .exact .inr ⟨c,by rw[BD];simp only[hx];exact h,hc⟩
  .rw[A8 hk];refine JS n0 r _ _ x hn (h.imp (λh => ?_) id)
   rcases AS.mp h with z|z
   .cases z;simp at hk
   .exact z
theorem QQ{M:Ev}{A:AN}{E:Ah->Am->Prop}{globals:Ai}{qual:Ag}{Q:BF->Am->Prop}(hQ:Q (newEnv scope s.heap.objs.size globals (B5 (s.heap.objs.size+1) scope.names cl) qual Af .none (Aa env) FG) { s with heap:=EB (s.heap.push { cls := .type "dict",data := .dict #[] }) scope.names }):As M A (FA scope globals cl [] qual Af .none (Aa env)) Q E s:=by
 simp only[FA,Option.isSome_some,ET];refine Au (wpAny_alloc ?_);refine Au (wpAny_layCells _ (λname kind cells=>by cases hkc:kind==Bl <;> simp[hkc]) _ _ _ _ ?_)
 rw[show ({ s with heap:=s.heap.push { cls := .type "dict",data := .dict #[] } }:Am).heap.objs.size=s.heap.objs.size+1 from DF ..]
 rw[O4];exact Au (Bo (Bo hQ))
noncomputable def cxC(X:Cx)(scope:By)(cl:Ad (Ag × Ai))(C:Ai)(N':Ad Ag)(s₀:Am)(H₀:Hp)(fp:Ad Ai):Cx where
 prog:=X.prog
 w:=X.w
 K:=X.K
 mg:=X.mg
 base:=X.base
 A:=X.A
 N:=N'
 s₀:=s₀
 H₀:=H₀
 env:=compEnvC scope cl C X.env
 outer:=X.stack
 stack:=X.stack
 ex:=fp
 fn:=λx=>scope.names.lookup x==Aa Bl
 calm:=X.calm
 pn:=[]
 xe:=λ_ _=>AT
theorem Ia{env:BF} :∀{names:Ad (Ag × CJ)}{x:Ag}{k:CJ},(names.map λ(n,k)=>if (k==Cy&&env.scope.kind==.function&&env.kindOf n==Aa .cell) then (n,Bl) else (n,k)).lookup x=Aa k->names.lookup x=Aa k\/(k = .cell/\names.lookup x=Aa .free)
 |[],_,_,h=>by simp at h
 |(n,j)::r,x,k,h=>by
  have ih := @Ia env r x k;have h':CH x ((if (j==Cy&&env.scope.kind==.function&&env.kindOf n==Aa .cell)=Ab then (n,Bl) else (n,j))::(r.map λ(n,k)=>if (k==Cy&&env.scope.kind==.function&&env.kindOf n==Aa .cell) then (n,Bl) else (n,k)))=Aa k:=h
  by_cases hc:(j==Cy&&env.scope.kind==.function&&env.kindOf n==Aa .cell)=Ab
  .rw[AX hc]at h';rw[BD]at h' ⊢;cases hx:x==n with
   |true=>
    rw[hx]at h';cases h';simp only[Al]at hc;exact .inr ⟨rfl,by rw[eq_of_beq hc.1.1]⟩
   |false=>rw[hx]at h';exact ih h'
  .rw[A8 hc]at h';rw[BD]at h' ⊢;cases hx:x==n with
   |true=>rw[hx]at h';exact .inl h'
   |false=>rw[hx]at h';exact ih h'
structure BlockOk (X:Cx) (scope:By) (N':Ad Ag) (ts:Ad Ae):Prop where
 kind:scope.kind = .function
 uniq : ∀ y∈scope.names,scope.names.lookup y.1=Aa y.2
 names : ∀ y∈scope.names,y.2 = .local->scope.names.lookup y.1=Aa .local
 free : ∀ y∈scope.names,y.2 = .free->X.env.scope.names.lookup y.1=Aa .cell\/X.env.scope.names.lookup y.1=Aa .free
 len:N'.length=X.N.length
 same : ∀ i x,N'[i]? = Aa x->scope.names.lookup x=Aa .free->i ∉ ts->X.N[i]? = Aa x
 loc : ∀ i x,N'[i]? = Aa x->(scope.names.lookup x=Aa .local\/scope.names.lookup x=Aa .cell)->i∈ts
structure BCells (X:Cx) (scope:By) (cl:Ad (Ag × Ai)) (C:Ai) (h:Ay):Prop where
 own : ∀ x c,cl.lookup x=Aa c->X.env.cells.lookup x=Aa c\/(scope.names.lookup x=Aa .cell/\C<c/\h.IsCell c Af)
 inj : ∀ x y c,cl.lookup x=Aa c->cl.lookup y=Aa c->x=y
 has : ∀ x,scope.names.lookup x=Aa .cell -> ∃ c,cl.lookup x=Aa c/\C<c
 fr : ∀ x,(x,Cy)∈scope.names -> ∃ c,cl.lookup x=Aa c/\X.env.cells.lookup x=Aa c
section
variable{X:Cx}{pI:Ad (Ai × AD)}{Z:L2.St}{H:Hp}{s:Am}
noncomputable def hideT(ts:Ad Ae)(Z:L2.St):L2.St:=ts.foldl (λZ t=>Z.set t Af) Z
theorem JL : ∀(ts:Ad Ae)(Z:L2.St),(hideT ts Z).length=Z.length
 |[],_=>rfl
 |t::ts,Z=>by show (hideT ts (Z.set t Af)).length=_;rw[JL ts,A1]
theorem LM : ∀(ts:Ad Ae)(Z:L2.St){i:Ae}{v:V},(hideT ts Z)[i]? = Aa (Aa v)->Z[i]? = Aa (Aa v)/\i ∉ ts
 |[],_,_,_,h=>⟨h,by simp⟩
 |t::ts,Z,i,v,h=>by
  obtain⟨h1,h2⟩:=LM ts (Z.set t Af) (i:=i) (v:=v) h;by_cases e:t=i
  .subst e;have:=Eo h1;cases this
  .rw[BG e]at h1;exact⟨h1,by simp only[AS,HX];exact⟨λz=>e z.symm,h2⟩⟩
theorem Rb{tk:Ae}{C:Ai}{m:Ag->An Ah}(I:Inv X pI Z H s)(B:BlockOk X scope N' ts)(hf : ∀ b∈fp,Fq X pI H b)(hfo : ∀ b∈fp,b<s.heap.objs.size)(hb:BCells X scope cl C h')(hk : ∀ b o,s.heap.get? b=Aa o->h'.get? b=Aa o)(hC:s.heap.objs.size<=C)(hn:h'.Ns C m):Inv (cxC X scope cl C N' s H fp) [] (hideT ts Z) H {s with heap:=h',toks:=tk}:=by
 have stf : ∀ b∈fp,b ∉ frs X.stack:=λb hb z=>by
  rcases AS.mp (I.stkSub b z) with e|e
  .exact(hf b hb).2.1 e
  .exact(hf b hb).2.2.1 e
 have frOf : ∀ x,((relabel scope X.env).names.lookup x=Aa .cell\/(relabel scope X.env).names.lookup x=Aa .free)->scope.names.lookup x=Aa .free\/scope.names.lookup x=Aa .cell:=λx hx=>by
  rcases hx with z|z
  .rcases Ia z with z|⟨_,z⟩
   .exact .inr z
   .exact .inl z
  .rcases Ia z with z|⟨z,_⟩
   .exact .inl z
   .cases z
 have gtC : ∀ c:Ai,C<c->s.heap.objs.size<=c:=λc z=>BR hC (Ed z)
 have cellK : ∀ c v,s.heap.IsCell c v->h'.IsCell c v:=λc v ⟨o,ho,hd⟩=>⟨o,hk _ _ ho,hd⟩
 refine⟨⟨I.ok.mod,B.kind,I.ok.glob,I.ok.blt,hC,hb.inj,λx hx => ?_,λx c h e => ?_,I.ok.hd,I.ok.frames,.inl rfl,λb hbb=>⟨?_,λx c e => ?_⟩,I.bs,BR I.ok.bsz I.sz,λb o e hbb => ?_,stf,I.stack,I.stkFree⟩,rfl,I.bare,Un.kept hk,⟨m,hn,λi x v h1 h2 h3 => ?_⟩,λx c e => ?_,I.hok.fresh hC,λx c e=>(hb.own x c e).elim (I.freeC x c) (λz=>I.hok.fresh (gtC c z.2.1)),λp hp=>absurd (show p∈([]:Ad (Ai × AD)) from hp) (by simp),I.hok.kept hk,?_⟩
 .rcases frOf x hx with z|z
  .obtain⟨c,q,_⟩:=hb.fr x (BN z);exact⟨c,q⟩
  .obtain⟨c,q,_⟩:=hb.has x z;exact⟨c,q⟩
 .obtain⟨c',q,z⟩:=hb.has x (eq_of_beq h);have e':cl.lookup x=Aa c:=e;rw[q]at e';cases e';exact gtC _ z
 .intro z;have z':b=C:=z;have:=hfo b hbb;rw[z']at this;exact absurd (AF this hC) (Bc _)
 .rcases hb.own x c e with z|z
  .exact(hf b hbb).2.2.2.2.1 x c z
  .intro q;have:=hfo b hbb;have:=gtC c z.2.1;rw[q]at this;exact absurd ‹b<_› (Pk.mpr this)
 .rcases (hf b hbb).2.2.2.1 with z|z
  .exact I.ok.noex b o e z
  .exact absurd (AF (AA e) (BR I.ok.bsz z)) (Bc _)
 .obtain⟨h2,hts⟩:=LM ts Z h2;have h3':(relabel scope X.env).names.lookup x=Aa .local\/(relabel scope X.env).names.lookup x=Aa .cell\/(relabel scope X.env).names.lookup x=Aa .free:=h3;have h1':N'[i]? = Aa x:=h1;rcases h3' with z|z
  .rcases Ia z with z|⟨z,_⟩
   .exact absurd (B.loc i x h1' (.inl z)) hts
   .cases z
  .have fr:=(frOf x z).resolve_right λq=>hts (B.loc i x h1' (.inr q))
   have hm:=BN fr;have hX:=B.same i x h1' fr hts;obtain⟨m0,hn0,hl0⟩:=I.loc;obtain⟨u,ru,lk⟩:=hl0 i x v hX h2 (by
    rcases B.free _ hm rfl with q|q
    .exact .inr (.inl q)
    .exact .inr (.inr q))
   refine⟨u,ru,?_⟩;obtain⟨c,hc,hcX⟩:=hb.fr x hm;rcases lk with ⟨q,_⟩|⟨_,c',hc',hcell⟩
   .have q':X.env.scope.names.lookup x=Aa .local:=q;rcases B.free _ hm rfl with p|p
    .rw[show X.env.scope.names.lookup x=_ from p]at q';cases q'
    .rw[show X.env.scope.names.lookup x=_ from p]at q';cases q'
   .have e:=hcX;rw[hc']at e;cases e;exact .inr ⟨z,c,hc,cellK _ _ hcell⟩
 .rcases hb.own x c e with z|z
  .obtain⟨v,q⟩:=I.cell x c z;exact⟨v,cellK _ _ q⟩
  .exact⟨_,z.2.2⟩
 .show (hideT ts Z).length=N'.length;rw[JL,I.len,B.len]
theorem LR{C D:Ai}{s':Am}{Z':L2.St}{pins':Ad (Ai × AD)}{h'':Ay}(I:Inv X pI Z H s)(hf : ∀ b∈fp,Fq X pI H b)(I':Inv (cxC X scope cl C N' s H fp) pins' Z' H' s')(hD:s.heap.objs.size<=D)(hDC:D≠C)(hC:s.heap.objs.size<=C)(hd:s'.heap.get? D=Aa { cls := .type "list",data := .seq ys.toArray n })(hDn:H' D=Af)(rv:AR xs ys)(hz:xs.length<=sizeLine)(hs:EZ C s'.heap h''):Inv X pI Z (upd H' D (.lst xs)) {s' with heap:=h''}:=by
 have u:Un (frs X.stack) fp H H' s.heap s'.heap:=I'.base;have lt : ∀ b o,s.heap.get? b=Aa o->b≠C/\b≠D:=λb o e=>⟨λz=>absurd (AF (AA e) (z ▸ hC)) (Bc _),λz=>absurd (AF (AA e) (z ▸ hD)) (Bc _)⟩
 have HD:H D=Af:=I.hok.fresh hD;have hCn:H' C=Af:=I'.free;have kb : ∀ b o,b≠C->s'.heap.get? b=Aa o->h''.get? b=Aa o:=λb o hb e=>(hs.2 b hb).trans e
 have u2:Un (frs X.stack) fp H (upd H' D (.lst xs)) s.heap h'':=⟨λb o e q hb hx=>kb b o (lt b o e).1 (u.keep b o e q hb hx),λb o e q hb hx=>by
   obtain⟨sl,e1⟩:=u.slot b o e q hb hx;exact⟨sl,kb b _ (lt b o e).1 e1⟩,λb o e q hx=>by rw[Ba (lt b o e).2];exact u.free b o e q hx,λb o e hx=>by
   obtain⟨o',e1⟩:=u.there b o e hx;exact⟨o',kb b _ (lt b o e).1 e1⟩,λb zs q=>by rw[Ba (DK q HD)];exact u.tups b zs q,λb o zs q=>by rw[Ba (DK q HD)];exact u.frzs b o zs q,λb ps q=>by rw[Ba (DK q HD)];exact u.tbls b ps q⟩
 have hok:HOk X.prog X.w (upd H' D (.lst xs)) h'':=λb o e=>by
  by_cases hb:b=D
  .subst hb;rw[CY]at e;cases e;exact⟨hz,ys,n,rv,kb _ _ hDC hd⟩
  .rw[Ba hb]at e;refine(I'.hok b o e).stay (λc v hc q=>kb c v ?_ q) (λc q=>by rw[Ba (DK q hDn)];exact q) λc zs q=>by rw[Ba (DK q hDn)];exact q
   rcases hc with rfl|hc
   .exact DK e hCn
   .exact DK hc hCn
 exact I.call' (s' := {s' with heap:=h''}) (ch:=fp) I'.os u2 hok I'.bare λb hb=>⟨(hf b hb).2.2.2.1,(hf b hb).2.1,(hf b hb).2.2.2.2.1,(hf b hb).2.2.2.2.2⟩
end
noncomputable def PTs(X:Cx)(ifs:Ad Ak)(tt:TT):Prop := ∀(pI:Ad (Ai × AD))(s:Am)(Z:L2.St)(H:Hp)(Q:Aj->Hp->Prop),Inv X pI Z H s->tt Z H Q ->
 As (model X.prog X.w) X.A (forIn ifs Ab λc r=>if r=Ab then do let ok <-Fx c X.env (eval c X.env);pure (CS ok) else pure (CS r)) (TP X pI Z Q) X.xe s
theorem Ui:PTs X [] (λZ H Q=>Q Ab H):=λpI s Z H Q I h=>wpAny_tests_nil ⟨H,I,h⟩
theorem Uh(h:PT X c t):PTs X [c] t:=λpI s Z H Q I q=>wpAny_tests_one (h pI s Z H Q I q)
theorem Q2{D:Ai}{y:Ah}{E:Ah->Am->Prop}{Q:Ah->Am->Prop}(I:Inv X ((D,{ cls := .type "list",data := .seq ys.toArray n })::pI) Z H s)(hD:X.s₀.heap.objs.size<=D)(hp : ∀ p∈X.pn++pI,p.1≠D)(hc : ∀ x c,X.env.cells.lookup x=Aa c->c≠D)(hz:ys.length<=sizeLine)(h : ∀ s',Inv X ((D,{ cls := .type "list",data := .seq (ys++[y]).toArray (n+1) })::pI) Z H s'->(∀ b o,b≠D->s.heap.get? b=Aa o->s'.heap.get? b=Aa o)->Q .none s'):As (model X.prog X.w) X.A (call (.builtin "list.append") [.ref D,y]) Q E s:=by
 obtain⟨e,hn,hL,hfs,_⟩:=I.pin (D,{ cls := .type "list",data := .seq ys.toArray n }) (A6 _ AU);refine append_at (hsz:=by rw[A3];exact hz) e λh' hs hd => ?_
 have hd':h'.get? D=Aa { cls := .type "list",data := .seq (ys++[y]).toArray (n+1) }:=by rw[hd];simp
 have kb : ∀ b o,b≠D->s.heap.get? b=Aa o->h'.get? b=Aa o:=λb o hb q=>(hs.2 b hb).trans q
 have I0:Inv X pI Z H s:=I.pins_of λp hp=>I.pin p (A6 _ (AG _ hp))
 have I1:Inv X pI Z H {s with heap:=h'}:=I0.turned (t':=s.toks) kb hn hL (.inr hD) hc hp
 refine h _ (I1.pins_of λp hp => ?_) kb
 rcases AS.mp hp with rfl|hp
 .exact⟨hd',hn,hL,hfs,λv z=>by
   have z':Hf _ _=Hb v:=z;cases z'⟩
 .exact I1.pin p (A6 _ hp)
section
variable{prog:AE}{w:Ar}{A:AN}{R:Fv->Am->Prop}{s:Am}
theorem Ra{target:Ak}{it acc:Ah}(I:Ae->Am->Prop)(turn : ∀ n s,I n s->As (model prog w) A (pyNext it) (λr s₁=>match r with
      |none=>R (.ok .next) s₁
      | some v=>As (model prog w) A (Eg target it v) (λ_ s₁'=>As (model prog w) A (assign target env v) (λ_ s₂=>
          As (model prog w) A (forIn ifs Ab λc r=>if r=Ab then do let ok <-Fx c env (eval c env);pure (CS ok) else pure (CS r)) (λok s₃=>
            if ok=Ab then As (model prog w) A (eval elt env) (λx s₄=>
              As (model prog w) A (call (.builtin "list.append") [acc,x]) (λ_ s₅ => ∃ m,m<n/\I m s₅) (FB (model prog w) A env λe s'=>R (.error e) s') s₄) (FB (model prog w) A env λe s'=>R (.error e) s') s₃
            else ∃ m,m<n/\I m s₃) (FB (model prog w) A env λe s'=>R (.error e) s') s₂) (FB (model prog w) A env λe s'=>R (.error e) s') s₁') (FB (model prog w) A env λe s'=>R (.error e) s') s₁) (FB (model prog w) A env λe s'=>R (.error e) s') s)(n:Ae)(h:I n s):DG (model prog w) A (.compLoop (.ListComp elt [⟨target,iter,ifs,0⟩] scope pos) 0 it acc env) R s:=by
  refine codeAny_loop rfl I (λn s hI => ?_) n h
  show As _ A ((compTurn (.ListComp elt [⟨target,iter,ifs,0⟩] scope pos) 0 it acc env).onRaise (λx=>do EA x env;theTreesLotGoes x)) _ _ s
  refine wpAny_noted ?_;rw[compTurn_list];refine Au (De (Au (A2 (turn n s hI) (λr s₁ h₁ => ?_) λ_ _ h'=>h')))
  cases r with
  |none=>exact Bo h₁
  |some v=>
    refine Au (A2 h₁ (λ_ s₁' h₁' => ?_) λ_ _ h'=>h')
    refine Au (A2 h₁' (λ_ s₂ h₂=>Au (A2 h₂ (λok s₃ h₃ => ?_) λ_ _ h'=>h')) λ_ _ h'=>h')
    cases ok with
    |false=>exact Bo ⟨rfl,h₃⟩
    |true=>
      exact Au (Au (A2 h₃ (λx s₄ h₄=>Au (A2 h₄ (λ_ s₅ h₅=>Bo (Bo ⟨rfl,h₅⟩)) λ_ _ h'=>h')) λ_ _ h'=>h'))
end
noncomputable def Hs(J:It)(ts:Ad Ae)(g:TG)(tt:TT)(te:TE)(Z:L2.St)(H:Hp)(Q:VK):Prop := ∃ W:Ae->Ae->Ad V->L2.St->Hp->Prop,(∃ m,W 0 m [] (hideT ts Z) H) /\ ∀ i m xs Z H,W i m xs Z H ->
 (J.stop i H /\ ∀ p,H p=Af->Q (.ref p) (upd H p (.lst xs))) \/
 (J.go i H/\xs.length<sizeLine /\ ∀ x H',J.yld i H x H'->g x Z H' λZ2 H2=>tt Z2 H2 λb H3=>if b=Ab then te Z2 H3 λy H4 => ∃ m',m'<m/\W (i+1) m' (xs++[y]) Z2 H4 else ∃ m',m'<m/\W (i+1) m' xs Z2 H3)
theorem Mm{g:TG}{it:Ai}{tn:Ae->Ay->Prop}{E:Ah->Am->Prop}{RR:Ah->Ai->Fv->Am->Prop}(hc:X.calm=Ab)(B:BlockOk X scope N' ts)(I:Inv X pI Z H s)(T:Turn X.prog X.w X.K tg J fp it tn)(st:tn 0 s.heap)(hf : ∀ b∈fp,Fq X pI H b)(hcl : ∀ x c,cl.lookup x=Aa c->X.env.cells.lookup x=Aa c)(hcl2 : ∀ x,(x,Cy)∈scope.names -> ∃ c,cl.lookup x=Aa c)(hg : ∀ cl C s H,PG (cxC X scope cl C N' s H fp) tg g)(ht : ∀ cl C s H,PTs (cxC X scope cl C N' s H fp) ifs tt)(he : ∀ cl C s H,PE (cxC X scope cl C N' s H fp) elt te)(h:Hs J ts g tt te Z H Q)(hRR : ∀ cl D C s' H' Z' pins' xs ys n m,Inv (cxC X scope cl C N' s H fp) pins' Z' H' s'->s'.heap.get? D=Aa { cls := .type "list",data := .seq (Dv ys) n }->H' D=Af->AR xs ys->xs.length<=sizeLine->s.heap.objs.size<=D->D≠C->s.heap.objs.size<=C->s'.heap.Ns C m->Q (.ref D) (upd H' D (.lst xs))->RR (.ref D) C (.ok .next) s'):As (model X.prog X.w) X.A (newList []) (λacc s₃=>As (model X.prog X.w) X.A (FA scope X.env.globals cl [] X.env.qual Af .none (Aa X.env)) (λcenv s₄=>DG (model X.prog X.w) X.A (.compStart (.ListComp elt [⟨tg,iter,ifs,0⟩] scope pos) 0 (.ref it) acc {cenv with scope:=relabel scope X.env}) (RR acc cenv.locals) s₄) E s₃) E s:=by
 refine QO (QQ ?_);dsimp only;generalize hH2:s.heap.push { cls := .type "list",dict:=Af,data := .seq ([]:Ad Ah).toArray }=H2;have hns₁:(EB (H2.push { cls := .type "dict",data := .dict #[] }) scope.names).Ns H2.objs.size (λ_=>Af):=(Heap.Ns.new H2 (.type "dict")).keeps (Ff _ _)
 have hkp₁ : ∀ b o,H2.get? b=Aa o->(EB (H2.push { cls := .type "dict",data := .dict #[] }) scope.names).get? b=Aa o:=λb o e=>Ff _ _ b o (Ax _ e)
 have hown:=JQ scope.names (H2.push { cls := .type "dict",data := .dict #[] }) cl;have hinj:=JR scope.names (H2.push { cls := .type "dict",data := .dict #[] }) cl;rw[DF]at hown hinj;generalize hcl':B5 (H2.objs.size+1) scope.names cl=cl' at hown hinj;have hcf : ∀ x,(x,Bl) ∉ scope.names->cl'.lookup x=cl.lookup x:=λx hx=>by rw[<-hcl'];exact Js _ _ _ x hx
 have hch : ∀ x,(x,Bl)∈scope.names -> ∃ c,cl'.lookup x=Aa c/\H2.objs.size+1<=c:=λx hx=>by rw[<-hcl'];exact JS _ _ _ _ x (AW _) (.inl hx)
 generalize hh₁:EB (H2.push { cls := .type "dict",data := .dict #[] }) scope.names=h₁ at hns₁ hkp₁ hown;have hC:H2.objs.size=s.heap.objs.size+1:=by rw[<-hH2,DF]
 have hCle:s.heap.objs.size<=H2.objs.size:=by rw[hC];exact Pe _
 have hDC:s.heap.objs.size≠H2.objs.size:=by rw[hC];exact Bs (Ph _)
 have below : ∀ b,b<s.heap.objs.size->b≠H2.objs.size:=λb hb=>by rw[hC];exact Bs (EM hb)
 have old : ∀ b o,s.heap.get? b=Aa o->h₁.get? b=Aa o:=λb o e=>hkp₁ b o (hH2 ▸ Ax _ e)
 have hacc:h₁.get? s.heap.objs.size=Aa { cls := .type "list",data := .seq ([]:Ad Ah).toArray 0 }:=hkp₁ _ _ (hH2 ▸ Bv _ rfl);have clt : ∀ x c,cl.lookup x=Aa c->c<s.heap.objs.size:=λx c e=>by
  obtain⟨v,q⟩:=I.cell x c (hcl x c e);exact q.lt
 have bc:BCells X scope cl' H2.objs.size h₁:=by
  refine⟨λx c e => ?_,hinj (λx y c e1 e2=>I.ok.inj x y c (hcl x c e1) (hcl y c e2)) (λx c e=>EM (AF (clt x c e) hCle)),λx hx => ?_,λx hx => ?_⟩
  .rcases hown x c e with q|⟨q1,q2,q3⟩
   .exact .inl (hcl x c q)
   .exact .inr ⟨B.uniq _ q1,q2,q3⟩
  .have hm:=BN hx;obtain⟨c,e,hc⟩:=hch x hm;exact⟨c,e,hc⟩
  .have hno:(x,Bl) ∉ scope.names:=λz=>by
    have e1:=B.uniq _ hx;have e2:=B.uniq _ z;rw[show scope.names.lookup x=_ from e1]at e2
    cases e2
   obtain⟨c,e⟩:=hcl2 x hx;exact⟨c,by rw[hcf x hno];exact e,hcl x c e⟩
 have hfo : ∀ b∈fp,b<s.heap.objs.size:=λb hb=>by
  obtain⟨o,e,_⟩:=T.obj 0 _ st b hb;exact AA e
 generalize hD:s.heap.objs.size=D at *;generalize hC':H2.objs.size=C at *;have I0:Inv (cxC X scope cl' C N' s H fp) [] (hideT ts Z) H {s with heap:=h₁,toks:=s.toks+([]:Ad (Ag × Ah)).length}:=Rb (tk:=s.toks+([]:Ad (Ag × Ah)).length) I B hf (λb hb=>by rw[hD];exact hfo b hb) bc old (by rw[hD];exact hCle) hns₁
 have nD:H D=Af:=I.hok.fresh (by rw[hD];exact AW _)
 have noD : ∀ b∈fp,b≠D:=λb hb=>Bs (hfo b hb)
 have noC : ∀ b∈fp,b≠C:=λb hb=>below b (hfo b hb)
 have stfs:D ∉ frs X.stack:=λz=>by
  obtain⟨_,o,ho,_⟩:=I.stack.mem z;exact absurd (AA ho) (by rw[hD];exact Bc _)
 have cD : ∀ x c,cl'.lookup x=Aa c->c≠D:=λx c e z=>by
  rcases bc.own x c e with q|⟨_,q,_⟩
  .obtain⟨v,q⟩:=I.cell x c q;exact absurd q.lt (by rw[z,hD];exact Bc _)
  .rw[z]at q;exact absurd (AF q hCle) (Bc _)
 have I1:Inv (cxC X scope cl' C N' s H fp) [(D,{ cls := .type "list",data := .seq ([]:Ad Ah).toArray 0 })] (hideT ts Z) H {s with heap:=h₁,toks:=s.toks+([]:Ad (Ag × Ah)).length}:=I0.pins_of λp hp=>by
  have e:=Bp.mp hp;subst e;exact⟨hacc,nD,hDC,stfs,λv z=>by
   have z':Hf _ _=Hb v:=z;cases z'⟩
 have st1:tn 0 h₁:=T.keep _ _ _ st λb _ o e=>old b o e
 obtain⟨W,⟨m0,w0⟩,turn⟩:=h;have fpk : ∀{pl:Ad (Ai × AD)}{H':Hp},(∀ p∈pl,p.1=D)->(∀ b∈fp,H' b=Af) -> ∀ b∈fp,Fq (cxC X scope cl' C N' s H fp) pl H' b:=λ{pl H'} hp hn b hb=>
  ⟨hn b hb,noC b hb,λz=>by
   rcases AS.mp (I.stkSub b z) with e|e
   .exact(hf b hb).2.1 e
   .exact(hf b hb).2.2.1 e,.inl hb,λx c e=>(bc.own x c e).elim ((hf b hb).2.2.2.2.1 x c) (λz q=>absurd (Ey hCle z.2.1) (Pk.mpr (by rw[q];exact Ed (hfo b hb)))),λp hp'=>by
   have hp2:p∈pl:=hp';rw[hp p hp2];exact(noD b hb).symm⟩
 have loop : ∀ s₃:Am,s₃ = {s with heap:=h₁,toks:=s.toks+([]:Ad (Ag × Ah)).length} ->
   DG (model X.prog X.w) X.A (.compLoop (.ListComp elt [⟨tg,iter,ifs,0⟩] scope pos) 0 (.ref it) (.ref D) (compEnvC scope cl' C X.env)) (RR (.ref D) C) s₃:=by
  rintro s₃ rfl;refine Ra (λk s' => ∃ i Z' H' xs ys n,Inv (cxC X scope cl' C N' s H fp) [(D,{ cls := .type "list",data := .seq (Dv ys) n })] Z' H' s'/\tn i s'.heap/\(∀ b∈fp,H' b=Af)/\AR xs ys/\xs.length<=sizeLine/\W i k xs Z' H') ?_ m0
   ⟨0,_,H,[],[],0,I1,st1,λb hb=>(hf b hb).1,.nil,DP _,w0⟩
  rintro k s' ⟨i,Z',H',xs,ys,n,I',st',fr',rv,hz,w'⟩;have one : ∀ p∈[((D,{ cls := .type "list",data := .seq (Dv ys) n }):Ai × AD)],p.1=D:=λp hp=>by rw[Bp.mp hp]
  rcases turn i k xs Z' H' w' with ⟨stop,q⟩|⟨go,hlt,step⟩
  .refine A2 (T.done (cxC X scope cl' C N' s H fp) rfl rfl rfl hc i _ s' Z' H' (λ_ _=>AT) I' (fpk one fr') st' stop) (λr s1 ⟨hr,J1⟩ => ?_) λ_ _ f=>f.elim
   subst hr;obtain⟨e,hn,_⟩:=J1.pin _ (A6 _ AU);obtain⟨m,hm,_⟩:=J1.loc;exact hRR cl' D C s1 H' Z' _ xs ys n m J1 e hn rv hz (AW _) hDC hCle hm (q D hn)
  .refine A2 (T.item (cxC X scope cl' C N' s H fp) rfl rfl rfl hc i _ s' Z' H' (λ_ _=>AT) I' (fpk one fr') st' go) (λr s1 ⟨u,hr,h4⟩ => ?_) λ_ _ f=>f.elim
   subst hr;refine A2 h4 (λ_ s5 ⟨x,H5,I5,r5,y5,st5,fr5⟩ => ?_) λ_ _ f=>f.elim
   have I5':=I5.pinned (fpk one fr5) (T.obj _ _ st5);refine A2 (hg cl' C s H _ s5 Z' H5 x u _ I5' r5 (step x H5 y5)) (λ_ s6 ⟨Z6,H6,I6,q6⟩ => ?_) λ_ _ f=>f.elim
   refine A2 (ht cl' C s H _ s6 Z6 H6 _ I6 q6) (λok s7 ⟨H7,I7,q7⟩ => ?_) λ_ _ f=>f.elim
   have again : ∀{s8:Am}{H8:Hp}{ys':Ad Ah}{n':Ae},Inv (cxC X scope cl' C N' s H fp) ((D,{ cls := .type "list",data := .seq (Dv ys') n' })::Gu fp s5.heap) Z6 H8 s8->Inv (cxC X scope cl' C N' s H fp) [(D,{ cls := .type "list",data := .seq (Dv ys') n' })] Z6 H8 s8/\tn (i+1) s8.heap /\ ∀ b∈fp,H8 b=Af:=λ{s8 H8 ys' n'} I8=>
    ⟨I8.pins_of λp hp=>I8.pin p (A6 _ (by rw[Bp.mp hp];exact AU)),T.keep _ _ _ st5 λb hb o e=>(I8.pin (b,o) (A6 _ (AG _ (Ij hb e)))).1,λb hb=>by
     obtain⟨o,e,d⟩:=T.obj _ _ st5 b hb;exact(I8.pin (b,o) (A6 _ (AG _ (Ij hb e)))).2.1⟩
   cases ok with
   |false=>
    rw[A8 (by decide)]at q7
    obtain⟨m',hm,w7⟩:=q7;obtain⟨a1,a2,a3⟩:=again I7;rw[A8 (by decide)]
    exact⟨m',hm,i+1,Z6,H7,xs,ys,n,a1,a2,a3,rv,hz,w7⟩
   |true=>
    rw[AX rfl]at q7;rw[AX rfl];refine A2 (he cl' C s H _ s7 Z6 H7 _ I7 q7) (λval s8 ⟨y,H8,I8,r8,m',hm,w8⟩ => ?_) λ_ _ f=>f.elim
    have hl:=rv.length;refine Q2 (X:=cxC X scope cl' C N' s H fp) (ys:=ys) (n:=n) (pI:=Gu fp s5.heap) I8 (by show s.heap.objs.size<=D;rw[hD];exact AW _) (λp hp => ?_) cD (by omega) λs9 I9 kb => ?_
    .have hp2:p∈Gu fp s5.heap:=hp;exact noD _ (L8 hp2).1
    .obtain⟨a1,a2,a3⟩:=again I9;exact⟨m',hm,i+1,Z6,H8,xs++[y],ys++[val],n+1,a1,a2,a3,rv.append (.cons r8 .nil),by rw[Cf];exact hlt,w8⟩
 exact codeAny_compStart_list (loop _ rfl) (T.self _ 0 _ _ _ st1 (loop _ rfl))
theorem Us{g:TG}(hc:X.calm=Ab)(B:BlockOk X scope N' ts)(hi:PI X tg iter wi)(hg : ∀ cl C s H fp,PG (cxC X scope cl C N' s H fp) tg g)(ht : ∀ cl C s H fp,PTs (cxC X scope cl C N' s H fp) ifs tt)(he : ∀ cl C s H fp,PE (cxC X scope cl C N' s H fp) elt te)(hs : ∀ x,B1 iter X.env x=pure x):PE X (.ListComp elt [⟨tg,iter,ifs,0⟩] scope pos) (λZ H Q=>wi Z H λJ H1=>Hs J ts g tt te Z H1 Q):=by
 intro pI s Z H Q I h;obtain⟨cl,hclos,hcl,hcl2⟩:=LI (scope:=scope) (env:=X.env) λx hx hk=>I.ok.has x.1 ((B.free x hx hk).imp id id)
 rw[eval_ListComp];refine QM (use:=Af) rfl hs hclos B.kind B.names (thn (hi pI s Z H _ I h) λv s1 h1=>thn h1 λitv s2 h2 => ?_)
 obtain⟨it,fp,tn,J,H2,e,I2,T,st2,f2,h3⟩:=h2;subst e;refine Mm (RR:=λacc C=>compPost (model X.prog X.w) X.A X.xe Af (EP X pI Z Q) acc C) hc B I2 T st2 f2 hcl hcl2 (λcl C s H=>hg cl C s H fp) (λcl C s H=>ht cl C s H fp) (λcl C s H=>he cl C s H fp) h3 λcl' D C s' H' Z' pins' xs ys n m I' hd hDn rv hz hD hDC hC hm q => ?_
 exact⟨m,hm,λh'' hs''=>⟨.ref D,_,LR I2 f2 I' hD hDC hC hd hDn rv hz hs'',rfl,q⟩⟩
theorem Um{n:Ag}{g:TG}(hc:X.calm=Ab)(B:BlockOk X scope N' ts)(hi:PI X tg iter wi)(hg : ∀ cl C s H fp,PG (cxC X scope cl C N' s H fp) tg g)(ht : ∀ cl C s H fp,PTs (cxC X scope cl C N' s H fp) ifs tt)(he : ∀ cl C s H fp,PE (cxC X scope cl C N' s H fp) elt te)(hs : ∀ x,B1 iter X.env x=pure x)(hN:X.N.Nodup)(hni:X.N[i]? = Aa n)(hx:X.env.scope.names.lookup n=Aa .local)(hsw:Ck (.ListComp elt [⟨tg,iter,ifs,0⟩] scope pos) (Aa (.Name n pos')) pos2.line X.env=pure Ab):PS X (.Assign [.Name n pos'] (.ListComp elt [⟨tg,iter,ifs,0⟩] scope pos) pos2) (K9 (λZ H Q=>wi Z H λJ H1=>Hs J ts g tt te Z H1 Q) (EK i)):=by
 intro pI s Z H Dn I h;obtain⟨cl,hclos,hcl,hcl2⟩:=LI (scope:=scope) (env:=X.env) λx hx hk=>I.ok.has x.1 ((B.free x hx hk).imp id id)
 rw[exec_Assign_Name_used _ _ _ _ hsw];refine Au (De (Au ?_));show As _ X.A (do let _ <-comprehension (.ListComp elt [⟨tg,iter,ifs,0⟩] scope pos) scope X.env _ (newList []) Ac (eval iter X.env) (Aa (assign (.Name n pos') X.env))) _ _ s
 refine Au (A2 (QM (use:=Aa (assign (.Name n pos') X.env)) (Q:=λ_ s'=>SP X pI Dn .next s') rfl hs hclos B.kind B.names
  (thn (hi pI s Z H _ I h) λv s1 h1=>thn h1 λitv s2 h2 => ?_)) (λ_ s' hq=>Bo (Bo hq)) λ_ _ e=>e)
 obtain⟨it,fp,tn,J,H2,e,I2,T,st2,f2,h3⟩:=h2;subst e;refine Mm (RR:=λacc C=>compPost (model X.prog X.w) X.A X.xe (Aa (assign (.Name n pos') X.env)) (λ_ s'=>SP X pI Dn .next s') acc C) hc B I2 T st2 f2 hcl hcl2 (λcl C s H=>hg cl C s H fp) (λcl C s H=>ht cl C s H fp) (λcl C s H=>he cl C s H fp) h3 λcl' D C s' H' Z' pins' xs ys n' m I' hd hDn rv hz hD hDC hC hm q => ?_
 have J0:Inv X pI Z (upd H' D (.lst xs)) s':=LR I2 f2 I' hD hDC hC hd hDn rv hz (Heap.SameBut.refl ..);refine QL (LZ J0 hN hni (.inl hx) (show Bf (.ref D) (.ref D) from rfl) (λs'' J1 ⟨a,sb,ha⟩ => ?_) (.inr hx))
 have hC0:X.s₀.heap.objs.size<=C:=BR I2.sz hC;have hL:C≠X.env.locals:=λz=>absurd (AF I2.lt (z ▸ hC)) (Bc _)
 have hcC : ∀ x c,X.env.cells.lookup x=Aa c->c≠C:=λx c e z=>by
  obtain⟨v,q'⟩:=I2.cell x c e;exact absurd (AF q'.lt (by rw[z];exact hC)) (Bc _)
 have hp : ∀ p∈X.pn++pI,p.1≠C:=λp hp z=>absurd (AF (AA (I2.pin p hp).1) (by rw[z];exact hC)) (Bc _)
 have hCn:upd H' D (.lst xs) C=Af:=by rw[Ba hDC.symm];exact I'.free
 have hCa:C≠a:=by
  rcases ha with rfl|ha
  .exact hL
  .exact λz=>hcC n a ha z.symm
 refine⟨m,hm.sameBut sb hCa,λh'' hs''=>⟨_,_,J1.turned (t':=s''.toks) (λb o hb e=>(hs''.2 b hb).trans e) hCn hL (.inr hC0) hcC hp,q⟩⟩
theorem JN : ∀(ts:Ad Ae)(Y:Rho)(j:Ae),(Ei ts Y)[j]? = if j∈ts then (Y[j]?).map (λ_=>Af) else Y[j]?
 |[],Y,j=>by simp[Ei]
 |t::ts,Y,j=>by
  show (Ei ts (Y.set t Af))[j]? = _;rw[JN ts];by_cases h1:j∈ts
  .rw[AX h1,AX (AG _ h1)];by_cases h2:t=j
   .subst h2;rw[DH];cases Y[t]? <;> rfl
   .rw[BG h2]
  .rw[A8 h1];by_cases h2:t=j
   .subst h2;rw[AX AU,DH];cases Y[t]? <;> rfl
   .rw[BG h2,A8 (by simp only[AS,HX];exact⟨λz=>h2 z.symm,h1⟩)]
theorem JM : ∀(ts:Ad Ae)(Y:Rho),(Ei ts Y).length=Y.length
 |[],_=>rfl
 |t::ts,Y=>by show (Ei ts (Y.set t Af)).length=_;rw[JM ts,A1]
theorem Jq : ∀(ts:Ad Ae)(Z:L2.St){i:Ae},i ∉ ts->(hideT ts Z)[i]? = Z[i]?
 |[],_,_,_=>rfl
 |t::ts,Z,i,h=>by
  simp only[AS,HX]at h;show (hideT ts (Z.set t Af))[i]? = _;rw[Jq ts _ h.2,BG (λz=>h.1 z.symm)]
section
variable{K:Fg}{CL:ClA}{A:Ai->Prop}{Y Y':Rho}{Z:L2.St}{H:Hp}
theorem Good.less(g:Good K CL A Y Z H)(hl:Y'.length=Y.length)(h : ∀(i:Ae)(d:D)(o:Aj),Y'[i]? = Aa (Aa (d,o))->Y[i]? = Aa (Aa (d,o))):Good K CL A Y' Z H:=⟨λi d e=>g.sh i d (h i d Ac e),λi d e=>g.ow i d (h i d Ab e),hl.trans g.len⟩
theorem Good.put(g:Good K CL A Y Z H)(t:Ae)(r:Rep K CL H A v d):Good K CL A (Y.set t (Aa (d,Ac))) (Z.set t (Aa v)) H:=by
 refine⟨λj e h => ?_,λj e h => ?_,by rw[A1,A1];exact g.len⟩
 .by_cases hj:t=j
  .subst hj;have e1:=Eo h;cases e1;have hl:t<Z.length:=by
    rw[<-g.len];have:=(A4.mp h).1;simpa using this
   exact⟨v,by rw[B7 hl],r⟩
  .rw[BG hj]at h;obtain⟨w',q,rw'⟩:=g.sh j e h;exact⟨w',by rw[BG hj];exact q,rw'⟩
 .have hj:t≠j:=by
   rintro rfl;have:=Eo h;cases this
  rw[BG hj]at h;obtain⟨a,xs,ds,q,z⟩:=g.ow j e h;exact⟨a,xs,ds,by rw[BG hj];exact q,z⟩
theorem Good.hide(g:Good K CL A Y Z H)(ts:Ad Ae):Good K CL A (Ei ts Y) Z H:=g.less (JM _ _) λi d o e=>by
 rw[JN]at e;split at e
 .cases q:Y[i]? with
  |none=>rw[q]at e;cases e
  |some x=>rw[q]at e;cases e
 .exact e
theorem Good.hideT(g:Good K CL A Y Z H)(ts:Ad Ae):Good K CL A (Ei ts Y) (hideT ts Z) H:=by
 have key : ∀ i x,(Ei ts Y)[i]? = Aa (Aa x)->Y[i]? = Aa (Aa x)/\i ∉ ts:=λi x e=>by
  rw[JN]at e;split at e
  .cases q:Y[i]? with
   |none=>rw[q]at e;cases e
   |some x=>rw[q]at e;cases e
  .exact⟨e,by assumption⟩
 refine⟨λi d e => ?_,λi d e => ?_,by rw[JM,JL];exact g.len⟩
 .obtain⟨e1,e2⟩:=key i _ e;obtain⟨v,q,r⟩:=g.sh i d e1;exact⟨v,by rw[Jq _ _ e2];exact q,r⟩
 .obtain⟨e1,e2⟩:=key i _ e;obtain⟨a,xs,ds,q,r⟩:=g.ow i d e1;exact⟨a,xs,ds,by rw[Jq _ _ e2];exact q,r⟩
end
noncomputable def GG(K:Fg)(CL:ClA)(ts:Ad Ae)(as:D->Rho->R Rho)(g:TG):Prop := ∀ A Y Z H v d Y' Q,Good K CL A (Ei ts Y) Z H->Rep K CL H A v d->as d Y = .ok Y'->(∀ Z',Good K CL A Y' Z' H->Good K CL A (Ei ts Y) Z' H->Q Z' H)->g v Z H Q
theorem UM(i:Ae):GG K CL [i] (λd Y => .ok (Y.set i (Aa (d,Ac)))) (EK i):=λA Y Z H v d Y' Q g r e k=>by
 cases e;have g2:=g.put i r;have e1:(Ei [i] Y).set i (Aa (d,Ac))=Y.set i (Aa (d,Ac)):=by
  show (Y.set i Af).set i (Aa (d,Ac))=_;rw[Pc]
 rw[e1]at g2;refine k _ g2 ?_;have:=g2.hide [i];have e2:Ei [i] (Y.set i (Aa (d,Ac)))=Ei [i] Y:=by
  show (Y.set i _).set i Af=Y.set i Af;rw[Pc]
 rw[e2]at this;exact this
noncomputable abbrev W0:XW:=λ_ _=>AT
noncomputable def STs(X:Cx)(CL:ClA)(ifs:Ad Ak)(f:Rho->R Aj):Prop := ∀ A,PTs X ifs (λZ H Q=>AOk H A /\ ∃ Y,Good X.K CL A Y Z H/\Cc W0 H (f Y) Q)
theorem Tf:STs X CL [] (λ_ => .ok Ab):=λA pI s Z H Q I ⟨hA,Y,g,p⟩=>Ui pI s Z H Q I (p H (At.refl H))
theorem Te(h:SB X CL W0 c f):STs X CL [c] f:=λA pI s Z H Q I q=>Uh (h A) pI s Z H Q I q
section
variable{X:Cx}{CL:ClA}{W:XW}{tg iter elt:Ak}{ifs:Ad Ak}{scope:By}{pos:Az}{N':Ad Ag}{ts:Ad Ae}{fi:Rho->R (Ad D)}{fc:Rho->R Aj}{fe:Rho->R D}{as:D->Rho->R Rho}{g:TG}
theorem QW{g:D->R Aj}{f:D->R D}{x:D}{xs ys:Ad D}(h:CP g f (x::xs) = .ok ys):(g x = .ok Ac/\CP g f xs = .ok ys) \/ ∃ y r,g x = .ok Ab/\f x = .ok y/\CP g f xs = .ok r/\ys=y::r:=by
 unfold CP at h;cases e:g x with
 |bad=>rw[e]at h;cases h
 |exn z=>rw[e]at h;cases h
 |ok b=>
  rw[e,R.bind_ok]at h;cases b with
  |false=>exact .inl ⟨rfl,h⟩
  |true=>
   rw[AX rfl]at h;cases e2:f x with
   |bad=>rw[e2]at h;cases h
   |exn z=>rw[e2]at h;cases h
   |ok y=>
    rw[e2,R.bind_ok]at h;cases e3:CP g f xs with
    |bad=>rw[e3]at h;cases h
    |exn z=>rw[e3]at h;cases h
    |ok r=>
     rw[e3,R.bind_ok]at h;cases h;exact .inr ⟨y,r,rfl,rfl,rfl,rfl⟩
theorem Gr{β:Type}{r:R α}{f:α->R β}{b:β}(h:r.bind f = .ok b) : ∃ a,r = .ok a/\f a = .ok b:=by
 cases r with
 |ok a=>exact⟨a,rfl,h⟩
 |exn x=>cases h
 |bad=>cases h
theorem R5{ys:Ad D}(hGG:GG K CL ts as g)(hA:AOk H1 A)(gd:Good K CL A Y Z H1)(yl:GE K CL A ds J H1)(hz:ds.length<=sizeLine)(hcp:CP (λx=>(as x Y).bind fc) (λx=>(as x Y).bind fe) ds = .ok ys)(q : ∀ xs H2,At H1 H2->Reps K CL H2 A xs ys -> ∀ p,H2 p=Af->Q (.ref p) (upd H2 p (.lst xs))):Hs J ts g (λZ H Q=>AOk H A/\∃ Y,Good K CL A Y Z H/\Cc W0 H (fc Y) Q) (λZ H Q=>AOk H A/\∃ Y,Good K CL A Y Z H/\AZ (λH=>Rep K CL H A) W0 H (fe Y) Q) Z H1 Q:=by
 refine⟨λi m xs Z' H'=>m=ds.length-i/\i<=ds.length/\xs.length<=i/\At H1 H'/\Good K CL A (Ei ts Y) Z' H' /\ ∃ outs Bi,Reps K CL H' A xs outs/\CP (λx=>(as x Y).bind fc) (λx=>(as x Y).bind fe) (ds.drop i) = .ok Bi/\ys=outs++Bi,
  ⟨ds.length,by simp,DP _,AW _,At.refl _,gd.hideT ts,[],ys,trivial,hcp,rfl⟩,?_⟩
 rintro i m xs Z' H' ⟨rfl,hi,hxl,sm,g',outs,Bi,rs,hc,e⟩;obtain⟨yst,ygo⟩:=yl H' (Kp.of sm) i;by_cases hlt:i<ds.length
 .have hd:ds[i]? = Aa ds[i]:=BQ hlt;obtain⟨hgo,hyl⟩:=ygo _ hd;refine .inr ⟨hgo,by omega,λx H2 hx => ?_⟩
  obtain⟨s2,rx⟩:=hyl x H2 hx;have rx':=rx A (λa ha => .inl ha) (hA.same sm)
  rw[O2 hlt]at hc;have sm2:=sm.trans s2;rcases QW hc with ⟨h1,h2⟩|⟨y,r,h1,h2,h3,h4⟩
  .obtain⟨Y',ea,ec⟩:=Gr h1;refine hGG A Y Z' H2 x ds[i] Y' _ (g'.same s2) rx' ea λZ3 g3 g4=>⟨hA.same sm2,Y',g3,?_⟩
   rw[ec];exact λH3 s3=>by
    dsimp only;rw[A8 (by decide)]
    exact⟨ds.length-(i+1),by omega,rfl,hlt,by omega,sm2.trans s3,g4.same s3,outs,Bi,(rs.same s2).same s3,h2,e⟩
  .obtain⟨Y',ea,ec⟩:=Gr h1;obtain⟨Y2,ea2,ee⟩:=Gr h2;rw[ea]at ea2;cases ea2;refine hGG A Y Z' H2 x ds[i] Y' _ (g'.same s2) rx' ea λZ3 g3 g4=>⟨hA.same sm2,Y',g3,?_⟩
   rw[ec];exact λH3 s3=>by
    dsimp only;rw[AX rfl];refine⟨(hA.same sm2).same s3,Y',g3.same s3,?_⟩;rw[ee];exact λv H4 s4 r4=>⟨ds.length-(i+1),by omega,rfl,hlt,by rw[Cf,O8];omega,(sm2.trans s3).trans s4,(g4.same s3).same s4,outs++[y],r,(((rs.same s2).same s3).same s4).append ⟨r4,trivial⟩,h3,by rw[e,h4];simp⟩
 .have hk':ds.length<=i:=by omega
  rw[O3 hk']at hc;have hr:Bi=[]:=by cases hc;rfl
  subst hr;rw[B4]at e;subst e;exact .inl ⟨yst hk',λp hp=>q xs H' sm rs p hp⟩
theorem DL.ok_of{r:R (Ad D)}{f:Ad D->R D}{Q':It->Hp->Prop}(h:AZ Rq W H (r.bind f) Q)(k : ∀ ds J H',r = .ok ds->At H H'->GE K CL A ds J H'->ds.length<=sizeLine->AZ Rq W H' (f ds) Q->Q' J H'):DL K CL A W H r Q':=by
 cases r with
 |ok d=>exact λJ H2 s2 y z=>k d J H2 rfl s2 y z (AZ.same s2 h)
 |exn x=>exact h
 |bad=>exact h
theorem Wa{r:R α}{a:α}(h:noX r = .ok a):r = .ok a:=by
 cases r with
 |ok b=>exact h
 |exn x=>cases h
 |bad=>cases h
theorem LQ(hGG:GG X.K CL ts as g)(hA:AOk H A)(gd:Good X.K CL A Y Z H)(p:AZ (CO X.K CL Ab H A) W H ((fi Y).bind λxs=>(noX (CP (λx=>(as x Y).bind fc) (λx=>(as x Y).bind fe) xs)).bind λys => .ok (.lst ys)) Q):DL X.K CL A W H (fi Y) (λJ H1=>Hs J ts g (λZ H Q=>AOk H A/\∃ Y,Good X.K CL A Y Z H/\Cc W0 H (fc Y) Q) (λZ H Q=>AOk H A/\∃ Y,Good X.K CL A Y Z H/\AZ (λH=>Rep X.K CL H A) W0 H (fe Y) Q) Z H1 Q):=
 DL.ok_of p λds J H1 e1 s1 yl hz p1=>by
  cases e2:noX (CP (λx=>(as x Y).bind fc) (λx=>(as x Y).bind fe) ds) with
  |ok ys=>
   rw[e2]at p1;exact R5 hGG (hA.same s1) (gd.same s1) yl hz (Wa e2) λxs H2 s2 rs q hq=>p1 _ _ (s2.trans (Ep hq _)) (Ht (s1.trans s2) ((hA.same s1).same s2) hq rs)
  |exn x=>rw[e2]at p1;cases hq:CP (λx=>(as x Y).bind fc) (λx=>(as x Y).bind fe) ds <;> rw[hq]at e2 <;> cases e2
  |bad=>rw[e2]at p1;exact p1.elim
theorem SQ(hc:X.calm=Ab)(B:BlockOk X scope N' ts)(hi:SI X CL W tg iter fi)(hGG:GG X.K CL ts as g)(hg : ∀ cl C s H fp,PG (cxC X scope cl C N' s H fp) tg g)(ht : ∀ cl C s H fp,STs (cxC X scope cl C N' s H fp) CL ifs fc)(he : ∀ cl C s H fp,SE (cxC X scope cl C N' s H fp) CL W0 elt fe)(hs : ∀ x,B1 iter X.env x=pure x):SC X CL W Ab (.ListComp elt [⟨tg,iter,ifs,0⟩] scope pos) (λY=>(fi Y).bind λxs=>(noX (CP (λx=>(as x Y).bind fc) (λx=>(as x Y).bind fe) xs)).bind λys => .ok (.lst ys)):=λA pI s Z H Q I ⟨hA,Y,gd,p⟩=>
 Us hc B (hi A) hg (λcl C s H fp=>ht cl C s H fp A) (λcl C s H fp=>he cl C s H fp A) hs pI s Z H Q I ⟨hA,Y,gd,LQ hGG hA gd p⟩
end
section
variable{K:Fg}{CL:ClA}{Fz:Ai->HO->Prop}{B:Ai->Prop}{Y:Rho}{Z:L2.St}{H H':Hp}
theorem Sx.setF(x:Sx K CL Fz B Y Z H)(s:At H H')(h0:H a=Af)(h1:H' a=Aa (.lst xs))(r:Reps K CL H' (λb=>Bm B Y Z b\/b=a) xs ds):Sx K CL Fz B (Y.set i (Aa (.lst ds,Ab))) (Z.set i (Aa (.ref a))) H':=by
 have nA : ¬ Bm B Y Z a:=x.aok.new h0;have own : ∀(j:Ae)(e:D),(Y.set i (Aa (.lst ds,Ab)))[j]? = Aa (Aa (e,Ab))->(i=j/\e = .lst ds)\/(i≠j/\Y[j]? = Aa (Aa (e,Ab))):=λj e h=>by
  by_cases hj:i=j
  .subst hj;have:=Eo h;cases this;exact .inl ⟨rfl,rfl⟩
  .exact .inr ⟨hj,by rw[BG hj]at h;exact h⟩
 have atI : ∀{j:Ae}{y:Sl},(Y.set i (Aa (.lst ds,Ab)))[j]? = Aa y->i=j->(Z.set i (Aa (.ref a)))[j]? = Aa (Aa (.ref a)):=λ{j y} h e=>by
  subst e;have hl:i<Z.length:=by
   rw[<-x.len];have:=(A4.mp h).1;simpa using this
  rw[B7 hl]
 have sub : ∀ b,Bm B (Y.set i (Aa (.lst ds,Ab))) (Z.set i (Aa (.ref a))) b->Bm B Y Z b\/b=a:=λb h=>by
  rcases h with h|⟨j,e,h1,h2⟩
  .exact .inl (.inl h)
  .rcases own j e h1 with ⟨hj,_⟩|⟨hj,h1'⟩
   .rw[atI h1 hj]at h2;cases h2;exact .inr rfl
   .rw[BG hj]at h2;exact .inl (.inr ⟨j,e,h1',h2⟩)
 have wide : ∀{v:V}{d:D},Rep K CL H (Bm B Y Z) v d->Rep K CL H' (Bm B (Y.set i (Aa (.lst ds,Ab))) (Z.set i (Aa (.ref a)))) v d:=λr=>(Rep.wide (λb hb=>(sub b hb).imp id λe=>by rw[e];exact h0) _ r).same s
 have wides : ∀{v:Ad V}{d:Ad D},Reps K CL H (Bm B Y Z) v d->Reps K CL H' (Bm B (Y.set i (Aa (.lst ds,Ab))) (Z.set i (Aa (.ref a)))) v d:=λr=>(Reps.wide (λb hb=>(sub b hb).imp id λe=>by rw[e];exact h0) _ r).same s
 refine⟨⟨λj e h => ?_,λj e h => ?_,by rw[A1,A1];exact x.len⟩,λb h => ?_,λj e b g1 g2 => ?_,λj k e f b g1 g2 g3 g4 => ?_,λb o z=>s _ _ (x.same b o z),by rw[A1,A1];exact x.len⟩
 .have hj:i≠j:=by
   rintro rfl;have:=Eo h;cases this
  rw[BG hj]at h;obtain⟨w',q,rw'⟩:=x.good.sh j e h;exact⟨w',by rw[BG hj];exact q,wide rw'⟩
 .rcases own j e h with ⟨hj,rfl⟩|⟨hj,h'⟩
  .have q:=atI h hj;exact⟨a,xs,ds,q,rfl,.inr ⟨j,_,h,q⟩,h1,Reps.sub sub _ r⟩
  .obtain⟨b,ys,es,q,z,ha,hh,rr⟩:=x.good.ow j e h';have q':(Z.set i (Aa (.ref a)))[j]? = Aa (Aa (.ref b)):=by rw[BG hj];exact q
   exact⟨b,ys,es,q',z,.inr ⟨j,e,h,q'⟩,s _ _ hh,wides rr⟩
 .rcases sub b h with z|z
  .obtain⟨ys,q⟩:=x.aok b z;exact⟨ys,s _ _ q⟩
  .rw[z];exact⟨xs,h1⟩
 .rcases own j e g1 with ⟨hj,_⟩|⟨hj,h'⟩
  .rw[atI g1 hj]at g2;cases g2;refine⟨λo z => ?_,λz=>nA (.inl z)⟩
   have:=x.same a o z;rw[h0]at this;cases this
  .rw[BG hj]at g2;exact x.new j e b h' g2
 .rcases own j e g1 with ⟨hj,_⟩|⟨hj,h'⟩
  .rw[atI g1 hj]at g3;cases g3;rcases own k f g2 with ⟨hk,_⟩|⟨hk,h''⟩
   .exact hj.symm.trans hk
   .rw[BG hk]at g4;exact absurd (.inr ⟨k,f,h'',g4⟩) nA
  .rw[BG hj]at g3;rcases own k f g2 with ⟨hk,_⟩|⟨hk,h''⟩
   .rw[atI g2 hk]at g4;cases g4;exact absurd (.inr ⟨j,e,h',g3⟩) nA
   .rw[BG hk]at g4;exact x.dis j k e f b h' h'' g3 g4
theorem Sx.upd(x:Sx K CL Fz B Y Z H){i:Ae}{d:D}{a:Ai}{xs:Ad V}{ds:Ad D}(hi:Y[i]? = Aa (Aa (d,Ab)))(ha:Z[i]? = Aa (Aa (.ref a)))(r:Reps K CL H (Bm B Y Z) xs ds):Sx K CL Fz B (Y.set i (Aa (.lst ds,Ab))) Z (L2.upd H a (.lst xs)):=by
 have oa:Bm B Y Z a := .inr ⟨i,d,hi,ha⟩;have hil:i<Y.length:=(A4.mp hi).1;have get : ∀(j:Ae)(e:D),(Y.set i (Aa (.lst ds,Ab)))[j]? = Aa (Aa (e,Ab))↔(i=j/\e = .lst ds)\/(i≠j/\Y[j]? = Aa (Aa (e,Ab))):=λj e=>by
  by_cases hj:i=j
  .subst hj;rw[B7 hil];simp;exact⟨λz=>z.symm,λz=>z.symm⟩
  .rw[BG hj];simp[hj]
 have same : ∀ b,Bm B (Y.set i (Aa (.lst ds,Ab))) Z b↔Bm B Y Z b:=λb=>by
  constructor
  .rintro (h|⟨j,e,h1,h2⟩)
   .exact .inl h
   .rcases (get j e).mp h1 with ⟨rfl,_⟩|⟨_,h1⟩
    .exact .inr ⟨i,d,hi,h2⟩
    .exact .inr ⟨j,e,h1,h2⟩
  .rintro (h|⟨j,e,h1,h2⟩)
   .exact .inl h
   .by_cases hj:i=j
    .subst hj;exact .inr ⟨i,.lst ds,(get i _).mpr (.inl ⟨rfl,rfl⟩),h2⟩
    .exact .inr ⟨j,e,(get j e).mpr (.inr ⟨hj,h1⟩),h2⟩
 have kp:Kp (Bm B Y Z) H (L2.upd H a (.lst xs)):=λb o e na=>by
  have hne:b≠a:=by
   rintro rfl;exact na oa
  rw[Ba hne];exact e
 refine⟨⟨λj e h => ?_,λj e h => ?_,by rw[A1];exact x.len⟩,λb h => ?_,λj e b g1 g2 => ?_,λj k e f b g1 g2 g3 g4 => ?_,λb o z => ?_,by rw[A1];exact x.len⟩
 .have hj:i≠j:=by
   rintro rfl;have:=Eo h;cases this
  rw[BG hj]at h;obtain⟨w',q,rw'⟩:=x.good.sh j e h;exact⟨w',q,Rep.sub (λb hb=>(same b).mp hb) _ (Rep.kp kp _ rw')⟩
 .rcases (get j e).mp h with ⟨rfl,rfl⟩|⟨hj,h'⟩
  .exact⟨a,xs,ds,ha,rfl,(same a).mpr oa,CY,Reps.sub (λb hb=>(same b).mp hb) _ (Reps.kp kp _ r)⟩
  .obtain⟨b,ys,es,q,z,hb,hh,rr⟩:=x.good.ow j e h';have hne:b≠a:=λz=>hj (x.dis i j d e a hi h' ha (z ▸ q))
   exact⟨b,ys,es,q,z,(same b).mpr hb,by rw[Ba hne];exact hh,Reps.sub (λb hb=>(same b).mp hb) _ (Reps.kp kp _ rr)⟩
 .obtain⟨ys,q⟩:=x.aok b ((same b).mp h);by_cases e:b=a
  .rw[e];exact⟨xs,CY⟩
  .exact⟨ys,by rw[Ba e];exact q⟩
 .rcases (get j e).mp g1 with ⟨rfl,_⟩|⟨_,h'⟩
  .exact x.new i d b hi g2
  .exact x.new j e b h' g2
 .rcases (get j e).mp g1 with ⟨rfl,_⟩|⟨hj,h'⟩
  .rcases (get k f).mp g2 with ⟨rfl,_⟩|⟨hk,h''⟩
   .rfl
   .exact x.dis i k d f b hi h'' g3 g4
  .rcases (get k f).mp g2 with ⟨rfl,_⟩|⟨hk,h''⟩
   .exact x.dis j i e d b h' hi g3 g4
   .exact x.dis j k e f b h' h'' g3 g4
 .have hne:b≠a:=λe=>(x.new i d a hi ha).1 o (e ▸ z)
  rw[Ba hne];exact x.same b o z
theorem Sx.rel(x:Sx K CL Fz B Y Z H)(hi:Y[i]? = Aa (Aa (d,Ab))):Sx K CL Fz B (Y.set i (Aa (d,Ac))) Z H:=by
 obtain⟨a,xs,ds,q,rfl,oa,hh,rr⟩:=x.good.ow i d hi;have own : ∀(j:Ae)(e:D),(Y.set i (Aa (.lst ds,Ac)))[j]? = Aa (Aa (e,Ab))->i≠j/\Y[j]? = Aa (Aa (e,Ab)):=λj e h=>by
  by_cases hj:i=j
  .subst hj;have:=Eo h;cases this
  .exact⟨hj,by rw[BG hj]at h;exact h⟩
 have sub : ∀ b,Bm B (Y.set i (Aa (.lst ds,Ac))) Z b->Bm B Y Z b:=λb h=>by
  rcases h with h|⟨j,e,h1,h2⟩
  .exact .inl h
  .exact .inr ⟨j,e,(own j e h1).2,h2⟩
 have na : ¬ Bm B (Y.set i (Aa (.lst ds,Ac))) Z a:=λh=>by
  rcases h with h|⟨j,e,h1,h2⟩
  .exact(x.new i _ a hi q).2 h
  .obtain⟨hj,h1⟩:=own j e h1;exact hj (x.dis i j _ e a hi h1 q h2)
 refine⟨⟨λj e h => ?_,λj e h => ?_,by rw[A1];exact x.len⟩,λb h=>x.aok b (sub b h),λj e b g1 g2=>x.new j e b (own j e g1).2 g2,λj k e f b g1 g2 g3 g4=>x.dis j k e f b (own j e g1).2 (own k f g2).2 g3 g4,x.same,by rw[A1];exact x.len⟩
 .by_cases hj:i=j
  .subst hj;have e1:=Eo h;cases e1;exact⟨_,q,a,xs,rfl,.inl na,SqL.of hh,Reps.sub sub _ rr⟩
  .rw[BG hj]at h;obtain⟨w',q',rw'⟩:=x.good.sh j e h;exact⟨w',q',Rep.sub sub _ rw'⟩
 .obtain⟨hj,h'⟩:=own j e h;obtain⟨b,ys,es,q',z,hb,hh',rr'⟩:=x.good.ow j e h';exact⟨b,ys,es,q',z,.inr ⟨j,e,h,q'⟩,hh',Reps.sub sub _ rr'⟩
end
section
variable{X:Cx}{CL:ClA}{W:XW}{pos:Az}{e:Ak}{fe:Rho->R D}{fr:Aj}
theorem BA.exC{f:D->O}(x:Sx X.K CL Fz B Y Z H)(h:BA X.K CL Fz B W (O.of Y r f) D')(k : ∀ d v H',r = .ok d->At H H'->CO X.K CL fr H A H' v d->Sx X.K CL Fz B Y Z H'->BA X.K CL Fz B W (f d) D'->Q v H'):AZ (CO X.K CL fr H A) W H r Q:=by
 cases r with
 |ok d=>exact λv H' s r=>k d v H' rfl s r (x.grow s) h
 |exn y=>exact λH' s=>h H' λb o z=>s _ _ (x.same b o z)
 |bad=>exact h
noncomputable def SAs(X:Cx)(CL:ClA)(W:XW)(fr:Aj)(i:Ae)(st:AC)(f:Rho->R D):Prop := ∀ A,PS X st (K9 (λZ H Q=>AOk H A /\ ∃ Y,Good X.K CL A Y Z H/\AZ (CO X.K CL fr H A) W H (f Y) Q) (EK i))
theorem SC.sas{n:Ag}(hN:X.N.Nodup)(hi:X.N[i]? = Aa n)(hx:Loc X.env.scope n)(he:SC X CL W fr e fe)(hs:Ck e (Aa (.Name n pos')) pos.line X.env=pure Ac)(hf:X.fn n=Ab\/X.env.scope.names.lookup n=Aa .local):SAs X CL W fr i (.Assign [.Name n pos'] e pos) fe:=
 λA=>IA hN hi hx (he A) hs hf
theorem RO{n:Ag}{fe:Rho->R D}{g:TG}(hc:X.calm=Ab)(B:BlockOk X scope N' ts)(hi:SI X CL W tg iter fi)(hGG:GG X.K CL ts as g)(hg : ∀ cl C s H fp,PG (cxC X scope cl C N' s H fp) tg g)(ht : ∀ cl C s H fp,STs (cxC X scope cl C N' s H fp) CL ifs fc)(he : ∀ cl C s H fp,SE (cxC X scope cl C N' s H fp) CL W0 elt fe)(hs : ∀ x,B1 iter X.env x=pure x)(hN:X.N.Nodup)(hni:X.N[i]? = Aa n)(hx:X.env.scope.names.lookup n=Aa .local)(hsw:Ck (.ListComp elt [⟨tg,iter,ifs,0⟩] scope pos) (Aa (.Name n pos')) pos2.line X.env=pure Ab):SAs X CL W Ab i (.Assign [.Name n pos'] (.ListComp elt [⟨tg,iter,ifs,0⟩] scope pos) pos2) (λY=>(fi Y).bind λxs=>(noX (CP (λx=>(as x Y).bind fc) (λx=>(as x Y).bind fe) xs)).bind λys =>.ok (.lst ys)):=λA pI s Z H Dn I ⟨hA,Y,gd,p⟩=>
 Um hc B (hi A) hg (λcl C s H fp=>ht cl C s H fp A) (λcl C s H fp=>he cl C s H fp A) hs hN hni hx hsw pI s Z H Dn I ⟨hA,Y,gd,LQ hGG hA gd p⟩
theorem Nj{st:AC}(h:SAs X CL W fr i st fe):SS X CL W st (λY=>O.of Y (fe Y) λd => .next (Y.set i (Aa (d,Ac)))):=λFz B pI s Z H D I ⟨Y,x,p⟩=>
 h (Bm B Y Z) pI s Z H D I ⟨x.aok,Y,x.good,BA.exC x p λd v H' _ s r x' q=>q _ H' (x'.set i r.1)⟩
theorem MW{st:AC}(h:SAs X CL W Ab i st fe):SS X CL W st (λY=>O.of Y (fe Y) λd=>setF Y i d):=λFz B pI s Z H D I ⟨Y,x,p⟩=>
 h (Bm B Y Z) pI s Z H D I ⟨x.aok,Y,x.good,BA.exC x p λd v H' _ s r x' q=>by
  cases d with
  |lst ds=>
   obtain⟨a,xs,rfl,h0,h1,rs⟩:=r.2 rfl ds rfl;exact q _ H' (x.setF s h0 h1 rs)
  |dic ds=>exact r.1.elim
  | _=>exact q.elim⟩
theorem Tl(he:SC X CL W Ab e fe):SS X CL W (.Return (Aa e) pos) (λY=>O.of Y (fe Y) λd => .ret d Ab):=λFz B pI s Z H D I ⟨Y,x,p⟩=>
 Kk (he (Bm B Y Z)) pI s Z H D I ⟨x.aok,Y,x.good,BA.exC x p λd v H' _ s r x' q=>q v H' x'.same (Rep.sub (λa h => .inl h) _ r.1) λ_ ds e=>by
  obtain⟨a,xs,h0,h1,h2,h3⟩:=r.2 rfl ds e;refine⟨a,xs,h0,λo z => ?_,h2,Reps.sub (λb hb=>hb.imp .inl id) _ h3⟩
  have:=x.same a o z;rw[h1]at this;cases this⟩
noncomputable def Lc(Y:Rho)(i:Ae):Aj:=match Y[i]? with
  |some (Aa (_,o))=>o
  |_=>Ac
theorem Tj(he:PE X e (DO i)):SS X CL W (.Return (Aa e) pos) (λY=>O.of Y (CG Y i) λd => .ret d (Lc Y i)):=λFz B pI s Z H D I ⟨Y,x,p⟩=>
 Kk he pI s Z H D I (by
  dsimp only at p;cases e:CG Y i with
  |bad=>rw[e]at p;exact p.elim
  |exn z=>exact(Mq e).elim
  |ok d=>
   rw[e]at p;obtain⟨o,e⟩:=MT e;have eo:Lc Y i=o:=by unfold Lc;rw[e]
   rw[O.of_ok,eo]at p;cases o with
   |false=>
    obtain⟨v,q,r⟩:=x.good.sh i d e;exact⟨v,q,p v H x.same (Rep.sub (λa h => .inl h) _ r) λz=>nomatch z⟩
   |true=>
    obtain⟨a,xs,ds,q,rfl,ha,hh,r⟩:=x.good.ow i d e;obtain⟨n1,n2⟩:=x.new i _ a e q;refine⟨_,q,p _ H x.same ⟨a,xs,rfl,.inl n2,SqL.of hh,Reps.sub (λa h => .inl h) _ r⟩ λ_ ds' e' => ?_⟩
    cases e';exact⟨a,xs,rfl,n1,hh,Reps.sub (λb hb=>hb.elim .inl λz=>z ▸ ha) _ r⟩)
theorem Uu(h:C4 Y i = .ok ds):Y[i]? = Aa (Aa (.lst ds,Ab)):=by
 unfold C4 at h;split at h
 .rename_i e;cases h;exact e
 .cases h
theorem RW(h:C4 Y i = .exn x):AT:=by
 unfold C4 at h;split at h <;> cases h
variable{o:Ak}{i:Ae}{apos cpos:Az}
theorem VG(ho:PE X o (DO i))(he:SE X CL W e fe)(hbase:Dd o "append" X.env (eval o X.env)=eval o X.env)(hfew:((Bk cpos (Ap [e] X.env)).all (λx => !x.1)&&(Gi cpos (Fi [] X.env)).all (λx=>x.1.isSome)&&decide ([e].length+([]:Ad Dg).length+(if ([]:Ad Dg).isEmpty then 0 else 1)<30))=Ab)(hline:(apos.endLine==cpos.line)=Ab)(hs:Ap [e] X.env=[(Ac,eval e X.env)])(hsw:Ck (.Call (.Attribute o "append" apos) [e] [] cpos) Af pos.line X.env=pure Ac):
  SS X CL W (.Expr (.Call (.Attribute o "append" apos) [e] [] cpos) pos) (λY=>O.of Y (C4 Y i) λxs=>O.of Y (fe Y) λd=>if Ce (xs.length+1)=Ab then .next (Y.set i (Aa (.lst (xs++[d]),Ab))) else .bad):=λFz B pI s Z H D I ⟨Y,x,p⟩=>by
 refine Hv (NL PySem.F.plainAttrs_list PySem.F.slot_list_append PySem.F.type_list_append Rn ho (Dk (he (Bm B Y Z)) EH hs) hbase hfew hline hs rfl) hsw pI s Z H D I ?_;dsimp only at p;cases e1:C4 Y i with
 |bad=>rw[e1]at p;exact p.elim
 |exn z=>exact(RW e1).elim
 |ok ds=>
  rw[e1,O.of_ok]at p;have hi:=Uu e1;obtain⟨a,xs,ds',q,e2,ha,hh,r⟩:=x.good.ow i _ hi;cases e2;refine⟨_,q,.inl ⟨rfl,xs,SqL.of hh⟩,x.aok,Y,x.good,BA.ex x p λd v H' _ s rv x' q' => ?_⟩
  split at q'
  .rename_i hz;refine⟨a,xs,v,rfl,rfl,s _ _ hh,?_,q' _ _ (x'.upd hi q ((r.same s).append ⟨rv,trivial⟩))⟩;have:=Gn hz;rw[r.length];omega
  .exact q'.elim
theorem Ti{Bi:Ad AC}{f:Rho->O}(i:Ae)(h:SSs X CL W Bi f):SSs X CL W Bi (λY=>(match Y[i]? with
   |some (Aa (d,Ab))=>O.next (Y.set i (Aa (d,Ac)))
   | _=>O.next Y).seq f):=λFz B=>PSs.weak (h Fz B) λD Z H ⟨Y,x,p⟩=>by
 dsimp only at p;split at p
 .rename_i d e;exact⟨_,x.rel e,p⟩
 .exact⟨Y,x,p⟩
end
section
variable{X:Cx}{CL:ClA}{W:XW}{pos:Az}{e k o:Ak}{fe fk:Rho->R D}{i:Ae}{apos cpos:Az}
theorem AR.take(r:AR xs its) : ∀ n,AR (xs.take n) (its.take n):=by
 induction r with
 |nil=>intro n;simp;exact .nil
 |cons h _ ih=>
  intro n;cases n with
  |zero=>exact .nil
  |succ n=>exact .cons h (ih n)
theorem AR.drop(r:AR xs its) : ∀ n,AR (xs.drop n) (its.drop n):=by
 induction r with
 |nil=>intro n;simp;exact .nil
 |cons h t ih=>
  intro n;cases n with
  |zero=>exact .cons h t
  |succ n=>exact ih n
end
section
variable{prog:AE}{w:Ar}{A:AN}{E:Ah->Am->Prop}{s:Am}
end
noncomputable def Lm(t:Aj)(h:Ay)(j l:Ai)(i:Ae):Prop:=match t with
  |true=>h.IsTupleIter j l i
  |false=>h.IsListIter j l i
noncomputable def HW(t:Aj)(h:Ay)(l:Ai)(its:Bb Ah):Prop:=match t with
  |true=>h.IsTuple l its
  |false=>h.IsList l its
theorem nb2{I l c:Ae}(b:l<I)(h:c∈[I+1,l]):c≠I/\c≠I+3/\c≠I+4:=by
 have h':c=I+1\/c=l:=by simpa using h
 omega
section
variable{prog:AE}{w:Ar}{A:AN}{E:Ah->Am->Prop}{s:Am}
end
section
variable{prog:AE}{w:Ar}{A:AN}{E:Ah->Am->Prop}{s:Am}
theorem HW.push{t:Aj}{its:Bb Ah}(z:HW t h l its)(o:AD):HW t (h.push o) l its:=by
 cases t with
 |true=>exact PySem.Heap.IsTuple.at z λ_ e=>Ax _ e
 |false=>exact PySem.Heap.IsList.at z λ_ e=>Ax _ e
end
theorem HW.lt{t:Aj}{its:Bb Ah}(z:HW t h a its):a<h.objs.size:=by
 cases t with
 |true=>obtain⟨o,e,_⟩:=z;exact AA e
 |false=>obtain⟨o,e,_⟩:=z;exact AA e
section
variable{X:Cx}{CL:ClA}{W:XW}{pos p:Az}{a b:Ak}{fa fb:Rho->R D}
end
section
variable{prog:AE}{w:Ar}{A:AN}{E:Ah->Am->Prop}{s:Am}
end
section
variable{X:Cx}{CL:ClA}{W:XW}{pos p:Az}{a:Ak}{fa:Rho->R D}
end
noncomputable abbrev OI(h:Ay)(z TI TO:Ai)(f0 f1:Ah):Prop:=h.get? z=Aa { cls := .type "zip",dict:=Af,data := .fields #[f0,f1,.bool Ac,.ref TI,.ref TO],slots := #[] }
noncomputable abbrev OJ(h:Ay)(T:Ai)(a b c:Ah):Prop:=h.get? T=Aa { cls := .type "tuple",data := .seq #[a,b,c] }
section
variable{prog:AE}{w:Ar}{A:AN}{E:Ah->Am->Prop}{s:Am}
noncomputable def Z_3(t1 t2 t3:Aj)(I l1 l2 l3 i:Ae)(h:Ay):Prop:=OJ h (I+3) (.ref (I+0)) (.ref (I+1)) (.ref (I+2))/\Lm t1 h (I+0) l1 i/\Lm t2 h (I+1) l2 i/\Lm t3 h (I+2) l3 i/\(∃ a b c,OJ h (I+4) a b c) /\
 (OI h (I+5) (I+3) (I+4) .none (.bool Ac) \/ ∃(T1:Ae)(f1:Aj),OI h (I+5) (I+3) (I+4) (EC T1) (.bool f1))
end
section
variable{prog:AE}{w:Ar}{A:AN}{R:Fv->Am->Prop}
end
section
variable{prog:AE}{w:Ar}{A:AN}{E:Ah->Am->Prop}{s:Am}
end
theorem Z_3.ty{t1 t2 t3:Aj}{I l1 l2 l3 i:Ae}(z:Z_3 t1 t2 t3 I l1 l2 l3 i s.heap):s.TypeIs (.ref (I+5)) "zip" := by
 obtain⟨_,_,_,_,_,hz|⟨_,_,hz⟩⟩:=z
 .exact⟨_,hz,rfl⟩
 .exact⟨_,hz,rfl⟩
theorem Z_3.lt{t1 t2 t3:Aj}{I l1 l2 l3 i:Ae}(z:Z_3 t1 t2 t3 I l1 l2 l3 i s.heap):I+5<s.heap.objs.size:=by
 obtain⟨o,h,_⟩:=z.ty;exact AA h
section
variable{prog:AE}{w:Ar}{A:AN}{E:Ah->Am->Prop}{s:Am}
end
section
variable{X:Cx}{CL:ClA}{W:XW}{pos p pos' p':Az}{a b c:Ak}{fa fb fc:Rho->R D}
end
section
variable{X:Cx}{CL:ClA}{W:XW}{pos p tpos:Az}{a b c:Ak}{fa fb fc:Rho->R D}{x:Ag}
end
section
variable{X:Cx}{CL:ClA}{W:XW}{a:Ak}{fa:Rho->R D}
end
section
variable{X:Cx}{CL:ClA}{W:XW}{o o' e:Ak}{fe:Rho->R D}{i j:Ae}{apos cpos apos' cpos' pos:Az}
end
section
variable{X:Cx}{CL:ClA}{W:XW}
end
section
variable{X:Cx}
variable{CL:ClA}{W:XW}{pos p pos' p':Az}{a b:Ak}{fa fb:Rho->R D}
end
section
variable{X:Cx}{CL:ClA}{W:XW}{e o o' k l:Ak}{fe:Rho->R Ov.D}{i ik il:Ae}{pos spos spos' tpos:Az}{kt:Ae}
end
section
variable{prog:AE}{w:Ar}{A:AN}{E:Ah->Am->Prop}{s:Am}
end
section
variable{X:Cx}{pos:Az}{CL:ClA}
end
section
variable{X:Cx}{CL:ClA}{W:XW}
end
end Ov
namespace Ov
open PySem PySem.W PyProof.Rows
variable{p:Bb Ae}{m:Ae}
def Kr{α:Type}(lt:Ae->Ae->Aj)(n:Ae):KasT α->(α->Prop)->Prop
 |.ret a,Q=>Q a
 |.ask i j k,Q=>i<n/\j<n/\Kr lt n (k (lt i j)) Q
theorem Kr.mono{α:Type}{lt:Ae->Ae->Aj}{n:Ae}{Q Q':α->Prop} : ∀{t:KasT α},Kr lt n t Q->(∀ a,Q a->Q' a)->Kr lt n t Q'
 |.ret _,h,k=>k _ h
 |.ask i j f,h,k=>⟨h.1,h.2.1,Kr.mono (t:=f (lt i j)) h.2.2 k⟩
theorem Kr.bind{α β:Type}{lt:Ae->Ae->Aj}{n:Ae}{f:α->KasT β}{Q:β->Prop} : ∀{t:KasT α},Kr lt n t (λa=>Kr lt n (f a) Q)->Kr lt n (t.bind f) Q
 |.ret _,h=>h
 |.ask i j k,h=>⟨h.1,h.2.1,Kr.bind (t:=k (lt i j)) h.2.2⟩
structure Sto (lt:Ae->Ae->Aj) (n:Ae):Prop where
 tr : ∀ i j k,i<n->j<n->k<n->lt i j=Ab->lt j k=Ab->lt i k=Ab
 tot : ∀ i j,i<n->j<n->i≠j->lt i j=Ac->lt j i=Ab
 asy : ∀ i j,i<n->j<n->lt i j=Ab->lt j i=Ac
noncomputable def at0(p:Bb Ae)(x:Ae):Ae:=p.getD x 0
structure Pm (n:Ae) (p:Bb Ae):Prop where
 sz:p.size=n
 lt : ∀ x,x<n->at0 p x<n
 inj : ∀ x y,x<n->y<n->at0 p x=at0 p y->x=y
section
variable{lt:Ae->Ae->Aj}{n:Ae}
noncomputable def Lk(lt:Ae->Ae->Aj)(p:Bb Ae)(m:Ae):Prop := ∀ x y,x<y->y<m->lt (at0 p x) (at0 p y)=Ab
noncomputable def Lo(lt:Ae->Ae->Aj)(p:Bb Ae)(m:Ae):Prop := ∀ x y,x<y->y<m->lt (at0 p y) (at0 p x)=Ab
theorem Lk.succ(S:Sto lt n)(hp:Pm n p)(h1:1<=m)(hm:m<n)(h:Lk lt p m)(e:lt (at0 p (m-1)) (at0 p m)=Ab):Lk lt p (m+1):=λx y hxy hy=>by
 by_cases hym:y<m
 .exact h x y hxy hym
 .have:y=m:=by omega
  subst this;by_cases hx:x=y-1
  .rw[hx];exact e
  .exact S.tr _ _ _ (hp.lt _ (by omega)) (hp.lt _ (by omega)) (hp.lt _ hm) (h x (y-1) (by omega) (by omega)) e
theorem Lo.succ(S:Sto lt n)(hp:Pm n p)(h1:1<=m)(hm:m<n)(h:Lo lt p m)(e:lt (at0 p m) (at0 p (m-1))=Ab):Lo lt p (m+1):=λx y hxy hy=>by
 by_cases hym:y<m
 .exact h x y hxy hym
 .have:y=m:=by omega
  subst this;by_cases hx:x=y-1
  .rw[hx];exact e
  .exact S.tr _ _ _ (hp.lt _ hm) (hp.lt _ (by omega)) (hp.lt _ (by omega)) e (h x (y-1) (by omega) (by omega))
end
section
variable{prog:AE}{w:Ar}{A:AN}{E:Ah->Am->Prop}{κ:SortKind}{it:Bb Keyed}
end
section
variable{lt:Ae->Ae->Aj}{n:Ae}
end
noncomputable def Kb(h:Ay)(v:Ah)(r:Ad Ao):Prop := ∃ a its,v = .ref a/\He h a its/\Ft its.toList r/\r≠[]
theorem Kb.kept{h h':Ay}{v:Ah}{r:Ad Ao}(t:Kb h v r)(k : ∀ b o,h.get? b=Aa o->h'.get? b=Aa o):Kb h' v r:=by
 obtain⟨a,its,e,⟨o,ho,q⟩,i,n⟩:=t;exact⟨a,its,e,⟨o,k _ _ ho,q⟩,i,n⟩
section
variable{prog:AE}{w:Ar}{A:AN}{E:Ah->Am->Prop}{s:Am}
end
end Ov
section
namespace Ov
open PySem PySem.Spec PyProof.Rows L2
section
variable{X:Cx}{CL:ClA}{W:XW}
end
end Ov
end
section
namespace Ov
open PySem PySem.Spec PyProof.Rows
section
variable{t:SetTable}{hashAt:Ae->Ao}{h:Ao}
noncomputable def stand(i b:Ae):SetTable.Probe:=⟨i,0,i,b,Af⟩
end
section
variable{prog:AE}{w:Ar}{A:AN}{E:Ah->Am->Prop}{s:Am}{K:Type} [DecidableEq K] {knd:KeyKind prog w K}
end
section
variable{prog:AE}{w:Ar}{A:AN}{R:Fv->Am->Prop}{I:Ai}{fp wr:Ad Ai}{G:Bb CV->Bb CV->Prop}{n:Ae}{P:Ae->Ah->Prop}{St:Ae->Am->Prop}
end
section
variable{prog:AE}{w:Ar}{A:AN}{E:Ah->Am->Prop}{s:Am}
end
end Ov
end
namespace Ov
open PySem PySem.Spec PyProof.Rows L2
variable{P:AE}{w:Ar}{H H':Hp}{h h':Ay}{oe:AD}{vs:Bb Ah}{Q:Dj->Am->Prop}{T' C C' OV:Ai}{a0 oc:Ah}{X:Cx}{pI:Ad (Ai × AD)}{Z Z0:L2.St}{K:Fg}{m:Ag->An Ah}{x g z z' par name qual q x0:Ag}{v:An Ah}{M:Ev}{tk:BY}{fill expr:Aj}{φ:Ay->Prop}{CL:ClA}{Fz:Ai->HO->Prop}{B A:Ai->Prop}{Y:Rho}{W:XW}{hs:Ad AC}{h0:AC}{p1 hp pos p pos' np cpos p2 p3:Az}{fh:Rho->O}{dx od an:An Ai}{up:Ae->Ad Ae}{CX:CXT}{k c kk k' id:Ae}{fd:Bn}{ps:Ad Ag}{Xw:Ah->Am->Prop}{fs:Rho->R (Ad D)}{xn:Ae->Ad D->R Ex}{d:D}{Rp:Hp->V->D->Prop}{ds:Ad D}{α:Type}{env:BF}{as:Es}{xs ys:Ad Ak}{scope:By}{ts:Ad Ae}{osl:Bb (An Ah)}
section
variable{X:Cx}
def Jl(K:Fg)(H:Hp):Ad V->Ad (Ad Ao)->Prop
 |[],[]=>E4
 |x::xs,k::ks=>(∃ b,x = .ref b/\SqT K H b (k.map V.int))/\Jl K H xs ks
 |_,_=>AT
theorem Jl.length{K:Fg}{H:Hp} : ∀{xs:Ad V}{ks:Ad (Ad Ao)},Jl K H xs ks->xs.length=ks.length
 |[],[],_=>rfl
 |_::_,_::_,h=>congrArg (· + 1) (Jl.length h.2)
 |[],_::_,h=>h.elim
 |_::_,[],h=>h.elim
variable{CL:ClA}{W:XW}{pos p pos' p':Az}{a:Ak}{fa:Rho->R D}
end
section
end
section
variable{X:Cx}
variable{CL:ClA}{W:XW}{o e:Ak}{fe:Rho->R D}{i:Ae}{apos cpos pos:Az}
end
section
open PySem.AutoSeq1 (wpAny_loadPart')
end
section
variable{prog:AE}{w:Ar}{A:AN}{R:Fv->Am->Prop}{I S T:Ai}{u v:Ah}{c:Ae}{P:Ae->Ah->Prop}{St:Ae->Ay->Prop}{s:Am}{r q:Ad Ao}
end
section
variable{X:Cx}{CL:ClA}{W:XW}
end
noncomputable def Jm(e T:Ai)(cls:Ah)(dx:An Ai)(fl:Ah)(h:Ay):Prop := ∃ oe vs oT ts a0,h.get? e=Aa oe/\oe.cls=cls/\oe.dict=dx/\vs[0]? = Aa a0/\oe.data = .fields vs/\vs[1]? = Aa (.ref T)/\T≠e/\h.get? T=Aa oT/\oT.data = .fields ts/\ts[3]? = Aa fl
noncomputable abbrev Fly(e T:Ai)(cls:Ah)(dx:An Ai)(h:Ay):Prop:=Jm e T cls dx CB h
noncomputable def DZ(C:Ai)(dx:An Ai)(t:Ai):AD := {cls := .ref C,dict:=dx,data := .fields #[.ref t,.none,.none,.none,.bool Ac,.none]}
structure Shift (ex fs:Ad Ai) (h h':Ay):Prop where
 keep : ∀ b o,h.get? b=Aa o->b ∉ ex->b ∉ fs->h'.get? b=Aa o
 slot : ∀ b o,h.get? b=Aa o->b∈fs -> ∃ sl,h'.get? b=Aa {o with slots:=sl}
theorem ObjOk.isThere{a:Ai} : ∀(o:HO),L2.ObjOk P w H h a o -> ∃ ob,h.get? a=Aa ob
 |.lst _,x=>by obtain⟨_,_,_,_,e⟩:=x;exact⟨_,e⟩
 |.tup _,x=>by obtain⟨_,_,_,p⟩:=x;obtain⟨o,e,_⟩:=p;exact⟨_,e⟩
 |.dK _,x=>by obtain⟨_,_,_,_,o,_,_,e,_⟩:=x;exact⟨_,e⟩
 |.dT _,x=>by obtain⟨_,_,_,_,o,_,_,e,_⟩:=x;exact⟨_,e⟩
 |.set _ _,x=>by obtain⟨o,_,_,_,e,_⟩:=x;exact⟨_,e⟩
 |.ins _ _ _,x=>by obtain⟨_,_,_,e,_⟩:=x;exact⟨_,e⟩
 |.own _,x=>x
 |.xd _,x=>by obtain⟨_,⟨_,_,_,e,_⟩,_⟩:=x;exact⟨_,e⟩
 |.met _ _,x=>⟨_,x⟩
 |.rng _ _,x=>by obtain⟨_,_,_,e⟩:=x;exact⟨_,e⟩
 |.frz _ _,x=>⟨_,x.1⟩
 |.tbl _,x=>⟨_,x⟩
 |.ext _,x=>x.2.1
theorem F5{a:Ai}(x:HOk P w H h)(e:h.get? a=Af):H a=Af:=by
 cases q:H a with
 |none=>rfl
 |some o=>
  obtain⟨ob,z⟩:=ObjOk.isThere o (x a o q);rw[e]at z;cases z
theorem HOk.shift{ex fs:Ad Ai}(x:HOk P w H h)(sh:Shift ex fs h h')(h1 : ∀ b∈ex,H b=Af)(h2 : ∀ b∈fs,H b=Af):HOk P w H h':=λa o e=>
 (x a o e).stay (λb u hb q=>by
  have hs : ∃ v,H b=Aa v:=by
   rcases hb with rfl|hb
   .exact⟨_,e⟩
   .exact⟨_,hb⟩
  obtain⟨v,hv⟩:=hs;exact sh.keep b u q (λz=>by rw[h1 b z]at hv;cases hv) (λz=>by rw[h2 b z]at hv;cases hv)) (λ_ q=>q) λ_ _ q=>q
theorem Un.shift{fs0 fs ex:Ad Ai}{h0:Ay}(u:Un fs0 [] H H' h0 h)(sh:Shift ex fs h h')(h1 : ∀ b∈ex,h0.get? b=Af)(h2 : ∀ b∈fs,b∈fs0\/h0.get? b=Af):Un fs0 [] H H' h0 h' where
 keep:=λb o q n hb hx=>sh.keep b o (u.keep b o q n hb hx) (λz=>by rw[h1 b z]at q;cases q) λz=>(h2 b z).elim hb λe=>by rw[e]at q;cases q
 slot:=λb o q n hb hx=>by
  obtain⟨sl,e1⟩:=u.slot b o q n hb hx;by_cases hf:b∈fs
  .obtain⟨sl',e2⟩:=sh.slot b _ e1 hf;exact⟨sl',e2⟩
  .exact⟨sl,sh.keep b _ e1 (λz=>by rw[h1 b z]at q;cases q) hf⟩
 free:=u.free
 there:=λb o q hx=>by
  obtain⟨o',e1⟩:=u.there b o q hx;by_cases hf:b∈fs
  .obtain⟨sl',e2⟩:=sh.slot b _ e1 hf;exact⟨_,e2⟩
  .exact⟨o',sh.keep b _ e1 (λz=>by rw[h1 b z]at q;cases q) hf⟩
 tups:=u.tups
 frzs:=u.frzs
 tbls:=u.tbls
theorem US(f:Bb Ah->Bb Ah)(o:AD):(DT f o).dict=o.dict:=by
 obtain⟨c,d,dt,sl⟩:=o;cases dt <;> rfl
section
variable{M:Ev}{A:AN}{E:Ah->Am->Prop}{s:Am}{env:BF}{outer:Ad BF}{L e T:Ai}{cls:Ah}{dx:An Ai}{base h:Ay}
theorem L6{hd:Ah}{nx:Aj}(hfr:A.frames=Aa (env::outer))(hf:env.frame=Aa L)(ff:s.heap.FunFrames base (env::outer))(he:s.heap.get? e=Aa oe)(dt:oe.data = .fields vs)(hz:1<vs.size)(hQ : ∀ h' T' oT ts,h'.get? e=Aa (DT (·.setIfInBounds 1 (.ref T')) oe)->T'≠e->s.heap.get? T'=Af->h'.get? T'=Aa oT->oT.data = .fields ts->ts[3]? = Aa (EC L)->Shift [e] (frs (env::outer)) s.heap h'->Q () {s with heap:=h'}):
  As M A (do
   let fr <-frameOf env
   let pl <-entryPlaceOf L nx
   let en <-Px hd fr .none (EC L) .none pl
   setField (.ref e) 1 en) Q E s:=by
 have nf:e ∉ frs (env::outer):=λz=>by
  obtain⟨_,o,q,n⟩:=ff.mem z;rw[he]at q;cases q;exact n vs dt
 refine Au (wpAny_frameOf_fun hfr ff hf λk1 so=>Au (wpAny_entryPlaceOf λpl ip => ?_))
 obtain⟨sz,sm,sl⟩:=so;have e1:k1.get? e=Aa oe:=(sm e nf).trans he;unfold Px;unfold newFields;refine Au (QO ?_ (ip.sizeOk5 _ _ _ _ _));generalize hX:({ cls := .type "traceback",dict:=Af,data := .fields ([hd,.ref L,.none,EC L,.none]++(if pl.isEmpty then DC 6 CB else pl)).toArray }:AD)=ob
 have od:ob.data = .fields ([hd,.ref L,.none,EC L,.none]++(if pl.isEmpty then DC 6 CB else pl)).toArray:=by rw[<-hX]
 have nl:k1.objs.size≠e:=Pj (AA e1);have e2:=Ax ob e1;refine FD e2 dt hz ?_;have up : ∀ b,b≠e->((k1.push ob).update e (DT (·.setIfInBounds 1 (.ref k1.objs.size)))).get? b=(k1.push ob).get? b:=λb nb=>B8 _ _ (C1 nb)
 have lf:ob.isFreed=Ac:=by rw[<-hX];rfl
 refine hQ _ k1.objs.size ob _ (Ct _ e2 (D8 (CU dt _))) nl ?_ ((up _ nl).trans (Bv k1 lf)) od ?_ ⟨λb o q n1 n2 => ?_,λb o q hb => ?_⟩
 .rw[sz];exact Ci (AW _)
 .simp
 .have nb:b≠e:=λz=>n1 (by rw[z];exact AU)
  rw[up b nb];exact Ax ob ((sm b n2).trans q)
 .obtain⟨sl',q'⟩:=sl b o q;have nb:b≠e:=λz=>nf (z ▸ hb)
  exact⟨sl',(up b nb).trans (Ax ob q')⟩
theorem LO{oT:AD}{ts:Bb Ah}{fl:Ah}(hc:oe.cls=cls)(hx:oe.dict=dx)(h0:vs[0]? = Aa a0)(dt:oe.data = .fields vs)(hz:1<vs.size)(g:h'.get? e=Aa (DT (·.setIfInBounds 1 (.ref T')) oe))(ne:T'≠e)(gT:h'.get? T'=Aa oT)(dT:oT.data = .fields ts)(f3:ts[3]? = Aa fl):Jm e T' cls dx fl h':=
 ⟨_,_,oT,ts,a0,g,(Obj.cls_mapFields _ _).trans hc,(US _ _).trans hx,by rw[Array.getElem?_setIfInBounds_ne (by decide)];exact h0,CU dt _,by simp[hz],ne,gT,dT,f3⟩
theorem GQ{i:Ae}{v:Ah}(q:vs[i]? = Aa v):i<vs.size:=(Array.getElem?_eq_some_iff.mp q).1
theorem Mk(hfr:A.frames=Aa (env::outer))(hf:env.frame=Aa L)(ff:s.heap.FunFrames base (env::outer))(fl:Fly e T cls dx s.heap)(hQ : ∀ h' T',Jm e T' cls dx (EC L) h'->Shift [e,T] (frs (env::outer)) s.heap h'->s.heap.get? T'=Af->Q () {s with heap:=h'}):As M A (EA (.ref e) env) Q E s:=by
 obtain⟨oe,vs,oT,ts,a0,he,hc,hx,h0,dt,h1,ne,hT,dT,h3⟩:=fl;have z3:=GQ h3;unfold EA;simp only[hf];refine Au (Fj he dt h1 ?_);rw[AX (by simp:(BH T != CB)=Ab)]
 refine Au (Fj hT dT h3 ?_);rw[A8 (by simp[EC] : ¬ (CB==EC L)=Ab)]
 refine Au (FD hT dT z3 ?_);have up : ∀ b,b≠T->(s.heap.update T (DT (·.setIfInBounds 3 CB))).get? b=s.heap.get? b:=λb nb=>B8 _ _ (C1 nb)
 have rcd : ∀ b o,s.heap.get? b=Aa o->(∀ us,o.data ≠ .fields us)->b≠T:=λb o q n z=>by
  rw[z,hT]at q;cases q;exact n ts dT
 refine L6 (base:=base) hfr hf (ff.of_keeps λb o q n=>⟨o,(up b (rcd b o q n)).trans q,rfl⟩) ((up e (C1 ne)).trans he) dt (GQ h1) λh' T' oT' ts' g nT gn gT dT' f3 sh => ?_
 have T0:s.heap.get? T'=Af:=by
  by_cases z:T'=T
  .rw[z]at gn;rw[Ct _ hT (D8 (CU dT _))]at gn;cases gn
  .rw[<-up T' z];exact gn
 refine hQ h' T' (LO hc hx h0 dt (GQ h1) g nT gT dT' f3) ⟨λb o q n1 n2 => ?_,λb o q hb => ?_⟩ T0
 .simp only[AS,EW,HY,HX]at n1;exact sh.keep b o ((up b n1.2).trans q) (by simp[n1.1]) n2
 .obtain⟨_,o',q',n⟩:=ff.mem hb;rw[q]at q';cases q';exact sh.slot b o ((up b (rcd b o q n)).trans q) hb
theorem Iq{fv:Ah}(fl:Jm e T cls dx fv s.heap)(hQ : ∀ h',Fly e T cls dx h'->(∀ b o,b≠T->s.heap.get? b=Aa o->h'.get? b=Aa o)->Q () {s with heap:=h'}):As M A (Fh (.ref e) Af) Q E s:=by
 obtain⟨oe,vs,oT,ts,a0,he,hc,hx,h0,dt,h1,ne,hT,dT,h3⟩:=fl;have z3:=GQ h3;unfold Fh;refine Au (Fj he dt h1 ?_);rw[AX (by simp:(BH T != CB)=Ab)]
 refine FD hT dT z3 (hQ _ ?_ λb o nb q=>(B8 _ _ (C1 nb)).trans q)
 exact⟨oe,vs,_,_,a0,(B8 _ _ ne).trans he,hc,hx,h0,dt,h1,ne,Ct _ hT (D8 (CU dT _)),CU dT _,by simp[z3]⟩
theorem JJ{h1 h2:Ay}{ex:Ad Ai}(ff:s.heap.FunFrames base (env::outer))(sh:Shift ex (frs (env::outer)) s.heap h1)(hT:s.heap.get? T'=Af)(k : ∀ b o,b≠T'->h1.get? b=Aa o->h2.get? b=Aa o):Shift ex (frs (env::outer)) s.heap h2:=
 ⟨λb o q n1 n2=>k b o (λz=>by rw[z,hT]at q;cases q) (sh.keep b o q n1 n2),λb o q hb=>let ⟨sl,q'⟩:=sh.slot b o q hb;⟨sl,k b _ (λz=>by rw[z,hT]at q;cases q) q'⟩⟩
theorem R1(hfr:A.frames=Aa (env::outer))(hf:env.frame=Aa L)(ff:s.heap.FunFrames base (env::outer))(fl:Fly e T cls dx s.heap)(hQ : ∀ h' T',Fly e T' cls dx h'->Shift [e,T] (frs (env::outer)) s.heap h'->(T'=T\/s.heap.get? T'=Af)->Q () {s with heap:=h'}):As M A (leaving env (.ref e)) Q E s:=by
 unfold leaving;exact Au (Mk hfr hf ff fl λh1 T' f1 sh hT=>Iq f1 λh2 f2 k=>hQ h2 T' f2 (JJ ff sh hT k) (.inr hT))
theorem QY(hfr:A.frames=Aa (env::outer))(hf:env.frame=Aa L)(ff:s.heap.FunFrames base (env::outer))(he:s.heap.get? e=Aa oe)(hc:oe.cls=cls)(hx:oe.dict=dx)(dt:oe.data = .fields vs)(h0:vs[0]? = Aa a0)(h1:vs[1]? = Aa .none)(hQ : ∀ h' T',Fly e T' cls dx h'->Shift [e] (frs (env::outer)) s.heap h'->s.heap.get? T'=Af->Q () {s with heap:=h'}):As M A (leaving env (.ref e)) Q E s:=by
 unfold leaving EA;simp only[hf];refine Au (Au (Fj he dt h1 ?_));rw[A8 (by decide)]
 exact L6 (base:=base) hfr hf ff he dt (GQ h1) λh' T' oT ts g nT gn gT dT f3 sh=>Iq (LO hc hx h0 dt (GQ h1) g nT gT dT f3) λh2 f2 k=>hQ h2 T' f2 (JJ ff sh gn k) gn
theorem Sa(hfr:A.frames=Aa (env::outer))(hf:env.frame=Aa L)(ff:s.heap.FunFrames base (env::outer))(fl:Fly e T cls dx s.heap)(hQ : ∀ h' T',Fly e T' cls dx h'->Shift [e,T] (frs (env::outer)) s.heap h'->(T'=T\/s.heap.get? T'=Af)->Q () {s with heap:=h'}):As M A (EA (.ref e) env) (λ_ s2=>As M A (Fh (.ref e) Af) Q E s2) E s:=
 Mk hfr hf ff fl λh1 T' f1 sh hT=>Iq f1 λh2 f2 k=>hQ h2 T' f2 (JJ ff sh hT k) (.inr hT)
theorem R3{l:Ad BF}{A':AN}(ff:s.heap.FunFrames base l)(fl:Fly e T cls dx s.heap)(hQ : ∀ h' T',Fly e T' cls dx h'->Shift [e,T] (frs l) s.heap h'->(T'=T\/s.heap.get? T'=Af)->Q () {s with heap:=h'}):As M A' (Fh (.ref e) Af) Q E s:=by
 obtain⟨oe,vs,oT,ts,a0,he,hc,hx,h0,dt,h1,ne,hT,dT,h3⟩:=id fl;refine Iq fl λh' f' k=>hQ h' T f' ⟨λb o q n1 n2=>k b o (λz=>n1 (by rw[z];simp)) q,λb o q hb=>⟨o.slots,k b o (λz => ?_) q⟩⟩ (.inl rfl)
 obtain⟨_,o',q',n⟩:=ff.mem hb;rw[z,hT]at q';cases q';exact n ts dT
end
noncomputable def CXR(P:AE)(w:Ar):CXT:=λouter H s E ev s' => ∃ e T cls dx H',ev = .ref e/\s'.os=s.os/\DE s'.gens/\Un (frs outer) [] H H' s.heap s'.heap/\HOk P w H' s'.heap/\Fly e T cls dx s'.heap/\H' e=Af/\H' T=Af/\s.heap.get? e=Af/\s.heap.get? T=Af/\E cls dx H'
noncomputable def HU(X:Cx)(CL:ClA)(W:XW):Prop := ∀ pI Z H s e C dx t x,Inv X pI Z H s->(X.ex=[]->X.s₀.heap.get? e=Af)->H e=Af->s.heap.get? e=Aa (DZ C dx t)->D1 X.K CL H (.ref C) dx x->W x H->X.xe (.ref e) s
section
variable{P:AE}{w:Ar}{K:Fg}{mg:Ag->An Ah}{base:Ay}{N:Ad Ag}{qual:Ag}{scope:By}{f:Ai}{cd:Ah}{A:AN}{outer:Ad BF}{s:Am}{H:Hp}{E:XK}{CL:ClA}{W:XW}
theorem J9{s:Am}(I:Inv X pI Z H s) : ∀ b∈frs X.stack,b∈X.fs\/X.s₀.heap.get? b=Af:=λb hb=>by
 rcases AS.mp (I.stkSub b hb) with z|z
 .exact .inr (by rw[z];exact Ci I.ok.above)
 .exact .inl z
theorem Gp{s:Am}{b:Ai}(I:Inv X pI Z H s)(hx:X.ex=[])(h:s.heap.get? b=Af):X.s₀.heap.get? b=Af:=by
 cases q:X.s₀.heap.get? b with
 |none=>rfl
 |some o=>
  obtain⟨o',z⟩:=I.base.there b o q (by rw[hx];simp)
  rw[h]at z;cases z
theorem W9(hE : ∀ x cls dx H',W x H'->D1 K CL H' cls dx x->E cls dx H') : ∀ A',G4 (CXR P w) (D5 (CXR P w) P w K mg base N qual scope f cd A outer s H E) (EKW K CL A' W):=by
 intro A' pI Z H1 s1 ev s2 I h;obtain⟨e,T,cls,dx,H',rfl,os,bare,un,hok,fl,he,hT,ne,nT,x,xr,wx⟩:=h;have I':=I.call' (s':=s2) (ch:=[]) os un hok bare (λb z=>absurd z (by simp))
 have hb0:Un (frs outer) [] H H' s.heap s2.heap:=I'.base;show As (model P w) (A.deeper (Db qual scope s.heap.objs.size f cd)) (leaving (Db qual scope s.heap.objs.size f cd) (.ref e)) _ _ s2;refine R1 (L:=s.heap.objs.size) I'.ok.frames rfl I'.stack fl λh' T' fl' sh hT' => ?_
 have e0:s.heap.get? e=Af:=Gp I rfl ne;have T0:s.heap.get? T=Af:=Gp I rfl nT;refine⟨e,T',cls,dx,H',rfl,I'.os,bare,Un.shift hb0 sh ?_ (J9 I'),HOk.shift hok sh ?_ I'.stkFree,fl',he,?_,e0,?_,?_⟩
 .intro b hb;rcases AS.mp hb with rfl|hb
  .exact e0
  .rw[Bp.mp hb];exact T0
 .intro b hb;rcases AS.mp hb with rfl|hb
  .exact he
  .rw[Bp.mp hb];exact hT
 .rcases hT' with rfl|z
  .exact hT
  .exact F5 hok z
 .rcases hT' with rfl|z
  .exact T0
  .exact Gp I' rfl z
 .exact hE x cls dx H' wx xr
theorem rzR(hE : ∀ x cls dx H',W x H'->D1 K CL H' cls dx x->E cls dx H'):HU (D5 (CXR P w) P w K mg base N qual scope f cd A outer s H E) CL W:=by
 intro pI Z H1 s1 e C dx t x I e0 he ge xr hw;have hb0:Un (frs outer) [] H H1 s.heap s1.heap:=I.base;have e0':s.heap.get? e=Af:=e0 rfl;show As (model P w) (A.deeper (Db qual scope s.heap.objs.size f cd)) (leaving (Db qual scope s.heap.objs.size f cd) (.ref e)) _ _ s1;refine QY (cls := .ref C) (dx:=dx) (L:=s.heap.objs.size) I.ok.frames rfl I.stack ge rfl rfl rfl (a0 := .ref t) rfl rfl λh' T' fl' sh hT' => ?_
 have one : ∀{Z_:Ai->Prop},Z_ e -> ∀ b∈[e],Z_ b:=λ{Z_} z b hb=>by rw[Bp.mp hb];exact z
 exact⟨e,T',.ref C,dx,H1,rfl,I.os,I.bare,Un.shift hb0 sh (one e0') (J9 I),HOk.shift I.hok sh (one (Z_:=λb=>H1 b=Af) he) I.stkFree,fl',he,F5 I.hok hT',e0',Gp I rfl hT',hE x _ dx H1 hw xr⟩
theorem Yj:Dx (model P w) (D5 (CXR P w) P w K mg base N qual scope f cd A outer s H E).A (D5 (CXR P w) P w K mg base N qual scope f cd A outer s H E).env (D5 (CXR P w) P w K mg base N qual scope f cd A outer s H E).xe:=PassesOwn.leaving
end
noncomputable def veB:Ad Ah:=[.type "ValueError",.type "Exception",.type "BaseException",.type "object"]
noncomputable def Cd(K:Fg)(C:Ai)(v:An Ah):Aj:=match K.lookup C with
  | some ⟨.type "type",_,.cls c,z⟩=>(match c.mro,z.toList with
    |.ref c0::tl,[_,_,_,_,Aa (.builtin nw),_]=>c0==C&&(nw == "ValueError.__new__" && (!c.hasDel&&(PySem.W.tailIn K veB tl&&(QF K c.ns&&Bj K c.ns "__init__" == Aa v))))
    | _,_=>Ac)
  |_=>Ac
theorem Tp(q:FX K C veB "ValueError.__new__" = Ab):Cd K C Af=Ab:=by
 unfold FX at q;unfold Cd;split at q
 .rename_i dd cd sl ho;split at q
  .rename_i C' bm k0 k1 k2 k3 n k5 hm hs;simp only[Al]at q;obtain⟨⟨⟨⟨⟨h1,h2⟩,h3⟩,h4⟩,h5⟩,h6⟩:=q;simp only[ho,hm,hs,Al];exact⟨h1,h2,h3,h4,h5,h6⟩
  .cases q
 .cases q
structure XcOk (K:Fg) (C:Ai):Prop where
 exc : ∃ v,Cd K C v=Ab
 ga:Av K (.ref C) "__getattribute__" = Aa (Aa (.builtin "BaseException.__getattribute__"))
 gt:Av K (.ref C) "__getattr__" = Aa Af
 cl:Av K (.ref C) "__class__" = Aa (Aa (.builtin "object.__class__"))
 ob:BW K C (.type "object")=Aa Ab
 be:Bh K (.ref C) (.type "BaseException")=Aa Ab
 cs:(Cj K C).isSome=Ab
 ve:BZ K (.ref C) (.type "ValueError")=Aa Ab
noncomputable def XAt(e C:Ai)(h:Ay):Prop := ∃ o,h.get? e=Aa o/\o.cls = .ref C
theorem V9{N:Ai}{v:Ah}(X:K.In h)(G:h.Ns N m)(q:Bj K N x=Aa (Aa v)):m x=Aa v:=by
 obtain⟨ob,es,ep,g,dt,_,fd⟩:=G;unfold Bj at q;split at q
 .rename_i es' n' sl lk;have g':=X _ _ lk;rw[g]at g';cases g';cases dt;split at q
  .rename_i hf;cases q;rw[<-fd];unfold nsFind findBy;rw[<-Array.find?_toList,hf];rfl
  .by_cases z:(es.toList.any λy=>y.refKey)=Ab
   .rw[AX z]at q;cases q
   .rw[A8 z]at q;cases q
 .cases q
theorem Ho{h0:Ay}(X0:K.In h0)(q:Cd K C v=Ab):
  ∃ bm N nm qn bs hd sn sub ab col dd k0 k1 k2 k3 k5 mN,(∀ h:Ay,K.In h->h.get? C=Aa (Bq nm qn C N bs bm hd sn sub ab col dd k0 k1 k2 k3 k5 "ValueError.__new__")/\h.Ns N mN/\Cu h veB bm)/\mN "__init__" = v/\bm.contains (.type "BaseException")=Ab:=by
 unfold Cd at q;split at q
 .rename_i dd cd sl ho;split at q
  .rename_i C' bm k0 k1 k2 k3 n k5 hm hs;simp only[Al,AH,Bg]at q;obtain⟨rfl,rfl,hdel,ht,hok,hni⟩:=q;obtain⟨nm,bs,mro,ns,qn,hd,sn,sub,ab,col,del⟩:=cd;dsimp only at hm hdel hok hni;subst hm hdel;have hsl:sl = #[k0,k1,k2,k3,Aa (.builtin "ValueError.__new__"),k5]:=by
    obtain⟨l⟩:=sl;simp only at hs;rw[hs]
   subst hsl;have kN : ∃ o,K.lookup ns=Aa o:=by
    unfold QF at hok;split at hok
    .rename_i z;exact⟨_,z⟩
    .cases hok
   obtain⟨oN,hoN⟩:=kN;have nsAt : ∀ h:Ay,K.In h->h.Ns ns (h0.nsMap ns):=λh X=>by
    obtain⟨o,es,ep,e1,r⟩:=Heap.Ns.of_isNs (QB X0 hok);have e2:=X0 _ _ hoN;rw[e1]at e2;cases e2;exact⟨_,es,ep,X _ _ hoN,r⟩
   refine⟨bm,ns,nm,qn,bs,hd,sn,sub,ab,col,dd,k0,k1,k2,k3,k5,h0.nsMap ns,λh X=>⟨X _ _ ho,nsAt h X,QG X ht⟩,?_,(QG X0 ht).hasType (by decide)⟩
   cases v with
   |none=>exact PySem.W.nsMap_none_of_in X0 hok hni
   |some u=>exact V9 X0 (.of_isNs (QB X0 hok)) hni
  .cases q
 .cases q
theorem UO(X:K.In h)(q:Cd K C v=Ab):
  ∃ bm N nm qn bs hd sn sub ab col dd k0 k1 k2 k3 k5 mN,h.get? C=Aa (Bq nm qn C N bs bm hd sn sub ab col dd k0 k1 k2 k3 k5 "ValueError.__new__")/\h.Ns N mN/\mN "__init__" = v/\Cu h veB bm:=by
 obtain⟨bm,N,nm,qn,bs,hd,sn,sub,ab,col,dd,k0,k1,k2,k3,k5,mN,ho,hi,_⟩:=Ho X q;obtain⟨o1,o2,o3⟩:=ho h X;exact⟨bm,N,nm,qn,bs,hd,sn,sub,ab,col,dd,k0,k1,k2,k3,k5,mN,o1,o2,hi,o3⟩
section
variable{prog:AE}{w:Ar}{A:AN}{E:Ah->Am->Prop}{h:Ay}{g:Bb CV}{d:Fd}{t:Ae}{os:EO}{K:Fg}{e C:Ai}
theorem F6(p:XAt e C h):PySem.W.Looks M h (typeOf (.ref e)) (.ref C):=by
 obtain⟨o,h1,h2⟩:=p;exact h2 ▸ (PySem.W.Looks.ld h1).andThen .now
theorem R9{R:Fv->Am->Prop}{tp:Ah}(X:K.In h)(p:XAt e C h)(hm:BW K C (.type "object")=Aa Ab)(hq:R (.ok (.ret (.ref C))) ⟨h,g,d,t,os⟩):
  DG (model prog w) A (.call (.builtin "getset_descriptor.__get__") ⟨[.builtin "object.__class__",.ref e,tp],[]⟩) R ⟨h,g,d,t,os⟩:=by
 have L0:=F6 (M:=model prog w) p;have L1:=PySem.W.looks_mroIn (M:=model prog w) X hm;refine CD PySem.W.KF.slot_gs.plain PySem.W.KF.entry_gs (PySem.W.KF.slot_gs.check _ _ _ _ _ _ _ _ PySem.W.KF.type_class (PySem.W.KF.args_gs _ _ _) ?_);unfold Builtin.«getset_descriptor.__get__» Builtin.Getset_descriptor.descrGet;rw[PySem.W.dga_obj];refine Au (Bo ?_);unfold Builtin.Getset_descriptor.descrGetter Builtin.Getset_descriptor.descrCheckInstance Builtin.Getset_descriptor.descrNameAndClass FH;simp only[PySem.W.KF.owner_class]
 repeat lk
 refine⟨Ez _ (by decide+kernel),codeAny_builtin PySem.W.KF.entry_class ?_⟩
 unfold Builtin.«object.__class__» shownTypeOf
 repeat lk
 exact hq
theorem Q4{Q:Fin->Am->Prop}(X:K.In h)(x:XcOk K C)(p:XAt e C h)(hq:Q (.done (.ret (.ref C))) ⟨h,g,d,t,os⟩):
  As (model prog w) A (Builtin.«object.__getattribute__» ⟨[.ref e,.str "__class__" tk],[]⟩) Q E ⟨h,g,d,t,os⟩:=by
 have L0:=F6 (M:=model prog w) p;have L1:=BJ (M:=model prog w) X x.cl;have hT5:(⟨h,g,d,t,os⟩:Am).TypeIs (.builtin "object.__class__") "getset_descriptor" := Qa;have f5:=Qa;have f6:=F.slot_gs_get.lookup;have f7:=F.slot_gs_set.lookup
 repeat (any_goals (first|assumption|with_reducible refine L0.at ?_|with_reducible refine L1.at ?_|wp_step))
 refine R9 X p x.ob ?_
 repeat (any_goals (first|assumption|wp_step))
theorem LB{nameV:Ah}(X:K.In h)(x:XcOk K C)(p:XAt e C h)(hq:Q () ⟨h,g,d,t,os⟩):As M A (DW "BaseException.__getattribute__" ⟨[.ref e,nameV],[]⟩) Q E ⟨h,g,d,t,os⟩:=by
 have hk:builtinKind "BaseException.__getattribute__" = Aa .slot:=by decide+kernel
 have hsplit:splitId "BaseException.__getattribute__" = Aa ("BaseException", "__getattribute__"):=by decide+kernel
 have L0:=F6 (M:=M) p;have L1:=QE (M:=M) X x.be;have ha:=F.args_bexc_ga (.ref e) nameV;simp only[DW,hk,hsplit];refine Au ?_
 .unfold FH
  repeat (first|(with_reducible refine Au (L0.at ?_))|(with_reducible refine L1.at ?_)|wp_step)
  exact hq
theorem Tq{Q:Ah->Am->Prop}(X:K.In h)(x:XcOk K C)(p:XAt e C h)(hq:Q (.ref C) ⟨h,g,d,t,os⟩):As (model prog w) A (getAttrBy (.ref e) (.str "__class__" tk) fill expr) Q E ⟨h,g,d,t,os⟩:=by
 have L0:=F6 (M:=model prog w) p;have L1:=BJ (M:=model prog w) X x.ga;have L2:=BJ (M:=model prog w) X x.gt;have f3:=DI.ga.bind (.ref e);have hx0:(expr&&F3 (BK "BaseException.__getattribute__"))=Ac:=by cases expr <;> rfl
 have hx2:(BK "BaseException.__getattribute__" == BK "object.__getattribute__")=Ac:=by decide+kernel
 have hx1:(F3 (BH C)&&BK "BaseException.__getattribute__" == BK "object.__getattribute__")=Ac:=by rw[hx2];rfl
 repeat (any_goals (first|assumption|with_reducible refine L0.at ?_|with_reducible refine L1.at ?_|with_reducible refine L2.at ?_|wp_step))
 refine CD DI.ga.plain P6 (LB X x p (Q4 X x p ?_))
 repeat (any_goals (first|assumption|wp_step))
theorem Rr{Q:An Ah->Am->Prop}(X:K.In h)(x:XcOk K C)(p:XAt e C h)(hq:Q (Aa (.ref C)) ⟨h,g,d,t+1,os⟩):As (model prog w) A (getAttr? (.ref e) "__class__") Q E ⟨h,g,d,t,os⟩:=by
 unfold getAttr? getAttrBy?
 repeat (any_goals (first|assumption|with_reducible apply Tq X x p|wp_step))
end
theorem Mh{e C:Ai}(x:XcOk K C):PySem.W.KitX K (.ref e) (.ref C) (XAt e C) where
 ty:=λM h _ p=>F6 p
 it:=λM h X _=>by
  obtain⟨cd,hc⟩:=BS.mp x.cs;unfold Cj at hc;split at hc
  .rename_i c' d' cd' sl' ho;intro A' Q' E' s' k q;unfold isType loadHead;exact Au (wpAny_loadPart (k _ _ (X _ _ ho)) (Bo q))
  .cases hc
 ne:=λh tp dd its n sl X htp=>by
  obtain⟨cd,hc⟩:=BS.mp x.cs;refine Bool.eq_false_iff.mpr λq => ?_
  have e:C=tp:=FW (AH.mp q);subst e;unfold Cj at hc;split at hc
  .rename_i c' d' cd' sl' ho;have z:=(X _ _ ho).symm.trans htp;cases z
  .cases hc
 ca:=λ{_ _ _ _ _ s} X p k=>by
  obtain⟨h,g,d,t,os⟩:=s;exact Rr X x p k
theorem RC{A:AN}{E:Ah->Am->Prop}{g:Bb CV}{d:Fd}{t:Ae}{os:EO}{e C C':Ai}{b:Aj}{Q:Aj->Am->Prop}(X:K.In h)(p:XAt e C h)(x':XcOk K C')(hs:Bh K (.ref C) (.ref C')=Aa b)(hq:Q b ⟨h,g,d,t,os⟩):As M A (excMatches (.ref e) (.ref C')) Q E ⟨h,g,d,t,os⟩:=by
 obtain⟨bm,N,nm,qn,bs,hd,sn,sub,ab,col,dd,k0,k1,k2,k3,k5,mN,hC',_,_,T⟩:=UO X x'.exc.choose_spec;have hcB:(BH C'::bm).contains (.type "BaseException")=Ab:=by rw[Ew,T.hasType (show veB.contains (.type "BaseException")=Ab by decide),EU]
 have L0:=F6 (M:=M) p;have L1:=QE (M:=M) X hs;have f:=tc_notTuple;unfold excMatches
 repeat (first|(with_reducible refine Au (L0.at ?_))|(with_reducible refine L1.at ?_)|(with_reducible refine Au (L1.at ?_))|with_reducible refine Bx hC' ?_|(with_reducible refine Di hC' ?_;rw[hcB])|wp_step)
 all_goals first|exact hq|(cases b <;> (wp_walk;exact hq))
noncomputable def D2(X:Cx)(pI:Ad (Ai × AD))(e:Ai):Prop:=e≠X.env.locals/\(∀ x c,X.env.cells.lookup x=Aa c->c≠e)/\(∀ p∈X.pn++pI,p.1≠e)/\X.s₀.heap.get? e=Af
section
variable{X:Cx}{pI:Ad (Ai × AD)}{Z:L2.St}{H:Hp}{s:Am}{e:Ai}
theorem Gk(I:Inv X pI Z H s)(hx:X.ex=[])(h:s.heap.get? e=Af):D2 X pI e:=by
 refine⟨?_,λx c q z => ?_,λp hp z => ?_,Gp I hx h⟩
 .rintro rfl;obtain⟨m,⟨o,_,_,ho,_⟩,_⟩:=I.loc;rw[h]at ho;cases ho
 .obtain⟨v,o,ho,_⟩:=I.cell x c q;rw[z,h]at ho;cases ho
 .obtain⟨q,_⟩:=I.pin p hp;rw[z,h]at q;cases q
theorem Mb{ex:Ad Ai}(I:Inv X pI Z H s)(hx:X.ex=[])(sh:Shift ex (frs X.stack) s.heap h')(ha : ∀ b∈ex,D2 X pI b)(hH : ∀ b∈ex,H b=Af):Inv X pI Z H {s with heap:=h'}:=by
 have kp : ∀ b o,s.heap.get? b=Aa o->b ∉ ex -> ∃ sl,h'.get? b=Aa {o with slots:=sl}:=λb o q n=>by
  by_cases hb:b∈frs X.stack
  .exact sh.slot b o q hb
  .exact⟨o.slots,sh.keep b o q n hb⟩
 have cellK : ∀ x c,X.env.cells.lookup x=Aa c -> ∀ v,s.heap.IsCell c v->h'.IsCell c v:=λx c q v ⟨o,ho,hd⟩=>by
  obtain⟨sl,z⟩:=kp c o ho λz=>(ha c z).2.1 x c q rfl
  exact⟨_,z,hd⟩
 refine⟨I.ok,I.os,I.bare,?_,?_,λx c q => ?_,I.free,I.freeC,λp hp => ?_,HOk.shift I.hok sh hH I.stkFree,I.len⟩
 .have b0:=I.base;rw[hx]at b0 ⊢;exact Un.shift b0 sh (λb hb=>(ha b hb).2.2.2) (J9 I)
 .obtain⟨m,⟨o,es,ep,ho,r⟩,hl⟩:=I.loc;obtain⟨sl,z⟩:=kp _ o ho λz=>(ha _ z).1 rfl
  refine⟨m,⟨_,es,ep,z,r⟩,λi x v e1 e2 e3 => ?_⟩
  obtain⟨u,ru,l⟩:=hl i x v e1 e2 e3;refine⟨u,ru,?_⟩;rcases l with l|⟨k,c,q,z⟩
  .exact .inl l
  .exact .inr ⟨k,c,q,cellK x c q _ z⟩
 .obtain⟨v,z⟩:=I.cell x c q;exact⟨v,cellK x c q v z⟩
 .obtain⟨q,n,ne,nf,d⟩:=I.pin p hp;exact⟨sh.keep p.1 p.2 q (λz=>(ha p.1 z).2.2.1 p hp rfl) (λz=>(AS.mp (I.stkSub p.1 z)).elim ne nf),n,ne,nf,d⟩
theorem L9(I:Inv X pI Z H s)(hx:X.ex=[])(ha:D2 X pI e)(hH:H e=Af)(ho : ∃ o,s.heap.get? e=Aa o)(p:φ s.heap)(hφ : ∀ h1 h2:Ay,φ h1->(∀ o,h1.get? e=Aa o->h2.get? e=Aa o)->φ h2):Inv X pI Z (upd H e (.ext φ)) s:=by
 have ne : ∀ b o,H b=Aa o->b≠e:=λb o q z=>by rw[z,hH]at q;cases q
 refine⟨I.ok,I.os,I.bare,⟨I.base.keep,I.base.slot,λb o q n hb => ?_,I.base.there,λb xs q => ?_,λb o u q => ?_,λb ps q => ?_⟩,I.loc,I.cell,?_,λx c q => ?_,λp hp => ?_,λb o q => ?_,I.len⟩
 .rw[Ba λz=>by rw[z,ha.2.2.2]at q;cases q]
  exact I.base.free b o q n hb
 .have:=I.base.tups b xs q;rw[Ba (ne _ _ this)];exact this
 .have:=I.base.frzs b o u q;rw[Ba (ne _ _ this)];exact this
 .obtain⟨more,this⟩:=I.base.tbls b ps q;exact⟨more,by rw[Ba (ne _ _ this)];exact this⟩
 .rw[Ba λz=>ha.1 z.symm];exact I.free
 .rw[Ba (ha.2.1 x c q)];exact I.freeC x c q
 .obtain⟨q,n,r⟩:=I.pin p hp;exact⟨q,by rw[Ba (ha.2.2.1 p hp)];exact n,r⟩
 .by_cases hb:b=e
  .subst hb;rw[CY]at q;cases q;exact⟨p,ho,hφ⟩
  .rw[Ba hb]at q;exact(I.hok b o q).stay (λc v hc z=>z) (λc z=>by rw[Ba (ne _ _ z)];exact z) λc zs z=>by rw[Ba (ne _ _ z)];exact z
theorem Re{i:Ae}{n:Ag}{tk:Ae}(I:Inv X pI Z H s)(hN:X.N.Nodup)(hi:X.N[i]? = Aa n)(hn:s.heap.Ns X.env.locals m)(hn':h'.Ns X.env.locals (λx=>if x=n then v else m x))(hs:EZ X.env.locals s.heap h'):Inv X pI (Z.set i Af) H {s with heap:=h',toks:=tk}:=by
 obtain⟨m0,hn0,hl⟩:=I.loc;have em:m0=m:=by
  obtain⟨o,es,ep,h1,h2,_,h3⟩:=hn0;obtain⟨o',es',ep',h1',h2',_,h3'⟩:=hn;rw[h1]at h1';cases h1';rw[h2]at h2';cases h2'
  funext y
  rw[<-h3,<-h3']
 subst em;obtain⟨oL,_,_,hoL,_⟩:=id hn;have lt : ∀ b o,X.s₀.heap.get? b=Aa o->b≠X.env.locals:=λb o q=>Bs (AF (AA q) I.ok.above)
 refine⟨I.ok,I.os,I.bare,⟨λb o q n hb hx => ?_,λb o q n hb hx => ?_,I.base.free,λb o q hx => ?_,I.base.tups,I.base.frzs,I.base.tbls⟩,⟨_,hn',λj y v' e1 e2 e3 => ?_⟩,λy c q => ?_,I.free,I.freeC,λp hp => ?_,λb ob q => ?_,by rw[A1];exact I.len⟩
 .exact(hs.2 b (lt b o q)).trans (I.base.keep b o q n hb hx)
 .obtain⟨sl,e1⟩:=I.base.slot b o q n hb hx;exact⟨sl,(hs.2 b (lt b o q)).trans e1⟩
 .obtain⟨o',e1⟩:=I.base.there b o q hx;exact⟨o',(hs.2 b (lt b o q)).trans e1⟩
 .by_cases hj:i=j
  .subst hj;have:=Eo e2;cases this
  .rw[BG hj]at e2;obtain⟨u',r',q⟩:=hl j y v' e1 e2 e3;refine⟨u',r',?_⟩;rcases q with ⟨k,e⟩|⟨k,c,e,z⟩
   .refine .inl ⟨k,?_⟩;have:y≠n:=λe=>hj (JE hN hi (e ▸ e1))
    simp[this,e]
   .exact .inr ⟨k,c,e,z.sameBut hs (I.cne y c e)⟩
 .obtain⟨w',z⟩:=I.cell y c q;exact⟨w',z.sameBut hs (I.cne y c q)⟩
 .obtain⟨q,n,ne,nf,d⟩:=I.pin p hp;exact⟨(hs.2 p.1 ne).trans q,n,ne,nf,d⟩
 .refine(I.hok b ob q).stay (λc w' hc z=>(hs.2 c ?_).trans z) (λ_ q=>q) λ_ _ q=>q
  rintro rfl;have hfree:=I.free;rcases hc with z|hc
  .rw[<-z,hfree]at q;cases q
  .rw[hfree]at hc;cases hc
end
noncomputable def Cx.hot(X:Cx)(e:Ai):Cx := {X with A:=X.A.mark (Aa (.ref e)),calm:=Ac,xe:=λ_ _=>AT}
section
variable{X:Cx}{pI:Ad (Ai × AD)}{Z:L2.St}{H:Hp}{s:Am}{e:Ai}
theorem V8(ok:X.Ok):(Cx.hot X e).Ok:=⟨ok.mod,ok.kind,ok.glob,ok.blt,ok.above,ok.inj,ok.has,ok.cab,λz=>(nomatch z),ok.frames,ok.stk,ok.exf,ok.bs,ok.bsz,ok.noex,ok.exfs,ok.funs,ok.frf⟩
theorem MA(I:Inv X pI Z H s)(e:Ai):Inv (Cx.hot X e) pI Z H s:=⟨V8 I.ok,I.os,I.bare,I.base,I.loc,I.cell,I.free,I.freeC,I.pin,I.hok,I.len⟩
theorem Su(ok:X.Ok)(I:Inv (Cx.hot X e) pI Z H s):Inv X pI Z H s:=⟨ok,I.os,I.bare,I.base,I.loc,I.cell,I.free,I.freeC,I.pin,I.hok,I.len⟩
theorem Sx.unset(x:Sx K CL Fz B Y Z H)(i:Ae):Sx K CL Fz B (Y.set i Af) (Z.set i Af) H:=by
 have get : ∀(j:Ae)(y:D × Aj),(Y.set i Af)[j]? = Aa (Aa y)->i≠j/\Y[j]? = Aa (Aa y):=λj y h=>by
  by_cases hj:i=j
  .subst hj;have:=Eo h;cases this
  .exact⟨hj,by rw[BG hj]at h;exact h⟩
 have sub : ∀ a,Bm B (Y.set i Af) (Z.set i Af) a->Bm B Y Z a:=λa h=>by
  rcases h with h|⟨j,d,h1,h2⟩
  .exact .inl h
  .obtain⟨hj,h1⟩:=get j _ h1;rw[BG hj]at h2;exact .inr ⟨j,d,h1,h2⟩
 refine⟨⟨λj d h => ?_,λj d h => ?_,by rw[A1,A1];exact x.len⟩,λa h=>x.aok a (sub a h),λj d a h1 h2 => ?_,λj k d f a h1 h2 h3 h4 => ?_,x.same,by rw[A1,A1];exact x.len⟩
 .obtain⟨hj,h1⟩:=get j _ h;obtain⟨v,q,r⟩:=x.good.sh j d h1;exact⟨v,by rw[BG hj];exact q,Rep.sub sub _ r⟩
 .obtain⟨hj,h1⟩:=get j _ h;obtain⟨a,xs,ds,q,z,ha,hh,rr⟩:=x.good.ow j d h1;exact⟨a,xs,ds,by rw[BG hj];exact q,z,.inr ⟨j,d,h,by rw[BG hj];exact q⟩,hh,Reps.sub sub _ rr⟩
 .obtain⟨hj,h1⟩:=get j _ h1;rw[BG hj]at h2;exact x.new j d a h1 h2
 .obtain⟨hj,h1⟩:=get j _ h1;obtain⟨hk,h2⟩:=get k _ h2;rw[BG hj]at h3;rw[BG hk]at h4;exact x.dis j k d f a h1 h2 h3 h4
end
noncomputable def FR(e C:Ai)(dx:An Ai)(h:Ay):Prop := ∃ o,h.get? e=Aa o/\o.cls = .ref C/\o.dict=dx /\ ∃ us,o.data = .fields us
noncomputable def GB(X:Cx)(CL:ClA)(pI:Ad (Ai × AD))(Z:L2.St)(H:Hp)(y:Ex)(Xw:Ah->Am->Prop):Prop:=
 ∀ s' H' e T cls dx,Inv X pI Z H' s'->At H H'->Fly e T cls dx s'.heap->H' e=Af->H' T=Af->D2 X pI e->D2 X pI T->D1 X.K CL H' cls dx y->Xw (.ref e) s'
noncomputable def STB(X:Cx)(CL:ClA)(body:Ad AC)(f:Rho->O):Prop := ∀ Fz B pI s Z H D Y (Xw:Ah->Am->Prop),Dx (model X.prog X.w) X.A X.env Xw->Inv X pI Z H s->Sx X.K CL Fz B Y Z H ->
  (match f Y with
   |.exn y Y'=>Y'=Y->GB X CL pI Z H y Xw
   | o=>BA X.K CL Fz B (λ_ _=>AT) o D)->(∀ y Y',f Y = .exn y Y'->Y'=Y)->As (model X.prog X.w) X.A (execs body X.env) (SP X pI D) Xw s
noncomputable def OA(up:Ae->Ad Ae)(c i:Ae)(o:O)(fh:Rho->O):O:=match o with
  | .exn y Y'=>if (up y.c).contains c=Ab then (match fh (Y'.set i (Aa (.exc y.c y.fs,Ac))) with
      |.next Y'' => .next (Y''.set i Af)
      |.ret d f => .ret d f
      | _ => .bad) else .bad
  |o=>o
theorem UK{i:Ae}{g n:Ag}{b:Aj}{Bi:Ad Dc}{s1:Am}{Y':Rho}{D:Ends}{e T1:Ai}{y:Ex}(hx:X.ex=[])(hN:X.N.Nodup)(hi:X.N[i]? = Aa n)(hl:X.env.scope.names.lookup n=Aa .local)(hg:Gl X g)(hm:X.mg g=Aa (.ref C'))(hdb:(g==("__debug__" : Ag))=Ac)(xc:XcOk X.K C')(hsu:Bh X.K (.ref C) (.ref C')=Aa b)(hh : ∀ e,SSs (Cx.hot X e) CL (λ_ _=>AT) (h0::hs) fh)(I1:Inv X pI Z H' s1)(fl1:Fly e T1 (.ref C) dx s1.heap)(ae:D2 X pI e)(aT1:D2 X pI T1)(he:H' e=Af)(HT1:H' T1=Af)(gx:Sx X.K CL Fz B Y' Z H')(hcl:CL y.c=Aa C)(xr:D1 X.K CL H' (.ref C) dx y)(p2:b=Ab->BA X.K CL Fz B W (hdO i y Y' fh) D)(p3:b=Ac->As (model X.prog X.w) X.A (Gj (.ref e) X.env Bi) (SP X pI D) X.xe s1):As (model X.prog X.w) X.A (Gj (.ref e) X.env (.ExceptHandler (Aa (.Name g p1)) (Aa n) (h0::hs) hp::Bi)) (SP X pI D) X.xe s1:=by
 obtain⟨Cx0,hcl0,ecl,hfs⟩:=xr (Bm B Y' Z) gx.aok;have xat : ∀{h:Ay}{T:Ai},Fly e T (.ref C) dx h->XAt e C h:=λ{h T} z=>by
  obtain⟨oe,_,_,_,_,z1,z2,_⟩:=z;exact⟨oe,z1,z2⟩
 have xad : ∀{h:Ay}{T:Ai},Fly e T (.ref C) dx h->FR e C dx h:=λ{h T} z=>by
  obtain⟨oe,vs,_,_,_,z1,z2,z3,_,z4,_⟩:=z;exact⟨oe,z1,z2,z3,vs,z4⟩
 have two : ∀{T:Ai}{Z_:Ai->Prop},Z_ e->Z_ T -> ∀ b∈[e,T],Z_ b:=λ{T Z_} h1 h2 b hb=>by
  rcases AS.mp hb with rfl|hb
  .exact h1
  .rw[Bp.mp hb];exact h2
 refine wpAny_handleBy_cons (codeAny_handlers_test (FI (X:=Cx.hot X e) (MA I1 e) hg hm ?_ hdb)) (by intro q;cases q)
 refine RC (K:=X.K) I1.kIn (xat fl1) xc hsu ?_;cases b with
 |false=>exact p3 rfl
 |true=>
 have p2:=p2 rfl;refine codeAny_handlers_suite_as ?_;refine R3 (base:=X.base) (l:=X.stack) I1.stack fl1 λh3 T3 fl3 sh3 hT3 => ?_
 have I3:=Mb I1 hx sh3 (two ae aT1) (two (Z_:=λb=>H' b=Af) he HT1)
 obtain⟨oe,oeg,oec⟩:=xad fl3;have I3':=L9 (φ:=FR e C dx) I3 hx ae he ⟨oe,oeg⟩ ⟨oe,oeg,oec⟩ λh1 h2 ⟨o,q1,q2⟩ k=>⟨o,k o q1,q2⟩
 have sm3:At H' (upd H' e (.ext (FR e C dx))):=λb o q=>by rw[Ba λz=>by rw[z,he]at q;cases q];exact q
 refine JG (X:=Cx.hot X e) (i:=i) (v := .ref e) (MA I3' e) hN hi (.inl hl) rfl (λs4 I4 => ?_) (.inr hl)
 have x3:=gx.grow sm3;have nA : ¬ Bm B Y' Z e:=λz=>by
  obtain⟨xs,q⟩:=x3.aok e z;rw[CY]at q;cases q
 have rp:Rep X.K CL (upd H' e (.ext (FR e C dx))) (Bm B Y' Z) (.ref e) (.exc y.c y.fs):=by
  refine⟨e,C,FR e C dx,rfl,nA,hcl,CY,λh ⟨o,z1,z2,_⟩=>⟨o,z1,z2⟩,?_⟩
  rcases hfs with z|⟨d,vs,ed,nd,hd,rf⟩
  .exact .inl z
  .exact .inr ⟨d,vs,nd,sm3 _ _ hd,Repf.kp (Kp.of sm3) _ rf,λh ⟨o,z1,_,z3,z4⟩=>⟨o,z1,z3.trans ed,z4⟩⟩
 have x4:=x3.set i rp;have fin : ∀{s5:Am}{Z5:L2.St}{H5:Hp}{Q:Dj->Am->Prop},Inv (Cx.hot X e) pI Z5 H5 s5->(∀ s6,Inv X pI (Z5.set i Af) H5 s6->Q () s6)->As (model X.prog X.w) X.A (do bindName X.env n .none;unbindBehindTheSuite X.env n hp) Q X.xe s5:=λ{s5 Z5 H5 Q} I5 k=>by
  have I5':=Su I1.ok I5;obtain⟨m,hn,_⟩:=id I5'.loc;refine wpAny_nameGoes_keeps hl hn (by rw[I1.ok.kind];rfl) λh6 v6 hn6 sb6 => ?_
  exact k _ (Re I5' hN hi hn hn6 sb6)
 refine A2 (hh e Fz B pI s4 _ _ {nx:=λZ5 H5=>D.nx (Z5.set i Af) H5,rt:=D.rt} I4 ⟨_,x4,?_⟩) (λf s5 hf => ?_) λ_ _ z=>AY z
 .unfold hdO at p2;cases ef:fh (Y'.set i (Aa (.exc y.c y.fs,Ac))) with
  |next Y''=>rw[ef]at p2;exact λZ5 H5 x5=>p2 _ _ (x5.unset i)
  |ret d b=>rw[ef]at p2;exact p2
  |brk _=>rw[ef]at p2;exact p2.elim
  |cont _=>rw[ef]at p2;exact p2.elim
  |exn _ _=>rw[ef]at p2;exact p2.elim
  |bad=>rw[ef]at p2;exact p2.elim
 .cases f with
  |next=>
   obtain⟨Z5,H5,I5,q⟩:=hf;exact fin I5 λs6 I6=>⟨_,H5,I6,q⟩
  |ret u=>
   obtain⟨v,Z5,H5,I5,r,q⟩:=hf;exact fin I5 λs6 I6=>⟨v,_,H5,I6,r,q⟩
  |brk=>obtain⟨_,_,_,q⟩:=hf;exact AY q
  |cont=>obtain⟨_,_,_,q⟩:=hf;exact AY q
noncomputable def OK(X:Cx)(CL:ClA)(up:Ae->Ad Ae)(g:Ag)(c:Ae):Prop := ∃ C',Gl X g/\X.mg g=Aa (.ref C')/\(g==("__debug__" : Ag))=Ac/\XcOk X.K C' /\ ∀ c' C,CL c'=Aa C->Bh X.K (.ref C) (.ref C')=Aa ((up c').contains c)
theorem RE{y:Ex}{Q:Flow->Am->Prop}{hd:Ad Dc}(hx:X.ex=[])(hst:X.stack=X.env::X.outer)(hfm:X.env.frame=Aa X.env.locals)(k : ∀ e T1 cls dx H' s1,Inv X pI Z H' s1->At H H'->Fly e T1 cls dx s1.heap->D2 X pI e->D2 X pI T1->H' e=Af->H' T1=Af->D1 X.K CL H' cls dx y->As (model X.prog X.w) X.A (Gj (.ref e) X.env hd) Q X.xe s1):GB X CL pI Z H y (λev s1=>As (model X.prog X.w) X.A (EA ev X.env) (λ_ s2=>As (model X.prog X.w) X.A (Fh ev Af) (λ_ s3=>As (model X.prog X.w) X.A (Gj ev X.env hd) Q X.xe s3) X.xe s2) X.xe s1):=by
 intro s' H' e T cls dx I' sm fl he hT ae aT xr;have two : ∀{T:Ai}{Z_:Ai->Prop},Z_ e->Z_ T -> ∀ b∈[e,T],Z_ b:=λ{T Z_} h1 h2 b hb=>by
  rcases AS.mp hb with rfl|hb
  .exact h1
  .rw[Bp.mp hb];exact h2
 have hfr:X.A.frames=Aa (X.env::X.outer):=by rw[<-hst];exact I'.ok.frames
 refine Sa (base:=X.base) hfr hfm (by rw[<-hst];exact I'.stack) fl λh1 T1 fl1 sh1 hT1 => ?_
 rw[<-hst]at sh1;exact k e T1 cls dx H' _ (Mb I' hx sh1 (two ae aT) (two (Z_:=λb=>H' b=Af) he hT)) sm fl1 ae (hT1.elim (λz=>z ▸ aT) λz=>Gk I' hx z) he (hT1.elim (λz=>z ▸ hT) λz=>F5 I'.hok z) xr
theorem VE{c i:Ae}{g n:Ag}{body:Ad AC}{fb:Rho->O}(hx:X.ex=[])(hst:X.stack=X.env::X.outer)(hfm:X.env.frame=Aa X.env.locals)(hN:X.N.Nodup)(hi:X.N[i]? = Aa n)(hl:X.env.scope.names.lookup n=Aa .local)(h1:OK X CL up g c)(hb:STB X CL body fb)(hρ : ∀ Y y Y',fb Y = .exn y Y'->Y'=Y)(hh : ∀ e,SSs (Cx.hot X e) CL (λ_ _=>AT) (h0::hs) fh):SS X CL W (.Try body [.ExceptHandler (Aa (.Name g p1)) (Aa n) (h0::hs) hp] [] [] pos) (λY=>OA up c i (fb Y) fh):=λFz B pI s Z H D I ⟨Y,x,p⟩=>by
 refine wpAny_Try_except (A2 (hb Fz B pI s Z H D Y _ PassesOwn.looking I x ?_ (hρ Y)) (λf s1 hf => ?_) λ_ _ z=>z)
 .dsimp only at p;cases eb:fb Y with
  |exn y Y'=>
   rw[eb]at p;intro e0;subst e0;have p2:BA X.K CL Fz B W (if (up y.c).contains c=Ab then hdO i y Y' fh else .bad) D:=p
   refine RE hx hst hfm λe T1 cls dx H' s1 I1 sm fl1 ae aT1 he HT1 xr => ?_
   have gx:=x.grow sm;obtain⟨C,hcl,rfl,_⟩:=xr (Bm B Y' Z) gx.aok;obtain⟨C',hg,hm,hdb,xc,hup⟩:=h1;refine UK (W:=W) hx hN hi hl hg hm hdb xc (hup y.c C hcl) hh I1 fl1 ae aT1 he HT1 gx hcl xr (λhc => ?_) (λhc => ?_)
   .rw[AX hc]at p2;exact p2
   .rw[A8 (by rw[hc];exact Aq)]at p2;exact p2.elim
  |next Y'=>rw[eb]at p;exact p
  |ret d b=>rw[eb]at p;exact p
  |brk Y'=>rw[eb]at p;exact p
  |cont Y'=>rw[eb]at p;exact p
  |bad=>rw[eb]at p;exact p.elim
 .cases f with
  |next=>exact Ds hf
  |ret u=>exact hf
  |brk=>exact hf
  |cont=>exact hf
theorem Mv{f:Ai}{sp:Sp}{E:XK}{e:Ak}{es:Ad Ak}{t:TA}(F:FnOk X.prog X.w X.K X.mg X.base CX k f fd ps sp)(hr:Room k X.A)(hg:Gl X x)(hm:X.mg x=Aa (.ref f))(hk:Be X.K (.ref f)=Ab)(hb:Ej X.K fd ps [])(hx : ∀ pI H s e s',Inv X pI Z0 H s->CX X.stack H s E e s'->X.xe e s')(ha:PA X (e::es) t)(hdb:(x==("__debug__" : Ag))=Ac)(he:Ap (e::es) X.env=(Ac,eval e X.env)::Ap es X.env)(hpl:(Bk pos (Ap es X.env)).any (·.1)=Ac):PE X (.Call (.Name x p) (e::es) [] pos) (λZ H Q=>Z=Z0/\t Z H λvs H1=>sp vs H1 Q E):=by
 intro pI s Z H Q I ⟨e0,h⟩;subst e0;refine Cq (FI I hg hm ?_ hdb);refine Dy (h₀:=X.base) I.ok.mod.kin hk (thn (ha pos pI s Z H _ I h) λus s1 ⟨vs,H1,I1,r,q⟩=>⟨I1.kIn,?_⟩) he hpl
 have hl:us.length=ps.length:=by rw[<-r.length];exact F.len _ _ _ _ q
 have hb':En s1 fd ⟨us,[]⟩ (ps.zip us):=by
  have:=hb s1 us I1.kIn (by rw[B4];exact hl)
  rw[B4]at this;exact this
 refine Eh (Dz (F.run X.A X.stack s1 H1 ⟨us,[]⟩ us vs Q E hr I1.env0 hb' r q) λr s' hq => ?_)
 cases r with
 |error e=>exact hx pI H1 s1 e s' I1 hq
 |ok fl=>
  cases fl with
  |ret u=>exact I1.after hq
  |next=>exact AY hq
  |brk=>exact AY hq
  |cont=>exact AY hq
noncomputable def KQ(K:Fg)(CL:ClA)(Rp:Hp->V->D->Prop)(E0:XK)(H:Hp)(r:R D)(Q:VK):Prop:=match r with
  |.ok d => ∀ v H',At H H'->Rp H' v d->Q v H'
  |.exn y => ∀ cls dx H',At H H'->D1 K CL H' cls dx y->E0 cls dx H'
  |.bad=>AT
theorem Ic{k n:Ae}{fr:Aj}{f:Ai}{F:Ad D->R D}{e:Ak}{es:Ad Ak}{fs ft:Rho->R (Ad D)}{sh:Rho->Aj}{E0:XK}(G:FnOk X.prog X.w X.K X.mg X.base CX k f fd ps (spD X.K CL n fr F))(hr:Room k X.A)(hg:Gl X x)(hm:X.mg x=Aa (.ref f))(hk:Be X.K (.ref f)=Ab)(hb:Ej X.K fd ps [])(hx : ∀ pI H s e s',Inv X pI Z0 H s->CX X.stack H s E0 e s'->X.xe e s')(ha:SA X CL (λ_ _=>AT) (e::es) fs)(hat:SAT X CL (λ_ _=>AT) (e::es) ft)(hst : ∀ Y,sh Y=Ab->ft Y=fs Y)(hn : ∀ Y ds,ft Y = .ok ds->ds.length=n)(hnx : ∀ Y y,ft Y ≠ .exn y)(hdb:(x==("__debug__" : Ag))=Ac)(he:Ap (e::es) X.env=(Ac,eval e X.env)::Ap es X.env)(hpl : ∀ pos,(Bk pos (Ap es X.env)).any (·.1)=Ac)(A:Ai->Prop):PE X (.Call (.Name x p) (e::es) [] pos) (λZ H Q=>Z=Z0/\AOk H A/\∃ Y,Good X.K CL A Y Z H/\KQ X.K CL (CO X.K CL fr H A) E0 H ((ft Y).bind λds=>(F ds).bind λd=>if sh Y=Ab then .ok d else if Eu fr d=Ab then .ok d else .bad) Q):=λpI s Z H Q I ⟨e0,hA,Y,gd,q⟩=>by
 by_cases hs:sh Y=Ab
 .rw[hst Y hs]at q;refine Mv G hr hg hm hk hb hx (ha A) hdb he (hpl _) pI s Z H Q I ⟨e0,hA,Y,gd,?_⟩;cases e1:fs Y with
  |bad=>rw[e1]at q;exact q
  |exn y=>exact absurd (by rw[hst Y hs];exact e1) (hnx Y y)
  |ok ds=>
   rw[e1]at q;intro vs H1 s1 r1;refine⟨ds,A,by rw[r1.length];exact hn Y ds (by rw[hst Y hs];exact e1),hA.same s1,r1,?_⟩
   have q':KQ X.K CL (CO X.K CL fr H A) E0 H ((F ds).bind λd=>if sh Y=Ab then .ok d else if Eu fr d=Ab then .ok d else .bad) Q:=q
   cases e2:F ds with
   |ok d=>
    rw[e2,R.bind_ok,AX hs]at q';exact λv H2 s2 r2=>q' v H2 (s1.trans s2) ⟨r2.1,λz ds' e'=>let ⟨a,xs,z1,z2,z3⟩:=r2.2 z ds' e';⟨a,xs,z1,s1.free z2,z3⟩⟩
   |exn y=>
    rw[e2]at q';exact λcls dx H2 s2 xr=>q' cls dx H2 (s1.trans s2) xr
   |bad=>rw[e2]at q';exact q'.elim
 .refine Mv G hr hg hm hk hb hx (hat A) hdb he (hpl _) pI s Z H Q I ⟨e0,hA,Y,gd,?_⟩;cases e1:ft Y with
  |bad=>rw[e1]at q;exact q
  |exn y=>exact absurd e1 (hnx Y y)
  |ok ds=>
   rw[e1]at q;intro vs H1 s1 r1;refine⟨ds,A0,by rw[r1.plain.length];exact hn Y ds e1,λ_ z=>z.elim,r1.plain,?_⟩
   have q':KQ X.K CL (CO X.K CL fr H A) E0 H ((F ds).bind λd=>if sh Y=Ab then .ok d else if Eu fr d=Ab then .ok d else .bad) Q:=q
   cases e2:F ds with
   |ok d=>
    rw[e2,R.bind_ok,A8 hs]at q';split at q'
    .rename_i hc;exact λv H2 s2 r2=>q' v H2 (s1.trans s2) (Ny hA (s1.trans s2) hc ⟨r2.1,λz ds' e'=>let ⟨a,xs,z1,z2,z3⟩:=r2.2 z ds' e';⟨a,xs,z1,s1.free z2,z3⟩⟩)
    .exact q'.elim
   |exn y=>
    rw[e2]at q';exact λcls dx H2 s2 xr=>q' cls dx H2 (s1.trans s2) xr
   |bad=>rw[e2]at q';exact q'.elim
noncomputable def Cx.pw(X:Cx)(pI:Ad (Ai × AD))(Xw:Ah->Am->Prop):Cx := {X with pn:=X.pn++pI,xe:=Xw}
section
variable{X:Cx}{pI pins':Ad (Ai × AD)}{Z:L2.St}{H:Hp}{s:Am}{Xw:Ah->Am->Prop}
theorem Xe(ok:X.Ok):(Cx.pw X pI Xw).Ok:=⟨ok.mod,ok.kind,ok.glob,ok.blt,ok.above,ok.inj,ok.has,ok.cab,ok.hd,ok.frames,ok.stk,ok.exf,ok.bs,ok.bsz,ok.noex,ok.exfs,ok.funs,ok.frf⟩
theorem HC(I:Inv X pI Z H s)(Xw:Ah->Am->Prop):Inv (Cx.pw X pI Xw) [] Z H s:=⟨Xe I.ok,I.os,I.bare,I.base,I.loc,I.cell,I.free,I.freeC,λp hp=>I.pin p (by
 rcases Fb.mp hp with z|z
 .exact z
 .exact absurd z (by simp)),I.hok,I.len⟩
theorem GX(ok:X.Ok)(I:Inv (Cx.pw X pI Xw) pins' Z H s):Inv X pI Z H s:=⟨ok,I.os,I.bare,I.base,I.loc,I.cell,I.free,I.freeC,λp hp=>I.pin p (Eb _ hp),I.hok,I.len⟩
theorem Il(ok:X.Ok){D:Ends}{f:Flow}{s':Am}(h:SP (Cx.pw X pI Xw) pins' D f s'):SP X pI D f s':=by
 cases f with
 |next=>obtain⟨Z',H',I,q⟩:=h;exact⟨Z',H',GX ok I,q⟩
 |brk=>obtain⟨Z',H',I,q⟩:=h;exact⟨Z',H',GX ok I,q⟩
 |cont=>obtain⟨Z',H',I,q⟩:=h;exact⟨Z',H',GX ok I,q⟩
 |ret u=>obtain⟨v,Z',H',I,r,q⟩:=h;exact⟨v,Z',H',GX ok I,r,q⟩
end
section
variable{X:Cx}{CL:ClA}{k n:Ae}{fr:Aj}{f:Ai}{fd:Bn}{ps:Ad Ag}{F:Ad D->R D}{x:Ag}{p pos pos2:Az}{e:Ak}{es:Ad Ak}{fs ft:Rho->R (Ad D)}{sh:Rho->Aj}
theorem MQ{y:Ex}(hx:X.ex=[])(ok:X.Ok)(q:GB X CL pI Z H y Xw):∀ pins' H1 s1 e s',Inv (Cx.pw X pI Xw) pins' Z H1 s1->CXR X.prog X.w (Cx.pw X pI Xw).stack H1 s1 (λcls dx H'=>D1 X.K CL H' cls dx y/\At H H') e s'->(Cx.pw X pI Xw).xe e s':=by
 intro pins' H1 s1 ev s' J h;obtain⟨e,T,cls,dx,H',rfl,os,bare,un,hok,fl,he,hT,ne,nT,xr,sm⟩:=h;have J':=GX ok J;have J2:=J'.call' (s':=s') (ch:=[]) os un hok bare (λb z=>absurd z (by simp))
 exact q s' H' e T cls dx J2 sm fl he hT (Gk J' hx ne) (Gk J' hx nT) xr
theorem MR:∀ pins' H1 s1 e s',Inv (Cx.pw X pI Xw) pins' Z H1 s1->CXR X.prog X.w (Cx.pw X pI Xw).stack H1 s1 (λ_ _ _=>AT) e s'->(Cx.pw X pI Xw).xe e s':=by
 intro pins' H1 s1 ev s' J h;obtain⟨e,T,cls,dx,H',rfl,os,bare,un,hok,fl,he,hT,ne,nT,w⟩:=h;exact w.elim
variable(hx0:X.ex=[])(G:FnOk X.prog X.w X.K X.mg X.base (CXR X.prog X.w) k f fd ps (spD X.K CL n fr F))(hr:Room k X.A)(hg:Gl X x)(hm:X.mg x=Aa (.ref f))
    (hk:Be X.K (.ref f)=Ab) (hb:Ej X.K fd ps []) (hst : ∀ Y,sh Y=Ab->ft Y=fs Y) (hn : ∀ Y ds,ft Y = .ok ds->ds.length=n) (hnx : ∀ Y y,ft Y ≠ .exn y)
    (hdb:(x==("__debug__" : Ag))=Ac) (he:Ap (e::es) X.env=(Ac,eval e X.env)::Ap es X.env) (hpl : ∀ pos,(Bk pos (Ap es X.env)).any (·.1)=Ac)
    (ha : ∀ pI Xw,Dx (model X.prog X.w) X.A X.env Xw->SA (Cx.pw X pI Xw) CL (λ_ _=>AT) (e::es) fs/\SAT (Cx.pw X pI Xw) CL (λ_ _=>AT) (e::es) ft)
include hx0 G hr hg hm hk hb hst hn hnx hdb he hpl ha
theorem RI(hs:Ck (.Call (.Name x p) (e::es) [] pos) Af pos2.line X.env=pure Ac):STB X CL [.Expr (.Call (.Name x p) (e::es) [] pos) pos2] (λY=>O.of Y ((ft Y).bind λds=>(F ds).bind λd=>if sh Y=Ab then .ok d else if Eu fr d=Ab then .ok d else .bad) λ_ => .next Y):=by
 intro Fz B pI s Z H D Y Xw own I sx q _;obtain⟨ha1,ha2⟩:=ha pI Xw own;dsimp only at q;cases er:(ft Y).bind λds=>(F ds).bind λd=>if sh Y=Ab then .ok d else if Eu fr d=Ab then .ok d else .bad with
 |bad=>rw[er]at q;exact q.elim
 |exn y=>
  rw[er]at q;have key:=Ic (X:=Cx.pw X pI Xw) (p:=p) (pos:=pos) (Z0:=Z) (fr:=fr) (F:=F) (n:=n) (sh:=sh) G hr hg hm hk hb (MQ hx0 I.ok (q rfl)) ha1 ha2 hst hn hnx hdb he hpl (Bm B Y Z);refine A2 (Hu (Hv (pos:=pos2) key hs) [] s Z H D (HC I Xw) ⟨rfl,sx.aok,Y,sx.good,?_⟩) (λ_ _ z=>Il I.ok z) λ_ _ z=>z
  rw[er];exact λcls dx H' sm xr=>⟨xr,sm⟩
 |ok d=>
  rw[er]at q;have key:=Ic (X:=Cx.pw X pI Xw) (p:=p) (pos:=pos) (Z0:=Z) (fr:=fr) (F:=F) (n:=n) (sh:=sh) (E0:=λ_ _ _=>AT) G hr hg hm hk hb MR ha1 ha2 hst hn hnx hdb he hpl (Bm B Y Z)
  refine A2 (Hu (Hv (pos:=pos2) key hs) [] s Z H D (HC I Xw) ⟨rfl,sx.aok,Y,sx.good,?_⟩) (λ_ _ z=>Il I.ok z) λ_ _ z=>z
  rw[er];exact λv H' sm r=>q Z H' (sx.grow sm)
theorem Th{i:Ae}{m:Ag}(hN:X.N.Nodup)(hi:X.N[i]? = Aa m)(hl:Loc X.env.scope m)(hf:X.fn m=Ab\/X.env.scope.names.lookup m=Aa .local)(hs:Ck (.Call (.Name x p) (e::es) [] pos) (Aa (.Name m pos')) pos2.line X.env=pure Ac):STB X CL [.Assign [.Name m pos'] (.Call (.Name x p) (e::es) [] pos) pos2] (λY=>O.of Y ((ft Y).bind λds=>(F ds).bind λd=>if sh Y=Ab then .ok d else if Eu fr d=Ab then .ok d else .bad) λd => .next (Y.set i (Aa (d,Ac)))):=by
 intro Fz B pI s Z H D Y Xw own I sx q _;obtain⟨ha1,ha2⟩:=ha pI Xw own;dsimp only at q;cases er:(ft Y).bind λds=>(F ds).bind λd=>if sh Y=Ab then .ok d else if Eu fr d=Ab then .ok d else .bad with
 |bad=>rw[er]at q;exact q.elim
 |exn y=>
  rw[er]at q;have key:=Ic (X:=Cx.pw X pI Xw) (p:=p) (pos:=pos) (Z0:=Z) (fr:=fr) (F:=F) (n:=n) (sh:=sh) G hr hg hm hk hb (MQ hx0 I.ok (q rfl)) ha1 ha2 hst hn hnx hdb he hpl (Bm B Y Z);refine A2 (Hu (IA (X:=Cx.pw X pI Xw) (i:=i) (pos:=pos2) hN hi hl key hs hf) [] s Z H D (HC I Xw) ⟨rfl,sx.aok,Y,sx.good,?_⟩) (λ_ _ z=>Il I.ok z) λ_ _ z=>z
  rw[er];exact λcls dx H' sm xr=>⟨xr,sm⟩
 |ok d=>
  rw[er]at q;have key:=Ic (X:=Cx.pw X pI Xw) (p:=p) (pos:=pos) (Z0:=Z) (fr:=fr) (F:=F) (n:=n) (sh:=sh) (E0:=λ_ _ _=>AT) G hr hg hm hk hb MR ha1 ha2 hst hn hnx hdb he hpl (Bm B Y Z)
  refine A2 (Hu (IA (X:=Cx.pw X pI Xw) (i:=i) (pos:=pos2) hN hi hl key hs hf) [] s Z H D (HC I Xw) ⟨rfl,sx.aok,Y,sx.good,?_⟩) (λ_ _ z=>Il I.ok z) λ_ _ z=>z
  rw[er];exact λv H' sm r=>q _ H' ((sx.grow sm).set i r.1)
end
section
variable{X:Cx}{CL:ClA}{W:XW}
theorem RJ{e:Ak}{es:Ad Ak}(hcalm:X.calm=Ab)(rz:HU X CL W)(hg:Gl X g)(hm:X.mg g=Aa (.ref C))(hdb:(g==("__debug__" : Ag))=Ac)(xc:Cd X.K C Af=Ab)(hcl:CL c=Aa C)(ha:SA X CL W (e::es) fs)(hxn : ∀ ds,xn c ds = .bad\/xn c ds = .ok ⟨c,[]⟩)(he:Ap (e::es) X.env=(Ac,eval e X.env)::Ap es X.env)(hpl : ∀ pos,(Bk pos (Ap es X.env)).any (·.1)=Ac)(hz : ∀ Y ds,fs Y = .ok ds->ds.length<=100000):SS X CL W (.Raise (Aa (.Call (.Name g np) (e::es) [] cpos)) Af pos) (λY=>O.of Y (noX (fs Y)) λxs=>O.of Y (xn c xs) λx =>.exn x Y):=λFz B pI s Z H D I ⟨Y,x,p⟩=>by
 dsimp only at p;cases e1:fs Y with
 |bad=>rw[e1]at p;exact p.elim
 |exn y=>rw[e1]at p;exact p.elim
 |ok ds=>
  rw[e1]at p;have p2:BA X.K CL Fz B W (O.of Y (xn c ds) λx => .exn x Y) D:=p
  rcases hxn ds with e2|e2
  .rw[e2]at p2;exact p2.elim
  .rw[e2]at p2;have p3 : ∀ H,(∀ b o,Fz b o->H b=Aa o)->W ⟨c,[]⟩ H:=p2;obtain⟨bm,N,nm,qn,bs,hd,sn,sub,ab,col,dd,k0,k1,k2,k3,k5,mN,hob,hni,hbase⟩:=Ho I.kIn xc;refine wpAny_Raise_call_subT (bmB:=veB) (nm:=nm) (q:=qn) (C:=C) (N:=N) (bs:=bs) (bm:=bm) (hdct:=hd) (sn:=sn) (sub:=sub) (ab:=ab) (col:=col) (dd:=dd) (k0:=k0) (k1:=k1) (k2:=k2) (k3:=k3) (k5:=k5) (mN:=mN) Cb hbase (I.ok.hd hcalm) (by rw[he];show (Ac||(Bk cpos (Ap es X.env)).any (·.1))=Ac;rw[hpl];rfl) hni ?_
   refine FI I hg hm ⟨rfl,?_⟩ hdb;have q1:=ha (Bm B Y Z) cpos pI s Z H (λvs H1=>At H H1/\vs.length=ds.length) I ⟨x.aok,Y,x.good,by rw[e1];exact λvs H1 s1 r1=>⟨s1,r1.length⟩⟩
   rw[he]at q1 ⊢;refine C7 (A2 q1 (λus s2 ⟨vs,H2,I2,r2,s2',hl⟩=>⟨rfl,?_⟩) λ_ _ z=>z)
   obtain⟨o1,o2,o3⟩:=hob _ I2.kIn;refine⟨?_,o1,o2,o3,λh' ev hmade => ?_⟩
   .rw[<-r2.length,hl,BX];have:=hz Y ds e1;omega
   .obtain⟨t,ge,_⟩:=hmade.there;have I3:Inv X pI Z H2 {s2 with heap:=h'}:=I2.kept (t':=s2.toks) hmade.keeps
    exact rz pI Z H2 _ ev C Af t ⟨c,[]⟩ I3 (λhx=>Gp I2 hx hmade.new) (F5 I2.hok hmade.new) ge (λA _=>⟨C,hcl,rfl,.inl rfl⟩) (p3 H2 λb o z=>s2' _ _ (x.same b o z))
noncomputable def Hz(K:Fg)(CL:ClA)(up:Ae->Ad Ae)(c':Ae)(C':Ai):Prop := ∀ c C,CL c=Aa C->BZ K (.ref C) (.ref C')=Aa ((up c).contains c')
theorem Mj{s:Am}{a C:Ai}{cv:Ah}{b:Aj}{Q:VK}(I:Inv X pI Z H s)(ha:H a=Aa (.ext φ))(hφ : ∀ h,φ h -> ∃ o,h.get? a=Aa o/\o.cls = .ref C)(xc:XcOk X.K C)(e:BZ X.K (.ref C) cv=Aa b)(q:Q (.bl b) H):
  As (model X.prog X.w) X.A (call (.builtin "isinstance") [.ref a,cv]) (EP X pI Z Q) X.xe s:=by
 have p:XAt a C s.heap:=hφ _ (I.hok a _ ha).1;exact PySem.W.kia_one (Mh xc) I.kIn p e (by intro z;cases z) λtk=>⟨.bl b,H,I.tok tk,rfl,q⟩
theorem LX : ∀(Cs:Ad Ai){its:Ad Ah},AR (Cs.map V.ref) its->its=Cs.map BH
 |[],_,rv=>by cases rv;rfl
 |c::cs,_,rv=>by
  cases rv with
  |cons h1 h2=>rw[LX cs h2];cases h1;rfl
theorem UH{s:Am}{a C tp:Ai}{Cs:Ad Ai}{b:Aj}{Q:VK}(I:Inv X pI Z H s)(ha:H a=Aa (.ext φ))(hφ : ∀ h,φ h -> ∃ o,h.get? a=Aa o/\o.cls = .ref C)(xc:XcOk X.K C)(ht:H tp=Aa (.tup (Cs.map V.ref)))(e:Fw X.K (.ref C) (Cs.map BH)=Aa b)(q:Q (.bl b) H):
  As (model X.prog X.w) X.A (call (.builtin "isinstance") [.ref a,.ref tp]) (EP X pI Z Q) X.xe s:=by
 have p:XAt a C s.heap:=hφ _ (I.hok a _ ha).1;obtain⟨_,its,rv,⟨o,ho,hc,n,hd⟩⟩:=I.hok tp _ ht;have ei:its=Cs.map BH:=LX Cs rv;subst ei;obtain⟨cls,dd,dat,sl⟩:=o;have hc':cls = .type "tuple" := hc;have hd':dat = .seq (Dv (Cs.map BH)) n:=hd;subst hc' hd';exact PySem.W.kia_tup (Mh xc) I.kIn p ho e (by intro z;cases z) λtk=>⟨.bl b,H,I.tok tk,rfl,q⟩
theorem Mz{K:Fg}{up:Ae->Ad Ae}{c:Ae}{C:Ai}(h:CL c=Aa C) : ∀(cs:Ad (Ae × Ai)),(∀ p∈cs,Hz K CL up p.1 p.2)->Fw K (.ref C) ((cs.map λq:Ae × Ai=>q.2).map BH)=Aa (cs.any λp=>(up c).contains p.1)
  |[],_=>rfl
  |p::cs,hk=>by
    have h1:=hk p AU c C h;have h2:=Mz h cs λq hq=>hk q (AG _ hq)
    show (match BZ K (.ref C) (.ref p.2) with
      |some Ab=>Aa Ab
      |some Ac=>Fw K (.ref C) ((cs.map λq:Ae × Ai=>q.2).map BH)
      | none=>Af)=_
    rw[h1,O0];cases (up c).contains p.1 with
    |true=>rfl
    |false=>rw[h2];rfl
theorem JF{ks:Ad Ki}{Q:VK}(hk:ks.all CN=Ab)(hne:ks≠[])(p:AZ Rp W H (CM up ks d) Q) : ∃ c fs,d = .exc c fs/\AZ Rp W H (.ok (.bl (ks.any λk=>kiD up k d))) Q:=by
 have ha:ks.any CN=Ab:=by
  cases ks with
  |nil=>exact absurd rfl hne
  |cons k ks=>simp only[DR,Al]at hk;simp[O0,hk.1]
 cases d with
 | exc c fs=>exact⟨c,fs,rfl,by
   have p':AZ Rp W H (if ks.all CN=Ab then .ok (.bl (ks.any λk=>kiD up k (.exc c fs))) else .bad) Q:=p
   rw[AX hk]at p';exact p'⟩
 |obj c fs=>exact AY p
 |dic _=>exact AY p
 |non=>simp only[CM,ha,ET]at p;exact AY p
 |bl _=>simp only[CM,ha,ET]at p;exact AY p
 |int _=>simp only[CM,ha,ET]at p;exact AY p
 |str _=>simp only[CM,ha,ET]at p;exact AY p
 |tup _=>simp only[CM,ha,ET]at p;exact AY p
 |lst _=>simp only[CM,ha,ET]at p;exact AY p
theorem JW{v:V}{fs:Ad (Ag × D)}(r:B3 K CL H A v (.exc c fs)) : ∃ a C φ,v = .ref a/\CL c=Aa C/\H a=Aa (.ext φ) /\ ∀ h,φ h -> ∃ o,h.get? a=Aa o/\o.cls = .ref C:=by
 rcases r with ⟨a,C,φ,e,_,hc,hH,hφ,_⟩|⟨a,xs,ds,_,z,_⟩
 .exact⟨a,C,φ,e,hc,hH,hφ⟩
 .cases z
variable{a:Ak}{fa:Rho->R D}{up:Ae->Ad Ae}{x:Ag}{p p2 pos:Az}
theorem Nn{c':Ae}(hxc : ∀ c C,CL c=Aa C->XcOk X.K C)(hg:Gl X "isinstance")(hm:X.mg "isinstance" = Af)(hg2:Gl X x)(hm2:X.mg x=Aa (.ref C'))(hkit:Hz X.K CL up c' C')(hdb:(x==("__debug__" : Ag))=Ac)(ha:ST X CL W a fa)(he:Ap [a,.Name x p2] X.env=(Ac,eval a X.env)::Ap [.Name x p2] X.env):SE X CL W (.Call (.Name "isinstance" p) [a,.Name x p2] [] pos) (λY=>(fa Y).bind λx=>CM up [.cls c'] x):=λA=>
 PE.weak (Hm (r:=λxs H Q => ∃ a C φ c,xs=[.ref a,.ref C']/\CL c=Aa C/\H a=Aa (.ext φ)/\(∀ h,φ h -> ∃ o,h.get? a=Aa o/\o.cls = .ref C)/\Q (.bl ((up c).contains c')) H) (λpI s Z H xs us Q I r ⟨b,C,φ,c,e,hc,hH,hφ,q⟩=>by
   subst e;obtain⟨u,w',rfl,r1,r2⟩:=HH r;cases r1;cases r2;exact Mj I hH hφ (hxc c C hc) (hkit c C hc) q)
  hg hm Ee (Dk (ha A) (Dk (MG (v := .ref C') hg2 hm2 rfl hdb) EH rfl) he) (by decide) (by decide) he rfl) λZ H Q ⟨hA,Y,g,q⟩=>⟨hA,Y,g,AZ.bind q λd v H1 _ s1 r1 p1=>by
   obtain⟨c,fs,rfl,p2⟩:=JF (by rfl) (by simp) p1
   obtain⟨b,C,φ,rfl,hc,hH,hφ⟩:=JW r1;refine⟨b,C,φ,c,rfl,hc,hH,hφ,p2 _ H1 (At.refl H1) ?_⟩;exact congrArg V.bl (CQ _).symm⟩
theorem Nm(hxc : ∀ c C,CL c=Aa C->XcOk X.K C)(hg:Gl X "isinstance")(hm:X.mg "isinstance" = Af)(hg2:Gl X "ValueError")(hm2:X.mg "ValueError" = Af)(ha:ST X CL W a fa)(he:Ap [a,.Name "ValueError" p2] X.env=(Ac,eval a X.env)::Ap [.Name "ValueError" p2] X.env):SE X CL W (.Call (.Name "isinstance" p) [a,.Name "ValueError" p2] [] pos) (λY=>(fa Y).bind λx=>CM up [.verr] x):=λA=>
 PE.weak (Hm (r:=λxs H Q => ∃ a C φ c,xs=[.ref a,.ty "ValueError"]/\CL c=Aa C/\H a=Aa (.ext φ)/\(∀ h,φ h -> ∃ o,h.get? a=Aa o/\o.cls = .ref C)/\Q (.bl Ab) H) (λpI s Z H xs us Q I r ⟨b,C,φ,c,e,hc,hH,hφ,q⟩=>by
   subst e;obtain⟨u,w',rfl,r1,r2⟩:=HH r;cases r1;cases r2;exact Mj I hH hφ (hxc c C hc) (hxc c C hc).ve q)
  hg hm Ee (Dk (ha A) (Dk (MI (v := .ty "ValueError") hg2 hm2 PyProof.Rows.Boot.«ValueError» rfl (by decide) (by decide)) EH rfl) he) (by decide) (by decide) he rfl) λZ H Q ⟨hA,Y,g,q⟩=>⟨hA,Y,g,AZ.bind q λd v H1 _ s1 r1 p1=>by
   obtain⟨c,fs,rfl,p2⟩:=JF (by rfl) (by simp) p1
   obtain⟨b,C,φ,rfl,hc,hH,hφ⟩:=JW r1;refine⟨b,C,φ,c,rfl,hc,hH,hφ,p2 _ H1 (At.refl H1) ?_⟩;exact congrArg V.bl (CQ _).symm⟩
theorem UB(up:Ae->Ad Ae)(c:Ae)(fs:Ad (Ag × D))(cs:Ad (Ae × Ai)):((cs.map λq=>Ki.cls q.1).any λk=>kiD up k (.exc c fs))=cs.any λq=>(up c).contains q.1:=List.any_map
noncomputable def Oh(Cs:Ad Ai):TA:=λ_ H Q=>Q (Cs.map V.ref) H
theorem U_8{ts:Ad Ak}{cs:Ad (Ae × Ai)}(hxc : ∀ c C,CL c=Aa C->XcOk X.K C)(hg:Gl X "isinstance")(hm:X.mg "isinstance" = Af)(hts:PA X ts (Oh (cs.map λq:Ae × Ai=>q.2)))(hne:cs≠[])(hl:cs.length<=1000)(hkit : ∀ q∈cs,Hz X.K CL up q.1 q.2)(ha:ST X CL W a fa)(he:Ap [a,.Tuple ts kk p2] X.env=(Ac,eval a X.env)::Ap [.Tuple ts kk p2] X.env):SE X CL W (.Call (.Name "isinstance" p) [a,.Tuple ts kk p2] [] pos) (λY=>(fa Y).bind λx=>CM up (cs.map λq => .cls q.1) x):=λA=>
 PE.weak (Hm (r:=λxs H Q => ∃ a C φ c tp,xs=[.ref a,.ref tp]/\CL c=Aa C/\H a=Aa (.ext φ)/\(∀ h,φ h -> ∃ o,h.get? a=Aa o/\o.cls = .ref C)/\H tp=Aa (.tup ((cs.map λq:Ae × Ai=>q.2).map V.ref))/\Q (.bl (cs.any λq=>(up c).contains q.1)) H) (λpI s Z H xs us Q I r ⟨b,C,φ,c,tp,e,hc,hH,hφ,ht,q⟩=>by
   subst e;obtain⟨u,w',rfl,r1,r2⟩:=HH r;cases r1;cases r2;exact UH I hH hφ (hxc c C hc) ht (Mz hc cs hkit) q)
  hg hm Ee (Dk (ha A) (Dk (M9 hts) EH rfl) he) (by decide) (by decide) he rfl) λZ H Q ⟨hA,Y,g,q⟩=>⟨hA,Y,g,AZ.bind q λd v H1 _ s1 r1 p1=>by
   have hk:(cs.map λq=>Ki.cls q.1).all CN=Ab:=by simp[OZ,CN]
   obtain⟨c,fs,rfl,p2⟩:=JF hk (by simpa using hne) p1
   obtain⟨b,C,φ,rfl,hc,hH,hφ⟩:=JW r1;refine⟨by rw[Cr,Cr,BX];omega,λt ht => ?_⟩
   have hbt:b≠t:=DK hH ht;refine⟨b,C,φ,c,t,rfl,hc,by rw[Ba hbt];exact hH,hφ,CY,p2 _ _ (Ep ht _) ?_⟩
   exact congrArg V.bl (UB up c fs cs).symm⟩
end
theorem Kv(q:Cd K C v=Ab) : ∃ dd cd sl bm,K.lookup C=Aa ⟨.type "type",dd,.cls cd,sl⟩/\cd.mro = .ref C::bm:=by
 unfold Cd at q;split at q
 .rename_i dd cd sl ho;split at q
  .rename_i C' bm k0 k1 k2 k3 n k5 hm hs;simp only[Al,AH,Bg]at q;obtain⟨rfl,_⟩:=q;exact⟨dd,cd,sl,bm,ho,hm⟩
  .cases q
 .cases q
theorem Ir(q:Cd K C v=Ab) : ∃ cd bm,Cj K C=Aa cd/\cd.mro = .ref C::bm:=by
 obtain⟨dd,cd,sl,bm,h1,h2⟩:=Kv q;exact⟨cd,bm,by unfold Cj;rw[h1],h2⟩
theorem Nv(q:Cd K C v=Ab):Co K (.ref C)=Aa (.type "type"):=by
 obtain⟨dd,cd,sl,bm,h1,h2⟩:=Kv q;show (K.lookup C).map _=_;rw[h1];rfl
theorem Tx{v:Aj}{i i':An Ah}(q:Cd K C i=Ab)(q':Cd K C' i'=Ab)(su:Bh K (.ref C) (.ref C')=Aa v):BZ K (.ref C) (.ref C')=Aa v:=by
 unfold BZ;by_cases e:C=C'
 .subst e;obtain⟨cd,bm,h1,h2⟩:=Ir q;have su':BW K C (.ref C)=Aa v:=su;have:v=Ab:=by
   unfold BW at su';rw[h1,Pn,h2,A8 (by simp)]at su'
   rw[<-BC su'];simp
  rw[AX (by simp),this]
 .rw[A8 (λz=>e (FW (AH.mp z)))]
  obtain⟨cd,bm,h1,h2⟩:=Ir q';show (if ((Cj K C').isSome&&Co K (.ref C')==Aa (.type "type"))=Ab then Bh K (.ref C) (.ref C') else Af)=_
  rw[h1,Nv q',AX (by simp),su]
theorem Wu(exc:Cd K C v=Ab)(ga:Av K (.ref C) "__getattribute__" = Aa (Aa (.builtin "BaseException.__getattribute__")))(gt:Av K (.ref C) "__getattr__" = Aa Af)(cl:Av K (.ref C) "__class__" = Aa (Aa (.builtin "object.__class__")))(ob:BW K C (.type "object")=Aa Ab)(be:Bh K (.ref C) (.type "BaseException")=Aa Ab)(sv:Bh K (.ref C) (.type "ValueError")=Aa Ab):XcOk K C:=by
 obtain⟨cd,bm,h1,h2⟩:=Ir exc;refine⟨⟨v,exc⟩,ga,gt,cl,ob,be,by rw[h1];rfl,?_⟩
 unfold BZ;rw[A8 (λz=>by cases AH.mp z)]
 have hm:QD "ValueError" = Ab:=by decide+kernel
 show (if QD "ValueError" = Ab then Bh K (.ref C) (.type "ValueError") else Af)=_
 rw[AX hm,sv]
noncomputable abbrev Jk:CXT:=λ_ _ _ _ _ _=>AT
structure HotOk (P:AE) (w:Ar) (K:Fg) (mg:Ag->An Ah) (base:Ay) (k:Ae) (f:Ai) (fd:Bn) (ps:Ad Ag) (sp:Sp):Prop where
 len : ∀ vs H Q E,sp vs H Q E->vs.length=ps.length
 run : ∀(A:AN)(ev:Ai)(outer:Ad BF)(s:Am)(H:Hp)(args:Args)(us:Ad Ah)(vs:Ad V)(Q:VK)(E:XK),Room k A->Env0 P w K mg base (A.mark (Aa (.ref ev))) outer s H->En s fd args (ps.zip us)->AR vs us->sp vs H Q E ->
  DG (model P w) (A.mark (Aa (.ref ev))) (.call (.ref f) args) (CR Jk outer P w H s Q E) s
theorem So{v:Aj}{i:An Ah}(q:Cd K C i=Ab)(mr:BW K C' (.type "object")=Aa Ab)(ty:Co K (.ref C')=Aa (.type "type"))(su:Bh K (.ref C) (.ref C')=Aa v):BZ K (.ref C) (.ref C')=Aa v:=by
 unfold BZ;by_cases e:C=C'
 .subst e;obtain⟨cd,bm,h1,h2⟩:=Ir q;have su':BW K C (.ref C)=Aa v:=su;have:v=Ab:=by
   unfold BW at su';rw[h1,Pn,h2,A8 (by simp)]at su'
   rw[<-BC su'];simp
  rw[AX (by simp),this]
 .rw[A8 (λz=>e (FW (AH.mp z)))]
  show (if ((Cj K C').isSome&&Co K (.ref C')==Aa (.type "type"))=Ab then Bh K (.ref C) (.ref C') else Af)=_
  have cs:(Cj K C').isSome=Ab:=by
   unfold BW at mr;cases e1:Cj K C' with
   |none=>rw[e1]at mr;cases mr
   |some cd=>rfl
  rw[cs,ty,AX (by simp),su]
noncomputable def spH(K:Fg)(CL:ClA)(n:Ae)(fr:Aj)(F:Ad D->R D):Sp:=λvs H Q _ => ∃(ds:Ad D)(A:Ai->Prop),vs.length=n/\AOk H A/\Reps K CL H A vs ds/\(match F ds with
  |.ok d => ∀ v H',At H H'->CO K CL fr H A H' v d->Q v H'
  |.exn _=>AT
  | .bad=>AT)
section
variable{X:Cx}{CL:ClA}{ev:Ai}
theorem Tg{t:Ak}{xs ys:Ad AC}{fc:Rho->R Aj}{fx fy:Rho->O}(hc : ∀ pI Xw,Dx (model X.prog X.w) X.A X.env Xw->SB (Cx.pw X pI Xw) CL (λ_ _=>AT) t fc)(hnx : ∀ Y y,fc Y ≠ .exn y)(hx:STB X CL xs fx)(hy:STB X CL ys fy):STB X CL [.If t xs ys pos] (λY=>O.of Y (fc Y) λb=>if b=Ab then fx Y else fy Y):=by
  intro Fz B pI s Z H D Y Xw own I sx q hρ;dsimp only at q hρ;cases ec:fc Y with
  |bad=>rw[ec]at q;exact q.elim
  |exn y=>exact absurd ec (hnx Y y)
  |ok b=>
    rw[ec]at q hρ;have key:=hc pI Xw own (Bm B Y Z) [] s Z H (λb' H'=>b'=b/\At H H') (HC I Xw) ⟨sx.aok,Y,sx.good,by rw[ec];exact λH' sm=>⟨rfl,sm⟩⟩
    refine E3 (thn (wpAny_If (Q:=SP X pI D) (thn key λb' s1 ⟨H1,I1,e,sm⟩ => ?_)) (λf s1 z=>by
      cases f with
      |next=>exact Ds z
      |ret v=>exact z
      |brk=>exact z
      | cont=>exact z))
    subst e;have J:=GX I.ok I1;have up : ∀{y:Ex},GB X CL pI Z H y Xw->GB X CL pI Z H1 y Xw:=λ{y} w s' H' e T cls dx a1 a2=>w s' H' e T cls dx a1 (sm.trans a2)
    have lift : ∀{o:O},(match o with
       |.exn y Y'=>Y'=Y->GB X CL pI Z H y Xw
       |o=>BA X.K CL Fz B (λ_ _=>AT) o D)->(match o with
       |.exn y Y'=>Y'=Y->GB X CL pI Z H1 y Xw
       | o=>BA X.K CL Fz B (λ_ _=>AT) o D):=λ{o} z=>by
      cases o with
      |exn y Y'=>exact λe=>up (z e)
      |next _=>exact z
      |ret _ _=>exact z
      |brk _=>exact z
      |cont _=>exact z
      |bad=>exact z
    cases b' with
    |true=>exact hx Fz B pI s1 Z H1 D Y Xw own J (sx.grow sm) (lift q) hρ
    |false=>exact hy Fz B pI s1 Z H1 D Y Xw own J (sx.grow sm) (lift q) hρ
end
section
variable{M:Ev}{A:AN}{E:Ah->Am->Prop}{s:Am}{env:BF}{nm q:Ag}{C N:Ai}{bs bm bmB:Ad Ah}{hdct:Aj}{sn:Ad Ag}{sub:Ad Ah}{ab:Aj}{col:An Aj}{dd:An Ai}{k0 k1 k2 k3 k5:An Ah}{B newId initId:Ca}
theorem T4{x:ED Ah}{Q:Flow->Am->Prop}(hb:bm.contains (.type "BaseException")=Ab)(hh:A.handled=Af)(h:As M A x (λv s' => ∃ e t dx,v = .ref e/\s'.heap.get? C=Aa (Bq nm q C N bs bm hdct sn sub ab col dd k0 k1 k2 k3 k5 newId)/\s'.heap.get? e=Aa (DZ C dx t)/\E (.ref e) s') E s):As M A (raiseStmt env (Aa x) Af) Q E s:=by
 have hB:(BH C::bm).contains (.type "BaseException")=Ab:=by rw[Ew,hb,EU]
 unfold raiseStmt;refine Au (A2 h (λv s' z => ?_) λ_ _ z=>z)
 obtain⟨e,t,dx,rfl,gC,ge,hE⟩:=z;obtain⟨hp,g,d,tk,os⟩:=s';unfold DZ at ge
 repeat (first|(with_reducible refine Bx ge ?_)|(with_reducible refine Bx gC ?_)|(with_reducible refine Di gC ?_;rw[hB])|wp_step)
 exact wpAny_raiseNew_none hh hE
end
section
variable{prog:AE}{w:Ar}{A:AN}{E:Ah->Am->Prop}{h:Ay}{g:Bb CV}{d:Fd}{t:Ae}{os:EO}
variable{nm q:Ag}{C N fI:Ai}{bs bm bmB:Ad Ah}{hdct:Aj}{sn:Ad Ag}{sub:Ad Ah}{ab:Aj}{col:An Aj}{dd:An Ai}{k0 k1 k2 k3 k5:An Ah}{B newId initId:Ca}{mN:Ag->An Ah}{Bi:Ad Ah}{oI:AD}
theorem To{Q:Fin->Am->Prop}(F:EY B newId initId bmB)(T:Cu h bmB bm)(gC:h.get? C=Aa (Bq nm q C N bs bm hdct sn sub ab col dd k0 k1 k2 k3 k5 newId))(hn:h.Ns N mN)(hi:mN "__init__" = Aa (.ref fI))(gI:h.get? fI=Aa oI)(cI:oI.cls = .type "function")(hl:Bi.length<=sizeLine)(hq : ∀ h' e,Fu h h' e (.ref C) Bi->As (model prog w) A (call (.ref fI) (.ref e::Bi)) (λr s'=>r = .none/\Q (.done (.ret (.ref e))) s') E ⟨h',g,d,t,os⟩):As (model prog w) A (Builtin.«type.__call__» ⟨.ref C::Bi,[]⟩) Q E ⟨h,g,d,t,os⟩:=by
 repeat (first|(with_reducible refine Bx gC ?_)|(with_reducible refine wpAny_madeBy_exc gC ?_)|wp_step)
 refine codeAny_call_builtin_code (Ez _ F.quiet) (wpAny_check_new_subT F T gC (codeAny_exc_new_subT F T gC ?_ hl));show As _ _ _ _ _ _;have kp : ∀ b o,h.get? b=Aa o->((h.push { cls := .type "tuple",data := .seq Bi.toArray }).push {cls := .ref C,data := .fields #[.ref h.objs.size,.none,.none,.none,.bool Ac,.none]}).get? b=Aa o:=λb o z=>Ax _ (Ax _ z)
 have ge:((h.push { cls := .type "tuple",data := .seq Bi.toArray }).push {cls := .ref C,data := .fields #[.ref h.objs.size,.none,.none,.none,.bool Ac,.none]}).get? (h.objs.size+1)=Aa {cls := .ref C,data := .fields #[.ref h.objs.size,.none,.none,.none,.bool Ac,.none]}:=by heap_get
 have gt:((h.push { cls := .type "tuple",data := .seq Bi.toArray }).push {cls := .ref C,data := .fields #[.ref h.objs.size,.none,.none,.none,.bool Ac,.none]}).get? h.objs.size=Aa { cls := .type "tuple",data := .seq Bi.toArray }:=Ax _ (Qb rfl rfl);generalize (h.push { cls := .type "tuple",data := .seq Bi.toArray }).push {cls := .ref C,data := .fields #[.ref h.objs.size,.none,.none,.none,.bool Ac,.none]}=h2 at *;have gC2:=kp _ _ gC;have gI2:=kp _ _ gI;have hn2:h2.Ns N mN:=let ⟨o,es,ep,z,r⟩:=hn;⟨o,es,ep,kp _ _ z,r⟩
 have T2:=T.keeps (h':=h2) kp;have cC:(BH C::bm).contains (.ref C)=Ab:=by simp
 unfold FH
 repeat (first|(with_reducible refine Bx ge ?_)|(with_reducible refine Di gC2 ?_;rw[cC])|wp_step)
 show As _ _ (typeLookup (.ref C) _) _ _ _;refine wpAny_typeLookup_tail gC2 hn2 T2 F.mroIs F.init.lookup ?_;rw[hi];refine EF (Au ?_);unfold bindSpecial;refine Au (wpAny_typeOf (T := "function") ⟨_,gI2,cI⟩ ?_);rw[AX (by decide)]
 refine Bo (Au (A2 (hq h2 (h.objs.size+1) ⟨kp,Ci (Pe _),h.objs.size,ge,Ci (AW _),gt⟩) (λr s' z => ?_) λ_ _ z=>z))
 obtain⟨rfl,z⟩:=z
 wp_walk
 exact z
theorem Mc{Q:Ah->Am->Prop}(F:EY B newId initId bmB)(T:Cu h bmB bm)(gC:h.get? C=Aa (Bq nm q C N bs bm hdct sn sub ab col dd k0 k1 k2 k3 k5 newId))(hn:h.Ns N mN)(hi:mN "__init__" = Aa (.ref fI))(gI:h.get? fI=Aa oI)(cI:oI.cls = .type "function")(hl:Bi.length<=sizeLine)(hq : ∀ h' e,Fu h h' e (.ref C) Bi->As (model prog w) (A.under (.builtin "type.__call__" ⟨.ref C::Bi,[]⟩)) (call (.ref fI) (.ref e::Bi)) (λr s'=>r = .none/\Q (.ref e) s') E ⟨h',g,d,t,os⟩):As (model prog w) A (call (.ref C) Bi) Q E ⟨h,g,d,t,os⟩:=by
 have l1:=tc_lookup;have l2:=tc_bind (.ref C);have ty:(⟨h,g,d,t,os⟩:Am).TypeIs (.ref C) "type" := ⟨_,gC,rfl⟩;refine Eh (codeAny_of_tree ?_);show As _ _ (callAny (.ref C) _) _ _ _
 repeat (any_goals (first|assumption|(with_reducible refine Bx gC ?_)|wp_step))
 refine⟨rfl,codeAny_call_builtin_at (Ez _ (by decide+kernel)) entry_typeCall (wpAny_check_type_call_sub gC (To F T gC hn hi gI cI hl λh' e m => ?_))⟩
 exact hq h' e m
end
section
variable{prog:AE}{w:Ar}{A:AN}{E:Ah->Am->Prop}{s:Am}{env:BF}
variable{nm q:Ag}{C N fI:Ai}{bs bm bmB:Ad Ah}{hdct:Aj}{sn:Ad Ag}{sub:Ad Ah}{ab:Aj}{col:An Aj}{dd:An Ai}{k0 k1 k2 k3 k5:An Ah}{B newId initId:Ca}{mN:Ag->An Ah}
theorem R7{Q:Flow->Am->Prop}{args:Ad Ak}(F:EY B newId initId bmB)(hb:bm.contains (.type "BaseException")=Ab)(hh:A.handled=Af)(hp:(Bk cpos (Ap args env)).any (·.1)=Ac)(hi:mN "__init__" = Aa (.ref fI))(h:As (model prog w) A (eval (.Name x np) env) (λf s1=>f = .ref C/\As (model prog w) A (evalArgs (.ref C) Ab (Bk cpos (Ap args env)) [])
   (λa s2=>a.kw=[]/\a.pos.length<=sizeLine/\s2.heap.get? C=Aa (Bq nm q C N bs bm hdct sn sub ab col dd k0 k1 k2 k3 k5 newId)/\s2.heap.Ns N mN/\Cu s2.heap bmB bm/\(∃ oI,s2.heap.get? fI=Aa oI/\oI.cls = .type "function") /\
    ∀ h' e,Fu s2.heap h' e (.ref C) a.pos->As (model prog w) (A.under (.builtin "type.__call__" ⟨.ref C::a.pos,[]⟩)) (call (.ref fI) (.ref e::a.pos)) (λr s'=>r = .none /\ ∃ t dx,s'.heap.get? C=Aa (Bq nm q C N bs bm hdct sn sub ab col dd k0 k1 k2 k3 k5 newId)/\s'.heap.get? e=Aa (DZ C dx t)/\E (.ref e) s') E {s2 with heap:=h'}) E s1) E s):As (model prog w) A (exec (.Raise (Aa (.Call (.Name x np) args [] cpos)) Af pos) env) Q E s:=by
 rw[arm_exec_Raise]
 try simp only[evalOpt,DD]
 refine Au (De (T4 (nm:=nm) (q:=q) (C:=C) (N:=N) (bs:=bs) (bm:=bm) (hdct:=hdct) (sn:=sn) (sub:=sub) (ab:=ab) (col:=col) (dd:=dd) (k0:=k0) (k1:=k1) (k2:=k2) (k3:=k3) (k5:=k5) (newId:=newId) hb hh ?_));refine Au (A2 (wpAny_Call_ofName (A2 h (λf s1 z => ?_) λ_ _ z=>z)) (λv s3 z=>Au (De (Bo z))) λ_ _ z=>z)
 obtain⟨rfl,z⟩:=z;unfold callWith;refine Au (EF (A2 z (λa s2 y=>Au (De ?_)) λ_ _ y=>y))
 obtain⟨us,kw⟩:=a;obtain⟨hk,hl,gC,hn,T,⟨oI,gI,cI⟩,k⟩:=y;obtain rfl:kw=[]:=hk;obtain⟨hp2,g,d,tk,os⟩:=s2;simp only[hp];refine Au (wpAny_keeperOf_exc gC (Au (Mc F T gC hn hi gI cI hl λh' e m=>A2 (k h' e m) (λr s' y => ?_) λ_ _ y=>y)))
 obtain⟨rfl,t,dx,c1,c2,c3⟩:=y;exact⟨rfl,Au (EF (wpAny_point (Bo ⟨e,t,dx,rfl,c1,c2,c3⟩)))⟩
end
section
variable{prog:AE}{w:Ar}{A:AN}{E:Ah->Am->Prop}{h:Ay}{g:Bb CV}{d:Fd}{tk0:Ae}{os:EO}
variable{nm q:Ag}{C N e t:Ai}{dx:An Ai}{bs bm bmB:Ad Ah}{hdct:Aj}{sn:Ad Ag}{sub:Ad Ah}{ab:Aj}{col:An Aj}{dd:An Ai}{k0 k1 k2 k3 k5:An Ah}{B newId initId:Ca}
theorem Ux{Q:Ah->Am->Prop}(F:EY B newId initId bmB)(T:Cu h bmB bm)(gC:h.get? C=Aa (Bq nm q C N bs bm hdct sn sub ab col dd k0 k1 k2 k3 k5 newId))(ge:h.get? e=Aa (DZ C dx t))(hq : ∀ h' t',(∀ b o,b≠e->h.get? b=Aa o->h'.get? b=Aa o)->h'.get? e=Aa (DZ C dx t')->Q .none ⟨h',g,d,tk0,os⟩):As (model prog w) A (call (.builtin initId) [.ref e,.str z tk]) Q E ⟨h,g,d,tk0,os⟩:=by
 refine Eh (CD F.init.plain F.initEntry (wpAny_check_init_subT F T gC ge rfl ?_));unfold DZ at ge
 wp_walk
 refine hq _ h.objs.size (λb o nb z=>(B8 _ _ (C1 nb)).trans (Ax _ z)) ?_
 rw[Ct _ (Ax _ ge) rfl];rfl
end
noncomputable def xbd:Ae->Ae
 |0=>4
 |n+1=>8*xbd n+19
theorem MB : ∀ n:Fin 100,(A5 (toString ((n.val:Ae):Ao))).length<=4:=by decide+kernel
theorem Nh{α:Type}(f:α->Ae){m:Ae} : ∀ l:Ad α,(∀ x∈l,f x<=m)->(l.map f).sum<=l.length*m
 |[],_=>by simp
 |x::l,h=>by
  have h1:=h x AU;have h2:=Nh f l λy hy=>h y (AG _ hy)
  rw[DS,List.sum_cons,A9,Pl];omega
section
variable{X:Cx}{CL:ClA}{pI:Ad (Ai × AD)}{Z:L2.St}{H:Hp}{s:Am}
structure Shw (h:Ay) (n:Ae) (u:Ah) (pd:GF):Prop where
 rd:Reads h u pd []
 sh:pd.showable=Ab
 nd:pd.hasDict=Ac
 dp:pd.depth<=n
 ln:pd.shown.length<=xbd n
inductive ShwA (h:Ay) (n:Ae):Ad Ah->Ad GF->Prop where
 |nil:ShwA h n [] []
 |cons {u:Ah} {pd:GF} {us:Ad Ah} {pds:Ad GF}:Shw h n u pd->ShwA h n us pds->ShwA h n (u::us) (pd::pds)
theorem MY{h:Ay}{n:Ae} : ∀{us:Ad Ah}{pds:Ad GF},ShwA h n us pds->ReadsAll h us pds []/\Qg pds=Ab/\Qf pds=Ac/\Fe pds<=n/\(∀ t∈Cv pds,t.length<=xbd n)/\(Cv pds).length=us.length
 |[],[],_=>⟨.nil,rfl,rfl,DP _,(λ_ h=>nomatch h),rfl⟩
 |u::us,pd::pds,.cons h1 h2=>by
  obtain⟨a,b,c,d,e,f⟩:=MY h2;refine⟨.cons h1.rd a,?_,?_,?_,?_,?_⟩
  .show (pd.showable&&Qg pds)=Ab;rw[h1.sh,b];rfl
  .show (pd.hasDict||Qf pds)=Ac;rw[h1.nd,c];rfl
  .show max pd.depth (Fe pds)<=n;exact Nat.max_le.mpr ⟨h1.dp,d⟩
  .intro t ht;rcases AS.mp ht with rfl|ht
   .exact h1.ln
   .exact e t ht
  .show (Cv pds).length+1=us.length+1;rw[f]
theorem Wv(I:Inv X pI Z H s) : ∀(n:Ae){d:D}{v:V}{u:Ah},xfD n d=Ab->Rep X.K CL H A v d->Bf v u -> ∃ pd,Shw s.heap n u pd:=by
 intro n
 induction n with
 |zero=>
  intro d v u hx r rv;cases d with
  |int i=>
   have e:v = .int i:=r;subst e;obtain⟨t,rfl⟩:=rv;simp only[xfD,Al,AQ]at hx;refine⟨.int i,.int i t,?_,rfl,AW _,?_⟩
   .show decide (i.natAbs.log2<1920)=Ab;refine YL (Ey (Pf _) (by omega))
   .have:=MB ⟨i.toNat,by omega⟩
    rw[show ((i.toNat:Ae):Ao)=i by omega]at this
    exact this
  |_=>exact absurd (show Ac=Ab from hx) Aq
 |succ n ih0=>
  intro d v u hx r rv;cases d with
  |tup ds=>
   obtain⟨a,xs,rfl,_,sq,rs⟩:=r;cases rv;obtain⟨its,vs,⟨o,ho,hc,m,hd⟩,hz⟩:=I.tuple sq;simp only[xfD,Al,Cm]at hx;have key : ∀{xs:Ad V}{ds:Ad D}{its:Ad Ah},(∀ d∈ds,xfD n d=Ab)->Reps X.K CL H A xs ds->AR xs its -> ∃ pds,ShwA s.heap n its pds:=λ{xs}=>by
    induction xs with
    |nil=>
     intro ds its _ rs vs;cases vs;exact⟨[],.nil⟩
    |cons x xs ih=>
     intro ds its hd rs vs;cases ds with
     |nil=>exact rs.elim
     |cons d ds=>
      cases vs with
      |cons v1 v2=>
       obtain⟨pd,h1⟩:=ih0 (hd d AU) rs.1 v1;obtain⟨pds,h2⟩:=ih (λe he=>hd e (AG _ he)) rs.2 v2
       exact⟨pd::pds,.cons h1 h2⟩
   obtain⟨pds,hf⟩:=key hx.2 rs vs;obtain⟨p1,p2,p3,p4,p5,p6⟩:=MY hf;have l8:its.length<=8:=by
    have h8:=Nat.ble_eq.mp hx.1;rw[<-vs.length,rs.length];exact h8
   refine⟨.tuple pds,.tuple ho hc hd (by simpa using p1),p2,p3,?_,?_⟩
   .show Fe pds+1<=n+1;omega
   .show (tupleText (Cv pds)).length<=8*xbd n+19;have h1:=tupleText_len_le (Cv pds);have h2:=Nh (λt:Ag=>t.length) (Cv pds) p5
    have h3:(Cv pds).length*xbd n<=8*xbd n:=Nat.mul_le_mul_right _ (by omega)
    omega
  |_=>exact absurd (show Ac=Ab from hx) Aq
end
section
variable{X:Cx}{CL:ClA}
noncomputable def tFs(K:Fg)(CL:ClA)(i:Ae):TE:=λZ H Q => ∃ v d A n,Z[i]? = Aa (Aa v)/\Rep K CL H A v d/\xfD n d=Ab/\n<=2 /\ ∀ t:Ag,Q (.str t) H
noncomputable def tFm(K:Fg)(CL:ClA)(i:Ae):TE:=λZ H Q => ∃ v d A n,Z[i]? = Aa (Aa v)/\Rep K CL H A v d/\xfD n d=Ab/\n<=2 /\ ∀ t:Ag,t.length<=500->Q (.str t) H
theorem Na{e:Ak}{i:Ae}(hu:X.A.units+64<Br)(hg:X.A.guards=Aa [])(he:PE X e (DO i)):PE X (.FormattedValue e (-1) Af p1) (tFm X.K CL i):=by
 intro pI s Z H Q I ⟨v,d,A,n,hv,r,hx,hn,q⟩;refine wpAny_FormattedValue_plain (thn (he pI s Z H (λx H1=>x=v/\H1=H) I ⟨v,hv,rfl,rfl⟩) λu s1 ⟨x,H1,I1,r1,e1,e2⟩ => ?_)
 subst e1 e2;have zl:sizeLine ≥ 2000:=by decide
 obtain⟨pd,sw⟩:=Wv I1 n hx r r1;have hn':n=0\/n=1\/n=2:=by omega
 have xb:xbd n<=500:=by rcases hn' with rfl|rfl|rfl <;> decide
 have ln:=sw.ln;have dp:=sw.dp;cases d with
 |int j=>
  have e:x = .int j:=r;subst e;obtain⟨t,rfl⟩:=r1;cases n with
  |zero=>
   have hx':(decide (0<=j)&&decide (j<100))=Ab:=hx;rw[Al,AQ,AQ]at hx';have il:=MB ⟨j.toNat,by omega⟩
   rw[show ((j.toNat:Ae):Ao)=j by omega]at il
   exact formatField_int_small (Ey (Pf _) (by omega)) ⟨.str _,H1,I1.tok _,⟨_,rfl⟩,q _ (BR il (by omega))⟩
  |succ n=>cases hx
 |tup ds=>
  obtain⟨a,xs,rfl,_,sq,rs⟩:=r;cases r1;refine formatField_of_reads sw.rd sw.sh (λz=>by rw[sw.nd]at z;cases z) hg (by omega) (λ_ _ z=>z) (λh' tk1 tk2 kp => ?_) (by omega)
  exact⟨.str pd.shown,H1,I1.kept kp,⟨_,rfl⟩,q _ (by omega)⟩
 |_=>cases n <;> cases hx
theorem Ur{e:Ak}{i:Ae}(hu:X.A.units+64<Br)(hg:X.A.guards=Aa [])(hz:z.length<=1000)(he:PE X e (DO i)):PE X (.JoinedStr [.FormattedValue e (-1) Af p1,.Constant (.str z) k p2] p3) (tFs X.K CL i):=by
 intro pI s Z H Q I ⟨v,d,A,n,hv,r,hx,hn,q⟩;have zl:sizeLine ≥ 2000:=by decide
 refine QK ?_;show As (model X.prog X.w) X.A (eval (.FormattedValue e (-1) Af p1) X.env) (λv s1 => ∃ y t,v = .str y t/\(CI++y).length<=sizeLine/\Joins (model X.prog X.w) X.A X.xe [eval (.Constant (.str z) k p2) X.env] (CI++y) _ s1) X.xe s
 refine thn (Na (CL:=CL) hu hg he pI s Z H (λx H1 => ∃ y:Ag,x = .str y/\y.length<=500/\H1=H) I ⟨v,d,A,n,hv,r,hx,hn,λt ht=>⟨t,rfl,ht,rfl⟩⟩) λu s1 ⟨x,H1,I1,r1,y,e1,hy,e2⟩ => ?_
 subst e1 e2;obtain⟨t1,rfl⟩:=r1;have l0:(CI++y).length<=500:=by
  rw[DU];have:CI.length=0:=rfl;omega
 refine⟨y,t1,rfl,by omega,?_⟩
 show As (model X.prog X.w) X.A (eval (.Constant (.str z) k p2) X.env) _ X.xe s1;refine thn (ID (X:=X) pI _ Z H1 (λx H2=>x = .str z/\H2=H1) I1 ⟨rfl,rfl⟩) λu2 s2 ⟨x2,H2,I3,r3,e3,e4⟩ => ?_
 subst e3 e4;obtain⟨t3,rfl⟩:=r3;have l1:(CI++y++z).length<=sizeLine:=by
  rw[DU];omega
 exact⟨z,t3,rfl,l1,l1,⟨.str _,H2,I3.tok _,⟨_,rfl⟩,q _⟩⟩
theorem RV{e:Ak}{i:Ae}{p0:Az}(hu:X.A.units+64<Br)(hg:X.A.guards=Aa [])(hz':z'.length<=400)(hz:z.length<=1000)(he:PE X e (DO i)):PE X (.JoinedStr [.Constant (.str z') k' p0,.FormattedValue e (-1) Af p1,.Constant (.str z) k p2] p3) (tFs X.K CL i):=by
 intro pI s Z H Q I ⟨v,d,A,n,hv,r,hx,hn,q⟩;have zl:sizeLine ≥ 2000:=by decide
 refine QK ?_;show As (model X.prog X.w) X.A (eval (.Constant (.str z') k' p0) X.env) (λv s1 => ∃ y t,v = .str y t/\(CI++y).length<=sizeLine/\Joins (model X.prog X.w) X.A X.xe [eval (.FormattedValue e (-1) Af p1) X.env,eval (.Constant (.str z) k p2) X.env] (CI++y) _ s1) X.xe s
 refine thn (ID (X:=X) pI _ Z H (λx H2=>x = .str z'/\H2=H) I ⟨rfl,rfl⟩) λu0 s0 ⟨x0,H0,I0,r0,e0,e00⟩ => ?_
 subst e0 e00;obtain⟨t0,rfl⟩:=r0;have le:(CI++z').length<=400:=by
  rw[DU];have:CI.length=0:=rfl;omega
 refine⟨z',t0,rfl,by omega,?_⟩
 show As (model X.prog X.w) X.A (eval (.FormattedValue e (-1) Af p1) X.env) _ X.xe s0;refine thn (Na (CL:=CL) hu hg he pI s0 Z H0 (λx H1 => ∃ y:Ag,x = .str y/\y.length<=500/\H1=H0) I0 ⟨v,d,A,n,hv,r,hx,hn,λt ht=>⟨t,rfl,ht,rfl⟩⟩) λu s1 ⟨x,H1,I1,r1,y,e1,hy,e2⟩ => ?_
 subst e1 e2;obtain⟨t1,rfl⟩:=r1;have l0:(CI++z'++y).length<=900:=by
  rw[DU];omega
 refine⟨y,t1,rfl,by omega,?_⟩
 show As (model X.prog X.w) X.A (eval (.Constant (.str z) k p2) X.env) _ X.xe s1;refine thn (ID (X:=X) pI _ Z H1 (λx H2=>x = .str z/\H2=H1) I1 ⟨rfl,rfl⟩) λu2 s2 ⟨x2,H2,I3,r3,e3,e4⟩ => ?_
 subst e3 e4;obtain⟨t3,rfl⟩:=r3;have l1:(CI++z'++y++z).length<=sizeLine:=by
  rw[DU];omega
 exact⟨z,t3,rfl,l1,l1,⟨.str _,H2,I3.tok _,⟨_,rfl⟩,q _⟩⟩
structure FsOk (par:Ag) (j:Ak):Prop where
 st : ∀ env,Ap [j] env=[(Ac,eval j env)]
 pe : ∀(X:Cx)(CL:ClA)(i:Ae),X.A.units+64<Br->X.A.guards=Aa []->(∀ p,PE X (.Name par p) (DO i))->PE X j (tFs X.K CL i)
theorem V1{p4:Az}(hz:z.length<=1000):FsOk par (.JoinedStr [.FormattedValue (.Name par p1) (-1) Af p2,.Constant (.str z) k p3] p4):=⟨λ_=>rfl,λ_ _ _ hu hg he=>Ur hu hg hz (he _)⟩
theorem SJ{p0 p4:Az}(hz':z'.length<=400)(hz:z.length<=1000):FsOk par (.JoinedStr [.Constant (.str z') k' p0,.FormattedValue (.Name par p1) (-1) Af p2,.Constant (.str z) k p3] p4):=⟨λ_=>rfl,λ_ _ _ hu hg he=>RV hu hg hz' hz (he _)⟩
end
noncomputable def XEx(e C:Ai)(dx:An Ai)(t:Ai):Ay->Prop:=λh=>h.get? e=Aa (DZ C dx t)
theorem Iz{e C:Ai}{t:Ai} : ∀ h1 h2:Ay,XEx e C dx t h1->(∀ o,h1.get? e=Aa o->h2.get? e=Aa o)->XEx e C dx t h2:=λ_ _ p k=>k _ p
section
variable{X:Cx}{CL:ClA}{C:Ai}{nm q:Ag}{N:Ai}{bs bm:Ad Ah}{hdct:Aj}{sn:Ad Ag}{sub:Ad Ah}{ab:Aj}{col:An Aj}{dd:An Ai}{k0 k1 k2 k3 k5:An Ah}
theorem RU{apos:Az}{es ej:Ak}{i j:Ae}(hob : ∀ h:Ay,X.K.In h->h.get? C=Aa (Bq nm q C N bs bm hdct sn sub ab col dd k0 k1 k2 k3 k5 "ValueError.__new__")/\Cu h veB bm)(hg:Gl X g)(hm:X.mg g=Aa (.ref OV))(hdb:(g==("__debug__" : Ag))=Ac)(s1:B0 X.K (.ref OV) "__getattribute__" = Aa (Aa (.builtin "type.__getattribute__")))(s2:Dr X.K OV (.type "type")=Ab)(s3:Dq X.K (.ref OV) (.type "type") "__init__" = Aa (.val (.builtin "ValueError.__init__")))(hline:(apos.endLine==cpos.line)=Ab)(he:PE X es (DO i))(hj:PE X ej (tFs X.K CL j))(sA:Ap [es,ej] X.env=(Ac,eval es X.env)::Ap [ej] X.env)(sB:Ap [ej] X.env=[(Ac,eval ej X.env)]):
  PE X (.Call (.Attribute (.Name g np) "__init__" apos) [es,ej] [] cpos) (λZ H Q => ∃ e dx t v d A n,Z[i]? = Aa (Aa (.ref e))/\H e=Aa (.ext (XEx e C dx t))/\Z[j]? = Aa (Aa v)/\Rep X.K CL H A v d/\xfD n d=Ab/\n<=2 /\ ∀ t',Q .non (upd H e (.ext (XEx e C dx t')))):=by
 have st1:Ap [es,ej] X.env=[(Ac,eval es X.env),(Ac,eval ej X.env)]:=by rw[sA,sB]
 intro pI s Z H Q I ⟨e,dx,t,v,d,A,n,h1,h2,h3,r,hx,hn,hq⟩;rw[arm_eval_Call];refine Au (show As (model X.prog X.w) X.A (eval (.Name g np) X.env) _ X.xe s from FI I hg hm ?_ hdb)
 refine Au (De ?_);have form:methodCallForm ([es,ej].length+([]:Ad Dg).length) (Bk cpos (Ap [es,ej] X.env)) (Gi cpos (Fi [] X.env))=Ab:=by
  rw[st1];rfl
 have mpos:methodCallPos Ab (.Name g np) X.env apos cpos=pure cpos:=by
  unfold methodCallPos;simp[hline]
 unfold methodCall;rw[form];refine Au (EF (PySem.W.method_cls I.kIn s1 (PySem.W.cls_value I.kIn s2 s3 rfl ?_)));refine Au (wpAny_of_eq mpos ?_);have I1:=I.tok (s.toks+1);have pa:PA X [es,ej] _:=Dk he (Dk hj EH sB) sA;have hA:=pa cpos pI {s with toks:=s.toks+1} Z H (λxs H'=>H'=H /\ ∃ z,xs=[.ref e,.str z]) I1 ⟨_,h1,⟨v,d,A,n,h3,r,hx,hn,λz=>⟨rfl,z,rfl⟩⟩⟩
 rw[st1]at hA ⊢;refine Pv rfl (C7 (thn hA λus s2 ⟨xs,H2,I2,rv,e2,z,ex⟩ => ?_))
 subst e2 ex;obtain⟨u1,u2,rfl,ru1,ru2⟩:=HH rv;cases ru1;obtain⟨tk,rfl⟩:=ru2;obtain⟨gC,T⟩:=hob _ I2.kIn;have ge:XEx e C dx t s2.heap:=(I2.hok e _ h2).1;obtain⟨hp,g2,d2,tk2,os2⟩:=s2;refine Ux Cb T gC ge λh' t' kp ge' => ?_
 refine⟨.non,_,I2.write (x:=e) (e:=e) (o := .ext (XEx e C dx t')) (t':=tk2) (by rw[h2];exact trivial) (.inl rfl) kp ⟨_,ge'⟩ ⟨ge',⟨_,ge'⟩,Iz⟩,rfl,hq t'⟩
end
theorem QS{bmB bm:Ad Ah}(T:Cu h bmB bm){self:Ah}{what:Ag}(hb:refuseLoop self what bmB=pure ()):refuseLoop self what bm=pure ():=by
 induction T with
 |base=>exact hb
 |own _ _ _ _ ih=>rw[QJ];exact ih
section
variable{prog:AE}{w:Ar}{A:AN}{E:Ah->Am->Prop}{h:Ay}{g:Bb CV}{d:Fd}{tk0:Ae}{os:EO}{K:Fg}
variable{nm q:Ag}{C N e t:Ai}{bs bm bmB:Ad Ah}{sn:Ad Ag}{sub:Ad Ah}{ab:Aj}{col:An Aj}{dd:An Ai}{k0 k1 k2 k3 k5:An Ah}{B newId sa owner:Ca}
theorem Tr{Q:Fin->Am->Prop}{v:Ah}(X:K.In h)(SF:GI B bmB sa owner)(T:Cu h bmB bm)(gC:h.get? C=Aa (Bq nm q C N bs bm Ab sn sub ab col dd k0 k1 k2 k3 k5 newId))(hf:Av K (.ref C) name=Aa Af)(ge:h.get? e=Aa (DZ C Af t))(hq : ∀ h' dx tk',(∀ b o,b≠e->h.get? b=Aa o->h'.get? b=Aa o)->h'.get? e=Aa (DZ C (Aa dx) t)->h.get? dx=Af->h'.Ns1 dx (λy=>if y=name then Aa v else Af)->Q (.done (.ret .none)) ⟨h',g,d,tk',os⟩):As (model prog w) A (Builtin.«object.__setattr__» ⟨[.ref e,.str name tk,v],[]⟩) Q E ⟨h,g,d,tk0,os⟩:=by
 have pass:=QS T (SF.passes (.ref e));have L1:=BJ (M:=model prog w) X hf;obtain⟨o,ho⟩ : ∃ o,DZ C Af t=o:=⟨_,rfl⟩;rw[ho]at ge;have oc:o.cls = .ref C:=by rw[<-ho];rfl
 unfold Builtin.«object.__setattr__»
 repeat (first|rw[refuse_eq]|(rw[QJ,pass])|(with_reducible refine Bx ge ?_;rw[oc])|(with_reducible refine wpAny_mroOf_exc gC ?_)|(with_reducible refine L1.at ?_)|(with_reducible refine Au (L1.at ?_))|wp_step)
 have od:o.dict=Af:=by rw[<-ho];rfl
 have odt:o.data = .fields #[.ref t,.none,.none,.none,.bool Ac,.none]:=by rw[<-ho];rfl
 rw[od,odt,A8 (by simp[typeHasDict])]
 let D:AD := { cls := .type "dict",data := .dict #[] }
 have g1:(h.push D).get? e=Aa o:=Ax _ ge;have ne:e≠h.objs.size:=Bs (AA ge);refine Au (wpAny_alloc' ?_);refine Au (wpAny_update' g1 ?_);refine Bo ?_
 let U_:AD->AD:=λo => {cls:=o.cls,dict:=Aa h.objs.size,data:=o.data,slots:=o.slots}
 have gD:((h.push D).update e U_).get? h.objs.size=Aa D:=(Qc _ _ _ _ ne.symm).trans (Qb rfl rfl);have nD:((h.push D).update e U_).Ns h.objs.size (λ_=>Af):=⟨_,#[],_,gD,rfl,λz hz=>absurd hz (by simp),λ_=>rfl⟩
 change As _ _ (Pt h.objs.size (.str name tk) name v) _ _ _;unfold Pt Builtin.ObjectAttr.newKeyGuard;refine Au (Bo (Au (wpAny_nsSet1 (Heap.Ns1.of_empty nD) λk hk hs => ?_)))
 obtain⟨oD,eD,pD,q1,q2,q3⟩:=hk.count (Within.cons name v Within.nil);have le:oD.data.pastItsLine=Af:=by
  rw[q2];refine pastItsLine_dict (BR q3 ?_);rw[A9,List.length_nil,BX];omega
 refine Au (wpAny_lookBehind q1 le ?_)
 wp_walk
 refine hq k h.objs.size _ (λb ob nb hb => ?_) ?_ (Ci (AW _)) hk
 .rw[hs.2 b (Bs (AA hb)),Qc _ _ _ _ nb];exact Ax _ hb
 .rw[hs.2 e ne];have:Aa (DZ C (Aa h.objs.size) t)=Aa (U_ o):=by rw[<-ho];rfl
  rw[this];exact Ct _ g1 (by rw[<-ho];rfl)
end
section
variable{prog:AE}{w:Ar}{A:AN}{E:Ah->Am->Prop}{h:Ay}{g:Bb CV}{d:Fd}{tk0:Ae}{os:EO}{K:Fg}
variable{nm q:Ag}{C N e t:Ai}{bs bm bmB:Ad Ah}{sn:Ad Ag}{sub:Ad Ah}{ab:Aj}{col:An Aj}{dd:An Ai}{k0 k1 k2 k3 k5:An Ah}{B newId sa owner:Ca}
theorem Ts{o:AD}{a b:Ah}(SF:GI B bmB sa owner)(T:Cu h bmB bm)(gC:h.get? C=Aa (Bq nm q C N bs bm Ab sn sub ab col dd k0 k1 k2 k3 k5 newId))(ge:h.get? e=Aa o)(hc:o.cls = .ref C)(hq:Q () ⟨h,g,d,tk0,os⟩):As M A (DW sa ⟨[.ref e,a,b],[]⟩) Q E ⟨h,g,d,tk0,os⟩:=by
 have hb:(BH C::bm).contains (.type owner)=Ab:=by rw[Ew,T.hasType SF.hasOwner,EU]
 have ha:=SF.args (.ref e) a b;simp only[DW,SF.kind,SF.split];refine Au ?_;unfold FH
 repeat (first|(with_reducible refine Bx ge ?_;rw[hc])|(with_reducible refine Di gC ?_;rw[hb])|wp_step)
 unfold argsOk at ha;split
 .rename_i sig hs;rw[hs]at ha;refine wpAny_of_eq ha ?_;exact hq
 .exact Bo hq
theorem Uv{v:Ah}(X:K.In h)(SF:GI B bmB sa owner)(T:Cu h bmB bm)(gC:h.get? C=Aa (Bq nm q C N bs bm Ab sn sub ab col dd k0 k1 k2 k3 k5 newId))(hf:Av K (.ref C) name=Aa Af)(hs:Av K (.ref C) "__setattr__" = Aa (Aa (.builtin sa)))(ge:h.get? e=Aa (DZ C Af t))(hq : ∀ h' dx tk',(∀ b o,b≠e->h.get? b=Aa o->h'.get? b=Aa o)->h'.get? e=Aa (DZ C (Aa dx) t)->h.get? dx=Af->h'.Ns1 dx (λy=>if y=name then Aa v else Af)->Q () ⟨h',g,d,tk',os⟩):As (model prog w) A (setAttr (.ref e) name v) Q E ⟨h,g,d,tk0,os⟩:=by
 have f3:=SF.slot.bind (.ref e);have L1:=BJ (M:=model prog w) X hs;obtain⟨o,ho⟩ : ∃ o,DZ C Af t=o:=⟨_,rfl⟩;have oc:o.cls = .ref C:=by rw[<-ho];rfl
 have ge':=ge;rw[ho]at ge';unfold setAttr callSpecial? specialOf
 repeat (any_goals (first|assumption|(with_reducible refine Bx ge' ?_;rw[oc])|(with_reducible refine Au (L1.at ?_))|(with_reducible refine L1.at ?_)|wp_step))
 refine CD SF.slot.plain SF.entry (Ts SF T gC ge' oc (Tr X SF T gC hf ge λh' dx tk' k1 k2 k3 k4 => ?_))
 repeat (any_goals (first|assumption|wp_step))
 exact hq h' dx tk' k1 k2 k3 k4
end
section
variable{X:Cx}{pI:Ad (Ai × AD)}{Z:L2.St}{H:Hp}{s:Am}{e:Ai}
theorem J8{o:HO}(I:Inv X pI Z H s)(ha:D2 X pI e)(hH:H e=Af)(ho:ObjOk X.prog X.w (upd H e o) s.heap e o):Inv X pI Z (upd H e o) s:=by
 have ne : ∀ b o,H b=Aa o->b≠e:=λb o q z=>by rw[z,hH]at q;cases q
 refine⟨I.ok,I.os,I.bare,⟨I.base.keep,I.base.slot,λb o q n hb => ?_,I.base.there,λb xs q => ?_,λb o u q => ?_,λb ps q => ?_⟩,I.loc,I.cell,?_,λx c q => ?_,λp hp => ?_,λb o q => ?_,I.len⟩
 .rw[Ba λz=>by rw[z,ha.2.2.2]at q;cases q]
  exact I.base.free b o q n hb
 .have:=I.base.tups b xs q;rw[Ba (ne _ _ this)];exact this
 .have:=I.base.frzs b o u q;rw[Ba (ne _ _ this)];exact this
 .obtain⟨more,this⟩:=I.base.tbls b ps q;exact⟨more,by rw[Ba (ne _ _ this)];exact this⟩
 .rw[Ba λz=>ha.1 z.symm];exact I.free
 .rw[Ba (ha.2.1 x c q)];exact I.freeC x c q
 .obtain⟨q,n,r⟩:=I.pin p hp;exact⟨q,by rw[Ba (ha.2.2.1 p hp)];exact n,r⟩
 .by_cases hb:b=e
  .subst hb;rw[CY]at q;cases q;exact ho
  .rw[Ba hb]at q;exact(I.hok b o q).stay (λc v hc z=>z) (λc z=>by rw[Ba (ne _ _ z)];exact z) λc zs z=>by rw[Ba (ne _ _ z)];exact z
theorem Sr(I:Inv X pI Z H s)(hH:H e=Aa (.ext φ))(h0:X.s₀.heap.get? e=Af)(h1:X.ex=[]->E4):Inv X pI Z (λb=>if b=e then Af else H b) s:=by
 have get : ∀ b o,(if b=e then Af else H b)=Aa o->b≠e/\H b=Aa o:=λb o q=>by
  by_cases z:b=e
  .rw[AX z]at q;cases q
  .rw[A8 z]at q;exact⟨z,q⟩
 have put : ∀ b o,H b=Aa o->o ≠ .ext φ->(if b=e then Af else H b)=Aa o:=λb o q n=>by
  by_cases z:b=e
  .rw[z,hH]at q;cases q;exact absurd rfl n
  .rw[A8 z];exact q
 have non : ∀ b,H b=Af->(if b=e then Af else H b)=Af:=λb q=>by
  by_cases z:b=e
  .rw[AX z]
  .rw[A8 z];exact q
 refine⟨I.ok,I.os,I.bare,⟨λb o q n hb hx => ?_,I.base.slot,λb o q n hb => ?_,I.base.there,λb xs q => ?_,λb o u q => ?_,λb ps q => ?_⟩,I.loc,I.cell,non _ I.free,λx c q=>non _ (I.freeC x c q),λp hp => ?_,λb o q => ?_,I.len⟩
 .exact I.base.keep b o q n hb hx
 .exact non b (I.base.free b o q n hb)
 .exact put b _ (I.base.tups b xs q) (by intro z;cases z)
 .exact put b _ (I.base.frzs b o u q) (by intro z;cases z)
 .obtain⟨more,this⟩:=I.base.tbls b ps q;exact⟨more,put b _ this (by intro z;cases z)⟩
 .obtain⟨q,n,r⟩:=I.pin p hp;exact⟨q,non _ n,r⟩
 .obtain⟨nb,q⟩:=get b o q;exact(I.hok b o q).stay (λc v hc z=>z) (λc z=>put c _ z (by intro z;cases z)) λc zs z=>put c _ z (by intro z;cases z)
end
section
variable{X:Cx}{C:Ai}{nm q:Ag}{N:Ai}{bs bm:Ad Ah}{sn:Ad Ag}{sub:Ad Ah}{ab:Aj}{col:An Aj}{dd:An Ai}{k0 k1 k2 k3 k5:An Ah}
theorem Ul{i j:Ae}{f:Ag}{eo ev:Ak}{p8 p10:Az}(hob : ∀ h:Ay,X.K.In h->h.get? C=Aa (Bq nm q C N bs bm Ab sn sub ab col dd k0 k1 k2 k3 k5 "ValueError.__new__")/\Cu h veB bm)(hx:X.ex=[])(hf:Av X.K (.ref C) f=Aa Af)(hs:Av X.K (.ref C) "__setattr__" = Aa (Aa (.builtin "object.__setattr__")))(he:PE X eo (DO i))(hv:PE X ev (DO j))(sw:Ck ev (Aa (.Attribute eo f p8)) p10.line X.env=pure Ac):PS X (.Assign [.Attribute eo f p8] ev p10) (λD Z H =>∃ e t v,Z[i]? = Aa (Aa (.ref e))/\H e=Aa (.ext (XEx e C Af t))/\Z[j]? = Aa (Aa v)/\∀ dx,H dx=Af->dx≠e->D.nx Z (upd (upd H e (.ext (XEx e C (Aa dx) t))) dx (.xd [(f,v)]))):=by
 intro pI s Z H D I ⟨e,t,v,h1,h2,h3,hq⟩;refine plainObj_wpAny_Assign_Attribute (thn (hv pI s Z H (λx H1=>x=v/\H1=H) I ⟨v,h3,rfl,rfl⟩) λu s1 ⟨x,H1,I1,r1,e1,e2⟩ => ?_) sw
 subst e1 e2;refine thn (he pI s1 Z H1 (λx H2=>x = .ref e/\H2=H1) I1 ⟨_,h1,rfl,rfl⟩) λu2 s2 ⟨x2,H2,I2,r2,e3,e4⟩ => ?_
 subst e3 e4;cases r2;obtain⟨gC,T⟩:=hob _ I2.kIn;have ge:XEx e C Af t s2.heap:=(I2.hok e _ h2).1;obtain⟨hp,g2,d2,tk2,os2⟩:=s2;refine Uv I2.kIn PySem.F.store_ValueError T gC hf hs ge λh' dx tk' kp ge' nd ns => ?_
 have nH:H2 dx=Af:=F5 I2.hok nd;have nde:dx≠e:=λz=>by rw[z,h2]at nH;cases nH
 have ap:D2 X pI dx:=Gk I2 hx nd;have I3:=I2.write (x:=e) (e:=e) (o := .ext (XEx e C (Aa dx) t)) (t':=tk') (by rw[h2];exact trivial) (.inl rfl) kp ⟨_,ge'⟩ ⟨ge',⟨_,ge'⟩,Iz⟩
 have I4:=J8 (o := .xd [(f,x)]) I3 ap (by rw[Ba nde];exact nH) ⟨_,ns,λy=>by
  by_cases z:y=f
  .subst z;rw[AX rfl];simp only[CH,Da];exact r1
  .rw[A8 z];have:(y==f)=Ac:=by simp[z]
   simp only[CH,this]
   trivial⟩
 exact⟨Z,_,I4,hq dx nH nde⟩
end
noncomputable def D4(K:Fg)(C:Ai):Aj:=match K.lookup C with
  |some ⟨_,_,.cls c,_⟩=>c.hasDict
  |_=>Ac
noncomputable def Lh(g par f:Ag)(j:Ak)(np apos p1 cpos p6 p7 p8 p9 p10:Az):Ad AC:=
 [.Expr (.Call (.Attribute (.Name g np) "__init__" apos) [.Name "self" p1,j] [] cpos) p6,.Assign [.Attribute (.Name "self" p7) f p8] (.Name par p9) p10]
inductive XIn (K:Fg) (mg:Ag->An Ah) (C:Ai) (f:Ag):Prop
 |mk {fI OV:Ai} {x qual g par:Ag} {j:Ak} {st:AC} {fd:Bn} {np apos p1 cpos p6 p7 p8 p9 p10:Az} (xc:Cd K C (Aa (.ref fI))=Ab) (dc:D4 K C=Ab) (fn:Fun K x qual st fI fd) (ty:Co K (.ref fI)=Aa (.type "function"))
  (S:FnScope ["self",par] ["self",par] (BM st)) (l1:(BM st).names.lookup ("self" : Ag)=Aa .local) (l2:(BM st).names.lookup par=Aa .local) (bd:Ej K fd ["self",par] []) (body:DA st=Lh g par f j np apos p1 cpos p6 p7 p8 p9 p10)
  (gl:(BM st).names.lookup g=Aa .globalImplicit) (mo:mg g=Aa (.ref OV)) (dg:(g==("__debug__" : Ag))=Ac) (dp:(par==("__debug__" : Ag))=Ac) (dq:(par==("__classdict__" : Ag))=Ac)
  (s1:B0 K (.ref OV) "__getattribute__" = Aa (Aa (.builtin "type.__getattribute__"))) (s2:Dr K OV (.type "type")=Ab) (s3:Dq K (.ref OV) (.type "type") "__init__" = Aa (.val (.builtin "ValueError.__init__")))
  (hl:(apos.endLine==cpos.line)=Ab) (hz:FsOk par j) (hf:Av K (.ref C) f=Aa Af) (hs:Av K (.ref C) "__setattr__" = Aa (Aa (.builtin "object.__setattr__"))):XIn K mg C f
section
variable{P:AE}{w:Ar}{K:Fg}{mg:Ag->An Ah}{base:Ay}{CL:ClA}{C fI OV:Ai}{x qual g par f:Ag}{j:Ak}{st:AC}{fd:Bn}{np apos p1 cpos p6 p7 p8 p9 p10:Az}
variable{nm q:Ag}{N:Ai}{bs bm:Ad Ah}{sn:Ad Ag}{sub:Ad Ah}{ab:Aj}{col:An Aj}{dd:An Ai}{k0 k1 k2 k3 k5:An Ah}
theorem MC(hob : ∀ h:Ay,K.In h->h.get? C=Aa (Bq nm q C N bs bm Ab sn sub ab col dd k0 k1 k2 k3 k5 "ValueError.__new__")/\Cu h veB bm)(fn:Fun K x qual st fI fd)(S:FnScope ["self",par] ["self",par] (BM st))(l1:(BM st).names.lookup ("self" : Ag)=Aa .local)(l2:(BM st).names.lookup par=Aa .local)(bd:Ej K fd ["self",par] [])(body:DA st=Lh g par f j np apos p1 cpos p6 p7 p8 p9 p10)(gl:(BM st).names.lookup g=Aa .globalImplicit)(mo:mg g=Aa (.ref OV))(dg:(g==("__debug__" : Ag))=Ac)(dp:(par==("__debug__" : Ag))=Ac)(dq:(par==("__classdict__" : Ag))=Ac)(s1:B0 K (.ref OV) "__getattribute__" = Aa (Aa (.builtin "type.__getattribute__")))(s2:Dr K OV (.type "type")=Ab)(s3:Dq K (.ref OV) (.type "type") "__init__" = Aa (.val (.builtin "ValueError.__init__")))(hl:(apos.endLine==cpos.line)=Ab)(hz:FsOk par j)(hf:Av K (.ref C) f=Aa Af)(hs:Av K (.ref C) "__setattr__" = Aa (Aa (.builtin "object.__setattr__"))){A:AN}{outer:Ad BF}{s:Am}{E:XK}{e t:Ai}{v:V}{u:Ah}{n:Ae}(hh:A.handled=Af)(hdp:A.depth<FC)(hun:A.units+70<Br)(hgd:A.guards=Aa [])(e0:Env0 P w K mg base A outer s H)(he:H e=Aa (.ext (XEx e C Af t)))(rp:Rep K CL H B v d)(hx:xfD n d=Ab)(hn:n<=2)(r:Bf v u):DG (model P w) A (.call (.ref fI) ⟨[.ref e,u],[]⟩) (CR Jk outer P w H s (λy H'=>y = .non/\∃ t' dx,H dx=Af/\dx≠e/\H'=upd (upd H e (.ext (XEx e C (Aa dx) t'))) dx (.xd [(f,v)])) E) s:=by
 obtain⟨oc,od,kV,doc,pm,an,cdv,ct,osl,rfl,lk,hcd⟩:=fn.ex;have KX:K.In s.heap:=e0.mod.kin.keeps λb o e=>(e0.bs b o e).1
 have lim:s.heap.NoLimit:=e0.mod.nolimit.keeps λb o e=>(e0.bs b o e).1
 have hkind : ∀ y∈(["self",par]:Ad Ag).zip [BH e,u],(BM st).names.lookup y.1=Aa .local\/((BM st).names.lookup y.1=Aa .cell/\((B5 (s.heap.objs.size+1) (BM st).names []).lookup y.1).isSome=Ab):=λy hy=>by
  refine .inl ?_;rcases AS.mp hy with rfl|hy
  .exact l1
  .rw[Bp.mp hy];exact l2
 have rv:AR [.ref e,v] [.ref e,u] := .cons rfl (.cons r .nil);refine QH hdp (KX _ _ lk) rfl S.co S.gen rfl (QA KX hcd) (bd s [.ref e,u] KX rfl _ _ _ _ ?_);refine QN S.kind hkind λenv hen s1' x => ?_
 subst hen;refine⟨lim.keeps x.toInCall.keep,codeAny_func ?_⟩;have I:Inv (D5 Jk P w K mg base ["self",par] qual (BM st) fI cdv A outer s H E) [] (start ["self",par] [.ref e,v]) H s1':=Ma S hh e0 rfl rv x;generalize hX:D5 Jk P w K mg base ["self",par] qual (BM st) fI cdv A outer s H E=X at I;have pself : ∀ p,PE X (.Name "self" p) (DO 0):=λp=>by rw[<-hX];exact IC rfl (.inl l1)
 have ppar : ∀ p,PE X (.Name par p) (DO 1):=λp=>by rw[<-hX];exact IC rfl (.inl l2) dp dq
 have st1:=RU (X:=X) (CL:=CL) (C:=C) (g:=g) (np:=np) (apos:=apos) (cpos:=cpos) (i:=0) (j:=1) (OV:=OV) (by rw[<-hX];exact hob) (by rw[<-hX];exact gl) (by rw[<-hX];exact mo) dg (by rw[<-hX];exact s1) (by rw[<-hX];exact s2) (by rw[<-hX];exact s3) hl (pself p1)
  (hz.pe X CL 1 (by rw[<-hX];show A.units+3+64<Br;omega) (by rw[<-hX];exact hgd) ppar) rfl (hz.st _)
 have st2:=Ul (X:=X) (p8:=p8) (p10:=p10) (by rw[<-hX];exact hob) (by rw[<-hX];rfl) (by rw[<-hX];exact hf) (by rw[<-hX];exact hs) (pself p7) (ppar p9) rfl
 have all:=Mu (Hv (pos:=p6) st1 rfl) (Hu st2);have hk:=all [] s1' _ H {nx:=λ_ H' => ∃ t' dx,H dx=Af/\dx≠e/\H'=upd (upd H e (.ext (XEx e C (Aa dx) t'))) dx (.xd [(f,v)]),rt:=λ_ _=>AT} I ⟨e,Af,t,v,d,B,n,rfl,he,rfl,by rw[<-hX];exact rp,hx,hn,λt'=>⟨e,t',v,rfl,CY,rfl,λdx h1 h2=>⟨t',dx,by rw[Ba h2]at h1;exact h1,h2,by rw[JV]⟩⟩⟩
 rw[body];refine A2 (by rw[<-hX]at hk;exact hk) (λfl s' hfl => ?_) λev s' hev=>hev
 cases fl with
 |next=>
  obtain⟨Z',H',J,w'⟩:=hfl;exact⟨.non,H',J.os,J.bare,J.base,J.hok,rfl,rfl,w'⟩
 |ret y=>obtain⟨_,_,_,_,_,w'⟩:=hfl;exact w'.elim
 |brk=>obtain⟨_,_,_,w'⟩:=hfl;exact w'.elim
 |cont=>obtain⟨_,_,_,w'⟩:=hfl;exact w'.elim
end
theorem NK : ∀(n m:Ae)(d:D),xfD n d=Ab->n+1<=m->nlD m d=Ab
 |0,m+1,.int i,_,_=>rfl
 |n+1,m+1,.tup ds,h,hm=>by
  have h':(Cn ds.length 8&&ds.all (xfD n))=Ab:=h;rw[Al]at h';show ds.all (nlD m)=Ab;rw[Cm]at h' ⊢;exact λx hx=>NK n m x (h'.2 x hx) (by omega)
 |0,_,.tup _,h,_=>nomatch h
 |n+1,_,.int _,h,_=>nomatch h
section
variable{X:Cx}{CL:ClA}{W:XW}
noncomputable def GC(xn:Ae->Ad D->R Ex)(c:Ae)(f:Ag)(ds:Ad D):Prop := ∃ d n,ds=[d]/\xfD n d=Ab/\n<=2/\xn c ds = .ok ⟨c,[(f,d)]⟩
theorem Rv{e:Ak}{es:Ad Ak}(hcalm:X.calm=Ab)(hx:X.ex=[])(hr:Room k X.A)(rz:HU X CL W)(hg:Gl X g)(hm:X.mg g=Aa (.ref C))(hdb:(g==("__debug__" : Ag))=Ac)(hcl:CL c=Aa C)(ha:SA X CL W (e::es) fs)(hxn : ∀ ds,xn c ds = .bad\/(xn c ds = .ok ⟨c,[]⟩/\Cd X.K C Af=Ab) \/ ∃ f,XIn X.K X.mg C f/\GC xn c f ds)(he:Ap (e::es) X.env=(Ac,eval e X.env)::Ap es X.env)(hpl : ∀ pos,(Bk pos (Ap es X.env)).any (·.1)=Ac)(hz : ∀ Y ds,fs Y = .ok ds->ds.length<=100000):SS X CL W (.Raise (Aa (.Call (.Name g np) (e::es) [] cpos)) Af pos) (λY=>O.of Y (noX (fs Y)) λxs=>O.of Y (xn c xs) λx =>.exn x Y):=λFz B pI s Z H D I ⟨Y,x,p⟩=>by
 have hpl':(Bk cpos (Ap (e::es) X.env)).any (·.1)=Ac:=by rw[he];show (Ac||(Bk cpos (Ap es X.env)).any (·.1))=Ac;rw[hpl];rfl
 cases e1:fs Y with
 |bad=>dsimp only at p;rw[e1]at p;exact p.elim
 |exn y=>dsimp only at p;rw[e1]at p;exact p.elim
 |ok ds=>
  rcases hxn ds with e2|⟨e2,xc⟩|⟨f,xi,d,n,rfl,xf,hn,e2⟩
  .dsimp only at p;rw[e1]at p;have p2:BA X.K CL Fz B W (O.of Y (xn c ds) λx => .exn x Y) D:=p
   rw[e2]at p2;exact p2.elim
  .refine RJ (fs:=fs) (xn:=λ_ ds'=>match xn c ds' with | .ok ⟨_,[]⟩ => .ok ⟨c,[]⟩|_ => .bad) hcalm rz hg hm hdb xc hcl ha (λds'=>by
    split
    .exact .inr rfl
    .exact .inl rfl) he hpl hz Fz B pI s Z H D I ⟨Y,x,?_⟩
   dsimp only at p ⊢;rw[e1]at p ⊢;have p2:BA X.K CL Fz B W (O.of Y (xn c ds) λx => .exn x Y) D:=p
   rw[e2]at p2;show BA X.K CL Fz B W (O.of Y (match xn c ds with | .ok ⟨_,[]⟩=>(.ok ⟨c,[]⟩:R Ex)|_ => .bad) λx => .exn x Y) D
   rw[e2];exact p2
  .dsimp only at p;rw[e1]at p;have p2:BA X.K CL Fz B W (O.of Y (xn c [d]) λx => .exn x Y) D:=p
   rw[e2]at p2;have p3 : ∀ H,(∀ b o,Fz b o->H b=Aa o)->W ⟨c,[(f,d)]⟩ H:=p2;cases xi with
   |mk xc dc fn ty S l1 l2 bd body gl mo dg dp dq w1 w2 w3 hl hz0 hf hs=>
    rename_i fI OV x0 qual g0 par j0 st fd np0 apos q1 cpos0 q6 q7 q8 q9 q10;obtain⟨bm,N,nm,qn,bs,hd,sn,sub,ab,col,dd,k0,k1,k2,k3,k5,mN,hob,hni,hbase⟩:=Ho I.kIn xc;have hdt:hd=Ab:=by
     unfold D4 at dc;split at dc
     .rename_i c0 d0 cd sl lk;have g1:=I.kIn _ _ lk;rw[(hob _ I.kIn).1]at g1;unfold Bq at g1;cases g1;exact dc
     .cases dc
    subst hdt;have hob2 : ∀ h:Ay,X.K.In h->h.get? C=Aa (Bq nm qn C N bs bm Ab sn sub ab col dd k0 k1 k2 k3 k5 "ValueError.__new__")/\Cu h veB bm:=λh z=>⟨(hob h z).1,(hob h z).2.2⟩
    refine R7 (bmB:=veB) (nm:=nm) (q:=qn) (C:=C) (N:=N) (fI:=fI) (bs:=bs) (bm:=bm) (hdct:=Ab) (sn:=sn) (sub:=sub) (ab:=ab) (col:=col) (dd:=dd) (k0:=k0) (k1:=k1) (k2:=k2) (k3:=k3) (k5:=k5) (mN:=mN) Cb hbase (I.ok.hd hcalm) hpl' hni ?_;refine FI I hg hm ⟨rfl,?_⟩ hdb;have q1:=ha (Bm B Y Z) cpos pI s Z H (λvs H1=>At H H1/\Reps X.K CL H1 (Bm B Y Z) vs [d]) I ⟨x.aok,Y,x.good,by rw[e1];exact λvs H1 s1 r1=>⟨s1,r1⟩⟩
    rw[he]at q1 ⊢;refine C7 (A2 q1 (λus s2 ⟨vs,H2,I2,r2,sm2,rps⟩=>⟨rfl,?_⟩) λ_ _ z=>z)
    cases vs with
    |nil=>exact rps.elim
    |cons v vs=>
     cases vs with
     |cons=>exact rps.2.elim
     |nil=>
      obtain⟨u,rfl,ru⟩:=GA r2;obtain⟨o1,o2,o3⟩:=hob _ I2.kIn;obtain⟨oc,od,kV,doc,pm,an,cdv,ct,osl,efd,lk,hcd⟩:=fn.ex;have coc:oc = .type "function" := by
       have ty':(X.K.lookup fI).map _=_:=ty;rw[lk]at ty';exact BC ty'
      refine⟨by rw[BX];show 1<=_;omega,o1,o2,o3,⟨_,I2.kIn _ _ lk,coc⟩,λh' e0 made => ?_⟩
      obtain⟨t,ge,_⟩:=made.there;have I3:Inv X pI Z H2 {s2 with heap:=h'}:=I2.kept (t':=s2.toks) made.keeps
      have ap:D2 X pI e0:=Gk I2 hx made.new;have n0:H2 e0=Af:=F5 I2.hok made.new;have I4:=J8 (o := .ext (XEx e0 C Af t)) I3 ap n0 ⟨ge,⟨_,ge⟩,Iz⟩;have sm4:At H2 (upd H2 e0 (.ext (XEx e0 C Af t))):=λb o z=>by rw[Ba λy=>by rw[y,n0]at z;cases z];exact z
      have ru0:=hr.mono (DP k);have run:=MC (P:=X.prog) (w:=X.w) (mg:=X.mg) (base:=X.base) (CL:=CL) (E:=λ_ _ _=>AT) (B:=Bm B Y Z) (H:=upd H2 e0 (.ext (XEx e0 C Af t))) (t:=t) hob2 fn S l1 l2 bd body gl mo dg dp dq w1 w2 w3 hl hz0 hf hs (A:=X.A.under (.builtin "type.__call__" ⟨.ref C::[u],[]⟩)) (outer:=X.stack) hr.hd (by rw[LG];have:=ru0.dp;omega) (by rw[LF];have:=ru0.un;omega) hr.gd (I4.env0.make C [u] []) CY (Rep.same sm4 rps.1) xf hn ru
      refine Eh (Dz run λr s' hq => ?_)
      cases r with
      |error _=>exact AY hq
      |ok fl=>
       cases fl with
       |next=>exact AY hq
       |brk=>exact AY hq
       |cont=>exact AY hq
       |ret u'=>
        obtain⟨v',H5,I5,rr,ev,t',dx,ndx,dne,eH⟩:=I4.after hq;subst ev;cases rr;have nd2:H2 dx=Af:=by rw[Ba dne]at ndx;exact ndx
        rw[JV]at eH;have H5e:H5 e0=Aa (.ext (XEx e0 C (Aa dx) t')):=by rw[eH,Ba (C1 dne),CY]
        have ge5:XEx e0 C (Aa dx) t' s'.heap:=(I5.hok e0 _ H5e).1;have I6:=Sr I5 H5e ap.2.2.2 λ_=>trivial
        have H6d:(if dx=e0 then Af else H5 dx)=Aa (.xd [(f,v)]):=by rw[A8 dne,eH,CY]
        have sm6:At H2 (λb=>if b=e0 then Af else H5 b):=λb o z=>by
         have nb:b≠e0:=λy=>by rw[y,n0]at z;cases z
         have nb2:b≠dx:=λy=>by rw[y,nd2]at z;cases z
         show (if b=e0 then Af else H5 b)=Aa o
         rw[A8 nb,eH,Ba nb2,Ba nb];exact z
        refine⟨rfl,t',Aa dx,(hob2 _ I6.kIn).1,ge5,rz pI Z _ s' e0 C (Aa dx) t' ⟨c,[(f,d)]⟩ I6 (λhx=>Gp I2 hx made.new) (AX rfl) ge5 (λA hA=>⟨C,hcl,rfl,.inr ⟨dx,[(f,v)],rfl,λz => ?_,H6d,⟨rfl,?_⟩,trivial⟩⟩) (p3 _ λb o z=>sm6 _ _ (sm2 _ _ (x.same b o z)))⟩
        .obtain⟨ys,q⟩:=hA dx z;have q':(if dx=e0 then Af else H5 dx)=Aa (.lst ys):=q
         rw[H6d]at q';cases q'
        .exact KG hA 5 d (NK n 5 d xf (by omega)) (Rep.sub (λ_ z=>z.elim) _ (Rep.same sm6 rps.1))
end
section
variable{prog:AE}{w:Ar}{A:AN}{E:Ah->Am->Prop}{h:Ay}{g:Bb CV}{d:Fd}{t:Ae}{os:EO}{K:Fg}{e C dx:Ai}{f:Ag}{mA:Ag->An Ah}{v:Ah}
theorem Km(p:FR e C (Aa dx) h):XAt e C h:=let ⟨o,a,b,_⟩:=p;⟨o,a,b⟩
theorem Ro{Q:Fin->Am->Prop}(X:K.In h)(hf:Av K (.ref C) f=Aa Af)(hd:D4 K C=Ab)(p:FR e C (Aa dx) h)(hn:h.Ns1 dx mA)(hv:mA f=Aa v)(hq:Q (.done (.ret v)) ⟨h,g,d,t,os⟩):As (model prog w) A (Builtin.«object.__getattribute__» ⟨[.ref e,.str f tk],[]⟩) Q E ⟨h,g,d,t,os⟩:=by
 have L0:=F6 (M:=model prog w) (Km p);have L1:=BJ (M:=model prog w) X hf;obtain⟨o,ge,oc,od,us,dt⟩:=p;unfold D4 at hd;split at hd
 .rename_i c' d' cd' sl' lk;have gC:=X _ _ lk;unfold Builtin.«object.__getattribute__»
  repeat (any_goals (first|assumption|with_reducible refine L0.at ?_|with_reducible refine L1.at ?_|wp_step))
  rw[dt];unfold instanceDict
  repeat (first|(with_reducible refine Bx ge ?_;rw[oc])|with_reducible refine Bx gC ?_|wp_step)
  rw[od]
  repeat (first|(with_reducible refine wpAny_nsGet hn.ns ?_;rw[hv])|wp_step)
  exact hq
 .cases hd
theorem UE{Q:Ah->Am->Prop}(X:K.In h)(x:XcOk K C)(hf:Av K (.ref C) f=Aa Af)(hd:D4 K C=Ab)(p:FR e C (Aa dx) h)(hn:h.Ns1 dx mA)(hv:mA f=Aa v)(hh:handedOut v=pure v)(hq:Q v ⟨h,g,d,t,os⟩):As (model prog w) A (getAttrBy (.ref e) (.str f tk) fill expr) Q E ⟨h,g,d,t,os⟩:=by
 have L0:=F6 (M:=model prog w) (Km p);have L1:=BJ (M:=model prog w) X x.ga;have L2:=BJ (M:=model prog w) X x.gt;have f3:=DI.ga.bind (.ref e);have hx0:(expr&&F3 (BK "BaseException.__getattribute__"))=Ac:=by cases expr <;> rfl
 have hx2:(BK "BaseException.__getattribute__" == BK "object.__getattribute__")=Ac:=by decide+kernel
 have hx1:(F3 (BH C)&&BK "BaseException.__getattribute__" == BK "object.__getattribute__")=Ac:=by rw[hx2];rfl
 repeat (any_goals (first|assumption|with_reducible refine L0.at ?_|with_reducible refine L1.at ?_|with_reducible refine L2.at ?_|wp_step))
 refine CD DI.ga.plain P6 (LB X x (Km p) (Ro X hf hd p hn hv ?_))
 repeat (any_goals (first|assumption|wp_step))
 all_goals trace_state
theorem R8{b:Aj}{Q:Ah->Am->Prop}(X:K.In h)(x:XcOk K C)(hf:Av K (.ref C) f=Aa Af)(hd:D4 K C=Ab)(p:FR e C (Aa dx) h)(hn:h.Ns1 dx mA)(hv:mA f=Aa v)(hh:handedOut v=pure v)(hq:Q v ⟨h,g,d,t+1,os⟩):As (model prog w) A (getAttr (.ref e) f b) Q E ⟨h,g,d,t,os⟩:=by
 unfold getAttr
 repeat (any_goals (first|assumption|with_reducible apply UE X x hf hd p hn hv hh|wp_step))
end
section
variable{X:Cx}{CL:ClA}{W:XW}{K:Fg}{H:Hp}{A:Ai->Prop}
theorem Ms{f:Ag}{d:D} : ∀{vs:Ad (Ag × V)}{fs:Ad (Ag × D)},Repf K CL H A vs fs->fs.lookup f=Aa d -> ∃ v,vs.lookup f=Aa v/\Rep K CL H A v d
 |[],[],_,q=>nomatch q
 |(n,v)::vs,(m,d')::fs,⟨⟨e,r⟩,rs⟩,q=>by
  have e':n=m:=e;subst e';by_cases z:(f==n)=Ab
  .simp only[CH,z]at q ⊢;cases q;exact⟨v,rfl,r⟩
  .simp only[CH,z]at q ⊢;exact Ms rs q
theorem ME{a:Ak}{fa:Rho->R D}{f:Ag}(hxc : ∀ c C,CL c=Aa C->XcOk X.K C)(hnf : ∀ c C,CL c=Aa C->D4 X.K C=Ab/\Av X.K (.ref C) f=Aa Af)(ha:ST X CL W a fa)(hb:Dd a f X.env (eval a X.env)=eval a X.env):SE X CL W (.Attribute a f pos) (λY=>(fa Y).bind λx=>HS x f):=λA=>by
 intro pI s Z H Q I ⟨hA,Y,gd,q⟩;refine UW hb (thn (ha A pI s Z H _ I ⟨hA,Y,gd,AZ.bind q (Q':=λv H1 => ∃ d,B3 X.K CL H1 A v d/\AZ (λH2=>Rep X.K CL H2 A) W H1 (HS d f) Q) λd v H1 _ s1 r1 p1=>⟨d,r1,p1⟩⟩) λu s1 ⟨v,H1,I1,rv,d,rp,p1⟩ => ?_)
 cases d with
 |exc c fs=>
  have p2:AZ (λH2=>Rep X.K CL H2 A) W H1 (match fs.lookup f with|some d => .ok d|none => .bad) Q:=p1
  cases el:fs.lookup f with
  |none=>rw[el]at p2;exact p2.elim
  |some d=>
   rw[el]at p2;rcases rp with ⟨e,C,φ,rfl,_,hc,hH,hφ,hfs⟩|⟨a,xs,ds,_,z,_⟩
   .rcases hfs with z|⟨dx,vs,nd,hd,rf,hφ2⟩
    .rw[z]at el;cases el
    .obtain⟨y,l,ry⟩:=Ms rf el;cases rv;have ph:=(I1.hok e _ hH).1;obtain⟨o,ge,oc⟩:=hφ _ ph;obtain⟨o',ge',od,us,odt⟩:=hφ2 _ ph;rw[ge]at ge';cases ge';obtain⟨mA,hn,rel⟩:=I1.hok dx _ hd;obtain⟨u',hu,ru⟩:=HV.some_of (v:=y) (o:=mA f) (by rw[<-l];exact rel f)
     obtain⟨k1,k2⟩:=hnf c C hc;obtain⟨hp,g2,d2,tk2,os2⟩:=s1;exact R8 I1.kIn (hxc c C hc) k2 k1 ⟨o,ge,oc,od,us,odt⟩ hn hu (PySem.W.handedOut_of (Rh ru)) ⟨y,H1,I1.tok _,ru,p2 y H1 (At.refl H1) ry⟩
   .cases z
 |_=>exact p1.elim
end
section
variable{X:Cx}{CL:ClA}{W:XW}
theorem UF{e C:Ai} : ∀ h1 h2:Ay,XAt e C h1->(∀ o,h1.get? e=Aa o->h2.get? e=Aa o)->XAt e C h2:=λ_ _ ⟨o,a,b⟩ k=>⟨o,k _ a,b⟩
theorem U_7{e:Ak}{es:Ad Ak}(hx:X.ex=[])(hk:Be X.K (.ref C)=Ab)(hg:Gl X g)(hm:X.mg g=Aa (.ref C))(hdb:(g==("__debug__" : Ag))=Ac)(xc:Cd X.K C Af=Ab)(hcl:CL c=Aa C)(ha:SA X CL W (e::es) fs)(he:Ap (e::es) X.env=(Ac,eval e X.env)::Ap es X.env)(hpl:(Bk pos (Ap es X.env)).any (·.1)=Ac)(hz : ∀ Y ds,fs Y = .ok ds->ds.length<=100000):SE X CL W (.Call (.Name g np) (e::es) [] pos) (λY=>(fs Y).bind λ_ =>.ok (.exc c [])):=λA=>by
 intro pI s Z H Q I ⟨hA,Y,gd,p⟩;dsimp only at p;obtain⟨bm,N,nm,qn,bs,hd,sn,sub,ab,col,dd,k0,k1,k2,k3,k5,mN,hob,hni,hbase⟩:=Ho I.kIn xc;refine Cq (FI I hg hm ?_ hdb);have q1:=ha A pos pI s Z H (λvs H1=>At H H1/\vs.length<=100000 /\ ∀ v H',At H H'->Rep X.K CL H' A v (.exc c [])->Q v H') I ⟨hA,Y,gd,by
  cases e1:fs Y with
  |bad=>rw[e1]at p;exact p
  |exn y=>rw[e1]at p;exact p
  |ok ds=>
   rw[e1]at p;exact λvs H1 s1 r1=>⟨s1,by rw[r1.length];exact hz Y ds e1,p⟩⟩
 refine Dy (h₀:=X.base) I.ok.mod.kin hk (thn q1 λus s1 ⟨vs,H1,I1,r,sm,hl,q⟩=>⟨I1.kIn,?_⟩) he hpl
 obtain⟨o1,o2,o3⟩:=hob _ I1.kIn;have ap : ∀ e',s1.heap.get? e'=Af->D2 X pI e':=λe' z=>Gk I1 hx z
 have hf:=λe' (z:s1.heap.get? e'=Af)=>F5 I1.hok z
 obtain⟨h1,g1,d1,t1,os1⟩:=s1;refine wpAny_call_exc_subT Cb o3 o1 o2 hni (λh' ev hmade => ?_) (by rw[List.nil_append,<-r.length,BX];omega)
 obtain⟨t,ge,_⟩:=hmade.there;have nH:H1 ev=Af:=hf ev hmade.new;have xa:XAt ev C h':=⟨_,ge,rfl⟩;have I3:Inv X pI Z H1 ⟨h',g1,d1,t1,os1⟩:=I1.kept (t':=t1) hmade.keeps;have I2:=L9 I3 hx (ap ev hmade.new) nH ⟨_,ge⟩ xa UF;have s2:At H1 (upd H1 ev (.ext (XAt ev C))):=Ep nH _;refine⟨.ref ev,_,I2,rfl,q _ _ (sm.trans s2) ⟨ev,C,XAt ev C,rfl,λz => ?_,hcl,CY,λh x=>x,.inl rfl⟩⟩
 obtain⟨xs,z'⟩:=hA.same sm ev z;rw[nH]at z';cases z'
theorem Wd{f:Ag}{Q:VK}(p:AZ Rp W H ((mkA c f ds).bind λx => .ok (.exc x.c x.fs)) Q) : ∃ d n,ds=[d]/\xfD n d=Ab/\n<=2/\mkA c f ds = .ok ⟨c,[(f,d)]⟩:=by
  match ds,p with
  |[],p=>exact p.elim
  |_::_::_,p=>exact p.elim
  |[d],p=>
    have e':mkA c f [d]=if (xfD 0 d||(xfD 1 d||xfD 2 d))=Ab then .ok ⟨c,[(f,d)]⟩ else .bad:=rfl
    by_cases z:(xfD 0 d||(xfD 1 d||xfD 2 d))=Ab
    · rw[AX z]at e';rcases (BB _ _).mp z with h|h
      · exact⟨d,0,rfl,h,by omega,e'⟩
      · rcases (BB _ _).mp h with h|h
        · exact⟨d,1,rfl,h,by omega,e'⟩
        · exact⟨d,2,rfl,h,by omega,e'⟩
    · rw[A8 z]at e';rw[e']at p;exact p.elim
theorem VN{g f:Ag}{e:Ak}{es:Ad Ak}(hx:X.ex=[])(hr:Room k X.A)(hk:Be X.K (.ref C)=Ab)(hg:Gl X g)(hm:X.mg g=Aa (.ref C))(hdb:(g==("__debug__" : Ag))=Ac)(xi:XIn X.K X.mg C f)(hcl:CL c=Aa C)(ha:SA X CL W (e::es) fs)(he:Ap (e::es) X.env=(Ac,eval e X.env)::Ap es X.env)(hpl:(Bk pos (Ap es X.env)).any (·.1)=Ac):SE X CL W (.Call (.Name g np) (e::es) [] pos) (λY=>(fs Y).bind λds=>mkA c f ds |>.bind λx =>.ok (.exc x.c x.fs)):=λA=>by
 intro pI s Z H Q I ⟨hA,Y,gd,p⟩;dsimp only at p;cases xi with
 |mk xc dc fn ty S l1 l2 bd body gl mo dg dp dq w1 w2 w3 hl hz0 hf hs=>
  rename_i fI OV x0 qual g0 par j0 st fd np0 apos q1 cpos0 q6 q7 q8 q9 q10;obtain⟨bm,N,nm,qn,bs,hd,sn,sub,ab,col,dd,k0,k1,k2,k3,k5,mN,hob,hni,hbase⟩:=Ho I.kIn xc;have hdt:hd=Ab:=by
   unfold D4 at dc;split at dc
   .rename_i c0 d0 cd sl lk;have g1:=I.kIn _ _ lk;rw[(hob _ I.kIn).1]at g1;unfold Bq at g1;cases g1;exact dc
   .cases dc
  subst hdt;have hob2 : ∀ h:Ay,X.K.In h->h.get? C=Aa (Bq nm qn C N bs bm Ab sn sub ab col dd k0 k1 k2 k3 k5 "ValueError.__new__")/\Cu h veB bm:=λh z=>⟨(hob h z).1,(hob h z).2.2⟩
  refine Cq (FI I hg hm ?_ hdb);have q1:=ha A pos pI s Z H (λvs H1=>At H H1 /\ ∃ d n,Reps X.K CL H1 A vs [d]/\xfD n d=Ab/\n<=2 /\ ∀ v H',At H H'->Rep X.K CL H' A v (.exc c [(f,d)])->Q v H') I ⟨hA,Y,gd,by
   cases e1:fs Y with
   |bad=>rw[e1]at p;exact p
   |exn y=>rw[e1]at p;exact p
   |ok ds=>
    rw[e1]at p;have p':AZ (λH=>Rep X.K CL H A) W H ((mkA c f ds).bind λx => .ok (.exc x.c x.fs)) Q:=p
    obtain⟨d,n,rfl,xf,hn,em⟩ : ∃ d n,ds=[d]/\xfD n d=Ab/\n<=2/\mkA c f ds = .ok ⟨c,[(f,d)]⟩:=Wd p';rw[em]at p';exact λvs H1 s1 r1=>⟨s1,d,n,r1,xf,hn,p'⟩⟩
  refine Dy (h₀:=X.base) I.ok.mod.kin hk (thn q1 λus s2 ⟨vs,H2,I2,r2,sm2,d,n,rps,xf,hn,q⟩=>⟨I2.kIn,?_⟩) he hpl
  cases vs with
  |nil=>exact rps.elim
  |cons v vs=>
   cases vs with
   |cons=>exact rps.2.elim
   |nil=>
    obtain⟨u,rfl,ru⟩:=GA r2;obtain⟨o1,o2,o3⟩:=hob _ I2.kIn;obtain⟨oc,od,kV,doc,pm,an,cdv,ct,osl,efd,lk,hcd⟩:=fn.ex;have coc:oc = .type "function" := by
     have ty':(X.K.lookup fI).map _=_:=ty;rw[lk]at ty';exact BC ty'
    have apO : ∀ e',s2.heap.get? e'=Af->D2 X pI e':=λe' z=>Gk I2 hx z
    have hfO:=λe' (z:s2.heap.get? e'=Af)=>F5 I2.hok z
    have lkI:=I2.kIn _ _ lk;obtain⟨h1,g1,d1,t1,os1⟩:=s2;refine Mc Cb o3 o1 o2 hni lkI coc (by rw[BX];show 1<=_;omega) λh' e0 made => ?_
    obtain⟨t,ge,_⟩:=made.there;have I3:Inv X pI Z H2 ⟨h',g1,d1,t1,os1⟩:=I2.kept (t':=t1) made.keeps;have ap:D2 X pI e0:=apO e0 made.new;have n0:H2 e0=Af:=hfO e0 made.new;have I4:=J8 (o := .ext (XEx e0 C Af t)) I3 ap n0 ⟨ge,⟨_,ge⟩,Iz⟩;have sm4:At H2 (upd H2 e0 (.ext (XEx e0 C Af t))):=Ep n0 _;have ru0:=hr.mono (DP k);have run:=MC (P:=X.prog) (w:=X.w) (mg:=X.mg) (base:=X.base) (CL:=CL) (E:=λ_ _ _=>AT) (B:=A) (H:=upd H2 e0 (.ext (XEx e0 C Af t))) (t:=t) hob2 fn S l1 l2 bd body gl mo dg dp dq w1 w2 w3 hl hz0 hf hs (A:=X.A.under (.builtin "type.__call__" ⟨.ref C::[u],[]⟩)) (outer:=X.stack) hr.hd (by rw[LG];have:=ru0.dp;omega) (by rw[LF];have:=ru0.un;omega) hr.gd (I4.env0.make C [u] []) CY (Rep.same sm4 rps.1) xf hn ru
    refine Eh (Dz run λr s' hq => ?_)
    cases r with
    |error _=>exact AY hq
    |ok fl=>
     cases fl with
     |next=>exact AY hq
     |brk=>exact AY hq
     |cont=>exact AY hq
     |ret u'=>
      obtain⟨v',H5,I5,rr,ev,t',dx,ndx,dne,eH⟩:=I4.after hq;subst ev;cases rr;have nd2:H2 dx=Af:=by rw[Ba dne]at ndx;exact ndx
      rw[JV]at eH;have H5e:H5 e0=Aa (.ext (XEx e0 C (Aa dx) t')):=by rw[eH,Ba (C1 dne),CY]
      have H5d:H5 dx=Aa (.xd [(f,v)]):=by rw[eH,CY]
      have s5:At H2 H5:=λb o z=>by
       have nb:b≠e0:=λy=>by rw[y,n0]at z;cases z
       have nb2:b≠dx:=λy=>by rw[y,nd2]at z;cases z
       rw[eH,Ba nb2,Ba nb];exact z
      have nA : ∀ b,H2 b=Af -> ¬ A b:=λb z ha'=>by
       obtain⟨xs,q'⟩:=hA.same sm2 b ha';rw[z]at q';cases q'
      refine⟨rfl,.ref e0,H5,I5,rfl,q _ _ (sm2.trans s5) ?_⟩;exact⟨e0,C,_,rfl,nA e0 n0,hcl,H5e,λh x=>⟨_,x,rfl⟩,.inr ⟨dx,[(f,v)],nA dx nd2,H5d,⟨⟨rfl,Rep.same s5 rps.1⟩,trivial⟩,λh x=>⟨_,x,rfl,_,rfl⟩⟩⟩
theorem Mi{i:An Ah}(q:Cd K C i=Ab):Be K (.ref C)=Ab:=by
  obtain⟨dd,cd,sl,bm,h1,_⟩:=Kv q;have e:B0 K (.ref C) "__call__" = Aa (Aa (.builtin "type.__call__")):=by
    unfold B0;rw[Nv q];show PySem.fastLookup "type" "__call__" = _;decide+kernel
  show (match K.lookup C with
      |some ⟨_,_,.func _,_⟩=>Ab
      |some ⟨_,_,.cls _,_⟩=>B0 K (.ref C) "__call__" == Aa (Aa (.builtin "type.__call__"))
      | _=>Ac)=Ab
  rw[h1,e];show (Aa (Aa (BK "type.__call__"))==Aa (Aa (BK "type.__call__")))=Ab;exact Da _
theorem WH{e:Ak}{es:Ad Ak}(hx:X.ex=[])(hr:Room k X.A)(hg:Gl X g)(hm:X.mg g=Aa (.ref C))(hdb:(g==("__debug__" : Ag))=Ac)(hcl:CL c=Aa C)(ha:SA X CL W (e::es) fs)(hxn : ∀ ds,xn c ds = .bad\/(xn c ds = .ok ⟨c,[]⟩/\Cd X.K C Af=Ab) \/ ∃ f,XIn X.K X.mg C f/\GC xn c f ds)(he:Ap (e::es) X.env=(Ac,eval e X.env)::Ap es X.env)(hpl:(Bk pos (Ap es X.env)).any (·.1)=Ac)(hz : ∀ Y ds,fs Y = .ok ds->ds.length<=100000):SE X CL W (.Call (.Name g np) (e::es) [] pos) (λY=>(noX (fs Y)).bind λds=>(xn c ds).bind λx =>.ok (.exc x.c x.fs)):=λA=>by
 intro pI s Z H Q I ⟨hA,Y,gd,p⟩;dsimp only at p;cases e1:fs Y with
 |bad=>
  rw[e1]at p;exact p.elim
 |exn y=>
  rw[e1]at p;exact p.elim
 |ok ds=>
  rw[e1]at p;have p':AZ (λH=>Rep X.K CL H A) W H ((xn c ds).bind λx => .ok (.exc x.c x.fs)) Q:=p
  rcases hxn ds with e2|⟨e2,xc⟩|⟨f,xi,d,n,rfl,xf,hn,e2⟩
  .rw[e2]at p';exact p'.elim
  .rw[e2]at p';refine U_7 (fs:=fs) hx (Mi xc) hg hm hdb xc hcl ha he hpl hz A pI s Z H Q I ⟨hA,Y,gd,?_⟩;dsimp only;rw[e1];exact p'
  .rw[e2]at p';have m:mkA c f [d] = .ok ⟨c,[(f,d)]⟩:=by
    have:(xfD 0 d||(xfD 1 d||xfD 2 d))=Ab:=by
     have hn':n=0\/n=1\/n=2:=by omega
     rcases hn' with rfl|rfl|rfl <;> rw[xf] <;> simp
    show (if (xfD 0 d||(xfD 1 d||xfD 2 d))=Ab then (.ok ⟨c,[(f,d)]⟩:R Ex) else .bad)=_
    rw[AX this]
   have kp:Be X.K (.ref C)=Ab:=by
    cases xi with
    |mk xc=>exact Mi xc
   refine VN (fs:=fs) hx hr kp hg hm hdb xi hcl ha he hpl A pI s Z H Q I ⟨hA,Y,gd,?_⟩;dsimp only;rw[e1];show AZ (λH=>Rep X.K CL H A) W H ((mkA c f [d]).bind λx => .ok (.exc x.c x.fs)) Q
   rw[m];exact p'
end
theorem RH : ∀{ss:Ad Ag}{its:Ad Ah},AR (ss.map V.str) its -> ∃ l:Ad (Ag × BY),its=strValues l/\l.map (·.1)=ss:=by
 intro ss
 induction ss with
 |nil=>intro its v;cases v;exact⟨[],rfl,rfl⟩
 |cons x ss ih=>
  intro its v;cases v with
  |cons v1 v2=>
   obtain⟨t,rfl⟩:=v1;obtain⟨l,e1,e2⟩:=ih v2;exact⟨(x,t)::l,by rw[e1];rfl,by rw[DS,e2]⟩
section
variable{X:Cx}{CL:ClA}{W:XW}
noncomputable def XV(K:Fg):V->Ad V->Hp->VK->Prop:=λx xs H Q => ∃ sep q ss,x = .str sep/\xs=[.ref q]/\SqL K H q (ss.map V.str)/\F0 sep ss=Ab/\Q (.str (Gh sep ss)) H
theorem Tv:MtR X "str.join" (XV X.K):=by
 intro pI s Z H x vs v us Q I rx rv h;obtain⟨sep,l,ss,rfl,rfl,sq,hok,q⟩:=h;obtain⟨t,rfl⟩:=rx;obtain⟨u,rfl,ru⟩:=rv.one;cases ru;obtain⟨its,r,pl,hz⟩:=I.list sq;obtain⟨ls,rfl,rfl⟩:=RH r;unfold F0 at hok;rw[Bg]at hok;refine call_meets P8 (GM _ _ _) PySem.F.entry_str_join (PySem.F.args_str_join_2 _ _) (meets_str_join_list sep t l ls hok) ⟨pl.isList,post_join ls ⟨joinFit_length hok,λt' k => ?_⟩⟩
 exact⟨.str _,H,I.kept (t':=k) λ_ _ e=>e,⟨_,rfl⟩,q⟩
theorem Rt : ∀{es:Ad D}{ss:Ad Ag}{ys:Ad V},Gb es=Aa ss->Reps K CL H A ys es->ys=ss.map V.str:=by
 intro es
 induction es with
 |nil=>
  intro ss ys h r;cases h;cases ys with
  |nil=>rfl
  |cons=>exact r.elim
 |cons e es ih=>
  intro ss ys h r;cases ys with
  |nil=>exact r.elim
  |cons y ys=>
   cases e with
   |str x=>
    have h':(Gb es).map (x :: ·)=Aa ss:=h;cases e2:Gb es with
    |none=>rw[e2]at h';cases h'
    |some js=>
     rw[e2]at h';cases h';have e1:y = .str x:=r.1;rw[ih e2 r.2,e1];rfl
   |_=>cases h
theorem SN{y:Ak}{s:Ag}{apos:Az}{fy:Rho->R D}(hy:SE X CL W y fy)(hbase:Dd (.Constant (.str s) k p) "join" X.env (eval (.Constant (.str s) k p) X.env)=eval (.Constant (.str s) k p) X.env)(hfew:((Bk cpos (Ap [y] X.env)).all (λx => !x.1)&&(Gi cpos (Fi [] X.env)).all (λx=>x.1.isSome)&&decide ([y].length+([]:Ad Dg).length+(if ([]:Ad Dg).isEmpty then 0 else 1)<30))=Ab)(hline:(apos.endLine==cpos.line)=Ab)(hs:Ap [y] X.env=[(Ac,eval y X.env)]):
  SE X CL W (.Call (.Attribute (.Constant (.str s) k p) "join" apos) [y] [] cpos) (λY=>(fy Y).bind λx=>biD .sjoin [.str s,x]):=λA=>
 PE.weak (NL PySem.F.plainAttrs_str P8 PySem.F.type_str_join Tv (Kf (X:=X) (CL:=CL) (W:=W) A) (Dk (hy A) EH hs) hbase hfew hline hs rfl) λZ H Q ⟨hA,Y,g,p⟩=>⟨hA,Y,g,λv H1 s1 r1=>by
  dsimp only at p;have ev:v = .str s:=r1;subst ev;refine⟨rfl,hA.same s1,Y,g.same s1,?_⟩;cases e:fy Y with
  |bad=>rw[e]at p;exact p.elim
  |exn x=>rw[e]at p;exact λH2 s2=>p H2 (s1.trans s2)
  |ok d=>
   rw[e]at p;intro v' H2 s2 r2;have p1:AZ (λH=>Rep X.K CL H A) W H (biD .sjoin [.str s,d]) Q:=p
   cases d with
   |lst ds=>
    obtain⟨a,xs,rfl,_,sq,rs⟩:=r2;have p2:AZ (λH=>Rep X.K CL H A) W H (HA s ds) Q:=p1
    unfold HA at p2;cases e3:Gb ds with
    |none=>rw[e3]at p2;exact p2.elim
    |some ss=>
     rw[e3]at p2;dsimp only at p2;split at p2
     .rename_i hok;have ex:=Rt e3 rs;subst ex;exact⟨s,a,ss,rfl,rfl,sq,hok,p2 _ H2 (s1.trans s2) rfl⟩
     .exact p2.elim
   | _=>exact p1.elim⟩
end
theorem noF{P:Prop}(h:Ac=Ab):P:=nomatch h
structure Tc where
 sc:By
 N:Ad Ag
 /-- a def's name, its number, how many parameters it has -/
 fns:Ad (Ag × Ae × Ae)
 /-- built-in names that the text does not hide -/
 bl:Ad Ag
 /-- exceptions' classes by their names: those that are raised, all that are asked for -/
 rzs:Ad (Ag × Ae)
 exs:Ad (Ag × Ae)
 /-- the text's constants -/
 gls:Ad (Ag × Ae)
 /-- in no comprehension -/
 tp:Aj
noncomputable def K5(T:Tc)(x:Ag):Aj:=match T.sc.names.lookup x with
  |some .local=>Ab
  |some .cell=>Ab
  |some .free=>Ab
  |_=>Ac
noncomputable def FS(T:Tc)(x:Ag):Aj:=match T.sc.names.lookup x with
  |some .local=>Ab
  |some .cell=>Ab
  |_=>Ac
noncomputable def glB(T:Tc)(x:Ag):Aj:=T.sc.names.lookup x==Aa .globalImplicit
noncomputable def Ek(x:Ag):Aj := !(x==("__debug__" : Ag)) && !(x==("__classdict__" : Ag)) && !(x==("__name__" : Ag))
noncomputable def isV(T:Tc)(x:Ag)(i:Ae):Aj:=T.N[i]? == Aa x&&K5 T x&&Ek x
noncomputable def isB(T:Tc)(x:Ag):Aj:=T.bl.contains x&&glB T x&&Ek x
theorem BE{a b:Aj}(h:(a&&b)=Ab):a=Ab/\b=Ab:=(Al a b).mp h
theorem orT{a b:Aj}(h:(a||b)=Ab):a=Ab\/b=Ab:=(BB a b).mp h
noncomputable def DJ(e:Ak)(F:Ag->Aj):Aj:=if c:e.ctorIdx=23 then PX (motive_1:=λ_=>Aj) e c λx _=>F x else Ac
theorem DX{e:Ak}{F:Ag->Aj}(h:DJ e F=Ab) : ∃ x p,e=PV x p/\F x=Ab:=by
 by_cases c:e.ctorIdx=23
 .exact PX (motive_1:=λe=>DJ e F=Ab -> ∃ x p,e=PV x p/\F x=Ab) e c (λx p h=>⟨x,p,rfl,h⟩) h
 .exact noF ((Bw c).symm.trans h)
noncomputable def Fl(e:Ak)(F:Const->Aj):Aj:=if c:e.ctorIdx=19 then PN (motive_1:=λ_=>Aj) e c λc _ _=>F c else Ac
theorem Go{e:Ak}{F:Const->Aj}(h:Fl e F=Ab) : ∃ c u p,e=PM c u p/\F c=Ab:=by
 by_cases c:e.ctorIdx=19
 .exact PN (motive_1:=λe=>Fl e F=Ab -> ∃ c u p,e=PM c u p/\F c=Ab) e c (λc u p h=>⟨c,u,p,rfl,h⟩) h
 .exact noF ((Bw c).symm.trans h)
noncomputable def IQ(e:Ak)(F:Ak->Dw->Ak->Aj):Aj:=if c:e.ctorIdx=2 then PC (motive_1:=λ_=>Aj) e c λx o y _=>F x o y else Ac
theorem Mf{e:Ak}{F:Ak->Dw->Ak->Aj}(h:IQ e F=Ab) : ∃ x o y p,e=PB x o y p/\F x o y=Ab:=by
 by_cases c:e.ctorIdx=2
 .exact PC (motive_1:=λe=>IQ e F=Ab -> ∃ x o y p,e=PB x o y p/\F x o y=Ab) e c (λx o y p h=>⟨x,o,y,p,rfl,h⟩) h
 .exact noF ((Bw c).symm.trans h)
noncomputable def G9(e:Ak)(F:GO->Ak->Aj):Aj:=if c:e.ctorIdx=3 then P3 (motive_1:=λ_=>Aj) e c λo x _=>F o x else Ac
theorem JY{e:Ak}{F:GO->Ak->Aj}(h:G9 e F=Ab) : ∃ o x p,e=P2 o x p/\F o x=Ab:=by
 by_cases c:e.ctorIdx=3
 .exact P3 (motive_1:=λe=>G9 e F=Ab -> ∃ o x p,e=P2 o x p/\F o x=Ab) e c (λo x p h=>⟨o,x,p,rfl,h⟩) h
 .exact noF ((Bw c).symm.trans h)
noncomputable def Gd(e:Ak)(F:BoolOp->Ad Ak->Az->Aj):Aj:=if c:e.ctorIdx=0 then PF (motive_1:=λ_=>Aj) e c λo xs p=>F o xs p else Ac
theorem Hn{e:Ak}{F:BoolOp->Ad Ak->Az->Aj}(h:Gd e F=Ab) : ∃ o xs p,e=PD o xs p/\F o xs p=Ab:=by
 by_cases c:e.ctorIdx=0
 .exact PF (motive_1:=λe=>Gd e F=Ab -> ∃ o xs p,e=PD o xs p/\F o xs p=Ab) e c (λo xs p h=>⟨o,xs,p,rfl,h⟩) h
 .exact noF ((Bw c).symm.trans h)
noncomputable def HF(e:Ak)(F:Ak->Ad Ch->Ad Ak->Aj):Aj:=if c:e.ctorIdx=15 then PL (motive_1:=λ_=>Aj) e c λx os ys _=>F x os ys else Ac
theorem Md{e:Ak}{F:Ak->Ad Ch->Ad Ak->Aj}(h:HF e F=Ab) : ∃ x os ys p,e=PK x os ys p/\F x os ys=Ab:=by
 by_cases c:e.ctorIdx=15
 .exact PL (motive_1:=λe=>HF e F=Ab -> ∃ x os ys p,e=PK x os ys p/\F x os ys=Ab) e c (λx os ys p h=>⟨x,os,ys,p,rfl,h⟩) h
 .exact noF ((Bw c).symm.trans h)
noncomputable def G5(e:Ak)(F:Ak->Ad Ak->Ad Dg->Az->Aj):Aj:=if c:e.ctorIdx=16 then PJ (motive_1:=λ_=>Aj) e c λf as ks p=>F f as ks p else Ac
theorem JC{e:Ak}{F:Ak->Ad Ak->Ad Dg->Az->Aj}(h:G5 e F=Ab) : ∃ f as ks p,e=PH f as ks p/\F f as ks p=Ab:=by
 by_cases c:e.ctorIdx=16
 .exact PJ (motive_1:=λe=>G5 e F=Ab -> ∃ f as ks p,e=PH f as ks p/\F f as ks p=Ab) e c (λf as ks p h=>⟨f,as,ks,p,rfl,h⟩) h
 .exact noF ((Bw c).symm.trans h)
noncomputable def Gz(e:Ak)(F:Ak->Ag->Az->Aj):Aj:=if c:e.ctorIdx=20 then Pz (motive_1:=λ_=>Aj) e c λo m p=>F o m p else Ac
theorem Ih{e:Ak}{F:Ak->Ag->Az->Aj}(h:Gz e F=Ab) : ∃ o m p,e=Py o m p/\F o m p=Ab:=by
 by_cases c:e.ctorIdx=20
 .exact Pz (motive_1:=λe=>Gz e F=Ab -> ∃ o m p,e=Py o m p/\F o m p=Ab) e c (λo m p h=>⟨o,m,p,rfl,h⟩) h
 .exact noF ((Bw c).symm.trans h)
noncomputable def Ky(e:Ak)(F:Ak->Ak->Aj):Aj:=if c:e.ctorIdx=21 then PZ (motive_1:=λ_=>Aj) e c λx y _=>F x y else Ac
theorem RY{e:Ak}{F:Ak->Ak->Aj}(h:Ky e F=Ab) : ∃ x y p,e=PY x y p/\F x y=Ab:=by
 by_cases c:e.ctorIdx=21
 .exact PZ (motive_1:=λe=>Ky e F=Ab -> ∃ x y p,e=PY x y p/\F x y=Ab) e c (λx y p h=>⟨x,y,p,rfl,h⟩) h
 .exact noF ((Bw c).symm.trans h)
noncomputable def G7(e:Ak)(F:Ad Ak->Aj):Aj:=if c:e.ctorIdx=25 then P1 (motive_1:=λ_=>Aj) e c λxs _ _=>F xs else Ac
theorem Ig{e:Ak}{F:Ad Ak->Aj}(h:G7 e F=Ab) : ∃ xs c p,e=P0 xs c p/\F xs=Ab:=by
 by_cases c:e.ctorIdx=25
 .exact P1 (motive_1:=λe=>G7 e F=Ab -> ∃ xs c p,e=P0 xs c p/\F xs=Ab) e c (λxs c p h=>⟨xs,c,p,rfl,h⟩) h
 .exact noF ((Bw c).symm.trans h)
noncomputable def IF(e:Ak)(F:Ad Ak->Aj):Aj:=if c:e.ctorIdx=24 then PQ (motive_1:=λ_=>Aj) e c λxs _=>F xs else Ac
theorem JA{e:Ak}{F:Ad Ak->Aj}(h:IF e F=Ab) : ∃ xs p,e=PP xs p/\F xs=Ab:=by
 by_cases c:e.ctorIdx=24
 .exact PQ (motive_1:=λe=>IF e F=Ab -> ∃ xs p,e=PP xs p/\F xs=Ab) e c (λxs p h=>⟨xs,p,rfl,h⟩) h
 .exact noF ((Bw c).symm.trans h)
noncomputable def KB(e:Ak)(F:Ak->Ad FV->By->Aj):Aj:=if c:e.ctorIdx=8 then PU (motive_1:=λ_=>Aj) e c λx gs sc _=>F x gs sc else Ac
theorem Ry{e:Ak}{F:Ak->Ad FV->By->Aj}(h:KB e F=Ab) : ∃ x gs sc p,e=PR x gs sc p/\F x gs sc=Ab:=by
 by_cases c:e.ctorIdx=8
 .exact PU (motive_1:=λe=>KB e F=Ab -> ∃ x gs sc p,e=PR x gs sc p/\F x gs sc=Ab) e c (λx gs sc p h=>⟨x,gs,sc,p,rfl,h⟩) h
 .exact noF ((Bw c).symm.trans h)
noncomputable def KD(e:AC)(F:Ad Ak->Ak->Aj):Aj:=if c:e.ctorIdx=5 then Qk (motive_2:=λ_=>Aj) e c λts v _=>F ts v else Ac
theorem Si{e:AC}{F:Ad Ak->Ak->Aj}(h:KD e F=Ab) : ∃ ts v p,e=Qj ts v p/\F ts v=Ab:=by
 by_cases c:e.ctorIdx=5
 .exact Qk (motive_2:=λe=>KD e F=Ab -> ∃ ts v p,e=Qj ts v p/\F ts v=Ab) e c (λts v p h=>⟨ts,v,p,rfl,h⟩) h
 .exact noF ((Bw c).symm.trans h)
noncomputable def G8(e:AC)(F:Ak->Aj):Aj:=if c:e.ctorIdx=24 then Qm (motive_2:=λ_=>Aj) e c λv _=>F v else Ac
theorem JB{e:AC}{F:Ak->Aj}(h:G8 e F=Ab) : ∃ v p,e=Ql v p/\F v=Ab:=by
 by_cases c:e.ctorIdx=24
 .exact Qm (motive_2:=λe=>G8 e F=Ab -> ∃ v p,e=Ql v p/\F v=Ab) e c (λv p h=>⟨v,p,rfl,h⟩) h
 .exact noF ((Bw c).symm.trans h)
noncomputable def KA(e:AC)(F:An Ak->Aj):Aj:=if c:e.ctorIdx=3 then Qs (motive_2:=λ_=>Aj) e c λo _=>F o else Ac
theorem RZ{e:AC}{F:An Ak->Aj}(h:KA e F=Ab) : ∃ o p,e=Qr o p/\F o=Ab:=by
 by_cases c:e.ctorIdx=3
 .exact Qs (motive_2:=λe=>KA e F=Ab -> ∃ o p,e=Qr o p/\F o=Ab) e c (λo p h=>⟨o,p,rfl,h⟩) h
 .exact noF ((Bw c).symm.trans h)
noncomputable def IX(e:AC)(F:Ak->Ad AC->Ad AC->Aj):Aj:=if c:e.ctorIdx=12 then Qo (motive_2:=λ_=>Aj) e c λt xs ys _=>F t xs ys else Ac
theorem ML{e:AC}{F:Ak->Ad AC->Ad AC->Aj}(h:IX e F=Ab) : ∃ t xs ys p,e=Stmt.If t xs ys p/\F t xs ys=Ab:=by
 by_cases c:e.ctorIdx=12
 .exact Qo (motive_2:=λe=>IX e F=Ab -> ∃ t xs ys p,e=Stmt.If t xs ys p/\F t xs ys=Ab) e c (λt xs ys p h=>⟨t,xs,ys,p,rfl,h⟩) h
 .exact noF ((Bw c).symm.trans h)
noncomputable def IG(e:AC)(F:Ak->Ak->Ad AC->Ad AC->Aj):Aj:=if c:e.ctorIdx=9 then Qn (motive_2:=λ_=>Aj) e c λt it xs ys _=>F t it xs ys else Ac
theorem Mx{e:AC}{F:Ak->Ak->Ad AC->Ad AC->Aj}(h:IG e F=Ab) : ∃ t it xs ys p,e=Stmt.For t it xs ys p/\F t it xs ys=Ab:=by
 by_cases c:e.ctorIdx=9
 .exact Qn (motive_2:=λe=>IG e F=Ab -> ∃ t it xs ys p,e=Stmt.For t it xs ys p/\F t it xs ys=Ab) e c (λt it xs ys p h=>⟨t,it,xs,ys,p,rfl,h⟩) h
 .exact noF ((Bw c).symm.trans h)
noncomputable def IE(e:AC)(F:An Ak->An Ak->Aj):Aj:=if c:e.ctorIdx=16 then Qq (motive_2:=λ_=>Aj) e c λa b _=>F a b else Ac
theorem R0{e:AC}{F:An Ak->An Ak->Aj}(h:IE e F=Ab) : ∃ a b p,e=Qp a b p/\F a b=Ab:=by
 by_cases c:e.ctorIdx=16
 .exact Qq (motive_2:=λe=>IE e F=Ab -> ∃ a b p,e=Qp a b p/\F a b=Ab) e c (λa b p h=>⟨a,b,p,rfl,h⟩) h
 .exact noF ((Bw c).symm.trans h)
noncomputable def FK{α:Type}:Ad α->(α->Ad α->Aj)->Aj
 |[],_=>Ac
 |x::xs,F=>F x xs
theorem F4{l:Ad α}{F:α->Ad α->Aj}(h:FK l F=Ab) : ∃ x xs,l=x::xs/\F x xs=Ab:=by
 cases l with
 |nil=>exact noF h
 |cons x xs=>exact⟨x,xs,rfl,h⟩
theorem Fk{l:Ad α}(h:l.isEmpty=Ab):l=[]:=List.isEmpty_iff.mp h
noncomputable def C8{α:Type}(l:Ad α)(F:α->Aj):Aj:=FK l λx r=>r.isEmpty&&F x
theorem DY{l:Ad α}{F:α->Aj}(h:C8 l F=Ab) : ∃ x,l=[x]/\F x=Ab:=by
 obtain⟨x,r,rfl,h⟩:=F4 h;obtain⟨h1,h2⟩:=BE h;exact⟨x,by rw[Fk h1],h2⟩
noncomputable def FM{α:Type}(l:Ad α)(F:α->α->Aj):Aj:=FK l λx r=>C8 r λy=>F x y
theorem GU{l:Ad α}{F:α->α->Aj}(h:FM l F=Ab) : ∃ x y,l=[x,y]/\F x y=Ab:=by
 obtain⟨x,r,rfl,h⟩:=F4 h;obtain⟨y,rfl,h⟩:=DY h;exact⟨x,y,rfl,h⟩
noncomputable def Gy(e:Ak)(F:Ag->Ad Ak->Aj):Aj:=G5 e λf as ks _=>DJ f λg=>ks.isEmpty&&F g as
theorem GV{e:Ak}{F:Ag->Ad Ak->Aj}(h:Gy e F=Ab) : ∃ g p as q,e = .Call (.Name g p) as [] q/\F g as=Ab:=by
 obtain⟨f,as,ks,q,rfl,h⟩:=JC h;obtain⟨g,p,rfl,h⟩:=DX h;obtain⟨h1,h2⟩:=BE h;exact⟨g,p,as,q,by rw[Fk h1],h2⟩
noncomputable def G0(e:Ak)(F:Ag->Ak->Ad Ak->Aj):Aj:=Gy e λg l=>FK l λx xs=>F g x xs
theorem Hi{e:Ak}{F:Ag->Ak->Ad Ak->Aj}(h:G0 e F=Ab) : ∃ g p x xs q,e = .Call (.Name g p) (x::xs) [] q/\F g x xs=Ab:=by
 obtain⟨g,p,as,q,rfl,h⟩:=GV h;obtain⟨x,xs,rfl,h⟩:=F4 h;exact⟨g,p,x,xs,q,rfl,h⟩
noncomputable def N0(st:AC)(F:Ag->Ag->Ad Ak->Aj):Aj:=G8 st λe=>G5 e λf as ks cp=>Gz f λo m ap=>DJ o λx=>ks.isEmpty&&(ap.endLine==cp.line&&F x m as)
theorem Rx{st:AC}{F:Ag->Ag->Ad Ak->Aj}(h:N0 st F=Ab) : ∃ x p m ap as cp q,st = .Expr (.Call (.Attribute (.Name x p) m ap) as [] cp) q/\ap.endLine=cp.line/\F x m as=Ab:=by
 obtain⟨e,q,rfl,h⟩:=JB h;obtain⟨f,as,ks,cp,rfl,h⟩:=JC h;obtain⟨o,m,ap,rfl,h⟩:=Ih h;obtain⟨x,p,rfl,h⟩:=DX h;obtain⟨h1,h⟩:=BE h;obtain⟨h2,h3⟩:=BE h;exact⟨x,p,m,ap,as,cp,q,by rw[Fk h1],eq_of_beq h2,h3⟩
noncomputable def N1(st:AC)(F:Ak->Ak->Aj):Aj:=KD st λts v=>C8 ts λt=>F t v
theorem Sj{st:AC}{F:Ak->Ak->Aj}(h:N1 st F=Ab) : ∃ t v q,st = .Assign [t] v q/\F t v=Ab:=by
 obtain⟨ts,v,q,rfl,h⟩:=Si h;obtain⟨t,rfl,h⟩:=DY h;exact⟨t,v,q,rfl,h⟩
noncomputable def HG(st:AC)(F:Ag->Ak->Aj):Aj:=N1 st λt v=>DJ t λx=>F x v
theorem JD{st:AC}{F:Ag->Ak->Aj}(h:HG st F=Ab) : ∃ x p v q,st = .Assign [.Name x p] v q/\F x v=Ab:=by
 obtain⟨t,v,q,rfl,h⟩:=Sj h;obtain⟨x,p,rfl,h⟩:=DX h;exact⟨x,p,v,q,rfl,h⟩
noncomputable def Oa(e:Ak)(F:Ak->Ak->Ak->Ad Ak->By->Aj):Aj:=KB e λx gs sc=>C8 gs λg=>decide (g.is_async=0)&&F x g.target g.iter g.ifs sc
theorem TU{e:Ak}{F:Ak->Ak->Ak->Ad Ak->By->Aj}(h:Oa e F=Ab) : ∃ x t it ifs sc p,e = .ListComp x [⟨t,it,ifs,0⟩] sc p/\F x t it ifs sc=Ab:=by
 obtain⟨x,gs,sc,p,rfl,h⟩:=Ry h;obtain⟨g,rfl,h⟩:=DY h;obtain⟨t,it,ifs,a⟩:=g;obtain⟨h1,h2⟩:=BE h;have h1:a=0:=AI h1;subst h1;exact⟨x,t,it,ifs,sc,p,rfl,h2⟩
noncomputable def Jb(e:E)(F:E->Aj):Aj:=if c:e.ctorIdx=8 then E.no.elim (motive_1:=λ_=>Aj) e c F else Ac
theorem TR{e:E}{F:E->Aj}(h:Jb e F=Ab) : ∃ a,e=E.no a/\F a=Ab:=by
 by_cases c:e.ctorIdx=8
 .exact E.no.elim (motive_1:=λe=>Jb e F=Ab -> ∃ a,e=E.no a/\F a=Ab) e c (λa h=>⟨a,rfl,h⟩) h
 .exact noF ((Bw c).symm.trans h)
noncomputable def IR(e:E)(F:Es->Aj):Aj:=if c:e.ctorIdx=9 then E.and.elim (motive_1:=λ_=>Aj) e c F else Ac
theorem Sk{e:E}{F:Es->Aj}(h:IR e F=Ab) : ∃ es,e=E.and es/\F es=Ab:=by
 by_cases c:e.ctorIdx=9
 .exact E.and.elim (motive_1:=λe=>IR e F=Ab -> ∃ es,e=E.and es/\F es=Ab) e c (λes h=>⟨es,rfl,h⟩) h
 .exact noF ((Bw c).symm.trans h)
noncomputable def Ja(e:E)(F:Es->Aj):Aj:=if c:e.ctorIdx=10 then E.or.elim (motive_1:=λ_=>Aj) e c F else Ac
theorem TQ{e:E}{F:Es->Aj}(h:Ja e F=Ab) : ∃ es,e=E.or es/\F es=Ab:=by
 by_cases c:e.ctorIdx=10
 .exact E.or.elim (motive_1:=λe=>Ja e F=Ab -> ∃ es,e=E.or es/\F es=Ab) e c (λes h=>⟨es,rfl,h⟩) h
 .exact noF ((Bw c).symm.trans h)
noncomputable def IH(e:E)(F:Ch->E->E->Aj):Aj:=if c:e.ctorIdx=11 then E.cmp.elim (motive_1:=λ_=>Aj) e c F else Ac
theorem Rz{e:E}{F:Ch->E->E->Aj}(h:IH e F=Ab) : ∃ o a b,e=E.cmp o a b/\F o a b=Ab:=by
 by_cases c:e.ctorIdx=11
 .exact E.cmp.elim (motive_1:=λe=>IH e F=Ab -> ∃ o a b,e=E.cmp o a b/\F o a b=Ab) e c (λo a b h=>⟨o,a,b,rfl,h⟩) h
 .exact noF ((Bw c).symm.trans h)
noncomputable def II(e:E)(F:Ch->Ch->E->E->E->Aj):Aj:=if c:e.ctorIdx=12 then E.cmp2.elim (motive_1:=λ_=>Aj) e c F else Ac
theorem RA{e:E}{F:Ch->Ch->E->E->E->Aj}(h:II e F=Ab) : ∃ o q a b c,e=E.cmp2 o q a b c/\F o q a b c=Ab:=by
 by_cases c:e.ctorIdx=12
 .exact E.cmp2.elim (motive_1:=λe=>II e F=Ab -> ∃ o q a b c,e=E.cmp2 o q a b c/\F o q a b c=Ab) e c (λo q a b c h=>⟨o,q,a,b,c,rfl,h⟩) h
 .exact noF ((Bw c).symm.trans h)
noncomputable def IP(e:E)(F:BI->Es->Aj):Aj:=if c:e.ctorIdx=15 then E.bi.elim (motive_1:=λ_=>Aj) e c F else Ac
theorem RB{e:E}{F:BI->Es->Aj}(h:IP e F=Ab) : ∃ b as,e=E.bi b as/\F b as=Ab:=by
 by_cases c:e.ctorIdx=15
 .exact E.bi.elim (motive_1:=λe=>IP e F=Ab -> ∃ b as,e=E.bi b as/\F b as=Ab) e c (λb as h=>⟨b,as,rfl,h⟩) h
 .exact noF ((Bw c).symm.trans h)
noncomputable def Ld(e:E)(F:Aj->Aj):Aj:=if c:e.ctorIdx=1 then E.bl.elim (motive_1:=λ_=>Aj) e c F else Ac
theorem TW{e:E}{F:Aj->Aj}(h:Ld e F=Ab) : ∃ b,e=E.bl b/\F b=Ab:=by
 by_cases c:e.ctorIdx=1
 .exact E.bl.elim (motive_1:=λe=>Ld e F=Ab -> ∃ b,e=E.bl b/\F b=Ab) e c (λb h=>⟨b,rfl,h⟩) h
 .exact noF ((Bw c).symm.trans h)
noncomputable def HE(e:E)(F:Ae->Aj):Aj:=if c:e.ctorIdx=4 then E.var.elim (motive_1:=λ_=>Aj) e c F else Ac
theorem Jz{e:E}{F:Ae->Aj}(h:HE e F=Ab) : ∃ i,e=E.var i/\F i=Ab:=by
 by_cases c:e.ctorIdx=4
 .exact E.var.elim (motive_1:=λe=>HE e F=Ab -> ∃ i,e=E.var i/\F i=Ab) e c (λi h=>⟨i,rfl,h⟩) h
 .exact noF ((Bw c).symm.trans h)
noncomputable def G6(e:E)(F:Ae->Es->Aj):Aj:=if c:e.ctorIdx=14 then E.call.elim (motive_1:=λ_=>Aj) e c F else Ac
theorem Me{e:E}{F:Ae->Es->Aj}(h:G6 e F=Ab) : ∃ f as,e=E.call f as/\F f as=Ab:=by
 by_cases c:e.ctorIdx=14
 .exact E.call.elim (motive_1:=λe=>G6 e F=Ab -> ∃ f as,e=E.call f as/\F f as=Ab) e c (λf as h=>⟨f,as,rfl,h⟩) h
 .exact noF ((Bw c).symm.trans h)
noncomputable def IU(e:E):Aj:=decide (e.ctorIdx=0)
theorem Sq{e:E}(h:IU e=Ab):e = .non:=E.non.elim (motive_1:=λe=>e = .non) e (AI h) rfl
noncomputable def CK:Ak->Aj
 |.Starred _ _=>Ac
 |_=>Ab
noncomputable def MM:Ak->Aj
 |.Slice _ _ _ _=>Ac
 |_=>Ab
noncomputable def IS:Ak->Aj
 |.Set _ _ _=>Ac
 |_=>Ab
noncomputable def Gv:Ak->Aj
 |.ListComp _ _ _ _=>Ac
 |.SetComp _ _ _ _=>Ac
 |.DictComp _ _ _ _ _=>Ac
 |_=>Ab
noncomputable def Og(tu:Aj):Ak->Aj
 |.Tuple .. => tu
 |.Name .. => !tu
 |_=>Ac
noncomputable def X2:Ak->Aj
 |.Tuple _ _ _=>Ab
 |_=>Ac
noncomputable def Ii:Ak->Aj
 |.UnaryOp _ _ _=>Ac
 |.BoolOp _ _ _=>Ac
 |.IfExp _ _ _ _=>Ac
 |.Compare _ _ _ _=>Ac
 |_=>Ab
noncomputable def KI:Ki->An Ag
 |.int=>Aa "int"
 |.bool=>Aa "bool"
 |.str=>Aa "str"
 |.list=>Aa "list"
 |.tuple=>Aa "tuple"
 |_=>Af
noncomputable def KJ:BI->An Ag
 |.len=>Aa "len"
 |.abs=>Af
 |.max=>Af
 |.min=>Af
 |.int=>Af
 |.list=>Aa "list"
 |.tuple=>Aa "tuple"
 |.all=>Aa "all"
 |.any=>Af
 |.sum=>Af
 |.sorted=>Af
 |.tmin=>Af
 |.tmax=>Af
 |_=>Af
noncomputable def KM(o scope:By):By := {scope with names:=scope.names.map λ(n,k)=>if (k==.free&&o.kind==.function&&o.names.lookup n==Aa .cell) then (n,.cell) else (n,k)}
noncomputable def HN:Ad Ae->Ad Ag->Ad Ag->Ad Ag
 |t::ts,x::xs,N=>HN ts xs ((N.map λy=>if y==x then N.getD t x else y).set t x)
 |_,_,N=>N
noncomputable def G1:Ad Ag->Aj
 |[]=>Ab
 |x::xs => !xs.contains x&&G1 xs
noncomputable def Jh(T:Tc)(scope:By)(ts:Ad Ae)(N':Ad Ag):Aj:=
  scope.kind==.function&&scope.names.all (λy=>scope.names.lookup y.1==Aa y.2) &&
  scope.names.all (λy=>y.2 != .free||T.sc.names.lookup y.1==Aa .cell||T.sc.names.lookup y.1==Aa .free) &&
  N'.length==T.N.length&&G1 N' &&
  (CT N'.length).all λi=>ts.contains i||(match N'[i]? with
    |some x=>(scope.names.lookup x != Aa .local&&scope.names.lookup x != Aa .cell)&&(scope.names.lookup x != Aa .free||T.N[i]? == Aa x)
    | none=>Ab)
noncomputable def E5:Ad Ak->An (Ad Ag)
 |[]=>Aa []
 |.Name x _::r=>(E5 r).map (x :: ·)
 |_=>Af
noncomputable def tgN(ys:Ad Ak):Ad Ag:=(E5 ys).getD []
noncomputable def tgO(T:Tc)(scope:By)(t:Ae)(x:Ag):Aj:=T.N[t]? == Aa x&&(T.sc.names.lookup x==Aa .local||(T.sc.names.lookup x==Aa .cell&&scope.names.lookup x==Aa .cell))
noncomputable def tgC(T:Tc):Ad Ae->Ad Ag->Aj
 |[],[]=>Ab
 |t::ts,x::xs=>T.N[t]? == Aa x&&FS T x&&tgC T ts xs
 |_,_=>Ac
noncomputable def Tc.blk(T:Tc)(scope:By)(ts:Ad Ae)(xs:Ad Ag):Tc := {T with sc:=KM T.sc scope,N:=HN ts xs T.N,tp:=Ac}
noncomputable def YG(f:Ag):Aj:=(f==("triple" : Ag)||(f==("points" : Ag)||f==("row" : Ag)))
noncomputable def N2:Ak->Aj
 |.Call _ [] _ _=>Ac
 |_=>Ab
theorem Vz{o:Ak}{f:Ag}{w:ED Ah}(h:N2 o=Ab):Dd o f env w=w:=by
 cases o with
 |Call g as ks p=>
  cases as with
  |nil=>cases h
  |cons=>cases g <;> rfl
 |_=>rfl
noncomputable def inX(l:Ad (Ag × Ae))(g:Ag)(c:Ae):Aj:=l.any λp=>p.1==g&&p.2==c
noncomputable def Yz(T:Tc)(t:Ag):Ki->Aj
 |.verr=>t==("ValueError" : Ag)&&isB T t
 |.cls c=>inX T.exs t c&&glB T t&&Ek t
 |_=>Ac
noncomputable def OG:Ak->An (Ak × Ak × Az)
  | .Compare x ops ys p=>(match ops with
    | [.Lt]=>(match ys with
      |[y]=>Aa (x,y,p)
      | _=>Af)
    | _=>Af)
  |_=>Af
noncomputable def KY(_:Es):An (E × E):=Af
noncomputable def K8(_:Tc)(_:Tc->Ak->E->Aj)(_:Ak)(_:Ad Ch)(_:Ad Ak)(_:BI)(_:Es):Aj:=Ac
noncomputable def OB(T:Tc)(e:Ak)(b:BI)(as:Es):Aj:=Ac
noncomputable def NC:Ak->An (Ag × Az)
 |.Name x p=>Aa (x,p)
 |_=>Af
noncomputable def ND:Ak->An (Ak × Ad Ak × Ad Dg × Az)
 |.Call f as ks p=>Aa (f,as,ks,p)
 |_=>Af
noncomputable def Yb:Ak->An (Ad Ak × Ae × Az)
 |.Tuple es k p=>Aa (es,k,p)
 |_=>Af
noncomputable def one{α:Type}:Ad α->An α
 |[a]=>Aa a
 |_=>Af
noncomputable def OC(e:Ak):An (Ag × Ag × Ad Ak):=(ND e).bind λc=>(NC c.1).bind λg=>(one c.2.1).bind λa=>(ND a).bind λd=>(NC d.1).bind λh=>if (c.2.2.1.isEmpty&&d.2.2.1.isEmpty)=Ab then Aa (g.1,h.1,d.2.1) else Af
noncomputable def OL(e:Ak):An (Ag × Ag × Ak × Ak):=match OC e with
  | some (g,h,bs)=>(match bs with
    |[x,y]=>Aa (g,h,x,y)
    | _=>Af)
  |none=>Af
noncomputable def KP(_:Es):An (E × E):=Af
noncomputable def Oe(e:Ak):An (Ag × Ag × Ak):=match OC e with
  | some (g,h,bs)=>(match bs with
    |[x]=>Aa (g,h,x)
    | _=>Af)
  |none=>Af
noncomputable def Ji:Es->An (Ag × E)
  | .cons a r=>(match a with
    | .str s=>(match r with
      | .cons b r'=>(match r' with
        | .nil=>(match b with
          |.var _=>Af
          | b=>Aa (s,b))
        | _=>Af)
      | _=>Af)
    | _=>Af)
  |.nil=>Af
theorem UA{s:Ag}{a:E}(q:Ji as=Aa (s,a)):as = .cons (.str s) (.cons a .nil) /\ ∀ Y r,top Y a r=r:=by
 cases as with
 |nil=>cases q
 |cons a r=>
  cases a with
  |str s=>
   cases r with
   |nil=>cases q
   |cons b r'=>
    cases r' with
    |nil=>cases b <;> first|(cases q;exact⟨rfl,λ_ _=>rfl⟩)|cases q
    |cons=>cases q
  |_=>cases q
noncomputable def KN(_:Es):An E:=Af
noncomputable def two(e:Ak):An (Ak × Ak):=(Yb e).bind λt=>match t.1 with
  |[a,b]=>Aa (a,b)
  |_=>Af
noncomputable def Lj(_:Es):An E:=Af
noncomputable def On(_:Ak):An Ak:=Af
noncomputable def Oi:Ak->An (Ak × Ao)
  | .Subscript v s _=>(match s with
    | .Slice lo hi st _=>(match lo with
      | some (.Constant (.int k) _ _)=>(match hi with
        | none=>(match st with
          |some (.Constant (.int j) _ _)=>if j=2 then Aa (v,k) else Af
          | _=>Af)
        | some _=>Af)
      | _=>Af)
    | _=>Af)
  |_=>Af
noncomputable def KZ(_:Es):An (E × Ao):=Af
mutual
noncomputable def A7:Ae->Tc->Ak->E->Aj
  |0,_,_,_=>Ac
  |n+1,T,e,c=>match c with
    |.non=>Fl e λc=>decide (c = .none)
    |.bl b=>Fl e λc=>decide (c = .bool b)
    |.int i=>Fl e λc=>decide (c = .int i)
    |.str x=>Fl e λc=>decide (c = .str x)
    |.var i=>DJ e λx=>isV T x i
    |.glob g=>Ac
    |.bin op a b=>IQ e λx op' y=>decide (op'=op)&&A7 n T x a&&A7 n T y b
    |.un op a=>Ac
    |.no a=>G9 e λo x=>decide (o = .Not)&&A7 n T x a
    |.and es=>Gd e λo xs _=>decide (o = .And)&&(chkEs n T xs es && !xs.isEmpty)
    |.or es=>Gd e λo xs _=>decide (o = .Or)&&(chkEs n T xs es && !xs.isEmpty)
    |.cmp op a b=>HF e λx os ys=>C8 os λop'=>C8 ys λy=>decide (op'=op) && !behindInMarks op y&&A7 n T x a&&A7 n T y b
    |.cmp2 op1 op2 a b c=>Ac
    |.ite c a b=>Ac
    |.call f as=>G0 e λg x xs=>(T.fns.any λp=>p.1==g&&p.2.1==f&&p.2.2==xs.length+1)&&decide (xs.length<900)&&glB T g&&Ek g&&chkEs n T (x::xs) as
    |.bi b as=>(G0 e λg x xs=>KJ b==Aa g&&isB T g&&chkEs n T (x::xs) as)||OB T e b as||(match KP as with|some (a,c)=>(match OL e with|some (g,h,x,y)=>decide (b = .list)&&g==("list" : Ag)&&h==("range" : Ag)&&isB T g&&isB T h&&CK x&&CK y&&A7 n T x a&&A7 n T y c|none=>Ac)|none=>Ac)||(match KZ as with|some (a,k)=>(match Oi e with|some (x,j)=>decide (b = .stp)&&decide (j=k)&&decide (0<=k)&&A7 n T x a|none=>Ac)|none=>Ac)||(match KN as with|some a=>(match Oe e with|some (g,h,x)=>decide (b = .lset)&&g==("len" : Ag)&&h==("set" : Ag)&&isB T g&&isB T h&&CK x&&A7 n T x a|none=>Ac)|none=>Ac)||(match KY as with|some (a,c)=>(match OG e with|some (x,y,_)=>decide (b = .tlt) && !behindInMarks .Lt y&&A7 n T x a&&A7 n T y c|none=>Ac)|none=>Ac)||(match Ji as with|some (s,a)=>G5 e λf l ks cp=>ks.isEmpty&&(Gz f λo m ap=>m==("join" : Ag)&&ap.endLine==cp.line&&(Fl o λc=>decide (c = .str s)&&decide (b = .sjoin)&&(C8 l λy=>CK y&&A7 n T y a)))|none=>Ac)||(match Lj as with|some a=>(match On e with|some x=>decide (b = .rvs)&&A7 n T x a|none=>Ac)|none=>Ac)
    |.isi a ks=>(C8 ks λk=>Gy e λg l=>FM l λx t=>DJ t λt=>g==("isinstance" : Ag)&&isB T g&&KI k==Aa t&&isB T t&&CK x&&A7 n T x a)||(C8 ks λk=>Gy e λg l=>FM l λx t=>DJ t λt=>g==("isinstance" : Ag)&&isB T g&&CK x&&A7 n T x a&&Yz T t k)
    |.idx a i=>Ky e λx y=>MM y&&A7 n T x a&&A7 n T y i
    |.sl a lo hi=>Ac
    |.tup es=>G7 e λxs=>chkEs n T xs es&&decide (xs.length<=1000)
    |.lst es=>IF e λxs=>chkEs n T xs es&&decide (xs.length<=1000)
    |.comp elt t it c=>Oa e λx tg iter ifs scope=>DJ tg λy=>chkI n T Ac iter it&&IS iter&&Jh T scope [t] (HN [t] [y] T.N)&&tgO (T.blk scope [t] [y]) scope t y&&chkT n (T.blk scope [t] [y]) ifs c&&A7 n (T.blk scope [t] [y]) x elt
    |.compT elt ts it c=>Ac
    |.tupI _=>Ac
    |.dnew=>Ac
    |.fld o f=>Gz e λw g _=>g==f&&YG f&&N2 w&&A7 n T w o
    |.mkx c as=>T.tp&&(G0 e λg x xs=>inX T.rzs g c&&glB T g&&Ek g&&decide (xs.length<=1000)&&chkEs n T (x::xs) as)
noncomputable def Fp:Ae->Tc->Ak->E->Aj
 |0,_,_,_=>Ac
 |n+1,T,e,c=>(G9 e λo x=>decide (o = .Not)&&(Jb c λa=>Fp n T x a)) ||
  (Gd e λo xs _=>(decide (o = .And)&&(IR c λes=>chkBs n T xs es && !xs.isEmpty))||(decide (o = .Or)&&(Ja c λes=>chkBs n T xs es && !xs.isEmpty))) ||
  (HF e λx os ys=>(IH c λop a b=>C8 os λop'=>C8 ys λy=>decide (op'=op) && !behindInMarks op y&&A7 n T x a&&A7 n T y b) ||
   (II c λop1 op2 a b c=>FM os λo1 o2=>FM ys λy z=>decide (o1=op1)&&decide (o2=op2) && !lastMarks [op1,op2] [y,z]&&A7 n T x a&&A7 n T y b&&A7 n T z c) ||
   (IP c λb as=>K8 T (A7 n) x os ys b as)) ||
  Ii e&&A7 n T e c
noncomputable def chkBs:Ae->Tc->Ad Ak->Es->Aj
  |0,_,_,_=>Ac
  |n+1,T,xs,es=>match xs,es with
    |[],.nil=>Ab
    |x::xs,.cons e es=>Fp n T x e&&chkBs n T xs es
    |_,_=>Ac
noncomputable def chkEs:Ae->Tc->Ad Ak->Es->Aj
  |0,_,_,_=>Ac
  |n+1,T,xs,es=>match xs,es with
    |[],.nil=>Ab
    |x::xs,.cons e es=>CK x&&A7 n T x e&&chkEs n T xs es
    |_,_=>Ac
noncomputable def OD:Ae->Tc->An Ak->E->Aj
  |0,_,_,_=>Ac
  |n+1,T,x,e=>match x with
    |none=>IU e
    |some x => !(IU e)&&A7 n T x e
noncomputable def chkT:Ae->Tc->Ad Ak->E->Aj
  |0,_,_,_=>Ac
  |n+1,T,xs,e=>match xs with
    |[]=>Ld e λb=>b
    |x::r=>r.isEmpty&&Fp n T x e
noncomputable def chkI:Ae->Tc->Aj->Ak->I->Aj
  |0,_,_,_,_=>Ac
  |n+1,T,tu,e,i=>match i with
    |.e a=>A7 n T e a
    |.rng a=>Gy e λg l=>C8 l λx=>g==("range" : Ag)&&isB T g&&CK x&&A7 n T x a
    |.enm a=>Ac
    |.zip a b=>Ac
    |.rng2 a b=>Gy e λg l=>FM l λx y=>g==("range" : Ag)&&isB T g&&CK x&&CK y&&A7 n T x a&&A7 n T y b
    |.zip3 a b c=>Ac
end
noncomputable def K7:E->E->Aj
 |.var _,.int _=>Ab
 |_,_=>Ac
noncomputable def Ol:Dw->Aj
 |.Sub=>Ab
 |_=>Ac
noncomputable def IY:E->Aj
 |.idx a b=>K7 a b
 |.bin op a b=>Ol op&&K7 a b
 |.var _=>Ab
 |.int _=>Ab
 |.bl _=>Ab
 |.str _=>Ab
 |.non=>Ab
 |_=>Ac
noncomputable def Gc:Es->Aj
 |.nil=>Ab
 |.cons e es=>IY e&&Gc es
noncomputable def FO:Ak->An (Ag × Az)
 |.Name x p=>Aa (x,p)
 |_=>Af
theorem Gs{e:Ak}{t:Ag × Az}(h:FO e=Aa t):e = .Name t.1 t.2:=by
 cases e with
 |Name x p=>cases h;rfl
 |_=>exact nomatch (show Af=Aa t from h)
noncomputable def Ox:Ak->An (Ak × Ad Ak × Az)
  | .Call f as ks p=>(match ks with
    |[]=>Aa (f,as,p)
    | _=>Af)
  |_=>Af
theorem SZ{e:Ak}{t:Ak × Ad Ak × Az}(h:Ox e=Aa t):e = .Call t.1 t.2.1 [] t.2.2:=by
 cases e with
 |Call f as ks p=>
  cases ks with
  |nil=>cases h;rfl
  |cons=>exact nomatch (show Af=Aa t from h)
 |_=>exact nomatch (show Af=Aa t from h)
noncomputable def Jd{α:Type}:Ad α->An (α × α)
 |[a,b]=>Aa (a,b)
 |_=>Af
theorem J4{l:Ad α}{t:α × α}(h:Jd l=Aa t):l=[t.1,t.2]:=by
 cases l with
 |nil=>exact nomatch (show Af=Aa t from h)
 |cons a l=>
  cases l with
  |nil=>exact nomatch (show Af=Aa t from h)
  |cons b l=>
   cases l with
   |nil=>cases h;rfl
   |cons=>exact nomatch (show Af=Aa t from h)
noncomputable def xHd:Dc->An (Ag × Ag × AC × Ad AC)
  | .ExceptHandler ty nm b _=>(match nm,b,ty with
    |some m,h0::hs,Aa e=>(FO e).bind λg=>Aa (g.1,m,h0,hs)
    | _,_,_=>Af)
theorem Uw{h:Dc}{m:Ag}(q:xHd h=Aa (g,m,h0,hs)) : ∃ p r,h = .ExceptHandler (Aa (.Name g p)) (Aa m) (h0::hs) r:=by
 obtain⟨ty,nm,b,r⟩:=h;cases nm with
 |none=>cases ty <;> cases b <;> exact nomatch (show Af=Aa (g,m,h0,hs) from q)
 |some m'=>
  cases b with
  |nil=>cases ty <;> exact nomatch (show Af=Aa (g,m,h0,hs) from q)
  |cons h0' hs'=>
   cases ty with
   |none=>exact nomatch (show Af=Aa (g,m,h0,hs) from q)
   |some e=>
    obtain⟨g',e1,q⟩:=Aw.mp (show ((FO e).bind λg=>Aa (g.1,m',h0',hs'))=Aa (g,m,h0,hs) from q)
    cases q;rw[Gs e1];exact⟨_,_,rfl⟩
noncomputable def K1:AC->An (AC × Ad Dc × Ad AC)
  | .Try b hs es fs _=>(match b,fs with
    |[bt],[]=>Aa (bt,hs,es)
    | _,_=>Af)
  |_=>Af
theorem Tt{st bt:AC}{hs:Ad Dc}{es:Ad AC}(q:K1 st=Aa (bt,hs,es)) : ∃ p,st = .Try [bt] hs es [] p:=by
 cases st with
 |Try b h e f p=>
  cases b with
  |nil=>cases f <;> exact nomatch (show Af=Aa (bt,hs,es) from q)
  |cons x b=>
   cases b with
   |cons=>cases f <;> exact nomatch (show Af=Aa (bt,hs,es) from q)
   |nil=>
    cases f with
    |nil=>cases q;exact⟨_,rfl⟩
    |cons=>exact nomatch (show Af=Aa (bt,hs,es) from q)
 |_=>exact nomatch (show Af=Aa (bt,hs,es) from q)
noncomputable def Ob(e:Ak)(F:Ag->Ag->Ak->Aj):Aj:=Gy e λg l=>FM l λa t=>DJ a λv=>F g v t
theorem TV{e:Ak}{F:Ag->Ag->Ak->Aj}(h:Ob e F=Ab) : ∃ g p v q t r,e = .Call (.Name g p) [.Name v q,t] [] r/\F g v t=Ab:=by
 obtain⟨g,p,l,r,rfl,h⟩:=GV h;obtain⟨a,t,rfl,h⟩:=GU h;obtain⟨v,q,rfl,h⟩:=DX h;exact⟨g,p,v,q,t,r,rfl,h⟩
noncomputable def KU(T:Tc):Ad Ak->Ad Ki->Aj
  |[],ks=>ks.isEmpty
  | e::r,ks=>FK ks λk ks=>DJ e λt=>(match k with
    |.cls c=>inX T.exs t c&&glB T t&&Ek t
    | _=>Ac)&&KU T r ks
noncomputable def HJ(f:Ak->E->Aj):Ad Ak->Es->Aj
 |[],.nil=>Ab
 |x::xs,.cons e es=>CK x&&f x e&&HJ f xs es
 |_,_=>Ac
noncomputable def XX(T:Tc)(t:Ak)(ks:Ad Ki):Aj:=FK ks λk r=>match k with
  |.verr=>r.isEmpty&&(DJ t λt=>t==("ValueError" : Ag)&&isB T t)
  | .cls c=>(match r with
    |[]=>DJ t λt=>inX T.exs t c&&glB T t&&Ek t
    | k2::r=>G7 t λts=>KU T ts (.cls c::k2::r)&&decide (ts.length<=1000))
  |_=>Ac
noncomputable def Fm:Ae->Tc->Ae->Ak->E->Aj
  |0,_,_,_,_=>Ac
  |n+1,T,x,e,c=>match c with
    |.bl b=>Fl e λk=>decide (k = .bool b)
    |.no a=>G9 e λo y=>decide (o = .Not)&&Fm n T x y a
    | .and es=>(match es with
      |.nil=>Ac
      | .cons a r=>(match r with
        |.nil=>Gd e λo l _=>decide (o = .And)&&(C8 l λy=>Fm n T x y a)
        | .cons a' as=>Gd e λo l p=>decide (o = .And)&&(FK l λy l=>FK l λz zs=>Fm n T x y a&&Fm n T x (.BoolOp .And (z::zs) p) (.and (.cons a' as)))))
    |.isi a ks=>HE a λi=>Ob e λg v t=>i==x&&g==("isinstance" : Ag)&&isB T g&&isV T v x&&XX T t ks
    |.call _ _=>Ac
    |.str s=>Fl e λk=>decide (k = .str s)
    |.lst es=>IF e λxs=>HJ (Fm n T x) xs es&&decide (xs.length<=1000)
    |.tup es=>G7 e λxs=>HJ (Fm n T x) xs es&&decide (xs.length<=1000)
    |.bin op a b=>decide (op = .Add)&&(HE a λi=>IQ e λl o y=>decide (o = .Add)&&(DJ l λv=>isV T v i&&Fm n T x y b))
    |.fld o f=>HE o λi=>Gz e λw g _=>DJ w λv=>i==x&&g==f&&(f==("triple" : Ag)||(f==("points" : Ag)||f==("row" : Ag)))&&isV T v x
    |_=>Ac
noncomputable def YA:E->Aj
 |.lst _=>Ab
 |_=>Ac
noncomputable def KW:Ae->Tc->Ae->Ad AC->Ss->Aj
  |0,_,_,_,_=>Ac
  |n+1,T,x,sts,ss=>match ss with
    |.nil=>sts.isEmpty
    | .cons s ss=>FK sts λst r=>(match s with
      |.asg i b e=>HG st λy v=>T.N[i]? == Aa y&&FS T y&&Gv v&&Fm n T x v e&&(!b||YA e)
      |.ife _ _ _=>Ac
      |.ret _=>Ac
      |.app _ _=>Ac
      | _=>Ac)&&KW n T x r ss
noncomputable def K6:E->Aj
 |.var _=>Ab
 |.cmp _ a b=>IY a&&IY b
 |_=>Ac
noncomputable def Iy(n:Ae)(T:Tc)(st:AC)(s:S):Aj:=match s with
  |.expr e=>G6 e λf as=>G8 st λv=>A7 n T v (.call f as)&&Gc as
  |.asg i b e => !b&&(G6 e λf as=>HG st λy v=>T.N[i]? == Aa y&&FS T y&&A7 n T v (.call f as)&&Gc as)
  |_=>Ac
noncomputable def Kz:Ss->(S->Aj)->Aj
  |.nil,_=>Ac
  | .cons a r,F=>(match r with
    |.nil=>F a
    | .cons _ _=>Ac)
theorem Mw{l:Ss}{F:S->Aj}(h:Kz l F=Ab) : ∃ a,l = .cons a .nil/\F a=Ab:=by
 cases l with
 |nil=>exact noF h
 |cons a r=>
  cases r with
  |nil=>exact⟨a,rfl,h⟩
  |cons=>exact noF h
noncomputable def NA(f:AC->S->Aj)(n:Ae)(T:Tc)(st:AC):S->Aj
 |.ife c a b=>Kz a λa=>Kz b λb=>IX st λt xs ys=>C8 xs λx=>C8 ys λy=>Fp n T t c&&K6 c&&f x a&&f y b
 |_=>Ac
noncomputable def IK:Ae->Ae->Tc->AC->S->Aj
 |0,n,T,st,s=>Iy n T st s
 |m+1,n,T,st,s=>Iy n T st s||NA (IK m n T) n T st s
noncomputable def YI:E->Aj
  | .bi b as=>(match b,as with
    |.len,.nil=>Ab
    | _,_=>Ac)
  |_=>Ac
noncomputable def YH:S->Aj
 |.expr e=>YI e
 |_=>Ac
noncomputable def Jg:Ss->Aj
 |.cons s _=>YH s
 |.nil=>Ac
noncomputable def hdB(T:Tc)(g:Ag)(c:Ae):Aj:=inX T.exs g c&&inX T.rzs g c&&glB T g&&Ek g
mutual
noncomputable def HQ:Ae->Tc->AC->S->Aj
  |0,_,_,_=>Ac
  |n+1,T,st,s=>match s with
    |.pass=>Ac
    |.brk=>Ac
    |.cont=>Ac
    |.asg i _ e=>HG st λx v=>T.N[i]? == Aa x&&FS T x&&A7 n T v e
    |.asgT ts e=>Ac
    |.expr e=>G8 st λv=>Gv v&&A7 n T v e
    |.ret e=>KA st λo=>match o with|some v=>A7 n T v e|none=>Ac
    |.retN=>Ac
    |.ife c a b=>IX st λt xs ys=>Fp n T t c&&chkSs n T xs a&&chkSs n T ys b
    |.fors t it body=>IG st λtg iter xs ys=>ys.isEmpty&&(DJ tg λx=>tgC T [t] [x]&&IS iter&&chkI n T Ac iter it&&chkSs n T xs body)
    |.forT ts it body=>IG st λtg iter xs zs=>zs.isEmpty&&(G7 tg λys=>(E5 ys).isSome&&tgC T ts (tgN ys)&&IS iter&&chkI n T Ab iter it&&chkSs n T xs body)
    |.whl c body=>Ac
    |.rais c as => !(T.rzs.any λp=>p.2==c)||(IE st λa b=>b.isNone&&(match a with|some e=>G0 e λg x xs=>inX T.rzs g c&&glB T g&&Ek g&&decide (xs.length<=1000)&&chkEs n T (x::xs) as|none=>Ac))
    |.tryx bs c x h=>(match bs with | .cons b .nil=>(match K1 st with|some (bt,[h1],[])=>(match xHd h1 with|some (g,m,h0,hs)=>hdB T g c&&T.N[x]? == Aa m&&T.sc.names.lookup m==Aa .local&&IK 6 n T bt b&&KW n T x (h0::hs) h|none=>Ac)|_=>Ac)|_=>Ac)
    |.try2 _ _ _ _ _ _ _=>Ac
    |.app i e=>N0 st λx m l=>C8 l λv=>m==("append" : Ag)&&isV T x i&&CK v&&A7 n T v e
    |.ext i e=>Ac
    |.rev i=>Ac
    |.clr i=>Ac
    |.put i k e=>Ac
    |.swp _ _ _=>Ac
    |.apop _ _ _=>Ac
    |.ins i k e=>Ac
    |.dput _ _ _=>Ac
    |.dsd _ _ _=>Ac
    |.rel _=>Ac
noncomputable def chkSs:Ae->Tc->Ad AC->Ss->Aj
  |0,_,_,_=>Ac
  | n+1,T,sts,ss=>(match ss with
    |.nil=>sts.isEmpty
    |.cons (.rel i) ss=>chkSs n T sts ss
    | .cons s ss=>(match sts with
      |st::r=>HQ n T st s&&chkSs n T r ss
      | []=>Ac))||Jg ss
end
noncomputable def FQ(fuel:Ae)(hot:Aj)(fns:Ad (Ag × Ae × Ae))(bl:Ad Ag)(rzs exs gls:Ad (Ag × Ae))(ps N:Ad Ag)(st:AC)(df:Df):Aj:=
  let sc:=BM st
  sc.kind==.function && !sc.isCoroutine && !sc.isGenerator&&G1 N&&N.take ps.length==ps&&ps.all (λx=>sc.names.lookup x==Aa .local||sc.names.lookup x==Aa .cell)&&sc.names.all (λy=>y.2 != .free)&&N.length==df.n &&
  (match hot with
  |true=>Ac
  | false=>chkSs fuel ⟨sc,N,fns,bl,rzs,exs,gls,Ab⟩ (DA st) df.body)
structure XT (up:Ae->Ad Ae) (xn:Ae->Ad D->R Ex) (CL:ClA) (rzs exs:Ad (Ag × Ae)) (K:Fg) (mg:Ag->An Ah):Prop where
 xc : ∀ c C,CL c=Aa C->XcOk K C
 rz : ∀ p∈rzs,∃ C,CL p.2=Aa C/\mg p.1=Aa (.ref C)
 ex : ∀ p∈exs,∃ C,mg p.1=Aa (.ref C)/\Hz K CL up p.2 C /\ ∀ c D,CL c=Aa D->Bh K (.ref D) (.ref C)=Aa ((up c).contains p.2)
 made : ∀ c C ds,CL c=Aa C->xn c ds = .bad\/(xn c ds = .ok ⟨c,[]⟩/\Cd K C Af=Ab) \/ ∃ f,XIn K mg C f/\GC xn c f ds
 nf : ∀ c C,CL c=Aa C -> ∀ f:Ag,(f==("triple" : Ag)||(f==("points" : Ag)||f==("row" : Ag)))=Ab->D4 K C=Ab/\Av K (.ref C) f=Aa Af
 xb : ∀ c,(∀ p∈rzs,p.2≠c) -> ∀ ds,xn c ds = .bad
noncomputable def Ln(K:Fg)(mg:Ag->An Ah)(CL:ClA)(x:Ag)(d:D):Prop := ∃ u v,mg x=Aa u/\Bf v u /\ ∀ H A,Rep K CL H A v d
structure VX (U:Gam) (CL:ClA) (k:Ae) (W:XW) (T:Tc) (X:Cx):Prop where
 sc:X.env.scope=T.sc
 kd:T.sc.kind = .function
 N:X.N=T.N
 nd:T.N.Nodup
 calm:X.calm=Ab
 room:Room k X.A
 bl : ∀ x,x∈T.bl->X.mg x=Af
 fn : ∀ p∈T.fns,∃ f fd ps,X.mg p.1=Aa (.ref f)/\Be X.K (.ref f)=Ab/\Ej X.K fd ps []/\ps.length=p.2.2%1000/\(p.2.2<1000->FnOk X.prog X.w X.K X.mg X.base (CXR X.prog X.w) k f fd ps (spD X.K CL (p.2.2%1000) (U.fr p.2.1) (U.F p.2.1)))/\(1000<=p.2.2->HotOk X.prog X.w X.K X.mg X.base k f fd ps (spH X.K CL (p.2.2%1000) (U.fr p.2.1) (U.F p.2.1)))
 own:Dx (model X.prog X.w) X.A X.env X.xe
 px : ∀ A,G4 (CXR X.prog X.w) X (EKW X.K CL A W)
 rz:HU X CL W
 xt:XT U.up U.xn CL T.rzs T.exs X.K X.mg
 gl : ∀ p∈T.gls,Ln X.K X.mg CL p.1 (U.G p.2)
 ex:T.tp=Ab->X.ex=[]
theorem Nb : ∀ A,G4 (CXR X.prog X.w) X (EKW X.K CL A W0):=λA pI Z H s ev s' I h=>by
 obtain⟨e,T,cls,dx,H',_,_,_,_,_,_,_,_,_,_,x,_,w⟩:=h;exact w.elim
theorem Om:HU X CL W0:=λ_ _ _ _ _ _ _ _ _ _ _ _ _ _ z=>z.elim
noncomputable def Rf{α:Type}(g f:Rho->R α):Prop := ∀ Y,g Y = .bad\/g Y=f Y
section
variable{X:Cx}{CL:ClA}{W:XW}{a:Ak}{f g:Rho->R D}
theorem SE.ref(h:SE X CL W a f)(r:Rf g f):SE X CL W a g:=λA=>PE.weak (h A) λZ H Q ⟨hA,Y,q,p⟩=>⟨hA,Y,q,by
 rcases r Y with e|e
 .rw[e]at p;exact p.elim
 .rw[e]at p;exact p⟩
theorem SB.ref{f g:Rho->R Aj}(h:SB X CL W a f)(r:Rf g f):SB X CL W a g:=λA=>PT.weak (h A) λZ H Q ⟨hA,Y,q,p⟩=>⟨hA,Y,q,by
 rcases r Y with e|e
 .rw[e]at p;exact p.elim
 .rw[e]at p;exact p⟩
theorem SW.ref{f g:Rho->R Aj}(h:SW X CL W a f)(r:Rf g f):SW X CL W a g:=λA=>PW.weak (h A) λZ H Q ⟨hA,Y,q,p⟩=>⟨hA,Y,q,by
 rcases r Y with e|e
 .rw[e]at p;exact p.elim
 .rw[e]at p;exact p⟩
theorem SC.ref{fr:Aj}(h:SC X CL W fr a f)(r:Rf g f):SC X CL W fr a g:=λA=>PE.weak (h A) λZ H Q ⟨hA,Y,q,p⟩=>⟨hA,Y,q,by
 rcases r Y with e|e
 .rw[e]at p;exact p.elim
 .rw[e]at p;exact p⟩
theorem SS.ref{st:AC}{f g:Rho->O}(h:SS X CL W st f)(r : ∀ Y,g Y = .bad\/g Y=f Y):SS X CL W st g:=λFz B=>PS.weak (h Fz B) λD Z H ⟨Y,x,p⟩=>⟨Y,x,by
 rcases r Y with e|e
 .rw[e]at p;exact p.elim
 .rw[e]at p;exact p⟩
end
theorem Hj : ∀{l:Ad Ag},G1 l=Ab->l.Nodup
 |[],_=>List.nodup_nil
 |x::xs,h=>by
  unfold G1 at h;simp only[Al,Bg,O1,decide_eq_false_iff_not]at h;exact List.nodup_cons.mpr ⟨h.1,Hj h.2⟩
section
variable{T:Tc}{X:Cx}{U:Gam}{CL:ClA}{k:Ae}{W:XW}
theorem MS(h:K5 T x=Ab):Vis T.sc x:=by
 unfold K5 at h;split at h
 .exact .inl (by assumption)
 .exact .inr (.inl (by assumption))
 .exact .inr (.inr (by assumption))
 .cases h
theorem GR(h:FS T x=Ab):Loc T.sc x:=by
 unfold FS at h;split at h
 .exact .inl (by assumption)
 .exact .inr (by assumption)
 .cases h
theorem EJ(h:Ek x=Ab):(x==("__debug__" : Ag))=Ac/\(x==("__classdict__" : Ag))=Ac/\x ≠ "__name__" := by
 unfold Ek at h;simp only[Al,Bg]at h;exact⟨h.1.1,h.1.2,λe=>by subst e;exact absurd h.2 (by simp)⟩
theorem Iv{i:Ae}(v:VX U CL k W T X)(h:isV T x i=Ab):PE X (.Name x pos) (DO i):=by
 unfold isV at h;simp only[Al,AH]at h;obtain⟨h2,h3,_⟩:=EJ h.2;exact IC (by rw[v.N];exact h.1.1) (by rw[v.sc];exact MS h.1.2) h2 h3
theorem FL(v:VX U CL k W T X)(h:isB T x=Ab):Gl X x/\X.mg x=Af/\x ≠ "__name__" /\ (x==("__debug__" : Ag))=Ac:=by
 unfold isB glB at h;simp only[Al,AH,O1,AQ]at h;obtain⟨h2,h3,h4⟩:=EJ h.2;exact⟨by show X.env.scope.names.lookup x=_;rw[v.sc];exact h.1.2,v.bl x h.1.1,h4,h2⟩
theorem CF{x:Ak}(h:CK x=Ab):Ap (x::xs) env=(Ac,eval x env)::Ap xs env:=by
 cases x <;> first|rfl|cases h
theorem RL{y:Ak}(h:MM y=Ab):Ke y:=by
 intro o i;cases y <;> first|rfl|cases h
theorem Ku{e:Ak}(h:IS e=Ab) : ∀ x,B1 e env x=pure x:=by
 intro x;cases e <;> first|rfl|cases h
theorem GS{e:Ak}{t:An Ak}{l:Ae}(h:Gv e=Ab):Ck e t l env=pure Ac:=by
 cases e <;> first|rfl|cases h
theorem Ta{e:Ak}(h:Ii e=Ab) : ∀ whole,Fx e env whole=(do let v <-whole;standAt e.pos;holding [v] (truthy v)):=by
 intro whole;cases e <;> first|rfl|cases h
theorem Q8(v:VX U CL k W T X)(scope:By):relabel scope X.env=KM T.sc scope:=by
 unfold relabel KM;have : ∀ n,X.env.kindOf n=T.sc.names.lookup n:=λn=>by show X.env.scope.names.lookup n=_;rw[v.sc]
 simp only[this,v.sc]
theorem NB{N':Ad Ag}(v:VX U CL k W T X)(h:Jh T scope ts N'=Ab):BlockOk X scope N' ts/\N'.Nodup/\scope.kind = .function:=by
 unfold Jh at h;simp only[Al,AH,Cm,BB,FU,ne_eq]at h;obtain⟨⟨⟨⟨⟨h1,h2⟩,h4⟩,h5⟩,h6⟩,h7⟩:=h;have at7 : ∀ i x,N'[i]? = Aa x->i∈ts\/((scope.names.lookup x≠Aa .local/\scope.names.lookup x≠Aa .cell)/\(scope.names.lookup x≠Aa .free\/T.N[i]? = Aa x)):=λi x e=>by
  have hi:=(A4.mp e).1;have:=h7 i (Pa.mpr hi);rcases this with z|z
  .exact .inl (by simpa using z)
  .rw[e]at z;simp only[Al,FU,ne_eq,BB,AH]at z;exact .inr z
 refine⟨⟨h1,h2,λy hy hl=>by rw[h2 y hy,hl],λy hy hf => ?_,by rw[v.N];exact h5,λi x e hf hn => ?_,λi x e hl => ?_⟩,Hj h6,h1⟩
 .rw[v.sc];rcases h4 y hy with (z|z)|z
  .exact absurd hf z
  .exact .inl z
  .exact .inr z
 .rw[v.N];rcases at7 i x e with z|⟨_,z⟩
  .exact absurd z hn
  .exact z.resolve_left λq=>q hf
 .rcases at7 i x e with z|⟨z,_⟩
  .exact z
  .exact hl.elim (λq=>absurd q z.1) (λq=>absurd q z.2)
theorem VX.blk{xs:Ad Ag}{cl:Ad (Ag × Ai)}{s:Am}{fp:Ad Ai}(v:VX U CL k W T X)(h:Jh T scope ts (HN ts xs T.N)=Ab):VX U CL k W0 (T.blk scope ts xs) (cxC X scope cl C (HN ts xs T.N) s H fp):=by
 obtain⟨_,h2,h3⟩:=NB v h;exact⟨Q8 v scope,h3,rfl,h2,v.calm,v.room,v.bl,v.fn,PassesOwn.never,Nb,Om,v.xt,v.gl,λz=>nomatch z⟩
theorem S6{t:Ae}(v:VX U CL k W T X)(hfn:scope.names.lookup x=Aa .cell->X.fn x=Ab)(h:tgO T scope t x=Ab):PG X (.Name x pos) (EK t):=by
 unfold tgO at h;simp only[Al,BB,AH]at h;rcases h with ⟨h1,h2|h2⟩
 .exact Io (by rw[v.N];exact v.nd) (by rw[v.N];exact h1) (by rw[v.sc];exact .inl h2) (.inr (by rw[v.sc];exact h2))
 .exact Io (by rw[v.N];exact v.nd) (by rw[v.N];exact h1) (by rw[v.sc];exact .inr h2.1) (.inl (hfn h2.2))
theorem Lv{y:Ak}{r:Ad Ak}{zs:Ad Ag}(h:E5 (y::r)=Aa zs) : ∃ x p ws,y = .Name x p/\E5 r=Aa ws/\zs=x::ws:=by
 cases y with
 |Name x p=>
  have h':(E5 r).map (x :: ·)=Aa zs:=h;cases e:E5 r with
  |none=>rw[e]at h';cases h'
  |some ws=>rw[e]at h';cases h';exact⟨x,p,ws,rfl,rfl,rfl⟩
 |_=>cases h
theorem LP(x:Ag)(p:Az)(r:Ad Ak)(env:BF):CC (.Name x p::r) env=(Ac,assign (.Name x p) env)::CC r env:=rfl
theorem QX : ∀(ys:Ad Ak)(zs:Ad Ag),E5 ys=Aa zs->(CC ys env).length=ys.length/\(CC ys env).findIdx? (·.1)=Af/\(CC ys env).map (·.2)=ys.map λy=>assign y env:=by
 intro ys
 induction ys with
 |nil=>intro _ _;exact⟨rfl,rfl,rfl⟩
 |cons y r ih=>
  intro zs h;obtain⟨x,p,ws,rfl,e,rfl⟩:=Lv h;obtain⟨h1,h2,h3⟩:=ih ws e;rw[LP];refine⟨?_,?_,?_⟩
  .rw[A9,A9,h1]
  .rw[List.findIdx?_cons,h2];simp
  .rw[DS,DS,h3]
end
noncomputable def Es.len:Es->Ae
 |.nil=>0
 |.cons _ es=>es.len+1
theorem F7(U:Gam)(Y:Rho) : ∀(es:Es)(ds:Ad D),evA U Y es = .ok ds->ds.length=es.len
 |.nil,ds,h=>by cases h;rfl
 |.cons e es,ds,h=>by
  obtain⟨x,h1,h2⟩:=Gr (Ml U Y e es ▸ h);obtain⟨xs,h3,h4⟩:=Gr h2;cases h4;exact congrArg (· + 1) (F7 U Y es xs h3)
theorem Iu(U:Gam)(Y:Rho) : ∀(es:Es)(ds:Ad D),evB U Y es = .ok ds->ds.length=es.len
 |.nil,ds,h=>by cases h;rfl
 |.cons e es,ds,h=>by
  obtain⟨x,h1,h2⟩:=Gr (J7 U Y e es ▸ h);obtain⟨xs,h3,h4⟩:=Gr h2;cases h4;exact congrArg (· + 1) (Iu U Y es xs h3)
theorem Nf(U:Gam)(Y:Rho)(e:E)(h:shE Y e=Ab):top Y e (evE U Y e)=evE U Y e:=by
 cases e with
 |var i=>
  show CG Y i=DM Y i;have h':shV Y i=Ab:=h;unfold shV at h';unfold CG DM;cases q:Y[i]? with
  |none=>rfl
  |some x=>
   cases x with
   |none=>rfl
   |some y=>
    obtain⟨d,o⟩:=y;cases o with
    |true=>rw[q]at h';cases h'
    |false=>rfl
 |_=>rfl
theorem Ix(U:Gam)(Y:Rho) : ∀(es:Es),Fn Y es=Ab->evB U Y es=evA U Y es
 |.nil,_=>rfl
 |.cons e es,h=>by
  simp only[Rw,Al]at h;rw[Ml,J7,Nf U Y e h.1,Ix U Y es h.2]
theorem Kn(U:Gam)(c:E):Rf (λY=>evE U Y c) (λY=>top Y c (evE U Y c)):=λY=>by
 by_cases h:shE Y c=Ab
 .exact .inr (Nf U Y c h).symm
 .cases c with
  |var i=>
   refine .inl ?_;show DM Y i = .bad;have h' : ¬ shV Y i=Ab:=h;unfold shV at h';unfold DM;cases q:Y[i]? with
   |none=>rfl
   |some x=>
    cases x with
    |none=>rfl
    |some y=>
     obtain⟨d,o⟩:=y;cases o with
     |true=>rfl
     |false=>rw[q]at h';exact absurd rfl h'
  |_=>exact absurd rfl h
noncomputable def Pcs(X:Cx)(CL:ClA)(W:XW)(e:Ak)(f:Rho->R D):Prop := ∃ tg iter elt ifs scope pos N' ts fi fc fe as g,e = .ListComp elt [⟨tg,iter,ifs,0⟩] scope pos/\BlockOk X scope N' ts/\SI X CL W tg iter fi/\GG X.K CL ts as g /\
 (∀ cl C s H fp,PG (cxC X scope cl C N' s H fp) tg g)/\(∀ cl C s H fp,STs (cxC X scope cl C N' s H fp) CL ifs fc)/\(∀ cl C s H fp,SE (cxC X scope cl C N' s H fp) CL W0 elt fe)/\(∀ x,B1 iter X.env x=pure x) /\
 ∀ Y,f Y=(fi Y).bind λxs=>(noX (CP (λx=>(as x Y).bind fc) (λx=>(as x Y).bind fe) xs)).bind λys => .ok (.lst ys)
theorem Pcs.sc{e:Ak}{f:Rho->R D}(hc:X.calm=Ab)(h:Pcs X CL W e f):SC X CL W Ab e f:=by
 obtain⟨tg,iter,elt,ifs,scope,pos,N',ts,fi,fc,fe,as,g,rfl,B,hi,hGG,hg,ht,he,hs,ef⟩:=h;exact SC.congr (SQ hc B hi hGG hg ht he hs) ef
structure OkE (U:Gam) (CL:ClA) (W:XW) (X:Cx) (e:Ak) (c:E):Prop where
 se:SE X CL W e (λY=>evE U Y c)
 st:ST X CL W e (λY=>top Y c (evE U Y c))
 nw:Dm U c=Ab->SC X CL W Ab e (λY=>evE U Y c)
 cp:Gv e=Ac->Pcs X CL W e (λY=>evE U Y c)
section
variable{U:Gam}{CL:ClA}{W:XW}{X:Cx}{e:Ak}{c:E}
theorem C9(h:SE X CL W e (λY=>evE U Y c))(ht : ∀ Y r,top Y c r=r)(hn:Dm U c=Ac)(hc:Gv e=Ab):OkE U CL W X e c:=
 ⟨h,by simp only[ht];exact h.st,λz=>absurd z (by rw[hn];decide),λz=>absurd z (by rw[hc];decide)⟩
theorem Nc(h:SC X CL W Ab e (λY=>evE U Y c))(ht : ∀ Y r,top Y c r=r)(hc:Gv e=Ab):OkE U CL W X e c:=
 ⟨h.se,by simp only[ht];exact h.se.st,λ_=>h,λz=>absurd z (by rw[hc];decide)⟩
theorem Xf(hc:X.calm=Ab)(h:Pcs X CL W e (λY=>evE U Y c))(ht : ∀ Y r,top Y c r=r):OkE U CL W X e c:=
 ⟨(h.sc hc).se,by simp only[ht];exact(h.sc hc).se.st,λ_=>h.sc hc,λ_=>h⟩
end
theorem XY{k:Ki}(h:KI k=Aa x) : ∃ T,tyK k=Aa T/\B9 x=Aa (.type T):=by
 cases k <;> simp only[KI]at h <;> cases h
 .exact⟨_,rfl,PyProof.Rows.boot_int⟩
 .exact⟨_,rfl,PyProof.Rows.boot_bool⟩
 .exact⟨_,rfl,PyProof.Rows.boot_str⟩
 .exact⟨_,rfl,Pp⟩
 .exact⟨_,rfl,Pq⟩
structure Snd (U:Gam) (CL:ClA) (k:Ae) (n:Ae):Prop where
 e : ∀(W:XW)(T:Tc)(X:Cx)(x:Ak)(c:E),VX U CL k W T X->A7 n T x c=Ab->OkE U CL W X x c
 b : ∀(W:XW)(T:Tc)(X:Cx)(x:Ak)(c:E),VX U CL k W T X->Fp n T x c=Ab->SB X CL W x (λY=>(top Y c (evE U Y c)).bind Bt)
 bs : ∀(W:XW)(T:Tc)(X:Cx)(xs:Ad Ak)(es:Es)(pos:Az),VX U CL k W T X->chkBs n T xs es=Ab->xs≠[]->SW X CL W (.BoolOp .And xs pos) (λY=>(evN U Y es).bind Bt)/\SW X CL W (.BoolOp .Or xs pos) (λY=>(evO U Y es).bind Bt)
 es : ∀(W:XW)(T:Tc)(X:Cx)(xs:Ad Ak)(es:Es),VX U CL k W T X->chkEs n T xs es=Ab->SA X CL W xs (λY=>evA U Y es)/\SAT X CL W xs (λY=>evB U Y es)/\xs.length=es.len/\(∀ pos,xs≠[]->SE X CL W (.BoolOp .And xs pos) (λY=>evN U Y es)/\SE X CL W (.BoolOp .Or xs pos) (λY=>evO U Y es))/\(∀ pos,(Bk pos (Ap xs X.env)).any (·.1)=Ac)
 o : ∀(W:XW)(T:Tc)(X:Cx)(x:An Ak)(c:E),VX U CL k W T X->OD n T x c=Ab->SO X CL W x (λY=>(top Y c (evE U Y c)).bind (slE c))
 t : ∀(T:Tc)(X:Cx)(xs:Ad Ak)(c:E),VX U CL k W0 T X->chkT n T xs c=Ab->STs X CL xs (λY=>(top Y c (evE U Y c)).bind Bt)
 i : ∀(W:XW)(T:Tc)(X:Cx)(tu:Aj)(tg x:Ak)(i:I),VX U CL k W T X->Og tu tg=Ab->chkI n T tu x i=Ab->SI X CL W tg x (λY=>evI U Y i)
section
variable{U:Gam}{CL:ClA}{W:XW}{k n:Ae}{T:Tc}{X:Cx}
theorem RK:Snd U CL k 0:=⟨λ_ _ _ _ _ _ h=>noF h,λ_ _ _ _ _ _ h=>noF h,λ_ _ _ _ _ _ _ h=>noF h,λ_ _ _ _ _ _ h=>noF h,λ_ _ _ _ _ _ h=>noF h,λ_ _ _ _ _ h=>noF h,λ_ _ _ _ _ _ _ _ _ h=>noF h⟩
theorem Ls{x:Ak}(h:CK x=Ab)(hx:(Bk pos (Ap xs env)).any (·.1)=Ac):(Bk pos (Ap (x::xs) env)).any (·.1)=Ac:=by
 rw[CF h];show (Ac||(Bk pos (Ap xs env)).any (·.1))=Ac;rw[hx];rfl
theorem VC(S:Snd U CL k n)(W:XW)(T:Tc)(X:Cx)(xs:Ad Ak)(es:Es)(v:VX U CL k W T X)(h:chkEs (n+1) T xs es=Ab):SA X CL W xs (λY=>evA U Y es)/\SAT X CL W xs (λY=>evB U Y es)/\xs.length=es.len/\(∀ pos,xs≠[]->SE X CL W (.BoolOp .And xs pos) (λY=>evN U Y es)/\SE X CL W (.BoolOp .Or xs pos) (λY=>evO U Y es))/\(∀ pos,(Bk pos (Ap xs X.env)).any (·.1)=Ac):=by
 cases xs with
 |nil=>
  cases es with
  |nil=>exact⟨M7,SU,rfl,λ_ z=>absurd rfl z,λ_=>rfl⟩
  |cons=>exact noF h
 |cons x xs=>
  cases es with
  |nil=>exact noF h
  |cons e es=>
   replace h:(CK x&&A7 n T x e&&chkEs n T xs es)=Ab:=h;simp only[Al]at h;obtain⟨⟨h0,h1⟩,h2⟩:=h;have he:=S.e W T X x e v h1;obtain⟨a1,a2,a3,a4,a5⟩:=S.es W T X xs es v h2;refine⟨MF he.se a1 (CF h0),RN he.st a2 (CF h0),congrArg (· + 1) a3,λpos _ => ?_,λpos=>Ls h0 (a5 pos)⟩
   cases xs with
   |nil=>
    cases es with
    |nil=>exact⟨Kg he.se,Kg he.se⟩
    |cons=>cases a3
   |cons y ys=>
    cases es with
    |nil=>cases a3
    |cons e' es'=>
     obtain⟨b1,b2⟩:=a4 pos (by simp)
     exact⟨M6 he.se b1,WG he.se b2⟩
theorem WT(S:Snd U CL k n)(W:XW)(T:Tc)(X:Cx)(x:An Ak)(c:E)(v:VX U CL k W T X)(h:OD (n+1) T x c=Ab):SO X CL W x (λY=>(top Y c (evE U Y c)).bind (slE c)):=by
 cases x with
 |none=>
  obtain rfl:=Sq h;exact SL
 |some x=>
  replace h:(!(IU c)&&A7 n T x c)=Ab:=h;rw[Al]at h;have q:=SK (S.e W T X x c v h.2).st;have e:slE c=λd=>(DB d).bind λi => .ok (Aa i):=by
   funext d
   cases c <;> first|rfl|exact absurd (show Ac=Ab from h.1) Aq
  rw[e];exact q
theorem WR(S:Snd U CL k n)(T:Tc)(X:Cx)(xs:Ad Ak)(c:E)(v:VX U CL k W0 T X)(h:chkT (n+1) T xs c=Ab):STs X CL xs (λY=>(top Y c (evE U Y c)).bind Bt):=by
 cases xs with
 |nil=>
  replace h:=TW h;obtain⟨b,rfl,h⟩:=h;subst h;exact Tf
 |cons x xs=>
  replace h:(xs.isEmpty&&Fp n T x c)=Ab:=h;rw[Al]at h;obtain rfl:=Fk h.1;exact Te (S.b W0 T X x c v h.2)
theorem WU(S:Snd U CL k n)(W:XW)(T:Tc)(X:Cx)(tu:Aj)(tg x:Ak)(i:I)(v:VX U CL k W T X)(ht':Og tu tg=Ab)(h:chkI (n+1) T tu x i=Ab):SI X CL W tg x (λY=>evI U Y i):=by
 have ht:tu=Ab->X2 tg=Ab:=λz=>by
  subst z;cases tg <;> first|rfl|cases ht'
 cases i with
 |e a=>
  exact Yi (S.e W T X x a v h).se
 |rng a=>
  replace h:=GV h;obtain⟨g,pp,l,qq,rfl,h⟩:=h;replace h:=DY h;obtain⟨y,rfl,h⟩:=h;simp only[Al,AH]at h;obtain⟨⟨⟨rfl,h1⟩,h2⟩,h3⟩:=h;obtain⟨g1,g2,_,_⟩:=FL v h1;exact VJ (S.e W T X _ a v h3).st g1 g2 (CF h2)
 |rng2 a b=>
  replace h:=GV h;obtain⟨g,pp,l,qq,rfl,h⟩:=h;replace h:=GU h;obtain⟨y,z,rfl,h⟩:=h;simp only[Al,AH]at h;obtain⟨⟨⟨⟨⟨rfl,h1⟩,h2⟩,h3⟩,h4⟩,h5⟩:=h;obtain⟨g1,g2,_,_⟩:=FL v h1;exact SM (S.e W T X _ a v h4).st (S.e W T X _ b v h5).st g1 g2 (by rw[CF h2,CF h3];rfl) (by rw[CF h3];rfl)
 |zip a b=>exact absurd (show Ac=Ab from h) Aq
 |zip3 a b c=>exact absurd (show Ac=Ab from h) Aq
 |enm a=>exact absurd (show Ac=Ab from h) Aq
theorem GW{c:Prop}[D7 c]{b:Aj}:(if c then R.ok (D.bl b) else .bad) = .bad \/ ∃ b',(if c then R.ok (D.bl b) else .bad) = .ok (.bl b'):=by
 by_cases h:c
 .rw[AX h];exact .inr ⟨_,rfl⟩
 .rw[A8 h];exact .inl rfl
theorem Mn(op:Ch)(d d':D):Bu op d d' = .bad \/ ∃ b,Bu op d d' = .ok (.bl b):=by
 cases op with
 |Eq=>exact GW
 |NotEq=>exact GW
 |In=>
  cases d' with
  |lst ys=>exact GW
  |tup ys=>exact GW
  |dic kvs=>
   show (match Ge d with|some k=>R.ok (D.bl (kvs.any λp=>p.1==k))|none => .bad) = .bad \/ ∃ b,(match Ge d with|some k=>R.ok (D.bl (kvs.any λp=>p.1==k))|none => .bad) = .ok (.bl b)
   cases Ge d with
   |some k=>exact .inr ⟨_,rfl⟩
   |none=>exact .inl rfl
  |_=>exact .inl rfl
 |NotIn=>
  cases d' with
  |lst ys=>exact GW
  |tup ys=>exact GW
  |_=>exact .inl rfl
 |Is=>
  cases d' with
  |non=>cases d <;> first|exact .inr ⟨_,rfl⟩|exact .inl rfl
  |_=>cases d <;> first|exact .inl rfl|exact .inr ⟨_,rfl⟩
 |IsNot=>
  cases d' with
  |non=>cases d <;> first|exact .inr ⟨_,rfl⟩|exact .inl rfl
  |_=>cases d <;> first|exact .inl rfl|exact .inr ⟨_,rfl⟩
 |_=>
  cases d with
  |int i=>cases d' <;> first|exact .inr ⟨_,rfl⟩|exact .inl rfl
  |_=>exact .inl rfl
theorem M0(op:Ch)(d d':D):(Bu op d d').bind Bt = .bad\/(Bu op d d').bind Bt=(Bu op d d').bind Cz:=by
 rcases Mn op d d' with h|⟨b,h⟩
 .rw[h];exact .inl rfl
 .rw[h];exact .inr rfl
theorem Ws(e e':E)(es:Es):Rf (λY=>(evN U Y (.cons e (.cons e' es))).bind Bt) (λY=>((top Y e (evE U Y e)).bind Bt).bind λc=>if c=Ab then (evN U Y (.cons e' es)).bind Bt else .ok Ac):=λY=>by
 have e0:evN U Y (.cons e (.cons e' es))=(evE U Y e).bind λx=>(Cz x).bind λc=>if c=Ab then evN U Y (.cons e' es) else .ok (.bl Ac):=rfl
 dsimp only;rw[e0];rcases Kn U e Y with z|z <;> dsimp only at z
 .rw[z];exact .inl rfl
 .rw[<-z];cases evE U Y e with
  |bad=>exact .inl rfl
  |exn x=>exact .inr rfl
  |ok d=>
   cases d with
   |bl b=>cases b <;> exact .inr rfl
   |_=>exact .inl rfl
theorem Wr(e e':E)(es:Es):Rf (λY=>(evO U Y (.cons e (.cons e' es))).bind Bt) (λY=>((top Y e (evE U Y e)).bind Bt).bind λc=>if c=Ab then .ok Ab else (evO U Y (.cons e' es)).bind Bt):=λY=>by
 have e0:evO U Y (.cons e (.cons e' es))=(evE U Y e).bind λx=>(Cz x).bind λc=>if c=Ab then .ok (.bl Ab) else evO U Y (.cons e' es):=rfl
 dsimp only;rw[e0];rcases Kn U e Y with z|z <;> dsimp only at z
 .rw[z];exact .inl rfl
 .rw[<-z];cases evE U Y e with
  |bad=>exact .inl rfl
  |exn x=>exact .inr rfl
  |ok d=>
   cases d with
   |bl b=>cases b <;> exact .inr rfl
   |_=>exact .inl rfl
theorem Rf.tru(e:E):Rf (λY=>(evE U Y e).bind Bt) (λY=>(top Y e (evE U Y e)).bind Bt):=λY=>by
 rcases Kn U e Y with z|z <;> dsimp only at z ⊢
 .rw[z];exact .inl rfl
 .rw[<-z];exact .inr rfl
theorem VD(S:Snd U CL k n)(W:XW)(T:Tc)(X:Cx)(xs:Ad Ak)(es:Es)(pos:Az)(v:VX U CL k W T X)(h:chkBs (n+1) T xs es=Ab)(hne:xs≠[]):SW X CL W (.BoolOp .And xs pos) (λY=>(evN U Y es).bind Bt)/\SW X CL W (.BoolOp .Or xs pos) (λY=>(evO U Y es).bind Bt):=by
 cases xs with
 |nil=>exact absurd rfl hne
 |cons x xs=>
  cases es with
  |nil=>exact noF h
  |cons e es=>
   replace h:(Fp n T x e&&chkBs n T xs es)=Ab:=h;simp only[Al]at h;obtain⟨h1,h2⟩:=h;have he:=S.b W T X x e v h1;cases xs with
   |nil=>
    cases es with
    |nil=>exact⟨SW.ref (Td he) (Rf.tru e),SW.ref (Vx he) (Rf.tru e)⟩
    |cons=>
     cases n with
     |zero=>exact absurd (show Ac=Ab from h2) Aq
     |succ n=>exact absurd (show Ac=Ab from h2) Aq
   |cons y ys=>
    cases es with
    |nil=>
     cases n with
     |zero=>exact absurd (show Ac=Ab from h2) Aq
     |succ n=>exact absurd (show Ac=Ab from h2) Aq
    |cons e' es'=>
     obtain⟨b1,b2⟩:=S.bs W T X (y::ys) (.cons e' es') pos v h2 (by simp)
     exact⟨SW.ref (Vy he b1) (Ws e e' es'),SW.ref (WQ he b2) (Wr e e' es')⟩
theorem S5(S:Snd U CL k n){x:Ak}{ops:Ad Ch}{b:BI}(v:VX U CL k W T X)(h:K8 T (A7 n) x ops ys b as=Ab):SB X CL W (.Compare x ops ys pos) (λY=>(top Y (.bi b as) (evE U Y (.bi b as))).bind Bt):=by
 exact absurd (show Ac=Ab from h) Aq
theorem WW(S:Snd U CL k n)(W:XW)(T:Tc)(X:Cx)(x:Ak)(c:E)(v:VX U CL k W T X)(h:Fp (n+1) T x c=Ab):SB X CL W x (λY=>(top Y c (evE U Y c)).bind Bt):=by
 have plain : ∀ e,Ii e=Ab->A7 n T e c=Ab->SB X CL W e (λY=>(top Y c (evE U Y c)).bind Bt):=λe h1 h2=>Vf (S.e W T X e c v h2).st (Ta h1)
 replace h:((G9 x λo x=>decide (o = .Not)&&(Jb c λa=>Fp n T x a))||(Gd x λo xs _=>(decide (o = .And)&&(IR c λes=>chkBs n T xs es && !xs.isEmpty))||(decide (o = .Or)&&(Ja c λes=>chkBs n T xs es && !xs.isEmpty)))||(HF x λx os ys=>(IH c λop a b=>C8 os λop'=>C8 ys λy=>decide (op'=op) && !behindInMarks op y&&A7 n T x a&&A7 n T y b)||(II c λop1 op2 a b c=>FM os λo1 o2=>FM ys λy z=>decide (o1=op1)&&decide (o2=op2) && !lastMarks [op1,op2] [y,z]&&A7 n T x a&&A7 n T y b&&A7 n T z c)||(IP c λb as=>K8 T (A7 n) x os ys b as))||Ii x&&A7 n T x c)=Ab:=h
 replace h:=(orT h).imp_left λz=>(orT z).imp_left orT
 rcases h with ((h|h)|h)|h
 .replace h:=JY h;obtain⟨o,y,p,rfl,h⟩:=h;replace h:=BE h;obtain⟨h0,h⟩:=h;obtain rfl:=AI h0;replace h:=TR h;obtain⟨a,rfl,h⟩:=h
  .skip
   refine SB.ref (Vg (S.b W T X _ a v h)) λY => ?_
   show ((top Y a (evE U Y a)).bind λx=>(Cz x).bind λb => .ok (.bl (!b))).bind Bt = .bad\/((top Y a (evE U Y a)).bind λx=>(Cz x).bind λb => .ok (.bl (!b))).bind Bt=_
   cases top Y a (evE U Y a) with
   |bad=>exact .inl rfl
   |exn x=>exact .inr rfl
   |ok d=>cases d <;> first|exact .inr rfl|exact .inl rfl
 .replace h:=Hn h;obtain⟨o,ys,p,rfl,h⟩:=h;replace h:=orT h;rcases h with h|h
  .replace h:=BE h;obtain⟨h0,h⟩:=h;obtain rfl:=AI h0;replace h:=Sk h;obtain⟨es,rfl,h⟩:=h;simp only[Al,Bg,CA]at h;exact(S.bs W T X _ _ _ v h.1 h.2).1.sb
  .replace h:=BE h;obtain⟨h0,h⟩:=h;obtain rfl:=AI h0;replace h:=TQ h;obtain⟨es,rfl,h⟩:=h;simp only[Al,Bg,CA]at h;exact(S.bs W T X _ _ _ v h.1 h.2).2.sb
 .replace h:=Md h;obtain⟨w,os,ys,p,rfl,h⟩:=h;replace h:=(orT h).imp_left orT;rcases h with (h|h)|h
  .replace h:=Rz h;obtain⟨op,a,b,rfl,h⟩:=h;replace h:=DY h;obtain⟨op',rfl,h⟩:=h;replace h:=DY h;obtain⟨y,rfl,h⟩:=h
   .simp only[Al,Bg,AQ]at h;obtain⟨⟨⟨rfl,h1⟩,h2⟩,h3⟩:=h;refine SB.ref (Vh (Ik v.room.units _) (S.e W T X _ a v h2).st (S.e W T X _ b v h3).st h1) λY => ?_
    show ((top Y a (evE U Y a)).bind λx=>(top Y b (evE U Y b)).bind λy=>Bu op' x y).bind Bt = .bad\/((top Y a (evE U Y a)).bind λx=>(top Y b (evE U Y b)).bind λy=>Bu op' x y).bind Bt=_
    cases top Y a (evE U Y a) with
    |bad=>exact .inl rfl
    |exn x=>exact .inr rfl
    |ok d=>
     cases top Y b (evE U Y b) with
     |bad=>exact .inl rfl
     |exn x=>exact .inr rfl
     |ok d'=>
      dsimp only[R.bind];exact M0 _ d d'
  .replace h:=RA h;obtain⟨op1,op2,a,b,c,rfl,h⟩:=h;replace h:=GU h;obtain⟨o1,o2,rfl,h⟩:=h;replace h:=GU h;obtain⟨y,z,rfl,h⟩:=h
   .simp only[Al,Bg,AQ]at h;obtain⟨⟨⟨⟨⟨rfl,rfl⟩,h1⟩,h2⟩,h3⟩,h4⟩:=h;refine SB.ref (RM v.room.units (S.e W T X _ a v h2).st (S.e W T X _ b v h3).st (S.e W T X _ c v h4).st h1) λY => ?_
    show ((top Y a (evE U Y a)).bind λx=>(top Y b (evE U Y b)).bind λy=>(Bu o1 x y).bind λz=>(Cz z).bind λk=>if k=Ab then (top Y c (evE U Y c)).bind λu=>Bu o2 y u else .ok (.bl Ac)).bind Bt = .bad\/((top Y a (evE U Y a)).bind λx=>(top Y b (evE U Y b)).bind λy=>(Bu o1 x y).bind λz=>(Cz z).bind λk=>if k=Ab then (top Y c (evE U Y c)).bind λu=>Bu o2 y u else .ok (.bl Ac)).bind Bt=_
    cases top Y a (evE U Y a) with
    |bad=>exact .inl rfl
    |exn x=>exact .inr rfl
    |ok d=>
     cases top Y b (evE U Y b) with
     |bad=>exact .inl rfl
     |exn x=>exact .inr rfl
     |ok d'=>
      dsimp only[R.bind];cases Bu o1 d d' with
      |bad=>exact .inl rfl
      |exn x=>exact .inr rfl
      |ok d3=>
       cases d3 with
       |bl k=>
        cases k with
        |false=>exact .inr rfl
        |true=>
         dsimp only[R.bind,Cz];rw[AX rfl,AX rfl];cases top Y c (evE U Y c) with
         |bad=>exact .inl rfl
         |exn x=>exact .inr rfl
         |ok d4=>exact M0 _ d' d4
       |_=>exact .inl rfl
  .replace h:=RB h;obtain⟨b,as,rfl,h⟩:=h;exact S5 S v h
 .exact plain _ (BE h).1 (BE h).2
end
section
variable{U:Gam}{CL:ClA}{W:XW}{k n:Ae}{T:Tc}{X:Cx}
theorem XZ{b:BI}{x:Ak}(v:VX U CL k W T X)(hb:KJ b=Aa g)(hg:isB T g=Ab)(hs:SAT X CL W (x::xs) (λY=>evB U Y as))(h0:CK x=Ab)(hpl : ∀ pos,(Bk pos (Ap xs X.env)).any (·.1)=Ac):OkE U CL W X (.Call (.Name g p) (x::xs) [] pos) (.bi b as):=by
 obtain⟨g1,g2,g3,g4⟩:=FL v hg;cases b <;> simp only[KJ]at hb <;> cases hb
 .exact C9 (No Wp g1 g2 PySem.boot_len hs g3 g4 (CF h0) hpl) (λ_ _=>rfl) rfl rfl
 .exact Nc (VH UT g1 g2 Pp hs g3 g4 (CF h0) hpl) (λ_ _=>rfl) rfl
 .exact C9 (Ve Sg g1 g2 Pq hs g3 g4 (CF h0) hpl) (λ_ _=>rfl) rfl rfl
 .exact C9 (No (Wq v.calm) g1 g2 PyProof.Rows.boot_all hs g3 g4 (CF h0) hpl) (λ_ _=>rfl) rfl rfl
theorem Gw{l:Ad (Ag × Ae)}(h:inX l g c=Ab):(g,c)∈l:=by
 unfold inX at h;simp only[DV,Al,AH]at h;obtain⟨p,hp,rfl,rfl⟩:=h;exact hp
theorem Gq{x:Ak}{es:Es}(h:chkEs n T (x::xs) es=Ab):CK x=Ab /\ ∃ e es',es = .cons e es' /\ ∃ m,n=m+1/\chkEs m T xs es'=Ab:=by
 cases n with
 |zero=>exact noF h
 |succ m=>
  cases es with
  |nil=>exact noF h
  |cons e es=>
   replace h:(CK x&&A7 m T x e&&chkEs m T xs es)=Ab:=h;simp only[Al]at h;exact⟨h.1.1,e,es,rfl,m,rfl,h.2⟩
theorem GP : ∀(m:Ae)(xs:Ad Ak)(es:Es),chkEs m T xs es=Ab -> ∀ pos,(Bk pos (Ap xs X.env)).any (·.1)=Ac:=by
 intro m
 induction m with
 |zero=>intro xs es h;exact noF h
 |succ m ih=>
  intro xs es h pos;cases xs with
  |nil=>rfl
  |cons x xs=>
   obtain⟨h0,e,es',rfl,m',e1,h1⟩:=Gq h;cases e1;exact Ls h0 (ih xs es' h1 pos)
theorem Tz(S:Snd U CL k n){x:Ak}{b:BI}(v:VX U CL k W T X)(h:(match Ji as with|some (s,a)=>G5 x λf l ks cp=>ks.isEmpty&&(Gz f λo m ap=>m==("join" : Ag)&&ap.endLine==cp.line&&(Fl o λc=>decide (c = .str s)&&decide (b = .sjoin)&&(C8 l λy=>CK y&&A7 n T y a)))|none=>Ac)=Ab):OkE U CL W X x (.bi b as):=by
 cases q1:Ji as with
 |none=>rw[q1]at h;cases h
 |some t=>
  obtain⟨s,a⟩:=t;rw[q1]at h;obtain⟨e,te⟩:=UA q1;subst e;replace h:=JC h;obtain⟨f,l,ks,cp,rfl,h⟩:=h;replace h:=BE h;obtain⟨h0,h⟩:=h;obtain rfl:=Fk h0;replace h:=Ih h;obtain⟨o,m,ap,rfl,h⟩:=h;replace h:=BE h;obtain⟨h1,h⟩:=h;replace h1:=BE h1;obtain⟨h1,h2⟩:=h1;obtain rfl:=eq_of_beq h1;replace h:=Go h;obtain⟨c,u,p,rfl,h⟩:=h;replace h:=BE h;obtain⟨h3,h⟩:=h;replace h3:=BE h3;obtain⟨h3,h4⟩:=h3;obtain rfl:=AI h3;obtain rfl:=AI h4;replace h:=DY h;obtain⟨y,rfl,h⟩:=h;replace h:=BE h;obtain⟨h5,h6⟩:=h;refine C9 (SE.congr (SN (S.e W T X _ a v h6).se rfl (by rw[CF h5];rfl) h2 (by rw[CF h5];rfl)) λY => ?_) (λ_ _=>rfl) rfl rfl
  simp only[V3,evB,R.bind_assoc,R.bind_ok,S4,UQ,te]
theorem Vi(S:Snd U CL k n){x:Ak}{b:BI}(v:VX U CL k W T X)(h:(match Lj as with|some a=>(match On x with|some y=>decide (b = .rvs)&&A7 n T y a|none=>Ac)|none=>Ac)=Ab):OkE U CL W X x (.bi b as):=by
 simp[Lj]at h
theorem Vu(S:Snd U CL k n){x:Ak}{b:BI}(v:VX U CL k W T X)(h:(match KY as with|some (a,c)=>(match OG x with|some (y,z,_)=>decide (b = .tlt) && !behindInMarks .Lt z&&A7 n T y a&&A7 n T z c|none=>Ac)|none=>Ac)=Ab):OkE U CL W X x (.bi b as):=by
 simp[KY]at h
theorem V5{x:Ak}{b:BI}(v:VX U CL k W T X)(h:OB T x b as=Ab):OkE U CL W X x (.bi b as):=by
 exact absurd h Aq
theorem VA(S:Snd U CL k n){x:Ak}{b:BI}(v:VX U CL k W T X)(h:(match KZ as with|some (a,k)=>(match Oi x with|some (y,j)=>decide (b = .stp)&&decide (j=k)&&decide (0<=k)&&A7 n T y a|none=>Ac)|none=>Ac)=Ab):OkE U CL W X x (.bi b as):=by
 simp[KZ]at h
theorem Wf(S:Snd U CL k n){x:Ak}{b:BI}(v:VX U CL k W T X)(h:(match KP as with|some (a,c)=>(match OL x with|some (g,h,y,z)=>decide (b = .list)&&g==("list" : Ag)&&h==("range" : Ag)&&isB T g&&isB T h&&CK y&&CK z&&A7 n T y a&&A7 n T z c|none=>Ac)|none=>Ac)=Ab):OkE U CL W X x (.bi b as):=by
 simp[KP]at h
theorem Tw(S:Snd U CL k n){x:Ak}{b:BI}(v:VX U CL k W T X)(h:(match KN as with|some a=>(match Oe x with|some (g,h,y)=>decide (b = .lset)&&g==("len" : Ag)&&h==("set" : Ag)&&isB T g&&isB T h&&CK y&&A7 n T y a|none=>Ac)|none=>Ac)=Ab):OkE U CL W X x (.bi b as):=by
 simp[KN]at h
theorem WV(S:Snd U CL k n)(W:XW)(T:Tc)(X:Cx)(x:Ak)(c:E)(v:VX U CL k W T X)(h:A7 (n+1) T x c=Ab):OkE U CL W X x c:=by
 cases c with
 |non=>
  replace h:=Go h;obtain⟨c,u,p,rfl,h⟩:=h;obtain rfl:=AI h;exact C9 VM (λ_ _=>rfl) rfl rfl
 |bl b=>
  replace h:=Go h;obtain⟨c,u,p,rfl,h⟩:=h;obtain rfl:=AI h;exact C9 NM (λ_ _=>rfl) rfl rfl
 |int i=>
  replace h:=Go h;obtain⟨c,u,p,rfl,h⟩:=h;obtain rfl:=AI h;exact C9 Vb (λ_ _=>rfl) rfl rfl
 |str i=>
  replace h:=Go h;obtain⟨c,u,p,rfl,h⟩:=h;obtain rfl:=AI h;exact C9 Kf (λ_ _=>rfl) rfl rfl
 |var i=>
  replace h:=DX h;obtain⟨y,p,rfl,h⟩:=h;exact⟨VL (Iv v h),GZ (Iv v h),λz=>(nomatch z),λz=>(nomatch z)⟩
 |glob g=>exact absurd (show Ac=Ab from h) Aq
 |bin op a b=>
  replace h:=Mf h;obtain⟨y,op',z,p,rfl,h⟩:=h;simp only[Al,AQ]at h;obtain⟨⟨rfl,h1⟩,h2⟩:=h;have ha:=(S.e W T X _ a v h1).st;have hb:=(S.e W T X _ b v h2).st;refine⟨Kh (JX _) ha hb,(Kh (JX _) ha hb).st,λz => ?_,λz=>nomatch z⟩
  cases op' <;> first|exact VI ha hb|cases z
 |un op a=>exact absurd (show Ac=Ab from h) Aq
 |no a=>
  replace h:=JY h;obtain⟨o,y,p,rfl,h⟩:=h;replace h:=BE h;obtain⟨h0,h⟩:=h;obtain rfl:=AI h0;exact C9 (Nl (S.e W T X _ a v h).st) (λ_ _=>rfl) rfl rfl
 |and es=>
  replace h:=Hn h;obtain⟨o,ys,p,rfl,h⟩:=h;replace h:=BE h;obtain⟨h0,h⟩:=h;obtain rfl:=AI h0;simp only[Al,Bg,CA]at h;exact C9 ((S.es W T X _ es v h.1).2.2.2.1 _ h.2).1 (λ_ _=>rfl) rfl rfl
 |or es=>
  replace h:=Hn h;obtain⟨o,ys,p,rfl,h⟩:=h;replace h:=BE h;obtain⟨h0,h⟩:=h;obtain rfl:=AI h0;simp only[Al,Bg,CA]at h;exact C9 ((S.es W T X _ es v h.1).2.2.2.1 _ h.2).2 (λ_ _=>rfl) rfl rfl
 |cmp op a b=>
  replace h:=Md h;obtain⟨y,os,ys,p,rfl,h⟩:=h;replace h:=DY h;obtain⟨op',rfl,h⟩:=h;replace h:=DY h;obtain⟨z,rfl,h⟩:=h;simp only[Al,Bg,AQ]at h;obtain⟨⟨⟨rfl,h1⟩,h2⟩,h3⟩:=h;exact C9 (Vd (Ik v.room.units _) (S.e W T X _ a v h2).st (S.e W T X _ b v h3).st h1) (λ_ _=>rfl) rfl rfl
 |cmp2 op1 op2 a b c=>exact absurd (show Ac=Ab from h) Aq
 |ite c a b=>exact absurd (show Ac=Ab from h) Aq
 |call f as=>
  replace h:=Hi h;obtain⟨g,pp,y,ys,qq,rfl,h⟩:=h;simp only[Al,DV,AH,AQ]at h;obtain⟨⟨⟨⟨⟨p,hp,⟨rfl,rfl⟩,hl⟩,h900⟩,h1⟩,h2⟩,h3⟩:=h;obtain⟨fa,fd,ps,m1,m2,m3,m4,m5,_⟩:=v.fn p hp;have hlt:p.2.2<1000:=by omega
  rw[EX hlt]at m4 m5;have m5:=m5 hlt;obtain⟨n2,n3,n4⟩:=EJ h2;obtain⟨a1,a2,a3,a4,a5⟩:=S.es W T X _ as v h3;obtain⟨s0,e,es',rfl,m,rfl,s1⟩:=Gq h3;have q:SC X CL W (U.fr p.2.1) (.Call (.Name p.1 pp) (y::ys) [] qq) (λY=>evE U Y (.call p.2.1 (.cons e es'))):=SR (sh:=λY=>Fn Y (.cons e es')) m5 v.room (by unfold glB at h1;show X.env.scope.names.lookup p.1=_;rw[v.sc];exact eq_of_beq h1) m1 m2 m3 v.px a1 a2 (λY z=>Ix U Y _ z) (λY ds z=>by rw[Iu U Y _ _ z,<-a3,hl];rfl) n2 (CF s0) (GP m ys es' s1)
  exact⟨q.se,q.se.st,λz=>by
   have z':U.fr p.2.1=Ab:=z;rw[z']at q;exact q,λz=>nomatch z⟩
 |bi b as=>
  unfold A7 at h;dsimp only at h;simp only[BB]at h;rcases h with ((((((h|h)|h)|h)|h)|h)|h)|h
  .replace h:=Hi h;obtain⟨g,pp,y,ys,qq,rfl,h⟩:=h;simp only[Al,AH]at h;obtain⟨⟨h1,h2⟩,h3⟩:=h;obtain⟨s0,e,es',rfl,m,rfl,s1⟩:=Gq h3;exact XZ v h1 h2 (S.es W T X _ _ v h3).2.1 s0 (GP m _ es' s1)
  .exact V5 v h
  .exact Wf S v h
  .exact VA S v h
  .exact Tw S v h
  .exact Vu S v h
  .exact Tz S v h
  .exact Vi S v h
 |isi a ks=>
  replace h:=orT h;rcases h with h|h
  .skip
   replace h:=DY h;obtain⟨k',rfl,h⟩:=h;replace h:=GV h;obtain⟨g,pp,l,qq,rfl,h⟩:=h;replace h:=GU h;obtain⟨y,t,rfl,h⟩:=h;replace h:=DX h;obtain⟨t,pt,rfl,h⟩:=h;simp only[Al,AH]at h;obtain⟨⟨⟨⟨⟨rfl,h1⟩,h2⟩,h3⟩,h4⟩,h5⟩:=h;obtain⟨g1,g2,_,_⟩:=FL v h1;obtain⟨b1,b2,b3,b4⟩:=FL v h3;obtain⟨ty,t1,t2⟩:=XY h2;exact C9 (Va t1 g1 g2 b1 b2 t2 b3 b4 (S.e W T X _ a v h5).st (CF h4)) (λ_ _=>rfl) rfl rfl
  .replace h:=DY h;obtain⟨k',rfl,h⟩:=h;replace h:=GV h;obtain⟨g,pp,l,qq,rfl,h⟩:=h;replace h:=GU h;obtain⟨y,t,rfl,h⟩:=h;replace h:=DX h;obtain⟨t,pt,rfl,h⟩:=h;simp only[Al,AH]at h;obtain⟨⟨⟨⟨rfl,h1⟩,h4⟩,h5⟩,h6⟩:=h;obtain⟨g1,g2,_,_⟩:=FL v h1;cases k' with
   |verr=>
    replace h6:=BE (a:=t==("ValueError" : Ag)) h6;obtain⟨h6,h7⟩:=h6;obtain rfl:=eq_of_beq h6;obtain⟨b1,b2,_,_⟩:=FL v h7;exact C9 (Nm v.xt.xc g1 g2 b1 b2 (S.e W T X _ a v h5).st (CF h4)) (λ_ _=>rfl) rfl rfl
   |cls c=>
    replace h6:=BE (a:=inX T.exs t c&&glB T t) h6;obtain⟨h6,h8⟩:=h6;replace h6:=BE h6;obtain⟨h6,h7⟩:=h6;obtain⟨C,m1,m3,_⟩:=v.xt.ex _ (Gw h6);obtain⟨n2,_,_⟩:=EJ h8;exact C9 (Nn v.xt.xc g1 g2 (by unfold glB at h7;show X.env.scope.names.lookup _=_;rw[v.sc];exact eq_of_beq h7) m1 m3 n2 (S.e W T X _ a v h5).st (CF h4)) (λ_ _=>rfl) rfl rfl
   |_=>exact noF h6
 |idx a i=>
  replace h:=RY h;obtain⟨y,z,p,rfl,h⟩:=h;simp only[Al]at h;obtain⟨⟨h1,h2⟩,h3⟩:=h;exact C9 (Vc (RL h1) (S.e W T X _ a v h2).st (S.e W T X _ i v h3).st) (λ_ _=>rfl) rfl rfl
 |sl a lo hi=>exact absurd (show Ac=Ab from h) Aq
 |tup es=>
  replace h:=Ig h;obtain⟨ys,cc,p,rfl,h⟩:=h;simp only[Al,AQ]at h;have q:=S.es W T X _ es v h.1;exact C9 (Nk q.1 λY ds z=>by rw[F7 U Y _ _ z,<-q.2.2.1];omega) (λ_ _=>rfl) rfl rfl
 |lst es=>
  replace h:=JA h;obtain⟨ys,p,rfl,h⟩:=h;simp only[Al,AQ]at h;have q:=S.es W T X _ es v h.1;exact Nc (Kt q.1 λY ds z=>by rw[F7 U Y _ _ z,<-q.2.2.1];omega) (λ_ _=>rfl) rfl
 |comp elt t it c=>
  replace h:=TU (e:=x) (F:=_) (by unfold A7 at h;exact h)
  obtain⟨y,tg,it',ifs,scope,p,rfl,h⟩:=h;replace h:=DX h;obtain⟨w,pw,rfl,h⟩:=h;simp only[Al]at h;obtain⟨⟨⟨⟨⟨h1,h2⟩,h3⟩,h4⟩,h5⟩,h6⟩:=h;refine Xf v.calm ⟨_,_,_,_,_,_,_,_,_,_,_,_,_,rfl,(NB v h3).1,S.i W T X Ac _ _ it v rfl h1,UM t,λcl C s H fp=>S6 (v.blk h3) (λz=>AH.mpr z) h4,λcl C s H fp=>S.t _ _ _ c (v.blk h3) h5,λcl C s H fp=>(S.e W0 _ _ _ elt (v.blk h3) h6).se,Ku h2,λY=>rfl⟩ (λ_ _=>rfl)
 |compT elt ts it c=>exact absurd (show Ac=Ab from h) Aq
 |tupI it=>exact absurd (show Ac=Ab from h) Aq
 |dnew=>exact noF h
 |fld o f=>
  replace h:=Ih h;obtain⟨w,g,p,rfl,h⟩:=h;simp only[Al,AH]at h;obtain⟨⟨⟨rfl,h2⟩,h3⟩,h4⟩:=h;exact C9 (ME v.xt.xc (λc C z=>v.xt.nf c C z _ h2) (S.e W T X _ o v h4).st (Vz h3)) (λ_ _=>rfl) rfl rfl
 |mkx c as=>
  replace h:=BE h;obtain⟨h0,h⟩:=h;replace h:=Hi h;obtain⟨g,np,x,xs,cpos,rfl,h⟩:=h;simp only[Al,AQ]at h;obtain⟨⟨⟨⟨h1,h2⟩,h3⟩,h4⟩,h5⟩:=h;obtain⟨C,m1,m2⟩:=v.xt.rz _ (Gw h1);obtain⟨n2,_,_⟩:=EJ h3;obtain⟨s0,e,es',rfl,m,rfl,s1⟩:=Gq h5;have q:=S.es W T X _ _ v h5;exact C9 (WH (v.ex h0) v.room (by unfold glB at h2;show X.env.scope.names.lookup g=_;rw[v.sc];exact eq_of_beq h2) m2 n2 m1 q.1 (λds=>v.xt.made c C ds m1) (CF s0) (GP m xs es' s1 _) (λY ds z=>by rw[F7 U Y _ _ z,<-q.2.2.1,A9];omega)) (λ_ _=>rfl) rfl rfl
theorem snd : ∀ n,Snd U CL k n
 |0=>RK
 |n+1=>⟨WV (snd n),WW (snd n),VD (snd n),VC (snd n),WT (snd n),WR (snd n),WU (snd n)⟩
end
section
variable{U:Gam}{CL:ClA}{W:XW}{k n:Ae}{T:Tc}{X:Cx}
theorem S8{t:Ae}(v:VX U CL k W T X)(hf : ∀ x,X.fn x=Ab)(h:tgC T [t] [x]=Ab):PG X (.Name x pos) (EK t):=by
 unfold tgC at h;simp only[Al,AH]at h;exact Io (by rw[v.N];exact v.nd) (by rw[v.N];exact h.1.1) (by rw[v.sc];exact GR h.1.2) (.inl (hf x))
theorem S9(v:VX U CL k W T X)(hf : ∀ x,X.fn x=Ab) : ∀(ys:Ad Ak)(ts:Ad Ae)(zs:Ad Ag),E5 ys=Aa zs->tgC T ts zs=Ab->PGs X ys (ts.foldr (λt u=>HI (EK t) u) HR)/\ts.length=ys.length:=by
 intro ys
 induction ys with
 |nil=>
  intro ts zs e h;cases e;cases ts with
  |nil=>exact⟨Uq,rfl⟩
  |cons t ts=>cases h
 |cons y r ih=>
  intro ts zs e h;obtain⟨x,p,ws,rfl,e2,rfl⟩:=Lv e;cases ts with
  |nil=>cases h
  |cons t ts=>
   have h':(T.N[t]? == Aa x&&FS T x&&tgC T ts ws)=Ab:=h;simp only[Al,AH]at h';obtain⟨h1,h2⟩:=ih ts ws e2 h'.2;exact⟨RT (Io (by rw[v.N];exact v.nd) (by rw[v.N];exact h'.1.1) (by rw[v.sc];exact GR h'.1.2) (.inl (hf x))) h1 (by rw[LP];rfl),congrArg (· + 1) h2⟩
theorem S7(v:VX U CL k W T X)(hf : ∀ x,X.fn x=Ab)(hn:(E5 ys).isSome=Ab)(h:tgC T ts (tgN ys)=Ab):PG X (.Tuple ys kk pos) (Li X.K ts.length (ts.foldr (λt u=>HI (EK t) u) HR)):=by
 cases e:E5 ys with
 |none=>rw[e]at hn;cases hn
 |some zs=>
  have e2:tgN ys=zs:=by unfold tgN;rw[e];rfl
  rw[e2]at h;obtain⟨h1,h2⟩:=S9 v hf ys ts zs e h;obtain⟨h3,h4,_⟩:=QX (env:=X.env) ys zs e;exact Vt v.calm h1 (by rw[h3,h2]) h4
theorem Q1(ts:Ad Ae) : ∀ d Y x,EI ts d Y ≠ .exn x:=λd Y x h=>by
 unfold EI at h;cases d with
 |tup xs=>
  dsimp only at h;cases e:EG ts xs Y with
  |some r=>rw[e]at h;cases h
  |none=>rw[e]at h;cases h
 |_=>cases h
theorem RG{elt:Ak}{gs:Ad FV}{l:Ae} : ∃ b,Ck (.ListComp elt gs scope pos) (Aa (.Name x pos')) l env=pure b/\(b=Ab->env.scope.names.lookup x=Aa .local):=by
 refine⟨_,rfl,λh => ?_⟩
 simp only[Al,AH]at h;exact h.1.1.2
theorem Kj{v0:Ak}{i:Ae}{e:E}{fr:Aj}(v:VX U CL k W T X)(hf : ∀ x,X.fn x=Ab)(hi:T.N[i]? = Aa x)(hl:FS T x=Ab)(o:OkE U CL W X v0 e)(hfr:fr=Ab->Dm U e=Ab):SAs X CL W fr i (.Assign [.Name x p] v0 pos) (λY=>evE U Y e):=by
 have hN:X.N.Nodup:=by rw[v.N];exact v.nd
 have hi':X.N[i]? = Aa x:=by rw[v.N];exact hi
 have hx:Loc X.env.scope x:=by rw[v.sc];exact GR hl
 have sc:SC X CL W fr v0 (λY=>evE U Y e):=by
  cases fr with
  |false=>exact o.se.sc
  |true=>exact o.nw (hfr rfl)
 cases hc:Gv v0 with
 |true=>exact SC.sas hN hi' hx sc (GS hc) (.inl (hf x))
 |false=>
  obtain⟨tg,iter,elt,ifs,scope,pos2,N',ts,fi,fc,fe,as,g,rfl,B,h2,hGG,hg,ht,he,hs,ef⟩:=o.cp hc;obtain⟨b,hb,hb'⟩:=RG (elt:=elt) (gs:=[⟨tg,iter,ifs,0⟩]) (scope:=scope) (pos:=pos2) (pos':=p) (x:=x) (l:=pos.line) (env:=X.env);cases b with
  |false=>exact SC.sas hN hi' hx sc hb (.inl (hf x))
  |true=>
   have q:=RO (pos2:=pos) v.calm B h2 hGG hg ht he hs hN hi' (hb' rfl) hb;have q':SAs X CL W Ab i (.Assign [.Name x p] (.ListComp elt [⟨tg,iter,ifs,0⟩] scope pos2) pos) (λY=>evE U Y e):=by
    have:(λY=>evE U Y e)=_:=funext ef
    rw[this];exact q
   cases fr with
   |true=>exact q'
   | false=>exact λA=>PS.weak (q' A) λD Z H ⟨hA,Y,gd,z⟩=>⟨hA,Y,gd,by
     dsimp only at z ⊢;cases e0:evE U Y e with
     |ok d=>
      rw[e0]at z;exact λv' H' s' r'=>z v' H' s' ⟨r'.1,λ_=>r'.2 rfl⟩
     |exn y=>rw[e0]at z;exact z
     | bad=>rw[e0]at z;exact z⟩
theorem LN(Y:Rho)(e:E)(h : ∀ i,e ≠ .var i):evS U Y (.ret e)=O.of Y (evE U Y e) λd => .ret d (Dm U e):=by
 have k : ∀ b:Aj,b=Ac->top Y e (evE U Y e)=evE U Y e->(O.of Y (top Y e (evE U Y e)) λd => .ret d (Dm U e||b))=O.of Y (evE U Y e) λd => .ret d (Dm U e):=λb hb ht=>by
  rw[hb,ht];simp only[CQ]
 rw[UP];cases e with
 |var i=>exact absurd rfl (h i)
 |_=>exact k _ rfl rfl
structure DefX (X:Cx):Prop where
 fn : ∀ x,X.fn x=Ab
 ex:X.ex=[]
 st:X.stack=X.env::X.outer
 fm:X.env.frame=Aa X.env.locals
structure SndS (U:Gam) (CL:ClA) (k:Ae) (n:Ae):Prop where
 s : ∀(W:XW)(T:Tc)(X:Cx)(x:AC)(c:S),VX U CL k W T X->DefX X->HQ n T x c=Ab->SS X CL W x (λY=>evS U Y c)
 ss : ∀(W:XW)(T:Tc)(X:Cx)(x:Ad AC)(c:Ss),VX U CL k W T X->DefX X->chkSs n T x c=Ab->SSs X CL W x (λY=>evSs U Y c)
theorem UJ(x y:D)(e:Ex):Gg x y ≠ .exn e:=by
 intro z;cases x with
 |lst xs=>cases y <;> first|exact GY z|cases z
 |tup xs=>cases y <;> first|exact GY z|cases z
 |str x=>
  cases y with
  |int i=>
   have z':(if Ce x.length=Ab then C5 (FP x) i else .bad) = .exn e:=z
   split at z'
   .exact GY z'
   .cases z'
  |_=>cases z
 |dic kvs=>
  have z':(match (Ge y).bind (Kw kvs) with|some d=>R.ok d|none => .bad) = .exn e:=z
  cases h:(Ge y).bind (Kw kvs) with
  |none=>rw[h]at z';cases z'
  |some k=>rw[h]at z';cases z'
 |_=>cases z
theorem MU{i:Ae}{y:Ex}:CG Y i ≠ .exn y:=λz'=>by
 unfold CG at z';split at z' <;> cases z'
theorem Ib(U:Gam)(Y:Rho)(e:E)(h:IY e=Ab)(y:Ex):top Y e (evE U Y e) ≠ .exn y:=by
 cases e with
 |var i=>
  intro z;have z':CG Y i = .exn y:=z;unfold CG at z';split at z' <;> cases z'
 |idx a b=>
  cases a with
  |var i=>
   cases b with
   |int j=>
    intro z;have z':(CG Y i).bind (λx=>Gg x (.int j)) = .exn y:=z
    cases e1:CG Y i with
    |bad=>rw[e1]at z';cases z'
    |exn w=>exact MU e1
    |ok d=>rw[e1]at z';exact UJ _ _ _ z'
   |_=>exact noF h
  |_=>exact noF h
 |bin op a b=>
  have h:(Ol op&&K7 a b)=Ab:=h;rw[Al]at h;obtain⟨h0,h⟩:=h;cases op with
  |Sub=>
   cases a with
   |var i=>
    cases b with
    |int j=>
     intro z;have z':(CG Y i).bind (λx=>Cp .Sub x (.int j)) = .exn y:=z
     cases e1:CG Y i with
     |bad=>rw[e1]at z';cases z'
     |exn w=>exact MU e1
     |ok d=>rw[e1]at z';cases d <;> cases z'
    |_=>exact noF h
   |_=>exact noF h
  |_=>exact absurd (show Ac=Ab from h0) Aq
 |int i=>intro z;cases z
 |bl i=>intro z;cases z
 |str i=>intro z;cases z
 |non=>intro z;cases z
 |_=>cases h
theorem JI(U:Gam)(Y:Rho) : ∀(es:Es),Gc es=Ab -> ∀ y,evB U Y es ≠ .exn y
 |.nil,_,y=>λz=>by cases z
 |.cons e es,h,y=>λz=>by
  unfold Gc at h;rw[Al]at h;rw[J7]at z;cases e1:top Y e (evE U Y e) with
  |bad=>rw[e1]at z;cases z
  |exn w=>exact Ib U Y e h.1 w e1
  |ok d=>
   rw[e1,R.bind_ok]at z;cases e2:evB U Y es with
   |bad=>rw[e2]at z;cases z
   |exn w=>exact JI U Y es h.2 w e2
   |ok ds=>rw[e2]at z;cases z
theorem VX.pw(v:VX U CL k W T X)(own:Dx (model X.prog X.w) X.A X.env Xw):VX U CL k W0 T (Cx.pw X pI Xw):=⟨v.sc,v.kd,v.N,v.nd,v.calm,v.room,v.bl,v.fn,own,Nb,Om,v.xt,v.gl,v.ex⟩
theorem L3(o:O):(o.seq λY'=>O.next Y')=o:=by cases o <;> rfl
theorem STB.congr{st:Ad AC}{f g:Rho->O}(h:STB X CL st f)(e : ∀ Y,g Y=f Y):STB X CL st g:=by
 have:g=f:=funext e;rw[this];exact h
theorem Ng(Sn:Snd U CL k n)(v:VX U CL k W T X)(hf:DefX X){st:AC}{s:S}(h:Iy n T st s=Ab):STB X CL [st] (λY=>evSs U Y (.cons s .nil)) /\ ∀ Y y Y',evSs U Y (.cons s .nil) = .exn y Y'->Y'=Y:=by
 have seq : ∀ Y,evSs U Y (.cons s .nil)=evS U Y s:=λY=>L3 _
 have ofn : ∀{r:R D}{f:D->Rho}{Y Y':Rho}{y:Ex},(O.of Y r λd=>O.next (f d)) = .exn y Y'->Y'=Y:=λ{r f Y Y' y} z=>by
  cases r with
  |ok d=>cases z
  |exn w=>cases z;rfl
  |bad=>cases z
 have call : ∀{e:Ak}{f:Ae}{as:Es},A7 n T e (.call f as)=Ab->Gc as=Ab -> ∃ g pp y ys qq,e = .Call (.Name g pp) (y::ys) [] qq /\ ∃ p∈T.fns,g=p.1/\f=p.2.1/\p.2.2=ys.length+1/\ys.length<900/\glB T g=Ab/\Ek g=Ab /\ ∃ m,n=m+1/\chkEs m T (y::ys) as=Ab:=λ{e f as} h _=>by
  cases n with
  |zero=>exact noF h
  |succ m=>
   replace h:=Hi h;obtain⟨g,pp,y,ys,qq,rfl,h⟩:=h;simp only[Al,DV,AH,AQ]at h;obtain⟨⟨⟨⟨⟨p,hp,⟨e1,e2⟩,hl⟩,h900⟩,h1⟩,h2⟩,h3⟩:=h;exact⟨g,pp,y,ys,qq,rfl,p,hp,e1.symm,e2.symm,hl,h900,h1,h2,m,rfl,h3⟩
 cases s with
 |expr e0=>
  replace h:(G6 e0 λf as=>G8 st λv=>A7 n T v (.call f as)&&Gc as)=Ab:=h
  replace h:=Me h;obtain⟨f,as,rfl,h⟩:=h;replace h:=JB h;obtain⟨v0,pos,rfl,h⟩:=h;rw[Al]at h;obtain⟨g,pp,y,ys,qq,rfl,p,hp,rfl,rfl,hl,h900,h1,h2,m,rfl,h3⟩:=call h.1 h.2;obtain⟨fa,fd,ps,m1,m2,m3,m4,m5,_⟩:=v.fn p hp;have hlt:p.2.2<1000:=by omega
  rw[EX hlt]at m4 m5;have m5:=m5 hlt;obtain⟨n2,n3,n4⟩:=EJ h2;obtain⟨s0,e,es',rfl,m',rfl,s1⟩:=Gq h3;have hlen:ys.length+1=(Es.cons e es').len:=(snd (U:=U) (CL:=CL) (k:=k) (m'+1)).es W T X _ _ v h3 |>.2.2.1;refine⟨STB.congr (RI (X:=X) (fs:=λY=>evA U Y (.cons e es')) (sh:=λY=>Fn Y (.cons e es')) hf.ex m5 v.room (by unfold glB at h1;show X.env.scope.names.lookup p.1=_;rw[v.sc];exact eq_of_beq h1) m1 m2 m3 (λY z=>Ix U Y _ z) (λY ds z=>by rw[Iu U Y _ _ z,<-hlen,hl]) (λY=>JI U Y _ h.2) n2 (CF s0) (GP m' ys es' s1) (λpI Xw own=>by
   obtain⟨a1,a2,_⟩:=(snd (U:=U) (CL:=CL) (k:=k) (m'+1)).es W0 T (Cx.pw X pI Xw) _ _ (v.pw own) h3;exact⟨a1,a2⟩) (GS rfl)) λY=>seq Y,λY y Y' z => ?_⟩
  rw[seq]at z;exact ofn (f:=λ_=>Y) z
 |asg i b0 e0=>
  replace h:(!b0&&(G6 e0 λf as=>HG st λy v=>T.N[i]? == Aa y&&FS T y&&A7 n T v (.call f as)&&Gc as))=Ab:=h
  replace h:=BE h;obtain⟨hb,h⟩:=h;cases b0 with
  |true=>exact absurd (show Ac=Ab from hb) Aq
  |false=>
  replace h:=Me h;obtain⟨f,as,rfl,h⟩:=h;replace h:=JD h;obtain⟨y0,p0,v0,pos,rfl,h⟩:=h;simp only[Al,AH]at h;obtain⟨⟨⟨i1,i2⟩,hc⟩,hsim⟩:=h;obtain⟨g,pp,y,ys,qq,rfl,p,hp,rfl,rfl,hl,h900,h1,h2,m,rfl,h3⟩:=call hc hsim;obtain⟨fa,fd,ps,m1,m2,m3,m4,m5,_⟩:=v.fn p hp;have hlt:p.2.2<1000:=by omega
  rw[EX hlt]at m4 m5;have m5:=m5 hlt;obtain⟨n2,n3,n4⟩:=EJ h2;obtain⟨s0,e,es',rfl,m',rfl,s1⟩:=Gq h3;have hlen:ys.length+1=(Es.cons e es').len:=(snd (U:=U) (CL:=CL) (k:=k) (m'+1)).es W T X _ _ v h3 |>.2.2.1;refine⟨STB.congr (Th (X:=X) (fs:=λY=>evA U Y (.cons e es')) (sh:=λY=>Fn Y (.cons e es')) (i:=i) hf.ex m5 v.room (by unfold glB at h1;show X.env.scope.names.lookup p.1=_;rw[v.sc];exact eq_of_beq h1) m1 m2 m3 (λY z=>Ix U Y _ z) (λY ds z=>by rw[Iu U Y _ _ z,<-hlen,hl]) (λY=>JI U Y _ hsim) n2 (CF s0) (GP m' ys es' s1) (λpI Xw own=>by
   obtain⟨a1,a2,_⟩:=(snd (U:=U) (CL:=CL) (k:=k) (m'+1)).es W0 T (Cx.pw X pI Xw) _ _ (v.pw own) h3;exact⟨a1,a2⟩) (by rw[v.N];exact v.nd) (by rw[v.N];exact i1) (by rw[v.sc];exact GR i2) (.inl (hf.fn _)) (GS rfl)) λY=>seq Y,λY y Y' z => ?_⟩
  rw[seq]at z;exact ofn (f:=λd=>Y.set i (Aa (d,Ac))) z
 |_=>exact noF h
theorem UU(op:Ch)(x y:D)(e:Ex):Bu op x y ≠ .exn e:=λz=>by
 rcases Mn op x y with w|⟨b,w⟩ <;> (rw[w]at z;cases z)
theorem S2(x:D)(e:Ex):Bt x ≠ .exn e:=by
 unfold Bt;split <;> first|(intro z;cases z;done)|(split <;> intro z <;> cases z)
theorem Mr(U:Gam)(Y:Rho)(c:E)(h:K6 c=Ab)(y:Ex):(top Y c (evE U Y c)).bind Bt ≠ .exn y:=by
 have key : ∀ e,top Y c (evE U Y c) ≠ .exn e:=by
  cases c with
  |var i=>exact Ib U Y (.var i) rfl
  |cmp op a b=>
   unfold K6 at h;rw[Al]at h;intro e z;have z':((top Y a (evE U Y a)).bind λx=>(top Y b (evE U Y b)).bind λy=>Bu op x y) = .exn e:=by
    have e0:evE U Y (.cmp op a b)=((top Y a (evE U Y a)).bind λx=>(top Y b (evE U Y b)).bind λy=>Bu op x y):=UR U Y op a b
    rw[<-e0];exact z
   cases e1:top Y a (evE U Y a) with
   |bad=>rw[e1]at z';cases z'
   |exn w=>exact Ib U Y a h.1 w e1
   |ok d=>
    rw[e1,R.bind_ok]at z';cases e2:top Y b (evE U Y b) with
    |bad=>rw[e2]at z';cases z'
    |exn w=>exact Ib U Y b h.2 w e2
    |ok d2=>rw[e2,R.bind_ok]at z';exact UU _ _ _ _ z'
  |_=>cases h
 intro z;cases e1:top Y c (evE U Y c) with
 |bad=>rw[e1]at z;cases z
 |exn w=>exact key w e1
 |ok d=>rw[e1,R.bind_ok]at z;exact S2 _ _ z
theorem WI(Sn:Snd U CL k n)(v:VX U CL k W T X)(hf:DefX X) : ∀(m:Ae){st:AC}{s:S},IK m n T st s=Ab->STB X CL [st] (λY=>evSs U Y (.cons s .nil)) /\ ∀ Y y Y',evSs U Y (.cons s .nil) = .exn y Y'->Y'=Y:=by
 intro m
 induction m with
 |zero=>intro st s h;exact Ng Sn v hf h
 |succ m ih=>
  intro st s h;replace h:=orT (a:=Iy n T st s) (b:=NA (IK m n T) n T st s) h;rcases h with h|h
  .exact Ng Sn v hf h
  .cases s with
   |ife c a b=>
    replace h:=Mw h;obtain⟨a,rfl,h⟩:=h;replace h:=Mw h;obtain⟨b,rfl,h⟩:=h;replace h:=ML h;obtain⟨t,xs,ys,pos,rfl,h⟩:=h;replace h:=DY h;obtain⟨xs,rfl,h⟩:=h;replace h:=DY h;obtain⟨ys,rfl,h⟩:=h;simp only[Al]at h;obtain⟨⟨⟨h1,h2⟩,h3⟩,h4⟩:=h;obtain⟨a1,a2⟩:=ih h3;obtain⟨b1,b2⟩:=ih h4;have ev : ∀ Y,evSs U Y (.cons (.ife c (.cons a .nil) (.cons b .nil)) .nil)=O.of Y ((top Y c (evE U Y c)).bind Bt) λk=>if k=Ab then evSs U Y (.cons a .nil) else evSs U Y (.cons b .nil):=λY=>L3 _
    refine⟨STB.congr (Tg (λpI Xw own=>(Sn.b W0 T (Cx.pw X pI Xw) _ _ (v.pw own) h1)) (λY y=>Mr U Y c h2 y) a1 b1) λY=>ev Y,λY y Y' z => ?_⟩
    rw[ev]at z;cases e1:(top Y c (evE U Y c)).bind Bt with
    |bad=>rw[e1]at z;cases z
    |exn w=>exact absurd e1 (Mr U Y c h2 w)
    |ok k=>
     rw[e1,O.of_ok]at z;cases k with
     |true=>exact a2 Y y Y' z
     |false=>exact b2 Y y Y' z
   |_=>exact noF h
theorem Hw{i:Ae}{e:Ai}(v:VX U CL k W T X)(h:isV T x i=Ab):PE (Cx.hot X e) (.Name x pos) (DO i):=by
 unfold isV at h;simp only[Al,AH]at h;obtain⟨h2,h3,_⟩:=EJ h.2;exact IC (by show X.N[i]? = _;rw[v.N];exact h.1.1) (by show Vis X.env.scope x;rw[v.sc];exact MS h.1.2) h2 h3
theorem Nq{x:Ae}{t:Ak}{c:E} : ∀{n:Ae},Fm n T x t c=Ab -> ∀ Y r,top Y c r=r:=λ{n} h=>by
 cases n with
 |zero=>exact noF h
 |succ n=>
  cases c with
  |var i=>exact noF h
  |_=>exact λ_ _=>rfl
theorem Sf(v:VX U CL k W T X)(e:Ai) : ∀(ts:Ad Ak)(ks:Ad Ki),KU T ts ks=Ab -> ∃ cs:Ad (Ae × Ai),ks=cs.map (λq=>Ki.cls q.1)/\cs.length=ts.length/\PA (Cx.hot X e) ts (Oh (cs.map λq:Ae × Ai=>q.2)) /\ ∀ q∈cs,Hz X.K CL U.up q.1 q.2:=by
 intro ts
 induction ts with
 |nil=>
  intro ks h;obtain rfl:=Fk h;exact⟨[],rfl,rfl,EH,λq hq=>nomatch hq⟩
 |cons t ts ih=>
  intro ks h;replace h:=F4 h;obtain⟨kk,ks,rfl,h⟩:=h;replace h:=DX h;obtain⟨t,p,rfl,h⟩:=h;replace h:=BE h;obtain⟨h,h4⟩:=h;cases kk with
  |cls c=>
   replace h:(inX T.exs t c&&glB T t&&Ek t)=Ab:=h;simp only[Al]at h;obtain⟨⟨h1,h2⟩,h3⟩:=h;obtain⟨cs,e1,e2,e3,e4⟩:=ih ks h4;obtain⟨C,m1,m3,_⟩:=v.xt.ex _ (Gw h1);obtain⟨n2,_,_⟩:=EJ h3;refine⟨(c,C)::cs,by rw[e1];rfl,by rw[A9,A9,e2],?_,λq hq => ?_⟩
   .exact Dk (MG (X:=Cx.hot X e) (v := .ref C) (by unfold glB at h2;show X.env.scope.names.lookup t=_;rw[v.sc];exact eq_of_beq h2) m1 rfl n2) e3 rfl
   .rcases AS.mp hq with rfl|hq
    .exact m3
    .exact e4 q hq
  |_=>exact noF h
theorem IW{e:Ai}{f:Ak->E->Aj}(ih : ∀ t c,f t c=Ab->SE (Cx.hot X e) CL W0 t (λY=>evE U Y c)) : ∀(xs:Ad Ak)(es:Es),HJ f xs es=Ab->SA (Cx.hot X e) CL W0 xs (λY=>evA U Y es)/\xs.length=es.len
 |[],.nil,_=>⟨M7,rfl⟩
 |[],.cons _ _,h=>nomatch (show Ac=Ab from h)
 |_::_,.nil,h=>nomatch (show Ac=Ab from h)
 |x::xs,.cons c es,h=>by
  have h:(CK x&&f x c&&HJ f xs es)=Ab:=h;simp only[Al]at h;obtain⟨⟨h1,h2⟩,h3⟩:=h;obtain⟨q,l⟩:=IW ih xs es h3;exact⟨MF (ih x c h2) q (CF h1),by rw[A9,l];rfl⟩
theorem NR(v:VX U CL k W T X)(e:Ai)(x:Ae) : ∀(n:Ae)(t:Ak)(c:E),Fm n T x t c=Ab->SE (Cx.hot X e) CL W0 t (λY=>evE U Y c):=by
 intro n
 induction n with
 |zero=>intro t c h;exact noF h
 |succ n ih=>
  intro t c h;cases c with
  |bl b=>
   replace h:=Go h;obtain⟨k,u,p,rfl,h⟩:=h;obtain rfl:=AI h;exact NM
  |no a=>
   replace h:=JY h;obtain⟨o,y,p,rfl,h⟩:=h;replace h:=BE h;obtain⟨h0,h⟩:=h;obtain rfl:=AI h0;have q:=(ih _ _ h).st;refine SE.congr (Nl q) λY => ?_
   show ((top Y a (evE U Y a)).bind λx=>(Cz x).bind λb=>R.ok (D.bl (!b)))=_
   rw[Nq h]
  |and es=>
   cases es with
   |nil=>exact noF h
   |cons a as=>
    cases as with
    |nil=>
     replace h:=Hn h;obtain⟨o,l,p,rfl,h⟩:=h;replace h:=BE h;obtain⟨h0,h⟩:=h;obtain rfl:=AI h0;replace h:=DY h;obtain⟨y,rfl,h⟩:=h;exact SE.congr (Kg (ih _ _ h)) λY=>rfl
    |cons a' as=>
     replace h:=Hn h;obtain⟨o,l,p,rfl,h⟩:=h;replace h:=BE h;obtain⟨h0,h⟩:=h;obtain rfl:=AI h0;replace h:=F4 h;obtain⟨y,l,rfl,h⟩:=h;replace h:=F4 h;obtain⟨z,zs,rfl,h⟩:=h;exact SE.congr (M6 (ih _ _ (BE h).1) (ih _ _ (BE h).2)) λY=>rfl
  |isi a ks=>
   replace h:=Jz h;obtain⟨i,rfl,h⟩:=h;replace h:=TV h;obtain⟨g,pp,w,pq,u,pr,rfl,h⟩:=h;simp only[Al,AH]at h;obtain⟨⟨⟨⟨rfl,rfl⟩,h3⟩,h4⟩,h⟩:=h;obtain⟨g1,g2,_,_⟩:=FL v h3;replace h:=F4 h;obtain⟨kk,ks,rfl,h⟩:=h;cases kk with
   |verr=>
    replace h:=BE h;obtain⟨h0,h⟩:=h;obtain rfl:=Fk h0;replace h:=DX h;obtain⟨t,pt,rfl,h⟩:=h;simp only[Al,AH]at h;obtain⟨h5,h6⟩:=h;obtain⟨b1,b2,_,_⟩:=FL v h6;rw[h5]at b1 b2 ⊢;exact Nm (X:=Cx.hot X e) v.xt.xc g1 g2 b1 b2 (GZ (Hw v h4)) rfl
   |cls c=>
    cases ks with
    |nil=>
     replace h:=DX h;obtain⟨t,pt,rfl,h⟩:=h;simp only[Al]at h;obtain⟨⟨h5,h6⟩,h7⟩:=h;obtain⟨C,m1,m3,_⟩:=v.xt.ex _ (Gw h5);obtain⟨n2,_,_⟩:=EJ h7;exact Nn (X:=Cx.hot X e) v.xt.xc g1 g2 (by unfold glB at h6;show X.env.scope.names.lookup _=_;rw[v.sc];exact eq_of_beq h6) m1 m3 n2 (GZ (Hw v h4)) rfl
    |cons k2 ks=>
     replace h:=Ig h;obtain⟨ts,z1,z2,rfl,h⟩:=h;replace h:=BE h;obtain⟨h5,h6⟩:=h;obtain⟨cs,e1,e2,e3,e4⟩:=Sf v e _ _ h5;have hne:cs≠[]:=by rintro rfl;cases e1
     rw[e1];exact U_8 (X:=Cx.hot X e) (W:=W0) (up:=U.up) v.xt.xc g1 g2 e3 hne (by rw[e2];exact AI h6) e4 (GZ (Hw v h4)) rfl
   |_=>exact noF h
  |call f as=>exact absurd (show Ac=Ab from h) Aq
  |str s=>
   replace h:=Go h;obtain⟨k,u,p,rfl,h⟩:=h;obtain rfl:=AI h;exact Kf
  |lst es=>
   replace h:=JA h;obtain⟨xs,p,rfl,h⟩:=h;simp only[Al,AQ]at h;obtain⟨q,ql⟩:=IW (ih) _ _ h.1;exact(Kt q λY ds z=>by rw[F7 U Y _ _ z,<-ql];omega).se
  |tup es=>
   replace h:=Ig h;obtain⟨xs,cc,p,rfl,h⟩:=h;simp only[Al,AQ]at h;obtain⟨q,ql⟩:=IW (ih) _ _ h.1;exact Nk q λY ds z=>by rw[F7 U Y _ _ z,<-ql];omega
  |bin op a b=>
   replace h:=BE h;obtain⟨h0,h⟩:=h;obtain rfl:=AI h0;replace h:=Jz h;obtain⟨i,rfl,h⟩:=h;replace h:=Mf h;obtain⟨l,o,y,p,rfl,h⟩:=h;replace h:=BE h;obtain⟨h0,h⟩:=h;obtain rfl:=AI h0;replace h:=DX h;obtain⟨w,pw,rfl,h⟩:=h;replace h:=BE h;obtain⟨h1,h2⟩:=h;refine SE.congr (Kh (JX .Add) (GZ (Hw v h1)) (ih _ _ h2).st) λY => ?_
   show ((CG Y i).bind λx=>(top Y b (evE U Y b)).bind λy=>Cp .Add x y)=_
   rw[Nq h2]
  |fld o f=>
   replace h:=Jz h;obtain⟨i,rfl,h⟩:=h;replace h:=Ih h;obtain⟨w,g,p,rfl,h⟩:=h;replace h:=DX h;obtain⟨w,pw,rfl,h⟩:=h;simp only[Al,AH]at h;obtain⟨⟨⟨rfl,rfl⟩,h3⟩,h4⟩:=h;exact ME (X:=Cx.hot X e) v.xt.xc (λc C z=>v.xt.nf c C z _ h3) (GZ (Hw v h4)) rfl
  |_=>exact noF h
theorem X7(v:VX U CL k W T X)(hf:DefX X)(e:Ai)(x:Ae) : ∀(n:Ae)(sts:Ad AC)(ss:Ss),KW n T x sts ss=Ab->SSs (Cx.hot X e) CL W0 sts (λY=>evSs U Y ss):=by
 intro n
 induction n with
 |zero=>intro t c h;exact noF h
 |succ n ih=>
  intro sts ss0 h;cases ss0 with
  |nil=>
   obtain rfl:=Fk h;exact MV
  |cons s ss0=>
   replace h:=F4 h;obtain⟨st,r,rfl,h⟩:=h;replace h:=BE h;obtain⟨h,h5⟩:=h;cases s with
   |asg i b e0=>
    replace h:=JD h;obtain⟨y,py,v0,pos,rfl,h⟩:=h;simp only[Al,AH]at h;obtain⟨⟨⟨⟨h1,h2⟩,h3⟩,h4⟩,h6⟩:=h;cases b with
    |true=>
     cases e0 with
     |lst es=>
      have sc:SC (Cx.hot X e) CL W0 Ab v0 (λY=>evE U Y (.lst es)):=by
       cases n with
       |zero=>exact absurd (show Ac=Ab from h4) Aq
       |succ n=>
        replace h4:=JA h4;obtain⟨l,pl,rfl,h4⟩:=h4;obtain⟨q,ql⟩:=IW (NR v e x n) _ _ (BE h4).1;have hle:=AI (BE h4).2;exact Kt q λY ds z=>by rw[F7 U Y _ _ z,<-ql];omega
      have q:=JH (MW (SC.sas (X:=Cx.hot X e) (pos:=pos) (pos':=py) (by show X.N.Nodup;rw[v.N];exact v.nd) (by show X.N[i]? = _;rw[v.N];exact h1) (by show Loc X.env.scope _;rw[v.sc];exact GR h2) sc (GS h3) (.inl (hf.fn _)))) (ih _ _ h5)
      have ef:(λY=>evSs U Y (.cons (.asg i Ab (.lst es)) ss0))=λY=>(O.of Y (evE U Y (.lst es)) λd=>setF Y i d).seq λY=>evSs U Y ss0:=by
       funext Y
       show (evS U Y (.asg i Ab (.lst es))).seq _=_;rw[R4];rfl
      rw[ef];exact q
     |_=>exact absurd (show Ac=Ab from h6) Aq
    |false=>
    exact JH (VF (X:=Cx.hot X e) (by show X.N.Nodup;rw[v.N];exact v.nd) (by show X.N[_]? = _;rw[v.N];exact h1) (by show Loc X.env.scope _;rw[v.sc];exact GR h2) (NR v e x n _ _ h4) (GS h3) (.inl (hf.fn _))) (ih _ _ h5)
   |ife c a b=>exact absurd (show Ac=Ab from h) Aq
   |ret e0=>exact absurd (show Ac=Ab from h) Aq
   |app i e0=>exact absurd (show Ac=Ab from h) Aq
   |_=>exact noF h
theorem VV(v:VX U CL k W T X)(h:hdB T g c=Ab):OK X CL U.up g c:=by
 unfold hdB at h;simp only[Al]at h;obtain⟨⟨⟨i1,i0⟩,i2⟩,i3⟩:=h;obtain⟨C,m1,m3,m4⟩:=v.xt.ex _ (Gw i1);obtain⟨C0,r1,r2⟩:=v.xt.rz _ (Gw i0);obtain⟨n2,_,_⟩:=EJ i3;refine⟨C,by unfold glB at i2;show X.env.scope.names.lookup g=_;rw[v.sc];exact eq_of_beq i2,m1,n2,?_,λc' D hD=>m4 c' D hD⟩
 have e0:=m1.symm.trans r2;cases e0;exact v.xt.xc _ _ r1
theorem WS(Z_:SndS U CL k n)(W:XW)(T:Tc)(X:Cx)(st:AC)(c:S)(v:VX U CL k W T X)(hf:DefX X)(h:HQ (n+1) T st c=Ab):SS X CL W st (λY=>evS U Y c):=by
  have E:=snd (U:=U) (CL:=CL) (k:=k) n;cases c with
  |pass=>exact absurd (show Ac=Ab from h) Aq
  |brk=>exact absurd (show Ac=Ab from h) Aq
  |cont=>exact absurd (show Ac=Ab from h) Aq
  |asg i fresh e=>
    replace h:=JD h;obtain⟨x,px,v0,pos,rfl,h⟩:=h;simp only[Al,AH]at h;obtain⟨⟨h1,h2⟩,h3⟩:=h;have o:=E.e W T X _ e v h3;cases fresh with
    |false=>exact Nj (Kj (fr:=Ac) v hf.fn h1 h2 o (λz=>nomatch z))
    |true=>
      cases hn:Dm U e with
      |true=>
        refine SS.ref (MW (Kj (fr:=Ab) v hf.fn h1 h2 o (λ_=>hn))) λY => .inr ?_
        show O.of Y (evE U Y e) (λd=>if Ab=Ab then (if Dm U e=Ab then (match d with
          |.lst xs => .next (Y.set i (Aa (.lst xs,Ab)))
          |.dic xs => .next (Y.set i (Aa (.dic xs,Ab)))
          | _ => .bad) else .bad) else .next (Y.set i (Aa (d,Ac))))=_
        rw[hn];rfl
      |false=>
        refine SS.ref (Nj (Kj (fr:=Ac) v hf.fn h1 h2 o (λz=>nomatch z))) λY => ?_
        have e0:evS U Y (.asg i Ab e)=O.of Y (evE U Y e) (λd=>if Ab=Ab then (if Dm U e=Ab then (match d with
          |.lst xs => .next (Y.set i (Aa (.lst xs,Ab)))
          |.dic xs => .next (Y.set i (Aa (.dic xs,Ab)))
          | _ => .bad) else .bad) else .next (Y.set i (Aa (d,Ac)))):=rfl
        rw[e0,hn];cases evE U Y e with
        |ok d=>exact .inl rfl
        |exn y=>exact .inr rfl
        |bad=>exact .inl rfl
  |asgT ts e=>exact absurd (show Ac=Ab from h) Aq
  |expr e=>
    replace h:=JB h;obtain⟨v0,pos,rfl,h⟩:=h;simp only[Al]at h;exact Tn (E.e W T X _ e v h.2).se (GS h.1)
  |ret e=>
    replace h:=RZ h;obtain⟨o,pos,rfl,h⟩:=h;cases o with
    |none=>exact noF h
    |some v0=>
    replace h:A7 n T v0 e=Ab:=h;have o:=E.e W T X _ e v h;cases hv:Dm U e with
    |true=>
      refine SS.ref (Tl (o.nw hv)) λY => .inr ?_
      rw[LN Y e (λi z=>by subst z;cases hv),hv]
    |false=>
      cases e with
      |var i=>
        cases n with
        |zero=>exact noF h
        |succ n=>
          replace h:=DX h;obtain⟨y,py,rfl,h⟩:=h;exact Tj (Iv v h)
      |_=>
        refine SS.ref (Tk o.se) λY => .inr ?_
        rw[LN Y _ (by intro i z;cases z),hv]
  |retN=>exact absurd (show Ac=Ab from h) Aq
  |ife c a b=>
    replace h:=ML h;obtain⟨t,xs,ys,pos,rfl,h⟩:=h;simp only[Al]at h;exact WX (E.b W T X _ c v h.1.1) (Z_.ss W T X _ a v hf h.1.2) (Z_.ss W T X _ b v hf h.2)
  |fors t it body=>
    replace h:=Mx h;obtain⟨tg,it',xs,ys,pos,rfl,h⟩:=h;replace h:=BE h;obtain⟨hn,h⟩:=h;obtain rfl:=Fk hn;replace h:=DX h;obtain⟨y,py,rfl,h⟩:=h;simp only[Al]at h;obtain⟨⟨⟨h1,h2⟩,h3⟩,h4⟩:=h;exact Ni v.own v.calm (UL t) (S8 v hf.fn h1) (E.i W T X Ac _ _ it v rfl h3) (Z_.ss W T X _ body v hf h4) (Ku h2) (λ_ _ _ z=>nomatch z)
  |forT ts it body=>
    replace h:=Mx h;obtain⟨tg,it',xs,zs,pos,rfl,h⟩:=h;replace h:=BE h;obtain⟨hn,h⟩:=h;obtain rfl:=Fk hn;replace h:=Ig h;obtain⟨ys,cc,py,rfl,h⟩:=h;simp only[Al]at h;obtain⟨⟨⟨⟨h0,h1⟩,h2⟩,h3⟩,h4⟩:=h;exact Ni v.own v.calm (VW ts) (S7 v hf.fn h0 h1) (E.i W T X Ab _ _ it v rfl h3) (Z_.ss W T X _ body v hf h4) (Ku h2) (Q1 ts)
  |whl c body=>exact absurd (show Ac=Ab from h) Aq
  |rais c as=>
    replace h:(!(T.rzs.any λp=>p.2==c)||(IE st λa b=>b.isNone&&(match a with|some e=>G0 e λg x xs=>inX T.rzs g c&&glB T g&&Ek g&&decide (xs.length<=1000)&&chkEs n T (x::xs) as|none=>Ac)))=Ab:=h
    cases hc:T.rzs.any (λp=>p.2==c) with
    |false=>
      have hb : ∀ ds,U.xn c ds = .bad:=v.xt.xb c λp hp z=>by
        have:T.rzs.any (λp=>p.2==c)=Ab:=List.any_eq_true.mpr ⟨p,hp,AH.mpr z⟩
        rw[hc]at this;cases this
      intro Fz B pI s Z H D I ⟨Y,x,p⟩;have p':BA X.K CL Fz B W (O.of Y (noX (evA U Y as)) λxs=>O.of Y (U.xn c xs) λx => .exn x Y) D:=p
      cases e1:evA U Y as with
      |bad=>rw[e1]at p';exact p'.elim
      |exn y=>rw[e1]at p';exact p'.elim
      |ok ds=>
        rw[e1]at p';have p2:BA X.K CL Fz B W (O.of Y (U.xn c ds) λx => .exn x Y) D:=p'
        rw[hb ds]at p2;exact p2.elim
    |true=>
      rw[hc,Bool.not_true,Bool.false_or]at h;replace h:=R0 h;obtain⟨ea,eb,pos,rfl,h⟩:=h;replace h:=BE h;obtain⟨h0,h⟩:=h;obtain rfl:=Option.isNone_iff_eq_none.mp h0;cases ea with
      |none=>exact noF h
      |some e0=>
        replace h:=Hi h;obtain⟨g,np,x,xs,cpos,rfl,h⟩:=h;simp only[Al,AQ]at h;obtain⟨⟨⟨⟨h1,h2⟩,h3⟩,h4⟩,h5⟩:=h;obtain⟨C,m1,m2⟩:=v.xt.rz _ (Gw h1);obtain⟨n2,_,_⟩:=EJ h3;obtain⟨s0,e,es',rfl,m,rfl,s1⟩:=Gq h5;have q:=E.es W T X _ _ v h5;exact Rv v.calm hf.ex v.room v.rz (by unfold glB at h2;show X.env.scope.names.lookup g=_;rw[v.sc];exact eq_of_beq h2) m2 n2 m1 q.1 (λds=>v.xt.made c C ds m1) (CF s0) (GP m xs es' s1) (λY ds z=>by rw[F7 U Y _ _ z,<-q.2.2.1,A9];omega)
  |app i e=>
    replace h:=Rx h;obtain⟨x,px,m,ap,l,cp,pos,rfl,h2,h⟩:=h;replace h:=DY h;obtain⟨v0,rfl,h⟩:=h;simp only[Al,AH]at h;obtain⟨⟨⟨rfl,h1⟩,h3⟩,h4⟩:=h;exact VG (Iv v h1) (E.e W T X _ e v h4).se rfl (by rw[CF h3];rfl) (by rw[h2];exact Da _) (CF h3) rfl
  |ext i e=>exact absurd (show Ac=Ab from h) Aq
  |rev i=>exact absurd (show Ac=Ab from h) Aq
  |clr i=>exact absurd (show Ac=Ab from h) Aq
  |put i k e=>exact absurd (show Ac=Ab from h) Aq
  |tryx body c x hd=>
    cases body with
    |nil=>exact noF h
    |cons b bs=>
      cases bs with
      |cons=>exact noF h
      |nil=>
        unfold HQ at h;dsimp only at h;cases q:K1 st with
        |none=>rw[q]at h;cases h
        |some t=>
          obtain⟨bt,hl,es⟩:=t;rw[q]at h;obtain⟨pos,rfl⟩:=Tt q;cases hl with
          |nil=>exact noF h
          |cons h1 hl=>
            cases hl with
            |cons=>exact noF h
            |nil=>
              cases es with
              |cons=>exact noF h
              |nil=>
                dsimp only at h;cases q1:xHd h1 with
                |none=>rw[q1]at h;cases h
                |some t1=>
                  obtain⟨g,m,h0,hs⟩:=t1;obtain⟨p1,hp,rfl⟩:=Uw q1;rw[q1]at h;simp only[Al,AH]at h;obtain⟨⟨⟨⟨i1,i4⟩,i5⟩,i6⟩,i7⟩:=h;obtain⟨t1,t2⟩:=WI E v hf 6 i6;refine SS.ref (VE (up:=U.up) (c:=c) (i:=x) hf.ex hf.st hf.fm (by rw[v.N];exact v.nd) (by rw[v.N];exact i4) (by rw[v.sc];exact i5) (VV v i1) t1 t2 (λe=>X7 v hf e x n _ _ i7)) λY => .inr ?_
                  rw[Sb];unfold OA;cases evSs U Y (.cons b .nil) <;> rfl
  |try2 body c x hd c' hd' els=>exact absurd (show Ac=Ab from h) Aq
  |swp i k l=>exact absurd (show Ac=Ab from h) Aq
  |apop j i e=>exact absurd (show Ac=Ab from h) Aq
  |ins i k e=>exact absurd (show Ac=Ab from h) Aq
  |dput=>exact noF h
  |dsd=>exact noF h
  |rel=>exact noF h
theorem Sh{c:Ss}(h:Jg c=Ab)(Y:Rho):evSs U Y c = .bad:=by
 cases c with
 |nil=>cases h
 |cons s ss=>
  cases s with
  |expr e=>
   cases e with
   |bi b as=>
    cases as with
    |nil=>
     cases b with
     |len=>rfl
     |_=>exact noF h
    |cons=>cases b <;> exact noF h
   |_=>exact noF h
  |_=>exact noF h
theorem VB(Z_:SndS U CL k n)(W:XW)(T:Tc)(X:Cx)(xs:Ad AC)(c:Ss)(v:VX U CL k W T X)(hf:DefX X)(h:chkSs (n+1) T xs c=Ab):SSs X CL W xs (λY=>evSs U Y c):=by
 by_cases hb:Jg c=Ab
 .exact λFz B pI s Z H D I ⟨Y,x,p⟩=>by
   dsimp only at p;rw[Sh hb]at p;exact p.elim
 have hb:Jg c=Ac:=by simpa using hb
 cases c with
 |nil=>
  simp only[chkSs,hb,CQ,List.isEmpty_iff]at h;subst h;exact MV
 |cons s ss=>
  by_cases hr : ∃ i,s = .rel i
  .obtain⟨i,rfl⟩:=hr;simp only[chkSs,hb,CQ]at h;exact Ti i (Z_.ss W T X xs ss v hf h)
  .cases xs with
   |nil=>cases s <;> first|(simp[chkSs,hb]at h;done)|exact absurd ⟨_,rfl⟩ hr
   |cons st r=>
    have h':HQ n T st s=Ab/\chkSs n T r ss=Ab:=by
     cases s <;> first|(simp only[chkSs,hb,CQ,Al]at h;exact h)|exact absurd ⟨_,rfl⟩ hr
    exact JH (Z_.s W T X st s v hf h'.1) (Z_.ss W T X r ss v hf h'.2)
theorem La : ∀ n,SndS U CL k n
 |0=>⟨λ_ _ _ _ _ _ _ h=>noF h,λ_ _ _ _ _ _ _ h=>noF h⟩
 |n+1=>⟨WS (La n),VB (La n)⟩
end
theorem Hl{n:Ae}{i:Ae}{o:Aj}(h:(C3 n ds)[i]? = Aa (Aa (d,o))):o=Ac/\ds[i]? = Aa d:=by
 unfold C3 at h;by_cases hi:i<ds.length
 .rw[Dp (by simpa using hi),CZ]at h
  cases e:ds[i]? with
  |none=>rw[e]at h;cases h
  |some x=>rw[e]at h;cases h;exact⟨rfl,rfl⟩
 .rw[O5 (by simpa using Nat.le_of_not_lt hi),O6]at h
  split at h <;> cases h
theorem Ru{N:Ad Ag}{vs:Ad V}{i:Ae}{v:V}(h:vs[i]? = Aa v):(L2.start N vs)[i]? = Aa (Aa v):=by
 unfold L2.start;have hi:=(A4.mp h).1;rw[Dp (by simpa using hi),CZ,h]
 rfl
theorem RF{N:Ad Ag}{n:Ae}{vs:Ad V}(hn:N.length=n)(hA:AOk H A)(r:Reps K CL H A vs ds):Sx K CL (λb o=>H b=Aa o) A (C3 n ds) (L2.start N vs) H:=by
 have own : ∀ a,Bm A (C3 n ds) (L2.start N vs) a->A a:=λa h=>by
  rcases h with h|⟨j,d,h,_⟩
  .exact h
  .exact absurd (Hl h).1 (by decide)
 have hlen:(C3 n ds).length=(L2.start N vs).length:=by
  unfold C3 L2.start;simp only[Cf,Cr,O7,r.length,hn]
 refine⟨⟨λi d h => ?_,λi d h=>absurd (Hl h).1 (by decide),hlen⟩,λa h=>hA a (own a h),λj d a h _=>absurd (Hl h).1 (by decide),λi j d e a h _ _ _=>absurd (Hl h).1 (by decide),λb o h=>h,hlen⟩
 obtain⟨v,h1,h2⟩:=r.get (Hl h).2;exact⟨v,Ru h1,Rep.sub own _ h2⟩
structure FunX (K:Fg) (x qual:Ag) (st:AC) (f:Ai) (fd:Bn):Prop where
 ex : ∃(oc:Ah)(od:An Ai)(dV kV doc pm:Ah)(an:An Ai)(cdv ct:Ah)(osl:Bb (An Ah)),
  fd=BL x qual (E6 st) (DA st) (BM st) dV kV doc pm an cdv ct/\K.lookup f=Aa ⟨oc,od,.func fd,osl⟩/\C2 K cdv qual=Ab
 kp:Be K (.ref f)=Ab
theorem NT{st:AC}{f:Ai}(F:Fun K x qual st f fd):FunX K x qual st f fd:=by
 obtain⟨oc,od,kV,doc,pm,an,cdv,ct,osl,e,lk,hcd⟩:=F.ex;exact⟨⟨oc,od,.none,kV,doc,pm,an,cdv,ct,osl,e,lk,hcd⟩,F.kp⟩
noncomputable def Jj(K:Fg)(mg:Ag->An Ah)(fns:Ad (Ag × Ae × Ae))(bl:Ad Ag)(rzs exs gls:Ad (Ag × Ae))(Pg:Prg)(fuel:Ae)(p:Ag × Ae × Ae):Prop := ∃ f fd ps qual st N,mg p.1=Aa (.ref f)/\FunX K p.1 qual st f fd/\Ej K fd ps []/\ps.length=p.2.2%1000/\FQ fuel (Cn 1000 p.2.2) fns bl rzs exs gls ps N st (Pg.defs p.2.1)=Ab
structure Tab (K:Fg) (mg:Ag->An Ah) (CL:ClA) (fns:Ad (Ag × Ae × Ae)) (bl:Ad Ag) (rzs exs gls:Ad (Ag × Ae)) (Pg:Prg) (fuel:Ae):Prop where
 xt:XT Pg.up Pg.xn CL rzs exs K mg
 bln : ∀ x,x∈bl->mg x=Af
 gl : ∀ p∈gls,Ln K mg CL p.1 (Pg.G p.2)
 fn : ∀ p∈fns,Jj K mg fns bl rzs exs gls Pg fuel p
theorem V0(Pg:Prg)(n i:Ae):(gam Pg n).fr i=(Pg.defs i).fr:=by cases n <;> rfl
theorem VZ(Pg:Prg)(n:Ae):(gam Pg n).up=Pg.up:=by cases n <;> rfl
theorem X8(Pg:Prg)(n:Ae):(gam Pg n).G=Pg.G:=by cases n <;> rfl
theorem VY(Pg:Prg)(n:Ae):(gam Pg n).xn=Pg.xn:=by cases n <;> rfl
section
variable{P:AE}{w:Ar}{K:Fg}{mg:Ag->An Ah}{base:Ay}{CL:ClA}{fns:Ad (Ag × Ae × Ae)}{bl:Ad Ag}{rzs exs gls:Ad (Ag × Ae)}{Pg:Prg}{fuel:Ae}
noncomputable def Lvl(P:AE)(w:Ar)(K:Fg)(mg:Ag->An Ah)(base:Ay)(CL:ClA)(Pg:Prg)(n:Ae)(p:Ag × Ae × Ae):Prop := ∃ f fd ps,mg p.1=Aa (.ref f)/\Be K (.ref f)=Ab/\Ej K fd ps []/\ps.length=p.2.2%1000/\(p.2.2<1000->FnOk P w K mg base (CXR P w) n f fd ps (spD K CL (p.2.2%1000) ((gam Pg n).fr p.2.1) ((gam Pg n).F p.2.1)))/\(1000<=p.2.2->HotOk P w K mg base n f fd ps (spH K CL (p.2.2%1000) ((gam Pg n).fr p.2.1) ((gam Pg n).F p.2.1)))
theorem Nx(t:Tab K mg CL fns bl rzs exs gls Pg fuel){n:Ae}(hlv : ∀ q∈fns,Lvl P w K mg base CL Pg n q){st:AC}{f:Ai}{ps N:Ad Ag}{m:Ae}(h2:FunX K x qual st f fd)(h4:ps.length=m)(h5:FQ fuel Ac fns bl rzs exs gls ps N st (Pg.defs id)=Ab):FnOk P w K mg base (CXR P w) (n+1) f fd ps (spD K CL m ((gam Pg (n+1)).fr id) ((gam Pg (n+1)).F id)):=by
  unfold FQ at h5;simp only[Al,AH,Bg,Cm,BB,FU,ne_eq]at h5;obtain⟨⟨⟨⟨⟨⟨⟨⟨c1,c2⟩,c3⟩,c4⟩,c5⟩,c6⟩,c7⟩,c8⟩,c9⟩:=h5;obtain⟨oc,od,dV,kV,doc,pm,an,cdv,ct,osl,rfl,lk,hcd⟩:=h2.ex;refine NZ (N:=N) lk hcd ⟨c1,c2,c3,Hj c4,c5,c6,c7⟩ (λvs H Q E ⟨ds,A,z,_⟩=>z.trans h4.symm) λA outer s H vs Q E hr ⟨ds,B,hl,hA,hreps,hpost⟩ => ?_
  have xt:XT (gam Pg n).up (gam Pg n).xn CL rzs exs K mg:=by rw[VZ,VY];exact t.xt
  have gl : ∀ p∈gls,Ln K mg CL p.1 ((gam Pg n).G p.2):=by rw[X8];exact t.gl
  have key : ∀ W:XW,(∀ x cls dx H',W x H'->D1 K CL H' cls dx x->E cls dx H')->BA K CL (λb o=>H b=Aa o) B W (evSs (gam Pg n) (C3 (Pg.defs id).n ds) (Pg.defs id).body) {nx:=λ_ H'=>Q .non H',rt:=Q} ->
      ∃ t,PSs (D5 (CXR P w) P w K mg base N qual (BM st) f cdv A outer s H E) (DA st) t/\t {nx:=λ_ H'=>Q .non H',rt:=Q} (start N vs) H:=λW hW hp=>by
    have v:VX (gam Pg n) CL n W ⟨BM st,N,fns,bl,rzs,exs,gls,Ab⟩ (D5 (CXR P w) P w K mg base N qual (BM st) f cdv A outer s H E):=⟨rfl,c1,rfl,Hj c4,rfl,hr,t.bln,hlv,Yj,W9 hW,rzR hW,xt,gl,λ_=>rfl⟩
    exact⟨_,(La fuel).ss W _ _ _ (Pg.defs id).body v ⟨λ_=>rfl,rfl,rfl,rfl⟩ c9 (λb o=>H b=Aa o) B,_,RF c8 hA hreps,hp⟩
  have no : ∀ x cls dx H',W0 x H'->D1 K CL H' cls dx x->E cls dx H':=λ_ _ _ _ z=>z.elim
  have e:(gam Pg (n+1)).F id ds=EL Pg.xs ((evSs (gam Pg n) (C3 (Pg.defs id).n ds) (Pg.defs id).body).ans (Pg.defs id).fr):=rfl;rw[e,V0]at hpost;have cutO : ∀ r:R D,(∀ x,r ≠ .exn x)->EL Pg.xs r=r:=λr hr=>by
    cases Pg.xs <;> cases r <;> first|rfl|exact absurd rfl (hr _)
  cases eo:evSs (gam Pg n) (C3 (Pg.defs id).n ds) (Pg.defs id).body with
  |next Y'=>
    refine key W0 no ?_;rw[eo]at hpost ⊢;cases ef:(Pg.defs id).fr with
    |true=>rw[ef]at hpost;rw[cutO _ (by intro x z;cases z)]at hpost;exact hpost.elim
    |false=>
      rw[ef]at hpost;rw[cutO _ (by intro x z;cases z)]at hpost
      exact λZ' H' x'=>hpost .non H' (λb o z=>x'.same b o z) ⟨rfl,λz=>nomatch z⟩
  |ret d b=>
    refine key W0 no ?_;rw[eo]at hpost ⊢;intro v H' sm rp fr;have hp2:(match EL Pg.xs (if ((Pg.defs id).fr&&(!b&&isL d))=Ab then R.bad else R.ok d) with
      |.ok d => ∀ v H',At H H'->CO K CL (Pg.defs id).fr H B H' v d->Q v H'
      |.exn x => ∀ cls dx H',At H H'->D1 K CL H' cls dx x->E cls dx H'
      | .bad=>AT):=hpost
    cases ec:((Pg.defs id).fr&&(!b&&isL d)) with
    |true=>rw[ec,AX rfl,cutO _ (by intro x z;cases z)]at hp2;exact hp2.elim
    |false=>
      rw[ec,A8 (by decide),cutO _ (by intro x z;cases z)]at hp2
      refine hp2 v H' sm ⟨rp,λefr es hd => ?_⟩
      subst hd;have eb:b=Ab:=by
        cases b with
        |true=>rfl
        |false=>rw[efr]at ec;cases ec
      obtain⟨a,xs,h1,h2,h3,h4⟩:=fr eb es rfl;refine⟨a,xs,h1,?_,h3,h4⟩;cases ha:H a with
      |none=>rfl
      |some o=>exact absurd ha (h2 o)
  |brk Y'=>rw[eo]at hpost;have hp2:(match EL Pg.xs (R.bad:R D) with | .ok _=>_ | .exn _=>_ | .bad=>AT):=hpost;rw[cutO _ (by intro x z;cases z)]at hp2;exact hp2.elim
  |cont Y'=>rw[eo]at hpost;have hp2:(match EL Pg.xs (R.bad:R D) with | .ok _=>_ | .exn _=>_ | .bad=>AT):=hpost;rw[cutO _ (by intro x z;cases z)]at hp2;exact hp2.elim
  |bad=>rw[eo]at hpost;have hp2:(match EL Pg.xs (R.bad:R D) with | .ok _=>_ | .exn _=>_ | .bad=>AT):=hpost;rw[cutO _ (by intro x z;cases z)]at hp2;exact hp2.elim
  |exn x Y'=>
    rw[eo]at hpost;have hp2:(match EL Pg.xs (R.exn x:R D) with
      |.ok d => ∀ v H',At H H'->CO K CL (Pg.defs id).fr H B H' v d->Q v H'
      |.exn x => ∀ cls dx H',At H H'->D1 K CL H' cls dx x->E cls dx H'
      | .bad=>AT):=hpost
    cases ex:Pg.xs with
    |false=>rw[ex]at hp2;exact hp2.elim
    |true=>
      rw[ex]at hp2;have hp3 : ∀ cls dx H',At H H'->D1 K CL H' cls dx x->E cls dx H':=hp2;refine key (λy H'=>y=x/\At H H') (λy cls dx H' ⟨e1,sm⟩ xr => ?_) ?_
      · subst e1;exact hp3 cls dx H' sm xr
      · rw[eo];exact λH' sm=>⟨rfl,sm⟩
theorem Wo(t:Tab K mg CL fns bl rzs exs gls Pg fuel){n:Ae}(hlv : ∀ q∈fns,Lvl P w K mg base CL Pg n q){st:AC}{f:Ai}{ps N:Ad Ag}{m:Ae}(h2:FunX K x qual st f fd)(h4:ps.length=m)(h5:FQ fuel Ab fns bl rzs exs gls ps N st (Pg.defs id)=Ab):HotOk P w K mg base (n+1) f fd ps (spH K CL m ((gam Pg (n+1)).fr id) ((gam Pg (n+1)).F id)):=by
 exfalso
 unfold FQ at h5;simp at h5
theorem Ko(t:Tab K mg CL fns bl rzs exs gls Pg fuel) : ∀ n,∀ p∈fns,Lvl P w K mg base CL Pg n p
 |0,p,hp=>by
  obtain⟨f,fd,ps,qual,st,N,h1,h2,h3,h4,h5⟩:=t.fn p hp;exact⟨f,fd,ps,h1,h2.kp,h3,h4,λ_=>⟨λvs H Q E ⟨ds,A,_,_,_,z⟩=>z.elim,λA outer s H args us vs Q E _ _ _ _ ⟨ds,A,_,_,_,z⟩=>z.elim⟩,λ_=>⟨λvs H Q E ⟨ds,A,_,_,_,z⟩=>z.elim,λA ev outer s H args us vs Q E _ _ _ _ ⟨ds,A,_,_,_,z⟩=>z.elim⟩⟩
 |n+1,p,hp=>by
  obtain⟨f,fd,ps,qual,st,N,h1,h2,h3,h4,h5⟩:=t.fn p hp;refine⟨f,fd,ps,h1,h2.kp,h3,h4,λhlt => ?_,λhge => ?_⟩
  .have eb:Cn 1000 p.2.2=Ac:=by
    cases e:Cn 1000 p.2.2 with
    |false=>rfl
    |true=>exact absurd (Cg e) (by omega)
   rw[eb]at h5;exact Nx t (λq hq=>Ko t n q hq) h2 h4 h5
  .rw[Nat.ble_eq_true_of_le hge]at h5;exact Wo t (λq hq=>Ko t n q hq) h2 h4 h5
theorem V4{s s':Am}{e:Ah}(h:CXR P w [] H s (λ_ _ _=>AT) e s'):AT:=by
 obtain⟨_,_,_,_,_,_,_,_,_,_,_,_,_,_,_,z⟩:=h;exact z
noncomputable def Ow:AC->An (Ak × Az)
 |.Expr e p=>Aa (e,p)
 |_=>Af
theorem SY{e:AC}{t:Ak × Az}(h:Ow e=Aa t):e = .Expr t.1 t.2:=by
 cases e with
 |Expr x p=>cases h;rfl
 |_=>exact nomatch (show Af=Aa t from h)
noncomputable def Oy:AC->An (Ak × Ak × Az)
  | .Assign ts v p=>(match ts with
    |[t]=>Aa (t,v,p)
    | _=>Af)
  |_=>Af
theorem S0{e:AC}{t:Ak × Ak × Az}(h:Oy e=Aa t):e = .Assign [t.1] t.2.1 t.2.2:=by
 cases e with
 |Assign ts v p=>
  cases ts with
  |nil=>exact nomatch (show Af=Aa t from h)
  |cons a ts=>
   cases ts with
   |nil=>cases h;rfl
   |cons=>exact nomatch (show Af=Aa t from h)
 |_=>exact nomatch (show Af=Aa t from h)
noncomputable def K3:Ak->An (Ak × Ag × Az)
 |.Attribute e x p=>Aa (e,x,p)
 |_=>Af
theorem MP{e:Ak}{t:Ak × Ag × Az}(h:K3 e=Aa t):e = .Attribute t.1 t.2.1 t.2.2:=by
 cases e with
 |Attribute e x p=>cases h;rfl
 |_=>exact nomatch (show Af=Aa t from h)
noncomputable def Ou:Ak->An (Ad Ak × Az)
 |.JoinedStr l p=>Aa (l,p)
 |_=>Af
theorem SX{e:Ak}{t:Ad Ak × Az}(h:Ou e=Aa t):e = .JoinedStr t.1 t.2:=by
 cases e with
 |JoinedStr l p=>cases h;rfl
 |_=>exact nomatch (show Af=Aa t from h)
noncomputable def K2:Ak->An (Ak × Ao × Az)
  | .FormattedValue e n f p=>(match f with
    |none=>Aa (e,n,p)
    | _=>Af)
  |_=>Af
theorem MO{e:Ak}{t:Ak × Ao × Az}(h:K2 e=Aa t):e = .FormattedValue t.1 t.2.1 Af t.2.2:=by
 cases e with
 |FormattedValue e n f p=>
  cases f with
  |none=>cases h;rfl
  |some=>exact nomatch (show Af=Aa t from h)
 |_=>exact nomatch (show Af=Aa t from h)
noncomputable def Je:Ak->An (Ag × Ae × Az)
  | .Constant c k p=>(match c with
    |.str z=>Aa (z,k,p)
    | _=>Af)
  |_=>Af
theorem J5{e:Ak}{t:Ag × Ae × Az}(h:Je e=Aa t):e = .Constant (.str t.1) t.2.1 t.2.2:=by
 cases e with
 |Constant c k p=>
  cases c with
  |str z=>cases h;rfl
  |_=>exact nomatch (show Af=Aa t from h)
 |_=>exact nomatch (show Af=Aa t from h)
noncomputable def Ot{α:Type}:Ad α->An (α × α × α)
 |[a,b,c]=>Aa (a,b,c)
 |_=>Af
theorem SV{l:Ad α}{t:α × α × α}(h:Ot l=Aa t):l=[t.1,t.2.1,t.2.2]:=by
  match l,h with
  |[a,b,c],h=>cases h;rfl
  |[],h=>cases h
  |[_],h=>cases h
  |[_,_],h=>cases h
  |_::_::_::_::_,h=>cases h
noncomputable def YF(par:Ag)(j:Ad Ak):An Dj:=(Jd j).bind λfk=>(K2 fk.1).bind λfm=>(FO fm.1).bind λq1=>(Je fk.2).bind λz=>if (q1.1==par&&(decide (fm.2.1 = -1)&&Cn z.1.length 1000))=Ab then Aa () else Af
noncomputable def YE(par:Ag)(j:Ad Ak):An Dj:=(Ot j).bind λfk=>(Je fk.1).bind λy=>(K2 fk.2.1).bind λfm=>(FO fm.1).bind λq1=>(Je fk.2.2).bind λz=>if (q1.1==par&&(decide (fm.2.1 = -1)&&(Cn y.1.length 400&&Cn z.1.length 1000)))=Ab then Aa () else Af
noncomputable def fsX(par:Ag)(e:Ak):An Dj:=(Ou e).bind λj=>if ((YF par j.1).isSome||(YE par j.1).isSome)=Ab then Aa () else Af
theorem V2{e:Ak}{u:Dj}(h:fsX par e=Aa u):FsOk par e:=by
 obtain⟨j,e1,h⟩:=Aw.mp h;rw[SX e1];split at h
 .rename_i hc;rcases orT hc with hc|hc
  .obtain⟨_,h⟩:=BS.mp hc;obtain⟨fk,e2,h⟩:=Aw.mp h;obtain⟨fm,e3,h⟩:=Aw.mp h;obtain⟨q1,e4,h⟩:=Aw.mp h;obtain⟨z,e5,h⟩:=Aw.mp h;split at h
   .rename_i hc;simp only[Al,AH,AQ]at hc;obtain⟨c1,c2,c3⟩:=hc;rw[J4 e2,MO e3,Gs e4,J5 e5,c1,c2];exact V1 (Cg c3)
   .cases h
  .obtain⟨_,h⟩:=BS.mp hc;obtain⟨fk,e2,h⟩:=Aw.mp h;obtain⟨y,e6,h⟩:=Aw.mp h;obtain⟨fm,e3,h⟩:=Aw.mp h;obtain⟨q1,e4,h⟩:=Aw.mp h;obtain⟨z,e5,h⟩:=Aw.mp h;split at h
   .rename_i hc;simp only[Al,AH,AQ]at hc;obtain⟨c1,c2,c4,c3⟩:=hc;rw[SV e2,J5 e6,MO e3,Gs e4,J5 e5,c1,c2];exact SJ (Cg c4) (Cg c3)
   .cases h
 .cases h
noncomputable def OO(g par f:Ag)(b:Ad AC):An Dj:=(Jd b).bind λs=>(Ow s.1).bind λc=>(Ox c.1).bind λcl=>(K3 cl.1).bind λat1=>(FO at1.1).bind λg1=>(Jd cl.2.1).bind λab=>(FO ab.1).bind λs1=>(fsX par ab.2).bind λ_=>(Oy s.2).bind λt=>(K3 t.1).bind λat2=>(FO at2.1).bind λs2=>(FO t.2.1).bind λq2=>
 if (g1.1==g&&(at1.2.1==("__init__" : Ag)&&(s1.1==("self" : Ag)&&(s2.1==("self" : Ag)&&(at2.2.1==f&&(q2.1==par&&at1.2.2.endLine==cl.2.2.line))))))=Ab then Aa () else Af
noncomputable def OP(g par f:Ag)(b:Ad AC):Aj:=(OO g par f b).isSome
theorem UI{g par f:Ag}{b:Ad AC}(h:OP g par f b=Ab) : ∃ j np apos p1 cpos p6 p7 p8 p9 p10,b=Lh g par f j np apos p1 cpos p6 p7 p8 p9 p10/\(apos.endLine==cpos.line)=Ab/\FsOk par j:=by
 obtain⟨_,h⟩:=BS.mp (show (OO g par f b).isSome=Ab from h)
 obtain⟨s,e1,h⟩:=Aw.mp h;obtain⟨c,e2,h⟩:=Aw.mp h;obtain⟨cl,e3,h⟩:=Aw.mp h;obtain⟨at1,e4,h⟩:=Aw.mp h;obtain⟨g1,e5,h⟩:=Aw.mp h;obtain⟨ab,e6,h⟩:=Aw.mp h;obtain⟨s1,e7,h⟩:=Aw.mp h;obtain⟨_,e8,h⟩:=Aw.mp h;obtain⟨t,f4,h⟩:=Aw.mp h;obtain⟨at2,f5,h⟩:=Aw.mp h;obtain⟨s2,f6,h⟩:=Aw.mp h;obtain⟨q2,f7,h⟩:=Aw.mp h;split at h
 .rename_i hc;simp only[Al,AH,AQ]at hc;obtain⟨c1,c2,c3,c6,c7,c8,h1⟩:=hc;rw[J4 e1,SY e2,SZ e3,MP e4,Gs e5,J4 e6,Gs e7,S0 f4,MP f5,Gs f6,Gs f7,c1,c2,c3,c6,c7,c8];exact⟨_,_,_,_,_,_,_,_,_,_,rfl,by rw[AH];exact h1,V2 e8⟩
 .cases h
noncomputable def Gf(g par f:Ag)(st:AC):Aj:=
 (BM st).kind==.function&&((BM st).isCoroutine==Ac&&((BM st).isGenerator==Ac&&(G1 ["self",par]&&((BM st).names.lookup ("self" : Ag)==Aa .local&&((BM st).names.lookup par==Aa .local&&(((BM st).names.all λy=>y.2 != .free) &&
  ((BM st).names.lookup g==Aa .globalImplicit&&(g != ("__debug__" : Ag)&&(par != ("__debug__" : Ag)&&(par != ("__classdict__" : Ag)&&OP g par f (DA st)))))))))))
noncomputable def F8(s:AC):AC:=match s with
  |.ClassDef _ _ _ (b::_) _ _ _ _ _ _ _=>b
  |s=>s
noncomputable def InI(K:Fg)(f:Ai)(qual:Ag)(st:AC):Prop := ∃ fd,Fun K "__init__" qual st f fd
theorem ini_mk{st:AC}{f:Ai}{kV doc pm cdv ct:Ah}(l:K.lookup f=Aa ⟨oc,od,.func (BL "__init__" qual (E6 st) (DA st) (BM st) .none kV doc pm an cdv ct),osl⟩)(c:C2 K cdv qual=Ab)(k:Be K (.ref f)=Ab):InI K f qual st:=⟨_,Nt l c k⟩
theorem Nd{fI:Ai}{g par f qual:Ag}{st:AC}(a:InI K fI qual st)(hk:Gf g par f st=Ab)(hb : ∀(u0 u1 kV doc pm:Ah)(an:An Ai)(cdv ct:Ah),E2 (BL "__init__" qual (E6 st) (DA st) (BM st) .none kV doc pm an cdv ct) ⟨[u0,u1],[]⟩=pure ((["self",par]:Ad Ag).zip [u0,u1]))(xc:Cd K C (Aa (.ref fI))=Ab)(dc:D4 K C=Ab)(ty:Co K (.ref fI)=Aa (.type "function"))(mo:mg g=Aa (.ref OV))(s1:B0 K (.ref OV) "__getattribute__" = Aa (Aa (.builtin "type.__getattribute__")))(s2:Dr K OV (.type "type")=Ab)(s3:Dq K (.ref OV) (.type "type") "__init__" = Aa (.val (.builtin "ValueError.__init__")))(hf:Av K (.ref C) f=Aa Af)(hs:Av K (.ref C) "__setattr__" = Aa (Aa (.builtin "object.__setattr__"))):XIn K mg C f:=by
 obtain⟨fd,fn⟩:=a;unfold Gf at hk;simp only[Al,AH,Cm,FU,ne_eq]at hk;obtain⟨c1,c2,c3,c4,c5,c6,c7,c8,c9,c10,c11,c12⟩:=hk;obtain⟨j,np,apos,p1,cpos,p6,p7,p8,p9,p10,eb,hl,hz⟩:=UI c12;exact .mk xc dc fn ty ⟨c1,c2,c3,Hj c4,rfl,λx hx=>by
  rcases AS.mp hx with rfl|hx
  .exact .inl c5
  .rw[Bp.mp hx];exact .inl c6,c7⟩ c5 c6 (fn.binds λkV doc pm an cdv ct us hu=>match us,hu with | [u0,u1],_=>hb u0 u1 kV doc pm an cdv ct) eb c8 mo (by simpa using c9) (by simpa using c10) (by simpa using c11) s1 s2 s3 hl hz hf hs
theorem Xk(h : ∀ ds,xn c ds = .bad\/xn c ds = .ok ⟨c,[]⟩)(e:Cd K C Af=Ab)(ds:Ad D):xn c ds = .bad\/(xn c ds = .ok ⟨c,[]⟩/\Cd K C Af=Ab) \/ ∃ f,XIn K mg C f/\GC xn c f ds:=(h ds).imp id λz => .inl ⟨z,e⟩
theorem Xj{f:Ag}(h : ∀ ds,xn c ds=mkX c f ds)(x:XIn K mg C f)(ds:Ad D):xn c ds = .bad\/(xn c ds = .ok ⟨c,[]⟩/\Cd K C Af=Ab) \/ ∃ f,XIn K mg C f/\GC xn c f ds:=by
  have e:=h ds
  match ds,e with
  |[],e=>exact .inl e
  |_::_::_,e=>exact .inl e
  |[d],e=>
    have e':xn c [d]=if (xfD 1 d||xfD 2 d)=Ab then .ok ⟨c,[(f,d)]⟩ else .bad:=e
    by_cases z:(xfD 1 d||xfD 2 d)=Ab
    · rw[AX z]at e';refine .inr (.inr ⟨f,x,d,?_⟩);rw[BB]at z;rcases z with z|z
      · exact⟨1,rfl,z,by decide,e'⟩
      · exact⟨2,rfl,z,by decide,e'⟩
    · rw[A8 z]at e';exact .inl e'
theorem We{f:Ag}(h : ∀ ds,xn c ds=mkI c f ds)(x:XIn K mg C f)(ds:Ad D):xn c ds = .bad\/(xn c ds = .ok ⟨c,[]⟩/\Cd K C Af=Ab) \/ ∃ f,XIn K mg C f/\GC xn c f ds:=by
  have e:=h ds
  match ds,e with
  |[],e=>exact .inl e
  |_::_::_,e=>exact .inl e
  |[d],e=>
    have e':xn c [d]=if xfD 0 d=Ab then .ok ⟨c,[(f,d)]⟩ else .bad:=e
    by_cases z:xfD 0 d=Ab
    · rw[AX z]at e';exact .inr (.inr ⟨f,x,d,0,rfl,z,by decide,e'⟩)
    · rw[A8 z]at e';exact .inl e'
theorem KH(dc:D4 K C=Ab)(h1:Av K (.ref C) "triple" = Aa Af)(h2:Av K (.ref C) "points" = Aa Af)(h3:Av K (.ref C) "row" = Aa Af)(f:Ag)(h:(f==("triple" : Ag)||(f==("points" : Ag)||f==("row" : Ag)))=Ab):D4 K C=Ab/\Av K (.ref C) f=Aa Af:=by
 rw[BB,BB]at h;rcases h with h|h|h
 .rw[eq_of_beq h];exact⟨dc,h1⟩
 .rw[eq_of_beq h];exact⟨dc,h2⟩
 .rw[eq_of_beq h];exact⟨dc,h3⟩
structure XA (K:Fg) (c:Ag) (x:Ai) (i:An Ah):Prop where
 n:Bj K AV c=Aa (Aa (.ref x))
 y:Cd K x i=Ab
 dc:D4 K x=Ab
 ft:Av K (.ref x) "triple" = Aa Af
 fp:Av K (.ref x) "points" = Aa Af
 fr:Av K (.ref x) "row" = Aa Af
 ok:XcOk K x
theorem xcls_l{x:Ai}(e:FX K x [.type "ValueError",.type "Exception",.type "BaseException",.type "object"] "ValueError.__new__" = Ab):Cd K x Af=Ab:=Tp e
theorem xa_mk{c:Ag}{x:Ai}{i:An Ah}(n:Bj K AV c=Aa (Aa (.ref x)))(e:Cd K x i=Ab)(dc:D4 K x=Ab)(ft:Av K (.ref x) "triple" = Aa Af)(fp:Av K (.ref x) "points" = Aa Af)(fr:Av K (.ref x) "row" = Aa Af)(ga:Av K (.ref x) "__getattribute__" = Aa (Aa (.builtin "BaseException.__getattribute__")))(gt:Av K (.ref x) "__getattr__" = Aa Af)(cl:Av K (.ref x) "__class__" = Aa (Aa (.builtin "object.__class__")))(ob:BW K x (.type "object")=Aa Ab)(be:Bh K (.ref x) (.type "BaseException")=Aa Ab)(sv:Bh K (.ref x) (.type "ValueError")=Aa Ab):XA K c x i:=⟨n,e,dc,ft,fp,fr,Wu e ga gt cl ob be sv⟩
structure XB (K:Fg) (c:Ag) (x i:Ai) (q:Ag) (st:AC):Prop where
 fi:Av K (.ref x) "__init__" = Aa (Aa (.ref i))
 a:XA K c x (Aa (.ref i))
 ii:InI K i q st
 ti:Co K (.ref i)=Aa (.type "function")
 sn:Av K (.ref x) "__setattr__" = Aa (Aa (.builtin "object.__setattr__"))
structure XE (K:Fg) (c:Ag) (x:Ai):Prop where
 n:Bj K AV c=Aa (Aa (.ref x))
 cs:BW K x (.type "object")=Aa Ab
 ty:Co K (.ref x)=Aa (.type "type")
structure XO (K:Fg) (x:Ai):Prop where
 sa:B0 K (.ref x) "__getattribute__" = Aa (Aa (.builtin "type.__getattribute__"))
 sb:Dr K x (.type "type")=Ab
 sc:Dq K (.ref x) (.type "type") "__init__" = Aa (.val (.builtin "ValueError.__init__"))
noncomputable def SuC(K:Fg)(C:Ai)(l:Ad (Ai × Aj)):Prop := ∀ q∈l,Bh K (.ref q.1) (.ref C)=Aa q.2
noncomputable def KC(K:Fg)(C:Ai):Prop := ∀ x i v,Cd K x i=Ab->Bh K (.ref x) (.ref C)=Aa v->BZ K (.ref x) (.ref C)=Aa v
theorem XA.kc{c:Ag}{x:Ai}{i:An Ah}(a:XA K c x i):KC K x:=λ_ _ _ y s=>Tx y a.y s
theorem XE.kc{c:Ag}{x:Ai}(a:XE K c x):KC K x:=λ_ _ _ y s=>So y a.cs a.ty s
noncomputable def clL:Ad (Ae × Ai)->Ae->An Ai
 |[],_=>Af
 |p::r,c=>if Nat.beq c p.1=Ab then Aa p.2 else clL r c
theorem Hy : ∀{l:Ad (Ae × Ai)},clL l c=Aa C->(c,C)∈l:=by
 intro l
 induction l with
 |nil=>intro q;cases q
 |cons p r ih=>
  intro q;obtain⟨n,x⟩:=p;by_cases e:Nat.beq c n=Ab
  .cases Nat.eq_of_beq_eq_true e;cases (show Aa x=Aa C from (AX e).symm.trans q)
   exact AU
  .exact AG _ (ih ((A8 e).symm.trans q))
structure XR (K:Fg) (mg:Ag->An Ah) (xn:Ae->Ad D->R Ex) (p:Ae × Ai):Prop where
 ok:XcOk K p.2
 nf : ∀ f:Ag,(f==("triple" : Ag)||(f==("points" : Ag)||f==("row" : Ag)))=Ab->D4 K p.2=Ab/\Av K (.ref p.2) f=Aa Af
 md : ∀ ds,xn p.1 ds = .bad\/(xn p.1 ds = .ok ⟨p.1,[]⟩/\Cd K p.2 Af=Ab) \/ ∃ f,XIn K mg p.2 f/\GC xn p.1 f ds
theorem XA.row{c:Ag}{x:Ai}(a:XA K c x Af)(h : ∀ ds,xn k ds = .bad\/xn k ds = .ok ⟨k,[]⟩):XR K mg xn (k,x):=⟨a.ok,KH a.dc a.ft a.fp a.fr,Xk h a.y⟩
theorem XB.row{c:Ag}{x i o:Ai}{st:AC}{g par f:Ag}(X:K.In h)(G:h.Ns AV mg)(b:XB K c x i q st)(w:XO K o)(no:Bj K AV g=Aa (Aa (.ref o)))(hf:f = "triple" \/ f = "points")(hk:Gf g par f st=Ab)(hb : ∀(u0 u1 kV doc pm:Ah)(an:An Ai)(cdv ct:Ah),E2 (BL "__init__" q (E6 st) (DA st) (BM st) .none kV doc pm an cdv ct) ⟨[u0,u1],[]⟩=pure ((["self",par]:Ad Ag).zip [u0,u1]))(hx : ∀ ds,xn k ds=mkX k f ds):XR K mg xn (k,x):=
 ⟨b.a.ok,KH b.a.dc b.a.ft b.a.fp b.a.fr,Xj hx (Nd b.ii hk hb b.a.y b.a.dc b.ti (AB X G no) w.sa w.sb w.sc (by rcases hf with rfl|rfl;exact b.a.ft;exact b.a.fp) b.sn)⟩
theorem XB.rowI{c:Ag}{x i o:Ai}{st:AC}(X:K.In h)(G:h.Ns AV mg)(b:XB K c x i q st)(w:XO K o)(no:Bj K AV g=Aa (Aa (.ref o)))(hk:Gf g par "row" st=Ab)(hb : ∀(u0 u1 kV doc pm:Ah)(an:An Ai)(cdv ct:Ah),E2 (BL "__init__" q (E6 st) (DA st) (BM st) .none kV doc pm an cdv ct) ⟨[u0,u1],[]⟩=pure ((["self",par]:Ad Ag).zip [u0,u1]))(hx : ∀ ds,xn k ds=mkI k "row" ds):XR K mg xn (k,x):=
 ⟨b.a.ok,KH b.a.dc b.a.ft b.a.fp b.a.fr,We hx (Nd b.ii hk hb b.a.y b.a.dc b.ti (AB X G no) w.sa w.sb w.sc b.a.fr b.sn)⟩
theorem Wt{l:Ad (Ae × Ai)}{rzs exs:Ad (Ag × Ae)}(r : ∀ p∈l,XR K mg xn p)(rz : ∀ p∈rzs,∃ C,clL l p.2=Aa C/\mg p.1=Aa (.ref C))(ex : ∀ p∈exs,∃ C,mg p.1=Aa (.ref C)/\KC K C/\SuC K C (l.map λq=>(q.2,(up q.1).contains p.2)))(xb : ∀ c,(∀ p∈rzs,p.2≠c) -> ∀ ds,xn c ds = .bad):XT up xn (clL l) rzs exs K mg:=by
 refine⟨λc C q=>(r _ (Hy q)).ok,rz,λp hp => ?_,λc C ds q=>(r _ (Hy q)).md ds,λc C q=>(r _ (Hy q)).nf,xb⟩
 obtain⟨C,e,kc,su⟩:=ex p hp;have s : ∀ c D,clL l c=Aa D->Bh K (.ref D) (.ref C)=Aa ((up c).contains p.2):=λc D q=>su _ (List.mem_map_of_mem (f:=λq:Ae × Ai=>(q.2,(up q.1).contains p.2)) (Hy q))
 exact⟨C,e,λc D q=>let ⟨_,y⟩:=(r _ (Hy q)).ok.exc;kc _ _ _ y (s c D q),s⟩
noncomputable def IT(K:Fg):Sp:=λvs H Q _ => ∃(a:Ai)(ns:Ad Ao),vs=[.ref a]/\ns.length<=63/\SqL K H a (ns.map V.int) /\ ∀ v H',v=V.bl Ab->Q v H'
theorem law_fn{f:Ai}{F:Ad D->R D}(G:FnOk P w K mg base CX k f fd ps (spD K CL 1 Ac F))(h : ∀ ns:Ad Ao,F [.lst (ns.map .int)] = .ok (.bl Ab)):FnOk P w K mg base CX k f fd ps (IT K):=G.imp λvs H Q E ⟨a,ns,e,hl,hS,q⟩=>by
 subst e;have rs : ∀ l:Ad Ao,Reps K CL H A0 (l.map V.int) (l.map D.int):=λl=>by
  induction l with
  |nil=>trivial
  |cons x l ih=>exact⟨rfl,ih⟩
 refine⟨[.lst (ns.map .int)],A0,rfl,λ_ z=>z.elim,⟨⟨a,_,rfl,.inl (λz=>z),hS,rs ns⟩,trivial⟩,?_⟩
 rw[h ns];exact λv H' _ r=>q v H' r.1
theorem all_nil{Q:α->Prop} : ∀ x∈([]:Ad α),Q x:=λ_ h=>nomatch h
theorem all_cons{Q:α->Prop}{a:α}{l:Ad α}(h1:Q a)(h2 : ∀ x∈l,Q x) : ∀ x∈a::l,Q x:=List.forall_mem_cons.2 ⟨h1,h2⟩
noncomputable def FnI(K:Fg)(f:Ai)(n:Ag)(st:AC):Prop := ∃ fd,Fun K n n st f fd/\Bj K AV n=Aa (Aa (.ref f))
theorem fni{n:Ag}{st:AC}{f:Ai}{kV doc pm cdv ct:Ah}(a:Bj K AV n=Aa (Aa (.ref f)))(l:K.lookup f=Aa ⟨oc,od,.func (BL n n (E6 st) (DA st) (BM st) .none kV doc pm an cdv ct),osl⟩)(c:C2 K cdv n=Ab)(k:Be K (.ref f)=Ab):FnI K f n st:=⟨_,Nt l c k,a⟩
noncomputable def Bd(n:Ag)(st:AC)(ps:Ad Ag)(us:Ad Ah):Prop := ∀(kV doc pm:Ah)(an:An Ai)(cdv ct:Ah),E2 (BL n n (E6 st) (DA st) (BM st) .none kV doc pm an cdv ct) ⟨us,[]⟩=pure (ps.zip us)
theorem M8{n:Ag}{f:Ai}{st:AC}{ps N:Ad Ag}(m id:Ae)(X:K.In h)(G:h.Ns AV mg)(A:FnI K f n st)(hl:ps.length=m%1000)(hc:FQ fuel (Cn 1000 m) fns bl rzs exs gls ps N st (Pg.defs id)=Ab)(hb : ∀ us:Ad Ah,us.length=ps.length->Bd n st ps us):Jj K mg fns bl rzs exs gls Pg fuel (n,id,m):=by
 obtain⟨fd,F,a⟩:=A;exact⟨_,_,_,_,_,_,AB X G a,NT F,F.binds λkV doc pm an cdv ct us hu=>hb us hu kV doc pm an cdv ct,hl,hc⟩
theorem OM{l:Ad α}(h:l.length=0):l=[]:=List.eq_nil_of_length_eq_zero h
theorem Lb{l:Ad α}{n:Ae}(h:l.length=n+1) : ∃ a r,l=a::r/\r.length=n:=by
 cases l with
 |nil=>cases h
 |cons a r=>exact⟨a,r,rfl,Nat.succ.inj h⟩
theorem Le{n:Ag}{f:Ai}{st:AC}{N:Ad Ag}(m id:Ae)(X:K.In h)(G:h.Ns AV mg)(A:FnI K f n st)(hl:1=m%1000)(hc:FQ fuel (Cn 1000 m) fns bl rzs exs gls [x0] N st (Pg.defs id)=Ab)(hb : ∀ u0,Bd n st [x0] [u0]):Jj K mg fns bl rzs exs gls Pg fuel (n,id,m):=
 M8 (ps:=[x0]) m id X G A hl hc λus hu=>by obtain⟨u0,v0,rfl,h0⟩:=Lb hu;obtain rfl:=OM h0;exact hb u0
theorem HM{n:Ag}{f:Ai}{st:AC}{N:Ad Ag}{x1:Ag}(m id:Ae)(X:K.In h)(G:h.Ns AV mg)(A:FnI K f n st)(hl:2=m%1000)(hc:FQ fuel (Cn 1000 m) fns bl rzs exs gls [x0,x1] N st (Pg.defs id)=Ab)(hb : ∀ u0 u1,Bd n st [x0,x1] [u0,u1]):Jj K mg fns bl rzs exs gls Pg fuel (n,id,m):=
 M8 (ps:=[x0,x1]) m id X G A hl hc λus hu=>by obtain⟨u0,v0,rfl,h0⟩:=Lb hu;obtain⟨u1,v1,rfl,h1⟩:=Lb h0;obtain rfl:=OM h1;exact hb u0 u1
end
end Ov
section
namespace OvC
open PySem Ov PyProof.Rows
variable{U:Gam}{y:D}
noncomputable def Hk:Df:=⟨2,Ac,(.cons (.asg 0 Ac (.bin .Mod (.var 0) (.bin .Add (.bin .Add (.bin .Mult (.var 1) (.var 1)) (.var 1)) (.int 1)))) (.cons (.ife (.cmp .Eq (.var 0) (.int 0)) (.cons (.ret (.tup (.cons (.int 0) (.cons (.int 0) (.cons (.int 1) .nil))))) .nil) .nil) (.cons (.ife (.cmp .LtE (.var 0) (.var 1)) (.cons (.ret (.tup (.cons (.int 0) (.cons (.int 1) (.cons (.bin .Sub (.var 0) (.int 1)) .nil))))) .nil) .nil) (.cons (.ret (.tup (.cons (.int 1) (.cons (.bin .FloorDiv (.bin .Sub (.bin .Sub (.var 0) (.var 1)) (.int 1)) (.var 1)) (.cons (.bin .Mod (.bin .Sub (.bin .Sub (.var 0) (.var 1)) (.int 1)) (.var 1)) .nil))))) .nil))))⟩
noncomputable def Lp:E:=(.bl Ab)
noncomputable def Lq:E:=(.and (.cons (.isi (.var 2) [.int]) (.cons (.no (.isi (.var 2) [.bool])) .nil)))
noncomputable def Jp:Df:=⟨3,Ac,(.cons (.ife (.or (.cons (.no (.isi (.var 0) [.tuple])) (.cons (.cmp .NotEq (.var 0) (.var 1)) .nil))) (.cons (.ret (.bl Ac)) .nil) .nil) (.cons (.ret (.bi .all (.cons (.comp Lq 2 (.e (.var 0)) Lp) .nil))) .nil))⟩
noncomputable def Jv:Df:=⟨2,Ac,(.cons (.asg 1 Ac (.lst (.cons (.isi (.var 0) [.cls 1]) (.cons (.isi (.var 0) [.cls 2]) (.cons (.isi (.var 0) [.cls 3]) (.cons (.isi (.var 0) [.cls 4]) .nil)))))) (.cons (.asg 1 Ac (.bin .Add (.var 1) (.lst (.cons (.isi (.var 0) [.cls 13]) (.cons (.isi (.var 0) [.cls 5]) (.cons (.isi (.var 0) [.cls 14]) (.cons (.isi (.var 0) [.cls 15]) .nil))))))) (.cons (.asg 1 Ac (.bin .Add (.var 1) (.lst (.cons (.isi (.var 0) [.cls 16]) (.cons (.isi (.var 0) [.cls 12]) (.cons (.isi (.var 0) [.cls 17]) .nil)))))) (.cons (.asg 1 Ac (.bin .Add (.var 1) (.lst (.cons (.isi (.var 0) [.cls 106]) (.cons (.isi (.var 0) [.cls 107]) (.cons (.isi (.var 0) [.cls 108]) (.cons (.isi (.var 0) [.cls 118]) .nil))))))) (.cons (.ret (.bin .Add (.var 1) (.lst (.cons (.and (.cons (.isi (.var 0) [.cls 0]) (.cons (.isi (.var 0) [.verr]) .nil))) .nil)))) .nil)))))⟩
noncomputable def Jx:Df:=⟨2,Ab,(.cons (.asg 1 Ac (.lst (.cons (.call 53 (.cons (.mkx 1 (.cons (.var 0) .nil)) .nil)) (.cons (.call 53 (.cons (.mkx 2 (.cons (.var 0) .nil)) .nil)) (.cons (.call 53 (.cons (.mkx 3 (.cons (.var 0) .nil)) .nil)) .nil))))) (.cons (.asg 1 Ac (.bin .Add (.var 1) (.lst (.cons (.call 53 (.cons (.mkx 4 (.cons (.var 0) .nil)) .nil)) (.cons (.call 53 (.cons (.mkx 13 (.cons (.var 0) .nil)) .nil)) (.cons (.call 53 (.cons (.mkx 5 (.cons (.var 0) .nil)) .nil)) .nil)))))) (.cons (.asg 1 Ac (.bin .Add (.var 1) (.lst (.cons (.call 53 (.cons (.mkx 14 (.cons (.var 0) .nil)) .nil)) (.cons (.call 53 (.cons (.mkx 15 (.cons (.var 0) .nil)) .nil)) (.cons (.call 53 (.cons (.mkx 16 (.cons (.var 0) .nil)) .nil)) .nil)))))) (.cons (.ret (.bin .Add (.var 1) (.lst (.cons (.call 53 (.cons (.mkx 12 (.cons (.var 0) .nil)) .nil)) (.cons (.call 53 (.cons (.mkx 17 (.cons (.var 0) .nil)) .nil)) .nil))))) .nil))))⟩
noncomputable def Lz:E:=(.bl Ab)
noncomputable def Ju:E:=(.call 40 (.cons (.call 3 (.cons (.var 0) (.cons (.bin .Add (.int 3) (.var 6)) .nil))) (.cons (.var 1) .nil)))
noncomputable def Jt:E:=(.bl Ab)
noncomputable def HZ:E:=(.idx (.str (A5 "ab ")) (.bin .Mod (.call 3 (.cons (.var 0) (.cons (.bin .Add (.int 9) (.var 7)) .nil))) (.int 3)))
noncomputable def Ly:E:=(.bl Ab)
noncomputable def QU:E:=(.bl Ab)
noncomputable def QV:E:=(.cmp .In (.var 9) (.tup (.cons (.var 8) (.cons (.int 15) .nil))))
noncomputable def Lr:E:=(.cmp .Eq (.idx (.var 5) (.var 8)) (.comp QV 9 (.rng (.int 16)) QU))
noncomputable def JT:Df:=⟨10,Ac,(.cons (.asg 1 Ac (.call 4 (.cons (.var 0) (.cons (.int 0) .nil)))) (.cons (.asg 2 Ac (.bin .Mod (.call 3 (.cons (.var 0) (.cons (.int 1) .nil))) (.int 31))) (.cons (.asg 3 Ac (.call 40 (.cons (.call 3 (.cons (.var 0) (.cons (.int 2) .nil))) (.cons (.var 1) .nil)))) (.cons (.asg 4 Ac (.bi .tuple (.cons (.comp Ju 6 (.rng (.bin .Add (.int 3) (.bin .Mod (.var 2) (.int 2)))) Lz) .nil))) (.cons (.asg 5 Ab (.call 54 (.cons (.bi .sjoin (.cons (.str (A5 "")) (.cons (.comp HZ 7 (.rng (.var 2)) Jt) .nil))) .nil))) (.cons (.asg 5 Ab (.bin .Add (.var 5) (.lst (.cons (.call 53 (.cons (.mkx 106 (.cons (.var 2) .nil)) .nil)) (.cons (.call 53 (.cons (.mkx 107 (.cons (.var 3) .nil)) .nil)) (.cons (.call 53 (.cons (.mkx 108 (.cons (.var 3) .nil)) .nil)) .nil)))))) (.cons (.app 5 (.call 53 (.cons (.mkx 118 (.cons (.var 4) .nil)) .nil))) (.cons (.ife (.no (.bi .all (.cons (.comp Lr 8 (.rng (.int 15)) Ly) .nil))) (.cons (.ret (.bl Ac)) .nil) .nil) (.cons (.ife (.or (.cons (.cmp .NotEq (.fld (.mkx 106 (.cons (.var 2) .nil)) (A5 "row")) (.var 2)) (.cons (.cmp .NotEq (.fld (.mkx 118 (.cons (.var 4) .nil)) (A5 "points")) (.var 4)) .nil))) (.cons (.ret (.bl Ac)) .nil) .nil) (.cons (.ret (.and (.cons (.call 19 (.cons (.fld (.mkx 107 (.cons (.var 3) .nil)) (A5 "triple")) (.cons (.var 3) .nil))) (.cons (.call 19 (.cons (.fld (.mkx 108 (.cons (.var 3) .nil)) (A5 "triple")) (.cons (.var 3) .nil))) .nil)))) .nil))))))))))⟩
noncomputable def cl9:Ad Ae:=[1,2,3,4,13,5,14,15,16,12,17,106,107,108,118]
noncomputable def so9(c:Ae):Ad D:=(cl9.map λk=>D.bl ([c,0].contains k))++[.bl Ab]
noncomputable def Kc(U:Gam):Prop := ∀(c:Ae)(fs:Ad (Ag × D)),c∈cl9->U.F 53 [.exc c fs] = .ok (.lst (so9 c))
theorem Ua(c:Ae)(fs:Ad (Ag × D))(hu:U.up c=[c,0]):Jv.run U [.exc c fs] = .ok (.lst (so9 c)):=by
 simp[Jv,Df.run,C3,CM,CN,hu,so9,cl9,Ce]
noncomputable def M3(U:Gam):Prop := ∀(m p:Ao),P4 p -> ∃ a b c:Ao,(0<=a/\a<100)/\(0<=b/\b<100)/\(0<=c/\c<100)/\U.F 40 [.int m,.int p] = .ok (.tup [.int a,.int b,.int c])
theorem T8{p:Ao}(U:Gam)(m:Ao)(hp:P4 p) : ∃ a b c:Ao,(0<=a/\a<100)/\(0<=b/\b<100)/\(0<=c/\c<100)/\Hk.run U [.int m,.int p] = .ok (.tup [.int a,.int b,.int c]):=by
 have p0:=hp.pos;have hh:=hp.hi;have m1:FN p p=Ab:=TY (by omega) (by omega)
 have q0:0<p*p+p+1:=by have:=Int.mul_pos p0 p0;omega
 have n0:0<=m%(p*p+p+1):=D9 _ (by omega)
 have n1:m%(p*p+p+1)<p*p+p+1:=Du _ q0;by_cases z:m%(p*p+p+1)=0
 .exact⟨0,0,1,by omega,by omega,by omega,by simp[Hk,Df.run,C3,m1,q0,z]⟩
 .by_cases y:m%(p*p+p+1)<=p
  .exact⟨0,1,m%(p*p+p+1)-1,by omega,by omega,by omega,by simp[Hk,Df.run,C3,m1,q0,z,y]⟩
  .have r0:0<=m%(p*p+p+1)-p-1:=by omega
   have r1:m%(p*p+p+1)-p-1<p*p:=by omega
   have d0':0<=(m%(p*p+p+1)-p-1)/p:=Int.ediv_nonneg r0 (by omega)
   have d1:(m%(p*p+p+1)-p-1)/p<p:=Int.ediv_lt_of_lt_mul p0 r1;have e0:=D9 (m%(p*p+p+1)-p-1) (show p≠0 by omega)
   have e1:=Du (m%(p*p+p+1)-p-1) p0;exact⟨1,(m%(p*p+p+1)-p-1)/p,(m%(p*p+p+1)-p-1)%p,by omega,by omega,by omega,by simp[Hk,Df.run,C3,m1,q0,z,y,p0,show p<1073741824 by omega]⟩
noncomputable def M4(U:Gam):Prop := ∀ a b c:Ao,U.F 19 [.tup [.int a,.int b,.int c],.tup [.int a,.int b,.int c]] = .ok (.bl Ab)
theorem Ub(U:Gam)(a b c:Ao):Jp.run U [.tup [.int a,.int b,.int c],.tup [.int a,.int b,.int c]] = .ok (.bl Ab):=by
 simp[Jp,Df.run,C3,kiD,CN,CM,Lq,Lp,CP,cG,cF,Er,DN,flD,eqD,eqDs]
noncomputable def pl9:Ad Ae:=[1,2,3,4,13,5,14,15,16,12,17]
structure X9 (U:Gam):Prop where
 pl : ∀ c∈pl9,∀ ds,U.xn c ds = .ok ⟨c,[]⟩
 b : ∀ ds,U.xn 106 ds=mkI 106 "row" ds
 a : ∀ ds,U.xn 107 ds=mkX 107 "triple" ds
 n : ∀ ds,U.xn 108 ds=mkX 108 "triple" ds
 o : ∀ ds,U.xn 118 ds=mkX 118 "points" ds
noncomputable def UD(U:Gam):Prop := ∀ t:Ag,U.F 54 [.str t] = .ok (.lst (pl9.map λc => .lst (so9 c)))
theorem Ud(hs:Kc U)(x:X9 U)(t:Ag):Jx.run U [.str t] = .ok (.lst (pl9.map λc => .lst (so9 c))):=by
 have m : ∀ c∈pl9,∀ fs,U.F 53 [.exc c fs] = .ok (.lst (so9 c)):=λc hc fs=>hs c fs (by revert hc;revert c;decide)
 have q : ∀ c∈pl9,evE U [sh (.str t),Af] (.call 53 (.cons (.mkx c (.cons (.var 0) .nil)) .nil)) = .ok (.lst (so9 c)) /\ ∀ y,evE U [sh (.str t),Aa (y,Ac)] (.call 53 (.cons (.mkx c (.cons (.var 0) .nil)) .nil)) = .ok (.lst (so9 c)):=λc hc=>by
  constructor
  .simp[x.pl c hc,m c hc,noX]
  .intro y;simp[x.pl c hc,m c hc,noX]
 have g:=λc hc=>(q c hc).1
 have g':=λc hc=>(q c hc).2
 simp[-Sd,Jx,Df.run,C3,Ce,g 1 (by decide),g 2 (by decide),g 3 (by decide),g' 4 (by decide),g' 13 (by decide),g' 5 (by decide),g' 14 (by decide),g' 15 (by decide),g' 16 (by decide),g' 12 (by decide),g' 17 (by decide),pl9,Dm]
theorem JP{g:D->R Aj}{f:D->R D}{P:D->Prop} : ∀ L:Ad D,(∀ x∈L,g x = .ok Ab /\ ∃ y,P y/\f x = .ok y) -> ∃ ys:Ad D,ys.length=L.length/\(∀ y∈ys,P y)/\CP g f L = .ok ys
 |[],_=>⟨[],rfl,λ_ h=>(nomatch h),rfl⟩
 |x::L,h=>by
  obtain⟨h1,y,py,h2⟩:=h x AU;obtain⟨ys,l,ps,e⟩:=JP L λz hz=>h z (AG _ hz)
  refine⟨y::ys,by rw[A9,A9,l],λz hz => ?_,?_⟩
  .rcases AS.mp hz with rfl|hz
   .exact py
   .exact ps z hz
  .show (g x).bind _=_;rw[h1,R.bind_ok,AX rfl,h2,R.bind_ok,e];rfl
noncomputable def T9(y:D):Prop := ∃ a b c:Ao,(0<=a/\a<100)/\(0<=b/\b<100)/\(0<=c/\c<100)/\y = .tup [.int a,.int b,.int c]
noncomputable def U_9(y:D):Prop := ∃ s:Ag,s.length=1/\y = .str s
theorem T9.xf(h:T9 y):xfD 1 y=Ab:=by
 obtain⟨a,b,c,ha,hb,hc,rfl⟩:=h;simp[xfD,ha,hb,hc,Cn]
theorem T9.fl(h:T9 y):flD 4 y=Ab:=by
 obtain⟨a,b,c,ha,hb,hc,rfl⟩:=h;rfl
theorem T9.eq(h:T9 y):eqD y y=Ab:=by
 obtain⟨a,b,c,ha,hb,hc,rfl⟩:=h;simp[eqD,eqDs]
theorem eq9 : ∀ ys:Ad D,(∀ y∈ys,T9 y)->eqDs ys ys=Ab
 |[],_=>rfl
 |y::ys,h=>by
  show (eqD y y&&eqDs ys ys)=Ab;rw[(h y AU).eq,eq9 ys λz hz=>h z (AG _ hz)]
  rfl
theorem U_9.ss : ∀ ys:Ad D,(∀ y∈ys,U_9 y) -> ∃ ss:Ad Ag,ss.length=ys.length/\(∀ s∈ss,s.length=1)/\Gb ys=Aa ss
 |[],_=>⟨[],rfl,λ_ h=>(nomatch h),rfl⟩
 |y::ys,h=>by
  obtain⟨s,hs,rfl⟩:=h y AU;obtain⟨ss,l,q,e⟩:=U_9.ss ys λz hz=>h z (AG _ hz)
  refine⟨s::ss,by rw[A9,A9,l],λz hz => ?_,?_⟩
  .rcases AS.mp hz with rfl|hz
   .exact hs
   .exact q z hz
  .show (Gb ys).map (s :: ·)=_;rw[e];rfl
theorem NX(s:Ag) : ∀(ss:Ad Ag)(n:Ae),(∀ x∈ss,x.length=1)->ss.foldl (λa x=>a+x.length+s.length) n=n+ss.length*(1+s.length)
 |[],n,_=>by simp
 |x::ss,n,h=>by
  rw[List.foldl_cons,NX s ss _ λz hz=>h z (AG _ hz),h x AU,A9,Pl]
  omega
theorem W1{ys:Ad D}(h : ∀ y∈ys,U_9 y)(hl:ys.length<=1000) : ∃ t:Ag,HA (A5 "") ys = .ok (.str t):=by
 obtain⟨ss,l,q,e⟩:=U_9.ss ys h;have j:F0 (A5 "") ss=Ab:=by
  unfold F0;have:ss.toArray.foldl (λa x=>a+x.length+(A5 "").length) 0=ss.length:=by
   rw[List.foldl_toArray,NX _ ss 0 q];have:(A5 "").length=0:=by decide
   rw[this];omega
  rw[this];have zl:sizeLine ≥ 2000:=by decide
  show (!decide (ss.length>sizeLine))=Ab;rw[BP (by omega)]
  rfl
 refine⟨Gh (A5 "") ss,?_⟩;unfold HA;rw[e];show (if F0 (A5 "") ss=Ab then R.ok (D.str (Gh (A5 "") ss)) else .bad)=_
 rw[AX j]
theorem Vv{P:Ae->Prop}{j:Ao}(h0:P 0)(h1:P 1)(h2:P 2):P (j%3).toNat:=by
 have:(j%3).toNat=0\/(j%3).toNat=1\/(j%3).toNat=2:=by omega
 rcases this with e|e|e <;> rw[e] <;> assumption
theorem ab9(j:Ao) : ∃ y,U_9 y/\Gg (.str (A5 "ab ")) (.int (j%3)) = .ok y:=by
 have e:FP (A5 "ab ")=[.str ⟨#[97]⟩,.str ⟨#[98]⟩,.str ⟨#[32]⟩]:=by kernel_rfl
 obtain⟨y,u,q⟩ : ∃ y,U_9 y/\(FP (A5 "ab "))[(j%3).toNat]? = Aa y:=by
  rw[e];exact Vv (P:=λk => ∃ y,U_9 y/\[D.str ⟨#[97]⟩,.str ⟨#[98]⟩,.str ⟨#[32]⟩][k]? = Aa y) ⟨_,⟨_,rfl,rfl⟩,rfl⟩ ⟨_,⟨_,rfl,rfl⟩,rfl⟩ ⟨_,⟨_,rfl,rfl⟩,rfl⟩
 refine⟨y,u,?_⟩;show (if Ce (A5 "ab ").length=Ab then C5 (FP (A5 "ab ")) (j%3) else .bad)=_
 rw[AX (by decide+kernel)]
 exact J6 (by omega) q
noncomputable def fd9:Ad D:=cl9.map λc => .lst (so9 c)
theorem c9(U:Gam)(s0 s1 s2 s3 s4 s6 s7 s8 s9:Sl):CP (cG U [s0,s1,s2,s3,s4,Aa (.lst fd9,Ab),s6,s7,s8,s9] 8 Ly) (cF U [s0,s1,s2,s3,s4,Aa (.lst fd9,Ab),s6,s7,s8,s9] 8 Lr) (D3 0 15) = .ok (DC 15 (.bl Ab)):=by kernel_rfl
theorem Vk(hm:Kd U)(hp:M5 U)(ht:M3 U)(he:M4 U)(hs:Kc U)(hpl:UD U)(x:X9 U)(fr:U.fr 54=Ab)(ns:Ad Ao):JT.run U [scr ns] = .ok (.bl Ab):=by
 have hm' : ∀ k:Ao,U.F 3 [scr ns,.int k] = .ok (.int (E8 ns k)):=hm ns;have p4:=RS ns 0;generalize hP:IB ns 0=p at p4;have r0:=D9 (E8 ns 1) (show (31:Ao)≠0 by decide)
 have r1:=Du (E8 ns 1) (show (0:Ao)<31 by decide)
 generalize hR:E8 ns 1%31=row at r0 r1;obtain⟨a,b,c,ha,hb,hc,et⟩:=ht (E8 ns 2) p p4;have n0:0<=3+row%2:=by omega
 have n1:3+row%2<5:=by omega
 obtain⟨ys,yl,yt,ye⟩:=JP (g:=cG U [sh (scr ns),si p,si row,sh (.tup [.int a,.int b,.int c]),Af,Af,Af,Af,Af,Af] 6 Lz) (f:=cF U [sh (scr ns),si p,si row,sh (.tup [.int a,.int b,.int c]),Af,Af,Af,Af,Af,Af] 6 Ju) (P:=T9) (D3 0 (3+row%2).toNat) λz hz=>by
  obtain⟨k,_,rfl⟩:=Mg hz;refine⟨rfl,?_⟩;obtain⟨a',b',c',ha',hb',hc',et'⟩:=ht (E8 ns (3+(k:Ao))) p p4;exact⟨_,⟨a',b',c',ha',hb',hc',rfl⟩,by simp[cF,Ju,hm',et']⟩
 obtain⟨zs,zl,zt,ze⟩:=JP (g:=cG U [sh (scr ns),si p,si row,sh (.tup [.int a,.int b,.int c]),sh (.tup ys),Af,Af,Af,Af,Af] 7 Jt) (f:=cF U [sh (scr ns),si p,si row,sh (.tup [.int a,.int b,.int c]),sh (.tup ys),Af,Af,Af,Af,Af] 7 HZ) (P:=U_9) (D3 0 row.toNat) λz hz=>by
  obtain⟨k,_,rfl⟩:=Mg hz;refine⟨rfl,?_⟩;obtain⟨y,u,q⟩:=ab9 (E8 ns (9+(k:Ao)));exact⟨y,u,by simp[cF,HZ,hm',q]⟩
 rw[H9]at yl zl;obtain⟨t,jt⟩:=W1 zt (by omega)
 have x1:xfD 1 (.tup [.int a,.int b,.int c])=Ab:=T9.xf ⟨a,b,c,ha,hb,hc,rfl⟩;have x2:xfD 2 (.tup ys)=Ab:=by
  show (Cn ys.length 8&&ys.all (xfD 1))=Ab;rw[Al];exact⟨Nat.ble_eq.mpr (by omega),Cm.mpr λy hy=>(yt y hy).xf⟩
 have x0:xfD 0 (.int row)=Ab:=by simp[xfD];omega
 have f1:flD 5 (.tup ys)=Ab:=Cm.mpr λy hy=>(yt y hy).fl
 have f2:=eq9 ys yt;have m1:U.xn 106 [.int row] = .ok ⟨106,[("row",.int row)]⟩:=by rw[x.b];show (if xfD 0 (.int row)=Ab then _ else _)=_;rw[AX x0]
 have m2:U.xn 107 [.tup [.int a,.int b,.int c]] = .ok ⟨107,[("triple",.tup [.int a,.int b,.int c])]⟩:=by rw[x.a];show (if (xfD 1 (.tup [.int a,.int b,.int c])||_)=Ab then _ else _)=_;rw[x1];rfl
 have m3:U.xn 108 [.tup [.int a,.int b,.int c]] = .ok ⟨108,[("triple",.tup [.int a,.int b,.int c])]⟩:=by rw[x.n];show (if (xfD 1 (.tup [.int a,.int b,.int c])||_)=Ab then _ else _)=_;rw[x1];rfl
 have m4:U.xn 118 [.tup ys] = .ok ⟨118,[("points",.tup ys)]⟩:=by rw[x.o];show (if (_||xfD 2 (.tup ys))=Ab then _ else _)=_;rw[x2,EU];rfl
 have s1:=hs 106 [("row",.int row)] (by decide)
 have s2:=hs 107 [("triple",.tup [.int a,.int b,.int c])] (by decide)
 have s3:=hs 108 [("triple",.tup [.int a,.int b,.int c])] (by decide)
 have s4:=hs 118 [("points",.tup ys)] (by decide)
 have lk1:CH (A5 "row") [(("row" : Ag),D.int row)]=Aa (.int row):=rfl;have lk2:CH (A5 "triple") [(("triple" : Ag),D.tup [.int a,.int b,.int c])]=Aa (.tup [.int a,.int b,.int c]):=rfl;have lk3:CH (A5 "points") [(("points" : Ag),D.tup ys)]=Aa (.tup ys):=rfl;have nf:Dm U (.call 54 (.cons (.bi .sjoin (.cons (.str (A5 "")) (.cons (.comp HZ 7 (.rng (.var 2)) Jt) .nil))) .nil))=Ab:=fr;have bj:biD .sjoin [.str (A5 ""),.lst zs] = .ok (.str t):=jt;have k1:=c9 U (sh (scr ns)) (si p) (si row) (sh (.tup [.int a,.int b,.int c])) (sh (.tup ys)) Af Af Af Af;rw[show fd9=[D.lst (so9 1),D.lst (so9 2),D.lst (so9 3),D.lst (so9 4),D.lst (so9 13),D.lst (so9 5),D.lst (so9 14),D.lst (so9 15),D.lst (so9 16),D.lst (so9 12),D.lst (so9 17),D.lst (so9 106),D.lst (so9 107),D.lst (so9 108),D.lst (so9 118)] from rfl]at k1
 have pr:U.F 4 [scr ns,.int 0] = .ok (.int p):=by rw[hp ns 0,hP]
 have ra:=JK n0 (show 3+row%2<1000000 by omega)
 have rb:=JK r0 (show row<1000000 by omega)
 have rc:Dl 0 15 = .ok (D3 0 15):=JK (by decide) (by decide)
 simp[JT,Df.run,C3,hm',pr,hR,et,ra,rb,rc,ye,ze,bj,hpl t,nf,fr,m1,m2,m3,m4,s1,s2,s3,s4,Ce,noX,Dm,pl9,C4,k1,Er,DN,HS,lk1,lk2,lk3,f1,f2,flD,eqD,he a b c];exact λy hy=>(yt y hy).fl
noncomputable def Yk:Ae->Ad Ae
 |1=>[1,0]
 |2=>[2,0]
 |3=>[3,0]
 |4=>[4,0]
 |13=>[13,0]
 |5=>[5,0]
 |14=>[14,0]
 |15=>[15,0]
 |16=>[16,0]
 |12=>[12,0]
 |17=>[17,0]
 |106=>[106,0]
 |107=>[107,0]
 |108=>[108,0]
 |118=>[118,0]
 |_=>[]
noncomputable def Jc:Ae->Ad D->R Ex
 |1,_ => .ok ⟨1,[]⟩
 |2,_ => .ok ⟨2,[]⟩
 |3,_ => .ok ⟨3,[]⟩
 |4,_ => .ok ⟨4,[]⟩
 |13,_ => .ok ⟨13,[]⟩
 |5,_ => .ok ⟨5,[]⟩
 |14,_ => .ok ⟨14,[]⟩
 |15,_ => .ok ⟨15,[]⟩
 |16,_ => .ok ⟨16,[]⟩
 |12,_ => .ok ⟨12,[]⟩
 |17,_ => .ok ⟨17,[]⟩
 |106,ds=>mkI 106 "row" ds
 |107,ds=>mkX 107 "triple" ds
 |108,ds=>mkX 108 "triple" ds
 |118,ds=>mkX 118 "points" ds
 |_,_ => .bad
noncomputable def Q09:Prg:=⟨Ab,fun
 |2=>Jo
 |3=>Jy
 |4=>Jw
 |40=>Hk
 |19=>Jp
 |53=>Jv
 |54=>Jx
 |55=>JT
 | _=>⟨0,Ac,.nil⟩,λ_ => .non,Yk,Jc⟩
theorem xx9(n:Ae):X9 (gam Q09 (n+1)):=⟨λc hc ds=>by
 have : ∀ c∈pl9,∀ ds,Jc c ds = .ok ⟨c,[]⟩:=by
  intro c hc ds;simp only[pl9,AS,EW,HY]at hc;rcases hc with rfl|rfl|rfl|rfl|rfl|rfl|rfl|rfl|rfl|rfl|rfl <;> rfl
 exact this c hc ds,λ_=>rfl,λ_=>rfl,λ_=>rfl,λ_=>rfl⟩
theorem WY(ns:Ad Ao):(gam Q09 5).F 55 [scr ns] = .ok (.bl Ab):=by
 have ce : ∀ n,NH (gam Q09 (n+1)):=λn ns k=>Vl _ ns k
 have mi : ∀ n,Kd (gam Q09 (n+2)):=λn ns k=>Ue (ce n) ns k
 have pr : ∀ n,M5 (gam Q09 (n+3)):=λn ns k=>Uc (mi n) ns k
 have so : ∀ n,Kc (gam Q09 (n+1)):=λn c fs hc=>Ua c fs (by
  simp only[cl9,AS,EW,HY]at hc;rcases hc with rfl|rfl|rfl|rfl|rfl|rfl|rfl|rfl|rfl|rfl|rfl|rfl|rfl|rfl|rfl <;> cases n <;> rfl)
 have tr : ∀ n,M3 (gam Q09 (n+1)):=λn m p hp=>T8 _ m hp
 have sa : ∀ n,M4 (gam Q09 (n+1)):=λn a b c=>Ub _ a b c
 exact Vk (mi 2) (pr 1) (tr 3) (sa 3) (so 3) (λt=>Ud (so 2) (xx9 2) t) (xx9 3) rfl ns
end OvC
end
namespace OvC
open PySem PySem.Spec PyProof.Rows Ov L2
variable{l:DQ}
noncomputable def NY:Ad (Ag × Ae × Ae):=([("_law_cell_at",2,2),("_law_mixed",3,2),("_law_prime",4,2),("_law_triple",40,2),("_law_same_tuple",19,2),("_law_sorts",53,1),("_law_plain",54,1),("law",55,1)]:Ad (Ag × Ae × Ae))
noncomputable def OE:Ad Ag:=["ValueError", "all", "bool", "int", "isinstance", "len", "range", "tuple"]
noncomputable def Kx:Ad (Ag × Ae):=[("NoPrime",1),("NoOver",2),("NoTriple",3),("NoTable",4),("NoCount",13),("NoCurve",5),("NotWhole",14),("TooMany",15),("NoPicture",16),("NoRow",12),("NothingDone",17),("OnLine",118),("BadRow",106),("Alike",107),("NotOn",108)]
noncomputable def KS:Ad (Ag × Ae):=[("NoPrime",1),("NoOver",2),("NoTriple",3),("NoTable",4),("NoCount",13),("NoCurve",5),("NotWhole",14),("TooMany",15),("NoPicture",16),("NoRow",12),("NothingDone",17),("BadRow",106),("Alike",107),("NotOn",108),("OnLine",118),("OvalError",0)]
noncomputable def NS:Ad (Ag × Ae):=[]
noncomputable abbrev C09(h:Aj)(n:Ae)(N:Ad Ag)(i d:Ae):Aj:=FQ 80 h NY OE Kx KS NS (N.take n) N (tp09 i) (Q09.defs d)
theorem VU:C09 Ac 2 ["_law_script", "_law_k"] 18 2=Ab:=by decide+kernel
theorem VT:C09 Ac 2 ["_law_script", "_law_k"] 19 3=Ab:=by decide+kernel
theorem VS:C09 Ac 2 ["_law_script", "_law_k"] 20 4=Ab:=by decide+kernel
theorem VR:C09 Ac 2 ["_law_n", "_law_p"] 21 40=Ab:=by decide+kernel
theorem VQ:C09 Ac 2 ["_law_found", "_law_due", "#2"] 22 19=Ab:=by decide+kernel
theorem VP:C09 Ac 1 ["_law_e", "_law_some"] 23 53=Ab:=by decide+kernel
theorem VO:C09 Ac 1 ["_law_text", "_law_found"] 24 54=Ab:=by decide+kernel
theorem Nz:C09 Ac 1 ["_law_script", "_law_p", "_law_row", "_law_triple_here", "_law_points", "_law_found", "#6", "#7", "#8", "#9"] 25 55=Ab:=by decide+kernel
theorem Sz:Gf "OvalError" "points" "points" (F8 (tp09 16))=Ab:=by decide+kernel
theorem Sy:Gf "OvalError" "row" "row" (F8 (tp09 13))=Ab:=by decide+kernel
theorem Sw:Gf "OvalError" "triple" "triple" (F8 (tp09 14))=Ab:=by decide+kernel
theorem Sv:Gf "OvalError" "triple" "triple" (F8 (tp09 15))=Ab:=by decide+kernel
set_option maxHeartbeats 0 in
theorem all09{w:Ar}{K:Fg}{h:Ay}{mg:Ag->An Ah}{fa f0 f1 f2 f3 f4 f5 f6 f7 x0 x1 x2 x3 x4 x5 x6 x7 x8 x9 x10 x11 x12 x13 x14 x15 ix11 ix12 ix13 ix14:Ai}(X:K.In h)(G:h.Ns AV mg)(hfa:mg "law" = Aa (.ref fa))(a0:FnI K f0 "_law_cell_at" (tp09 18))(a1:FnI K f1 "_law_mixed" (tp09 19))(a2:FnI K f2 "_law_prime" (tp09 20))(a3:FnI K f3 "_law_triple" (tp09 21))(a4:FnI K f4 "_law_same_tuple" (tp09 22))(a5:FnI K f5 "_law_sorts" (tp09 23))(a6:FnI K f6 "_law_plain" (tp09 24))(a7:FnI K f7 "law" (tp09 25))(cx0:XA K "NoPrime" x0 Af)(cx1:XA K "NoOver" x1 Af)(cx2:XA K "NoTriple" x2 Af)(cx3:XA K "NoTable" x3 Af)(cx4:XA K "NoCount" x4 Af)(cx5:XA K "NoCurve" x5 Af)(cx6:XA K "NotWhole" x6 Af)(cx7:XA K "TooMany" x7 Af)(cx8:XA K "NoPicture" x8 Af)(cx9:XA K "NoRow" x9 Af)(cx10:XA K "NothingDone" x10 Af)(cx11:XB K "OnLine" x11 ix11 "OnLine.__init__" (F8 (tp09 16)))(cx12:XB K "BadRow" x12 ix12 "BadRow.__init__" (F8 (tp09 13)))(cx13:XB K "Alike" x13 ix13 "Alike.__init__" (F8 (tp09 14)))(cx14:XB K "NotOn" x14 ix14 "NotOn.__init__" (F8 (tp09 15)))(cx15:XE K "OvalError" x15)(ox15:XO K x15)(sx0:SuC K x0 [(x0,Ab),(x1,Ac),(x2,Ac),(x3,Ac),(x4,Ac),(x5,Ac),(x6,Ac),(x7,Ac),(x8,Ac),(x9,Ac),(x10,Ac),(x11,Ac),(x12,Ac),(x13,Ac),(x14,Ac)])(sx1:SuC K x1 [(x0,Ac),(x1,Ab),(x2,Ac),(x3,Ac),(x4,Ac),(x5,Ac),(x6,Ac),(x7,Ac),(x8,Ac),(x9,Ac),(x10,Ac),(x11,Ac),(x12,Ac),(x13,Ac),(x14,Ac)])(sx2:SuC K x2 [(x0,Ac),(x1,Ac),(x2,Ab),(x3,Ac),(x4,Ac),(x5,Ac),(x6,Ac),(x7,Ac),(x8,Ac),(x9,Ac),(x10,Ac),(x11,Ac),(x12,Ac),(x13,Ac),(x14,Ac)])(sx3:SuC K x3 [(x0,Ac),(x1,Ac),(x2,Ac),(x3,Ab),(x4,Ac),(x5,Ac),(x6,Ac),(x7,Ac),(x8,Ac),(x9,Ac),(x10,Ac),(x11,Ac),(x12,Ac),(x13,Ac),(x14,Ac)])(sx4:SuC K x4 [(x0,Ac),(x1,Ac),(x2,Ac),(x3,Ac),(x4,Ab),(x5,Ac),(x6,Ac),(x7,Ac),(x8,Ac),(x9,Ac),(x10,Ac),(x11,Ac),(x12,Ac),(x13,Ac),(x14,Ac)])(sx5:SuC K x5 [(x0,Ac),(x1,Ac),(x2,Ac),(x3,Ac),(x4,Ac),(x5,Ab),(x6,Ac),(x7,Ac),(x8,Ac),(x9,Ac),(x10,Ac),(x11,Ac),(x12,Ac),(x13,Ac),(x14,Ac)])(sx6:SuC K x6 [(x0,Ac),(x1,Ac),(x2,Ac),(x3,Ac),(x4,Ac),(x5,Ac),(x6,Ab),(x7,Ac),(x8,Ac),(x9,Ac),(x10,Ac),(x11,Ac),(x12,Ac),(x13,Ac),(x14,Ac)])(sx7:SuC K x7 [(x0,Ac),(x1,Ac),(x2,Ac),(x3,Ac),(x4,Ac),(x5,Ac),(x6,Ac),(x7,Ab),(x8,Ac),(x9,Ac),(x10,Ac),(x11,Ac),(x12,Ac),(x13,Ac),(x14,Ac)])(sx8:SuC K x8 [(x0,Ac),(x1,Ac),(x2,Ac),(x3,Ac),(x4,Ac),(x5,Ac),(x6,Ac),(x7,Ac),(x8,Ab),(x9,Ac),(x10,Ac),(x11,Ac),(x12,Ac),(x13,Ac),(x14,Ac)])(sx9:SuC K x9 [(x0,Ac),(x1,Ac),(x2,Ac),(x3,Ac),(x4,Ac),(x5,Ac),(x6,Ac),(x7,Ac),(x8,Ac),(x9,Ab),(x10,Ac),(x11,Ac),(x12,Ac),(x13,Ac),(x14,Ac)])(sx10:SuC K x10 [(x0,Ac),(x1,Ac),(x2,Ac),(x3,Ac),(x4,Ac),(x5,Ac),(x6,Ac),(x7,Ac),(x8,Ac),(x9,Ac),(x10,Ab),(x11,Ac),(x12,Ac),(x13,Ac),(x14,Ac)])(sx12:SuC K x12 [(x0,Ac),(x1,Ac),(x2,Ac),(x3,Ac),(x4,Ac),(x5,Ac),(x6,Ac),(x7,Ac),(x8,Ac),(x9,Ac),(x10,Ac),(x11,Ac),(x12,Ab),(x13,Ac),(x14,Ac)])(sx13:SuC K x13 [(x0,Ac),(x1,Ac),(x2,Ac),(x3,Ac),(x4,Ac),(x5,Ac),(x6,Ac),(x7,Ac),(x8,Ac),(x9,Ac),(x10,Ac),(x11,Ac),(x12,Ac),(x13,Ab),(x14,Ac)])(sx14:SuC K x14 [(x0,Ac),(x1,Ac),(x2,Ac),(x3,Ac),(x4,Ac),(x5,Ac),(x6,Ac),(x7,Ac),(x8,Ac),(x9,Ac),(x10,Ac),(x11,Ac),(x12,Ac),(x13,Ac),(x14,Ab)])(sx11:SuC K x11 [(x0,Ac),(x1,Ac),(x2,Ac),(x3,Ac),(x4,Ac),(x5,Ac),(x6,Ac),(x7,Ac),(x8,Ac),(x9,Ac),(x10,Ac),(x11,Ab),(x12,Ac),(x13,Ac),(x14,Ac)])(sx15:SuC K x15 [(x0,Ab),(x1,Ab),(x2,Ab),(x3,Ab),(x4,Ab),(x5,Ab),(x6,Ab),(x7,Ab),(x8,Ab),(x9,Ab),(x10,Ab),(x11,Ab),(x12,Ab),(x13,Ab),(x14,Ab)])(z0:Bj K AV "ValueError" = Aa Af)(z1:Bj K AV "all" = Aa Af)(z2:Bj K AV "bool" = Aa Af)(z3:Bj K AV "int" = Aa Af)(z4:Bj K AV "isinstance" = Aa Af)(z5:Bj K AV "len" = Aa Af)(z6:Bj K AV "range" = Aa Af)(z7:Bj K AV "tuple" = Aa Af):
    ∃ fd:Bn,(∀(s:Am)(v:Ah),En s fd ⟨[v],[]⟩ [("_law_script",v)]) /\ ∀ base:Ay,K.In base->base.Ns AV mg->FnOk l.prog w K mg base (CXR l.prog w) 5 fa fd ["_law_script"] (IT K):=by
  obtain⟨_,F,e⟩:=a7;obtain⟨_,_,_,_,_,_,_,_,_,rfl,_,_⟩:=F.ex;cases hfa.symm.trans (AB X G e);have XT09:XT Q09.up Q09.xn (clL [(1,x0),(2,x1),(3,x2),(4,x3),(13,x4),(5,x5),(14,x6),(15,x7),(16,x8),(12,x9),(17,x10),(118,x11),(106,x12),(107,x13),(108,x14)]) Kx KS K mg:=by
    refine Wt (all_cons (cx0.row λ_=>by first|exact .inr rfl|exact .inl rfl) (all_cons (cx1.row λ_=>by first|exact .inr rfl|exact .inl rfl) (all_cons (cx2.row λ_=>by first|exact .inr rfl|exact .inl rfl) (all_cons (cx3.row λ_=>by first|exact .inr rfl|exact .inl rfl) (all_cons (cx4.row λ_=>by first|exact .inr rfl|exact .inl rfl) (all_cons (cx5.row λ_=>by first|exact .inr rfl|exact .inl rfl) (all_cons (cx6.row λ_=>by first|exact .inr rfl|exact .inl rfl) (all_cons (cx7.row λ_=>by first|exact .inr rfl|exact .inl rfl) (all_cons (cx8.row λ_=>by first|exact .inr rfl|exact .inl rfl) (all_cons (cx9.row λ_=>by first|exact .inr rfl|exact .inl rfl) (all_cons (cx10.row λ_=>by first|exact .inr rfl|exact .inl rfl) (all_cons (XB.row X G cx11 ox15 cx15.n (.inr rfl) Sz (λ_ _ _ _ _ _ _ _=>rfl) λ_=>rfl) (all_cons (XB.rowI X G cx12 ox15 cx15.n Sy (λ_ _ _ _ _ _ _ _=>rfl) λ_=>rfl) (all_cons (XB.row X G cx13 ox15 cx15.n (.inl rfl) Sw (λ_ _ _ _ _ _ _ _=>rfl) λ_=>rfl) (all_cons (XB.row X G cx14 ox15 cx15.n (.inl rfl) Sv (λ_ _ _ _ _ _ _ _=>rfl) λ_=>rfl) (all_nil)))))))))))))))) (all_cons ⟨_,rfl,AB X G cx0.n⟩ (all_cons ⟨_,rfl,AB X G cx1.n⟩ (all_cons ⟨_,rfl,AB X G cx2.n⟩ (all_cons ⟨_,rfl,AB X G cx3.n⟩ (all_cons ⟨_,rfl,AB X G cx4.n⟩ (all_cons ⟨_,rfl,AB X G cx5.n⟩ (all_cons ⟨_,rfl,AB X G cx6.n⟩ (all_cons ⟨_,rfl,AB X G cx7.n⟩ (all_cons ⟨_,rfl,AB X G cx8.n⟩ (all_cons ⟨_,rfl,AB X G cx9.n⟩ (all_cons ⟨_,rfl,AB X G cx10.n⟩ (all_cons ⟨_,rfl,AB X G cx11.a.n⟩ (all_cons ⟨_,rfl,AB X G cx12.a.n⟩ (all_cons ⟨_,rfl,AB X G cx13.a.n⟩ (all_cons ⟨_,rfl,AB X G cx14.a.n⟩ (all_nil)))))))))))))))) (all_cons ⟨_,AB X G cx0.n,cx0.kc,sx0⟩ (all_cons ⟨_,AB X G cx1.n,cx1.kc,sx1⟩ (all_cons ⟨_,AB X G cx2.n,cx2.kc,sx2⟩ (all_cons ⟨_,AB X G cx3.n,cx3.kc,sx3⟩ (all_cons ⟨_,AB X G cx4.n,cx4.kc,sx4⟩ (all_cons ⟨_,AB X G cx5.n,cx5.kc,sx5⟩ (all_cons ⟨_,AB X G cx6.n,cx6.kc,sx6⟩ (all_cons ⟨_,AB X G cx7.n,cx7.kc,sx7⟩ (all_cons ⟨_,AB X G cx8.n,cx8.kc,sx8⟩ (all_cons ⟨_,AB X G cx9.n,cx9.kc,sx9⟩ (all_cons ⟨_,AB X G cx10.n,cx10.kc,sx10⟩ (all_cons ⟨_,AB X G cx12.a.n,cx12.a.kc,sx12⟩ (all_cons ⟨_,AB X G cx13.a.n,cx13.a.kc,sx13⟩ (all_cons ⟨_,AB X G cx14.a.n,cx14.a.kc,sx14⟩ (all_cons ⟨_,AB X G cx11.a.n,cx11.a.kc,sx11⟩ (all_cons ⟨_,AB X G cx15.n,cx15.kc,sx15⟩ (all_nil))))))))))))))))) ?_
    intro c q ds;show Jc c ds = .bad;unfold Jc;split <;> first|rfl|exact absurd rfl (q ("NoPrime",1) (by decide))|exact absurd rfl (q ("NoOver",2) (by decide))|exact absurd rfl (q ("NoTriple",3) (by decide))|exact absurd rfl (q ("NoTable",4) (by decide))|exact absurd rfl (q ("NoCount",13) (by decide))|exact absurd rfl (q ("NoCurve",5) (by decide))|exact absurd rfl (q ("NotWhole",14) (by decide))|exact absurd rfl (q ("TooMany",15) (by decide))|exact absurd rfl (q ("NoPicture",16) (by decide))|exact absurd rfl (q ("NoRow",12) (by decide))|exact absurd rfl (q ("NothingDone",17) (by decide))|exact absurd rfl (q ("OnLine",118) (by decide))|exact absurd rfl (q ("BadRow",106) (by decide))|exact absurd rfl (q ("Alike",107) (by decide))|exact absurd rfl (q ("NotOn",108) (by decide))
  have T:Tab K mg (clL [(1,x0),(2,x1),(3,x2),(4,x3),(13,x4),(5,x5),(14,x6),(15,x7),(16,x8),(12,x9),(17,x10),(118,x11),(106,x12),(107,x13),(108,x14)]) NY OE Kx KS NS Q09 80:=⟨XT09,all_cons (BU X G z0) (all_cons (BU X G z1) (all_cons (BU X G z2) (all_cons (BU X G z3) (all_cons (BU X G z4) (all_cons (BU X G z5) (all_cons (BU X G z6) (all_cons (BU X G z7) (all_nil)))))))),all_nil,all_cons (HM 2 2 X G a0 rfl VU λ_ _ _ _ _ _ _ _=>rfl) (all_cons (HM 2 3 X G a1 rfl VT λ_ _ _ _ _ _ _ _=>rfl) (all_cons (HM 2 4 X G a2 rfl VS λ_ _ _ _ _ _ _ _=>rfl) (all_cons (HM 2 40 X G a3 rfl VR λ_ _ _ _ _ _ _ _=>rfl) (all_cons (HM 2 19 X G a4 rfl VQ λ_ _ _ _ _ _ _ _=>rfl) (all_cons (Le 1 53 X G a5 rfl VP λ_ _ _ _ _ _ _=>rfl) (all_cons (Le 1 54 X G a6 rfl VO λ_ _ _ _ _ _ _=>rfl) (all_cons (Le 1 55 X G ⟨_,F,e⟩ rfl Nz λ_ _ _ _ _ _ _=>rfl) (all_nil))))))))⟩
  exact⟨_,λs v => .of_eq rfl,λbase _ _=>law_fn (Nx T (Ko T 4) (NT F) rfl Nz) WY⟩
theorem walk09{q:AE}{loose:Ad Ag}{XP:(Ag->An Ah)->Ay->Prop}{YP:Ar->Ay->Prop}{d:DefRec}{K:Hh->Fg}(hn:l.most=Aa 63)(hdf:d.params.defaults=[])(hY : ∀(w:Ar)(h:Ay),YP w h->(K w.params).In h)(F : ∀(w:Ar)(mg:Ag->An Ah)(fa:Ai)(h:Ay),(K w.params).In h->h.Ns AV mg->mg d.name=Aa (.ref fa) ->
   ∃ fd:Bn,(∀(s:Am)(u:Ah),En s fd ⟨[u],[]⟩ [("_law_script",u)]) /\ ∀ base:Ay,(K w.params).In base->base.Ns AV mg->FnOk l.prog w (K w.params) mg base (CXR l.prog w) 5 fa fd ["_law_script"] (IT (K w.params))):Qy q loose XP YP l.row.toRowW d [] (λf vs=>GK f vs):=
 L2.walk_of (n:=63) (k:=5) (x := "_law_script") (CX:=λw=>CXR l.prog w) (sp:=λw=>IT (K w.params)) hn (by decide) hdf ⟨rfl,by decide,by decide,rfl⟩ hY F (λ_ H a ns hl _ hS=>⟨a,ns,rfl,hl,hS,λ_ _ z=>z⟩) λ_ _ _ _ _ z=>V4 z
end OvC
open PySem PySem.W PyProof.Rows
set_option hygiene false
set_option maxRecDepth 100000 in
set_option maxHeartbeats 0 in
theorem PySem.Challenge.cw_ovalfield_k09_refusals_made_holds : PySem.Challenge.rw_ovalfield_k09_refusals_made.Holds := by
 refine OvC.hold09.go OvC.reck09_1 OvC.reck09_2 OvC.reck09_3 OvC.reck09_4 OvC.reck09_5 OvC.reck09_6 OvC.reck09_7 OvC.reck09_8 OvC.reck09_9 OvC.reck09_10 OvC.reck09_11 ?_;intro said;refine OvC.walk09 (l:=PySem.Challenge.rw_ovalfield_k09_refusals_made) rfl rfl (λw h Y_=>QC Y_) ?F
 case F=>
  intro w mg fa h KX G hmg
  refine' OvC.all09 KX G hmg ?a0 ?a1 ?a2 ?a3 ?a4 ?a5 ?a6 ?a7 ?cx0 ?cx1 ?cx2 ?cx3 ?cx4 ?cx5 ?cx6 ?cx7 ?cx8 ?cx9 ?cx10 ?cx11 ?cx12 ?cx13 ?cx14 ?cx15 ?ox15 ?sx0 ?sx1 ?sx2 ?sx3 ?sx4 ?sx5 ?sx6 ?sx7 ?sx8 ?sx9 ?sx10 ?sx12 ?sx13 ?sx14 ?sx11 ?sx15 ?z0 ?z1 ?z2 ?z3 ?z4 ?z5 ?z6 ?z7
  case a0|a1|a2|a3|a4|a5|a6|a7=>(refine' Ov.fni ?a ?l ?c ?k;(case a=>k_is);(case l=>k_is);(case c=>k_is);(case k=>k_is))
  case cx0|cx1|cx2|cx3|cx4|cx5|cx6|cx7|cx8|cx9|cx10=>(refine' Ov.xa_mk ?n (Ov.xcls_l ?e) ?d ?f ?g ?r ?a ?b ?c ?o ?h ?v;(case n=>k_is);(case e=>k_exc);(case d=>kernel_rfl);(case f|g|r|a|b|c|o|h|v=>k_is))
  case cx11|cx12|cx13|cx14=>(refine' Ov.XB.mk ?i (Ov.xa_mk ?n ?e ?d ?f ?g ?r ?a ?b ?c ?o ?h ?v) (Ov.ini_mk ?l ?m ?k) ?t ?s;(case n=>k_is);(case i=>k_is);(case l=>k_is);(case e|d=>kernel_rfl);(case m|k|t|s|f|g|r|a|b|c|o|h|v=>k_is))
  case cx15=>(refine' Ov.XE.mk ?a ?b ?c;(case a=>k_is);(case b|c=>k_is))
  case ox15=>(refine' Ov.XO.mk ?a ?b ?c;(case a|b|c=>k_is))
  case sx0|sx1|sx2|sx3|sx4|sx5|sx6|sx7|sx8|sx9|sx10|sx12|sx13|sx14|sx11|sx15=>(refine' Ov.all_cons ?q0 (Ov.all_cons ?q1 (Ov.all_cons ?q2 (Ov.all_cons ?q3 (Ov.all_cons ?q4 (Ov.all_cons ?q5 (Ov.all_cons ?q6 (Ov.all_cons ?q7 (Ov.all_cons ?q8 (Ov.all_cons ?q9 (Ov.all_cons ?q10 (Ov.all_cons ?q11 (Ov.all_cons ?q12 (Ov.all_cons ?q13 (Ov.all_cons ?q14 (Ov.all_nil)))))))))))))));(case q0|q1|q2|q3|q4|q5|q6|q7|q8|q9|q10|q11|q12|q13|q14=>dsimp only;k_is))
  case z0|z1|z2|z3|z4|z5|z6|z7=>k_is